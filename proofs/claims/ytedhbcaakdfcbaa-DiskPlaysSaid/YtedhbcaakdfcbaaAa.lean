/- An act, done. -/
import Derived.Test.YtedhbcaakdfcbaaZ
namespace Go.Proofs.Ytedhbcaakdfcbaa.disk
open Go.ChangeShapes Go.WideShapes Go.ChangeAt Go.RowKit Go.Maps Go.WideMaps Go.Sort Go.Shelf
set_option linter.unusedVariables false
set_option linter.unusedSimpArgs false

theorem aft_pre {w w1 w' : World} {base p : Nat} {mb : Option Nat} {D : DataW Value} {c : Cfg} {fm : FM} {N N' M : Nat} (h : Dsk w base p mb D c fm N) (hb : Below w.heap.size w w1) (ha : Aft w1 base p mb D N' M w') : Aft w base p mb D N' M w' := by
  obtain ⟨mb', D', c', fm', q1, q2, q3, q4⟩ := ha
  exact ⟨mb', D', c', fm', q1, q2, (touch_below hb).trans (q3.mono fun i _ h => .inl h), fun j hj => (q4 j hj).imp id (fun h => Nat.le_trans hb.size h)⟩
theorem ans_pre {w w1 w' : World} {base p : Nat} {mb : Option Nat} {D : DataW Value} {c : Cfg} {fm : FM} {N N' M M' : Nat} {e : Ending} (h : Dsk w base p mb D c fm N) (hb : Below w.heap.size w w1) (hM : M ≤ M') (ha : Ans w1 base p mb D N' M e w') : Ans w base p mb D N' M' e w' := by
  obtain ⟨r, mb', D', c', fm', q1, q2, q3, q4⟩ := ha
  exact ⟨r, aft_pre h hb ⟨mb', D', c', fm', q1, fun s f e => Nat.le_trans (q2 s f e) hM, q3, q4⟩⟩
theorem cut_bound {fm : FM} {k : List UInt8} {left M : Nat} (h : ∀ s f, fm s = some f → f.l.length ≤ M) : ∀ s f, cutFm fm k left s = some f → f.l.length ≤ M := by
  unfold cutFm
  split
  · exact erase_bound h
  · refine upd_bound h ?_
    have := fileAt_bound (k := k) h
    simp
    omega
theorem rstep_bound {keep : List Int} {st : FM × Nat × Int} {k : List UInt8} {M : Nat} (h : ∀ s f, st.1 s = some f → f.l.length ≤ M) : ∀ s f, (rstep keep st k).1 s = some f → f.l.length ≤ M := by
  unfold rstep
  split
  · exact h
  · exact cut_bound h
theorem rfold_bound {keep : List Int} {M : Nat} : ∀ (ns : List (List UInt8)) (st : FM × Nat × Int), (∀ s f, st.1 s = some f → f.l.length ≤ M) → ∀ s f, (ns.foldl (rstep keep) st).1 s = some f → f.l.length ≤ M
  | [], st, h => h
  | k :: ns, st, h => by
    rw [List.foldl_cons]
    exact rfold_bound ns _ (rstep_bound h)
/-- An act, as a value. -/
def ActV.val (x : ActV) : Value := .agg #[.int .u8 (x.kind : Nat), .string x.a, .string x.b, .int .i64 x.at_, .slice x.dA x.dn x.dc, .slice x.kA x.kn x.kc]
/-- What is asked of an act. -/
structure ActOk (w : World) (B : Nat) (x : ActV) : Prop where
  bytes : Bytes w x.dA x.dn x.data
  blow : ∀ ad, x.dA = some ad → 0 < x.dn → ad.block < B
  ints : Ints w x.kA x.kn x.keep
  ilow : ∀ ad, x.kA = some ad → 0 < x.kn → ad.block < B
  dnil : x.dA = none → x.dc = 0
  dle : x.dn ≤ x.dc
  sa : x.a.size ≤ 140737488355328
  sb : x.b.size ≤ 140737488355328
  sk : x.kn ≤ 1000000
theorem ActOk.below {w w' : World} {B : Nat} {x : ActV} (h : ActOk w B x) (hB : B ≤ w.heap.size) (hb : Below w.heap.size w w') : ActOk w' B x :=
  ⟨h.bytes.below (fun ad e h0 => h.bytes.lt ad e h0) hb, h.blow, h.ints.touch (F := fun _ => False) (fun _ _ _ h => h) (touch_below hb), h.ilow, h.dnil, h.dle, h.sa, h.sb, h.sk⟩
set_option maxRecDepth 50000 in
set_option maxHeartbeats 4000000 in
theorem do_any {w : World} {base p : Nat} {mb : Option Nat} {D : DataW Value} {c : Cfg} {fm : FM} {N M : Nat} (x : ActV) (h : Dsk w base p mb D c fm N) (hM : ∀ s f, fm s = some f → f.l.length ≤ M) (hx : ActOk w base x) (hN : N < 1000000) (hB : base ≤ w.heap.size) (hbound : M + x.dn ≤ 1000000) :
    Calls Try.prog 9 #[.pointer (some ⟨p, 0, none⟩), x.val] w (Ans w base p mb D (N + 1) (M + x.dn)) := by
  have h1 : ∀ o, Dsk (w.alloc o) base p mb D c fm N := fun o => h.below ((Below.refl _ _).alloc (Nat.le_refl _) _)
  have hx1 : ∀ o, ActOk (w.alloc o) base x := fun o => hx.below hB ((Below.refl _ _).alloc (Nat.le_refl _) _)
  have hB1 : ∀ o, base ≤ (w.alloc o).heap.size := fun o => by simp; omega
  have hpre : ∀ o M' e w', M' ≤ M + x.dn → Ans (w.alloc o) base p mb D (N + 1) M' e w' → Ans w base p mb D (N + 1) (M + x.dn) e w' := fun o M' e w' hm ha => ans_pre h ((Below.refl _ _).alloc (Nat.le_refl _) _) hm ha
  have hsa := hx.sa
  have hsb := hx.sb
  have H21 := Lib.hid (fun o => (append_any (w.alloc o) base p mb D c fm N M x.a (by omega) x.dA x.dn x.dc x.data (h1 o) hM (hx1 o).bytes hx.blow hx.dnil hx.dle hN (hB1 o) hbound).mono (fun e w' => hpre o _ e w' (Nat.le_refl _)))
  have H20 := Lib.hid (fun o => (sync_any (w.alloc o) base p mb D c fm N M x.a (by omega) (h1 o) hM hN (hB1 o)).mono (fun e w' => hpre o _ e w' (Nat.le_add_right _ _)))
  have H22 := Lib.hid (fun o => (rename_any (w.alloc o) base p mb D c fm N M x.a x.b (by omega) (by omega) (h1 o) hM hN (hB1 o)).mono (fun e w' => hpre o _ e w' (Nat.le_add_right _ _)))
  have H23 := Lib.hid (fun o => (remove_any (w.alloc o) base p mb D c fm N M x.a (by omega) (h1 o) hM).mono (fun e w' => hpre o _ e w' (Nat.le_add_right _ _)))
  have H24 := Lib.hid (fun o => (fuse_any (w.alloc o) base p mb D c fm N M x.at_ (h1 o) hM).mono (fun e w' => hpre o _ e w' (Nat.le_add_right _ _)))
  have H25 := Lib.hid (fun o => (harm_any (w.alloc o) base p mb D c fm N M x.a (by omega) x.dA x.dn x.dc x.data (h1 o) hM (hx1 o).bytes hN (hB1 o) hbound).mono (fun e w' => hpre o _ e w' (Nat.le_refl _)))
  have H26 := Lib.hid (fun o => (lose_any (w.alloc o) base p mb D c fm N M x.a (by omega) (h1 o) hM).mono (fun e w' => hpre o _ e w' (Nat.le_add_right _ _)))
  have H18 := Lib.hid (show ∀ o, Calls Try.prog 18 #[.pointer (some ⟨p, 0, none⟩), .slice x.kA x.kn x.kc] (w.alloc o) fun e w' => e = .returned (.tuple #[]) ∧ Aft w base p mb D (N + 1) (M + x.dn) w' from fun o => (restart_any (h1 o) hM (by omega) hN (hB1 o) x.kA x.kn x.kc x.keep (hx1 o).ints hx.ilow hx.sk).mono (fun e w' hh => by
    obtain ⟨rfl, ns, mb', D', hl, hd, ht, hf⟩ := hh
    refine ⟨rfl, aft_pre h ((Below.refl _ _).alloc (Nat.le_refl _) o) ⟨mb', D', _, _, hd.up (Nat.le_succ _), ?_, ht, hf⟩⟩
    intro s f e
    exact Nat.le_trans (rfold_bound ns (fm, 0, c.used) hM s f e) (Nat.le_add_right _ _)))
  unfold ActV.val
  obtain ⟨k, hk⟩ : ∃ k, k = x.kind := ⟨_, rfl⟩
  rw [← hk]
  clear h1 hx1 hB1 hpre h hx hM hk
  go_enter Try.func9, Try.ntmps9
  by_cases k0 : k = 0
  · subst k0
    clear hsa
    go_wp2_with (go_at_call 21; refine (H21.out _).mono ?_; rintro e w2 ⟨⟨r, rfl⟩, ha⟩; have HA := Lib.hid ha; clear ha)
    go_ret
    exact ⟨⟨r, rfl⟩, HA.out⟩
  by_cases k1 : k = 1
  · subst k1
    clear hsa
    go_wp2_with (go_at_call 20; refine (H20.out _).mono ?_; rintro e w2 ⟨⟨r, rfl⟩, ha⟩; have HA := Lib.hid ha; clear ha)
    go_ret
    exact ⟨⟨r, rfl⟩, HA.out⟩
  by_cases k2 : k = 2
  · subst k2
    clear hsa
    go_wp2_with (go_at_call 22; refine (H22.out _).mono ?_; rintro e w2 ⟨⟨r, rfl⟩, ha⟩; have HA := Lib.hid ha; clear ha)
    go_ret
    exact ⟨⟨r, rfl⟩, HA.out⟩
  by_cases k3 : k = 3
  · subst k3
    clear hsa
    go_wp2_with (go_at_call 23; refine (H23.out _).mono ?_; rintro e w2 ⟨⟨r, rfl⟩, ha⟩; have HA := Lib.hid ha; clear ha)
    go_ret
    exact ⟨⟨r, rfl⟩, HA.out⟩
  by_cases k4 : k = 4
  · subst k4
    clear hsa
    go_wp2_with (go_at_call 24; refine (H24.out _).mono ?_; rintro e w2 ⟨⟨r, rfl⟩, ha⟩; have HA := Lib.hid ha; clear ha)
    go_ret
    exact ⟨⟨r, rfl⟩, HA.out⟩
  by_cases k5 : k = 5
  · subst k5
    clear hsa
    go_wp2_with (go_at_call 25; refine (H25.out _).mono ?_; rintro e w2 ⟨⟨r, rfl⟩, ha⟩; have HA := Lib.hid ha; clear ha)
    go_ret
    exact ⟨⟨r, rfl⟩, HA.out⟩
  by_cases k6 : k = 6
  · subst k6
    clear hsa
    go_wp2_with (go_at_call 26; refine (H26.out _).mono ?_; rintro e w2 ⟨⟨r, rfl⟩, ha⟩; have HA := Lib.hid ha; clear ha)
    go_ret
    exact ⟨⟨r, rfl⟩, HA.out⟩
  have e0 : ¬ (k : Int) = 0 := by omega
  have e1 : ¬ (k : Int) = 1 := by omega
  have e2 : ¬ (k : Int) = 2 := by omega
  have e3 : ¬ (k : Int) = 3 := by omega
  have e4 : ¬ (k : Int) = 4 := by omega
  have e5 : ¬ (k : Int) = 5 := by omega
  have e6 : ¬ (k : Int) = 6 := by omega
  clear k0 k1 k2 k3 k4 k5 k6
  go_wp2_with (go_at_call 18; refine (H18.out _).mono ?_; rintro e w2 ⟨rfl, ha⟩; have HA := Lib.hid ha; clear ha)
  go_ret
  exact ⟨⟨0, rfl⟩, HA.out⟩
end Go.Proofs.Ytedhbcaakdfcbaa.disk
