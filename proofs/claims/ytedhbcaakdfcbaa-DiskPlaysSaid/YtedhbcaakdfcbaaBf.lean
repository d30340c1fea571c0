/- An act, done: exactly. -/
import Derived.Test.YtedhbcaakdfcbaaBe
namespace Go.Proofs.Ytedhbcaakdfcbaa.disk
open Go.ChangeShapes Go.WideShapes Go.ChangeAt Go.RowKit Go.Maps Go.WideMaps
set_option linter.unusedVariables false
set_option linter.unusedSimpArgs false

/-- What an act does, and answers. -/
def DoRel (c : Cfg) (fm : FM) (x : ActV) (r : Cfg × FM × Int) : Prop :=
  match x.kind with
  | 0 => r = fAppend c fm x.a.data.toList x.data
  | 1 => r = fSync c fm x.a.data.toList
  | 2 => r = fRename c fm x.a.data.toList x.b.data.toList
  | 3 => r = fRemove c fm x.a.data.toList
  | 4 => r = fFuse c fm x.at_
  | 5 => r = fHarm c fm x.a.data.toList x.data
  | 6 => r = fLose c fm x.a.data.toList
  | _ => ∃ ns, Listed fm ns ∧ r = (⟨c.cap, (rfold x.keep fm c.used ns).2.2, false, 0, false⟩, (rfold x.keep fm c.used ns).1, 0)
theorem Does.pre {w w1 w' : World} {base p : Nat} {mb : Option Nat} {D : DataW Value} {c : Cfg} {fm : FM} {N : Nat} {r : Cfg × FM × Int} {N' : Nat} {e : Ending} (h : Dsk w base p mb D c fm N) (hb : Below w.heap.size w w1) (ha : Does w1 base p mb D N' r e w') : Does w base p mb D N' r e w' := ⟨ha.1, ha.2.pre h hb⟩
set_option maxRecDepth 50000 in
set_option maxHeartbeats 4000000 in
theorem do_exact {w : World} {base p : Nat} {mb : Option Nat} {D : DataW Value} {c : Cfg} {fm : FM} {N : Nat} {M : Nat} (x : ActV) (h : Dsk w base p mb D c fm N) (hM : ∀ s f, fm s = some f → f.l.length ≤ M) (hx : ActOk w base x) (hN : N < 1000000) (hB : base ≤ w.heap.size) (hbound : M + x.dn ≤ 1000000) :
    Calls Try.prog 9 #[.pointer (some ⟨p, 0, none⟩), x.val] w fun e w' => ∃ r, DoRel c fm x r ∧ Does w base p mb D (N + 1) r e w' := by
  have h1 : ∀ o, Dsk (w.alloc o) base p mb D c fm N := fun o => h.below ((Below.refl _ _).alloc (Nat.le_refl _) _)
  have hx1 : ∀ o, ActOk (w.alloc o) base x := fun o => hx.below hB ((Below.refl _ _).alloc (Nat.le_refl _) _)
  have hB1 : ∀ o, base ≤ (w.alloc o).heap.size := fun o => by simp; omega
  have hpre : ∀ o r e w', Does (w.alloc o) base p mb D (N + 1) r e w' → Does w base p mb D (N + 1) r e w' := fun o r e w' ha => ha.pre h ((Below.refl _ _).alloc (Nat.le_refl _) _)
  have hsa := hx.sa
  have hsb := hx.sb
  have H21 := Lib.hid (fun o => (append_exact (w.alloc o) base p mb D c fm N M x.a (by omega) x.dA x.dn x.dc x.data (h1 o) hM (hx1 o).bytes hx.blow hx.dnil hx.dle hN (hB1 o) hbound).mono (fun e w' => hpre o _ e w'))
  have H20 := Lib.hid (fun o => (sync_exact (w.alloc o) base p mb D c fm N x.a (by omega) (h1 o) hN (hB1 o)).mono (fun e w' => hpre o _ e w'))
  have H22 := Lib.hid (fun o => (rename_exact (w.alloc o) base p mb D c fm N x.a x.b (by omega) (by omega) (h1 o) hN (hB1 o)).mono (fun e w' => hpre o _ e w'))
  have H23 := Lib.hid (fun o => (remove_exact (w.alloc o) base p mb D c fm N x.a (by omega) (h1 o)).mono (fun e w' => hpre o _ e w'))
  have H24 := Lib.hid (fun o => (fuse_exact (w.alloc o) base p mb D c fm N x.at_ (h1 o)).mono (fun e w' => hpre o _ e w'))
  have H25 := Lib.hid (fun o => (harm_exact (w.alloc o) base p mb D c fm N M x.a (by omega) x.dA x.dn x.dc x.data (h1 o) hM (hx1 o).bytes hN (hB1 o) hbound).mono (fun e w' => hpre o _ e w'))
  have H26 := Lib.hid (fun o => (lose_exact (w.alloc o) base p mb D c fm N x.a (by omega) (h1 o)).mono (fun e w' => hpre o _ e w'))
  have H18 := Lib.hid (show ∀ o, Calls Try.prog 18 #[.pointer (some ⟨p, 0, none⟩), .slice x.kA x.kn x.kc] (w.alloc o) fun e w' => e = .returned (.tuple #[]) ∧ ∃ ns, Listed fm ns ∧ Now w base p mb D ⟨c.cap, (rfold x.keep fm c.used ns).2.2, false, 0, false⟩ (rfold x.keep fm c.used ns).1 (N + 1) w' from fun o => (restart_any (h1 o) hM (by omega) hN (hB1 o) x.kA x.kn x.kc x.keep (hx1 o).ints hx.ilow hx.sk).mono (fun e w' hh => by
    obtain ⟨rfl, ns, mb', D', hl, hd, ht, hf⟩ := hh
    exact ⟨rfl, ns, hl, Now.pre h ((Below.refl _ _).alloc (Nat.le_refl _) o) ⟨mb', D', hd.up (Nat.le_succ _), ht, hf⟩⟩))
  have HR : Hid (∀ r, (match x.kind with
  | 0 => r = fAppend c fm x.a.data.toList x.data
  | 1 => r = fSync c fm x.a.data.toList
  | 2 => r = fRename c fm x.a.data.toList x.b.data.toList
  | 3 => r = fRemove c fm x.a.data.toList
  | 4 => r = fFuse c fm x.at_
  | 5 => r = fHarm c fm x.a.data.toList x.data
  | 6 => r = fLose c fm x.a.data.toList
  | _ => ∃ ns, Listed fm ns ∧ r = (⟨c.cap, (rfold x.keep fm c.used ns).2.2, false, 0, false⟩, (rfold x.keep fm c.used ns).1, 0)) → DoRel c fm x r) := fun r h => h
  generalize hG : DoRel c fm x = G at *
  clear hG
  unfold ActV.val
  obtain ⟨k, hk⟩ : ∃ k, k = x.kind := ⟨_, rfl⟩
  rw [← hk]
  rw [← hk] at HR
  clear h1 hx1 hB1 hpre h hx hM hk
  go_enter Try.func9, Try.ntmps9
  by_cases k0 : k = 0
  · subst k0
    clear hsa
    go_wp2_with (go_at_call 21; refine (H21.out _).mono ?_; rintro e w2 ⟨rfl, ha⟩; have HA := Lib.hid ha; clear ha)
    go_ret
    exact ⟨_, HR.out _ rfl, rfl, HA.out⟩
  by_cases k1 : k = 1
  · subst k1
    clear hsa
    go_wp2_with (go_at_call 20; refine (H20.out _).mono ?_; rintro e w2 ⟨rfl, ha⟩; have HA := Lib.hid ha; clear ha)
    go_ret
    exact ⟨_, HR.out _ rfl, rfl, HA.out⟩
  by_cases k2 : k = 2
  · subst k2
    clear hsa
    go_wp2_with (go_at_call 22; refine (H22.out _).mono ?_; rintro e w2 ⟨rfl, ha⟩; have HA := Lib.hid ha; clear ha)
    go_ret
    exact ⟨_, HR.out _ rfl, rfl, HA.out⟩
  by_cases k3 : k = 3
  · subst k3
    clear hsa
    go_wp2_with (go_at_call 23; refine (H23.out _).mono ?_; rintro e w2 ⟨rfl, ha⟩; have HA := Lib.hid ha; clear ha)
    go_ret
    exact ⟨_, HR.out _ rfl, rfl, HA.out⟩
  by_cases k4 : k = 4
  · subst k4
    clear hsa
    go_wp2_with (go_at_call 24; refine (H24.out _).mono ?_; rintro e w2 ⟨rfl, ha⟩; have HA := Lib.hid ha; clear ha)
    go_ret
    exact ⟨_, HR.out _ rfl, rfl, HA.out⟩
  by_cases k5 : k = 5
  · subst k5
    clear hsa
    go_wp2_with (go_at_call 25; refine (H25.out _).mono ?_; rintro e w2 ⟨rfl, ha⟩; have HA := Lib.hid ha; clear ha)
    go_ret
    exact ⟨_, HR.out _ rfl, rfl, HA.out⟩
  by_cases k6 : k = 6
  · subst k6
    clear hsa
    go_wp2_with (go_at_call 26; refine (H26.out _).mono ?_; rintro e w2 ⟨rfl, ha⟩; have HA := Lib.hid ha; clear ha)
    go_ret
    exact ⟨_, HR.out _ rfl, rfl, HA.out⟩
  have h7 : 7 ≤ k := by omega
  have HRk : Hid (∀ r, (∃ ns, Listed fm ns ∧ r = (⟨c.cap, (rfold x.keep fm c.used ns).2.2, false, 0, false⟩, (rfold x.keep fm c.used ns).1, 0)) → G r) := by
    show ∀ r, _ → _
    have := HR.out
    match k, h7 with
    | k + 7, _ => exact this
  clear hsa
  go_wp2_with (go_at_call 18; refine (H18.out _).mono ?_; rintro e w2 ⟨rfl, ns, hl, ha⟩; have HA := Lib.hid ha; have HL := Lib.hid hl; clear ha hl)
  go_ret
  exact ⟨_, HRk.out _ ⟨ns, HL.out, rfl⟩, rfl, HA.out⟩
end Go.Proofs.Ytedhbcaakdfcbaa.disk
