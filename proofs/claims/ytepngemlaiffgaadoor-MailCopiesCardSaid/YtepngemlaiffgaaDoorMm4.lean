/- A message put behind a mailbox of the call's own. -/
import Derived.Test.YtepngemlaiffgaaDoorMm3
namespace Go.Proofs.YtepngemlaiffgaaDoor.mal
open Go.ChangeShapes Go.WideShapes Go.ChangeAt Go.RowKit
open Go.Proofs.YtepngemlaiffgaaDoor.codec (Bytes vals)
open Go.Proofs.YtepngemlaiffgaaDoor.bod (cell_at Fit boxed named formedB)
open Go.Proofs.YtepngemlaiffgaaDoor.lg (Nt Y Rd Own Oct cM fM fl fl_at nts nts_at nts_len take_next)
set_option linter.unusedVariables false
set_option maxRecDepth 100000
set_option linter.unusedSimpArgs false

theorem step_append_own {ops : Array Oper} {o : Oper} {a : Act} {w : World} {K' : Act → World → Prop} {Q : Exit → Act → World → Prop} {Z : Prop} (hgd : o.guard = none) (s q : Operand)
    (ho : o.op = .call { callee := .builtin .append, args := #[s, q], argTypes := #[23, 23] })
    (B : Nat) (v : Value) (ys : List Y) (hs : a.eval s = v) (h : Own cM 4 B 30 w v ys) (hB : B ≤ w.heap.size) (hn : ys.length ≤ 20000000) (y : Y) (m : Nat × Nat) (g : Nat) (hg : g = w.heap.size) (hy : a.eval q = .slice (some ⟨g, 0, none⟩) 1 1) (L : Array Value) (hL : L = (cM y).toArray)
    (hx : Oct w y) (hA : ∀ ad, y.A = some ad → 0 < y.m → v.ownBlock ≠ some ad.block)
    (hK : ∀ v' w', Own cM 4 B 30 w' v' (ys ++ [y]) → w.grownBy w' v.ownBlock → (v'.ownBlock = v.ownBlock ∨ ∃ g, v'.ownBlock = some g ∧ w.heap.size ≤ g) → K' (a.put o.dst v') w') :
    if Region.wanted o (yielded ops a.tmps) = true then Oper.wp Tryd.prog o a (w.alloc (.cells L 30 m)) K' Q else Z := by
  have hw : Region.wanted o (yielded ops a.tmps) = true := by simp [Region.wanted, hgd]
  rw [if_pos hw]
  subst hL
  obtain ⟨v', w', hr, h1, h2, h3⟩ := lg.run_append_own fM (by decide) (by decide) (by_ := 48) (by decide) (z := lg.zM) rfl 23 30 Tryd.underlying23 lg.infoM w o.type B v ys h hB hn y m g hg hx hA
  unfold Oper.wp execOp
  simp only [ho, resolve, invoke, builtin, Sem.run_bind, Sem.run_pure, Result.andThen_ok, List.map_toArray, List.map_cons, List.map_nil, hs, hy, hr]
  exact hK v' w' h1 h2 h3
/-- What refuses a message: 0 if nothing does. -/
def addE (S : ByteArray) (E X : Nat) (l : List Nt) (d f : Int) (m : Nat) : Nat :=
  if formedB 2 E S X d f 0 = false then 1 else if 20000 < m then 3 else if 500 ≤ l.length then 5 else if X = 4294967295 then 4 else 0
set_option maxHeartbeats 2000000 in
theorem add_form (W : World) (p : Nat) (S : ByteArray) (E X : Nat) (A : Option Addr) (n c : Nat) (ys : List Y) (u : Nat) (d f : Int) (Am : Option Addr) (m cm B : Nat) (hp : W.heap[p]? = some (.cells #[.string S, .int .u32 (E : Nat), .int .u32 (X : Nat), .slice A n c] 25 (0, 0))) (hs : S.size ≤ 100000) (hr : Fit W) (hf : formedB 2 E S X d f 0 = false) :
    Calls Tryd.prog 39 #[.pointer (some ⟨p, 0, none⟩), .agg #[.int .u32 (u : Nat), .int .i64 d, .int .i64 f, .slice Am m cm]] W fun e w' => e = .returned (.tuple #[.int .u32 0, .int .i64 1]) ∧ Below W.heap.size W w' := by
  obtain ⟨W1, hW1⟩ : ∃ W1, W1 = W.alloc (.cells #[.int .u32 (X : Nat), .int .i64 d, .int .i64 f, .slice Am m cm] 30) := ⟨_, rfl⟩
  have HBW := Lib.hid (show Below W.heap.size W W1 by rw [hW1]; exact (Below.refl _ _).alloc (Nat.le_refl _) _)
  have HPX := Lib.hid (fun (w' : World) (h : Below W1.heap.size W1 w') => show w'.heap[p]? = some (.cells #[.string S, .int .u32 (E : Nat), .int .u32 (X : Nat), .slice A n c] 25 (0, 0)) by
    have hlt := (Array.getElem?_eq_some_iff.1 hp).1
    rw [(HBW.out.trans (h.mono HBW.out.size)).block _ hlt]; exact hp)
  have HMX := Lib.hid (fun (w' : World) (h : Below W1.heap.size W1 w') => show w'.heap[W.heap.size]? = some (.cells #[.int .u32 (X : Nat), .int .i64 d, .int .i64 f, .slice Am m cm] 30 (0, 0)) by rw [h.block _ (by rw [hW1]; simp), hW1]; exact heap_alloc_new _ _)
  have HIF := Lib.hid (fun (w' : World) (h : Below W1.heap.size W1 w') => isFormed_any w' S E X A n c X d f none 0 0 hs (hr.below (HBW.out.trans (h.mono HBW.out.size))))
  have HST := Lib.hid (show Below W1.heap.size W1 W1.drew from codec.below_draws (Below.refl _ _) 1)
  have HW1 := Lib.hid hW1
  have q2 : (W.alloc (.cells #[.int .u32 (u : Nat), .int .i64 d, .int .i64 f, .slice Am m cm] 30)).cell? ⟨p, 2, none⟩ = some (.int .u32 (X : Nat)) := by
    have hlt := (Array.getElem?_eq_some_iff.1 hp).1
    exact cell_at (by rw [heap_alloc_old _ _ hlt]; exact hp) 2 _ rfl
  have HFO := Lib.hid hf
  clear hf
  clear hW1 hp hs hr
  go_enter Tryd.func39, Tryd.ntmps39
  go_wp2_with fail
  rw [← HW1.out]
  clear q2
  refine wp_region_noPanic ?_
  refine wp_region_held_drew (S := fun w' => Below W1.heap.size W1 w') (by kernel_rfl) HST.out (fun hHeld => ?_)
  refine wpAnyH_take (i := 0) (v := ?_) rfl (by kernel_rfl) (by kernel_rfl) (by kernel_rfl) (fun _ _ _ h => h) (Or.inl ⟨by kernel_rfl, ?_⟩) hHeld ?_
  rotate_left
  · (intro w' hw'; go_simp; first | done | with_reducible rfl)
  refine wpAnyH_take (i := 1) (v := ?_) rfl (by kernel_rfl) (by kernel_rfl) (by kernel_rfl) (fun _ _ _ h => h) (Or.inl ⟨by kernel_rfl, ?_⟩) hHeld ?_
  rotate_left
  · (intro w' hw'; go_simp; first | done | with_reducible rfl)
  refine wpAnyH_take (i := 2) (v := ?_) rfl (by kernel_rfl) (by kernel_rfl) (by kernel_rfl) (fun _ _ _ h => h) (Or.inl ⟨by kernel_rfl, ?_⟩) hHeld ?_
  rotate_left
  · (intro w' hw'; have bh := HPX.out _ hw'; have b0 := cell_at bh 0 _ rfl; have b1 := cell_at bh 1 _ rfl; have b2 := cell_at bh 2 _ rfl; have b3 := cell_at bh 3 _ rfl; go_simp; first | done | with_reducible rfl)
  refine wpAnyH_take (i := 3) (v := ?_) rfl (by kernel_rfl) (by kernel_rfl) (by kernel_rfl) (fun _ _ _ h => h) (Or.inl ⟨by kernel_rfl, ?_⟩) hHeld ?_
  rotate_left
  · (intro w' hw'; go_simp; first | done | with_reducible rfl)
  refine wpAnyH_take (i := 4) (v := ?_) rfl (by kernel_rfl) (by kernel_rfl) (by kernel_rfl) (fun _ _ _ h => h) (Or.inl ⟨by kernel_rfl, ?_⟩) hHeld ?_
  rotate_left
  · (intro w' hw'; have mh := HMX.out _ hw'; have m0 := cell_at mh 0 _ rfl; have m1 := cell_at mh 1 _ rfl; have m2 := cell_at mh 2 _ rfl; have m3 := cell_at mh 3 _ rfl; go_simp; first | done | with_reducible rfl)
  refine wpAnyH_take (i := 5) (v := ?_) rfl (by kernel_rfl) (by kernel_rfl) (by kernel_rfl) (fun _ _ _ h => h) (Or.inl ⟨by kernel_rfl, ?_⟩) hHeld ?_
  rotate_left
  · (intro w' hw'; go_simp; first | done | with_reducible rfl)
  refine wpAnyH_take (i := 6) (v := ?_) rfl (by kernel_rfl) (by kernel_rfl) (by kernel_rfl) (fun _ _ _ h => h) (Or.inl ⟨by kernel_rfl, ?_⟩) hHeld ?_
  rotate_left
  · (intro w' hw'; have mh := HMX.out _ hw'; have m0 := cell_at mh 0 _ rfl; have m1 := cell_at mh 1 _ rfl; have m2 := cell_at mh 2 _ rfl; have m3 := cell_at mh 3 _ rfl; go_simp; first | done | with_reducible rfl)
  refine wpAnyH_take (i := 7) (v := ?_) rfl (by kernel_rfl) (by kernel_rfl) (by kernel_rfl) (fun _ _ _ h => h) (Or.inl ⟨by kernel_rfl, ?_⟩) hHeld ?_
  rotate_left
  · (intro w' hw'; go_simp; first | done | with_reducible rfl)
  refine wpAnyH_take (i := 8) (v := ?_) rfl (by kernel_rfl) (by kernel_rfl) (by kernel_rfl) (fun _ _ _ h => h) (Or.inl ⟨by kernel_rfl, ?_⟩) hHeld ?_
  rotate_left
  · (intro w' hw'; have mh := HMX.out _ hw'; have m0 := cell_at mh 0 _ rfl; have m1 := cell_at mh 1 _ rfl; have m2 := cell_at mh 2 _ rfl; have m3 := cell_at mh 3 _ rfl; go_simp; first | done | with_reducible rfl)
  refine wpAnyH_take (i := 9) (v := ?_) rfl (by kernel_rfl) (by kernel_rfl) (by kernel_rfl) (fun _ _ _ h => h) (Or.inl ⟨by kernel_rfl, ?_⟩) hHeld ?_
  rotate_left
  · (intro w' hw'; go_simp; first | done | with_reducible rfl)
  refine wpAnyH_ready (rs := [10]) (by kernel_rfl) (by simp) ?_
  refine AllReadyH.cons rfl (fun K hK => ?_) AllReadyH.nil
  go_simp
  refine (HIF.out _ hHeld).mono ?_
  rw [HFO.out]
  rintro x w2 ⟨rfl, hb2⟩
  have hS2 := hHeld.trans (hb2.mono hHeld.size)
  clear hb2
  go_wp2_with fail
  refine hK.out _ _ hS2 (fun hH1 => ?_)
  clear hK K hHeld
  refine wpAnyH_take (i := 11) (v := ?_) rfl (by kernel_rfl) (by kernel_rfl) (by kernel_rfl) (fun _ _ _ h => h) (Or.inl ⟨by kernel_rfl, ?_⟩) hH1 ?_
  rotate_left
  · (intro w' hw'; go_simp; first | done | with_reducible rfl)
  refine wpAnyH_take (i := 12) (v := ?_) rfl (by kernel_rfl) (by kernel_rfl) (by kernel_rfl) (fun _ _ _ h => h) (Or.inl ⟨by kernel_rfl, ?_⟩) hH1 ?_
  rotate_left
  · (intro w' hw'; go_simp; first | done | with_reducible rfl)
  refine wpAnyH_done (by kernel_rfl) ?_ _
  refine NoPanic.normal ?_
  go_simp
  go_wp2_with fail
  go_ret2
  exact ⟨rfl, HBW.out.trans (hS2.mono HBW.out.size)⟩
set_option maxHeartbeats 2000000 in
theorem add_long (W : World) (p : Nat) (S : ByteArray) (E X : Nat) (A : Option Addr) (n c : Nat) (ys : List Y) (u : Nat) (d f : Int) (Am : Option Addr) (m cm B : Nat) (hp : W.heap[p]? = some (.cells #[.string S, .int .u32 (E : Nat), .int .u32 (X : Nat), .slice A n c] 25 (0, 0))) (hs : S.size ≤ 100000) (hr : Fit W) (hf : formedB 2 E S X d f 0 = true) (hm : 20000 < m) :
    Calls Tryd.prog 39 #[.pointer (some ⟨p, 0, none⟩), .agg #[.int .u32 (u : Nat), .int .i64 d, .int .i64 f, .slice Am m cm]] W fun e w' => e = .returned (.tuple #[.int .u32 0, .int .i64 3]) ∧ Below W.heap.size W w' := by
  obtain ⟨W1, hW1⟩ : ∃ W1, W1 = W.alloc (.cells #[.int .u32 (X : Nat), .int .i64 d, .int .i64 f, .slice Am m cm] 30) := ⟨_, rfl⟩
  have HBW := Lib.hid (show Below W.heap.size W W1 by rw [hW1]; exact (Below.refl _ _).alloc (Nat.le_refl _) _)
  have HPX := Lib.hid (fun (w' : World) (h : Below W1.heap.size W1 w') => show w'.heap[p]? = some (.cells #[.string S, .int .u32 (E : Nat), .int .u32 (X : Nat), .slice A n c] 25 (0, 0)) by
    have hlt := (Array.getElem?_eq_some_iff.1 hp).1
    rw [(HBW.out.trans (h.mono HBW.out.size)).block _ hlt]; exact hp)
  have HMX := Lib.hid (fun (w' : World) (h : Below W1.heap.size W1 w') => show w'.heap[W.heap.size]? = some (.cells #[.int .u32 (X : Nat), .int .i64 d, .int .i64 f, .slice Am m cm] 30 (0, 0)) by rw [h.block _ (by rw [hW1]; simp), hW1]; exact heap_alloc_new _ _)
  have HIF := Lib.hid (fun (w' : World) (h : Below W1.heap.size W1 w') => isFormed_any w' S E X A n c X d f none 0 0 hs (hr.below (HBW.out.trans (h.mono HBW.out.size))))
  have HST := Lib.hid (show Below W1.heap.size W1 W1.drew from codec.below_draws (Below.refl _ _) 1)
  have HW1 := Lib.hid hW1
  have q2 : (W.alloc (.cells #[.int .u32 (u : Nat), .int .i64 d, .int .i64 f, .slice Am m cm] 30)).cell? ⟨p, 2, none⟩ = some (.int .u32 (X : Nat)) := by
    have hlt := (Array.getElem?_eq_some_iff.1 hp).1
    exact cell_at (by rw [heap_alloc_old _ _ hlt]; exact hp) 2 _ rfl
  have HFO := Lib.hid hf
  clear hf
  have k1 : decide ((20000 : Int) < (m : Int)) = true := decide_eq_true (by omega)
  clear hm
  clear hW1 hp hs hr
  go_enter Tryd.func39, Tryd.ntmps39
  go_wp2_with fail
  rw [← HW1.out]
  clear q2
  refine wp_region_noPanic ?_
  refine wp_region_held_drew (S := fun w' => Below W1.heap.size W1 w') (by kernel_rfl) HST.out (fun hHeld => ?_)
  refine wpAnyH_take (i := 0) (v := ?_) rfl (by kernel_rfl) (by kernel_rfl) (by kernel_rfl) (fun _ _ _ h => h) (Or.inl ⟨by kernel_rfl, ?_⟩) hHeld ?_
  rotate_left
  · (intro w' hw'; go_simp; first | done | with_reducible rfl)
  refine wpAnyH_take (i := 1) (v := ?_) rfl (by kernel_rfl) (by kernel_rfl) (by kernel_rfl) (fun _ _ _ h => h) (Or.inl ⟨by kernel_rfl, ?_⟩) hHeld ?_
  rotate_left
  · (intro w' hw'; go_simp; first | done | with_reducible rfl)
  refine wpAnyH_take (i := 2) (v := ?_) rfl (by kernel_rfl) (by kernel_rfl) (by kernel_rfl) (fun _ _ _ h => h) (Or.inl ⟨by kernel_rfl, ?_⟩) hHeld ?_
  rotate_left
  · (intro w' hw'; have bh := HPX.out _ hw'; have b0 := cell_at bh 0 _ rfl; have b1 := cell_at bh 1 _ rfl; have b2 := cell_at bh 2 _ rfl; have b3 := cell_at bh 3 _ rfl; go_simp; first | done | with_reducible rfl)
  refine wpAnyH_take (i := 3) (v := ?_) rfl (by kernel_rfl) (by kernel_rfl) (by kernel_rfl) (fun _ _ _ h => h) (Or.inl ⟨by kernel_rfl, ?_⟩) hHeld ?_
  rotate_left
  · (intro w' hw'; go_simp; first | done | with_reducible rfl)
  refine wpAnyH_take (i := 4) (v := ?_) rfl (by kernel_rfl) (by kernel_rfl) (by kernel_rfl) (fun _ _ _ h => h) (Or.inl ⟨by kernel_rfl, ?_⟩) hHeld ?_
  rotate_left
  · (intro w' hw'; have mh := HMX.out _ hw'; have m0 := cell_at mh 0 _ rfl; have m1 := cell_at mh 1 _ rfl; have m2 := cell_at mh 2 _ rfl; have m3 := cell_at mh 3 _ rfl; go_simp; first | done | with_reducible rfl)
  refine wpAnyH_take (i := 5) (v := ?_) rfl (by kernel_rfl) (by kernel_rfl) (by kernel_rfl) (fun _ _ _ h => h) (Or.inl ⟨by kernel_rfl, ?_⟩) hHeld ?_
  rotate_left
  · (intro w' hw'; go_simp; first | done | with_reducible rfl)
  refine wpAnyH_take (i := 6) (v := ?_) rfl (by kernel_rfl) (by kernel_rfl) (by kernel_rfl) (fun _ _ _ h => h) (Or.inl ⟨by kernel_rfl, ?_⟩) hHeld ?_
  rotate_left
  · (intro w' hw'; have mh := HMX.out _ hw'; have m0 := cell_at mh 0 _ rfl; have m1 := cell_at mh 1 _ rfl; have m2 := cell_at mh 2 _ rfl; have m3 := cell_at mh 3 _ rfl; go_simp; first | done | with_reducible rfl)
  refine wpAnyH_take (i := 7) (v := ?_) rfl (by kernel_rfl) (by kernel_rfl) (by kernel_rfl) (fun _ _ _ h => h) (Or.inl ⟨by kernel_rfl, ?_⟩) hHeld ?_
  rotate_left
  · (intro w' hw'; go_simp; first | done | with_reducible rfl)
  refine wpAnyH_take (i := 8) (v := ?_) rfl (by kernel_rfl) (by kernel_rfl) (by kernel_rfl) (fun _ _ _ h => h) (Or.inl ⟨by kernel_rfl, ?_⟩) hHeld ?_
  rotate_left
  · (intro w' hw'; have mh := HMX.out _ hw'; have m0 := cell_at mh 0 _ rfl; have m1 := cell_at mh 1 _ rfl; have m2 := cell_at mh 2 _ rfl; have m3 := cell_at mh 3 _ rfl; go_simp; first | done | with_reducible rfl)
  refine wpAnyH_take (i := 9) (v := ?_) rfl (by kernel_rfl) (by kernel_rfl) (by kernel_rfl) (fun _ _ _ h => h) (Or.inl ⟨by kernel_rfl, ?_⟩) hHeld ?_
  rotate_left
  · (intro w' hw'; go_simp; first | done | with_reducible rfl)
  refine wpAnyH_ready (rs := [10]) (by kernel_rfl) (by simp) ?_
  refine AllReadyH.cons rfl (fun K hK => ?_) AllReadyH.nil
  go_simp
  refine (HIF.out _ hHeld).mono ?_
  rw [HFO.out]
  rintro x w2 ⟨rfl, hb2⟩
  have hS2 := hHeld.trans (hb2.mono hHeld.size)
  clear hb2
  go_wp2_with fail
  refine hK.out _ _ hS2 (fun hH1 => ?_)
  clear hK K hHeld
  refine wpAnyH_take (i := 11) (v := ?_) rfl (by kernel_rfl) (by kernel_rfl) (by kernel_rfl) (fun _ _ _ h => h) (Or.inl ⟨by kernel_rfl, ?_⟩) hH1 ?_
  rotate_left
  · (intro w' hw'; go_simp; first | done | with_reducible rfl)
  refine wpAnyH_take (i := 12) (v := ?_) rfl (by kernel_rfl) (by kernel_rfl) (by kernel_rfl) (fun _ _ _ h => h) (Or.inl ⟨by kernel_rfl, ?_⟩) hH1 ?_
  rotate_left
  · (intro w' hw'; go_simp; first | done | with_reducible rfl)
  refine wpAnyH_done (by kernel_rfl) ?_ _
  refine NoPanic.normal ?_
  go_simp
  have bh := HPX.out _ hS2
  have b2 := cell_at bh 2 _ rfl
  have b3 := cell_at bh 3 _ rfl
  have mh := HMX.out _ hS2
  have m0 := cell_at mh 0 _ rfl
  have m3 := cell_at mh 3 _ rfl
  clear bh mh
  go_wp2_with fail
  go_ret2
  exact ⟨rfl, HBW.out.trans (hS2.mono HBW.out.size)⟩
set_option maxHeartbeats 2000000 in
theorem add_many (W : World) (p : Nat) (S : ByteArray) (E X : Nat) (A : Option Addr) (n c : Nat) (ys : List Y) (u : Nat) (d f : Int) (Am : Option Addr) (m cm B : Nat) (hp : W.heap[p]? = some (.cells #[.string S, .int .u32 (E : Nat), .int .u32 (X : Nat), .slice A n c] 25 (0, 0))) (hs : S.size ≤ 100000) (hr : Fit W) (hf : formedB 2 E S X d f 0 = true) (hm : m ≤ 20000) (hn : 500 ≤ n) :
    Calls Tryd.prog 39 #[.pointer (some ⟨p, 0, none⟩), .agg #[.int .u32 (u : Nat), .int .i64 d, .int .i64 f, .slice Am m cm]] W fun e w' => e = .returned (.tuple #[.int .u32 0, .int .i64 5]) ∧ Below W.heap.size W w' := by
  obtain ⟨W1, hW1⟩ : ∃ W1, W1 = W.alloc (.cells #[.int .u32 (X : Nat), .int .i64 d, .int .i64 f, .slice Am m cm] 30) := ⟨_, rfl⟩
  have HBW := Lib.hid (show Below W.heap.size W W1 by rw [hW1]; exact (Below.refl _ _).alloc (Nat.le_refl _) _)
  have HPX := Lib.hid (fun (w' : World) (h : Below W1.heap.size W1 w') => show w'.heap[p]? = some (.cells #[.string S, .int .u32 (E : Nat), .int .u32 (X : Nat), .slice A n c] 25 (0, 0)) by
    have hlt := (Array.getElem?_eq_some_iff.1 hp).1
    rw [(HBW.out.trans (h.mono HBW.out.size)).block _ hlt]; exact hp)
  have HMX := Lib.hid (fun (w' : World) (h : Below W1.heap.size W1 w') => show w'.heap[W.heap.size]? = some (.cells #[.int .u32 (X : Nat), .int .i64 d, .int .i64 f, .slice Am m cm] 30 (0, 0)) by rw [h.block _ (by rw [hW1]; simp), hW1]; exact heap_alloc_new _ _)
  have HIF := Lib.hid (fun (w' : World) (h : Below W1.heap.size W1 w') => isFormed_any w' S E X A n c X d f none 0 0 hs (hr.below (HBW.out.trans (h.mono HBW.out.size))))
  have HST := Lib.hid (show Below W1.heap.size W1 W1.drew from codec.below_draws (Below.refl _ _) 1)
  have HW1 := Lib.hid hW1
  have q2 : (W.alloc (.cells #[.int .u32 (u : Nat), .int .i64 d, .int .i64 f, .slice Am m cm] 30)).cell? ⟨p, 2, none⟩ = some (.int .u32 (X : Nat)) := by
    have hlt := (Array.getElem?_eq_some_iff.1 hp).1
    exact cell_at (by rw [heap_alloc_old _ _ hlt]; exact hp) 2 _ rfl
  have HFO := Lib.hid hf
  clear hf
  have k1 : decide ((20000 : Int) < (m : Int)) = false := decide_eq_false (by omega)
  have k2 : decide ((500 : Int) ≤ (n : Int)) = true := decide_eq_true (by omega)
  clear hm hn
  clear hW1 hp hs hr
  go_enter Tryd.func39, Tryd.ntmps39
  go_wp2_with fail
  rw [← HW1.out]
  clear q2
  refine wp_region_noPanic ?_
  refine wp_region_held_drew (S := fun w' => Below W1.heap.size W1 w') (by kernel_rfl) HST.out (fun hHeld => ?_)
  refine wpAnyH_take (i := 0) (v := ?_) rfl (by kernel_rfl) (by kernel_rfl) (by kernel_rfl) (fun _ _ _ h => h) (Or.inl ⟨by kernel_rfl, ?_⟩) hHeld ?_
  rotate_left
  · (intro w' hw'; go_simp; first | done | with_reducible rfl)
  refine wpAnyH_take (i := 1) (v := ?_) rfl (by kernel_rfl) (by kernel_rfl) (by kernel_rfl) (fun _ _ _ h => h) (Or.inl ⟨by kernel_rfl, ?_⟩) hHeld ?_
  rotate_left
  · (intro w' hw'; go_simp; first | done | with_reducible rfl)
  refine wpAnyH_take (i := 2) (v := ?_) rfl (by kernel_rfl) (by kernel_rfl) (by kernel_rfl) (fun _ _ _ h => h) (Or.inl ⟨by kernel_rfl, ?_⟩) hHeld ?_
  rotate_left
  · (intro w' hw'; have bh := HPX.out _ hw'; have b0 := cell_at bh 0 _ rfl; have b1 := cell_at bh 1 _ rfl; have b2 := cell_at bh 2 _ rfl; have b3 := cell_at bh 3 _ rfl; go_simp; first | done | with_reducible rfl)
  refine wpAnyH_take (i := 3) (v := ?_) rfl (by kernel_rfl) (by kernel_rfl) (by kernel_rfl) (fun _ _ _ h => h) (Or.inl ⟨by kernel_rfl, ?_⟩) hHeld ?_
  rotate_left
  · (intro w' hw'; go_simp; first | done | with_reducible rfl)
  refine wpAnyH_take (i := 4) (v := ?_) rfl (by kernel_rfl) (by kernel_rfl) (by kernel_rfl) (fun _ _ _ h => h) (Or.inl ⟨by kernel_rfl, ?_⟩) hHeld ?_
  rotate_left
  · (intro w' hw'; have mh := HMX.out _ hw'; have m0 := cell_at mh 0 _ rfl; have m1 := cell_at mh 1 _ rfl; have m2 := cell_at mh 2 _ rfl; have m3 := cell_at mh 3 _ rfl; go_simp; first | done | with_reducible rfl)
  refine wpAnyH_take (i := 5) (v := ?_) rfl (by kernel_rfl) (by kernel_rfl) (by kernel_rfl) (fun _ _ _ h => h) (Or.inl ⟨by kernel_rfl, ?_⟩) hHeld ?_
  rotate_left
  · (intro w' hw'; go_simp; first | done | with_reducible rfl)
  refine wpAnyH_take (i := 6) (v := ?_) rfl (by kernel_rfl) (by kernel_rfl) (by kernel_rfl) (fun _ _ _ h => h) (Or.inl ⟨by kernel_rfl, ?_⟩) hHeld ?_
  rotate_left
  · (intro w' hw'; have mh := HMX.out _ hw'; have m0 := cell_at mh 0 _ rfl; have m1 := cell_at mh 1 _ rfl; have m2 := cell_at mh 2 _ rfl; have m3 := cell_at mh 3 _ rfl; go_simp; first | done | with_reducible rfl)
  refine wpAnyH_take (i := 7) (v := ?_) rfl (by kernel_rfl) (by kernel_rfl) (by kernel_rfl) (fun _ _ _ h => h) (Or.inl ⟨by kernel_rfl, ?_⟩) hHeld ?_
  rotate_left
  · (intro w' hw'; go_simp; first | done | with_reducible rfl)
  refine wpAnyH_take (i := 8) (v := ?_) rfl (by kernel_rfl) (by kernel_rfl) (by kernel_rfl) (fun _ _ _ h => h) (Or.inl ⟨by kernel_rfl, ?_⟩) hHeld ?_
  rotate_left
  · (intro w' hw'; have mh := HMX.out _ hw'; have m0 := cell_at mh 0 _ rfl; have m1 := cell_at mh 1 _ rfl; have m2 := cell_at mh 2 _ rfl; have m3 := cell_at mh 3 _ rfl; go_simp; first | done | with_reducible rfl)
  refine wpAnyH_take (i := 9) (v := ?_) rfl (by kernel_rfl) (by kernel_rfl) (by kernel_rfl) (fun _ _ _ h => h) (Or.inl ⟨by kernel_rfl, ?_⟩) hHeld ?_
  rotate_left
  · (intro w' hw'; go_simp; first | done | with_reducible rfl)
  refine wpAnyH_ready (rs := [10]) (by kernel_rfl) (by simp) ?_
  refine AllReadyH.cons rfl (fun K hK => ?_) AllReadyH.nil
  go_simp
  refine (HIF.out _ hHeld).mono ?_
  rw [HFO.out]
  rintro x w2 ⟨rfl, hb2⟩
  have hS2 := hHeld.trans (hb2.mono hHeld.size)
  clear hb2
  go_wp2_with fail
  refine hK.out _ _ hS2 (fun hH1 => ?_)
  clear hK K hHeld
  refine wpAnyH_take (i := 11) (v := ?_) rfl (by kernel_rfl) (by kernel_rfl) (by kernel_rfl) (fun _ _ _ h => h) (Or.inl ⟨by kernel_rfl, ?_⟩) hH1 ?_
  rotate_left
  · (intro w' hw'; go_simp; first | done | with_reducible rfl)
  refine wpAnyH_take (i := 12) (v := ?_) rfl (by kernel_rfl) (by kernel_rfl) (by kernel_rfl) (fun _ _ _ h => h) (Or.inl ⟨by kernel_rfl, ?_⟩) hH1 ?_
  rotate_left
  · (intro w' hw'; go_simp; first | done | with_reducible rfl)
  refine wpAnyH_done (by kernel_rfl) ?_ _
  refine NoPanic.normal ?_
  go_simp
  have bh := HPX.out _ hS2
  have b2 := cell_at bh 2 _ rfl
  have b3 := cell_at bh 3 _ rfl
  have mh := HMX.out _ hS2
  have m0 := cell_at mh 0 _ rfl
  have m3 := cell_at mh 3 _ rfl
  clear bh mh
  go_wp2_with fail
  go_ret2
  exact ⟨rfl, HBW.out.trans (hS2.mono HBW.out.size)⟩
set_option maxHeartbeats 2000000 in
theorem add_full (W : World) (p : Nat) (S : ByteArray) (E X : Nat) (A : Option Addr) (n c : Nat) (ys : List Y) (u : Nat) (d f : Int) (Am : Option Addr) (m cm B : Nat) (hp : W.heap[p]? = some (.cells #[.string S, .int .u32 (E : Nat), .int .u32 (X : Nat), .slice A n c] 25 (0, 0))) (hs : S.size ≤ 100000) (hr : Fit W) (hf : formedB 2 E S X d f 0 = true) (hm : m ≤ 20000) (hn : n < 500) (hX : X = 4294967295) :
    Calls Tryd.prog 39 #[.pointer (some ⟨p, 0, none⟩), .agg #[.int .u32 (u : Nat), .int .i64 d, .int .i64 f, .slice Am m cm]] W fun e w' => e = .returned (.tuple #[.int .u32 0, .int .i64 4]) ∧ Below W.heap.size W w' := by
  obtain ⟨W1, hW1⟩ : ∃ W1, W1 = W.alloc (.cells #[.int .u32 (X : Nat), .int .i64 d, .int .i64 f, .slice Am m cm] 30) := ⟨_, rfl⟩
  have HBW := Lib.hid (show Below W.heap.size W W1 by rw [hW1]; exact (Below.refl _ _).alloc (Nat.le_refl _) _)
  have HPX := Lib.hid (fun (w' : World) (h : Below W1.heap.size W1 w') => show w'.heap[p]? = some (.cells #[.string S, .int .u32 (E : Nat), .int .u32 (X : Nat), .slice A n c] 25 (0, 0)) by
    have hlt := (Array.getElem?_eq_some_iff.1 hp).1
    rw [(HBW.out.trans (h.mono HBW.out.size)).block _ hlt]; exact hp)
  have HMX := Lib.hid (fun (w' : World) (h : Below W1.heap.size W1 w') => show w'.heap[W.heap.size]? = some (.cells #[.int .u32 (X : Nat), .int .i64 d, .int .i64 f, .slice Am m cm] 30 (0, 0)) by rw [h.block _ (by rw [hW1]; simp), hW1]; exact heap_alloc_new _ _)
  have HIF := Lib.hid (fun (w' : World) (h : Below W1.heap.size W1 w') => isFormed_any w' S E X A n c X d f none 0 0 hs (hr.below (HBW.out.trans (h.mono HBW.out.size))))
  have HST := Lib.hid (show Below W1.heap.size W1 W1.drew from codec.below_draws (Below.refl _ _) 1)
  have HW1 := Lib.hid hW1
  have q2 : (W.alloc (.cells #[.int .u32 (u : Nat), .int .i64 d, .int .i64 f, .slice Am m cm] 30)).cell? ⟨p, 2, none⟩ = some (.int .u32 (X : Nat)) := by
    have hlt := (Array.getElem?_eq_some_iff.1 hp).1
    exact cell_at (by rw [heap_alloc_old _ _ hlt]; exact hp) 2 _ rfl
  have HFO := Lib.hid hf
  clear hf
  have k1 : decide ((20000 : Int) < (m : Int)) = false := decide_eq_false (by omega)
  have k2 : decide ((500 : Int) ≤ (n : Int)) = false := decide_eq_false (by omega)
  have k3 : ((X : Int) == 4294967295) = true := by rw [beq_iff_eq]; omega
  clear hm hn hX
  clear hW1 hp hs hr
  go_enter Tryd.func39, Tryd.ntmps39
  go_wp2_with fail
  rw [← HW1.out]
  clear q2
  refine wp_region_noPanic ?_
  refine wp_region_held_drew (S := fun w' => Below W1.heap.size W1 w') (by kernel_rfl) HST.out (fun hHeld => ?_)
  refine wpAnyH_take (i := 0) (v := ?_) rfl (by kernel_rfl) (by kernel_rfl) (by kernel_rfl) (fun _ _ _ h => h) (Or.inl ⟨by kernel_rfl, ?_⟩) hHeld ?_
  rotate_left
  · (intro w' hw'; go_simp; first | done | with_reducible rfl)
  refine wpAnyH_take (i := 1) (v := ?_) rfl (by kernel_rfl) (by kernel_rfl) (by kernel_rfl) (fun _ _ _ h => h) (Or.inl ⟨by kernel_rfl, ?_⟩) hHeld ?_
  rotate_left
  · (intro w' hw'; go_simp; first | done | with_reducible rfl)
  refine wpAnyH_take (i := 2) (v := ?_) rfl (by kernel_rfl) (by kernel_rfl) (by kernel_rfl) (fun _ _ _ h => h) (Or.inl ⟨by kernel_rfl, ?_⟩) hHeld ?_
  rotate_left
  · (intro w' hw'; have bh := HPX.out _ hw'; have b0 := cell_at bh 0 _ rfl; have b1 := cell_at bh 1 _ rfl; have b2 := cell_at bh 2 _ rfl; have b3 := cell_at bh 3 _ rfl; go_simp; first | done | with_reducible rfl)
  refine wpAnyH_take (i := 3) (v := ?_) rfl (by kernel_rfl) (by kernel_rfl) (by kernel_rfl) (fun _ _ _ h => h) (Or.inl ⟨by kernel_rfl, ?_⟩) hHeld ?_
  rotate_left
  · (intro w' hw'; go_simp; first | done | with_reducible rfl)
  refine wpAnyH_take (i := 4) (v := ?_) rfl (by kernel_rfl) (by kernel_rfl) (by kernel_rfl) (fun _ _ _ h => h) (Or.inl ⟨by kernel_rfl, ?_⟩) hHeld ?_
  rotate_left
  · (intro w' hw'; have mh := HMX.out _ hw'; have m0 := cell_at mh 0 _ rfl; have m1 := cell_at mh 1 _ rfl; have m2 := cell_at mh 2 _ rfl; have m3 := cell_at mh 3 _ rfl; go_simp; first | done | with_reducible rfl)
  refine wpAnyH_take (i := 5) (v := ?_) rfl (by kernel_rfl) (by kernel_rfl) (by kernel_rfl) (fun _ _ _ h => h) (Or.inl ⟨by kernel_rfl, ?_⟩) hHeld ?_
  rotate_left
  · (intro w' hw'; go_simp; first | done | with_reducible rfl)
  refine wpAnyH_take (i := 6) (v := ?_) rfl (by kernel_rfl) (by kernel_rfl) (by kernel_rfl) (fun _ _ _ h => h) (Or.inl ⟨by kernel_rfl, ?_⟩) hHeld ?_
  rotate_left
  · (intro w' hw'; have mh := HMX.out _ hw'; have m0 := cell_at mh 0 _ rfl; have m1 := cell_at mh 1 _ rfl; have m2 := cell_at mh 2 _ rfl; have m3 := cell_at mh 3 _ rfl; go_simp; first | done | with_reducible rfl)
  refine wpAnyH_take (i := 7) (v := ?_) rfl (by kernel_rfl) (by kernel_rfl) (by kernel_rfl) (fun _ _ _ h => h) (Or.inl ⟨by kernel_rfl, ?_⟩) hHeld ?_
  rotate_left
  · (intro w' hw'; go_simp; first | done | with_reducible rfl)
  refine wpAnyH_take (i := 8) (v := ?_) rfl (by kernel_rfl) (by kernel_rfl) (by kernel_rfl) (fun _ _ _ h => h) (Or.inl ⟨by kernel_rfl, ?_⟩) hHeld ?_
  rotate_left
  · (intro w' hw'; have mh := HMX.out _ hw'; have m0 := cell_at mh 0 _ rfl; have m1 := cell_at mh 1 _ rfl; have m2 := cell_at mh 2 _ rfl; have m3 := cell_at mh 3 _ rfl; go_simp; first | done | with_reducible rfl)
  refine wpAnyH_take (i := 9) (v := ?_) rfl (by kernel_rfl) (by kernel_rfl) (by kernel_rfl) (fun _ _ _ h => h) (Or.inl ⟨by kernel_rfl, ?_⟩) hHeld ?_
  rotate_left
  · (intro w' hw'; go_simp; first | done | with_reducible rfl)
  refine wpAnyH_ready (rs := [10]) (by kernel_rfl) (by simp) ?_
  refine AllReadyH.cons rfl (fun K hK => ?_) AllReadyH.nil
  go_simp
  refine (HIF.out _ hHeld).mono ?_
  rw [HFO.out]
  rintro x w2 ⟨rfl, hb2⟩
  have hS2 := hHeld.trans (hb2.mono hHeld.size)
  clear hb2
  go_wp2_with fail
  refine hK.out _ _ hS2 (fun hH1 => ?_)
  clear hK K hHeld
  refine wpAnyH_take (i := 11) (v := ?_) rfl (by kernel_rfl) (by kernel_rfl) (by kernel_rfl) (fun _ _ _ h => h) (Or.inl ⟨by kernel_rfl, ?_⟩) hH1 ?_
  rotate_left
  · (intro w' hw'; go_simp; first | done | with_reducible rfl)
  refine wpAnyH_take (i := 12) (v := ?_) rfl (by kernel_rfl) (by kernel_rfl) (by kernel_rfl) (fun _ _ _ h => h) (Or.inl ⟨by kernel_rfl, ?_⟩) hH1 ?_
  rotate_left
  · (intro w' hw'; go_simp; first | done | with_reducible rfl)
  refine wpAnyH_done (by kernel_rfl) ?_ _
  refine NoPanic.normal ?_
  go_simp
  have bh := HPX.out _ hS2
  have b2 := cell_at bh 2 _ rfl
  have b3 := cell_at bh 3 _ rfl
  have mh := HMX.out _ hS2
  have m0 := cell_at mh 0 _ rfl
  have m3 := cell_at mh 3 _ rfl
  clear bh mh
  go_wp2_with fail
  go_ret2
  exact ⟨rfl, HBW.out.trans (hS2.mono HBW.out.size)⟩
/-- What add leaves where it refuses nothing. -/
def Added (W : World) (p : Nat) (S : ByteArray) (E X B : Nat) (v : Value) (ys : List Y) (t : Nt) (w' : World) : Prop :=
  ∃ A n c y, w'.heap[p]? = some (.cells #[.string S, .int .u32 (E : Nat), .int .u32 ((X + 1 : Nat) : Nat), .slice A n c] 25 (0, 0)) ∧ Own cM 4 B 30 w' (.slice A n c) (ys ++ [y]) ∧ y.n = t ∧ (∀ ad, y.A = some ad → W.heap.size ≤ ad.block) ∧ codec.Touch (fun i => i = p ∨ v.ownBlock = some i) W w' ∧ ((Value.slice A n c).ownBlock = v.ownBlock ∨ ∃ g, (Value.slice A n c).ownBlock = some g ∧ W.heap.size ≤ g)
set_option maxHeartbeats 4000000 in
theorem add_good (W : World) (p : Nat) (S : ByteArray) (E X : Nat) (A : Option Addr) (n c : Nat) (ys : List Y) (u : Nat) (d f : Int) (Am : Option Addr) (m cm B : Nat) (hp : W.heap[p]? = some (.cells #[.string S, .int .u32 (E : Nat), .int .u32 (X : Nat), .slice A n c] 25 (0, 0))) (hs : S.size ≤ 100000) (hr : Fit W) (hf : formedB 2 E S X d f 0 = true) (hm : m ≤ 20000) (hn : n < 500) (hX : X < 4294967295) (l : List Nat) (hB : Bytes W Am m l) (hnil : Am = none → cm = 0) (hO : Own cM 4 B 30 W (.slice A n c) ys) (hBW : B ≤ W.heap.size) (hpB : (Value.slice A n c).ownBlock ≠ some p) (hpy : ∀ y ∈ ys, ∀ ad, y.A = some ad → 0 < y.m → ad.block ≠ p) :
    Calls Tryd.prog 39 #[.pointer (some ⟨p, 0, none⟩), .agg #[.int .u32 (u : Nat), .int .i64 d, .int .i64 f, .slice Am m cm]] W fun e w' => e = .returned (.tuple #[.int .u32 (X : Nat), .int .i64 0]) ∧ Added W p S E X B (.slice A n c) ys ⟨2, E, S, X, d, f, l⟩ w' := by
  obtain ⟨W1, hW1⟩ : ∃ W1, W1 = W.alloc (.cells #[.int .u32 (X : Nat), .int .i64 d, .int .i64 f, .slice Am m cm] 30) := ⟨_, rfl⟩
  have HBW := Lib.hid (show Below W.heap.size W W1 by rw [hW1]; exact (Below.refl _ _).alloc (Nat.le_refl _) _)
  have HPX := Lib.hid (fun (w' : World) (h : Below W1.heap.size W1 w') => show w'.heap[p]? = some (.cells #[.string S, .int .u32 (E : Nat), .int .u32 (X : Nat), .slice A n c] 25 (0, 0)) by
    have hlt := (Array.getElem?_eq_some_iff.1 hp).1
    rw [(HBW.out.trans (h.mono HBW.out.size)).block _ hlt]; exact hp)
  have HMX := Lib.hid (fun (w' : World) (h : Below W1.heap.size W1 w') => show w'.heap[W.heap.size]? = some (.cells #[.int .u32 (X : Nat), .int .i64 d, .int .i64 f, .slice Am m cm] 30 (0, 0)) by rw [h.block _ (by rw [hW1]; simp), hW1]; exact heap_alloc_new _ _)
  have HIF := Lib.hid (fun (w' : World) (h : Below W1.heap.size W1 w') => isFormed_any w' S E X A n c X d f none 0 0 hs (hr.below (HBW.out.trans (h.mono HBW.out.size))))
  have HST := Lib.hid (show Below W1.heap.size W1 W1.drew from codec.below_draws (Below.refl _ _) 1)
  have HW1 := Lib.hid hW1
  have q2 : (W.alloc (.cells #[.int .u32 (u : Nat), .int .i64 d, .int .i64 f, .slice Am m cm] 30)).cell? ⟨p, 2, none⟩ = some (.int .u32 (X : Nat)) := by
    have hlt := (Array.getElem?_eq_some_iff.1 hp).1
    exact cell_at (by rw [heap_alloc_old _ _ hlt]; exact hp) 2 _ rfl
  have HFO := Lib.hid hf
  clear hf
  have k1 : decide ((20000 : Int) < (m : Int)) = false := decide_eq_false (by omega)
  have k2 : decide ((500 : Int) ≤ (n : Int)) = false := decide_eq_false (by omega)
  have k3 : ((X : Int) == 4294967295) = false := by rw [beq_eq_false_iff_ne]; omega
  have HXL := Lib.hid hX
  have HPlt := Lib.hid (Array.getElem?_eq_some_iff.1 hp).1
  have HNL0 := Lib.hid (own_len hO)
  have HNL := Lib.hid (show ys.length ≤ 1000 by have := own_len hO; omega)
  have HPO := Lib.hid hpB
  have HMO := Lib.hid (show (Value.slice A n c).ownBlock ≠ some W.heap.size from fun e => by have := (hO.lt e).2; omega)
  have HPY := Lib.hid hpy
  have HCl := Lib.hid (fun (w' : World) (h : Below W1.heap.size W1 w') => clone_any w' Am m cm l (hB.below hB.lt (HBW.out.trans (h.mono HBW.out.size))) hnil (by omega))
  have HOW := Lib.hid (fun (w' : World) (h : Below W.heap.size W w') => hO.below h)
  have HBB0 := Lib.hid hBW
  clear hW1 hp hs hr hm hn hX hB hnil hO hBW hpB hpy
  go_enter Tryd.func39, Tryd.ntmps39
  go_wp2_with fail
  rw [← HW1.out]
  clear q2
  refine wp_region_noPanic ?_
  refine wp_region_held_drew (S := fun w' => Below W1.heap.size W1 w') (by kernel_rfl) HST.out (fun hHeld => ?_)
  refine wpAnyH_take (i := 0) (v := ?_) rfl (by kernel_rfl) (by kernel_rfl) (by kernel_rfl) (fun _ _ _ h => h) (Or.inl ⟨by kernel_rfl, ?_⟩) hHeld ?_
  rotate_left
  · (intro w' hw'; go_simp; first | done | with_reducible rfl)
  refine wpAnyH_take (i := 1) (v := ?_) rfl (by kernel_rfl) (by kernel_rfl) (by kernel_rfl) (fun _ _ _ h => h) (Or.inl ⟨by kernel_rfl, ?_⟩) hHeld ?_
  rotate_left
  · (intro w' hw'; go_simp; first | done | with_reducible rfl)
  refine wpAnyH_take (i := 2) (v := ?_) rfl (by kernel_rfl) (by kernel_rfl) (by kernel_rfl) (fun _ _ _ h => h) (Or.inl ⟨by kernel_rfl, ?_⟩) hHeld ?_
  rotate_left
  · (intro w' hw'; have bh := HPX.out _ hw'; have b0 := cell_at bh 0 _ rfl; have b1 := cell_at bh 1 _ rfl; have b2 := cell_at bh 2 _ rfl; have b3 := cell_at bh 3 _ rfl; go_simp; first | done | with_reducible rfl)
  refine wpAnyH_take (i := 3) (v := ?_) rfl (by kernel_rfl) (by kernel_rfl) (by kernel_rfl) (fun _ _ _ h => h) (Or.inl ⟨by kernel_rfl, ?_⟩) hHeld ?_
  rotate_left
  · (intro w' hw'; go_simp; first | done | with_reducible rfl)
  refine wpAnyH_take (i := 4) (v := ?_) rfl (by kernel_rfl) (by kernel_rfl) (by kernel_rfl) (fun _ _ _ h => h) (Or.inl ⟨by kernel_rfl, ?_⟩) hHeld ?_
  rotate_left
  · (intro w' hw'; have mh := HMX.out _ hw'; have m0 := cell_at mh 0 _ rfl; have m1 := cell_at mh 1 _ rfl; have m2 := cell_at mh 2 _ rfl; have m3 := cell_at mh 3 _ rfl; go_simp; first | done | with_reducible rfl)
  refine wpAnyH_take (i := 5) (v := ?_) rfl (by kernel_rfl) (by kernel_rfl) (by kernel_rfl) (fun _ _ _ h => h) (Or.inl ⟨by kernel_rfl, ?_⟩) hHeld ?_
  rotate_left
  · (intro w' hw'; go_simp; first | done | with_reducible rfl)
  refine wpAnyH_take (i := 6) (v := ?_) rfl (by kernel_rfl) (by kernel_rfl) (by kernel_rfl) (fun _ _ _ h => h) (Or.inl ⟨by kernel_rfl, ?_⟩) hHeld ?_
  rotate_left
  · (intro w' hw'; have mh := HMX.out _ hw'; have m0 := cell_at mh 0 _ rfl; have m1 := cell_at mh 1 _ rfl; have m2 := cell_at mh 2 _ rfl; have m3 := cell_at mh 3 _ rfl; go_simp; first | done | with_reducible rfl)
  refine wpAnyH_take (i := 7) (v := ?_) rfl (by kernel_rfl) (by kernel_rfl) (by kernel_rfl) (fun _ _ _ h => h) (Or.inl ⟨by kernel_rfl, ?_⟩) hHeld ?_
  rotate_left
  · (intro w' hw'; go_simp; first | done | with_reducible rfl)
  refine wpAnyH_take (i := 8) (v := ?_) rfl (by kernel_rfl) (by kernel_rfl) (by kernel_rfl) (fun _ _ _ h => h) (Or.inl ⟨by kernel_rfl, ?_⟩) hHeld ?_
  rotate_left
  · (intro w' hw'; have mh := HMX.out _ hw'; have m0 := cell_at mh 0 _ rfl; have m1 := cell_at mh 1 _ rfl; have m2 := cell_at mh 2 _ rfl; have m3 := cell_at mh 3 _ rfl; go_simp; first | done | with_reducible rfl)
  refine wpAnyH_take (i := 9) (v := ?_) rfl (by kernel_rfl) (by kernel_rfl) (by kernel_rfl) (fun _ _ _ h => h) (Or.inl ⟨by kernel_rfl, ?_⟩) hHeld ?_
  rotate_left
  · (intro w' hw'; go_simp; first | done | with_reducible rfl)
  refine wpAnyH_ready (rs := [10]) (by kernel_rfl) (by simp) ?_
  refine AllReadyH.cons rfl (fun K hK => ?_) AllReadyH.nil
  go_simp
  refine (HIF.out _ hHeld).mono ?_
  rw [HFO.out]
  rintro x w2 ⟨rfl, hb2⟩
  have hS2 := hHeld.trans (hb2.mono hHeld.size)
  clear hb2
  go_wp2_with fail
  refine hK.out _ _ hS2 (fun hH1 => ?_)
  clear hK K hHeld
  refine wpAnyH_take (i := 11) (v := ?_) rfl (by kernel_rfl) (by kernel_rfl) (by kernel_rfl) (fun _ _ _ h => h) (Or.inl ⟨by kernel_rfl, ?_⟩) hH1 ?_
  rotate_left
  · (intro w' hw'; go_simp; first | done | with_reducible rfl)
  refine wpAnyH_take (i := 12) (v := ?_) rfl (by kernel_rfl) (by kernel_rfl) (by kernel_rfl) (fun _ _ _ h => h) (Or.inl ⟨by kernel_rfl, ?_⟩) hH1 ?_
  rotate_left
  · (intro w' hw'; go_simp; first | done | with_reducible rfl)
  refine wpAnyH_done (by kernel_rfl) ?_ _
  refine NoPanic.normal ?_
  go_simp
  have bh := HPX.out _ hS2
  have b2 := cell_at bh 2 _ rfl
  have b3 := cell_at bh 3 _ rfl
  have mh := HMX.out _ hS2
  have m0 := cell_at mh 0 _ rfl
  have m3 := cell_at mh 3 _ rfl
  clear bh mh
  go_wp2_with fail
  refine (HCl.out w2 hS2).mono ?_
  rintro x w3 ⟨A', c', rfl, hm3⟩
  have hS3 := hS2.trans (hm3.2.2.2.mono hS2.size)
  have mh := HMX.out _ hS3
  have m3 := cell_at mh 3 _ rfl
  have f3 := frozen_of_row _ _ 3 _ _ mh
  have hw3 : Below W.heap.size W w3 := HBW.out.trans (hS3.mono HBW.out.size)
  have hm4 : (w3.setCell ⟨W.heap.size, 3, none⟩ (.slice A' m c')).heap[W.heap.size]? = some (.cells #[.int .u32 (X : Nat), .int .i64 d, .int .i64 f, .slice A' m c'] 30 (0, 0)) := by rw [heap_setCell_same _ _ _ _ _ _ mh]; rfl
  have hp4 : (w3.setCell ⟨W.heap.size, 3, none⟩ (.slice A' m c')).heap[p]? = some (.cells #[.string S, .int .u32 (E : Nat), .int .u32 (X : Nat), .slice A n c] 25 (0, 0)) := by
    have := HPlt.out
    rw [heap_setCell_other _ _ _ _ (by show p ≠ W.heap.size; omega)]
    exact HPX.out _ hS3
  have HS5 := Lib.hid (show (w3.setCell ⟨W.heap.size, 3, none⟩ (.slice A' m c')).drew.heap[p]? = some (.cells #[.string S, .int .u32 (E : Nat), .int .u32 (X : Nat), .slice A n c] 25 (0, 0)) ∧ (w3.setCell ⟨W.heap.size, 3, none⟩ (.slice A' m c')).drew.heap[W.heap.size]? = some (.cells #[.int .u32 (X : Nat), .int .i64 d, .int .i64 f, .slice A' m c'] 30 (0, 0)) from ⟨hp4, hm4⟩)
  have hmb : W.heap.size < w3.heap.size := (Array.getElem?_eq_some_iff.1 mh).1
  have HT4 := Lib.hid (show codec.Touch (fun i => i = W.heap.size) W (w3.setCell ⟨W.heap.size, 3, none⟩ (.slice A' m c')) from (show codec.Touch (fun i => i = W.heap.size) W w3 from ⟨hw3.os, hw3.tape, hw3.output, hw3.size, fun k hk _ => hw3.block k hk⟩).setCell _ (.inl (Nat.le_refl _)) _)
  have HO4 := Lib.hid (show Own cM 4 B 30 (w3.setCell ⟨W.heap.size, 3, none⟩ (.slice A' m c')) (.slice A n c) ys from own_touch (HOW.out W (Below.refl _ _)) HT4.out (fun g e e' => HMO.out (by rw [e, e'])) (fun y hy ad e h0 e' => by
    have := ((HOW.out W (Below.refl _ _)).2 y hy).1.1.lt ad e h0
    omega))
  have HA3 := Lib.hid (show ∀ ad, A' = some ad → W1.heap.size ≤ ad.block from fun ad e => Nat.le_trans hS2.size (hm3.2.2.1 ad e))
  have HC4 := Lib.hid (show Oct (w3.setCell ⟨W.heap.size, 3, none⟩ (.slice A' m c')) ⟨⟨2, E, S, X, d, f, l⟩, 0, A', m, c'⟩ from ⟨hm3.1.kept fun ad e h0 => heap_setCell_other _ _ _ _ (by
    have h1 := HA3.out ad e
    have h2 : W.heap.size < W1.heap.size := by rw [HW1.out]; simp
    show ad.block ≠ W.heap.size
    omega), hm3.2.1⟩)
  have HNE := Lib.hid (show ∀ ad, A' = some ad → 0 < m → (Value.slice A n c).ownBlock ≠ some ad.block from fun ad e h0 e' => by
    have h1 := HA3.out ad e
    have h2 := ((HOW.out W (Below.refl _ _)).lt e').2
    have h3 := HBW.out.size
    omega)
  have HBB := Lib.hid (show B ≤ w3.heap.size from Nat.le_trans HBB0.out hw3.size)
  have HBB2 := Lib.hid (show (w3.setCell ⟨W.heap.size, 3, none⟩ (.slice A' m c')).heap.size = w3.heap.size by simp)
  have HNL2 := Lib.hid (show (ys ++ [(⟨⟨2, E, S, X, d, f, l⟩, 0, A', m, c'⟩ : Y)]).length = n + 1 by rw [List.length_append, HNL0.out]; rfl)
  clear hS2 hm3 hS3 mh hw3 hm4 hp4 hmb b2 b3 m0
  go_wp2_with fail
  clear m3 f3
  generalize w3.setCell ⟨W.heap.size, 3, none⟩ (.slice A' m c') = w5 at *
  rw [← HBB2.out] at HBB
  refine wp_region_noPanic ?_
  refine held.wp_region_G (S := fun w' => w'.heap[p]? = some (.cells #[.string S, .int .u32 (E : Nat), .int .u32 (X : Nat), .slice A n c] 25 (0, 0)) ∧ w'.heap[W.heap.size]? = some (.cells #[.int .u32 (X : Nat), .int .i64 d, .int .i64 f, .slice A' m c'] 30 (0, 0))) 10 (by kernel_rfl) HS5.out (fun hHeld => ?_)
  refine held.wpAnyG_take (i := 0) (v := ?_) rfl (by kernel_rfl) (by kernel_rfl) (by kernel_rfl) (by kernel_rfl) (fun _ _ _ h => h) (Or.inl ⟨by kernel_rfl, ?_⟩) hHeld ?_
  rotate_left
  · (intro w' hw'; go_simp; first | done | with_reducible rfl)
  refine held.wpAnyG_take (i := 1) (v := ?_) rfl (by kernel_rfl) (by kernel_rfl) (by kernel_rfl) (by kernel_rfl) (fun _ _ _ h => h) (Or.inl ⟨by kernel_rfl, ?_⟩) hHeld ?_
  rotate_left
  · (intro w' hw'; go_simp; first | done | with_reducible rfl)
  refine held.wpAnyG_take (i := 2) (v := ?_) rfl (by kernel_rfl) (by kernel_rfl) (by kernel_rfl) (by kernel_rfl) (fun _ _ _ h => h) (Or.inl ⟨by kernel_rfl, ?_⟩) hHeld ?_
  rotate_left
  · (intro w' hw'; go_simp; first | done | with_reducible rfl)
  refine held.wpAnyG_take (i := 3) (v := ?_) rfl (by kernel_rfl) (by kernel_rfl) (by kernel_rfl) (by kernel_rfl) (fun _ _ _ h => h) (Or.inl ⟨by kernel_rfl, ?_⟩) hHeld ?_
  rotate_left
  · (intro w' hw'; go_simp; first | done | with_reducible rfl)
  refine held.wpAnyG_take (i := 4) (v := ?_) rfl (by kernel_rfl) (by kernel_rfl) (by kernel_rfl) (by kernel_rfl) (fun _ _ _ h => h) (Or.inl ⟨by kernel_rfl, ?_⟩) hHeld ?_
  rotate_left
  · (intro w' hw'; obtain ⟨bh, mh⟩ := hw'; have b3 := cell_at bh 3 _ rfl; go_simp; first | done | with_reducible rfl)
  refine held.wpAnyG_take (i := 5) (v := ?_) rfl (by kernel_rfl) (by kernel_rfl) (by kernel_rfl) (by kernel_rfl) (fun _ _ _ h => h) (Or.inl ⟨by kernel_rfl, ?_⟩) hHeld ?_
  rotate_left
  · (intro w' hw'; obtain ⟨bh, mh⟩ := hw'; have m0 := cell_at mh 0 _ rfl; have m1 := cell_at mh 1 _ rfl; have m2 := cell_at mh 2 _ rfl; have m3 := cell_at mh 3 _ rfl; go_simp; first | done | with_reducible rfl)
  have HO5 := Lib.hid (show Own cM 4 B 30 w5.drew (.slice A n c) ys from HO4.out.below (codec.below_draws (Below.refl _ _) 1))
  have HC5 := Lib.hid (show Oct w5.drew ⟨⟨2, E, S, X, d, f, l⟩, 0, A', m, c'⟩ from HC4.out.below (codec.below_draws (Below.refl _ _) 1))
  have HZ5 := Lib.hid (show w5.drew.heap.size = w5.heap.size from rfl)
  have HTd := Lib.hid (show codec.Touch (fun i => i = W.heap.size) W w5.drew from HT4.out)
  have HBB6 := Lib.hid (show B ≤ w5.drew.heap.size from HBB.out)
  have HS6 := Lib.hid (show w5.drew.heap[p]? = some (.cells #[.string S, .int .u32 (E : Nat), .int .u32 (X : Nat), .slice A n c] 25 (0, 0)) ∧ w5.drew.heap[W.heap.size]? = some (.cells #[.int .u32 (X : Nat), .int .i64 d, .int .i64 f, .slice A' m c'] 30 (0, 0)) from HS5.out)
  generalize w5.drew = w6 at *
  refine held.wpAnyG_ready (rs := [6]) (by kernel_rfl) (by simp) ?_
  refine held.AllReadyG.cons rfl (fun K hK => ?_) held.AllReadyG.nil
  go_simp
  have hbl : Below w6.heap.size w6 (w6.alloc (.cells #[.int .u32 (X : Nat), .int .i64 d, .int .i64 f, .slice A' m c'] 30)) := (Below.refl _ _).alloc (Nat.le_refl _) _
  refine hK.out _ _ (fun _ => ⟨(hbl.block _ (Array.getElem?_eq_some_iff.1 hHeld.1).1).trans hHeld.1, (hbl.block _ (Array.getElem?_eq_some_iff.1 hHeld.2).1).trans hHeld.2⟩) (fun hh => ?_)
  have hH1 := hh (by decide)
  clear hK K hh hHeld
  clear hbl
  refine held.wpAnyG_ready (rs := [7]) (by kernel_rfl) (by simp) ?_
  refine held.AllReadyG.cons rfl (fun K hK => ?_) held.AllReadyG.nil
  refine step_append_own rfl (.tmp 50) (.tmp 52) rfl B (.slice A n c) ys (by simp [Act.eval, Act.put]) HO5.out HBB6.out (by have := HNL.out; omega) ⟨⟨2, E, S, X, d, f, l⟩, 0, A', m, c'⟩ (0, 0) w6.heap.size rfl (by simp [Act.eval, Act.put]) _ rfl HC5.out HNE.out ?_
  intro v7 w7 ho7 hg7 hat7
  obtain ⟨A7, c7, rfl, -, -, -⟩ := ho7.rd fM
  rw [HNL2.out] at ho7 hat7
  have hp7 := (hg7.block p (Array.getElem?_eq_some_iff.1 HS6.out.1).1 (fun e => HPO.out e.symm)).trans HS6.out.1
  have hm7 := (hg7.block W.heap.size (Array.getElem?_eq_some_iff.1 HS6.out.2).1 (fun e => HMO.out e.symm)).trans HS6.out.2
  have cc := cell_at hp7 3 _ rfl
  have ff := frozen_of_row _ _ 3 _ _ hp7
  have HX7 := Lib.hid (And.intro ho7 (And.intro hg7 (And.intro hat7 (And.intro hp7 hm7))))
  rw [HNL2.out]
  clear ho7 hg7 hat7
  refine hK.out _ _ (fun _ => ⟨hp7, hm7⟩) (fun hh => ?_)
  have hH2 := hh (by decide)
  clear hK K hh hH1
  refine held.wpAnyG_ready (rs := [8]) (by kernel_rfl) (by simp) ?_
  refine held.AllReadyG.cons rfl (fun K hK => ?_) held.AllReadyG.nil
  go_simp
  refine hK.out _ _ (fun _ => ⟨hp7, hm7⟩) (fun hh => ?_)
  have hH3 := hh (by decide)
  clear hK K hh hH2
  refine held.wpAnyG_take (i := 9) (v := ?_) rfl (by kernel_rfl) (by kernel_rfl) (by kernel_rfl) (by kernel_rfl) (fun _ _ _ h => h) (Or.inl ⟨by kernel_rfl, ?_⟩) hH3 ?_
  rotate_left
  · (intro w' hw'; go_simp; first | done | with_reducible rfl)
  refine held.wpAnyG_ready (rs := [10]) (by kernel_rfl) (by simp) ?_
  refine held.AllReadyG.cons rfl (fun K hK => ?_) held.AllReadyG.nil
  go_simp
  refine hK.out _ _ (fun hh => absurd rfl hh) (fun _ => ?_)
  clear hK K hH3
  refine held.wpAnyG_done (by kernel_rfl) ?_ _
  refine NoPanic.normal ?_
  go_simp
  clear cc ff hp7 hm7
  obtain ⟨ho7, hg7, hat7, hp7, hm7⟩ := HX7.out
  have hp8 : (w7.setCell ⟨p, 3, none⟩ (.slice A7 (n + 1) c7)).heap[p]? = some (.cells #[.string S, .int .u32 (E : Nat), .int .u32 (X : Nat), .slice A7 (n + 1) c7] 25 (0, 0)) := by rw [heap_setCell_same _ _ _ _ _ _ hp7]; rfl
  have hm8 : (w7.setCell ⟨p, 3, none⟩ (.slice A7 (n + 1) c7)).heap[W.heap.size]? = some (.cells #[.int .u32 (X : Nat), .int .i64 d, .int .i64 f, .slice A' m c'] 30 (0, 0)) := by
    have := HPlt.out
    rw [heap_setCell_other _ _ _ _ (by show W.heap.size ≠ p; omega)]
    exact hm7
  have HP8 := Lib.hid hp8
  have e2 := cell_at hp8 2 _ rfl
  have g2 := frozen_of_row _ _ 2 _ _ hp8
  have n0 := cell_at hm8 0 _ rfl
  have kx : IntKind.u32.wrap ((X : Int) + 1) = ((X + 1 : Nat) : Int) := (IntWalk.u32_in (X + 1 : Nat) (by have := HXL.out; omega))
  have kx2 : IntKind.u32.wrap (((X : Nat) : Int) + 1) = ((X + 1 : Nat) : Int) := kx
  have hmp : ¬ W.heap.size = p := by have := HPlt.out; omega
  have hpm : ¬ p = W.heap.size := by have := HPlt.out; omega
  clear hp8 hm8 ho7 hg7 hat7 hp7 hm7
  go_wp2_with fail
  go_ret2
  obtain ⟨ho7, hg7, hat7, hp7, hm7⟩ := HX7.out
  have hwz : W.heap.size ≤ w6.heap.size := HTd.out.2.2.2.1
  have hpl := HPlt.out
  have hv7 : (Value.slice A7 (n + 1) c7).ownBlock ≠ some p := fun e => by
    rcases hat7 with h | ⟨g, h, hg⟩
    · exact HPO.out (h ▸ e)
    · rw [h] at e
      have := Option.some.inj e
      omega
  have hy7 : ∀ y ∈ ys ++ [(⟨⟨2, E, S, X, d, f, l⟩, 0, A', m, c'⟩ : Y)], ∀ ad, y.A = some ad → 0 < y.m → ad.block ≠ p := fun y hy ad e h0 => by
    rcases List.mem_append.1 hy with hy | hy
    · exact HPY.out y hy ad e h0
    · simp at hy
      subst hy
      have h1 := HA3.out ad e
      have h2 := HBW.out.size
      omega
  have ht : codec.Touch (fun i => i = p ∨ (Value.slice A n c).ownBlock = some i) W w7 := (HTd.out.mono (fun i hi e => by omega)).trans ⟨hg7.os, hg7.tape, hg7.output, hg7.size, fun k hk hk2 => hg7.block k hk (fun e => hk2 (.inl (.inr e.symm)))⟩
  refine ⟨rfl, A7, n + 1, c7, ⟨⟨2, E, S, X, d, f, l⟩, 0, A', m, c'⟩, ?_, own_other (own_other ho7 hv7 hy7) hv7 hy7, rfl, fun ad e => ?_, (ht.setCell _ (.inr (.inl rfl)) _).setCell _ (.inr (.inl rfl)) _, ?_⟩
  · rw [heap_setCell_same _ _ _ _ _ _ HP8.out]
    rfl
  · have h1 := HA3.out ad e
    have h2 := HBW.out.size
    omega
  · rcases hat7 with h | ⟨g, h, hg⟩
    · exact .inl h
    · exact .inr ⟨g, h, by omega⟩
end Go.Proofs.YtepngemlaiffgaaDoor.mal
namespace Go.Proofs.YtepngemlaiffgaaDoor.mal
open Go.ChangeShapes Go.WideShapes Go.ChangeAt Go.RowKit
open Go.Proofs.YtepngemlaiffgaaDoor.codec (Bytes vals)
open Go.Proofs.YtepngemlaiffgaaDoor.bod (cell_at Fit boxed named formedB)
open Go.Proofs.YtepngemlaiffgaaDoor.lg (Nt Y Rd Own Oct cM fM fl fl_at nts nts_at nts_len take_next)
set_option linter.unusedVariables false
set_option maxRecDepth 100000
set_option linter.unusedSimpArgs false

theorem add_no (W : World) (p : Nat) (S : ByteArray) (E X : Nat) (A : Option Addr) (n c : Nat) (l : List Nt) (u : Nat) (d f : Int) (Am : Option Addr) (m cm e : Nat) (hp : W.heap[p]? = some (.cells #[.string S, .int .u32 (E : Nat), .int .u32 (X : Nat), .slice A n c] 25 (0, 0))) (hs : S.size ≤ 100000) (hr : Fit W) (hl : l.length = n) (he : addE S E X l d f m = e) (h0 : e ≠ 0) :
    Calls Tryd.prog 39 #[.pointer (some ⟨p, 0, none⟩), .agg #[.int .u32 (u : Nat), .int .i64 d, .int .i64 f, .slice Am m cm]] W fun x w' => x = .returned (.tuple #[.int .u32 0, .int .i64 (e : Nat)]) ∧ Below W.heap.size W w' := by
  subst hl
  unfold addE at he
  cases hf : formedB 2 E S X d f 0 with
  | false =>
    rw [hf, if_pos rfl] at he
    subst he
    exact add_form W p S E X A _ c [] u d f Am m cm 0 hp hs hr hf
  | true =>
    rw [hf, if_neg (by simp)] at he
    by_cases h1 : 20000 < m
    · rw [if_pos h1] at he
      subst he
      exact add_long W p S E X A _ c [] u d f Am m cm 0 hp hs hr hf h1
    · rw [if_neg h1] at he
      by_cases h2 : 500 ≤ l.length
      · rw [if_pos h2] at he
        subst he
        exact add_many W p S E X A _ c [] u d f Am m cm 0 hp hs hr hf (by omega) h2
      · rw [if_neg h2] at he
        by_cases h3 : X = 4294967295
        · rw [if_pos h3] at he
          subst he
          exact add_full W p S E X A _ c [] u d f Am m cm 0 hp hs hr hf (by omega) (by omega) h3
        · rw [if_neg h3] at he
          exact absurd he.symm h0
theorem addE_good {S : ByteArray} {E X : Nat} {l : List Nt} {d f : Int} {m : Nat} (he : addE S E X l d f m = 0) : formedB 2 E S X d f 0 = true ∧ m ≤ 20000 ∧ l.length < 500 ∧ X ≠ 4294967295 := by
  unfold addE at he
  cases hf : formedB 2 E S X d f 0 with
  | false =>
    rw [hf, if_pos rfl] at he
    omega
  | true =>
    rw [hf, if_neg (by simp)] at he
    split at he
    · omega
    · split at he
      · omega
      · split at he
        · omega
        · exact ⟨rfl, by omega, by omega, by omega⟩
/-- What Append answers where it refuses. -/
def AppNo (W : World) (e : Nat) (x : Ending) (w' : World) : Prop := x = .returned (.tuple #[.agg #[.string ⟨#[]⟩, .int .u32 0, .int .u32 0, .slice none 0 0], .int .u32 0, .int .i64 (e : Nat)]) ∧ Below W.heap.size W w'
/-- What Append answers where it does not. -/
def AppYes (W : World) (S : ByteArray) (E X : Nat) (l : List Nt) (t : Nt) (x : Ending) (w' : World) : Prop :=
  ∃ A n c ys, x = .returned (.tuple #[.agg #[.string S, .int .u32 (E : Nat), .int .u32 ((X + 1 : Nat) : Nat), .slice A n c], .int .u32 (X : Nat), .int .i64 0]) ∧ Own cM 4 W.heap.size 30 w' (.slice A n c) ys ∧ nts ys = l ++ [t] ∧ Below W.heap.size W w'
set_option maxHeartbeats 2000000 in
theorem append_wrong (W : World) (S : ByteArray) (E X : Nat) (A : Option Addr) (n c : Nat) (qs : List Y) (u : Nat) (d f : Int) (Am : Option Addr) (m cm : Nat) (hR : Rd cM 4 W A n qs) (hn : n ≤ 1000000) (hs : S.size ≤ 100000) (hm : ∀ y ∈ qs, y.m ≤ 1000000) (hr : Fit W) (hw : right S E X (nts qs) = false) :
    Calls Tryd.prog 17 #[.agg #[.string S, .int .u32 (E : Nat), .int .u32 (X : Nat), .slice A n c], .agg #[.int .u32 (u : Nat), .int .i64 d, .int .i64 f, .slice Am m cm]] W fun x w' => AppNo W 1 x w' := by
  obtain ⟨W1, hW1⟩ : ∃ W1, W1 = ((W.alloc (.cells #[.string S, .int .u32 (E : Nat), .int .u32 (X : Nat), .slice A n c] 25)).alloc (.cells #[.int .u32 (u : Nat), .int .i64 d, .int .i64 f, .slice Am m cm] 30)).alloc (.cells #[.string ⟨#[]⟩, .int .u32 0, .int .u32 0, .slice none 0 0] 25) := ⟨_, rfl⟩
  have HBW := Lib.hid (show Below W.heap.size W W1 by rw [hW1]; exact (((Below.refl _ _).alloc (Nat.le_refl _) _).alloc (by simp) _).alloc (by simp; omega) _)
  have HZW := Lib.hid (show W1.heap.size = W.heap.size + 3 by rw [hW1]; simp)
  have h1 : W1.heap[W.heap.size]? = some (.cells #[.string S, .int .u32 (E : Nat), .int .u32 (X : Nat), .slice A n c] 25 (0, 0)) := by rw [hW1, heap_alloc_old _ _ (by simp; omega), heap_alloc_old _ _ (by simp)]; exact heap_alloc_new _ _
  have h2 : W1.heap[W.heap.size + 1]? = some (.cells #[.int .u32 (u : Nat), .int .i64 d, .int .i64 f, .slice Am m cm] 30 (0, 0)) := by rw [hW1, heap_alloc_old _ _ (by simp)]; have := heap_alloc_new (W.alloc (.cells #[.string S, .int .u32 (E : Nat), .int .u32 (X : Nat), .slice A n c] 25)) (.cells #[.int .u32 (u : Nat), .int .i64 d, .int .i64 f, .slice Am m cm] 30); simpa using this
  have h3 : W1.heap[W.heap.size + 2]? = some (.cells #[.string ⟨#[]⟩, .int .u32 0, .int .u32 0, .slice none 0 0] 25 (0, 0)) := by rw [hW1]; have := heap_alloc_new ((W.alloc (.cells #[.string S, .int .u32 (E : Nat), .int .u32 (X : Nat), .slice A n c] 25)).alloc (.cells #[.int .u32 (u : Nat), .int .i64 d, .int .i64 f, .slice Am m cm] 30)) (.cells #[.string ⟨#[]⟩, .int .u32 0, .int .u32 0, .slice none 0 0] 25); simpa using this
  have HP1 := Lib.hid (fun (w' : World) (h : Below W1.heap.size W1 w') => show w'.heap[W.heap.size]? = some (.cells #[.string S, .int .u32 (E : Nat), .int .u32 (X : Nat), .slice A n c] 25 (0, 0)) from (h.block _ (by rw [HZW.out]; omega)).trans h1)
  have HP2 := Lib.hid (fun (w' : World) (h : Below W1.heap.size W1 w') => show w'.heap[W.heap.size + 1]? = some (.cells #[.int .u32 (u : Nat), .int .i64 d, .int .i64 f, .slice Am m cm] 30 (0, 0)) from (h.block _ (by rw [HZW.out]; omega)).trans h2)
  have HP3 := Lib.hid (fun (w' : World) (h : Below W1.heap.size W1 w') => show w'.heap[W.heap.size + 2]? = some (.cells #[.string ⟨#[]⟩, .int .u32 0, .int .u32 0, .slice none 0 0] 25 (0, 0)) from (h.block _ (by rw [HZW.out]; omega)).trans h3)
  have HRt := Lib.hid (right_any W1 S E X A n c qs (hR.below HBW.out) hn hs (hr.below HBW.out))
  have HFit := Lib.hid (fun (w' : World) (h : Below W.heap.size W w') => hr.below h)
  have HOwn := Lib.hid (fun (w' : World) (h : Below W1.heap.size W1 w') => own_any w' S E X A n c qs (hR.below (HBW.out.trans (h.mono HBW.out.size))) hn hs hm)
  have HSZ := Lib.hid hs
  have c0 := cell_at h1 0 _ rfl
  have c1 := cell_at h1 1 _ rfl
  have c2 := cell_at h1 2 _ rfl
  have c3 := cell_at h1 3 _ rfl
  have HW1 := Lib.hid hW1
  rw [hW1] at c0 c1 c2 c3
  clear hW1 h1 h2 h3
  have HRG := Lib.hid hw
  clear hw hR hm hr
  go_enter Tryd.func17, Tryd.ntmps17
  go_wp2_with fail
  rw [← HW1.out]
  clear c0 c1 c2 c3
  refine HRt.out.mono ?_
  rw [HRG.out]
  rintro x w1 ⟨rfl, hb1⟩
  have HB1 := Lib.hid hb1
  have hz := HP3.out _ hb1
  have HZ := Lib.hid hz
  have r0 := cell_at (hz) 0 _ rfl
  have r1 := cell_at (hz) 1 _ rfl
  have r2 := cell_at (hz) 2 _ rfl
  have r3 := cell_at (hz) 3 _ rfl
  have g0 := frozen_of_row _ _ 0 _ _ (hz)
  have g1 := frozen_of_row _ _ 1 _ _ (hz)
  have g2 := frozen_of_row _ _ 2 _ _ (hz)
  have g3 := frozen_of_row _ _ 3 _ _ (hz)
  clear hb1 hz
  go_wp2_with fail
  obtain ⟨k1, k2, k3⟩ := four HZ.out rfl (.string ⟨#[]⟩) (.int .u32 0) (.int .u32 0) (.slice none 0 0)
  refine bodyPost_ret (results_cell_tmp_tmp Tryd.results17 _ _ (W.heap.size + 2) _ _ _ _ rfl k1 Tryd.underlying25 rfl (boxSize _ rfl)) rfl ⟨rfl, k3 _ _ (HBW.out.trans (HB1.out.mono HBW.out.size)) (by omega)⟩
set_option maxHeartbeats 4000000 in
theorem append_no (W : World) (S : ByteArray) (E X : Nat) (A : Option Addr) (n c : Nat) (qs : List Y) (u : Nat) (d f : Int) (Am : Option Addr) (m cm : Nat) (hR : Rd cM 4 W A n qs) (hn : n ≤ 1000000) (hs : S.size ≤ 100000) (hm : ∀ y ∈ qs, y.m ≤ 1000000) (hr : Fit W) (hw : right S E X (nts qs) = true) (e : Nat) (he : addE S E X (nts qs) d f m = e) (h0 : e ≠ 0) :
    Calls Tryd.prog 17 #[.agg #[.string S, .int .u32 (E : Nat), .int .u32 (X : Nat), .slice A n c], .agg #[.int .u32 (u : Nat), .int .i64 d, .int .i64 f, .slice Am m cm]] W fun x w' => AppNo W e x w' := by
  obtain ⟨W1, hW1⟩ : ∃ W1, W1 = ((W.alloc (.cells #[.string S, .int .u32 (E : Nat), .int .u32 (X : Nat), .slice A n c] 25)).alloc (.cells #[.int .u32 (u : Nat), .int .i64 d, .int .i64 f, .slice Am m cm] 30)).alloc (.cells #[.string ⟨#[]⟩, .int .u32 0, .int .u32 0, .slice none 0 0] 25) := ⟨_, rfl⟩
  have HBW := Lib.hid (show Below W.heap.size W W1 by rw [hW1]; exact (((Below.refl _ _).alloc (Nat.le_refl _) _).alloc (by simp) _).alloc (by simp; omega) _)
  have HZW := Lib.hid (show W1.heap.size = W.heap.size + 3 by rw [hW1]; simp)
  have h1 : W1.heap[W.heap.size]? = some (.cells #[.string S, .int .u32 (E : Nat), .int .u32 (X : Nat), .slice A n c] 25 (0, 0)) := by rw [hW1, heap_alloc_old _ _ (by simp; omega), heap_alloc_old _ _ (by simp)]; exact heap_alloc_new _ _
  have h2 : W1.heap[W.heap.size + 1]? = some (.cells #[.int .u32 (u : Nat), .int .i64 d, .int .i64 f, .slice Am m cm] 30 (0, 0)) := by rw [hW1, heap_alloc_old _ _ (by simp)]; have := heap_alloc_new (W.alloc (.cells #[.string S, .int .u32 (E : Nat), .int .u32 (X : Nat), .slice A n c] 25)) (.cells #[.int .u32 (u : Nat), .int .i64 d, .int .i64 f, .slice Am m cm] 30); simpa using this
  have h3 : W1.heap[W.heap.size + 2]? = some (.cells #[.string ⟨#[]⟩, .int .u32 0, .int .u32 0, .slice none 0 0] 25 (0, 0)) := by rw [hW1]; have := heap_alloc_new ((W.alloc (.cells #[.string S, .int .u32 (E : Nat), .int .u32 (X : Nat), .slice A n c] 25)).alloc (.cells #[.int .u32 (u : Nat), .int .i64 d, .int .i64 f, .slice Am m cm] 30)) (.cells #[.string ⟨#[]⟩, .int .u32 0, .int .u32 0, .slice none 0 0] 25); simpa using this
  have HP1 := Lib.hid (fun (w' : World) (h : Below W1.heap.size W1 w') => show w'.heap[W.heap.size]? = some (.cells #[.string S, .int .u32 (E : Nat), .int .u32 (X : Nat), .slice A n c] 25 (0, 0)) from (h.block _ (by rw [HZW.out]; omega)).trans h1)
  have HP2 := Lib.hid (fun (w' : World) (h : Below W1.heap.size W1 w') => show w'.heap[W.heap.size + 1]? = some (.cells #[.int .u32 (u : Nat), .int .i64 d, .int .i64 f, .slice Am m cm] 30 (0, 0)) from (h.block _ (by rw [HZW.out]; omega)).trans h2)
  have HP3 := Lib.hid (fun (w' : World) (h : Below W1.heap.size W1 w') => show w'.heap[W.heap.size + 2]? = some (.cells #[.string ⟨#[]⟩, .int .u32 0, .int .u32 0, .slice none 0 0] 25 (0, 0)) from (h.block _ (by rw [HZW.out]; omega)).trans h3)
  have HRt := Lib.hid (right_any W1 S E X A n c qs (hR.below HBW.out) hn hs (hr.below HBW.out))
  have HFit := Lib.hid (fun (w' : World) (h : Below W.heap.size W w') => hr.below h)
  have HOwn := Lib.hid (fun (w' : World) (h : Below W1.heap.size W1 w') => own_any w' S E X A n c qs (hR.below (HBW.out.trans (h.mono HBW.out.size))) hn hs hm)
  have HSZ := Lib.hid hs
  have c0 := cell_at h1 0 _ rfl
  have c1 := cell_at h1 1 _ rfl
  have c2 := cell_at h1 2 _ rfl
  have c3 := cell_at h1 3 _ rfl
  have HW1 := Lib.hid hW1
  rw [hW1] at c0 c1 c2 c3
  clear hW1 h1 h2 h3
  have HRG := Lib.hid hw
  have HE := Lib.hid (And.intro he h0)
  have q0 : ((e : Int) != 0) = true := by rw [bne_iff_ne]; omega
  clear hw hR hm hr he h0
  go_enter Tryd.func17, Tryd.ntmps17
  go_wp2_with fail
  rw [← HW1.out]
  clear c0 c1 c2 c3
  refine HRt.out.mono ?_
  rw [HRG.out]
  rintro x w1 ⟨rfl, hb1⟩
  have HB1 := Lib.hid hb1
  have c0 := cell_at (HP1.out _ hb1) 0 _ rfl
  have c1 := cell_at (HP1.out _ hb1) 1 _ rfl
  have c2 := cell_at (HP1.out _ hb1) 2 _ rfl
  have c3 := cell_at (HP1.out _ hb1) 3 _ rfl
  clear hb1
  go_wp2_with fail
  clear c0 c1 c2 c3
  refine (HOwn.out w1 HB1.out).mono ?_
  rintro x w2 ⟨A2, n2, cc2, ys2, rfl, ho2, hl2, hf2, hb2⟩
  have hB2 := HB1.out.trans (hb2.mono HB1.out.size)
  have hz1 : W1.heap.size ≤ w1.heap.size := HB1.out.size
  have hzw := HZW.out
  have hq := HP1.out _ hB2
  have HQ := Lib.hid hq
  obtain ⟨k1, k2, k3⟩ := four hq rfl (.string S) (.int .u32 (E : Nat)) (.int .u32 (X : Nat)) (.slice A2 n2 cc2)
  have hov : (Value.slice A2 n2 cc2).ownBlock ≠ some W.heap.size := fun e => by have := (ho2.lt e).1; omega
  have hoy : ∀ y ∈ ys2, ∀ ad, y.A = some ad → 0 < y.m → ad.block ≠ W.heap.size := fun y hy ad e h0 => by have := hf2 y hy ad e; omega
  have ho3 := own_other (u := .slice A2 n2 cc2) (j := 3) (own_other (u := .int .u32 (X : Nat)) (j := 2) (own_other (u := .int .u32 (E : Nat)) (j := 1) (own_other (u := .string S) (j := 0) ho2 hov hoy) hov hoy) hov hoy) hov hoy
  have hm3 := (k2 (W.heap.size + 1) (by omega)).trans (HP2.out _ hB2)
  have hr3 := (k2 (W.heap.size + 2) (by omega)).trans (HP3.out _ hB2)
  have hw3 := k3 W.heap.size W (HBW.out.trans (hB2.mono HBW.out.size)) (Nat.le_refl _)
  have c0 := cell_at (hq) 0 _ rfl
  have c1 := cell_at (hq) 1 _ rfl
  have c2 := cell_at (hq) 2 _ rfl
  have c3 := cell_at (hq) 3 _ rfl
  have g0 := frozen_of_row _ _ 0 _ _ (hq)
  have g1 := frozen_of_row _ _ 1 _ _ (hq)
  have g2 := frozen_of_row _ _ 2 _ _ (hq)
  have g3 := frozen_of_row _ _ 3 _ _ (hq)
  have m0 := cell_at (hm3) 0 _ rfl
  have m1 := cell_at (hm3) 1 _ rfl
  have m2 := cell_at (hm3) 2 _ rfl
  have m3 := cell_at (hm3) 3 _ rfl
  have HK1 := Lib.hid k1
  have HO3 := Lib.hid ho3
  have HR3 := Lib.hid hr3
  have HW3 := Lib.hid hw3
  have HV3 := Lib.hid (And.intro hov hoy)
  have HL2 := Lib.hid hl2
  have HS3 := Lib.hid (show w1.heap.size ≤ ((((w2.setCell ⟨W.heap.size, 0, none⟩ (.string S)).setCell ⟨W.heap.size, 1, none⟩ (.int .u32 (E : Nat))).setCell ⟨W.heap.size, 2, none⟩ (.int .u32 (X : Nat))).setCell ⟨W.heap.size, 3, none⟩ (.slice A2 n2 cc2)).heap.size by simpa using hb2.size)
  have HZ1 := Lib.hid hz1
  have HF2 := Lib.hid hf2
  clear ho2 hl2 hf2 hb2 hB2 hz1 hzw hq k1 k2 k3 hov hoy ho3 hm3 hr3 hw3
  go_wp2_with fail
  clear c0 c1 c2 c3 g0 g1 g2 g3 m0 m1 m2 m3
  generalize (((w2.setCell ⟨W.heap.size, 0, none⟩ (.string S)).setCell ⟨W.heap.size, 1, none⟩ (.int .u32 (E : Nat))).setCell ⟨W.heap.size, 2, none⟩ (.int .u32 (X : Nat))).setCell ⟨W.heap.size, 3, none⟩ (.slice A2 n2 cc2) = w3 at *
  refine (add_no w3 W.heap.size S E X A2 n2 cc2 (nts ys2) u d f Am m cm e HK1.out HSZ.out (HFit.out _ HW3.out) (by rw [nts_len]; exact own_len HO3.out) (by rw [HL2.out]; exact HE.out.1) HE.out.2).mono ?_
  rintro x w4 ⟨rfl, hb4⟩
  have hr4 := (hb4.block _ (Array.getElem?_eq_some_iff.1 HR3.out).1).trans HR3.out
  have HR4 := Lib.hid hr4
  have HW4 := Lib.hid (HW3.out.trans (hb4.mono HW3.out.size))
  have r0 := cell_at (hr4) 0 _ rfl
  have r1 := cell_at (hr4) 1 _ rfl
  have r2 := cell_at (hr4) 2 _ rfl
  have r3 := cell_at (hr4) 3 _ rfl
  have g0 := frozen_of_row _ _ 0 _ _ (hr4)
  have g1 := frozen_of_row _ _ 1 _ _ (hr4)
  have g2 := frozen_of_row _ _ 2 _ _ (hr4)
  have g3 := frozen_of_row _ _ 3 _ _ (hr4)
  clear hb4 hr4
  go_wp2_with fail
  obtain ⟨k1, k2, k3⟩ := four HR4.out rfl (.string ⟨#[]⟩) (.int .u32 0) (.int .u32 0) (.slice none 0 0)
  refine bodyPost_ret (results_cell_tmp_tmp Tryd.results17 _ _ (W.heap.size + 2) _ _ _ _ rfl k1 Tryd.underlying25 rfl (boxSize _ rfl)) rfl ⟨rfl, k3 _ _ HW4.out (by omega)⟩
set_option maxHeartbeats 4000000 in
theorem append_yes (W : World) (S : ByteArray) (E X : Nat) (A : Option Addr) (n c : Nat) (qs : List Y) (u : Nat) (d f : Int) (Am : Option Addr) (m cm : Nat) (hR : Rd cM 4 W A n qs) (hn : n ≤ 1000000) (hs : S.size ≤ 100000) (hm : ∀ y ∈ qs, y.m ≤ 1000000) (hr : Fit W) (hw : right S E X (nts qs) = true) (hX : X < 4294967296) (l : List Nat) (hB : Bytes W Am m l) (hnil : Am = none → cm = 0) (he : addE S E X (nts qs) d f m = 0) :
    Calls Tryd.prog 17 #[.agg #[.string S, .int .u32 (E : Nat), .int .u32 (X : Nat), .slice A n c], .agg #[.int .u32 (u : Nat), .int .i64 d, .int .i64 f, .slice Am m cm]] W fun x w' => AppYes W S E X (nts qs) ⟨2, E, S, X, d, f, l⟩ x w' := by
  obtain ⟨e1, e2, e3, e4⟩ := addE_good he
  obtain ⟨W1, hW1⟩ : ∃ W1, W1 = ((W.alloc (.cells #[.string S, .int .u32 (E : Nat), .int .u32 (X : Nat), .slice A n c] 25)).alloc (.cells #[.int .u32 (u : Nat), .int .i64 d, .int .i64 f, .slice Am m cm] 30)).alloc (.cells #[.string ⟨#[]⟩, .int .u32 0, .int .u32 0, .slice none 0 0] 25) := ⟨_, rfl⟩
  have HBW := Lib.hid (show Below W.heap.size W W1 by rw [hW1]; exact (((Below.refl _ _).alloc (Nat.le_refl _) _).alloc (by simp) _).alloc (by simp; omega) _)
  have HZW := Lib.hid (show W1.heap.size = W.heap.size + 3 by rw [hW1]; simp)
  have h1 : W1.heap[W.heap.size]? = some (.cells #[.string S, .int .u32 (E : Nat), .int .u32 (X : Nat), .slice A n c] 25 (0, 0)) := by rw [hW1, heap_alloc_old _ _ (by simp; omega), heap_alloc_old _ _ (by simp)]; exact heap_alloc_new _ _
  have h2 : W1.heap[W.heap.size + 1]? = some (.cells #[.int .u32 (u : Nat), .int .i64 d, .int .i64 f, .slice Am m cm] 30 (0, 0)) := by rw [hW1, heap_alloc_old _ _ (by simp)]; have := heap_alloc_new (W.alloc (.cells #[.string S, .int .u32 (E : Nat), .int .u32 (X : Nat), .slice A n c] 25)) (.cells #[.int .u32 (u : Nat), .int .i64 d, .int .i64 f, .slice Am m cm] 30); simpa using this
  have h3 : W1.heap[W.heap.size + 2]? = some (.cells #[.string ⟨#[]⟩, .int .u32 0, .int .u32 0, .slice none 0 0] 25 (0, 0)) := by rw [hW1]; have := heap_alloc_new ((W.alloc (.cells #[.string S, .int .u32 (E : Nat), .int .u32 (X : Nat), .slice A n c] 25)).alloc (.cells #[.int .u32 (u : Nat), .int .i64 d, .int .i64 f, .slice Am m cm] 30)) (.cells #[.string ⟨#[]⟩, .int .u32 0, .int .u32 0, .slice none 0 0] 25); simpa using this
  have HP1 := Lib.hid (fun (w' : World) (h : Below W1.heap.size W1 w') => show w'.heap[W.heap.size]? = some (.cells #[.string S, .int .u32 (E : Nat), .int .u32 (X : Nat), .slice A n c] 25 (0, 0)) from (h.block _ (by rw [HZW.out]; omega)).trans h1)
  have HP2 := Lib.hid (fun (w' : World) (h : Below W1.heap.size W1 w') => show w'.heap[W.heap.size + 1]? = some (.cells #[.int .u32 (u : Nat), .int .i64 d, .int .i64 f, .slice Am m cm] 30 (0, 0)) from (h.block _ (by rw [HZW.out]; omega)).trans h2)
  have HP3 := Lib.hid (fun (w' : World) (h : Below W1.heap.size W1 w') => show w'.heap[W.heap.size + 2]? = some (.cells #[.string ⟨#[]⟩, .int .u32 0, .int .u32 0, .slice none 0 0] 25 (0, 0)) from (h.block _ (by rw [HZW.out]; omega)).trans h3)
  have HRt := Lib.hid (right_any W1 S E X A n c qs (hR.below HBW.out) hn hs (hr.below HBW.out))
  have HFit := Lib.hid (fun (w' : World) (h : Below W.heap.size W w') => hr.below h)
  have HOwn := Lib.hid (fun (w' : World) (h : Below W1.heap.size W1 w') => own_any w' S E X A n c qs (hR.below (HBW.out.trans (h.mono HBW.out.size))) hn hs hm)
  have HSZ := Lib.hid hs
  have c0 := cell_at h1 0 _ rfl
  have c1 := cell_at h1 1 _ rfl
  have c2 := cell_at h1 2 _ rfl
  have c3 := cell_at h1 3 _ rfl
  have HW1 := Lib.hid hW1
  rw [hW1] at c0 c1 c2 c3
  clear hW1 h1 h2 h3
  have HRG := Lib.hid hw
  have HE := Lib.hid (And.intro e1 (And.intro e2 (And.intro e3 (show X < 4294967295 by omega))))
  have HBy := Lib.hid (fun (w' : World) (h : Below W.heap.size W w') => hB.below hB.lt h)
  have HNi := Lib.hid hnil
  clear hw hR hm hr he hB hnil e1 e2 e3 e4
  go_enter Tryd.func17, Tryd.ntmps17
  go_wp2_with fail
  rw [← HW1.out]
  clear c0 c1 c2 c3
  refine HRt.out.mono ?_
  rw [HRG.out]
  rintro x w1 ⟨rfl, hb1⟩
  have HB1 := Lib.hid hb1
  have c0 := cell_at (HP1.out _ hb1) 0 _ rfl
  have c1 := cell_at (HP1.out _ hb1) 1 _ rfl
  have c2 := cell_at (HP1.out _ hb1) 2 _ rfl
  have c3 := cell_at (HP1.out _ hb1) 3 _ rfl
  clear hb1
  go_wp2_with fail
  clear c0 c1 c2 c3
  refine (HOwn.out w1 HB1.out).mono ?_
  rintro x w2 ⟨A2, n2, cc2, ys2, rfl, ho2, hl2, hf2, hb2⟩
  have hB2 := HB1.out.trans (hb2.mono HB1.out.size)
  have hz1 : W1.heap.size ≤ w1.heap.size := HB1.out.size
  have hzw := HZW.out
  have hq := HP1.out _ hB2
  have HQ := Lib.hid hq
  obtain ⟨k1, k2, k3⟩ := four hq rfl (.string S) (.int .u32 (E : Nat)) (.int .u32 (X : Nat)) (.slice A2 n2 cc2)
  have hov : (Value.slice A2 n2 cc2).ownBlock ≠ some W.heap.size := fun e => by have := (ho2.lt e).1; omega
  have hoy : ∀ y ∈ ys2, ∀ ad, y.A = some ad → 0 < y.m → ad.block ≠ W.heap.size := fun y hy ad e h0 => by have := hf2 y hy ad e; omega
  have ho3 := own_other (u := .slice A2 n2 cc2) (j := 3) (own_other (u := .int .u32 (X : Nat)) (j := 2) (own_other (u := .int .u32 (E : Nat)) (j := 1) (own_other (u := .string S) (j := 0) ho2 hov hoy) hov hoy) hov hoy) hov hoy
  have hm3 := (k2 (W.heap.size + 1) (by omega)).trans (HP2.out _ hB2)
  have hr3 := (k2 (W.heap.size + 2) (by omega)).trans (HP3.out _ hB2)
  have hw3 := k3 W.heap.size W (HBW.out.trans (hB2.mono HBW.out.size)) (Nat.le_refl _)
  have c0 := cell_at (hq) 0 _ rfl
  have c1 := cell_at (hq) 1 _ rfl
  have c2 := cell_at (hq) 2 _ rfl
  have c3 := cell_at (hq) 3 _ rfl
  have g0 := frozen_of_row _ _ 0 _ _ (hq)
  have g1 := frozen_of_row _ _ 1 _ _ (hq)
  have g2 := frozen_of_row _ _ 2 _ _ (hq)
  have g3 := frozen_of_row _ _ 3 _ _ (hq)
  have m0 := cell_at (hm3) 0 _ rfl
  have m1 := cell_at (hm3) 1 _ rfl
  have m2 := cell_at (hm3) 2 _ rfl
  have m3 := cell_at (hm3) 3 _ rfl
  have HK1 := Lib.hid k1
  have HO3 := Lib.hid ho3
  have HR3 := Lib.hid hr3
  have HW3 := Lib.hid hw3
  have HV3 := Lib.hid (And.intro hov hoy)
  have HL2 := Lib.hid hl2
  have HS3 := Lib.hid (show w1.heap.size ≤ ((((w2.setCell ⟨W.heap.size, 0, none⟩ (.string S)).setCell ⟨W.heap.size, 1, none⟩ (.int .u32 (E : Nat))).setCell ⟨W.heap.size, 2, none⟩ (.int .u32 (X : Nat))).setCell ⟨W.heap.size, 3, none⟩ (.slice A2 n2 cc2)).heap.size by simpa using hb2.size)
  have HZ1 := Lib.hid hz1
  have HF2 := Lib.hid hf2
  clear ho2 hl2 hf2 hb2 hB2 hz1 hzw hq k1 k2 k3 hov hoy ho3 hm3 hr3 hw3
  go_wp2_with fail
  clear c0 c1 c2 c3 g0 g1 g2 g3 m0 m1 m2 m3
  generalize (((w2.setCell ⟨W.heap.size, 0, none⟩ (.string S)).setCell ⟨W.heap.size, 1, none⟩ (.int .u32 (E : Nat))).setCell ⟨W.heap.size, 2, none⟩ (.int .u32 (X : Nat))).setCell ⟨W.heap.size, 3, none⟩ (.slice A2 n2 cc2) = w3 at *
  obtain ⟨hov, hoy⟩ := HV3.out
  refine (add_good w3 W.heap.size S E X A2 n2 cc2 ys2 u d f Am m cm w1.heap.size HK1.out HSZ.out (HFit.out _ HW3.out) HE.out.1 HE.out.2.1 (by have h1 := own_len HO3.out; have h2 := HE.out.2.2.1; rw [← HL2.out, nts_len] at h2; omega) HE.out.2.2.2 l (HBy.out _ HW3.out) HNi.out HO3.out HS3.out hov hoy).mono ?_
  rintro x w4 ⟨rfl, A4, n4, c4, y4, hp4, ho4, hy4, hf4, ht4, ha4⟩
  have hr4 : w4.heap[W.heap.size + 2]? = some (.cells #[.string ⟨#[]⟩, .int .u32 0, .int .u32 0, .slice none 0 0] 25 (0, 0)) := by
    have h1 := HZ1.out
    have h2 := HZW.out
    rw [ht4.2.2.2.2 _ (Array.getElem?_eq_some_iff.1 HR3.out).1 (fun h => by
      rcases h with h | h
      · omega
      · have := (HO3.out.lt h).1
        omega)]
    exact HR3.out
  have hw4 : Below W.heap.size W w4 := HW3.out.trans (ht4.toBelow W.heap.size HW3.out.size (fun i hi h => by
    have h1 := HZ1.out
    have h2 := HZW.out
    rcases h with h | h
    · omega
    · have := (HO3.out.lt h).1
      omega))
  have HR4 := Lib.hid hr4
  have HW4 := Lib.hid hw4
  have HO4 := Lib.hid (And.intro ho4 (And.intro hy4 hf4))
  have r0 := cell_at (hr4) 0 _ rfl
  have r1 := cell_at (hr4) 1 _ rfl
  have r2 := cell_at (hr4) 2 _ rfl
  have r3 := cell_at (hr4) 3 _ rfl
  have g0 := frozen_of_row _ _ 0 _ _ (hr4)
  have g1 := frozen_of_row _ _ 1 _ _ (hr4)
  have g2 := frozen_of_row _ _ 2 _ _ (hr4)
  have g3 := frozen_of_row _ _ 3 _ _ (hr4)
  have c0 := cell_at (hp4) 0 _ rfl
  have c1 := cell_at (hp4) 1 _ rfl
  have c2 := cell_at (hp4) 2 _ rfl
  have c3 := cell_at (hp4) 3 _ rfl
  clear hr4 hw4 hp4 ho4 hy4 hf4 ht4 ha4 hov hoy
  go_wp2_with fail
  obtain ⟨k1, k2, k3⟩ := four HR4.out rfl (.string S) (.int .u32 (E : Nat)) (.int .u32 ((X + 1 : Nat) : Nat)) (.slice A4 n4 c4)
  obtain ⟨ho4, hy4, hf4⟩ := HO4.out
  have hz1 := HZ1.out
  have hzw := HZW.out
  have hsz3 := HS3.out
  have hv4 : (Value.slice A4 n4 c4).ownBlock ≠ some (W.heap.size + 2) := fun e => by have := (ho4.lt e).1; omega
  have hy5 : ∀ y ∈ ys2 ++ [y4], ∀ ad, y.A = some ad → 0 < y.m → ad.block ≠ W.heap.size + 2 := fun y hy ad e h0 => by
    rcases List.mem_append.1 hy with hy | hy
    · have := HF2.out y hy ad e
      omega
    · simp at hy
      subst hy
      have := hf4 ad e
      omega
  have ho5 := own_other (u := .slice A4 n4 c4) (j := 3) (own_other (u := .int .u32 ((X + 1 : Nat) : Nat)) (j := 2) (own_other (u := .int .u32 (E : Nat)) (j := 1) (own_other (u := .string S) (j := 0) ho4 hv4 hy5) hv4 hy5) hv4 hy5) hv4 hy5
  refine bodyPost_ret (results_cell_tmp_tmp Tryd.results17 _ _ (W.heap.size + 2) _ _ _ _ rfl k1 Tryd.underlying25 rfl (boxSize _ rfl)) rfl ⟨A4, n4, c4, ys2 ++ [y4], rfl, ⟨⟨ho5.1.1, ho5.1.2.imp id fun ⟨g, cap, cur, h1, h2, h3⟩ => ⟨g, cap, cur, h1, by omega, h3⟩⟩, ho5.2⟩, ?_, k3 _ _ HW4.out (by omega)⟩
  rw [← HL2.out, ← hy4]
  simp [nts]
end Go.Proofs.YtepngemlaiffgaaDoor.mal
namespace Go.Proofs.YtepngemlaiffgaaDoor.mal
open Go.ChangeShapes Go.WideShapes Go.ChangeAt Go.RowKit
open Go.Proofs.YtepngemlaiffgaaDoor.codec (Bytes vals)
open Go.Proofs.YtepngemlaiffgaaDoor.bod (cell_at Fit boxed named formedB)
open Go.Proofs.YtepngemlaiffgaaDoor.lg (Nt Y Rd Own Oct cM fM fl fl_at nts nts_at nts_len take_next)
set_option linter.unusedVariables false
set_option maxRecDepth 100000
set_option linter.unusedSimpArgs false

theorem rd_grown {F : Y → List Value} {K : Nat} {w w' : World} {A : Option Addr} {n : Nat} {ys : List Y} {row : Option Nat} (h : Rd F K w A n ys) (hg : w.grownBy w' row) (hA : ∀ ad, A = some ad → 0 < n → some ad.block ≠ row) (hO : ∀ y ∈ ys, ∀ ad, y.A = some ad → 0 < y.m → some ad.block ≠ row) (hK : 0 < K) (hF : lg.Fm F K) : Rd F K w' A n ys := by
  refine ⟨h.1, fun k hk => ?_⟩
  obtain ⟨b, o, y, h1, h2, h3, h4⟩ := h.2 k hk
  refine ⟨b, o, y, h1, h2, fun j v hv => ?_, h4.grown hg (hO y (List.mem_of_getElem? h2))⟩
  have h5 := h3 j v hv
  rw [World.cell?_of_block (w := w) (hg.block b (block_lt_of_cell h5) (hA _ h1 (by omega)))]
  exact h5
/-- A message written out as a slice of one. -/
theorem rd_one {w : World} {y : Y} (h : Oct w y) : Rd cM 4 (w.alloc (.cells (cM y).toArray 30)) (some ⟨w.heap.size, 0, none⟩) 1 [y] := by
  refine ⟨rfl, fun k hk => ⟨w.heap.size, 0, y, rfl, ?_, fun j v hv => ?_, h.below ((Below.refl _ _).alloc (Nat.le_refl _) _)⟩⟩
  · obtain rfl : k = 0 := by omega
    rfl
  · obtain rfl : k = 0 := by omega
    have := lg.lit_at (F := cM) (w := w) y 30 (0, 0) rfl j v hv
    rw [codec.add_none] at this
    simpa using this
theorem rd_oct {F : Y → List Value} {K : Nat} {w : World} {A : Option Addr} {n : Nat} {ys : List Y} (h : Rd F K w A n ys) {y : Y} (hy : y ∈ ys) : Oct w y := by
  obtain ⟨k, hk⟩ := List.mem_iff_getElem?.1 hy
  have hk2 := (List.getElem?_eq_some_iff.1 hk).1
  obtain ⟨b, o, y', e, hy', hc, ho⟩ := h.2 k (by have := h.1; omega)
  rw [hk] at hy'
  cases hy'
  exact ho
set_option maxHeartbeats 2000000 in
theorem rappend_many (W : World) (S : ByteArray) (E X : Nat) (A : Option Addr) (n c : Nat) (u : Nat) (d f : Int) (Am : Option Addr) (m cm : Nat) (hn : 500 ≤ n) :
    Calls Tryd.prog 18 #[.agg #[.string S, .int .u32 (E : Nat), .int .u32 (X : Nat), .slice A n c], .agg #[.int .u32 (u : Nat), .int .i64 d, .int .i64 f, .slice Am m cm]] W fun x w' => AppNo W 5 x w' := by
  obtain ⟨W1, hW1⟩ : ∃ W1, W1 = ((W.alloc (.cells #[.string S, .int .u32 (E : Nat), .int .u32 (X : Nat), .slice A n c] 25)).alloc (.cells #[.int .u32 (u : Nat), .int .i64 d, .int .i64 f, .slice Am m cm] 30)).alloc (.cells #[.string ⟨#[]⟩, .int .u32 0, .int .u32 0, .slice none 0 0] 25) := ⟨_, rfl⟩
  have HBW := Lib.hid (show Below W.heap.size W W1 by rw [hW1]; exact (((Below.refl _ _).alloc (Nat.le_refl _) _).alloc (by simp) _).alloc (by simp; omega) _)
  have HZW := Lib.hid (show W1.heap.size = W.heap.size + 3 by rw [hW1]; simp)
  have h1 : W1.heap[W.heap.size]? = some (.cells #[.string S, .int .u32 (E : Nat), .int .u32 (X : Nat), .slice A n c] 25 (0, 0)) := by rw [hW1, heap_alloc_old _ _ (by simp; omega), heap_alloc_old _ _ (by simp)]; exact heap_alloc_new _ _
  have h2 : W1.heap[W.heap.size + 1]? = some (.cells #[.int .u32 (u : Nat), .int .i64 d, .int .i64 f, .slice Am m cm] 30 (0, 0)) := by rw [hW1, heap_alloc_old _ _ (by simp)]; have := heap_alloc_new (W.alloc (.cells #[.string S, .int .u32 (E : Nat), .int .u32 (X : Nat), .slice A n c] 25)) (.cells #[.int .u32 (u : Nat), .int .i64 d, .int .i64 f, .slice Am m cm] 30); simpa using this
  have h3 : W1.heap[W.heap.size + 2]? = some (.cells #[.string ⟨#[]⟩, .int .u32 0, .int .u32 0, .slice none 0 0] 25 (0, 0)) := by rw [hW1]; have := heap_alloc_new ((W.alloc (.cells #[.string S, .int .u32 (E : Nat), .int .u32 (X : Nat), .slice A n c] 25)).alloc (.cells #[.int .u32 (u : Nat), .int .i64 d, .int .i64 f, .slice Am m cm] 30)) (.cells #[.string ⟨#[]⟩, .int .u32 0, .int .u32 0, .slice none 0 0] 25); simpa using this
  have q1 : decide ((499 : Int) < (n : Int)) = true := decide_eq_true (by omega)
  clear hn
  have HZ := Lib.hid h3
  have HW1 := Lib.hid hW1
  have c0 := cell_at (h1) 0 _ rfl
  have c1 := cell_at (h1) 1 _ rfl
  have c2 := cell_at (h1) 2 _ rfl
  have c3 := cell_at (h1) 3 _ rfl
  have r0 := cell_at (h3) 0 _ rfl
  have r1 := cell_at (h3) 1 _ rfl
  have r2 := cell_at (h3) 2 _ rfl
  have r3 := cell_at (h3) 3 _ rfl
  have g0 := frozen_of_row _ _ 0 _ _ (h3)
  have g1 := frozen_of_row _ _ 1 _ _ (h3)
  have g2 := frozen_of_row _ _ 2 _ _ (h3)
  have g3 := frozen_of_row _ _ 3 _ _ (h3)
  rw [hW1] at c0 c1 c2 c3 r0 r1 r2 r3 g0 g1 g2 g3
  clear hW1 h1 h2 h3
  go_enter Tryd.func18, Tryd.ntmps18
  go_wp2_with fail
  rw [← HW1.out]
  refine bodyPost_ret (results_cell_tmp_tmp Tryd.results18 _ _ (W.heap.size + 2) _ _ _ _ rfl HZ.out Tryd.underlying25 rfl (boxSize _ rfl)) rfl ⟨rfl, HBW.out⟩
set_option maxHeartbeats 2000000 in
theorem rappend_full (W : World) (S : ByteArray) (E X : Nat) (A : Option Addr) (n c : Nat) (u : Nat) (d f : Int) (Am : Option Addr) (m cm : Nat) (hn : n < 500) (hX : X = 4294967295) :
    Calls Tryd.prog 18 #[.agg #[.string S, .int .u32 (E : Nat), .int .u32 (X : Nat), .slice A n c], .agg #[.int .u32 (u : Nat), .int .i64 d, .int .i64 f, .slice Am m cm]] W fun x w' => AppNo W 4 x w' := by
  obtain ⟨W1, hW1⟩ : ∃ W1, W1 = ((W.alloc (.cells #[.string S, .int .u32 (E : Nat), .int .u32 (X : Nat), .slice A n c] 25)).alloc (.cells #[.int .u32 (u : Nat), .int .i64 d, .int .i64 f, .slice Am m cm] 30)).alloc (.cells #[.string ⟨#[]⟩, .int .u32 0, .int .u32 0, .slice none 0 0] 25) := ⟨_, rfl⟩
  have HBW := Lib.hid (show Below W.heap.size W W1 by rw [hW1]; exact (((Below.refl _ _).alloc (Nat.le_refl _) _).alloc (by simp) _).alloc (by simp; omega) _)
  have HZW := Lib.hid (show W1.heap.size = W.heap.size + 3 by rw [hW1]; simp)
  have h1 : W1.heap[W.heap.size]? = some (.cells #[.string S, .int .u32 (E : Nat), .int .u32 (X : Nat), .slice A n c] 25 (0, 0)) := by rw [hW1, heap_alloc_old _ _ (by simp; omega), heap_alloc_old _ _ (by simp)]; exact heap_alloc_new _ _
  have h2 : W1.heap[W.heap.size + 1]? = some (.cells #[.int .u32 (u : Nat), .int .i64 d, .int .i64 f, .slice Am m cm] 30 (0, 0)) := by rw [hW1, heap_alloc_old _ _ (by simp)]; have := heap_alloc_new (W.alloc (.cells #[.string S, .int .u32 (E : Nat), .int .u32 (X : Nat), .slice A n c] 25)) (.cells #[.int .u32 (u : Nat), .int .i64 d, .int .i64 f, .slice Am m cm] 30); simpa using this
  have h3 : W1.heap[W.heap.size + 2]? = some (.cells #[.string ⟨#[]⟩, .int .u32 0, .int .u32 0, .slice none 0 0] 25 (0, 0)) := by rw [hW1]; have := heap_alloc_new ((W.alloc (.cells #[.string S, .int .u32 (E : Nat), .int .u32 (X : Nat), .slice A n c] 25)).alloc (.cells #[.int .u32 (u : Nat), .int .i64 d, .int .i64 f, .slice Am m cm] 30)) (.cells #[.string ⟨#[]⟩, .int .u32 0, .int .u32 0, .slice none 0 0] 25); simpa using this
  have q1 : decide ((499 : Int) < (n : Int)) = false := decide_eq_false (by omega)
  have q2 : ((X : Int) == 4294967295) = true := by rw [beq_iff_eq]; omega
  clear hn hX
  have HZ := Lib.hid h3
  have HW1 := Lib.hid hW1
  have c0 := cell_at (h1) 0 _ rfl
  have c1 := cell_at (h1) 1 _ rfl
  have c2 := cell_at (h1) 2 _ rfl
  have c3 := cell_at (h1) 3 _ rfl
  have r0 := cell_at (h3) 0 _ rfl
  have r1 := cell_at (h3) 1 _ rfl
  have r2 := cell_at (h3) 2 _ rfl
  have r3 := cell_at (h3) 3 _ rfl
  have g0 := frozen_of_row _ _ 0 _ _ (h3)
  have g1 := frozen_of_row _ _ 1 _ _ (h3)
  have g2 := frozen_of_row _ _ 2 _ _ (h3)
  have g3 := frozen_of_row _ _ 3 _ _ (h3)
  rw [hW1] at c0 c1 c2 c3 r0 r1 r2 r3 g0 g1 g2 g3
  clear hW1 h1 h2 h3
  go_enter Tryd.func18, Tryd.ntmps18
  go_wp2_with fail
  rw [← HW1.out]
  refine bodyPost_ret (results_cell_tmp_tmp Tryd.results18 _ _ (W.heap.size + 2) _ _ _ _ rfl HZ.out Tryd.underlying25 rfl (boxSize _ rfl)) rfl ⟨rfl, HBW.out⟩
/-- Behind both appends: the row, and what was before. -/
def Both (w1 : World) (qs : List Y) (y : Y) (v : Value) (w : World) : Prop := Own cM 4 w1.heap.size 30 w v (qs ++ [y]) ∧ Below w1.heap.size w1 w
theorem own_below {B : Nat} {w1 w w' : World} {v : Value} {ys : List Y} (h : Own cM 4 w1.heap.size 30 w v ys) (hb : Below w1.heap.size w1 w) (hg : w.grownBy w' v.ownBlock) : Below w1.heap.size w1 w' :=
  hb.trans ⟨hg.os, hg.tape, hg.output, hg.size, fun k hk => hg.block k (by have := hb.size; omega) (fun e => by have := (h.lt e.symm).1; omega)⟩
set_option maxHeartbeats 8000000 in
theorem rappend_yes (W : World) (S : ByteArray) (E X : Nat) (A : Option Addr) (n c : Nat) (u : Nat) (d f : Int) (Am : Option Addr) (m cm : Nat) (qs : List Y) (hR : Rd cM 4 W A n qs) (hA : A = none → c = 0) (hn : n < 500) (hX : X < 4294967295) (l : List Nat) (hB : Bytes W Am m l) (hnil : Am = none → cm = 0) :
    Calls Tryd.prog 18 #[.agg #[.string S, .int .u32 (E : Nat), .int .u32 (X : Nat), .slice A n c], .agg #[.int .u32 (u : Nat), .int .i64 d, .int .i64 f, .slice Am m cm]] W fun x w' => AppYes W S E X (nts qs) ⟨2, E, S, X, d, f, l⟩ x w' := by
  obtain ⟨W1, hW1⟩ : ∃ W1, W1 = ((W.alloc (.cells #[.string S, .int .u32 (E : Nat), .int .u32 (X : Nat), .slice A n c] 25)).alloc (.cells #[.int .u32 (u : Nat), .int .i64 d, .int .i64 f, .slice Am m cm] 30)).alloc (.cells #[.string ⟨#[]⟩, .int .u32 0, .int .u32 0, .slice none 0 0] 25) := ⟨_, rfl⟩
  have HBW := Lib.hid (show Below W.heap.size W W1 by rw [hW1]; exact (((Below.refl _ _).alloc (Nat.le_refl _) _).alloc (by simp) _).alloc (by simp; omega) _)
  have HZW := Lib.hid (show W1.heap.size = W.heap.size + 3 by rw [hW1]; simp)
  have h1 : W1.heap[W.heap.size]? = some (.cells #[.string S, .int .u32 (E : Nat), .int .u32 (X : Nat), .slice A n c] 25 (0, 0)) := by rw [hW1, heap_alloc_old _ _ (by simp; omega), heap_alloc_old _ _ (by simp)]; exact heap_alloc_new _ _
  have h2 : W1.heap[W.heap.size + 1]? = some (.cells #[.int .u32 (u : Nat), .int .i64 d, .int .i64 f, .slice Am m cm] 30 (0, 0)) := by rw [hW1, heap_alloc_old _ _ (by simp)]; have := heap_alloc_new (W.alloc (.cells #[.string S, .int .u32 (E : Nat), .int .u32 (X : Nat), .slice A n c] 25)) (.cells #[.int .u32 (u : Nat), .int .i64 d, .int .i64 f, .slice Am m cm] 30); simpa using this
  have h3 : W1.heap[W.heap.size + 2]? = some (.cells #[.string ⟨#[]⟩, .int .u32 0, .int .u32 0, .slice none 0 0] 25 (0, 0)) := by rw [hW1]; have := heap_alloc_new ((W.alloc (.cells #[.string S, .int .u32 (E : Nat), .int .u32 (X : Nat), .slice A n c] 25)).alloc (.cells #[.int .u32 (u : Nat), .int .i64 d, .int .i64 f, .slice Am m cm] 30)) (.cells #[.string ⟨#[]⟩, .int .u32 0, .int .u32 0, .slice none 0 0] 25); simpa using this
  have q1 : decide ((499 : Int) < (n : Int)) = false := decide_eq_false (by omega)
  have q2 : ((X : Int) == 4294967295) = false := by rw [beq_eq_false_iff_ne]; omega
  have HXL := Lib.hid hX
  have HNL := Lib.hid hn
  have HQL := Lib.hid hR.1
  have HAN := Lib.hid hA
  have HOQ := Lib.hid (show ∀ y ∈ qs, ∀ ad, y.A = some ad → 0 < y.m → ad.block < W.heap.size from fun y hy ad e h0 => (rd_oct hR hy).1.lt ad e h0)
  have HOM := Lib.hid hB.lt
  obtain ⟨w1, hw1⟩ : ∃ w1, w1 = ((W.alloc (.cells #[.string S, .int .u32 (E : Nat), .int .u32 (X : Nat), .slice A n c] 25)).alloc (.cells #[.int .u32 (X : Nat), .int .i64 d, .int .i64 f, .slice Am m cm] 30)).alloc (.cells #[.string ⟨#[]⟩, .int .u32 0, .int .u32 0, .slice none 0 0] 25) := ⟨_, rfl⟩
  have hm1 : w1.heap[W.heap.size + 1]? = some (.cells #[.int .u32 (X : Nat), .int .i64 d, .int .i64 f, .slice Am m cm] 30 (0, 0)) := by rw [hw1, heap_alloc_old _ _ (by simp)]; have := heap_alloc_new (W.alloc (.cells #[.string S, .int .u32 (E : Nat), .int .u32 (X : Nat), .slice A n c] 25)) (.cells #[.int .u32 (X : Nat), .int .i64 d, .int .i64 f, .slice Am m cm] 30); simpa using this
  have hq1 : w1.heap[W.heap.size]? = some (.cells #[.string S, .int .u32 (E : Nat), .int .u32 (X : Nat), .slice A n c] 25 (0, 0)) := by rw [hw1, heap_alloc_old _ _ (by simp; omega), heap_alloc_old _ _ (by simp)]; exact heap_alloc_new _ _
  have hr1 : w1.heap[W.heap.size + 2]? = some (.cells #[.string ⟨#[]⟩, .int .u32 0, .int .u32 0, .slice none 0 0] 25 (0, 0)) := by rw [hw1]; have := heap_alloc_new ((W.alloc (.cells #[.string S, .int .u32 (E : Nat), .int .u32 (X : Nat), .slice A n c] 25)).alloc (.cells #[.int .u32 (X : Nat), .int .i64 d, .int .i64 f, .slice Am m cm] 30)) (.cells #[.string ⟨#[]⟩, .int .u32 0, .int .u32 0, .slice none 0 0] 25); simpa using this
  have HZ1 := Lib.hid (show w1.heap.size = W.heap.size + 3 by rw [hw1]; simp)
  have HW1B := Lib.hid (show Below W.heap.size W w1 by rw [hw1]; exact (((Below.refl _ _).alloc (Nat.le_refl _) _).alloc (by simp) _).alloc (by simp; omega) _)
  have HQ1 := Lib.hid (fun (w' : World) (h : Below w1.heap.size w1 w') => (h.block W.heap.size (by rw [HZ1.out]; omega)).trans hq1)
  have HM1 := Lib.hid (fun (w' : World) (h : Below w1.heap.size w1 w') => (h.block (W.heap.size + 1) (by rw [HZ1.out]; omega)).trans hm1)
  have HR1 := Lib.hid (fun (w' : World) (h : Below w1.heap.size w1 w') => (h.block (W.heap.size + 2) (by rw [HZ1.out]; omega)).trans hr1)
  have HRQ := Lib.hid (fun (w' : World) (h : Below w1.heap.size w1 w') => hR.below (HW1B.out.trans (h.mono HW1B.out.size)))
  have HOC := Lib.hid (fun (w' : World) (h : Below w1.heap.size w1 w') => show Oct w' (⟨⟨2, E, S, X, d, f, l⟩, 0, Am, m, cm⟩ : Y) from ⟨hB.below hB.lt (HW1B.out.trans (h.mono HW1B.out.size)), hnil⟩)
  have HST := Lib.hid (show Below w1.heap.size w1 w1.drew from codec.below_draws (Below.refl _ _) 1)
  have HW1 := Lib.hid hW1
  have Hw1 := Lib.hid hw1
  have c2 := cell_at (h1) 2 _ rfl
  have c3 := cell_at (h1) 3 _ rfl
  have n0 := cell_at h2 0 _ rfl
  have fn0 := frozen_of_row _ _ 0 _ _ h2
  rw [hW1] at c2 c3 n0 fn0
  clear hW1 hw1 h1 h2 h3 hm1 hq1 hr1 hR hA hn hX hB hnil
  go_enter Tryd.func18, Tryd.ntmps18
  go_wp2_with fail
  rw [← Hw1.out]
  clear c2 c3 n0 fn0
  refine wp_region_noPanic ?_
  refine held.wp_region_G (S := fun w' => Below w1.heap.size w1 w') 8 (by kernel_rfl) HST.out (fun hHeld => ?_)
  refine held.wpAnyG_take (i := 1) (v := ?_) rfl (by kernel_rfl) (by kernel_rfl) (by kernel_rfl) (by kernel_rfl) (fun _ _ _ h => h) (Or.inl ⟨by kernel_rfl, ?_⟩) hHeld ?_
  rotate_left
  · (intro w' hw'; go_simp; first | done | with_reducible rfl)
  refine held.wpAnyG_take (i := 2) (v := ?_) rfl (by kernel_rfl) (by kernel_rfl) (by kernel_rfl) (by kernel_rfl) (fun _ _ _ h => h) (Or.inl ⟨by kernel_rfl, ?_⟩) hHeld ?_
  rotate_left
  · (intro w' hw'; have bh := HQ1.out _ hw'; have b3 := cell_at bh 3 _ rfl; go_simp; first | done | with_reducible rfl)
  refine held.wpAnyG_take (i := 4) (v := ?_) rfl (by kernel_rfl) (by kernel_rfl) (by kernel_rfl) (by kernel_rfl) (fun _ _ _ h => h) (Or.inl ⟨by kernel_rfl, ?_⟩) hHeld ?_
  rotate_left
  · (intro w' hw'; have mh := HM1.out _ hw'; have m0 := cell_at mh 0 _ rfl; have m1 := cell_at mh 1 _ rfl; have m2 := cell_at mh 2 _ rfl; have m3 := cell_at mh 3 _ rfl; go_simp; first | done | with_reducible rfl)
  have hHeld0 : Below w1.heap.size w1 w1.drew := HST.out
  generalize w1.drew = w2 at *
  refine held.wpAnyG_ready (rs := [0, 5]) (by kernel_rfl) (by simp) ?_
  refine held.AllReadyG.cons rfl (fun K hK => ?_) (held.AllReadyG.cons rfl (fun K hK => ?_) held.AllReadyG.nil)
  · have hbe : Below w2.heap.size w2 (w2.alloc (.cells #[] 30)) := (Below.refl _ _).alloc (Nat.le_refl _) _
    have hse := hHeld0.trans (hbe.mono hHeld0.size)
    have HOe := Lib.hid (show Own cM 4 w1.heap.size 30 (w2.alloc (.cells #[] 30)) (.slice (some ⟨w2.heap.size, 0, none⟩) 0 0) [] from ⟨World.ownsRow_made w2 #[] 0 hHeld0.size (Nat.zero_le _) rfl, by simp⟩)
    have HGe := Lib.hid (show w1.heap.size ≤ w2.heap.size from hHeld0.size)
    have HGl := Lib.hid (show w2.heap.size < (w2.alloc (.cells #[] 30)).heap.size by simp)
    go_simp
    refine hK.out _ _ (fun _ => hse) (fun hh => ?_)
    clear hK K hh
    generalize ge : w2.heap.size = ge0 at *
    generalize w2.alloc (.cells #[] 30) = we at *
    refine held.wpAnyG_ready (rs := [3, 5]) (by kernel_rfl) (by simp) ?_
    refine held.AllReadyG.cons rfl (fun K hK => ?_) (held.AllReadyG.cons rfl (fun K hK => ?_) held.AllReadyG.nil)
    · refine step_append_rows rfl (.tmp 19) (.tmp 21) rfl w1.heap.size (.slice (some ⟨ge0, 0, none⟩) 0 0) [] (by simp [Act.eval, Act.put]) HOe.out hse.size A n c qs (by simp [Act.eval, Act.put]) (HRQ.out _ hse) HAN.out (fun y hy ad e h0 e' => by
        have h1 := HOQ.out y hy ad e h0
        have h2 : ge0 = ad.block := Option.some.inj e'
        have h3 := HGe.out
        have h4 := HZ1.out
        omega) (by have := HNL.out; simp; omega) ?_
      intro v3 w3 ho3 hg3 hn3 hat3
      rw [List.nil_append] at ho3
      have hs3 := own_below (B := 0) HOe.out hse hg3
      have HO3 := Lib.hid ho3
      clear ho3 hg3 hn3 hat3
      refine hK.out _ _ (fun _ => hs3) (fun hh => ?_)
      clear hK K hh
      refine held.wpAnyG_ready (rs := [5]) (by kernel_rfl) (by simp) ?_
      refine held.AllReadyG.cons rfl (fun K hK => ?_) held.AllReadyG.nil
      have hbl : Below w3.heap.size w3 (w3.alloc (.cells #[.int .u32 (X : Nat), .int .i64 d, .int .i64 f, .slice Am m cm] 30)) := (Below.refl _ _).alloc (Nat.le_refl _) _
      have hsl := hs3.trans (hbl.mono hs3.size)
      have HRl := Lib.hid (show Rd cM 4 (w3.alloc (.cells #[.int .u32 (X : Nat), .int .i64 d, .int .i64 f, .slice Am m cm] 30)) (some ⟨w3.heap.size, 0, none⟩) 1 [(⟨⟨2, E, S, X, d, f, l⟩, 0, Am, m, cm⟩ : Y)] from rd_one (HOC.out _ hs3))
      have HLl := Lib.hid (show w3.heap.size < (w3.alloc (.cells #[.int .u32 (X : Nat), .int .i64 d, .int .i64 f, .slice Am m cm] 30)).heap.size by simp)
      go_simp
      refine hK.out _ _ (fun _ => hsl) (fun hh => ?_)
      clear hK K hh
      generalize gl : w3.heap.size = gl0 at *
      generalize w3.alloc (.cells #[.int .u32 (X : Nat), .int .i64 d, .int .i64 f, .slice Am m cm] 30) = wl at *
      have HO3 := Lib.hid (show Own cM 4 w1.heap.size 30 wl v3 qs from HO3.out.below (by rw [gl]; exact hbl))
      refine held.wpAnyG_ready (rs := [6]) (by kernel_rfl) (by simp) ?_
      refine held.AllReadyG.cons rfl (fun K hK => ?_) held.AllReadyG.nil
      refine step_append_rows rfl (.tmp 22) (.tmp 24) rfl w1.heap.size v3 qs (by simp [Act.eval, Act.put]) HO3.out hsl.size (some ⟨gl0, 0, none⟩) 1 1 [(⟨⟨2, E, S, X, d, f, l⟩, 0, Am, m, cm⟩ : Y)] (by simp [Act.eval, Act.put]) HRl.out (fun e => by cases e) (fun y hy ad e h0 e' => by
        simp at hy
        subst hy
        have h1 := HOM.out ad e h0
        have h2 := (HO3.out.lt e').1
        have h3 := HZ1.out
        omega) (by have h1 := HNL.out; have h2 := HQL.out; omega) ?_
      intro v6 w6 ho6 hg6 hn6 hat6
      have hs6 := own_below (B := 0) HO3.out hsl hg6
      obtain ⟨A6, c6, rfl, -, -, -⟩ := ho6.rd fM
      have hl6 : (qs ++ [(⟨⟨2, E, S, X, d, f, l⟩, 0, Am, m, cm⟩ : Y)]).length = n + 1 := by rw [List.length_append, HQL.out]; rfl
      rw [hl6] at ho6 ⊢
      have HB6 := Lib.hid (And.intro ho6 hs6)
      have hq6 := HQ1.out _ hs6
      have cc := cell_at hq6 3 _ rfl
      have ff := frozen_of_row _ _ 3 _ _ hq6
      clear ho6 hg6 hn6 hat6 hl6 hq6
      refine hK.out _ _ (fun _ => hs6) (fun hh => ?_)
      have hH6 := hh (by decide)
      clear hK K hh
      refine held.wpAnyG_take (i := 7) (v := ?_) rfl (by kernel_rfl) (by kernel_rfl) (by kernel_rfl) (by kernel_rfl) (fun _ _ _ h => h) (Or.inl ⟨by kernel_rfl, ?_⟩) hH6 ?_
      rotate_left
      · (intro w' hw'; go_simp; first | done | with_reducible rfl)
      refine held.wpAnyG_ready (rs := [8]) (by kernel_rfl) (by simp) ?_
      refine held.AllReadyG.cons rfl (fun K hK => ?_) held.AllReadyG.nil
      go_simp
      refine hK.out _ _ (fun hh => absurd rfl hh) (fun _ => ?_)
      clear hK K hH6
      refine held.wpAnyG_done (by kernel_rfl) ?_ _
      refine NoPanic.normal ?_
      go_simp
      clear cc ff hs6
      obtain ⟨ho6, hb6⟩ := HB6.out
      have hz1 := HZ1.out
      have hq6 := HQ1.out _ hb6
      have hm6 := HM1.out _ hb6
      have hr6 := HR1.out _ hb6
      have hq7 : (w6.setCell ⟨W.heap.size, 3, none⟩ (.slice A6 (n + 1) c6)).heap[W.heap.size]? = some (.cells #[.string S, .int .u32 (E : Nat), .int .u32 (X : Nat), .slice A6 (n + 1) c6] 25 (0, 0)) := by rw [heap_setCell_same _ _ _ _ _ _ hq6]; rfl
      have hq8 : ((w6.setCell ⟨W.heap.size, 3, none⟩ (.slice A6 (n + 1) c6)).setCell ⟨W.heap.size, 2, none⟩ (.int .u32 ((X : Int) + 1))).heap[W.heap.size]? = some (.cells #[.string S, .int .u32 (E : Nat), .int .u32 ((X : Int) + 1), .slice A6 (n + 1) c6] 25 (0, 0)) := by rw [heap_setCell_same _ _ _ _ _ _ hq7]; rfl
      have hm8 : ((w6.setCell ⟨W.heap.size, 3, none⟩ (.slice A6 (n + 1) c6)).setCell ⟨W.heap.size, 2, none⟩ (.int .u32 ((X : Int) + 1))).heap[W.heap.size + 1]? = some (.cells #[.int .u32 (X : Nat), .int .i64 d, .int .i64 f, .slice Am m cm] 30 (0, 0)) := by rw [heap_setCell_other _ _ _ _ (by show _ ≠ W.heap.size; omega), heap_setCell_other _ _ _ _ (by show _ ≠ W.heap.size; omega)]; exact hm6
      have hr8 : ((w6.setCell ⟨W.heap.size, 3, none⟩ (.slice A6 (n + 1) c6)).setCell ⟨W.heap.size, 2, none⟩ (.int .u32 ((X : Int) + 1))).heap[W.heap.size + 1 + 1]? = some (.cells #[.string ⟨#[]⟩, .int .u32 0, .int .u32 0, .slice none 0 0] 25 (0, 0)) := by rw [heap_setCell_other _ _ _ _ (by show _ ≠ W.heap.size; omega), heap_setCell_other _ _ _ _ (by show _ ≠ W.heap.size; omega)]; exact hr6
      have hv : ∀ p, p < W.heap.size + 3 → (Value.slice A6 (n + 1) c6).ownBlock ≠ some p := fun p hp e => by have := (ho6.lt e).1; omega
      have hyy : ∀ y ∈ qs ++ [(⟨⟨2, E, S, X, d, f, l⟩, 0, Am, m, cm⟩ : Y)], ∀ ad, y.A = some ad → 0 < y.m → ad.block < W.heap.size := fun y hy ad e h0 => by
        rcases List.mem_append.1 hy with hy | hy
        · exact HOQ.out y hy ad e h0
        · simp at hy
          subst hy
          exact HOM.out ad e h0
      have ho8 := own_other (u := .int .u32 ((X : Int) + 1)) (j := 2) (own_other (u := .slice A6 (n + 1) c6) (j := 3) ho6 (hv W.heap.size (by omega)) (fun y hy ad e h0 => by have := hyy y hy ad e h0; omega)) (hv W.heap.size (by omega)) (fun y hy ad e h0 => by have := hyy y hy ad e h0; omega)
      have hw8 : Below W.heap.size W ((w6.setCell ⟨W.heap.size, 3, none⟩ (.slice A6 (n + 1) c6)).setCell ⟨W.heap.size, 2, none⟩ (.int .u32 ((X : Int) + 1))) := ((HW1B.out.trans (hb6.mono HW1B.out.size)).setCell (p := ⟨W.heap.size, 3, none⟩) (Nat.le_refl _) _).setCell (p := ⟨W.heap.size, 2, none⟩) (Nat.le_refl _) _
      have e2 := cell_at hq7 2 _ rfl
      have fr2 := frozen_of_row _ _ 2 _ _ hq7
      have HS8 := Lib.hid (And.intro hq8 hm8)
      have HR8 := Lib.hid hr8
      have HO8 := Lib.hid (And.intro ho8 (And.intro hv (And.intro hyy hw8)))
      have kx : IntKind.u32.wrap ((X : Int) + 1) = (X : Int) + 1 := IntWalk.u32_in ((X : Int) + 1) (by have := HXL.out; omega)
      clear ho6 hb6 hz1 hq6 hm6 hr6 hq7 hq8 hm8 hr8 hv hyy ho8 hw8
      go_wp2_with fail
      clear e2 fr2
      generalize (w6.setCell ⟨W.heap.size, 3, none⟩ (.slice A6 (n + 1) c6)).setCell ⟨W.heap.size, 2, none⟩ (.int .u32 ((X : Int) + 1)) = w8 at *
      have hS8 : w8.drew.heap[W.heap.size]? = some (.cells #[.string S, .int .u32 (E : Nat), .int .u32 ((X : Int) + 1), .slice A6 (n + 1) c6] 25 (0, 0)) ∧ w8.drew.heap[W.heap.size + 1]? = some (.cells #[.int .u32 (X : Nat), .int .i64 d, .int .i64 f, .slice Am m cm] 30 (0, 0)) := HS8.out
      have r0 := cell_at HR8.out 0 _ rfl
      have r1 := cell_at HR8.out 1 _ rfl
      have r2 := cell_at HR8.out 2 _ rfl
      have r3 := cell_at HR8.out 3 _ rfl
      have g0 := frozen_of_row _ _ 0 _ _ HR8.out
      have g1 := frozen_of_row _ _ 1 _ _ HR8.out
      have g2 := frozen_of_row _ _ 2 _ _ HR8.out
      have g3 := frozen_of_row _ _ 3 _ _ HR8.out
      refine wp_region_noPanic ?_
      refine wp_region_held_drew (S := fun w' => w'.heap[W.heap.size]? = some (.cells #[.string S, .int .u32 (E : Nat), .int .u32 ((X : Int) + 1), .slice A6 (n + 1) c6] 25 (0, 0)) ∧ w'.heap[W.heap.size + 1]? = some (.cells #[.int .u32 (X : Nat), .int .i64 d, .int .i64 f, .slice Am m cm] 30 (0, 0))) (by kernel_rfl) hS8 (fun hHeld => ?_)
      refine wpAnyH_take (i := 0) (v := ?_) rfl (by kernel_rfl) (by kernel_rfl) (by kernel_rfl) (fun _ _ _ h => h) (Or.inl ⟨by kernel_rfl, ?_⟩) hHeld ?_
      rotate_left
      · (intro w' hw'; have b0 := cell_at hw'.1 0 _ rfl; have b1 := cell_at hw'.1 1 _ rfl; have b2 := cell_at hw'.1 2 _ rfl; have b3 := cell_at hw'.1 3 _ rfl; go_simp; first | done | with_reducible rfl)
      refine wpAnyH_take (i := 1) (v := ?_) rfl (by kernel_rfl) (by kernel_rfl) (by kernel_rfl) (fun _ _ _ h => h) (Or.inl ⟨by kernel_rfl, ?_⟩) hHeld ?_
      rotate_left
      · (intro w' hw'; go_simp; first | done | with_reducible rfl)
      refine wpAnyH_take (i := 2) (v := ?_) rfl (by kernel_rfl) (by kernel_rfl) (by kernel_rfl) (fun _ _ _ h => h) (Or.inl ⟨by kernel_rfl, ?_⟩) hHeld ?_
      rotate_left
      · (intro w' hw'; have m0 := cell_at hw'.2 0 _ rfl; go_simp; first | done | with_reducible rfl)
      refine wpAnyH_ready (rs := [3]) (by kernel_rfl) (by simp) ?_
      refine AllReadyH.cons rfl (fun K hK => ?_) AllReadyH.nil
      go_simp
      obtain ⟨k1, k2, k3⟩ := four HR8.out rfl (.string S) (.int .u32 (E : Nat)) (.int .u32 ((X : Int) + 1)) (.slice A6 (n + 1) c6)
      have hs9 : ((((w8.setCell ⟨W.heap.size + 1 + 1, 0, none⟩ (.string S)).setCell ⟨W.heap.size + 1 + 1, 1, none⟩ (.int .u32 (E : Nat))).setCell ⟨W.heap.size + 1 + 1, 2, none⟩ (.int .u32 ((X : Int) + 1))).setCell ⟨W.heap.size + 1 + 1, 3, none⟩ (.slice A6 (n + 1) c6)).drew.heap[W.heap.size]? = some (.cells #[.string S, .int .u32 (E : Nat), .int .u32 ((X : Int) + 1), .slice A6 (n + 1) c6] 25 (0, 0)) ∧ ((((w8.setCell ⟨W.heap.size + 1 + 1, 0, none⟩ (.string S)).setCell ⟨W.heap.size + 1 + 1, 1, none⟩ (.int .u32 (E : Nat))).setCell ⟨W.heap.size + 1 + 1, 2, none⟩ (.int .u32 ((X : Int) + 1))).setCell ⟨W.heap.size + 1 + 1, 3, none⟩ (.slice A6 (n + 1) c6)).drew.heap[W.heap.size + 1]? = some (.cells #[.int .u32 (X : Nat), .int .i64 d, .int .i64 f, .slice Am m cm] 30 (0, 0)) := And.intro ((k2 W.heap.size (by omega)).trans hHeld.1) ((k2 (W.heap.size + 1) (by omega)).trans hHeld.2)
      have HK9 := Lib.hid (show ((((w8.setCell ⟨W.heap.size + 1 + 1, 0, none⟩ (.string S)).setCell ⟨W.heap.size + 1 + 1, 1, none⟩ (.int .u32 (E : Nat))).setCell ⟨W.heap.size + 1 + 1, 2, none⟩ (.int .u32 ((X : Int) + 1))).setCell ⟨W.heap.size + 1 + 1, 3, none⟩ (.slice A6 (n + 1) c6)).drew.heap[W.heap.size + 1 + 1]? = some (.cells #[.string S, .int .u32 (E : Nat), .int .u32 ((X : Int) + 1), .slice A6 (n + 1) c6] 25 (0, 0)) from k1)
      have HK3 := Lib.hid (show ∀ (B : Nat) (a : World), Below B a w8 → B ≤ W.heap.size + 1 + 1 → Below B a ((((w8.setCell ⟨W.heap.size + 1 + 1, 0, none⟩ (.string S)).setCell ⟨W.heap.size + 1 + 1, 1, none⟩ (.int .u32 (E : Nat))).setCell ⟨W.heap.size + 1 + 1, 2, none⟩ (.int .u32 ((X : Int) + 1))).setCell ⟨W.heap.size + 1 + 1, 3, none⟩ (.slice A6 (n + 1) c6)) from k3)
      clear k1 k2 k3
      refine hK _ _ hs9 (fun hH9 => ?_)
      clear hK K hs9
      refine wpAnyH_take (i := 4) (v := ?_) rfl (by kernel_rfl) (by kernel_rfl) (by kernel_rfl) (fun _ _ _ h => h) (Or.inl ⟨by kernel_rfl, ?_⟩) hH9 ?_
      rotate_left
      · (intro w' hw'; go_simp; first | done | with_reducible rfl)
      refine wpAnyH_take (i := 5) (v := ?_) rfl (by kernel_rfl) (by kernel_rfl) (by kernel_rfl) (fun _ _ _ h => h) (Or.inl ⟨by kernel_rfl, ?_⟩) hH9 ?_
      rotate_left
      · (intro w' hw'; go_simp; first | done | with_reducible rfl)
      refine wpAnyH_done (by kernel_rfl) ?_ _
      refine NoPanic.normal ?_
      go_simp
      go_wp2_with fail
      obtain ⟨ho8, hv, hyy, hw8⟩ := HO8.out
      have hv2 := hv (W.heap.size + 1 + 1) (by omega)
      have hy2 : ∀ y ∈ qs ++ [(⟨⟨2, E, S, X, d, f, l⟩, 0, Am, m, cm⟩ : Y)], ∀ ad, y.A = some ad → 0 < y.m → ad.block ≠ W.heap.size + 1 + 1 := fun y hy ad e h0 => by have := hyy y hy ad e h0; omega
      have ho9 := own_other (u := .slice A6 (n + 1) c6) (j := 3) (own_other (u := .int .u32 ((X : Int) + 1)) (j := 2) (own_other (u := .int .u32 (E : Nat)) (j := 1) (own_other (u := .string S) (j := 0) ho8 hv2 hy2) hv2 hy2) hv2 hy2) hv2 hy2
      have hz1 := HZ1.out
      have ho10 : Own cM 4 w1.heap.size 30 ((((w8.setCell ⟨W.heap.size + 1 + 1, 0, none⟩ (.string S)).setCell ⟨W.heap.size + 1 + 1, 1, none⟩ (.int .u32 (E : Nat))).setCell ⟨W.heap.size + 1 + 1, 2, none⟩ (.int .u32 ((X : Int) + 1))).setCell ⟨W.heap.size + 1 + 1, 3, none⟩ (.slice A6 (n + 1) c6)).drew (.slice A6 (n + 1) c6) (qs ++ [(⟨⟨2, E, S, X, d, f, l⟩, 0, Am, m, cm⟩ : Y)]) := ho9.below (codec.below_draws (Below.refl _ _) 1)
      refine bodyPost_ret (results_cell_tmp_tmp Tryd.results18 _ _ (W.heap.size + 1 + 1) _ _ _ _ rfl HK9.out Tryd.underlying25 rfl (boxSize _ rfl)) rfl ⟨A6, n + 1, c6, qs ++ [(⟨⟨2, E, S, X, d, f, l⟩, 0, Am, m, cm⟩ : Y)], by rw [Int.natCast_add]; rfl, ⟨⟨ho10.1.1, ho10.1.2.imp id fun ⟨g, cap, cur, h1, h2, h3⟩ => ⟨g, cap, cur, h1, by omega, h3⟩⟩, ho10.2⟩, by simp [nts], (HK3.out _ _ hw8 (by omega)).trans (codec.below_draws (Below.refl _ _) 1)⟩
    · have hbl : Below we.heap.size we (we.alloc (.cells #[.int .u32 (X : Nat), .int .i64 d, .int .i64 f, .slice Am m cm] 30)) := (Below.refl _ _).alloc (Nat.le_refl _) _
      have hsl := hse.trans (hbl.mono hse.size)
      have HRl := Lib.hid (show Rd cM 4 (we.alloc (.cells #[.int .u32 (X : Nat), .int .i64 d, .int .i64 f, .slice Am m cm] 30)) (some ⟨we.heap.size, 0, none⟩) 1 [(⟨⟨2, E, S, X, d, f, l⟩, 0, Am, m, cm⟩ : Y)] from rd_one (HOC.out _ hse))
      have HLl := Lib.hid (show we.heap.size < (we.alloc (.cells #[.int .u32 (X : Nat), .int .i64 d, .int .i64 f, .slice Am m cm] 30)).heap.size by simp)
      go_simp
      refine hK.out _ _ (fun _ => hsl) (fun hh => ?_)
      clear hK K hh
      generalize gl : we.heap.size = gl0 at *
      generalize we.alloc (.cells #[.int .u32 (X : Nat), .int .i64 d, .int .i64 f, .slice Am m cm] 30) = wl at *
      have HOe := Lib.hid (show Own cM 4 w1.heap.size 30 wl (.slice (some ⟨ge0, 0, none⟩) 0 0) [] from HOe.out.below (by rw [gl]; exact hbl))
      refine held.wpAnyG_ready (rs := [3]) (by kernel_rfl) (by simp) ?_
      refine held.AllReadyG.cons rfl (fun K hK => ?_) held.AllReadyG.nil
      refine step_append_rows rfl (.tmp 19) (.tmp 21) rfl w1.heap.size (.slice (some ⟨ge0, 0, none⟩) 0 0) [] (by simp [Act.eval, Act.put]) HOe.out hsl.size A n c qs (by simp [Act.eval, Act.put]) (HRQ.out _ hsl) HAN.out (fun y hy ad e h0 e' => by
        have h1 := HOQ.out y hy ad e h0
        have h2 : ge0 = ad.block := Option.some.inj e'
        have h3 := HGe.out
        have h4 := HZ1.out
        omega) (by have := HNL.out; simp; omega) ?_
      intro v3 w3 ho3 hg3 hn3 hat3
      rw [List.nil_append] at ho3
      have hs3 := own_below (B := 0) HOe.out hsl hg3
      have HO3 := Lib.hid ho3
      have HRl := Lib.hid (rd_grown HRl.out hg3 (fun ad e _ e' => by
        cases e
        have h1 : gl0 = ge0 := Option.some.inj e'
        have h2 := HGl.out
        omega) (fun y hy ad e h0 e' => by
        simp at hy
        subst hy
        have h1 := HOM.out ad e h0
        have h2 : ad.block = ge0 := Option.some.inj e'
        have h3 := HGe.out
        have h4 := HZ1.out
        omega) (by decide) fM)
      clear ho3 hg3 hn3 hat3
      refine hK.out _ _ (fun _ => hs3) (fun hh => ?_)
      clear hK K hh
      refine held.wpAnyG_ready (rs := [6]) (by kernel_rfl) (by simp) ?_
      refine held.AllReadyG.cons rfl (fun K hK => ?_) held.AllReadyG.nil
      refine step_append_rows rfl (.tmp 22) (.tmp 24) rfl w1.heap.size v3 qs (by simp [Act.eval, Act.put]) HO3.out hs3.size (some ⟨gl0, 0, none⟩) 1 1 [(⟨⟨2, E, S, X, d, f, l⟩, 0, Am, m, cm⟩ : Y)] (by simp [Act.eval, Act.put]) HRl.out (fun e => by cases e) (fun y hy ad e h0 e' => by
        simp at hy
        subst hy
        have h1 := HOM.out ad e h0
        have h2 := (HO3.out.lt e').1
        have h3 := HZ1.out
        omega) (by have h1 := HNL.out; have h2 := HQL.out; omega) ?_
      intro v6 w6 ho6 hg6 hn6 hat6
      have hs6 := own_below (B := 0) HO3.out hs3 hg6
      obtain ⟨A6, c6, rfl, -, -, -⟩ := ho6.rd fM
      have hl6 : (qs ++ [(⟨⟨2, E, S, X, d, f, l⟩, 0, Am, m, cm⟩ : Y)]).length = n + 1 := by rw [List.length_append, HQL.out]; rfl
      rw [hl6] at ho6 ⊢
      have HB6 := Lib.hid (And.intro ho6 hs6)
      have hq6 := HQ1.out _ hs6
      have cc := cell_at hq6 3 _ rfl
      have ff := frozen_of_row _ _ 3 _ _ hq6
      clear ho6 hg6 hn6 hat6 hl6 hq6
      refine hK.out _ _ (fun _ => hs6) (fun hh => ?_)
      have hH6 := hh (by decide)
      clear hK K hh
      refine held.wpAnyG_take (i := 7) (v := ?_) rfl (by kernel_rfl) (by kernel_rfl) (by kernel_rfl) (by kernel_rfl) (fun _ _ _ h => h) (Or.inl ⟨by kernel_rfl, ?_⟩) hH6 ?_
      rotate_left
      · (intro w' hw'; go_simp; first | done | with_reducible rfl)
      refine held.wpAnyG_ready (rs := [8]) (by kernel_rfl) (by simp) ?_
      refine held.AllReadyG.cons rfl (fun K hK => ?_) held.AllReadyG.nil
      go_simp
      refine hK.out _ _ (fun hh => absurd rfl hh) (fun _ => ?_)
      clear hK K hH6
      refine held.wpAnyG_done (by kernel_rfl) ?_ _
      refine NoPanic.normal ?_
      go_simp
      clear cc ff hs6
      obtain ⟨ho6, hb6⟩ := HB6.out
      have hz1 := HZ1.out
      have hq6 := HQ1.out _ hb6
      have hm6 := HM1.out _ hb6
      have hr6 := HR1.out _ hb6
      have hq7 : (w6.setCell ⟨W.heap.size, 3, none⟩ (.slice A6 (n + 1) c6)).heap[W.heap.size]? = some (.cells #[.string S, .int .u32 (E : Nat), .int .u32 (X : Nat), .slice A6 (n + 1) c6] 25 (0, 0)) := by rw [heap_setCell_same _ _ _ _ _ _ hq6]; rfl
      have hq8 : ((w6.setCell ⟨W.heap.size, 3, none⟩ (.slice A6 (n + 1) c6)).setCell ⟨W.heap.size, 2, none⟩ (.int .u32 ((X : Int) + 1))).heap[W.heap.size]? = some (.cells #[.string S, .int .u32 (E : Nat), .int .u32 ((X : Int) + 1), .slice A6 (n + 1) c6] 25 (0, 0)) := by rw [heap_setCell_same _ _ _ _ _ _ hq7]; rfl
      have hm8 : ((w6.setCell ⟨W.heap.size, 3, none⟩ (.slice A6 (n + 1) c6)).setCell ⟨W.heap.size, 2, none⟩ (.int .u32 ((X : Int) + 1))).heap[W.heap.size + 1]? = some (.cells #[.int .u32 (X : Nat), .int .i64 d, .int .i64 f, .slice Am m cm] 30 (0, 0)) := by rw [heap_setCell_other _ _ _ _ (by show _ ≠ W.heap.size; omega), heap_setCell_other _ _ _ _ (by show _ ≠ W.heap.size; omega)]; exact hm6
      have hr8 : ((w6.setCell ⟨W.heap.size, 3, none⟩ (.slice A6 (n + 1) c6)).setCell ⟨W.heap.size, 2, none⟩ (.int .u32 ((X : Int) + 1))).heap[W.heap.size + 1 + 1]? = some (.cells #[.string ⟨#[]⟩, .int .u32 0, .int .u32 0, .slice none 0 0] 25 (0, 0)) := by rw [heap_setCell_other _ _ _ _ (by show _ ≠ W.heap.size; omega), heap_setCell_other _ _ _ _ (by show _ ≠ W.heap.size; omega)]; exact hr6
      have hv : ∀ p, p < W.heap.size + 3 → (Value.slice A6 (n + 1) c6).ownBlock ≠ some p := fun p hp e => by have := (ho6.lt e).1; omega
      have hyy : ∀ y ∈ qs ++ [(⟨⟨2, E, S, X, d, f, l⟩, 0, Am, m, cm⟩ : Y)], ∀ ad, y.A = some ad → 0 < y.m → ad.block < W.heap.size := fun y hy ad e h0 => by
        rcases List.mem_append.1 hy with hy | hy
        · exact HOQ.out y hy ad e h0
        · simp at hy
          subst hy
          exact HOM.out ad e h0
      have ho8 := own_other (u := .int .u32 ((X : Int) + 1)) (j := 2) (own_other (u := .slice A6 (n + 1) c6) (j := 3) ho6 (hv W.heap.size (by omega)) (fun y hy ad e h0 => by have := hyy y hy ad e h0; omega)) (hv W.heap.size (by omega)) (fun y hy ad e h0 => by have := hyy y hy ad e h0; omega)
      have hw8 : Below W.heap.size W ((w6.setCell ⟨W.heap.size, 3, none⟩ (.slice A6 (n + 1) c6)).setCell ⟨W.heap.size, 2, none⟩ (.int .u32 ((X : Int) + 1))) := ((HW1B.out.trans (hb6.mono HW1B.out.size)).setCell (p := ⟨W.heap.size, 3, none⟩) (Nat.le_refl _) _).setCell (p := ⟨W.heap.size, 2, none⟩) (Nat.le_refl _) _
      have e2 := cell_at hq7 2 _ rfl
      have fr2 := frozen_of_row _ _ 2 _ _ hq7
      have HS8 := Lib.hid (And.intro hq8 hm8)
      have HR8 := Lib.hid hr8
      have HO8 := Lib.hid (And.intro ho8 (And.intro hv (And.intro hyy hw8)))
      have kx : IntKind.u32.wrap ((X : Int) + 1) = (X : Int) + 1 := IntWalk.u32_in ((X : Int) + 1) (by have := HXL.out; omega)
      clear ho6 hb6 hz1 hq6 hm6 hr6 hq7 hq8 hm8 hr8 hv hyy ho8 hw8
      go_wp2_with fail
      clear e2 fr2
      generalize (w6.setCell ⟨W.heap.size, 3, none⟩ (.slice A6 (n + 1) c6)).setCell ⟨W.heap.size, 2, none⟩ (.int .u32 ((X : Int) + 1)) = w8 at *
      have hS8 : w8.drew.heap[W.heap.size]? = some (.cells #[.string S, .int .u32 (E : Nat), .int .u32 ((X : Int) + 1), .slice A6 (n + 1) c6] 25 (0, 0)) ∧ w8.drew.heap[W.heap.size + 1]? = some (.cells #[.int .u32 (X : Nat), .int .i64 d, .int .i64 f, .slice Am m cm] 30 (0, 0)) := HS8.out
      have r0 := cell_at HR8.out 0 _ rfl
      have r1 := cell_at HR8.out 1 _ rfl
      have r2 := cell_at HR8.out 2 _ rfl
      have r3 := cell_at HR8.out 3 _ rfl
      have g0 := frozen_of_row _ _ 0 _ _ HR8.out
      have g1 := frozen_of_row _ _ 1 _ _ HR8.out
      have g2 := frozen_of_row _ _ 2 _ _ HR8.out
      have g3 := frozen_of_row _ _ 3 _ _ HR8.out
      refine wp_region_noPanic ?_
      refine wp_region_held_drew (S := fun w' => w'.heap[W.heap.size]? = some (.cells #[.string S, .int .u32 (E : Nat), .int .u32 ((X : Int) + 1), .slice A6 (n + 1) c6] 25 (0, 0)) ∧ w'.heap[W.heap.size + 1]? = some (.cells #[.int .u32 (X : Nat), .int .i64 d, .int .i64 f, .slice Am m cm] 30 (0, 0))) (by kernel_rfl) hS8 (fun hHeld => ?_)
      refine wpAnyH_take (i := 0) (v := ?_) rfl (by kernel_rfl) (by kernel_rfl) (by kernel_rfl) (fun _ _ _ h => h) (Or.inl ⟨by kernel_rfl, ?_⟩) hHeld ?_
      rotate_left
      · (intro w' hw'; have b0 := cell_at hw'.1 0 _ rfl; have b1 := cell_at hw'.1 1 _ rfl; have b2 := cell_at hw'.1 2 _ rfl; have b3 := cell_at hw'.1 3 _ rfl; go_simp; first | done | with_reducible rfl)
      refine wpAnyH_take (i := 1) (v := ?_) rfl (by kernel_rfl) (by kernel_rfl) (by kernel_rfl) (fun _ _ _ h => h) (Or.inl ⟨by kernel_rfl, ?_⟩) hHeld ?_
      rotate_left
      · (intro w' hw'; go_simp; first | done | with_reducible rfl)
      refine wpAnyH_take (i := 2) (v := ?_) rfl (by kernel_rfl) (by kernel_rfl) (by kernel_rfl) (fun _ _ _ h => h) (Or.inl ⟨by kernel_rfl, ?_⟩) hHeld ?_
      rotate_left
      · (intro w' hw'; have m0 := cell_at hw'.2 0 _ rfl; go_simp; first | done | with_reducible rfl)
      refine wpAnyH_ready (rs := [3]) (by kernel_rfl) (by simp) ?_
      refine AllReadyH.cons rfl (fun K hK => ?_) AllReadyH.nil
      go_simp
      obtain ⟨k1, k2, k3⟩ := four HR8.out rfl (.string S) (.int .u32 (E : Nat)) (.int .u32 ((X : Int) + 1)) (.slice A6 (n + 1) c6)
      have hs9 : ((((w8.setCell ⟨W.heap.size + 1 + 1, 0, none⟩ (.string S)).setCell ⟨W.heap.size + 1 + 1, 1, none⟩ (.int .u32 (E : Nat))).setCell ⟨W.heap.size + 1 + 1, 2, none⟩ (.int .u32 ((X : Int) + 1))).setCell ⟨W.heap.size + 1 + 1, 3, none⟩ (.slice A6 (n + 1) c6)).drew.heap[W.heap.size]? = some (.cells #[.string S, .int .u32 (E : Nat), .int .u32 ((X : Int) + 1), .slice A6 (n + 1) c6] 25 (0, 0)) ∧ ((((w8.setCell ⟨W.heap.size + 1 + 1, 0, none⟩ (.string S)).setCell ⟨W.heap.size + 1 + 1, 1, none⟩ (.int .u32 (E : Nat))).setCell ⟨W.heap.size + 1 + 1, 2, none⟩ (.int .u32 ((X : Int) + 1))).setCell ⟨W.heap.size + 1 + 1, 3, none⟩ (.slice A6 (n + 1) c6)).drew.heap[W.heap.size + 1]? = some (.cells #[.int .u32 (X : Nat), .int .i64 d, .int .i64 f, .slice Am m cm] 30 (0, 0)) := And.intro ((k2 W.heap.size (by omega)).trans hHeld.1) ((k2 (W.heap.size + 1) (by omega)).trans hHeld.2)
      have HK9 := Lib.hid (show ((((w8.setCell ⟨W.heap.size + 1 + 1, 0, none⟩ (.string S)).setCell ⟨W.heap.size + 1 + 1, 1, none⟩ (.int .u32 (E : Nat))).setCell ⟨W.heap.size + 1 + 1, 2, none⟩ (.int .u32 ((X : Int) + 1))).setCell ⟨W.heap.size + 1 + 1, 3, none⟩ (.slice A6 (n + 1) c6)).drew.heap[W.heap.size + 1 + 1]? = some (.cells #[.string S, .int .u32 (E : Nat), .int .u32 ((X : Int) + 1), .slice A6 (n + 1) c6] 25 (0, 0)) from k1)
      have HK3 := Lib.hid (show ∀ (B : Nat) (a : World), Below B a w8 → B ≤ W.heap.size + 1 + 1 → Below B a ((((w8.setCell ⟨W.heap.size + 1 + 1, 0, none⟩ (.string S)).setCell ⟨W.heap.size + 1 + 1, 1, none⟩ (.int .u32 (E : Nat))).setCell ⟨W.heap.size + 1 + 1, 2, none⟩ (.int .u32 ((X : Int) + 1))).setCell ⟨W.heap.size + 1 + 1, 3, none⟩ (.slice A6 (n + 1) c6)) from k3)
      clear k1 k2 k3
      refine hK _ _ hs9 (fun hH9 => ?_)
      clear hK K hs9
      refine wpAnyH_take (i := 4) (v := ?_) rfl (by kernel_rfl) (by kernel_rfl) (by kernel_rfl) (fun _ _ _ h => h) (Or.inl ⟨by kernel_rfl, ?_⟩) hH9 ?_
      rotate_left
      · (intro w' hw'; go_simp; first | done | with_reducible rfl)
      refine wpAnyH_take (i := 5) (v := ?_) rfl (by kernel_rfl) (by kernel_rfl) (by kernel_rfl) (fun _ _ _ h => h) (Or.inl ⟨by kernel_rfl, ?_⟩) hH9 ?_
      rotate_left
      · (intro w' hw'; go_simp; first | done | with_reducible rfl)
      refine wpAnyH_done (by kernel_rfl) ?_ _
      refine NoPanic.normal ?_
      go_simp
      go_wp2_with fail
      obtain ⟨ho8, hv, hyy, hw8⟩ := HO8.out
      have hv2 := hv (W.heap.size + 1 + 1) (by omega)
      have hy2 : ∀ y ∈ qs ++ [(⟨⟨2, E, S, X, d, f, l⟩, 0, Am, m, cm⟩ : Y)], ∀ ad, y.A = some ad → 0 < y.m → ad.block ≠ W.heap.size + 1 + 1 := fun y hy ad e h0 => by have := hyy y hy ad e h0; omega
      have ho9 := own_other (u := .slice A6 (n + 1) c6) (j := 3) (own_other (u := .int .u32 ((X : Int) + 1)) (j := 2) (own_other (u := .int .u32 (E : Nat)) (j := 1) (own_other (u := .string S) (j := 0) ho8 hv2 hy2) hv2 hy2) hv2 hy2) hv2 hy2
      have hz1 := HZ1.out
      have ho10 : Own cM 4 w1.heap.size 30 ((((w8.setCell ⟨W.heap.size + 1 + 1, 0, none⟩ (.string S)).setCell ⟨W.heap.size + 1 + 1, 1, none⟩ (.int .u32 (E : Nat))).setCell ⟨W.heap.size + 1 + 1, 2, none⟩ (.int .u32 ((X : Int) + 1))).setCell ⟨W.heap.size + 1 + 1, 3, none⟩ (.slice A6 (n + 1) c6)).drew (.slice A6 (n + 1) c6) (qs ++ [(⟨⟨2, E, S, X, d, f, l⟩, 0, Am, m, cm⟩ : Y)]) := ho9.below (codec.below_draws (Below.refl _ _) 1)
      refine bodyPost_ret (results_cell_tmp_tmp Tryd.results18 _ _ (W.heap.size + 1 + 1) _ _ _ _ rfl HK9.out Tryd.underlying25 rfl (boxSize _ rfl)) rfl ⟨A6, n + 1, c6, qs ++ [(⟨⟨2, E, S, X, d, f, l⟩, 0, Am, m, cm⟩ : Y)], by rw [Int.natCast_add]; rfl, ⟨⟨ho10.1.1, ho10.1.2.imp id fun ⟨g, cap, cur, h1, h2, h3⟩ => ⟨g, cap, cur, h1, by omega, h3⟩⟩, ho10.2⟩, by simp [nts], (HK3.out _ _ hw8 (by omega)).trans (codec.below_draws (Below.refl _ _) 1)⟩
  · have hbl : Below w2.heap.size w2 (w2.alloc (.cells #[.int .u32 (X : Nat), .int .i64 d, .int .i64 f, .slice Am m cm] 30)) := (Below.refl _ _).alloc (Nat.le_refl _) _
    have hsl := hHeld0.trans (hbl.mono hHeld0.size)
    have HRl := Lib.hid (show Rd cM 4 (w2.alloc (.cells #[.int .u32 (X : Nat), .int .i64 d, .int .i64 f, .slice Am m cm] 30)) (some ⟨w2.heap.size, 0, none⟩) 1 [(⟨⟨2, E, S, X, d, f, l⟩, 0, Am, m, cm⟩ : Y)] from rd_one (HOC.out _ hHeld0))
    have HLl := Lib.hid (show w2.heap.size < (w2.alloc (.cells #[.int .u32 (X : Nat), .int .i64 d, .int .i64 f, .slice Am m cm] 30)).heap.size by simp)
    go_simp
    refine hK.out _ _ (fun _ => hsl) (fun hh => ?_)
    clear hK K hh
    generalize gl : w2.heap.size = gl0 at *
    generalize w2.alloc (.cells #[.int .u32 (X : Nat), .int .i64 d, .int .i64 f, .slice Am m cm] 30) = wl at *
    refine held.wpAnyG_ready (rs := [0]) (by kernel_rfl) (by simp) ?_
    refine held.AllReadyG.cons rfl (fun K hK => ?_) held.AllReadyG.nil
    have hbe : Below wl.heap.size wl (wl.alloc (.cells #[] 30)) := (Below.refl _ _).alloc (Nat.le_refl _) _
    have hse := hsl.trans (hbe.mono hsl.size)
    have HOe := Lib.hid (show Own cM 4 w1.heap.size 30 (wl.alloc (.cells #[] 30)) (.slice (some ⟨wl.heap.size, 0, none⟩) 0 0) [] from ⟨World.ownsRow_made wl #[] 0 hsl.size (Nat.zero_le _) rfl, by simp⟩)
    have HGe := Lib.hid (show w1.heap.size ≤ wl.heap.size from hsl.size)
    have HGl := Lib.hid (show wl.heap.size < (wl.alloc (.cells #[] 30)).heap.size by simp)
    go_simp
    refine hK.out _ _ (fun _ => hse) (fun hh => ?_)
    clear hK K hh
    generalize ge : wl.heap.size = ge0 at *
    generalize wl.alloc (.cells #[] 30) = we at *
    have HRl := Lib.hid (show Rd cM 4 we (some ⟨gl0, 0, none⟩) 1 [(⟨⟨2, E, S, X, d, f, l⟩, 0, Am, m, cm⟩ : Y)] from HRl.out.below (by rw [ge]; exact hbe))
    refine held.wpAnyG_ready (rs := [3]) (by kernel_rfl) (by simp) ?_
    refine held.AllReadyG.cons rfl (fun K hK => ?_) held.AllReadyG.nil
    refine step_append_rows rfl (.tmp 19) (.tmp 21) rfl w1.heap.size (.slice (some ⟨ge0, 0, none⟩) 0 0) [] (by simp [Act.eval, Act.put]) HOe.out hse.size A n c qs (by simp [Act.eval, Act.put]) (HRQ.out _ hse) HAN.out (fun y hy ad e h0 e' => by
      have h1 := HOQ.out y hy ad e h0
      have h2 : ge0 = ad.block := Option.some.inj e'
      have h3 := HGe.out
      have h4 := HZ1.out
      omega) (by have := HNL.out; simp; omega) ?_
    intro v3 w3 ho3 hg3 hn3 hat3
    rw [List.nil_append] at ho3
    have hs3 := own_below (B := 0) HOe.out hse hg3
    have HO3 := Lib.hid ho3
    have HRl := Lib.hid (rd_grown HRl.out hg3 (fun ad e _ e' => by
      cases e
      have h1 : gl0 = ge0 := Option.some.inj e'
      have h2 := HLl.out
      omega) (fun y hy ad e h0 e' => by
      simp at hy
      subst hy
      have h1 := HOM.out ad e h0
      have h2 : ad.block = ge0 := Option.some.inj e'
      have h3 := HGe.out
      have h4 := HZ1.out
      omega) (by decide) fM)
    clear ho3 hg3 hn3 hat3
    refine hK.out _ _ (fun _ => hs3) (fun hh => ?_)
    clear hK K hh
    refine held.wpAnyG_ready (rs := [6]) (by kernel_rfl) (by simp) ?_
    refine held.AllReadyG.cons rfl (fun K hK => ?_) held.AllReadyG.nil
    refine step_append_rows rfl (.tmp 22) (.tmp 24) rfl w1.heap.size v3 qs (by simp [Act.eval, Act.put]) HO3.out hs3.size (some ⟨gl0, 0, none⟩) 1 1 [(⟨⟨2, E, S, X, d, f, l⟩, 0, Am, m, cm⟩ : Y)] (by simp [Act.eval, Act.put]) HRl.out (fun e => by cases e) (fun y hy ad e h0 e' => by
      simp at hy
      subst hy
      have h1 := HOM.out ad e h0
      have h2 := (HO3.out.lt e').1
      have h3 := HZ1.out
      omega) (by have h1 := HNL.out; have h2 := HQL.out; omega) ?_
    intro v6 w6 ho6 hg6 hn6 hat6
    have hs6 := own_below (B := 0) HO3.out hs3 hg6
    obtain ⟨A6, c6, rfl, -, -, -⟩ := ho6.rd fM
    have hl6 : (qs ++ [(⟨⟨2, E, S, X, d, f, l⟩, 0, Am, m, cm⟩ : Y)]).length = n + 1 := by rw [List.length_append, HQL.out]; rfl
    rw [hl6] at ho6 ⊢
    have HB6 := Lib.hid (And.intro ho6 hs6)
    have hq6 := HQ1.out _ hs6
    have cc := cell_at hq6 3 _ rfl
    have ff := frozen_of_row _ _ 3 _ _ hq6
    clear ho6 hg6 hn6 hat6 hl6 hq6
    refine hK.out _ _ (fun _ => hs6) (fun hh => ?_)
    have hH6 := hh (by decide)
    clear hK K hh
    refine held.wpAnyG_take (i := 7) (v := ?_) rfl (by kernel_rfl) (by kernel_rfl) (by kernel_rfl) (by kernel_rfl) (fun _ _ _ h => h) (Or.inl ⟨by kernel_rfl, ?_⟩) hH6 ?_
    rotate_left
    · (intro w' hw'; go_simp; first | done | with_reducible rfl)
    refine held.wpAnyG_ready (rs := [8]) (by kernel_rfl) (by simp) ?_
    refine held.AllReadyG.cons rfl (fun K hK => ?_) held.AllReadyG.nil
    go_simp
    refine hK.out _ _ (fun hh => absurd rfl hh) (fun _ => ?_)
    clear hK K hH6
    refine held.wpAnyG_done (by kernel_rfl) ?_ _
    refine NoPanic.normal ?_
    go_simp
    clear cc ff hs6
    obtain ⟨ho6, hb6⟩ := HB6.out
    have hz1 := HZ1.out
    have hq6 := HQ1.out _ hb6
    have hm6 := HM1.out _ hb6
    have hr6 := HR1.out _ hb6
    have hq7 : (w6.setCell ⟨W.heap.size, 3, none⟩ (.slice A6 (n + 1) c6)).heap[W.heap.size]? = some (.cells #[.string S, .int .u32 (E : Nat), .int .u32 (X : Nat), .slice A6 (n + 1) c6] 25 (0, 0)) := by rw [heap_setCell_same _ _ _ _ _ _ hq6]; rfl
    have hq8 : ((w6.setCell ⟨W.heap.size, 3, none⟩ (.slice A6 (n + 1) c6)).setCell ⟨W.heap.size, 2, none⟩ (.int .u32 ((X : Int) + 1))).heap[W.heap.size]? = some (.cells #[.string S, .int .u32 (E : Nat), .int .u32 ((X : Int) + 1), .slice A6 (n + 1) c6] 25 (0, 0)) := by rw [heap_setCell_same _ _ _ _ _ _ hq7]; rfl
    have hm8 : ((w6.setCell ⟨W.heap.size, 3, none⟩ (.slice A6 (n + 1) c6)).setCell ⟨W.heap.size, 2, none⟩ (.int .u32 ((X : Int) + 1))).heap[W.heap.size + 1]? = some (.cells #[.int .u32 (X : Nat), .int .i64 d, .int .i64 f, .slice Am m cm] 30 (0, 0)) := by rw [heap_setCell_other _ _ _ _ (by show _ ≠ W.heap.size; omega), heap_setCell_other _ _ _ _ (by show _ ≠ W.heap.size; omega)]; exact hm6
    have hr8 : ((w6.setCell ⟨W.heap.size, 3, none⟩ (.slice A6 (n + 1) c6)).setCell ⟨W.heap.size, 2, none⟩ (.int .u32 ((X : Int) + 1))).heap[W.heap.size + 1 + 1]? = some (.cells #[.string ⟨#[]⟩, .int .u32 0, .int .u32 0, .slice none 0 0] 25 (0, 0)) := by rw [heap_setCell_other _ _ _ _ (by show _ ≠ W.heap.size; omega), heap_setCell_other _ _ _ _ (by show _ ≠ W.heap.size; omega)]; exact hr6
    have hv : ∀ p, p < W.heap.size + 3 → (Value.slice A6 (n + 1) c6).ownBlock ≠ some p := fun p hp e => by have := (ho6.lt e).1; omega
    have hyy : ∀ y ∈ qs ++ [(⟨⟨2, E, S, X, d, f, l⟩, 0, Am, m, cm⟩ : Y)], ∀ ad, y.A = some ad → 0 < y.m → ad.block < W.heap.size := fun y hy ad e h0 => by
      rcases List.mem_append.1 hy with hy | hy
      · exact HOQ.out y hy ad e h0
      · simp at hy
        subst hy
        exact HOM.out ad e h0
    have ho8 := own_other (u := .int .u32 ((X : Int) + 1)) (j := 2) (own_other (u := .slice A6 (n + 1) c6) (j := 3) ho6 (hv W.heap.size (by omega)) (fun y hy ad e h0 => by have := hyy y hy ad e h0; omega)) (hv W.heap.size (by omega)) (fun y hy ad e h0 => by have := hyy y hy ad e h0; omega)
    have hw8 : Below W.heap.size W ((w6.setCell ⟨W.heap.size, 3, none⟩ (.slice A6 (n + 1) c6)).setCell ⟨W.heap.size, 2, none⟩ (.int .u32 ((X : Int) + 1))) := ((HW1B.out.trans (hb6.mono HW1B.out.size)).setCell (p := ⟨W.heap.size, 3, none⟩) (Nat.le_refl _) _).setCell (p := ⟨W.heap.size, 2, none⟩) (Nat.le_refl _) _
    have e2 := cell_at hq7 2 _ rfl
    have fr2 := frozen_of_row _ _ 2 _ _ hq7
    have HS8 := Lib.hid (And.intro hq8 hm8)
    have HR8 := Lib.hid hr8
    have HO8 := Lib.hid (And.intro ho8 (And.intro hv (And.intro hyy hw8)))
    have kx : IntKind.u32.wrap ((X : Int) + 1) = (X : Int) + 1 := IntWalk.u32_in ((X : Int) + 1) (by have := HXL.out; omega)
    clear ho6 hb6 hz1 hq6 hm6 hr6 hq7 hq8 hm8 hr8 hv hyy ho8 hw8
    go_wp2_with fail
    clear e2 fr2
    generalize (w6.setCell ⟨W.heap.size, 3, none⟩ (.slice A6 (n + 1) c6)).setCell ⟨W.heap.size, 2, none⟩ (.int .u32 ((X : Int) + 1)) = w8 at *
    have hS8 : w8.drew.heap[W.heap.size]? = some (.cells #[.string S, .int .u32 (E : Nat), .int .u32 ((X : Int) + 1), .slice A6 (n + 1) c6] 25 (0, 0)) ∧ w8.drew.heap[W.heap.size + 1]? = some (.cells #[.int .u32 (X : Nat), .int .i64 d, .int .i64 f, .slice Am m cm] 30 (0, 0)) := HS8.out
    have r0 := cell_at HR8.out 0 _ rfl
    have r1 := cell_at HR8.out 1 _ rfl
    have r2 := cell_at HR8.out 2 _ rfl
    have r3 := cell_at HR8.out 3 _ rfl
    have g0 := frozen_of_row _ _ 0 _ _ HR8.out
    have g1 := frozen_of_row _ _ 1 _ _ HR8.out
    have g2 := frozen_of_row _ _ 2 _ _ HR8.out
    have g3 := frozen_of_row _ _ 3 _ _ HR8.out
    refine wp_region_noPanic ?_
    refine wp_region_held_drew (S := fun w' => w'.heap[W.heap.size]? = some (.cells #[.string S, .int .u32 (E : Nat), .int .u32 ((X : Int) + 1), .slice A6 (n + 1) c6] 25 (0, 0)) ∧ w'.heap[W.heap.size + 1]? = some (.cells #[.int .u32 (X : Nat), .int .i64 d, .int .i64 f, .slice Am m cm] 30 (0, 0))) (by kernel_rfl) hS8 (fun hHeld => ?_)
    refine wpAnyH_take (i := 0) (v := ?_) rfl (by kernel_rfl) (by kernel_rfl) (by kernel_rfl) (fun _ _ _ h => h) (Or.inl ⟨by kernel_rfl, ?_⟩) hHeld ?_
    rotate_left
    · (intro w' hw'; have b0 := cell_at hw'.1 0 _ rfl; have b1 := cell_at hw'.1 1 _ rfl; have b2 := cell_at hw'.1 2 _ rfl; have b3 := cell_at hw'.1 3 _ rfl; go_simp; first | done | with_reducible rfl)
    refine wpAnyH_take (i := 1) (v := ?_) rfl (by kernel_rfl) (by kernel_rfl) (by kernel_rfl) (fun _ _ _ h => h) (Or.inl ⟨by kernel_rfl, ?_⟩) hHeld ?_
    rotate_left
    · (intro w' hw'; go_simp; first | done | with_reducible rfl)
    refine wpAnyH_take (i := 2) (v := ?_) rfl (by kernel_rfl) (by kernel_rfl) (by kernel_rfl) (fun _ _ _ h => h) (Or.inl ⟨by kernel_rfl, ?_⟩) hHeld ?_
    rotate_left
    · (intro w' hw'; have m0 := cell_at hw'.2 0 _ rfl; go_simp; first | done | with_reducible rfl)
    refine wpAnyH_ready (rs := [3]) (by kernel_rfl) (by simp) ?_
    refine AllReadyH.cons rfl (fun K hK => ?_) AllReadyH.nil
    go_simp
    obtain ⟨k1, k2, k3⟩ := four HR8.out rfl (.string S) (.int .u32 (E : Nat)) (.int .u32 ((X : Int) + 1)) (.slice A6 (n + 1) c6)
    have hs9 : ((((w8.setCell ⟨W.heap.size + 1 + 1, 0, none⟩ (.string S)).setCell ⟨W.heap.size + 1 + 1, 1, none⟩ (.int .u32 (E : Nat))).setCell ⟨W.heap.size + 1 + 1, 2, none⟩ (.int .u32 ((X : Int) + 1))).setCell ⟨W.heap.size + 1 + 1, 3, none⟩ (.slice A6 (n + 1) c6)).drew.heap[W.heap.size]? = some (.cells #[.string S, .int .u32 (E : Nat), .int .u32 ((X : Int) + 1), .slice A6 (n + 1) c6] 25 (0, 0)) ∧ ((((w8.setCell ⟨W.heap.size + 1 + 1, 0, none⟩ (.string S)).setCell ⟨W.heap.size + 1 + 1, 1, none⟩ (.int .u32 (E : Nat))).setCell ⟨W.heap.size + 1 + 1, 2, none⟩ (.int .u32 ((X : Int) + 1))).setCell ⟨W.heap.size + 1 + 1, 3, none⟩ (.slice A6 (n + 1) c6)).drew.heap[W.heap.size + 1]? = some (.cells #[.int .u32 (X : Nat), .int .i64 d, .int .i64 f, .slice Am m cm] 30 (0, 0)) := And.intro ((k2 W.heap.size (by omega)).trans hHeld.1) ((k2 (W.heap.size + 1) (by omega)).trans hHeld.2)
    have HK9 := Lib.hid (show ((((w8.setCell ⟨W.heap.size + 1 + 1, 0, none⟩ (.string S)).setCell ⟨W.heap.size + 1 + 1, 1, none⟩ (.int .u32 (E : Nat))).setCell ⟨W.heap.size + 1 + 1, 2, none⟩ (.int .u32 ((X : Int) + 1))).setCell ⟨W.heap.size + 1 + 1, 3, none⟩ (.slice A6 (n + 1) c6)).drew.heap[W.heap.size + 1 + 1]? = some (.cells #[.string S, .int .u32 (E : Nat), .int .u32 ((X : Int) + 1), .slice A6 (n + 1) c6] 25 (0, 0)) from k1)
    have HK3 := Lib.hid (show ∀ (B : Nat) (a : World), Below B a w8 → B ≤ W.heap.size + 1 + 1 → Below B a ((((w8.setCell ⟨W.heap.size + 1 + 1, 0, none⟩ (.string S)).setCell ⟨W.heap.size + 1 + 1, 1, none⟩ (.int .u32 (E : Nat))).setCell ⟨W.heap.size + 1 + 1, 2, none⟩ (.int .u32 ((X : Int) + 1))).setCell ⟨W.heap.size + 1 + 1, 3, none⟩ (.slice A6 (n + 1) c6)) from k3)
    clear k1 k2 k3
    refine hK _ _ hs9 (fun hH9 => ?_)
    clear hK K hs9
    refine wpAnyH_take (i := 4) (v := ?_) rfl (by kernel_rfl) (by kernel_rfl) (by kernel_rfl) (fun _ _ _ h => h) (Or.inl ⟨by kernel_rfl, ?_⟩) hH9 ?_
    rotate_left
    · (intro w' hw'; go_simp; first | done | with_reducible rfl)
    refine wpAnyH_take (i := 5) (v := ?_) rfl (by kernel_rfl) (by kernel_rfl) (by kernel_rfl) (fun _ _ _ h => h) (Or.inl ⟨by kernel_rfl, ?_⟩) hH9 ?_
    rotate_left
    · (intro w' hw'; go_simp; first | done | with_reducible rfl)
    refine wpAnyH_done (by kernel_rfl) ?_ _
    refine NoPanic.normal ?_
    go_simp
    go_wp2_with fail
    obtain ⟨ho8, hv, hyy, hw8⟩ := HO8.out
    have hv2 := hv (W.heap.size + 1 + 1) (by omega)
    have hy2 : ∀ y ∈ qs ++ [(⟨⟨2, E, S, X, d, f, l⟩, 0, Am, m, cm⟩ : Y)], ∀ ad, y.A = some ad → 0 < y.m → ad.block ≠ W.heap.size + 1 + 1 := fun y hy ad e h0 => by have := hyy y hy ad e h0; omega
    have ho9 := own_other (u := .slice A6 (n + 1) c6) (j := 3) (own_other (u := .int .u32 ((X : Int) + 1)) (j := 2) (own_other (u := .int .u32 (E : Nat)) (j := 1) (own_other (u := .string S) (j := 0) ho8 hv2 hy2) hv2 hy2) hv2 hy2) hv2 hy2
    have hz1 := HZ1.out
    have ho10 : Own cM 4 w1.heap.size 30 ((((w8.setCell ⟨W.heap.size + 1 + 1, 0, none⟩ (.string S)).setCell ⟨W.heap.size + 1 + 1, 1, none⟩ (.int .u32 (E : Nat))).setCell ⟨W.heap.size + 1 + 1, 2, none⟩ (.int .u32 ((X : Int) + 1))).setCell ⟨W.heap.size + 1 + 1, 3, none⟩ (.slice A6 (n + 1) c6)).drew (.slice A6 (n + 1) c6) (qs ++ [(⟨⟨2, E, S, X, d, f, l⟩, 0, Am, m, cm⟩ : Y)]) := ho9.below (codec.below_draws (Below.refl _ _) 1)
    refine bodyPost_ret (results_cell_tmp_tmp Tryd.results18 _ _ (W.heap.size + 1 + 1) _ _ _ _ rfl HK9.out Tryd.underlying25 rfl (boxSize _ rfl)) rfl ⟨A6, n + 1, c6, qs ++ [(⟨⟨2, E, S, X, d, f, l⟩, 0, Am, m, cm⟩ : Y)], by rw [Int.natCast_add]; rfl, ⟨⟨ho10.1.1, ho10.1.2.imp id fun ⟨g, cap, cur, h1, h2, h3⟩ => ⟨g, cap, cur, h1, by omega, h3⟩⟩, ho10.2⟩, by simp [nts], (HK3.out _ _ hw8 (by omega)).trans (codec.below_draws (Below.refl _ _) 1)⟩
end Go.Proofs.YtepngemlaiffgaaDoor.mal
