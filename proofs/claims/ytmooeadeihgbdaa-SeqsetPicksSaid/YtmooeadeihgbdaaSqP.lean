/- Parts in rising order, with the farthest ends: the program's way. -/
import Derived.Test.YtmooeadeihgbdaaSqO
import Derived.Test.YtmooeadeihgbdaaSqT
import Derived.Test.YtmooeadeihgbdaaSqG
import Derived.OwnWalk
namespace Go.Proofs.Ytmooeadeihgbdaa.sq
open Go.ChangeShapes Go.WideShapes Go.ChangeAt Go.RowKit
open Go.Proofs.Ytmooeadeihgbdaa.row
set_option linter.unusedVariables false
set_option maxRecDepth 100000
set_option linter.unusedSimpArgs false

theorem nan_any (w : World) (x : Nat) : Calls Try.prog 35 #[.int .u32 (x : Nat)] w fun e w' => e = .returned (.bool false) ∧ w' = w := by
  go_enter Try.func35, Try.ntmps35
  go_wp2
  go_ret
  exact ⟨by simp, rfl⟩
theorem cmp_any (w : World) (u v : Nat) : Calls Try.prog 29 #[.int .u32 (u : Nat), .int .u32 (v : Nat)] w fun e w' => e = .returned (.int .i64 (cmpI u v)) ∧ w' = w := by
  unfold cmpI
  by_cases h1 : u < v
  · have q1 : decide (u < v) = true := decide_eq_true h1
    rw [if_pos h1]
    clear h1
    go_enter Try.func29, Try.ntmps29
    go_wp2_with (go_at_call 35; refine (nan_any _ _).mono ?_; rintro e w1 ⟨rfl, hw⟩; replace hw := hw.symm; subst hw)
    go_ret
    exact ⟨rfl, rfl⟩
  · have q1 : decide (u < v) = false := decide_eq_false h1
    rw [if_neg h1]
    by_cases h2 : v < u
    · have q2 : decide (v < u) = true := decide_eq_true h2
      rw [if_pos h2]
      clear h1 h2
      go_enter Try.func29, Try.ntmps29
      go_wp2_with (go_at_call 35; refine (nan_any _ _).mono ?_; rintro e w1 ⟨rfl, hw⟩; replace hw := hw.symm; subst hw)
      go_ret
      exact ⟨rfl, rfl⟩
    · have q2 : decide (v < u) = false := decide_eq_false h2
      rw [if_neg h2]
      clear h1 h2
      go_enter Try.func29, Try.ntmps29
      go_wp2_with (go_at_call 35; refine (nan_any _ _).mono ?_; rintro e w1 ⟨rfl, hw⟩; replace hw := hw.symm; subst hw)
      go_ret
      exact ⟨rfl, rfl⟩
theorem order_any (W : World) (x y : X) : Calls Try.prog 28 #[.agg #[.int .u32 (x.f : Nat), .int .u32 (x.t : Nat)], .agg #[.int .u32 (y.f : Nat), .int .u32 (y.t : Nat)]] W fun e w' => e = .returned (.int .i64 (cf x y)) ∧ ∃ q os', w' = Sort.grow (W.drewN q) os' := by
  have H := Lib.hid (fun w => cmp_any w x.f y.f)
  unfold cf
  generalize cmpI x.f y.f = r at *
  go_enter Try.func28, Try.ntmps28
  go_wp2_with (go_at_call 29; refine (H.out _).mono ?_; rintro e w1 ⟨rfl, hw⟩; replace hw := hw.symm; subst hw)
  go_ret
  exact ⟨rfl, 0, _, by rw [Sort.alloc_eq_grow, Sort.alloc_eq_grow, Sort.grow_grow]; rfl⟩
theorem swo : Sort.SWO (ltOf cf) where
  irrefl x := by show decide (cf x x < 0) = false; rw [cf_lt]; simp
  trans x y z h1 h2 := by
    have h1 : decide (cf x y < 0) = true := h1
    have h2 : decide (cf y z < 0) = true := h2
    show decide (cf x z < 0) = true
    rw [cf_lt] at *
    simp at *
    omega
  ntrans x y z h1 h2 := by
    have h1 : decide (cf x y < 0) = false := h1
    have h2 : decide (cf y z < 0) = false := h2
    show decide (cf x z < 0) = false
    rw [cf_lt] at *
    simp at *
    omega
theorem holds_of_own {B g m c : Nat} {w : World} {ys : List X} (h : Own cX 2 B 32 w (.slice (some ⟨g, 0, none⟩) m c) ys) (hm : ys.length = m) : Sort.HoldsK cX 2 w g 0 ys.toArray := by
  have h' : World.ownsRow w B 32 2 (.slice (some ⟨g, 0, none⟩) m c) m (fl cX ys) := hm ▸ h
  intro j hj
  have hj' : j < ys.length * 2 := by simpa using hj
  rw [Nat.zero_add]
  refine ⟨?_, h'.frozenAt j⟩
  rw [h'.cellAt j (by omega)]
  have hk : j / 2 < ys.length := by omega
  have hx : ys[j / 2]? = some ys[j / 2] := List.getElem?_eq_getElem hk
  have h3 : j % 2 = 0 ∨ j % 2 = 1 := by omega
  rw [Sort.get_flatK cX 2 ys.toArray j (by simpa using hj')]
  have h4 : ys.toArray[j / 2]! = ys[j / 2] := by simp [hk]
  rw [h4]
  rcases h3 with h3 | h3
  · have := fl_at fX ys (j / 2) _ hx 0 _ rfl
    rw [h3]
    rw [show j / 2 * 2 + 0 = j by omega] at this
    rw [this]
    rfl
  · have := fl_at fX ys (j / 2) _ hx 1 _ rfl
    rw [h3]
    rw [show j / 2 * 2 + 1 = j by omega] at this
    rw [this]
    rfl
/-- The parts in a row, of which the first i have the farthest ends. -/
def Far (w : World) (g : Nat) (ys : List X) (i : Nat) : Prop := ∀ (j : Nat) (x : X), ys[j]? = some x → w.cell? ⟨g, j * 2, none⟩ = some (.int .u32 (x.f : Nat)) ∧ w.cell? ⟨g, j * 2 + 1, none⟩ = some (.int .u32 (tt ys i j x : Nat)) ∧ w.frozen? ⟨g, j * 2 + 1, none⟩ = false
theorem far_of_holds {w : World} {g : Nat} {d : Array X} (h : Sort.HoldsK cX 2 w g 0 d) : Far w g d.toList 1 := by
  intro j x hx
  have hj := (List.getElem?_eq_some_iff.1 hx).1
  have hj' : j < d.size := by simpa using hj
  have e : d[j]! = x := by
    rw [getElem!_pos d j hj']
    have := (List.getElem?_eq_some_iff.1 hx).2
    simpa using this
  have h0 := Sort.HoldsK.cell h (i := j) (c := 0) hj' (by decide)
  have h1 := Sort.HoldsK.cell h (i := j) (c := 1) hj' (by decide)
  rw [e, Nat.zero_add] at h0 h1
  rw [tt_start hx]
  exact ⟨h0.1, h1.1, h1.2⟩
theorem Far.step {w : World} {g i : Nat} {ys : List X} {x : X} (h : Far w g ys i) (hx : ys[i]? = some x) : Far (w.setCell ⟨g, i * 2 + 1, none⟩ (.int .u32 (max x.t (mxL (ys.take i)) : Nat))) g ys (i + 1) := by
  intro j y hy
  obtain ⟨h1, h2, h3⟩ := h j y hy
  by_cases hij : j = i
  · subst hij
    rw [hx] at hy
    cases hy
    refine ⟨(World.cell?_setCell_other _ _ _ _ (by simp)).trans h1, ?_, by rw [World.frozen?_setCell]; exact h3⟩
    rw [World.cell?_setCell_same _ _ _ h2]
    unfold tt
    rw [if_pos (Nat.lt_succ_self j), mxL_next hx, Nat.max_comm]
  · refine ⟨(World.cell?_setCell_other _ _ _ _ (by simp <;> omega)).trans h1, ?_, by rw [World.frozen?_setCell]; exact h3⟩
    rw [World.cell?_setCell_other _ _ _ _ (by simp <;> omega), h2]
    unfold tt
    by_cases h4 : j < i
    · rw [if_pos h4, if_pos (by omega)]
    · rw [if_neg h4, if_neg (by omega)]
theorem Far.below {w w' : World} {g i : Nat} {ys : List X} (h : Far w g ys i) (hb : Below w.heap.size w w') : Far w' g ys i := by
  intro j x hx
  obtain ⟨h1, h2, h3⟩ := h j x hx
  have hlt : g < w.heap.size := block_lt_of_cell h1
  exact ⟨(hb.cell (p := ⟨g, j * 2, none⟩) hlt).trans h1, (hb.cell (p := ⟨g, j * 2 + 1, none⟩) hlt).trans h2, by
    have := hb.block g hlt
    unfold World.frozen? at *
    rw [this]
    exact h3⟩
theorem below_sort {B g n : Nat} {W w : World} {d : Array X} {os : Array Obj} (hb : Below B W w) (hBs : B ≤ w.heap.size) (hg : B ≤ g) : Below B W (sortWorldK cX 2 w g 0 n d os) := by
  unfold sortWorldK
  have h2 : Below B W (Sort.putRowK cX 2 (Sort.ahead w n) g 0 d) := by
    refine ⟨hb.os, hb.tape, hb.output, by rw [Sort.size_putRowK]; exact hb.size, fun i hi => ?_⟩
    rw [← hb.block i hi]
    show (w.heap.modify g _)[i]? = w.heap[i]?
    rw [Array.getElem?_modify, if_neg (by omega)]
  refine ⟨h2.os, h2.tape, h2.output, by have := h2.size; rw [Sort.size_grow]; omega, fun i hi => ?_⟩
  rw [← h2.block i hi]
  show ((Sort.putRowK cX 2 (Sort.ahead w n) g 0 d).heap ++ os)[i]? = _
  rw [Array.getElem?_append_left (by rw [Sort.size_putRowK]; show i < w.heap.size; omega)]
/-- Parts being laid. -/
def RS (W : World) (xs : List X) (gr k : Nat) (v : Value) (w : World) : Prop := Own cX 2 W.heap.size 32 w v (risen (xs.take k) gr) ∧ Below W.heap.size W w ∧ ∃ g, v.ownBlock = some g
/-- What laying the parts answers. -/
def ReachAns (W : World) (xs : List X) (gr : Nat) (e : Ending) (w' : World) : Prop :=
  ∃ g c ys i, e = .returned (.slice (some ⟨g, 0, none⟩) xs.length c) ∧ Far w' g ys i ∧ xs.length ≤ i ∧ ys.Perm (risen xs gr) ∧ Up ys ∧ W.heap.size ≤ g ∧ g < w'.heap.size ∧ Below W.heap.size W w'
end Go.Proofs.Ytmooeadeihgbdaa.sq
