/- Plain mathematics of sets: parts, which numbers are in one. -/
import Derived.Test.YtcepcamedmiinaaGreatDoorMa0
namespace Go.Proofs.YtcepcamedmiinaaGreatDoor.sq

/-- A part: from one number to the other; 0 is the greatest one. -/
structure X where
  f : Nat
  t : Nat
deriving Inhabited, DecidableEq
def told (n g : Nat) : Nat := if n = 0 then g else n
/-- The lesser, and the greater end. -/
def lo (x : X) (g : Nat) : Nat := min (told x.f g) (told x.t g)
def hi (x : X) (g : Nat) : Nat := max (told x.f g) (told x.t g)
def inX (x : X) (n g : Nat) : Bool := decide (lo x g ≤ n) && decide (n ≤ hi x g)
def hasB (l : List X) (n g : Nat) : Bool := decide (n ≠ 0) && l.any fun x => inX x n g
theorem told_lt {n g : Nat} (hn : n < 4294967296) (hg : g < 4294967296) : told n g < 4294967296 := by unfold told; split <;> assumption
theorem any_no {α : Type} {p : α → Bool} {l : List α} (h : ∀ (j : Nat) (x : α), l[j]? = some x → p x = false) : l.any p = false := by
  rw [List.any_eq_false]
  intro x hx
  obtain ⟨j, hj⟩ := List.mem_iff_getElem?.1 hx
  rw [h j x hj]
  exact Bool.false_ne_true
theorem any_yes {α : Type} {p : α → Bool} {l : List α} {j : Nat} {x : α} (hx : l[j]? = some x) (h : p x = true) : l.any p = true := List.any_eq_true.2 ⟨x, List.mem_of_getElem? hx, h⟩
end Go.Proofs.YtcepcamedmiinaaGreatDoor.sq
namespace Go.Proofs.YtcepcamedmiinaaGreatDoor.sq
open Go.ChangeShapes Go.WideShapes Go.ChangeAt Go.RowKit
open Go.Proofs.YtcepcamedmiinaaGreatDoor.row
set_option linter.unusedVariables false
set_option maxRecDepth 100000
set_option linter.unusedSimpArgs false

def cX (x : X) : List Value := [.int .u32 (x.f : Nat), .int .u32 (x.t : Nat)]
theorem fX : Fm cX 2 := ⟨fun _ => rfl, fun y u hu => by simp [cX] at hu; rcases hu with rfl | rfl <;> rfl⟩
theorem atX {w : World} {A : Option Addr} {n : Nat} {ys : List X} (h : Rd cX 2 w A n ys) (k : Nat) (hk : k < n) : ∃ b o y, A = some ⟨b, o, none⟩ ∧ ys[k]? = some y ∧ w.cell? ⟨b, o + k * 2, none⟩ = some (.int .u32 (y.f : Nat)) ∧ w.cell? ⟨b, o + k * 2 + 1, none⟩ = some (.int .u32 (y.t : Nat)) := by
  obtain ⟨b, o, y, h1, h2, h3⟩ := h.2 k hk
  exact ⟨b, o, y, h1, h2, h3 0 _ rfl, h3 1 _ rfl⟩
theorem cell_at {w : World} {b : Nat} {cs : Array Value} {t : TypeId} {m : Nat × Nat} (h : w.heap[b]? = some (.cells cs t m)) (i : Nat) (v : Value) (hv : cs[i]? = some v) : w.cell? ⟨b, i, none⟩ = some v := by
  simp [World.cell?, h, hv]
theorem told_any (w : World) (n g : Nat) :
    Calls Tryz.prog 79 #[.int .u32 (n : Nat), .int .u32 (g : Nat)] w fun e w' => e = .returned (.int .u32 (told n g : Nat)) ∧ w' = w := by
  unfold told
  by_cases h : n = 0
  · subst h
    rw [if_pos rfl]
    go_enter Tryz.func79, Tryz.ntmps79
    go_wp2
    go_ret
    exact ⟨rfl, rfl⟩
  · rw [if_neg h]
    have q1 : ((n : Int) == 0) = false := by rw [beq_eq_false_iff_ne]; omega
    go_enter Tryz.func79, Tryz.ntmps79
    go_wp2
    go_ret
    exact ⟨rfl, rfl⟩
theorem spanSize (cs : Array Value) (h : cs.size = 2) : (Tryz.prog.info? 96).map (·.size) = some cs.size := by
  rw [h]
  kernel_rfl
/-- What then lies in a part that is stored whole. -/
theorem two {w : World} {g : Nat} {t : TypeId} {cs : Array Value} (h : w.heap[g]? = some (.cells cs t (0, 0))) (hs : cs.size = 2) (v0 v1 : Value) :
    ((w.setCell ⟨g, 0, none⟩ v0).setCell ⟨g, 1, none⟩ v1).heap[g]? = some (.cells #[v0, v1] t (0, 0)) ∧
    (∀ k, k ≠ g → ((w.setCell ⟨g, 0, none⟩ v0).setCell ⟨g, 1, none⟩ v1).heap[k]? = w.heap[k]?) ∧
    ∀ (B : Nat) (a : World), Below B a w → B ≤ g → Below B a ((w.setCell ⟨g, 0, none⟩ v0).setCell ⟨g, 1, none⟩ v1) := by
  refine ⟨?_, fun k hk => by rw [heap_setCell_other _ _ _ _ hk, heap_setCell_other _ _ _ _ hk], fun B a hb hg => (hb.setCell (p := ⟨g, 0, none⟩) hg _).setCell (p := ⟨g, 1, none⟩) hg _⟩
  rw [heap_setCell_same _ g 1 _ t _ (heap_setCell_same _ g 0 _ t _ h)]
  obtain ⟨l⟩ := cs
  have hl : l.length = 2 := hs
  match l, hl with
  | [a0, a1], _ => rfl
set_option maxHeartbeats 1000000 in
theorem rising_any (w : World) (x : X) (g : Nat) :
    Calls Tryz.prog 58 #[.agg #[.int .u32 (x.f : Nat), .int .u32 (x.t : Nat)], .int .u32 (g : Nat)] w fun e w' => e = .returned (.agg #[.int .u32 (lo x g : Nat), .int .u32 (hi x g : Nat)]) ∧ Below w.heap.size w w' := by
  obtain ⟨f, t⟩ := x
  unfold lo hi
  simp only
  have H1 := Lib.hid (fun w => told_any w f g)
  have H2 := Lib.hid (fun w => told_any w t g)
  obtain ⟨a, ha⟩ : ∃ a, a = told f g := ⟨_, rfl⟩
  obtain ⟨b, hb⟩ : ∃ b, b = told t g := ⟨_, rfl⟩
  rw [← ha] at H1 ⊢
  rw [← hb] at H2 ⊢
  clear ha hb
  obtain ⟨W1, hW1⟩ : ∃ W1, W1 = (w.alloc (.cells #[.int .u32 (f : Nat), .int .u32 (t : Nat)] 96)).alloc (.cells #[.int .u32 0, .int .u32 0] 96) := ⟨_, rfl⟩
  have HB := Lib.hid (show Below w.heap.size w W1 by rw [hW1]; exact ((Below.refl _ _).alloc (Nat.le_refl _) _).alloc (by simp) _)
  have hx : W1.heap[w.heap.size]? = some (.cells #[.int .u32 (f : Nat), .int .u32 (t : Nat)] 96 (0, 0)) := by
    rw [hW1, heap_alloc_old _ _ (by simp)]; exact heap_alloc_new _ _
  have hr : W1.heap[w.heap.size + 1]? = some (.cells #[.int .u32 0, .int .u32 0] 96 (0, 0)) := by
    rw [hW1]; have := heap_alloc_new (w.alloc (.cells #[.int .u32 (f : Nat), .int .u32 (t : Nat)] 96)) (.cells #[.int .u32 0, .int .u32 0] 96); simpa using this
  have HR := Lib.hid hr
  have c0 := cell_at hx 0 _ rfl
  have c1 := cell_at hx 1 _ rfl
  have HW1 := Lib.hid hW1
  clear hW1 hx hr
  go_enter Tryz.func58, Tryz.ntmps58
  go_wp2
  rw [← HW1.out]
  go_quiet ((go_at_call 79; first | exact Calls.quiet_of_same (H1.out _) | exact Calls.quiet_of_same (H2.out _)))
  clear c0 c1
  obtain ⟨W2, hW2⟩ : ∃ W2, W2 = W1.drewN nq := ⟨_, rfl⟩
  rw [← hW2]
  have HR2 := Lib.hid (show W2.heap[w.heap.size + 1]? = some (.cells #[.int .u32 0, .int .u32 0] 96 (0, 0)) by rw [hW2]; exact HR.out)
  have HB2 := Lib.hid (show Below w.heap.size w W2 by rw [hW2]; exact codec.below_draws HB.out nq)
  clear hW2
  have r0 := cell_at HR2.out 0 _ rfl
  have r1 := cell_at HR2.out 1 _ rfl
  have z0 := frozen_of_row _ _ 0 _ _ HR2.out
  have z1 := frozen_of_row _ _ 1 _ _ HR2.out
  go_wp2
  all_goals first | (rw [show min a b = b by omega, show max a b = a by omega]; obtain ⟨k1, _, k3⟩ := two HR2.out rfl (.int .u32 (b : Nat)) (.int .u32 (a : Nat)); exact bodyPost_ret (results_cell_row Tryz.results58 _ _ (w.heap.size + 1) _ _ _ _ rfl k1 Tryz.underlying96 rfl (spanSize _ rfl)) rfl ⟨rfl, k3 _ _ HB2.out (by omega)⟩) | (rw [show min a b = a by omega, show max a b = b by omega]; obtain ⟨k1, _, k3⟩ := two HR2.out rfl (.int .u32 (a : Nat)) (.int .u32 (b : Nat)); exact bodyPost_ret (results_cell_row Tryz.results58 _ _ (w.heap.size + 1) _ _ _ _ rfl k1 Tryz.underlying96 rfl (spanSize _ rfl)) rfl ⟨rfl, k3 _ _ HB2.out (by omega)⟩) | (rw [show min a b = a by omega, show max a b = a by omega]; obtain ⟨k1, _, k3⟩ := two HR2.out rfl (.int .u32 (a : Nat)) (.int .u32 (a : Nat)); exact bodyPost_ret (results_cell_row Tryz.results58 _ _ (w.heap.size + 1) _ _ _ _ rfl k1 Tryz.underlying96 rfl (spanSize _ rfl)) rfl ⟨rfl, k3 _ _ HB2.out (by omega)⟩)
set_option maxHeartbeats 1000000 in
theorem inX_any (w : World) (x : X) (n g bg bn : Nat) (hg : w.cell? ⟨bg, 0, none⟩ = some (.int .u32 (g : Nat))) (hn : w.cell? ⟨bn, 0, none⟩ = some (.int .u32 (n : Nat))) :
    Calls Tryz.prog 57 #[.agg #[.int .u32 (x.f : Nat), .int .u32 (x.t : Nat)], .pointer (some ⟨bg, 0, none⟩), .pointer (some ⟨bn, 0, none⟩)] w fun e w' => e = .returned (.bool (inX x n g)) ∧ Below w.heap.size w w' := by
  obtain ⟨W1, hW1⟩ : ∃ W1, W1 = w.alloc (.cells #[.int .u32 (x.f : Nat), .int .u32 (x.t : Nat)] 96) := ⟨_, rfl⟩
  have HB := Lib.hid (show Below w.heap.size w W1 by rw [hW1]; exact (Below.refl _ _).alloc (Nat.le_refl _) _)
  have hx : W1.heap[w.heap.size]? = some (.cells #[.int .u32 (x.f : Nat), .int .u32 (x.t : Nat)] 96 (0, 0)) := by
    rw [hW1]; exact heap_alloc_new _ _
  have hg1 := (HB.out.cell (p := ⟨bg, 0, none⟩) (block_lt_of_cell hg)).trans hg
  have hn1 := (HB.out.cell (p := ⟨bn, 0, none⟩) (block_lt_of_cell hn)).trans hn
  have lg := block_lt_of_cell hg
  have ln := block_lt_of_cell hn
  have HX := Lib.hid hx
  have HN := Lib.hid hn
  have HR := Lib.hid (rising_any W1 x g)
  have c0 := cell_at hx 0 _ rfl
  have c1 := cell_at hx 1 _ rfl
  have HW1 := Lib.hid hW1
  clear hW1 hx c0 c1 hg1 hn1
  unfold inX
  generalize lo x g = p at *
  generalize hi x g = q at *
  go_enter Tryz.func57, Tryz.ntmps57
  go_wp2_with fail
  rw [← HW1.out]
  clear hn hg
  refine HR.out.mono ?_
  rintro e w2 ⟨rfl, hb⟩
  have hx2 : w2.heap[w.heap.size]? = some (.cells #[.int .u32 (x.f : Nat), .int .u32 (x.t : Nat)] 96 (0, 0)) := (hb.block _ (Array.getElem?_eq_some_iff.1 HX.out).1).trans HX.out
  have HB2 := Lib.hid (HB.out.trans (hb.mono HB.out.size))
  obtain ⟨k1, k2, k3⟩ := two hx2 rfl (.int .u32 (p : Nat)) (.int .u32 (q : Nat))
  have HB3 := Lib.hid (k3 _ _ HB2.out (Nat.le_refl _))
  have HK := Lib.hid k1
  have c0 := cell_at hx2 0 _ rfl
  have c1 := cell_at hx2 1 _ rfl
  have z0 := frozen_of_row _ _ 0 _ _ hx2
  have z1 := frozen_of_row _ _ 1 _ _ hx2
  have hn2 := (HB2.out.cell (p := ⟨bn, 0, none⟩) ln).trans HN.out
  clear hb hx2 k1 k2 k3
  go_wp2_with fail
  all_goals go_ret
  all_goals exact ⟨by simp [*], HB3.out⟩
end Go.Proofs.YtcepcamedmiinaaGreatDoor.sq
