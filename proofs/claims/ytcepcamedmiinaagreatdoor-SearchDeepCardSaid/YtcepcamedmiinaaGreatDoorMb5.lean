/- Whether a number is in a set: the program's Has. -/
import Derived.Test.YtcepcamedmiinaaGreatDoorMb0
namespace Go.Proofs.YtcepcamedmiinaaGreatDoor.sq
open Go.ChangeShapes Go.WideShapes Go.ChangeAt Go.RowKit
open Go.Proofs.YtcepcamedmiinaaGreatDoor.row
set_option linter.unusedVariables false
set_option maxRecDepth 100000
set_option linter.unusedSimpArgs false

set_option maxHeartbeats 1000000 in
theorem index_any (W : World) (A : Option Addr) (m c : Nat) (xs : List X) (n g bg bn : Nat) (hR : Rd cX 2 W A m xs) (hm : m ≤ 1000000) (hg : W.cell? ⟨bg, 0, none⟩ = some (.int .u32 (g : Nat))) (hn : W.cell? ⟨bn, 0, none⟩ = some (.int .u32 (n : Nat))) :
    Calls Tryz.prog 78 #[.slice A m c, .func (.func 57) #[] #[.pointer (some ⟨bg, 0, none⟩), .pointer (some ⟨bn, 0, none⟩)]] W fun e w' => (∃ z : Int, e = .returned (.int .i64 z) ∧ decide (0 ≤ z) = xs.any fun x => inX x n g) ∧ Below W.heap.size W w' := by
  have HR := Lib.hid hR
  have HG := Lib.hid (fun (w : World) (h : Below W.heap.size W w) => (h.cell (p := ⟨bg, 0, none⟩) (block_lt_of_cell hg)).trans hg)
  have HN := Lib.hid (fun (w : World) (h : Below W.heap.size W w) => (h.cell (p := ⟨bn, 0, none⟩) (block_lt_of_cell hn)).trans hn)
  clear hR hg hn
  go_enter Tryz.func78, Tryz.ntmps78
  go_wp2
  go_loopw [8] (fun i wr => ∃ k : Nat, k ≤ m ∧ i = .int .i64 k ∧ Hid (∀ j x, j < k → xs[j]? = some x → inX x n g = false) ∧ Hid (Below W.heap.size W wr)) (fun i _ => m - (intOf i).toNat)
  case atStart => exact ⟨0, Nat.zero_le _, rfl, Lib.hid (fun j x h => absurd h (Nat.not_lt_zero _)), Lib.hid (Below.refl _ _)⟩
  case round =>
    obtain ⟨k, hk, rfl, HU, HB⟩ := hrel
    by_cases hlt : k < m
    · obtain ⟨b, o, ⟨f, t⟩, rfl, hx, c0, c1⟩ := atX (HR.out.below HB.out) k hlt
      simp only at c0 c1
      have hlt' : (k : Int) < (m : Int) := by omega
      have hW := inX_any wr ⟨f, t⟩ n g bg bn (HG.out _ HB.out) (HN.out _ HB.out)
      have HX := Lib.hid hx
      clear hx
      cases hp : inX ⟨f, t⟩ n g
      · rw [hp] at hW
        have HW := Lib.hid hW
        have HP := Lib.hid hp
        clear hW hp
        go_wp2_with (go_at_call 57; refine HW.out.mono ?_; rintro e w1 ⟨rfl, hb⟩; have HB1 := Lib.hid hb; clear hb)
        go_roundw
        case rel =>
          have hU : ∀ j x, j < k + 1 → xs[j]? = some x → inX x n g = false := fun j x hj hx => by
            rcases Nat.lt_succ_iff_lt_or_eq.1 hj with h | rfl
            · exact HU.out j x h hx
            · rw [HX.out] at hx
              cases hx
              exact HP.out
          first | exact ⟨k + 1, by omega, by go_num, Lib.hid hU, Lib.hid (HB.out.trans (HB1.out.mono HB.out.size))⟩ | ((repeat apply Exists.intro); exact ⟨⟨k + 1, by omega, by go_num, Lib.hid hU, Lib.hid (HB.out.trans (HB1.out.mono HB.out.size))⟩, rfl⟩)
        case measure => (show m - ((k : Int) + 1).toNat < m - k; omega)
      · rw [hp] at hW
        have HW := Lib.hid hW
        have HP := Lib.hid (any_yes (p := fun x => inX x n g) HX.out hp)
        clear hW hp
        go_wp2_with (go_at_call 57; refine HW.out.mono ?_; rintro e w1 ⟨rfl, hb⟩; have HB1 := Lib.hid hb; clear hb)
        go_ret
        exact ⟨⟨_, rfl, by rw [HP.out]; exact decide_eq_true (by omega)⟩, HB.out.trans (HB1.out.mono HB.out.size)⟩
    · obtain rfl : k = m := by omega
      have hA : (xs.any fun x => inX x n g) = false := any_no fun j x hx => HU.out j x (by have := (List.getElem?_eq_some_iff.1 hx).1; have := HR.out.1; omega) hx
      have HA := Lib.hid hA
      clear hA
      go_wp2
      go_ret
      exact ⟨⟨_, rfl, by rw [HA.out]; rfl⟩, HB.out⟩
theorem contains_any (W : World) (A : Option Addr) (m c : Nat) (xs : List X) (n g bg bn : Nat) (hR : Rd cX 2 W A m xs) (hm : m ≤ 1000000) (hg : W.cell? ⟨bg, 0, none⟩ = some (.int .u32 (g : Nat))) (hn : W.cell? ⟨bn, 0, none⟩ = some (.int .u32 (n : Nat))) :
    Calls Tryz.prog 56 #[.slice A m c, .func (.func 57) #[] #[.pointer (some ⟨bg, 0, none⟩), .pointer (some ⟨bn, 0, none⟩)]] W fun e w' => e = .returned (.bool (xs.any fun x => inX x n g)) ∧ Below W.heap.size W w' := by
  have HI := Lib.hid (index_any W A m c xs n g bg bn hR hm hg hn)
  clear hR hm hg hn
  go_enter Tryz.func56, Tryz.ntmps56
  go_wp2_with (go_at_call 78; refine HI.out.mono ?_; rintro e w1 ⟨⟨z, rfl, hz⟩, hb⟩; have HB1 := Lib.hid hb; have HZ := Lib.hid hz; clear hb hz)
  go_ret
  exact ⟨by rw [← HZ.out]; rfl, HB1.out⟩
set_option maxHeartbeats 1000000 in
theorem has_any (W : World) (A : Option Addr) (m c : Nat) (xs : List X) (n g : Nat) (hR : Rd cX 2 W A m xs) (hm : m ≤ 1000000) :
    Calls Tryz.prog 46 #[.slice A m c, .int .u32 (n : Nat), .int .u32 (g : Nat)] W fun e w' => e = .returned (.bool (hasB xs n g)) ∧ Below W.heap.size W w' := by
  unfold hasB
  by_cases h : n = 0
  · subst h
    rw [decide_eq_false (by omega : ¬ (0 : Nat) ≠ 0)]
    clear hR hm
    go_enter Tryz.func46, Tryz.ntmps46
    go_wp2
    go_ret
    exact ⟨rfl, ((Below.refl _ _).alloc (Nat.le_refl _) _).alloc (by simp) _⟩
  · rw [decide_eq_true h]
    obtain ⟨W1, hW1⟩ : ∃ W1, W1 = (W.alloc (.cells #[.int .u32 (n : Nat)] 22)).alloc (.cells #[.int .u32 (g : Nat)] 22) := ⟨_, rfl⟩
    have HB := Lib.hid (show Below W.heap.size W W1 by rw [hW1]; exact ((Below.refl _ _).alloc (Nat.le_refl _) _).alloc (by simp) _)
    have hx : W1.heap[W.heap.size]? = some (.cells #[.int .u32 (n : Nat)] 22 (0, 0)) := by
      rw [hW1, heap_alloc_old _ _ (by simp)]; exact heap_alloc_new _ _
    have hr : W1.heap[W.heap.size + 1]? = some (.cells #[.int .u32 (g : Nat)] 22 (0, 0)) := by
      rw [hW1]; have := heap_alloc_new (W.alloc (.cells #[.int .u32 (n : Nat)] 22)) (.cells #[.int .u32 (g : Nat)] 22); simpa using this
    have HC := Lib.hid (contains_any W1 A m c xs n g (W.heap.size + 1) W.heap.size (hR.below HB.out) hm (cell_at hr 0 _ rfl) (cell_at hx 0 _ rfl))
    have HW1 := Lib.hid hW1
    clear hR hW1 hx hr
    go_enter Tryz.func46, Tryz.ntmps46
    go_wp2_with fail
    rw [← HW1.out]
    refine HC.out.mono ?_
    rintro e w2 ⟨rfl, hb⟩
    have HB2 := Lib.hid (HB.out.trans (hb.mono HB.out.size))
    clear hb
    go_wp2_with fail
    go_ret
    exact ⟨by have h2 : ((n : Int) != 0) = true := by rw [bne_iff_ne]; omega
              simp [h2], HB2.out⟩
end Go.Proofs.YtcepcamedmiinaaGreatDoor.sq
