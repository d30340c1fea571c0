/- The program is awake; the law on Has. -/
import Derived.Test.YtmooeadeihgbdaaSqG
import Derived.Test.YtmooeadeihgbdaaSqB
import Derived.HandedShaped
import Derived.Shelf.Vars
namespace Go.Proofs.Ytmooeadeihgbdaa.sq
open Go.ChangeShapes Go.WideShapes Go.ChangeAt Go.RowKit
open Go.Proofs.Ytmooeadeihgbdaa.row
set_option linter.unusedVariables false
set_option maxRecDepth 100000
set_option linter.unusedSimpArgs false

theorem Room.of_shape {w : World} (h : w.ShapedOpen Try.prog) : Room w :=
  cell_of_shapedOpen_int (t := 3) (zero := #[.int .i64 0]) h (of_decide_eq_true (by kernel_rfl)) (by kernel_rfl) rfl (by kernel_rfl) (by kernel_rfl) Try.underlying3
theorem has_awake : hasB [⟨2, 4⟩, ⟨0, 0⟩] 3 9 = true := by decide +kernel
set_option maxHeartbeats 1000000 in
theorem awake_any (W : World) (hr : Room W) :
    Calls Try.prog 6 #[] W fun e w' => e = .returned (.bool true) ∧ Below W.heap.size W w' := by
  have HP := Lib.hid (parse_any W ⟨#[50, 58, 52, 44, 42]⟩ (by decide) hr)
  clear hr
  go_enter Try.func6, Try.ntmps6
  go_wp2_with fail
  refine HP.out.mono ?_
  rintro e w1 ⟨hb, h⟩
  rw [set_awake] at h
  rcases h with ⟨h, _⟩ | ⟨xs, A, c, h, rfl, hR⟩
  · cases h
  · cases h
    have HB := Lib.hid hb
    have HH := Lib.hid (has_any w1 A 2 c [⟨2, 4⟩, ⟨0, 0⟩] 3 9 hR (by omega))
    rw [has_awake] at HH
    clear hb hR
    go_wp2_with fail
    refine HH.out.mono ?_
    rintro e w2 ⟨rfl, hb⟩
    have HB2 := Lib.hid (HB.out.trans (hb.mono HB.out.size))
    clear hb
    go_wp2_with fail
    go_ret
    exact ⟨rfl, HB2.out⟩
set_option maxHeartbeats 1000000 in
theorem has_walk (W : World) (A : Option Addr) (m c : Nat) (xs : List X) (n g : Nat) (hR : Rd cX 2 W A m xs) (hr : Room W) :
    Calls Try.prog 4 #[.slice A m c, .int .u32 (n : Nat), .int .u32 (g : Nat)] W fun e w' => e = .returned (.bool true) ∧ Below W.heap.size W w' := by
  have HW := Lib.hid (awake_any W hr)
  have Hr := Lib.hid hr
  have HR := Lib.hid hR
  clear hR hr
  by_cases hm : m ≤ 200
  · have q1 : decide ((200 : Int) < (m : Int)) = false := decide_eq_false (by omega)
    have HM := Lib.hid hm
    clear hm
    go_enter Try.func4, Try.ntmps4
    go_wp2_with fail
    refine HW.out.mono ?_
    rintro e w1 ⟨rfl, hb⟩
    have HB1 := Lib.hid hb
    clear hb
    have HH := Lib.hid (has_any w1 A m c xs n g (HR.out.below HB1.out) (by have := HM.out; omega))
    go_wp2_with fail
    refine HH.out.mono ?_
    rintro e w2 ⟨rfl, hb⟩
    have HB2 := Lib.hid (HB1.out.trans (hb.mono HB1.out.size))
    clear hb
    have HO := Lib.hid (ours_any w2 A m c xs (HR.out.below HB2.out) (by have := HM.out; omega))
    go_wp2_with fail
    refine HO.out.mono ?_
    rintro e w3 ⟨B, c', rfl, hR3, hb⟩
    have HB3 := Lib.hid (HB2.out.trans (hb.mono HB2.out.size))
    clear hb
    have HD := Lib.hid (rHas_any w3 B m c' xs n g hR3 (by have := HM.out; omega))
    clear hR3
    generalize hasB xs n g = z at *
    go_wp2_with fail
    refine HD.out.mono ?_
    rintro e w4 ⟨rfl, hb⟩
    have HB4 := Lib.hid (HB3.out.trans (hb.mono HB3.out.size))
    clear hb
    go_wp2_with fail
    go_ret
    exact ⟨by simp, HB4.out⟩
  · have q1 : decide ((200 : Int) < (m : Int)) = true := decide_eq_true (by omega)
    clear hm
    go_enter Try.func4, Try.ntmps4
    go_wp2_with fail
    refine HW.out.mono ?_
    rintro e w1 ⟨rfl, hb⟩
    have HB1 := Lib.hid hb
    have HW1 := Lib.hid (awake_any w1 (Hr.out.below hb))
    clear hb
    go_wp2_with fail
    refine HW1.out.mono ?_
    rintro e w2 ⟨rfl, hb⟩
    have HB2 := Lib.hid (HB1.out.trans (hb.mono HB1.out.size))
    clear hb
    go_wp2_with fail
    go_ret
    exact ⟨rfl, HB2.out⟩
end Go.Proofs.Ytmooeadeihgbdaa.sq
