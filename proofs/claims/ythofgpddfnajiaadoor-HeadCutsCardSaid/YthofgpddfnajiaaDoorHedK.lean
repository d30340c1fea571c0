/- The program is awake. -/
import Derived.Test.YthofgpddfnajiaaDoorHedJ
import Derived.Shelf.Vars
import Derived.Lib.SmallJoins
namespace Go.Proofs.YthofgpddfnajiaaDoor.hd
open Go.ChangeShapes Go.WideShapes Go.ChangeAt Go.RowKit
open Go.Proofs.YthofgpddfnajiaaDoor.codec (Bytes vals)
set_option linter.unusedVariables false
set_option maxRecDepth 100000
set_option linter.unusedSimpArgs false

theorem Room.of_shape {w : World} (h : w.ShapedOpen Tryd.prog) : Room w :=
  cell_of_shapedOpen_int (t := 3) (zero := #[.int .i64 0]) h (of_decide_eq_true (by kernel_rfl)) (by kernel_rfl) rfl (by kernel_rfl) (by kernel_rfl) Tryd.underlying3
def lit : List Nat := [65, 58, 32, 98, 13, 10, 32, 99, 13, 10, 13, 10]
theorem lit_field : trimL (runF ⟨#[97]⟩ (false, []) (linesOf lit)).2 = [98, 32, 99] ∧ (runF ⟨#[97]⟩ (false, []) (linesOf lit)).1 = true := by decide +kernel
set_option maxHeartbeats 1000000 in
theorem awake_any (W : World) (hr : Room W) :
    Calls Tryd.prog 4 #[] W fun e w' => e = .returned (.bool true) ∧ Below W.heap.size W w' := by
  obtain ⟨W1, hW1⟩ : ∃ W1, W1 = W.alloc (.cells #[.int .u8 65, .int .u8 58, .int .u8 32, .int .u8 98, .int .u8 13, .int .u8 10, .int .u8 32, .int .u8 99, .int .u8 13, .int .u8 10, .int .u8 13, .int .u8 10] 5 (12, 13)) := ⟨_, rfl⟩
  have hb1 : Below W.heap.size W W1 := by rw [hW1]; exact (Below.refl _ _).alloc (Nat.le_refl _) _
  have hS : Sl W1 (some ⟨W.heap.size, 0, none⟩) 12 12 lit := by
    refine ⟨⟨rfl, by decide, fun _ => ⟨W.heap.size, 0, rfl, fun i hi => ?_⟩⟩, Nat.le_refl _, trivial, fun e => by cases e⟩
    have hx : W1.heap[W.heap.size]? = some (.cells #[.int .u8 65, .int .u8 58, .int .u8 32, .int .u8 98, .int .u8 13, .int .u8 10, .int .u8 32, .int .u8 99, .int .u8 13, .int .u8 10, .int .u8 13, .int .u8 10] 5 (12, 13)) := by rw [hW1]; exact heap_alloc_new _ _
    rw [Nat.zero_add]
    refine cell_at hx i _ ?_
    match i, hi with
    | 0, _ => rfl
    | 1, _ => rfl
    | 2, _ => rfl
    | 3, _ => rfl
    | 4, _ => rfl
    | 5, _ => rfl
    | 6, _ => rfl
    | 7, _ => rfl
    | 8, _ => rfl
    | 9, _ => rfl
    | 10, _ => rfl
    | 11, _ => rfl
  have hF := field_any W1 _ 12 12 lit ⟨#[97]⟩ hS (by decide) (hr.below hb1)
  rw [lit_field.1, lit_field.2, show strOf [98, 32, 99] = ⟨#[98, 32, 99]⟩ from rfl] at hF
  have HF := Lib.hid hF
  have HB := Lib.hid hb1
  have HW := Lib.hid hW1
  clear hF hb1 hW1 hS hr
  have hcv := fun (w : World) (C : Array Value) (n c g : Nat) (hg : g = w.heap.size) => Go.Joins.run_convert_bytes_const_at (P := Tryd.prog) w 22 5 C n c g hg Tryd.underlying22 Tryd.underlying5
  go_enter Tryd.func4, Tryd.ntmps4
  go_wp2_with fail
  rw [← HW.out]
  refine HF.out.mono ?_
  rintro e w2 ⟨rfl, hb⟩
  have HB2 := Lib.hid (HB.out.trans (hb.mono HB.out.size))
  clear hb
  go_wp2_with fail
  go_ret
  exact ⟨by simp, HB2.out⟩
end Go.Proofs.YthofgpddfnajiaaDoor.hd
