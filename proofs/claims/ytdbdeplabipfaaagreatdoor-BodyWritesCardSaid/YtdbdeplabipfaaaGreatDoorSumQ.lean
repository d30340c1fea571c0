/- Numbers as bytes, and bytes as numbers, as the document's own answers have them. -/
import Derived.Test.YtdbdeplabipfaaaGreatDoorSumG
import Derived.Test.YtdbdeplabipfaaaGreatDoorSumH
namespace Go.Proofs.YtdbdeplabipfaaaGreatDoor.sumDoor
open Go.ChangeShapes Go.WideShapes Go.ChangeAt Go.RowKit Go.Proofs.YtdbdeplabipfaaaGreatDoor.sumPlain
set_option linter.unusedVariables false
set_option maxRecDepth 100000

/-- Bytes as a number, the greatest first. -/
def numOf (l : List Nat) : Nat := l.foldl (fun a b => a * 256 + b) 0
theorem num_snoc (l : List Nat) (b : Nat) : numOf (l ++ [b]) = numOf l * 256 + b := by simp [numOf]
theorem num_lt : ∀ (l : List Nat) (k : Nat), (∀ b ∈ l, b < 256) → numOf (l.take k) < 256 ^ k := by
  intro l k hb
  induction k with
  | zero => simp [numOf]
  | succ k ih =>
    by_cases hk : k < l.length
    · rw [List.take_succ_eq_append_getElem hk, num_snoc, Nat.pow_succ]
      have := hb _ (List.getElem_mem hk)
      omega
    · have e : l.take (k + 1) = l.take k := by rw [List.take_of_length_le (by omega), List.take_of_length_le (by omega)]
      rw [e, Nat.pow_succ]
      omega

set_option maxHeartbeats 1000000 in
theorem number_any (A : Option Addr) (n c : Nat) (l : List Nat) (w : World) (h : Bytes w A n l) (hn : n ≤ 4) :
    Calls Tryz.prog 46 #[.slice A n c] w fun e w' => e = .returned (.int .u64 (numOf l : Nat)) ∧ w = w' := by
  have HB := Lib.hid h
  have hlen := Lib.hid h.1
  have hb256 := Lib.hid h.2.1
  clear h
  go_enter Tryz.func46, Tryz.ntmps46
  go_wp2
  go_loop [3, 4, 7] (fun s _ i => ∃ k : Nat, k ≤ n ∧ i = .int .i64 k ∧ s = .int .u64 (numOf (l.take k) : Nat)) (fun _ _ i => n - (intOf i).toNat)
  case atStart => exact ⟨0, Nat.zero_le _, rfl, rfl⟩
  case round =>
    obtain ⟨k, hk, rfl, rfl⟩ := hrel
    by_cases hlt : k < n
    · obtain ⟨b, o, x, rfl, hx, htk, hcell⟩ := HB.out.at2 hlt
      have hC : numOf (l.take k) < 16777216 := by
        have := num_lt l k hb256.out
        have h3 : 256 ^ k ≤ 256 ^ 3 := Nat.pow_le_pow_right (by omega) (by omega)
        have h4 : (256 : Nat) ^ 3 = 16777216 := by decide
        omega
      have HN : Hid (numOf (l.take (k + 1)) = numOf (l.take k) * 256 + x) := by rw [htk, num_snoc]; exact rfl
      clear htk
      generalize numOf (l.take k) = C at *
      go_wp2
      go_round
      case rel => exact ⟨k + 1, by omega, by go_num, by rw [HN.out]; simp⟩
      case measure => simp [intOf]; omega
    · obtain rfl : k = n := by omega
      go_wp2
      go_ret
      refine ⟨ret_int ?_, rfl⟩
      rw [List.take_of_length_le (by have := hlen.out; omega)]

/-- A number's bytes. -/
def byteAt (v n j : Nat) : Nat := v / 256 ^ (n - 1 - j) % 256
def bytesTo (v n k j : Nat) : Nat := if n ≤ j + k ∧ j < n then byteAt v n j else 0
def bytesOf (v n : Nat) : List Nat := (List.range n).map (byteAt v n)

theorem bytesTo_zero (v n i : Nat) (h : i < n) : bytesTo v n 0 i = 0 := by
  unfold bytesTo
  rw [if_neg (by omega)]
theorem bytesTo_all (v n i : Nat) (h : i < n) : bytesTo v n n i = byteAt v n i := by
  unfold bytesTo
  rw [if_pos (by omega)]
theorem bytes_step {wr : World} {g t v n k m : Nat} {x : Int} (hm : m + k + 1 = n) (hk : k < n) (hx : x = (byteAt v n m : Nat)) (h : wr.rowIs g t n (fun j => .int .u8 (bytesTo v n k j : Nat))) :
    (wr.setCell ⟨g, m, none⟩ (.int .u8 x)).rowIs g t n (fun j => .int .u8 (bytesTo v n (k + 1) j : Nat)) := by
  refine (h.set _ _).congr fun j hj => ?_
  by_cases e : j = m
  · subst e
    simp only [if_true, hx, bytesTo]
    rw [if_pos (by omega)]
  · simp only [if_neg e, bytesTo]
    have : (n ≤ j + (k + 1) ∧ j < n) ↔ (n ≤ j + k ∧ j < n) := by omega
    simp only [this]
theorem make8 (w : World) : (Instr.makeSlice 23 (.int .i64 8) (.int .i64 8)).run Tryz.prog w = .ok (.slice (some ⟨w.heap.size, 0, none⟩) 8 8) (w.alloc (.cells (Array.replicate 8 (.int .u8 0)) 5)) := by kernel_rfl
set_option maxHeartbeats 1000000 in
theorem bytes_any8 (w : World) (v : Nat) (hv : v < 18446744073709551616) :
    Calls Tryz.prog 30 #[.int .u64 v, .int .i64 8] w fun e w' => e = .returned (.slice (some ⟨w.heap.size, 0, none⟩) 8 8) ∧ w'.rowIs w.heap.size 5 8 (fun j => .int .u8 (byteAt v 8 j : Nat)) ∧ Below w.heap.size w w' := by
  have hmk := make8
  go_enter Tryz.func30, Tryz.ntmps30
  go_wp2
  go_loopw [0, 6] (fun x i wr => ∃ k : Nat, k ≤ 8 ∧ i = .int .i64 (7 - (k : Int)) ∧ x = .int .u64 (v / 256 ^ k : Nat) ∧ wr.rowIs w.heap.size 5 8 (fun j => .int .u8 (bytesTo v 8 k j : Nat)) ∧ Below w.heap.size w wr) (fun _ i _ => (intOf i + 1).toNat)
  case atStart => exact ⟨0, by omega, rfl, by simp, (row_rep w rfl (.int .u8 0) 5 8).congr (fun i hi => by rw [bytesTo_zero v 8 i hi]; rfl), (Below.refl _ _).alloc (Nat.le_refl _) _⟩
  case round =>
    obtain ⟨k, hk, rfl, rfl, hr, hbel⟩ := hrel
    by_cases hlt : k < 8
    · have hc := hr.cell (i := 7 - k) (by omega)
      have hf := hr.frozen (7 - k)
      have HR := Lib.hid hr
      have HBel := Lib.hid hbel
      have HV : Hid (v / 256 ^ (k + 1) = v / 256 ^ k / 256) := by rw [Nat.pow_succ, ← Nat.div_div_eq_div_mul]; exact rfl
      have hX : v / 256 ^ k < 18446744073709551616 := Nat.lt_of_le_of_lt (Nat.div_le_self _ _) hv
      have HX : Hid (byteAt v 8 (7 - k) = v / 256 ^ k % 256) := by unfold byteAt; rw [show 8 - 1 - (7 - k) = k by omega]; exact rfl
      clear hr hbel
      generalize v / 256 ^ k = X at *
      go_wp2
      go_roundw
      case rel => exact ⟨k + 1, by omega, by go_num, by rw [HV.out]; simp, bytes_step (by omega) (by omega) (by rw [HX.out]; simp) HR.out, HBel.out.setCell (Nat.le_refl _) _⟩
      case measure => simp [intOf]; omega
    · obtain rfl : k = 8 := by omega
      have HR := Lib.hid (hr.congr (g := fun j => .int .u8 (byteAt v 8 j : Nat)) (fun i hi => by rw [bytesTo_all v 8 i hi]))
      have HBel := Lib.hid hbel
      clear hr hbel
      go_wp2
      go_ret
      exact ⟨rfl, HR.out, HBel.out⟩
theorem make4 (w : World) : (Instr.makeSlice 23 (.int .i64 4) (.int .i64 4)).run Tryz.prog w = .ok (.slice (some ⟨w.heap.size, 0, none⟩) 4 4) (w.alloc (.cells (Array.replicate 4 (.int .u8 0)) 5)) := by kernel_rfl
set_option maxHeartbeats 1000000 in
theorem bytes_any4 (w : World) (v : Nat) (hv : v < 18446744073709551616) :
    Calls Tryz.prog 30 #[.int .u64 v, .int .i64 4] w fun e w' => e = .returned (.slice (some ⟨w.heap.size, 0, none⟩) 4 4) ∧ w'.rowIs w.heap.size 5 4 (fun j => .int .u8 (byteAt v 4 j : Nat)) ∧ Below w.heap.size w w' := by
  have hmk := make4
  go_enter Tryz.func30, Tryz.ntmps30
  go_wp2
  go_loopw [0, 6] (fun x i wr => ∃ k : Nat, k ≤ 4 ∧ i = .int .i64 (3 - (k : Int)) ∧ x = .int .u64 (v / 256 ^ k : Nat) ∧ wr.rowIs w.heap.size 5 4 (fun j => .int .u8 (bytesTo v 4 k j : Nat)) ∧ Below w.heap.size w wr) (fun _ i _ => (intOf i + 1).toNat)
  case atStart => exact ⟨0, by omega, rfl, by simp, (row_rep w rfl (.int .u8 0) 5 4).congr (fun i hi => by rw [bytesTo_zero v 4 i hi]; rfl), (Below.refl _ _).alloc (Nat.le_refl _) _⟩
  case round =>
    obtain ⟨k, hk, rfl, rfl, hr, hbel⟩ := hrel
    by_cases hlt : k < 4
    · have hc := hr.cell (i := 3 - k) (by omega)
      have hf := hr.frozen (3 - k)
      have HR := Lib.hid hr
      have HBel := Lib.hid hbel
      have HV : Hid (v / 256 ^ (k + 1) = v / 256 ^ k / 256) := by rw [Nat.pow_succ, ← Nat.div_div_eq_div_mul]; exact rfl
      have hX : v / 256 ^ k < 18446744073709551616 := Nat.lt_of_le_of_lt (Nat.div_le_self _ _) hv
      have HX : Hid (byteAt v 4 (3 - k) = v / 256 ^ k % 256) := by unfold byteAt; rw [show 4 - 1 - (3 - k) = k by omega]; exact rfl
      clear hr hbel
      generalize v / 256 ^ k = X at *
      go_wp2
      go_roundw
      case rel => exact ⟨k + 1, by omega, by go_num, by rw [HV.out]; simp, bytes_step (by omega) (by omega) (by rw [HX.out]; simp) HR.out, HBel.out.setCell (Nat.le_refl _) _⟩
      case measure => simp [intOf]; omega
    · obtain rfl : k = 4 := by omega
      have HR := Lib.hid (hr.congr (g := fun j => .int .u8 (byteAt v 4 j : Nat)) (fun i hi => by rw [bytesTo_all v 4 i hi]))
      have HBel := Lib.hid hbel
      clear hr hbel
      go_wp2
      go_ret
      exact ⟨rfl, HR.out, HBel.out⟩
end Go.Proofs.YtdbdeplabipfaaaGreatDoor.sumDoor
