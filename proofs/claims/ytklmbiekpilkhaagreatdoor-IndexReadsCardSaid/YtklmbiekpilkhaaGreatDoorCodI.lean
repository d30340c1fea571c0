/- What the document says of numbers and texts, and how an Out takes a text. -/
import Derived.Test.YtklmbiekpilkhaaGreatDoorCodE
import Derived.Lib.AppendStr
namespace Go.Proofs.YtklmbiekpilkhaaGreatDoor.codec
open Go.ChangeShapes Go.WideShapes Go.ChangeAt Go.RowKit
set_option linter.unusedVariables false
set_option maxRecDepth 100000
set_option linter.unusedSimpArgs false

def bytesTo (v n k j : Nat) : Nat := if n ≤ j + k ∧ j < n then byteAt v n j else 0
theorem bytesTo_all (v n i : Nat) (h : i < n) : bytesTo v n n i = byteAt v n i := by
  unfold bytesTo
  rw [if_pos (by omega)]
theorem bytes_step {wr : World} {g t v n k m : Nat} {x : Int} (hm : m + k + 1 = n) (hk : k < n) (hx : x = (byteAt v n m : Nat)) (h : wr.rowIs g t n (fun j => .int .u8 (bytesTo v n k j : Nat))) :
    (wr.setCell ⟨g, m, none⟩ (.int .u8 x)).rowIs g t n (fun j => .int .u8 (bytesTo v n (k + 1) j : Nat)) := by
  refine (h.set _ _).congr fun j hj => ?_
  by_cases e : j = m
  · subst e
    simp only [if_true, hx, bytesTo]
    rw [if_pos (by omega)]
  · simp only [if_neg e, bytesTo]
    have : (n ≤ j + (k + 1) ∧ j < n) ↔ (n ≤ j + k ∧ j < n) := by omega
    simp only [this]
set_option maxHeartbeats 1000000 in
theorem refBytes_any (w : World) (v n : Nat) (hv : v < 18446744073709551616) (h1 : 1 ≤ n) (hn : n ≤ 100) :
    Calls Tryz.prog 94 #[.int .u64 v, .int .i64 n] w fun e w' => e = .returned (.slice (some ⟨w.heap.size, 0, none⟩) n n) ∧ w'.rowIs w.heap.size 5 n (fun j => .int .u8 (byteAt v n j : Nat)) ∧ Below w.heap.size w w' := by
  have hmk := run_make_row' (P := Tryz.prog) 22 5 (.int .u8 0) 1 Tryz.underlying22 info5 rfl .i64 .i64 n (by omega) (by omega)
  go_enter Tryz.func94, Tryz.ntmps94
  go_wp2
  go_loopw [0, 6] (fun x i wr => ∃ k : Nat, k ≤ n ∧ i = .int .i64 ((n : Int) - 1 - (k : Int)) ∧ x = .int .u64 (v / 256 ^ k : Nat) ∧ wr.rowIs w.heap.size 5 n (fun j => .int .u8 (bytesTo v n k j : Nat)) ∧ Below w.heap.size w wr) (fun _ i _ => (intOf i + 1).toNat)
  case atStart =>
    refine ⟨0, by omega, by simp, by simp, (World.rowIs_made w (.int .u8 0) n 5).congr (fun i hi => ?_), (Below.refl _ _).alloc (Nat.le_refl _) _⟩
    unfold bytesTo
    rw [if_neg (by omega)]
    rfl
  case round =>
    obtain ⟨k, hk, rfl, rfl, hr, hbel⟩ := hrel
    by_cases hlt : k < n
    · obtain ⟨j, hj⟩ : ∃ j, j + k + 1 = n := ⟨n - 1 - k, by omega⟩
      have ej : ((n : Int) - 1 - (k : Int)) = (j : Nat) := by omega
      have hc := hr.cell (i := j) (by omega)
      have hf := hr.frozen j
      have HR := Lib.hid hr
      have HBel := Lib.hid hbel
      have HV : Hid (v / 256 ^ (k + 1) = v / 256 ^ k / 256) := by rw [Nat.pow_succ, ← Nat.div_div_eq_div_mul]; exact rfl
      have hX : v / 256 ^ k < 18446744073709551616 := Nat.lt_of_le_of_lt (Nat.div_le_self _ _) hv
      have HX : Hid (byteAt v n j = v / 256 ^ k % 256) := by unfold byteAt; rw [show n - 1 - j = k by omega]; exact rfl
      have HJ := Lib.hid ej
      rw [ej]
      clear hr hbel ej
      generalize v / 256 ^ k = X at *
      go_wp2
      go_roundw
      case rel => exact ⟨k + 1, by omega, by congr 1; have := HJ.out; omega, by rw [HV.out]; simp, bytes_step (by omega) (by omega) (by rw [HX.out]; simp) HR.out, HBel.out.setCell (Nat.le_refl _) _⟩
      case measure => simp [intOf]
    · obtain rfl : k = n := by omega
      have HR := Lib.hid (hr.congr (g := fun j => .int .u8 (byteAt v k j : Nat)) (fun i hi => by rw [bytesTo_all v k i hi]))
      have HBel := Lib.hid hbel
      have ej : ((k : Int) - 1 - (k : Int)) = -1 := by omega
      rw [ej]
      clear hr hbel ej
      go_wp2
      go_ret
      exact ⟨rfl, HR.out, HBel.out⟩
theorem strCells_of (l : List Nat) (h : ∀ x ∈ l, x < 256) : Lib.strCells (strOf l) = vals l := by
  unfold Lib.strCells strOf vals
  simp only [List.toList_toArray, List.map_map]
  refine List.map_congr_left fun x hx => ?_
  simp [Nat.mod_eq_of_lt (h x hx)]
theorem row_owns {w : World} {g n : Nat} {v : Nat} (B : Nat) (hB : B ≤ g) (hn : n ≤ maxLen) (h : w.rowIs g 5 n (fun j => .int .u8 (byteAt v n j : Nat))) : w.ownsRow B 5 1 (.slice (some ⟨g, 0, none⟩) n n) n (vals (bytesOf v n)) := by
  obtain ⟨c, h1, h2, h3⟩ := h
  refine ⟨by simp [vals, bytesOf], .inr ⟨g, n, c, rfl, hB, h1, Nat.le_refl _, hn, by omega, ?_⟩⟩
  refine List.ext_getElem? fun i => ?_
  by_cases hi : i < n
  · rw [List.getElem?_take, if_pos (by omega)]
    have := h3 i hi
    simp [vals, bytesOf, hi]
    simpa using this
  · rw [List.getElem?_eq_none (by simp; omega), List.getElem?_eq_none (by simp [vals, bytesOf]; omega)]
/-- Bytes that the call made, somewhere. -/
def New (w : World) (l : List Nat) (v : Value) (w' : World) : Prop := ∃ g cap, v = .slice (some ⟨g, 0, none⟩) l.length cap ∧ w.heap.size ≤ g ∧ Below w.heap.size w w' ∧ Bytes w' (some ⟨g, 0, none⟩) l.length l
theorem own_bytes' {w : World} {B g k cap : Nat} {l : List Nat} (h : w.ownsRow B 5 1 (.slice (some ⟨g, 0, none⟩) k cap) l.length (vals l)) (hk : l.length = k) (hb : ∀ x ∈ l, x < 256) : Bytes w (some ⟨g, 0, none⟩) k l := by
  refine ⟨hk, hb, fun _ => ⟨g, 0, rfl, fun i hi => ?_⟩⟩
  have := h.cells (g := g) rfl i (.int .u8 (l.getD i 0 : Nat)) (by
    have hi' : i < l.length := by omega
    simp [vals, List.getD, hi'])
  rw [add_none] at this
  exact this
theorem all_lt {a b : List Nat} (ha : ∀ x ∈ a, x < 256) (hb : ∀ x ∈ b, x < 256) : ∀ x ∈ a ++ b, x < 256 := by
  intro x hx
  rcases List.mem_append.1 hx with h | h
  · exact ha x h
  · exact hb x h
theorem more_two {w w1 w2 w3 : World} {p : Nat} {l2 F F1 : List Nat} (t1 : Touch (fun k => k ∈ F) w w1) (s1 : ∀ k ∈ F1, k ∈ F ∨ w.heap.size ≤ k) (hb : Below w1.heap.size w1 w2) (h2 : More w2 p l2 F1 w3) : More w p l2 F w3 := by
  obtain ⟨F2, o2, t2, s2⟩ := h2
  refine ⟨F2, o2, ?_, fun k hk => ?_⟩
  · have t12 := t1.below hb
    exact t12.trans (t2.mono fun i _ h => s1 i h)
  · rcases s2 k hk with h | h
    · exact s1 k h
    · exact .inr (Nat.le_trans t1.2.2.2.1 (Nat.le_trans hb.size h))
theorem numOf_bytes (v n : Nat) (hv : v < 256 ^ n) : numOf (bytesOf v n) = v := by
  have key : ∀ k, k ≤ n → numOf ((bytesOf v n).take k) = v / 256 ^ (n - k) := by
    intro k
    induction k with
    | zero =>
      intro _
      simp [numOf, numFrom]
      exact (Nat.div_eq_of_lt hv).symm
    | succ k ih =>
      intro hk
      rw [numOf_take _ k (by simp [bytesOf]; omega), ih (by omega)]
      have e : (bytesOf v n).getD k 0 = byteAt v n k := by simp [bytesOf, List.getD, show k < n by omega]
      rw [e]
      unfold byteAt
      have e2 : n - k = (n - (k + 1)) + 1 := by omega
      have e3 : n - 1 - k = n - (k + 1) := by omega
      rw [e2, e3, Nat.pow_succ, ← Nat.div_div_eq_div_mul]
      omega
  have := key n (Nat.le_refl _)
  rw [List.take_of_length_le (by simp [bytesOf]), Nat.sub_self] at this
  simpa using this
end Go.Proofs.YtklmbiekpilkhaaGreatDoor.codec
