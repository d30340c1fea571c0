/- What putting bytes into an Out does. -/
import Derived.Test.YtcepcamedmiinaaGreatDoorMa0
import Derived.Laws.BytesArg
import Derived.Shelf.Bytes.SlSmallAll
import Derived.Lib.ConvBytes
import Derived.Laws.BitsAllLaws
import Derived.Lib.AppendStr
namespace Go.Proofs.YtcepcamedmiinaaGreatDoor.codec
open Go.ChangeShapes Go.WideShapes Go.ChangeAt Go.RowKit
set_option linter.unusedVariables false
set_option maxRecDepth 100000
set_option linter.unusedSimpArgs false

theorem forget {P : Program} {c : Code} {a : Act} {w : World} {Q : Exit → Act → World → Prop} (R : World → Prop) (hR : R w) (h : ∀ w1, R w1 → Code.wp P c Q a w1) : Code.wp P c Q a w := h w hR

end Go.Proofs.YtcepcamedmiinaaGreatDoor.codec
namespace Go.Proofs.YtcepcamedmiinaaGreatDoor.codec
open Go.ChangeShapes Go.WideShapes Go.ChangeAt Go.RowKit
set_option linter.unusedVariables false
set_option maxRecDepth 100000
set_option linter.unusedSimpArgs false

def byteAt (v n j : Nat) : Nat := v / 256 ^ (n - 1 - j) % 256
def bytesOf (v n : Nat) : List Nat := (List.range n).map (byteAt v n)
theorem bytesOf_length (v n : Nat) : (bytesOf v n).length = n := by simp [bytesOf]
theorem bytesOf_lt (v n : Nat) : ∀ b ∈ bytesOf v n, b < 256 := by
  intro b hb
  obtain ⟨j, _, rfl⟩ := List.mem_map.1 hb
  exact Nat.mod_lt _ (by omega)
theorem pow_le7 {n : Nat} (h7 : n ≤ 7) : 2 ^ (8 * n) ≤ 72057594037927936 := Nat.pow_le_pow_right (n := 2) (by omega) (show 8 * n ≤ 56 by omega)
theorem wrap_pow {n : Nat} (h7 : n ≤ 7) : wrap64 (2 ^ (8 * n)) = ((2 ^ (8 * n) : Nat) : Int) := by
  have h := pow_le7 h7
  have e : ((2 : Int) ^ (8 * n)) = ((2 ^ (8 * n) : Nat) : Int) := by simp
  rw [e]
  generalize 2 ^ (8 * n) = m at *
  exact IntWalk.wrap64_in _ (by omega)
theorem p256 (n : Nat) : 256 ^ n = 2 ^ (8 * n) := by rw [Nat.pow_mul]
theorem fits_true {v n : Nat} (h7 : n ≤ 7) (hv : v < 256 ^ n) : decide ((v : Int) < wrap64 (2 ^ (8 * n))) = true := by
  rw [wrap_pow h7, decide_eq_true_eq]
  rw [p256] at hv
  exact_mod_cast hv
theorem fits_false {v n : Nat} (h7 : n ≤ 7) (hv : ¬ v < 256 ^ n) : decide ((v : Int) < wrap64 (2 ^ (8 * n))) = false := by
  rw [wrap_pow h7, decide_eq_false_iff_not]
  rw [p256] at hv
  exact_mod_cast hv

theorem bytes_row {w : World} {g t v n N : Nat} {f : Nat → Value} (h : w.rowIs g t N f) (hn : n ≤ N) (hf : ∀ j, j < n → f j = .int .u8 (byteAt v n j : Nat)) : Bytes w (some ⟨g, 0, none⟩) n (bytesOf v n) := by
  refine ⟨bytesOf_length v n, bytesOf_lt v n, fun _ => ⟨g, 0, rfl, fun i hi => ?_⟩⟩
  rw [Nat.zero_add, h.cell (by omega), hf i hi]
  simp [bytesOf, List.getD, hi]
theorem byteAt_i (v n k : Nat) : ((v : Int) / 2 ^ (8 * (n - 1 - k)) % 256) = ((byteAt v n k : Nat) : Int) := by
  unfold byteAt
  rw [p256]
  simp
/-- A number that fits. -/
def Fits (v n : Int) : Prop := 1 ≤ n ∧ n ≤ 7 ∧ 0 ≤ v ∧ v < 256 ^ n.toNat
theorem own_bytes {w : World} {g k cap : Nat} {l : List Nat} (h : w.ownsRow 0 5 1 (.slice (some ⟨g, 0, none⟩) k cap) l.length (vals l)) (hk : l.length = k) (hb : ∀ x ∈ l, x < 256) : Bytes w (some ⟨g, 0, none⟩) k l := by
  refine ⟨hk, hb, fun _ => ⟨g, 0, rfl, fun i hi => ?_⟩⟩
  have := h.cells (g := g) rfl i (.int .u8 (l.getD i 0 : Nat)) (by
    have hi' : i < l.length := by omega
    simp [vals, List.getD, hi'])
  rw [add_none] at this
  exact this
/-- New bytes of one's own. -/
def Made (w : World) (l : List Nat) (v : Value) (w' : World) : Prop := ∃ g, v = .slice (some ⟨g, 0, none⟩) l.length l.length ∧ w.heap.size ≤ g ∧ Below w.heap.size w w' ∧ w'.heap[g]? = some (.cells (vals l).toArray 5 (0, 0)) ∧ ∀ x ∈ l, x < 256
end Go.Proofs.YtcepcamedmiinaaGreatDoor.codec
namespace Go.Proofs.YtcepcamedmiinaaGreatDoor.codec
open Go.ChangeShapes Go.WideShapes Go.ChangeAt Go.RowKit
set_option linter.unusedVariables false
set_option maxRecDepth 100000
set_option linter.unusedSimpArgs false

def strOf (l : List Nat) : ByteArray := ⟨(l.map UInt8.ofNat).toArray⟩
theorem strOfNums_nat (l : List Nat) : strOfNums (l.map Int.ofNat) = strOf l := by
  simp only [strOfNums, strOf, List.map_map]
  rfl
theorem strOf_size (a : List Nat) : (strOf a).size = a.length := by simp [strOf, ByteArray.size]
/-- Bytes as a text. -/
theorem Bytes.text {w : World} {A : Option Addr} {n : Nat} {l : List Nat} (h : Bytes w A n l) (c : Nat) : (convert 37 9 (.slice A n c)).run Tryz.prog w = .ok (.string (strOf l)) w := by
  rcases Nat.eq_zero_or_pos n with h0 | h0
  · subst h0
    obtain rfl : l = [] := List.eq_nil_of_length_eq_zero h.1
    rw [run_convert_bytes_zero w 37 5 Tryz.underlying37 Tryz.underlying5 A c 9 Tryz.underlying9]
    rfl
  · obtain ⟨b, o, rfl, hc⟩ := h.2.2 h0
    have hl := h.1
    rw [run_convert_bytes_arg (P := Tryz.prog) w 37 5 Tryz.underlying37 Tryz.underlying5 b o n c (l.map Int.ofNat) (by simpa using hl) (fun i hi => by
      rw [hc i hi]
      have hi' : i < l.length := by omega
      simp [List.getD, hi']) 9 Tryz.underlying9, strOfNums_nat]
theorem strOf_inj {a b : List Nat} (ha : ∀ x ∈ a, x < 256) (hb : ∀ x ∈ b, x < 256) (h : strOf a = strOf b) : a = b := by
  unfold strOf at h
  have h1 : a.map UInt8.ofNat = b.map UInt8.ofNat := by
    have := congrArg ByteArray.data h
    simpa using this
  have h2 := congrArg (List.map UInt8.toNat) h1
  simp only [List.map_map] at h2
  have e : ∀ l : List Nat, (∀ x ∈ l, x < 256) → l.map (UInt8.toNat ∘ UInt8.ofNat) = l := by
    intro l hl
    calc l.map (UInt8.toNat ∘ UInt8.ofNat) = l.map id := List.map_congr_left (fun x hx => by simp [Nat.mod_eq_of_lt (hl x hx)])
      _ = l := by simp
  rwa [e a ha, e b hb] at h2
theorem Made.bytes {w w' : World} {l : List Nat} {v : Value} (h : Made w l v w') : ∃ g, v = .slice (some ⟨g, 0, none⟩) l.length l.length ∧ w.heap.size ≤ g ∧ Below w.heap.size w w' ∧ Bytes w' (some ⟨g, 0, none⟩) l.length l := by
  obtain ⟨g, rfl, h1, h2, h3, h4⟩ := h
  refine ⟨g, rfl, h1, h2, rfl, h4, fun _ => ⟨g, 0, rfl, fun i hi => ?_⟩⟩
  simp [World.cell?, h3, vals, List.getD, hi]
end Go.Proofs.YtcepcamedmiinaaGreatDoor.codec
namespace Go.Proofs.YtcepcamedmiinaaGreatDoor.codec
open Go.ChangeShapes Go.WideShapes Go.ChangeAt Go.RowKit
set_option linter.unusedVariables false
set_option maxRecDepth 100000
set_option linter.unusedSimpArgs false

/-- The number that bytes are, the greatest first. -/
def numFrom (v : Nat) (l : List Nat) : Nat := l.foldl (fun v b => v * 256 + b) v
def numOf (l : List Nat) : Nat := numFrom 0 l
theorem numOf_take (l : List Nat) (k : Nat) (hk : k < l.length) : numOf (l.take (k + 1)) = numOf (l.take k) * 256 + l.getD k 0 := by
  have : l.take (k + 1) = l.take k ++ [l.getD k 0] := by
    rw [List.take_add_one]
    simp [List.getD, hk]
  rw [this]
  simp [numOf, numFrom]
theorem numOf_lt (l : List Nat) (h : ∀ b ∈ l, b < 256) (k : Nat) : numOf (l.take k) < 256 ^ k := by
  induction k with
  | zero => simp [numOf, numFrom]
  | succ k ih =>
    by_cases hk : k < l.length
    · rw [numOf_take l k hk, Nat.pow_succ]
      have := getD_lt256 h k
      omega
    · rw [List.take_of_length_le (by omega)] at ih ⊢
      exact Nat.lt_of_lt_of_le ih (Nat.pow_le_pow_right (by omega) (by omega))
theorem or_add (v c : Nat) (hc : c < 256) : (v * 256) ||| c = v * 256 + c := by
  have := Nat.two_pow_add_eq_or_of_lt (i := 8) (b := c) (by omega) v
  rw [Nat.mul_comm] at this
  exact this.symm
theorem i64_or_nat (a b : Nat) (ha : a < 4611686018427387904) (hb : b < 4611686018427387904) : bits .or .i64 (a : Int) (b : Int) = ((a ||| b : Nat) : Int) := by
  have hx : a ||| b < 4611686018427387904 := Nat.or_lt_two_pow (n := 62) (by omega) (by omega)
  show IntKind.i64.wrap ((BitVec.ofInt 64 (a : Int) ||| BitVec.ofInt 64 (b : Int)).toNat : Int) = _
  rw [BitVec.toNat_or, ofInt_u64 a (by omega), ofInt_u64 b (by omega), IntKind.wrap_i64]
  generalize a ||| b = m at *
  omega
theorem shl_or (v c : Nat) (hv : v < 281474976710656) (hc : c < 256) : bits .or .i64 ((v : Int) * 256) (c : Int) = ((v * 256 + c : Nat) : Int) := by
  have := i64_or_nat (v * 256) c (by omega) (by omega)
  rw [or_add v c hc] at this
  simpa using this

theorem empty_bytes (w : World) : Bytes w none 0 [] := ⟨rfl, by simp, fun h => absurd h (by omega)⟩
/-- What is read behind the call: new bytes. -/
def Gives (l : List Nat) (e : Ending) (w' : World) : Prop := ∃ g' , e = .returned (.slice (some ⟨g', 0, none⟩) l.length l.length) ∧ Bytes w' (some ⟨g', 0, none⟩) l.length l
theorem alloc_bytes (w : World) (l : List Nat) (hl : ∀ b ∈ l, b < 256) : Bytes (w.alloc (.cells (vals l).toArray 5)) (some ⟨w.heap.size, 0, none⟩) l.length l := by
  refine ⟨rfl, hl, fun _ => ⟨_, 0, rfl, fun i hi => ?_⟩⟩
  rw [Nat.zero_add, cell_of_row _ _ i _ 5 (0, 0) (heap_alloc_new w _)]
  simp [vals, List.getD, hi]
end Go.Proofs.YtcepcamedmiinaaGreatDoor.codec
namespace Go.Proofs.YtcepcamedmiinaaGreatDoor.codec
open Go.ChangeShapes Go.WideShapes Go.ChangeAt Go.RowKit
set_option linter.unusedVariables false
set_option maxRecDepth 100000
set_option linter.unusedSimpArgs false

def bytesTo (v n k j : Nat) : Nat := if n ≤ j + k ∧ j < n then byteAt v n j else 0
theorem bytesTo_all (v n i : Nat) (h : i < n) : bytesTo v n n i = byteAt v n i := by
  unfold bytesTo
  rw [if_pos (by omega)]
theorem bytes_step {wr : World} {g t v n k m : Nat} {x : Int} (hm : m + k + 1 = n) (hk : k < n) (hx : x = (byteAt v n m : Nat)) (h : wr.rowIs g t n (fun j => .int .u8 (bytesTo v n k j : Nat))) :
    (wr.setCell ⟨g, m, none⟩ (.int .u8 x)).rowIs g t n (fun j => .int .u8 (bytesTo v n (k + 1) j : Nat)) := by
  refine (h.set _ _).congr fun j hj => ?_
  by_cases e : j = m
  · subst e
    simp only [if_true, hx, bytesTo]
    rw [if_pos (by omega)]
  · simp only [if_neg e, bytesTo]
    have : (n ≤ j + (k + 1) ∧ j < n) ↔ (n ≤ j + k ∧ j < n) := by omega
    simp only [this]
theorem strCells_of (l : List Nat) (h : ∀ x ∈ l, x < 256) : Lib.strCells (strOf l) = vals l := by
  unfold Lib.strCells strOf vals
  simp only [List.toList_toArray, List.map_map]
  refine List.map_congr_left fun x hx => ?_
  simp [Nat.mod_eq_of_lt (h x hx)]
theorem row_owns {w : World} {g n : Nat} {v : Nat} (B : Nat) (hB : B ≤ g) (hn : n ≤ maxLen) (h : w.rowIs g 5 n (fun j => .int .u8 (byteAt v n j : Nat))) : w.ownsRow B 5 1 (.slice (some ⟨g, 0, none⟩) n n) n (vals (bytesOf v n)) := by
  obtain ⟨c, h1, h2, h3⟩ := h
  refine ⟨by simp [vals, bytesOf], .inr ⟨g, n, c, rfl, hB, h1, Nat.le_refl _, hn, by omega, ?_⟩⟩
  refine List.ext_getElem? fun i => ?_
  by_cases hi : i < n
  · rw [List.getElem?_take, if_pos (by omega)]
    have := h3 i hi
    simp [vals, bytesOf, hi]
    simpa using this
  · rw [List.getElem?_eq_none (by simp; omega), List.getElem?_eq_none (by simp [vals, bytesOf]; omega)]
/-- Bytes that the call made, somewhere. -/
def New (w : World) (l : List Nat) (v : Value) (w' : World) : Prop := ∃ g cap, v = .slice (some ⟨g, 0, none⟩) l.length cap ∧ w.heap.size ≤ g ∧ Below w.heap.size w w' ∧ Bytes w' (some ⟨g, 0, none⟩) l.length l
theorem own_bytes' {w : World} {B g k cap : Nat} {l : List Nat} (h : w.ownsRow B 5 1 (.slice (some ⟨g, 0, none⟩) k cap) l.length (vals l)) (hk : l.length = k) (hb : ∀ x ∈ l, x < 256) : Bytes w (some ⟨g, 0, none⟩) k l := by
  refine ⟨hk, hb, fun _ => ⟨g, 0, rfl, fun i hi => ?_⟩⟩
  have := h.cells (g := g) rfl i (.int .u8 (l.getD i 0 : Nat)) (by
    have hi' : i < l.length := by omega
    simp [vals, List.getD, hi'])
  rw [add_none] at this
  exact this
theorem all_lt {a b : List Nat} (ha : ∀ x ∈ a, x < 256) (hb : ∀ x ∈ b, x < 256) : ∀ x ∈ a ++ b, x < 256 := by
  intro x hx
  rcases List.mem_append.1 hx with h | h
  · exact ha x h
  · exact hb x h
theorem numOf_bytes (v n : Nat) (hv : v < 256 ^ n) : numOf (bytesOf v n) = v := by
  have key : ∀ k, k ≤ n → numOf ((bytesOf v n).take k) = v / 256 ^ (n - k) := by
    intro k
    induction k with
    | zero =>
      intro _
      simp [numOf, numFrom]
      exact (Nat.div_eq_of_lt hv).symm
    | succ k ih =>
      intro hk
      rw [numOf_take _ k (by simp [bytesOf]; omega), ih (by omega)]
      have e : (bytesOf v n).getD k 0 = byteAt v n k := by simp [bytesOf, List.getD, show k < n by omega]
      rw [e]
      unfold byteAt
      have e2 : n - k = (n - (k + 1)) + 1 := by omega
      have e3 : n - 1 - k = n - (k + 1) := by omega
      rw [e2, e3, Nat.pow_succ, ← Nat.div_div_eq_div_mul]
      omega
  have := key n (Nat.le_refl _)
  rw [List.take_of_length_le (by simp [bytesOf]), Nat.sub_self] at this
  simpa using this
end Go.Proofs.YtcepcamedmiinaaGreatDoor.codec
namespace Go.Proofs.YtcepcamedmiinaaGreatDoor.rd
open Go.ChangeShapes Go.WideShapes Go.ChangeAt Go.RowKit
open Go.Proofs.YtcepcamedmiinaaGreatDoor.codec (Bytes vals vals_append vals_length vals_one bytesOf byteAt bytesOf_length bytesOf_lt strOf numOf)
set_option linter.unusedVariables false
set_option maxRecDepth 100000
set_option linter.unusedSimpArgs false

/-- What the next k bytes are. -/
def got (k : Nat) : Option (List Nat) → List Nat
  | some l => if k ≤ l.length then l.take k else []
  | none => []
/-- What is left behind them. -/
def rest (k : Nat) : Option (List Nat) → Option (List Nat)
  | some l => if k ≤ l.length then some (l.drop k) else none
  | none => none
/-- What is left is bytes. -/
theorem rest_lt {L : Option (List Nat)} (k : Nat) (hl : ∀ l, L = some l → ∀ b ∈ l, b < 256) : ∀ l, rest k L = some l → ∀ b ∈ l, b < 256 := by
  intro l hr b hb
  cases L with
  | none => simp [rest] at hr
  | some m =>
    simp only [rest] at hr
    split at hr
    · cases hr
      exact hl m rfl b (List.mem_of_mem_drop hb)
    · simp at hr
theorem str_ne {T S : ByteArray} (h : T ≠ S) : (T.toList == S.data.toList) = false := by
  rw [beq_eq_false_iff_ne, ByteArray.toList_eq]
  intro e
  apply h
  obtain ⟨⟨t⟩⟩ := T
  obtain ⟨⟨u⟩⟩ := S
  simp at e
  rw [e]
theorem bytes_take {w : World} {A : Option Addr} {n : Nat} {l : List Nat} (h : Bytes w A n l) (k : Nat) (hk : k ≤ n) : Bytes w A k (l.take k) := by
  refine ⟨by rw [List.length_take, h.1]; omega, fun b hb => h.2.1 b (List.mem_of_mem_take hb), fun h0 => ?_⟩
  obtain ⟨b, o, rfl, hc⟩ := h.2.2 (by omega)
  refine ⟨b, o, rfl, fun i hi => ?_⟩
  rw [hc i (by omega)]
  simp [List.getD, hi]
theorem bytes_drop {w : World} {b o : Nat} {n : Nat} {l : List Nat} (h : Bytes w (some ⟨b, o, none⟩) n l) (k : Nat) (hk : k < n) : Bytes w (some ⟨b, o + k, none⟩) (n - k) (l.drop k) := by
  refine ⟨by rw [List.length_drop, h.1], fun x hx => h.2.1 x (List.mem_of_mem_drop hx), fun h0 => ?_⟩
  obtain ⟨b, o, e, hc⟩ := h.2.2 (by omega)
  cases e
  refine ⟨_, _, rfl, fun i hi => ?_⟩
  rw [Nat.add_assoc, hc (k + i) (by omega)]
  simp [List.getD]
end Go.Proofs.YtcepcamedmiinaaGreatDoor.rd
namespace Go.Proofs.YtcepcamedmiinaaGreatDoor.codec
open Go.ChangeShapes Go.WideShapes Go.ChangeAt Go.RowKit
set_option linter.unusedVariables false
set_option maxRecDepth 100000
set_option linter.unusedSimpArgs false

theorem text_new {w w1 w2 : World} {l : List Nat} {v : Value} {S : Nat} (hl : ∀ x ∈ l, x < 256) (hb : Below w.heap.size w w1) (hS : S = w.heap.size) (ho : w2.ownsRow w.heap.size 5 1 v (2 + (strOf l).size) (vals (bytesOf l.length 2) ++ Lib.strCells (strOf l)))
    (hg : w1.grownBy w2 (some S)) (hn : v = .slice none 0 0 ↔ Value.slice (some ⟨S, 0, none⟩) 2 2 = .slice none 0 0 ∧ (strOf l).size = 0) : New w (bytesOf l.length 2 ++ l) v w2 := by
  rw [strOf_size, strCells_of l hl, ← vals_append] at ho
  have hln : (bytesOf l.length 2 ++ l).length = 2 + l.length := by simp [bytesOf]
  have hkk : Below w.heap.size w w2 := hb.trans ⟨hg.os, hg.tape, hg.output, hg.size, fun k hk => hg.block k (Nat.lt_of_lt_of_le hk hb.size) (fun e => by have := Option.some.inj e; omega)⟩
  rcases ho.2 with ⟨e, _⟩ | ⟨g, cap, cur, e, hbg, _⟩
  · exact absurd (hn.1 e).1 (by simp)
  · subst e
    rw [← hln] at ho ⊢
    exact ⟨g, cap, rfl, hbg, hkk, own_bytes' ho rfl (all_lt (bytesOf_lt _ _) hl)⟩
theorem str_bytes (w : World) (l : List Nat) (hl : ∀ x ∈ l, x < 256) : Bytes (Lib.bytesWorld w 5 (strOf l)) (some ⟨w.heap.size, 0, none⟩) l.length l ∧ Below w.heap.size w (Lib.bytesWorld w 5 (strOf l)) := by
  refine ⟨⟨rfl, hl, fun _ => ⟨_, 0, rfl, fun i hi => ?_⟩⟩, rfl, rfl, rfl, by rw [Lib.bytesWorld_size]; omega, fun k hk => Lib.bytesWorld_at_old w 5 _ k hk⟩
  rw [Nat.zero_add, Lib.bytesWorld_cell w 5 _ i (by rw [strOf_size]; exact hi)]
  have hx := hl (l.getD i 0) (by simp [List.getD, hi])
  simp [strOf, List.getD, hi] at hx ⊢
  omega
end Go.Proofs.YtcepcamedmiinaaGreatDoor.codec
namespace Go.Proofs.YtcepcamedmiinaaGreatDoor.rd
open Go.ChangeShapes Go.WideShapes Go.ChangeAt Go.RowKit
open Go.Proofs.YtcepcamedmiinaaGreatDoor.codec (Bytes vals bytesOf strOf numOf)
set_option maxRecDepth 100000

def leftN : Option (List Nat) → Nat
  | some l => l.length
  | none => 0
end Go.Proofs.YtcepcamedmiinaaGreatDoor.rd
