/- Heads of bytes, plainly: where a line ends, and where a head does. -/
import Derived.Test.YtcepcamedmiinaaGreatDoorRows
import Derived.Test.YtcepcamedmiinaaGreatDoorMa0
import Derived.Laws.BytesArg
import Derived.Lib.ConvBytes
import Derived.Test.YtcepcamedmiinaaGreatDoorMs
import Derived.Deep.DeepCutAuto
import Derived.Deep.CutBlock
import Derived.Deep.RegionHeld3
namespace Go.Proofs.YtcepcamedmiinaaGreatDoor.hd
set_option linter.unusedVariables false
set_option linter.unusedSimpArgs false

/-- Where the first line feed stands, or else the end. -/
def lf : List Nat → Nat
  | [] => 0
  | b :: r => if b = 10 then 0 else lf r + 1
theorem lf_le : ∀ l : List Nat, lf l ≤ l.length
  | [] => Nat.le_refl _
  | b :: r => by
    have := lf_le r
    rw [lf, List.length_cons]
    split <;> omega
theorem lf_drop_hit {l : List Nat} {k : Nat} (h : l[k]? = some 10) : lf (l.drop k) = 0 := by
  obtain ⟨h1, h2⟩ := List.getElem?_eq_some_iff.1 h
  rw [List.drop_eq_getElem_cons h1, h2, lf, if_pos rfl]
theorem lf_drop_miss {l : List Nat} {k b : Nat} (h : l[k]? = some b) (hb : b ≠ 10) : lf (l.drop k) = lf (l.drop (k + 1)) + 1 := by
  obtain ⟨h1, h2⟩ := List.getElem?_eq_some_iff.1 h
  rw [List.drop_eq_getElem_cons h1, h2, lf, if_neg hb]
theorem lf_drop_end {l : List Nat} {k : Nat} (h : l.length ≤ k) : lf (l.drop k) = 0 := by
  rw [List.drop_of_length_le h, lf]
theorem lf_first : ∀ (l : List Nat) (k : Nat), l[k]? = some 10 → (∀ j : Nat, j < k → l[j]? ≠ some 10) → lf l = k
  | [], k, h, _ => by simp at h
  | b :: r, 0, h, _ => by
    simp at h
    rw [lf, if_pos h]
  | b :: r, k + 1, h, hn => by
    have h0 : b ≠ 10 := fun e => hn 0 (Nat.succ_pos _) (by simp [e])
    rw [lf, if_neg h0, lf_first r k (by simpa using h) (fun j hj => by simpa using hn (j + 1) (Nat.succ_lt_succ hj))]
theorem lf_none : ∀ (l : List Nat), (∀ j : Nat, l[j]? ≠ some 10) → lf l = l.length
  | [], _ => rfl
  | b :: r, hn => by
    have h0 : b ≠ 10 := fun e => hn 0 (by simp [e])
    rw [lf, if_neg h0, lf_none r (fun j => by simpa using hn (j + 1)), List.length_cons]
/-- A line without its carriage return. -/
def chop (l : List Nat) : List Nat := if l.getLast? = some 13 then l.take (l.length - 1) else l
theorem chop_le (l : List Nat) : (chop l).length ≤ l.length := by
  unfold chop
  split
  · rw [List.length_take]; omega
  · exact Nat.le_refl _
theorem chop_nil {l : List Nat} (h : chop l = []) : l.length ≤ 1 := by
  unfold chop at h
  split at h
  · have := congrArg List.length h
    rw [List.length_take] at this
    simp at this
    omega
  · rw [h]; simp
/-- The first line, and how many bytes it has with its end. -/
def ln (l : List Nat) : List Nat := chop (l.take (lf l))
def nx (l : List Nat) : Nat := min (lf l + 1) l.length
theorem nx_le (l : List Nat) : nx l ≤ l.length := Nat.min_le_right _ _
theorem nx_pos {l : List Nat} (h : 0 < l.length) : 0 < nx l := by unfold nx; omega
/-- How many bytes the head has. -/
def headN (l : List Nat) : Nat :=
  if h : 0 < l.length then (if ln l = [] then nx l else nx l + headN (l.drop (nx l))) else 0
termination_by l.length
decreasing_by
  have := nx_pos h
  rw [List.length_drop]
  omega
theorem headN_nil : headN [] = 0 := by rw [headN]; simp
theorem headN_stop {l : List Nat} (h : 0 < l.length) (hl : ln l = []) : headN l = nx l := by rw [headN, dif_pos h, if_pos hl]
theorem headN_more {l : List Nat} (h : 0 < l.length) (hl : ln l ≠ []) : headN l = nx l + headN (l.drop (nx l)) := by rw [headN, dif_pos h, if_neg hl]
theorem headN_open {l : List Nat} (h : 0 < l.length) (ho : lf l = l.length) : headN l = l.length := by
  have hx : nx l = l.length := by unfold nx; omega
  by_cases hl : ln l = []
  · rw [headN_stop h hl, hx]
  · rw [headN_more h hl, hx, List.drop_of_length_le (Nat.le_refl _), headN_nil, Nat.add_zero]
theorem headN_le (l : List Nat) : headN l ≤ l.length := by
  by_cases h : 0 < l.length
  · have hx := nx_le l
    have hp := nx_pos h
    by_cases hl : ln l = []
    · rw [headN_stop h hl]; exact hx
    · have := headN_le (l.drop (nx l))
      rw [List.length_drop] at this
      rw [headN_more h hl]
      omega
  · obtain rfl : l = [] := List.eq_nil_of_length_eq_zero (by omega)
    rw [headN_nil]
    exact Nat.zero_le _
termination_by l.length
decreasing_by
  rw [List.length_drop]
  omega
/-- What is left of the head at a place. -/
def leftN (m : Bool) (l : List Nat) (p : Nat) : Nat := if m then headN (l.drop p) else 0
theorem drop_nx (l : List Nat) (p : Nat) : (l.drop p).drop (nx (l.drop p)) = l.drop (p + nx (l.drop p)) := by rw [List.drop_drop]
theorem headN_step {l : List Nat} {p : Nat} (hp : p < l.length) (h : headN l = p + headN (l.drop p)) :
    headN l = p + nx (l.drop p) + leftN (decide (0 < (ln (l.drop p)).length)) l (p + nx (l.drop p)) := by
  have h0 : 0 < (l.drop p).length := by rw [List.length_drop]; omega
  by_cases hl : ln (l.drop p) = []
  · rw [h, headN_stop h0 hl, hl]
    rfl
  · have h1 : 0 < (ln (l.drop p)).length := List.length_pos_iff.2 hl
    rw [h, headN_more h0 hl, leftN, if_pos (decide_eq_true h1), drop_nx]
    omega
end Go.Proofs.YtcepcamedmiinaaGreatDoor.hd
namespace Go.Proofs.YtcepcamedmiinaaGreatDoor.hd
open Go.ChangeShapes Go.WideShapes Go.ChangeAt Go.RowKit
open Go.Proofs.YtcepcamedmiinaaGreatDoor.codec (Bytes vals)
set_option linter.unusedVariables false
set_option maxRecDepth 100000
set_option linter.unusedSimpArgs false

def strOf (l : List Nat) : ByteArray := ⟨(l.map UInt8.ofNat).toArray⟩
theorem strOfNums_nat (l : List Nat) : strOfNums (l.map Int.ofNat) = strOf l := by
  simp only [strOfNums, strOf, List.map_map]
  rfl
theorem strOf_size (a : List Nat) : (strOf a).size = a.length := by simp [strOf, ByteArray.size]
theorem no_bytes (w : World) (src e : TypeId) (hs : Tryz.prog.underlying src = some (.slice e)) (he : Tryz.prog.underlying e = some (.int .u8)) (p : Option Addr) (c : Nat) (dst : TypeId) (hd : Tryz.prog.underlying dst = some .string) :
    (convert src dst (.slice p 0 c)).run Tryz.prog w = .ok (.string ⟨#[]⟩) w := by
  rw [run_convert_bytes_string w src dst e _ 0 c hs he hd]
  cases p <;> simp [Conv.bytesToString, loadCells]
  all_goals rfl
/-- Bytes as a text. -/
theorem Bytes.text {w : World} {A : Option Addr} {n : Nat} {l : List Nat} (h : Bytes w A n l) (c : Nat) : (convert 37 9 (.slice A n c)).run Tryz.prog w = .ok (.string (strOf l)) w := by
  rcases Nat.eq_zero_or_pos n with h0 | h0
  · subst h0
    obtain rfl : l = [] := List.eq_nil_of_length_eq_zero h.1
    rw [no_bytes w 37 5 Tryz.underlying37 Tryz.underlying5 A c 9 Tryz.underlying9]
    rfl
  · obtain ⟨b, o, rfl, hc⟩ := h.2.2 h0
    have hl := h.1
    rw [run_convert_bytes_arg (P := Tryz.prog) w 37 5 Tryz.underlying37 Tryz.underlying5 b o n c (l.map Int.ofNat) (by simpa using hl) (fun i hi => by
      rw [hc i hi]
      have hi' : i < l.length := by omega
      simp [List.getD, hi']) 9 Tryz.underlying9, strOfNums_nat]
theorem strOf_inj {a b : List Nat} (ha : ∀ x ∈ a, x < 256) (hb : ∀ x ∈ b, x < 256) (h : strOf a = strOf b) : a = b := by
  unfold strOf at h
  have h1 : a.map UInt8.ofNat = b.map UInt8.ofNat := by
    have := congrArg ByteArray.data h
    simpa using this
  have h2 := congrArg (List.map UInt8.toNat) h1
  simp only [List.map_map] at h2
  have e : ∀ l : List Nat, (∀ x ∈ l, x < 256) → l.map (UInt8.toNat ∘ UInt8.ofNat) = l := by
    intro l hl
    calc l.map (UInt8.toNat ∘ UInt8.ofNat) = l.map id := List.map_congr_left (fun x hx => by simp [Nat.mod_eq_of_lt (hl x hx)])
      _ = l := by simp
  rwa [e a ha, e b hb] at h2
def byt (s : ByteArray) (i : Nat) : Nat := (s.data[i]!).toNat
theorem byt_at (s : ByteArray) (i : Nat) (h : i < s.size) : (s[i]'h).toNat = byt s i := by
  unfold byt
  congr 1
  exact (getElem!_pos s.data i h).symm
theorem byt_lt (s : ByteArray) (i : Nat) : byt s i < 256 := UInt8.toNat_lt _
theorem byt_strOf {l : List Nat} (hl : ∀ x ∈ l, x < 256) {i b : Nat} (h : l[i]? = some b) : byt (strOf l) i = b := by
  obtain ⟨h1, h2⟩ := List.getElem?_eq_some_iff.1 h
  have h3 := hl b (h2 ▸ List.getElem_mem h1)
  unfold byt strOf
  simp [h1, h2]
  omega
/-- A slice that came in, or a part of one. -/
def Sl (w : World) (A : Option Addr) (n c : Nat) (l : List Nat) : Prop := Bytes w A n l ∧ n ≤ c ∧ True ∧ (A = none → c = 0)
theorem Sl.below {w w' : World} {A : Option Addr} {n c : Nat} {l : List Nat} (h : Sl w A n c l) (hb : Below w.heap.size w w') : Sl w' A n c l := ⟨h.1.below h.1.lt hb, h.2⟩
theorem Bytes.part {w : World} {A : Option Addr} {n : Nat} {l : List Nat} (h : Bytes w A n l) (k : Nat) (hk : k ≤ n) : Bytes w A k (l.take k) := by
  obtain ⟨h1, h2, h3⟩ := h
  refine ⟨by rw [List.length_take]; omega, fun b hb => h2 b (List.mem_of_mem_take hb), fun h0 => ?_⟩
  obtain ⟨b, o, e, hc⟩ := h3 (by omega)
  refine ⟨b, o, e, fun i hi => ?_⟩
  rw [hc i (by omega)]
  simp [List.getD, List.getElem?_take, hi]
theorem Bytes.rest {w : World} {A : Option Addr} {n : Nat} {l : List Nat} (h : Bytes w A n l) (k : Nat) (hk : k ≤ n) (A' : Option Addr) (hA : ∀ b o, A = some ⟨b, o, none⟩ → k < n → A' = some ⟨b, o + k, none⟩) : Bytes w A' (n - k) (l.drop k) := by
  obtain ⟨h1, h2, h3⟩ := h
  refine ⟨by rw [List.length_drop]; omega, fun b hb => h2 b (List.mem_of_mem_drop hb), fun h0 => ?_⟩
  obtain ⟨b, o, e, hc⟩ := h3 (by omega)
  refine ⟨b, o + k, hA b o e (by omega), fun i hi => ?_⟩
  rw [Nat.add_assoc, hc (k + i) (by omega)]
  simp [List.getD]
theorem Sl.part {w : World} {A : Option Addr} {n c : Nat} {l : List Nat} (h : Sl w A n c l) (k : Nat) (hk : k ≤ n) : Sl w A k c (l.take k) := ⟨Bytes.part h.1 k hk, by have := h.2.1; omega, h.2.2⟩
theorem Sl.rest {w : World} {A : Option Addr} {n c : Nat} {l : List Nat} (h : Sl w A n c l) (k : Nat) (hk : k ≤ n) : Sl w (if c = k then A else A.map fun x => x.add k) (n - k) (c - k) (l.drop k) := by
  refine ⟨Bytes.rest h.1 k hk _ ?_, by have := h.2.1; omega, trivial, fun e => ?_⟩
  · rintro b o rfl hlt
    rw [if_neg (by have := h.2.1; omega)]
    simp [codec.add_none]
  · split at e
    · omega
    · cases A with
      | none => have := h.2.2.2 rfl; omega
      | some a => simp at e
theorem Sl.none (w : World) : Sl w .none 0 0 [] := ⟨⟨rfl, by simp, fun h => absurd h (Nat.lt_irrefl 0)⟩, Nat.le_refl _, trivial, fun _ => rfl⟩
/-- A letter in small. -/
def lowB (c : Nat) : Nat := if 65 ≤ c ∧ c ≤ 90 then c + 32 else c
set_option maxHeartbeats 400000 in
theorem low_any (w : World) (c : Nat) (hc : c < 256) :
    Calls Tryz.prog 84 #[.int .u8 (c : Nat)] w fun e w' => e = .returned (.int .u8 (lowB c : Nat)) ∧ w = w' := by
  unfold lowB
  by_cases h1 : 65 ≤ c
  · have q1 : decide ((c : Int) < 65) = false := decide_eq_false (by omega)
    by_cases h2 : c ≤ 90
    · have q2 : decide ((90 : Int) < (c : Int)) = false := decide_eq_false (by omega)
      have e1 : IntKind.u8.wrap ((c : Int) + 32) = ((c + 32 : Nat) : Int) := (IntWalk.u8_in _ (by omega)).trans (by omega)
      rw [if_pos ⟨h1, h2⟩]
      go_enter Tryz.func84, Tryz.ntmps84
      go_wp2
      go_ret
      exact ⟨by first | rw [e1] | simp [e1] | simp, rfl⟩
    · have q2 : decide ((90 : Int) < (c : Int)) = true := decide_eq_true (by omega)
      rw [if_neg (by omega)]
      go_enter Tryz.func84, Tryz.ntmps84
      go_wp2
      go_ret
      exact ⟨rfl, rfl⟩
  · have q1 : decide ((c : Int) < 65) = true := decide_eq_true (by omega)
    rw [if_neg (by omega)]
    go_enter Tryz.func84, Tryz.ntmps84
    go_wp2
    go_ret
    exact ⟨rfl, rfl⟩
end Go.Proofs.YtcepcamedmiinaaGreatDoor.hd
namespace Go.Proofs.YtcepcamedmiinaaGreatDoor.hd
open Go.ChangeShapes Go.WideShapes Go.ChangeAt Go.RowKit
open Go.Proofs.YtcepcamedmiinaaGreatDoor.codec (Bytes vals)
set_option linter.unusedVariables false
set_option maxRecDepth 100000
set_option linter.unusedSimpArgs false

/-- A library's variable holds some number. -/
def Room (w : World) : Prop := ∃ m, w.cell? ⟨1, 0, none⟩ = some (.int .i64 m)
theorem Room.below {w w' : World} (h : Room w) (hb : Below w.heap.size w w') : Room w' := by
  obtain ⟨m, hm⟩ := h
  exact ⟨m, (hb.cell (p := ⟨1, 0, none⟩) (block_lt_of_cell hm)).trans hm⟩
/-- Where a byte stands first, or else the end. -/
def ix (s : Nat) : List Nat → Nat
  | [] => 0
  | b :: r => if b = s then 0 else ix s r + 1
theorem ix_lf : ∀ l : List Nat, ix 10 l = lf l
  | [] => rfl
  | b :: r => by rw [ix, lf, ix_lf r]
theorem ix_le (s : Nat) : ∀ l : List Nat, ix s l ≤ l.length
  | [] => Nat.le_refl _
  | b :: r => by
    have := ix_le s r
    rw [ix, List.length_cons]
    split <;> omega
def octs (l : List Nat) : List UInt8 := l.map UInt8.ofNat
theorem octs_of (l : List Nat) : Lib.bytesOf (l.map Int.ofNat) = octs l := by
  simp only [Lib.bytesOf, octs, List.map_map]
  rfl
theorem oct_inj {a b : Nat} (ha : a < 256) (hb : b < 256) (h : UInt8.ofNat a = UInt8.ofNat b) : a = b := by
  have := congrArg UInt8.toNat h
  simp [Nat.mod_eq_of_lt ha, Nat.mod_eq_of_lt hb] at this
  omega
theorem index_ix (s : Nat) (hs : s < 256) : ∀ l : List Nat, (∀ x ∈ l, x < 256) → Lib.index (octs l) [UInt8.ofNat s] = if ix s l < l.length then (ix s l : Int) else -1
  | [], _ => by simp [octs, Lib.index]
  | b :: r, hl => by
    have ih := index_ix s hs r (fun x hx => hl x (List.mem_cons_of_mem _ hx))
    have hb : b < 256 := hl b List.mem_cons_self
    rw [show octs (b :: r) = UInt8.ofNat b :: octs r from rfl, Lib.index]
    by_cases h : b = s
    · subst h
      simp [List.isPrefixOf, ix]
    · have hp : ([UInt8.ofNat s] : List UInt8).isPrefixOf (UInt8.ofNat b :: octs r) = false := by
        simp [List.isPrefixOf]
        exact fun e => h (oct_inj hs hb e).symm
      rw [hp, ih, ix, if_neg h, List.length_cons]
      by_cases h2 : ix s r < r.length
      · have hne : (((ix s r : Nat) : Int) == -1) = false := by rw [beq_eq_false_iff_ne]; omega
        simp [h2, hne]
      · simp [h2]
theorem Bytes.into {w : World} {A : Option Addr} {n : Nat} {l : List Nat} (h : Bytes w A n l) : Lib.BytesIn w A n (l.map Int.ofNat) := fun h0 => by
  obtain ⟨b, o, e, hc⟩ := h.2.2 h0
  refine ⟨b, o, e, fun i hi => ?_⟩
  have hi' : i < l.length := by have := h.1; omega
  rw [hc i hi]
  simp [List.getD, hi']
theorem nums_byte {l : List Nat} (h : ∀ x ∈ l, x < 256) : ∀ x ∈ l.map Int.ofNat, 0 ≤ x ∧ x < 256 := by
  intro x hx
  obtain ⟨y, hy, rfl⟩ := List.mem_map.1 hx
  have := h y hy
  exact ⟨Int.natCast_nonneg _, by show (y : Int) < 256; omega⟩
theorem sep_in {w : World} {g s : Nat} (hg : w.cell? ⟨g, 0, none⟩ = some (.int .u8 (s : Nat))) (hs : s < 256) : Bytes w (some ⟨g, 0, none⟩) 1 [s] :=
  ⟨rfl, by simpa using hs, fun _ => ⟨g, 0, rfl, fun i hi => by
    obtain rfl : i = 0 := by omega
    exact hg⟩⟩
/-- What stands behind a place of a slice. -/
def restV (A : Option Addr) (n c k : Nat) : Value := if k < n then .slice (if c = k + 1 then A else A.map fun x => x.add (k + 1)) (n - (k + 1)) (c - (k + 1)) else .slice none 0 0
theorem cut_any (w : World) (A : Option Addr) (n c g d s : Nat) (l : List Nat) (hS : Sl w A n c l) (hn : n ≤ 4000000000) (hs : s < 256) (hg : w.cell? ⟨g, 0, none⟩ = some (.int .u8 (s : Nat))) (hr : Room w) :
    Calls Tryz.prog 82 #[.slice A n c, .slice (some ⟨g, 0, none⟩) 1 d] w fun e w' => e = .returned (.tuple #[.slice A (ix s l) c, restV A n c (ix s l), .bool (decide (ix s l < n))]) ∧ Below w.heap.size w w' := by
  obtain ⟨m, hm⟩ := hr
  have hB := sep_in hg hs
  refine (Tryz.bytes_Cut_all A (some ⟨g, 0, none⟩) n c 1 d (l.map Int.ofNat) ([s].map Int.ofNat) m w (by rw [List.length_map]; exact hS.1.1) rfl (nums_byte hS.1.2.1) (nums_byte hB.2.1) (Bytes.into hS.1) (Bytes.into hB) hS.2.2.2 hS.2.1 (by omega) (by decide) hm).mono ?_
  rintro e w' ⟨rfl, q, rfl⟩
  refine ⟨?_, codec.below_draws (Below.refl _ _) q⟩
  rw [octs_of, octs_of, show octs [s] = [UInt8.ofNat s] from rfl, index_ix s hs l hS.1.2.1, hS.1.1]
  have hle := ix_le s l
  rw [hS.1.1] at hle
  unfold Lib.cutV restV Lib.fromV
  by_cases h : ix s l < n
  · rw [if_pos h, if_pos (by omega), if_pos h, decide_eq_true h]
    simp
  · have he : ix s l = n := by omega
    rw [if_neg h, if_neg (by omega), if_neg h, decide_eq_false h, he]
theorem octs_length (l : List Nat) : (octs l).length = l.length := by simp [octs]
theorem suffix_last {l : List Nat} (hl : ∀ x ∈ l, x < 256) : Lib.hasSuffix (octs l) [UInt8.ofNat 13] = decide (l.getLast? = some 13) := by
  unfold Lib.hasSuffix
  cases h : l.getLast? with
  | none =>
    have : l = [] := List.getLast?_eq_none_iff.1 h
    subst this
    rfl
  | some x =>
    obtain ⟨r, rfl⟩ := List.getLast?_eq_some_iff.1 h
    have hx : x < 256 := hl x (by simp)
    rw [Bool.eq_iff_iff, List.isSuffixOf_iff_suffix, decide_eq_true_iff, Option.some.injEq]
    constructor
    · intro hs
      obtain ⟨t, ht⟩ := hs
      rw [octs, List.map_append] at ht
      have := (List.append_inj_right' ht rfl)
      simp at this
      exact (oct_inj (by omega) hx (by simpa using this)).symm
    · rintro rfl
      exact ⟨octs r, by simp [octs]⟩
theorem chop_any (w : World) (A : Option Addr) (n c g d : Nat) (l : List Nat) (hS : Sl w A n c l) (hn : n ≤ 4000000000) (hg : w.cell? ⟨g, 0, none⟩ = some (.int .u8 13)) :
    Calls Tryz.prog 94 #[.slice A n c, .slice (some ⟨g, 0, none⟩) 1 d] w fun e w' => e = .returned (.slice A (chop l).length c) ∧ w' = w := by
  have hB := sep_in (s := 13) hg (by decide)
  refine (Tryz.bytes_TrimSuffix_all A (some ⟨g, 0, none⟩) n c 1 d (l.map Int.ofNat) ([13].map Int.ofNat) w (by rw [List.length_map]; exact hS.1.1) rfl hS.2.1 (by omega) (Bytes.into hS.1) (Bytes.into hB)).mono ?_
  rintro e w' ⟨rfl, rfl⟩
  refine ⟨?_, rfl⟩
  have hlen := hS.1.1
  have key : (chop l).length = if l.getLast? = some 13 then n - 1 else n := by
    unfold chop
    split
    · rw [List.length_take]; omega
    · exact hlen
  rw [key]
  rcases Nat.eq_zero_or_pos n with h0 | h0
  · subst h0
    obtain rfl : l = [] := List.eq_nil_of_length_eq_zero hlen
    unfold Lib.trimSuffixV
    split
    · rename_i y r e
      have : Lib.hasSuffix (octs []) [UInt8.ofNat 13] = false := rfl
      unfold Lib.bytesTrimSuffix
      rw [octs_of, octs_of, show octs [13] = [UInt8.ofNat 13] from rfl, this]
      rfl
    · rfl
  · obtain ⟨b, o, rfl, -⟩ := hS.1.2.2 h0
    show Ending.returned (Lib.bytesTrimSuffix b o n c (l.map Int.ofNat) ([13].map Int.ofNat)) = _
    unfold Lib.bytesTrimSuffix Lib.sliceTo
    rw [octs_of, octs_of, show octs [13] = [UInt8.ofNat 13] from rfl, suffix_last hS.1.2.1]
    by_cases h : l.getLast? = some 13
    · rw [if_pos h, decide_eq_true h]
      rfl
    · rw [if_neg h, decide_eq_false h]
      rfl
theorem clone_any (w : World) (A : Option Addr) (n c : Nat) (l : List Nat) (hS : Sl w A n c l) (hn : n ≤ 4000000000) :
    Calls Tryz.prog 73 #[.slice A n c] w fun e w' => ∃ G k, e = .returned (.slice G n k) ∧ Bytes w' G n l ∧ Below w.heap.size w w' := by
  cases A with
  | none =>
    obtain rfl := hS.2.2.2 rfl
    obtain rfl : n = 0 := by have := hS.2.1; omega
    refine (Tryz.bytes_Clone_nil 0 0 w).mono ?_
    rintro e w' ⟨rfl, rfl⟩
    exact ⟨none, 0, rfl, hS.1, Below.refl _ _⟩
  | some a =>
    refine (Tryz.bytes_Clone_at a n c (l.map Int.ofNat) w (by rw [List.length_map]; exact hS.1.1) (by omega) (fun i hi => ?_)).mono ?_
    · obtain ⟨b, o, e, hc⟩ := hS.1.2.2 (by omega)
      cases e
      have hi' : i < l.length := by have := hS.1.1; omega
      rw [codec.add_none, hc i hi]
      simp [List.getD, hi']
    · rintro e w' ⟨v, rfl, ho, hne, hb⟩
      rcases ho.2 with ⟨e, _⟩ | ⟨g, cap, cur, e, hB, hg, hc, _⟩
      · exact absurd e hne
      · refine ⟨some ⟨g, 0, none⟩, cap, by rw [e], ⟨hS.1.1, hS.1.2.1, fun _ => ⟨g, 0, rfl, fun i hi => ?_⟩⟩, hb⟩
        have hi' : i < l.length := by have := hS.1.1; omega
        have := World.ownsRow.cells ho (g := g) (by rw [e]; rfl) i (.int .u8 (l.getD i 0 : Nat)) (by simp [List.getD, hi'])
        rw [codec.add_none] at this
        exact this
theorem ln_take (l : List Nat) : ln l = l.take (ln l).length := by
  unfold ln chop
  split
  · rw [List.take_take, List.length_take, List.take_eq_take_iff, List.length_take]
    omega
  · rw [List.length_take, List.take_eq_take_iff]
    omega
set_option maxHeartbeats 1000000 in
theorem line_any2 (w : World) (A : Option Addr) (n c : Nat) (l : List Nat) (hS : Sl w A n c l) (hn : n ≤ 4000000000) (hr : Room w) :
    Calls Tryz.prog 72 #[.slice A n c] w fun e w' => ∃ R m d, e = .returned (.tuple #[.slice A (ln l).length c, .slice R m d]) ∧ m + nx l = n ∧ (∀ w0, Sl w0 A n c l → Sl w0 R m d (l.drop (nx l))) ∧ Below w.heap.size w w' := by
  have hb0 : Below w.heap.size w (w.alloc (.cells #[.int .u8 10] 5)) := (Below.refl _ _).alloc (Nat.le_refl _) _
  obtain ⟨W1, hW1⟩ : ∃ W1, W1 = w.alloc (.cells #[.int .u8 10] 5) := ⟨_, rfl⟩
  obtain ⟨g, hg⟩ : ∃ g, g = w.heap.size := ⟨_, rfl⟩
  have hc0 : W1.cell? ⟨g, 0, none⟩ = some (.int .u8 ((10 : Nat) : Nat)) := by
    rw [hW1, hg]
    simp
  rw [← hW1] at hb0
  have HC := Lib.hid (cut_any W1 A n c g 1 10 l (hS.below hb0) hn (by decide) hc0 (hr.below hb0))
  have HB := Lib.hid hb0
  have HS := Lib.hid hS
  have HW1 := Lib.hid hW1
  have HG := Lib.hid hg
  have HN := Lib.hid hn
  clear hb0 hc0 hS hr hW1 hg hn
  go_enter Tryz.func72, Tryz.ntmps72
  go_wp2_with fail
  rw [← HW1.out, ← HG.out]
  refine HC.out.mono ?_
  rintro e w2 ⟨rfl, hb⟩
  have HB2 := Lib.hid (HB.out.trans (hb.mono HB.out.size))
  clear hb
  obtain ⟨k, hk⟩ : ∃ k, k = ix 10 l := ⟨_, rfl⟩
  rw [← hk]
  have HK := Lib.hid (show k = lf l ∧ k ≤ n from ⟨by rw [hk, ix_lf], by have := ix_le 10 l; rw [HS.out.1.1] at this; omega⟩)
  have HR := Lib.hid (show ∃ R m d, restV A n c k = .slice R m d ∧ m + nx l = n ∧ (∀ w0, Sl w0 A n c l → Sl w0 R m d (l.drop (nx l))) by
    have hlen := HS.out.1.1
    have hk2 := HK.out
    unfold restV
    by_cases h : k < n
    · have hx : nx l = k + 1 := by unfold nx; omega
      rw [if_pos h, hx]
      exact ⟨_, _, _, rfl, by omega, fun w0 h0 => h0.rest (k + 1) (by omega)⟩
    · have hx : nx l = n := by unfold nx; omega
      rw [if_neg h, hx]
      refine ⟨_, _, _, rfl, by omega, fun w0 h0 => ?_⟩
      rw [List.drop_of_length_le (by omega)]
      exact Sl.none w0)
  obtain ⟨R, m, d, hR, hm, hSr⟩ := HR.out
  rw [hR]
  have HSr := Lib.hid (And.intro hm hSr)
  obtain ⟨W3, hW3⟩ : ∃ W3, W3 = w2.alloc (.cells #[.int .u8 13] 5) := ⟨_, rfl⟩
  obtain ⟨g2, hg2⟩ : ∃ g2, g2 = w2.heap.size := ⟨_, rfl⟩
  have hb3 : Below w2.heap.size w2 W3 := by rw [hW3]; exact (Below.refl _ _).alloc (Nat.le_refl _) _
  have hc3 : W3.cell? ⟨g2, 0, none⟩ = some (.int .u8 13) := by
    rw [hW3, hg2]
    simp
  have HB3 := Lib.hid (HB2.out.trans (hb3.mono HB2.out.size))
  have HT := Lib.hid (chop_any W3 A k c g2 1 (l.take k) ((HS.out.below HB3.out).part k HK.out.2) (by have := HN.out; have := HK.out; omega) hc3)
  have HL := Lib.hid (show chop (l.take k) = ln l by rw [HK.out.1]; rfl)
  have HW3 := Lib.hid hW3
  have HG2 := Lib.hid hg2
  clear hR hm hSr hW3 hg2 hb3 hc3 hk
  go_wp2_with fail
  rw [← HW3.out, ← HG2.out]
  refine HT.out.mono ?_
  rintro e w4 ⟨rfl, hw⟩
  replace hw := hw.symm
  subst hw
  rw [HL.out]
  go_wp2_with fail
  go_ret2
  exact ⟨R, m, d, rfl, HSr.out.1, HSr.out.2, HB3.out⟩
theorem line_any (w : World) (A : Option Addr) (n c : Nat) (l : List Nat) (hS : Sl w A n c l) (hn : n ≤ 4000000000) (hr : Room w) :
    Calls Tryz.prog 72 #[.slice A n c] w fun e w' => ∃ R m d, e = .returned (.tuple #[.slice A (ln l).length c, .slice R m d]) ∧ m + nx l = n ∧ Sl w R m d (l.drop (nx l)) ∧ Below w.heap.size w w' :=
  (line_any2 w A n c l hS hn hr).mono fun e w' ⟨R, m, d, h1, h2, h3, h4⟩ => ⟨R, m, d, h1, h2, h3 w hS, h4⟩
end Go.Proofs.YtcepcamedmiinaaGreatDoor.hd
