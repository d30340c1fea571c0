/- What the library does with bytes: parting, trimming and copying; a line, and a head, as the program parts them. -/
import Derived.Test.YthofgpddfnajiaaDoorHedA
import Derived.Test.YthofgpddfnajiaaDoorHedS
import Derived.Deep.DeepCutAuto
import Derived.Deep.CutBlock
import Derived.Deep.RegionHeld3
namespace Go.Proofs.YthofgpddfnajiaaDoor.hd
open Go.ChangeShapes Go.WideShapes Go.ChangeAt Go.RowKit
open Go.Proofs.YthofgpddfnajiaaDoor.codec (Bytes vals)
set_option linter.unusedVariables false
set_option maxRecDepth 100000
set_option linter.unusedSimpArgs false

/-- A library's variable holds some number. -/
def Room (w : World) : Prop := ∃ m, w.cell? ⟨0, 0, none⟩ = some (.int .i64 m)
theorem Room.below {w w' : World} (h : Room w) (hb : Below w.heap.size w w') : Room w' := by
  obtain ⟨m, hm⟩ := h
  exact ⟨m, (hb.cell (p := ⟨0, 0, none⟩) (block_lt_of_cell hm)).trans hm⟩
/-- Where a byte stands first, or else the end. -/
def ix (s : Nat) : List Nat → Nat
  | [] => 0
  | b :: r => if b = s then 0 else ix s r + 1
theorem ix_lf : ∀ l : List Nat, ix 10 l = lf l
  | [] => rfl
  | b :: r => by rw [ix, lf, ix_lf r]
theorem ix_le (s : Nat) : ∀ l : List Nat, ix s l ≤ l.length
  | [] => Nat.le_refl _
  | b :: r => by
    have := ix_le s r
    rw [ix, List.length_cons]
    split <;> omega
def octs (l : List Nat) : List UInt8 := l.map UInt8.ofNat
theorem octs_of (l : List Nat) : Lib.bytesOf (l.map Int.ofNat) = octs l := by
  simp only [Lib.bytesOf, octs, List.map_map]
  rfl
theorem oct_inj {a b : Nat} (ha : a < 256) (hb : b < 256) (h : UInt8.ofNat a = UInt8.ofNat b) : a = b := by
  have := congrArg UInt8.toNat h
  simp [Nat.mod_eq_of_lt ha, Nat.mod_eq_of_lt hb] at this
  omega
theorem index_ix (s : Nat) (hs : s < 256) : ∀ l : List Nat, (∀ x ∈ l, x < 256) → Lib.index (octs l) [UInt8.ofNat s] = if ix s l < l.length then (ix s l : Int) else -1
  | [], _ => by simp [octs, Lib.index]
  | b :: r, hl => by
    have ih := index_ix s hs r (fun x hx => hl x (List.mem_cons_of_mem _ hx))
    have hb : b < 256 := hl b List.mem_cons_self
    rw [show octs (b :: r) = UInt8.ofNat b :: octs r from rfl, Lib.index]
    by_cases h : b = s
    · subst h
      simp [List.isPrefixOf, ix]
    · have hp : ([UInt8.ofNat s] : List UInt8).isPrefixOf (UInt8.ofNat b :: octs r) = false := by
        simp [List.isPrefixOf]
        exact fun e => h (oct_inj hs hb e).symm
      rw [hp, ih, ix, if_neg h, List.length_cons]
      by_cases h2 : ix s r < r.length
      · have hne : (((ix s r : Nat) : Int) == -1) = false := by rw [beq_eq_false_iff_ne]; omega
        simp [h2, hne]
      · simp [h2]
theorem Bytes.into {w : World} {A : Option Addr} {n : Nat} {l : List Nat} (h : Bytes w A n l) : Lib.BytesIn w A n (l.map Int.ofNat) := fun h0 => by
  obtain ⟨b, o, e, hc⟩ := h.2.2 h0
  refine ⟨b, o, e, fun i hi => ?_⟩
  have hi' : i < l.length := by have := h.1; omega
  rw [hc i hi]
  simp [List.getD, hi']
theorem nums_byte {l : List Nat} (h : ∀ x ∈ l, x < 256) : ∀ x ∈ l.map Int.ofNat, 0 ≤ x ∧ x < 256 := by
  intro x hx
  obtain ⟨y, hy, rfl⟩ := List.mem_map.1 hx
  have := h y hy
  exact ⟨Int.natCast_nonneg _, by show (y : Int) < 256; omega⟩
theorem sep_in {w : World} {g s : Nat} (hg : w.cell? ⟨g, 0, none⟩ = some (.int .u8 (s : Nat))) (hs : s < 256) : Bytes w (some ⟨g, 0, none⟩) 1 [s] :=
  ⟨rfl, by simpa using hs, fun _ => ⟨g, 0, rfl, fun i hi => by
    obtain rfl : i = 0 := by omega
    exact hg⟩⟩
/-- What stands behind a place of a slice. -/
def restV (A : Option Addr) (n c k : Nat) : Value := if k < n then .slice (if c = k + 1 then A else A.map fun x => x.add (k + 1)) (n - (k + 1)) (c - (k + 1)) else .slice none 0 0
theorem cut_any (w : World) (A : Option Addr) (n c g d s : Nat) (l : List Nat) (hS : Sl w A n c l) (hn : n ≤ 4000000000) (hs : s < 256) (hg : w.cell? ⟨g, 0, none⟩ = some (.int .u8 (s : Nat))) (hr : Room w) :
    Calls Tryd.prog 16 #[.slice A n c, .slice (some ⟨g, 0, none⟩) 1 d] w fun e w' => e = .returned (.tuple #[.slice A (ix s l) c, restV A n c (ix s l), .bool (decide (ix s l < n))]) ∧ Below w.heap.size w w' := by
  obtain ⟨m, hm⟩ := hr
  have hB := sep_in hg hs
  refine (Tryd.bytes_Cut_all A (some ⟨g, 0, none⟩) n c 1 d (l.map Int.ofNat) ([s].map Int.ofNat) m w (by rw [List.length_map]; exact hS.1.1) rfl (nums_byte hS.1.2.1) (nums_byte hB.2.1) (Bytes.into hS.1) (Bytes.into hB) hS.2.2.2 hS.2.1 (by omega) (by decide) hm).mono ?_
  rintro e w' ⟨rfl, q, rfl⟩
  refine ⟨?_, codec.below_draws (Below.refl _ _) q⟩
  rw [octs_of, octs_of, show octs [s] = [UInt8.ofNat s] from rfl, index_ix s hs l hS.1.2.1, hS.1.1]
  have hle := ix_le s l
  rw [hS.1.1] at hle
  unfold Lib.cutV restV Lib.fromV
  by_cases h : ix s l < n
  · rw [if_pos h, if_pos (by omega), if_pos h, decide_eq_true h]
    simp
  · have he : ix s l = n := by omega
    rw [if_neg h, if_neg (by omega), if_neg h, decide_eq_false h, he]
theorem octs_length (l : List Nat) : (octs l).length = l.length := by simp [octs]
theorem suffix_last {l : List Nat} (hl : ∀ x ∈ l, x < 256) : Lib.hasSuffix (octs l) [UInt8.ofNat 13] = decide (l.getLast? = some 13) := by
  unfold Lib.hasSuffix
  cases h : l.getLast? with
  | none =>
    have : l = [] := List.getLast?_eq_none_iff.1 h
    subst this
    rfl
  | some x =>
    obtain ⟨r, rfl⟩ := List.getLast?_eq_some_iff.1 h
    have hx : x < 256 := hl x (by simp)
    rw [Bool.eq_iff_iff, List.isSuffixOf_iff_suffix, decide_eq_true_iff, Option.some.injEq]
    constructor
    · intro hs
      obtain ⟨t, ht⟩ := hs
      rw [octs, List.map_append] at ht
      have := (List.append_inj_right' ht rfl)
      simp at this
      exact (oct_inj (by omega) hx (by simpa using this)).symm
    · rintro rfl
      exact ⟨octs r, by simp [octs]⟩
theorem chop_any (w : World) (A : Option Addr) (n c g d : Nat) (l : List Nat) (hS : Sl w A n c l) (hn : n ≤ 4000000000) (hg : w.cell? ⟨g, 0, none⟩ = some (.int .u8 13)) :
    Calls Tryd.prog 17 #[.slice A n c, .slice (some ⟨g, 0, none⟩) 1 d] w fun e w' => e = .returned (.slice A (chop l).length c) ∧ w' = w := by
  have hB := sep_in (s := 13) hg (by decide)
  refine (Tryd.bytes_TrimSuffix_all A (some ⟨g, 0, none⟩) n c 1 d (l.map Int.ofNat) ([13].map Int.ofNat) w (by rw [List.length_map]; exact hS.1.1) rfl hS.2.1 (by omega) (Bytes.into hS.1) (Bytes.into hB)).mono ?_
  rintro e w' ⟨rfl, rfl⟩
  refine ⟨?_, rfl⟩
  have hlen := hS.1.1
  have key : (chop l).length = if l.getLast? = some 13 then n - 1 else n := by
    unfold chop
    split
    · rw [List.length_take]; omega
    · exact hlen
  rw [key]
  rcases Nat.eq_zero_or_pos n with h0 | h0
  · subst h0
    obtain rfl : l = [] := List.eq_nil_of_length_eq_zero hlen
    unfold Lib.trimSuffixV
    split
    · rename_i y r e
      have : Lib.hasSuffix (octs []) [UInt8.ofNat 13] = false := rfl
      unfold Lib.bytesTrimSuffix
      rw [octs_of, octs_of, show octs [13] = [UInt8.ofNat 13] from rfl, this]
      rfl
    · rfl
  · obtain ⟨b, o, rfl, -⟩ := hS.1.2.2 h0
    show Ending.returned (Lib.bytesTrimSuffix b o n c (l.map Int.ofNat) ([13].map Int.ofNat)) = _
    unfold Lib.bytesTrimSuffix Lib.sliceTo
    rw [octs_of, octs_of, show octs [13] = [UInt8.ofNat 13] from rfl, suffix_last hS.1.2.1]
    by_cases h : l.getLast? = some 13
    · rw [if_pos h, decide_eq_true h]
      rfl
    · rw [if_neg h, decide_eq_false h]
      rfl
theorem clone_any (w : World) (A : Option Addr) (n c : Nat) (l : List Nat) (hS : Sl w A n c l) (hn : n ≤ 4000000000) :
    Calls Tryd.prog 9 #[.slice A n c] w fun e w' => ∃ G k, e = .returned (.slice G n k) ∧ Bytes w' G n l ∧ Below w.heap.size w w' := by
  cases A with
  | none =>
    obtain rfl := hS.2.2.2 rfl
    obtain rfl : n = 0 := by have := hS.2.1; omega
    refine (Tryd.bytes_Clone_nil 0 0 w).mono ?_
    rintro e w' ⟨rfl, rfl⟩
    exact ⟨none, 0, rfl, hS.1, Below.refl _ _⟩
  | some a =>
    refine (Tryd.bytes_Clone_at a n c (l.map Int.ofNat) w (by rw [List.length_map]; exact hS.1.1) (by omega) (fun i hi => ?_)).mono ?_
    · obtain ⟨b, o, e, hc⟩ := hS.1.2.2 (by omega)
      cases e
      have hi' : i < l.length := by have := hS.1.1; omega
      rw [codec.add_none, hc i hi]
      simp [List.getD, hi']
    · rintro e w' ⟨v, rfl, ho, hne, hb⟩
      rcases ho.2 with ⟨e, _⟩ | ⟨g, cap, cur, e, hB, hg, hc, _⟩
      · exact absurd e hne
      · refine ⟨some ⟨g, 0, none⟩, cap, by rw [e], ⟨hS.1.1, hS.1.2.1, fun _ => ⟨g, 0, rfl, fun i hi => ?_⟩⟩, hb⟩
        have hi' : i < l.length := by have := hS.1.1; omega
        have := World.ownsRow.cells ho (g := g) (by rw [e]; rfl) i (.int .u8 (l.getD i 0 : Nat)) (by simp [List.getD, hi'])
        rw [codec.add_none] at this
        exact this
theorem ln_take (l : List Nat) : ln l = l.take (ln l).length := by
  unfold ln chop
  split
  · rw [List.take_take, List.length_take, List.take_eq_take_iff, List.length_take]
    omega
  · rw [List.length_take, List.take_eq_take_iff]
    omega
set_option maxHeartbeats 1000000 in
theorem line_any2 (w : World) (A : Option Addr) (n c : Nat) (l : List Nat) (hS : Sl w A n c l) (hn : n ≤ 4000000000) (hr : Room w) :
    Calls Tryd.prog 8 #[.slice A n c] w fun e w' => ∃ R m d, e = .returned (.tuple #[.slice A (ln l).length c, .slice R m d]) ∧ m + nx l = n ∧ (∀ w0, Sl w0 A n c l → Sl w0 R m d (l.drop (nx l))) ∧ Below w.heap.size w w' := by
  have hb0 : Below w.heap.size w (w.alloc (.cells #[.int .u8 10] 5)) := (Below.refl _ _).alloc (Nat.le_refl _) _
  obtain ⟨W1, hW1⟩ : ∃ W1, W1 = w.alloc (.cells #[.int .u8 10] 5) := ⟨_, rfl⟩
  obtain ⟨g, hg⟩ : ∃ g, g = w.heap.size := ⟨_, rfl⟩
  have hc0 : W1.cell? ⟨g, 0, none⟩ = some (.int .u8 ((10 : Nat) : Nat)) := by
    rw [hW1, hg]
    simp
  rw [← hW1] at hb0
  have HC := Lib.hid (cut_any W1 A n c g 1 10 l (hS.below hb0) hn (by decide) hc0 (hr.below hb0))
  have HB := Lib.hid hb0
  have HS := Lib.hid hS
  have HW1 := Lib.hid hW1
  have HG := Lib.hid hg
  have HN := Lib.hid hn
  clear hb0 hc0 hS hr hW1 hg hn
  go_enter Tryd.func8, Tryd.ntmps8
  go_wp2_with fail
  rw [← HW1.out, ← HG.out]
  refine HC.out.mono ?_
  rintro e w2 ⟨rfl, hb⟩
  have HB2 := Lib.hid (HB.out.trans (hb.mono HB.out.size))
  clear hb
  obtain ⟨k, hk⟩ : ∃ k, k = ix 10 l := ⟨_, rfl⟩
  rw [← hk]
  have HK := Lib.hid (show k = lf l ∧ k ≤ n from ⟨by rw [hk, ix_lf], by have := ix_le 10 l; rw [HS.out.1.1] at this; omega⟩)
  have HR := Lib.hid (show ∃ R m d, restV A n c k = .slice R m d ∧ m + nx l = n ∧ (∀ w0, Sl w0 A n c l → Sl w0 R m d (l.drop (nx l))) by
    have hlen := HS.out.1.1
    have hk2 := HK.out
    unfold restV
    by_cases h : k < n
    · have hx : nx l = k + 1 := by unfold nx; omega
      rw [if_pos h, hx]
      exact ⟨_, _, _, rfl, by omega, fun w0 h0 => h0.rest (k + 1) (by omega)⟩
    · have hx : nx l = n := by unfold nx; omega
      rw [if_neg h, hx]
      refine ⟨_, _, _, rfl, by omega, fun w0 h0 => ?_⟩
      rw [List.drop_of_length_le (by omega)]
      exact Sl.none w0)
  obtain ⟨R, m, d, hR, hm, hSr⟩ := HR.out
  rw [hR]
  have HSr := Lib.hid (And.intro hm hSr)
  obtain ⟨W3, hW3⟩ : ∃ W3, W3 = w2.alloc (.cells #[.int .u8 13] 5) := ⟨_, rfl⟩
  obtain ⟨g2, hg2⟩ : ∃ g2, g2 = w2.heap.size := ⟨_, rfl⟩
  have hb3 : Below w2.heap.size w2 W3 := by rw [hW3]; exact (Below.refl _ _).alloc (Nat.le_refl _) _
  have hc3 : W3.cell? ⟨g2, 0, none⟩ = some (.int .u8 13) := by
    rw [hW3, hg2]
    simp
  have HB3 := Lib.hid (HB2.out.trans (hb3.mono HB2.out.size))
  have HT := Lib.hid (chop_any W3 A k c g2 1 (l.take k) ((HS.out.below HB3.out).part k HK.out.2) (by have := HN.out; have := HK.out; omega) hc3)
  have HL := Lib.hid (show chop (l.take k) = ln l by rw [HK.out.1]; rfl)
  have HW3 := Lib.hid hW3
  have HG2 := Lib.hid hg2
  clear hR hm hSr hW3 hg2 hb3 hc3 hk
  go_wp2_with fail
  rw [← HW3.out, ← HG2.out]
  refine HT.out.mono ?_
  rintro e w4 ⟨rfl, hw⟩
  replace hw := hw.symm
  subst hw
  rw [HL.out]
  go_wp2_with fail
  go_ret2
  exact ⟨R, m, d, rfl, HSr.out.1, HSr.out.2, HB3.out⟩
theorem line_any (w : World) (A : Option Addr) (n c : Nat) (l : List Nat) (hS : Sl w A n c l) (hn : n ≤ 4000000000) (hr : Room w) :
    Calls Tryd.prog 8 #[.slice A n c] w fun e w' => ∃ R m d, e = .returned (.tuple #[.slice A (ln l).length c, .slice R m d]) ∧ m + nx l = n ∧ Sl w R m d (l.drop (nx l)) ∧ Below w.heap.size w w' :=
  (line_any2 w A n c l hS hn hr).mono fun e w' ⟨R, m, d, h1, h2, h3, h4⟩ => ⟨R, m, d, h1, h2, h3 w hS, h4⟩
end Go.Proofs.YthofgpddfnajiaaDoor.hd
