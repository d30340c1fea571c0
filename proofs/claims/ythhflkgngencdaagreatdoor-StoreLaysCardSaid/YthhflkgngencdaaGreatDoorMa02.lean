/- Notes, when they are formed, their payloads, and what a payload says: plain mathematics. -/
import Derived.Test.YthhflkgngencdaaGreatDoorMa01
import Derived.Lib.SlicesCompact
import Derived.Sort.EncStr
import Derived.Shelf.Strconv.Itoa0
import Derived.Shelf.Strconv.Itoa1
import Derived.Shelf.LaysM
import Derived.Shelf.Strconv.Itoa2
import Derived.Shelf.Strconv.Clone
import Derived.Shelf.Strings.Search1
import Derived.Shelf.Strings.Search2
import Derived.Shelf.Strings.Search3
import Derived.Shelf.Strings.Count
import Derived.Shelf.Strings.Shaped
import Derived.Shelf.Sort.Plain
import Derived.Shelf.Strconv.AppendUint10
import Derived.Shelf.Strconv.AppendInt10
import Derived.Shelf.Strconv.AppendIntPublic10
import Derived.Shelf.Strings.Split
import Derived.Shelf.Strings.Fold
import Derived.Shelf.Strings.SplitShaped
import Derived.Shelf.Unicode.DecodeSlow
import Derived.Shelf.Unicode.CaseLookup
import Derived.Shelf.Unicode.CaseConvert
import Derived.Shelf.Slices.Turned
import Derived.Ground.Names2Prog
import Derived.Shelf.Slices.Clone
import Derived.Shelf.Slices.CompactS
import Derived.Shelf.Slices.In.SortNone
import Derived.Shelf.Bytes.SlEqualAll
import Derived.Shelf.Bytes.Small
import Derived.Test.YthhflkgngencdaaGreatDoorProg
namespace Go.Proofs.YthhflkgngencdaaGreatDoor.bod
open Go.Proofs.YthhflkgngencdaaGreatDoor.codec (bytesOf byteAt bytesOf_length bytesOf_lt strOf numOf numFrom numOf_take numOf_lt numOf_bytes strOf_size)
open Go.Proofs.YthhflkgngencdaaGreatDoor.rd
set_option linter.unusedVariables false
set_option linter.unusedSimpArgs false

/-- Is it a name, as it should be? -/
def named (s : ByteArray) : Bool := nam.normOk s && decide (nam.normS s = s)
def fitsB (d f : Int) (n : Nat) : Bool := decide (0 ≤ d ∧ d ≤ 253402300799) && (decide (0 ≤ f ∧ f < 32) && decide (n ≤ 20000))
def emptyB (d f : Int) (n : Nat) : Bool := decide (d = 0) && (decide (f = 0) && decide (n = 0))
/-- May a note be? -/
def formedB (k : Int) (e : Nat) (s : ByteArray) (u : Nat) (d f : Int) (n : Nat) : Bool :=
  if k = 1 then decide (e ≠ 0) && (named s && (decide (u = 0) && emptyB d f n))
  else if k = 2 then decide (e ≠ 0) && (named s && (decide (u ≠ 0) && fitsB d f n))
  else if k = 3 then decide (e ≠ 0) && (decide (s.size = 0) && (decide (u ≠ 0) && emptyB d f n))
  else false
def nums (s : ByteArray) : List Nat := s.data.toList.map UInt8.toNat
theorem nums_length (s : ByteArray) : (nums s).length = s.size := by
  unfold nums
  rw [List.length_map, Array.length_toList]
  rfl
theorem nums_lt (s : ByteArray) : ∀ x ∈ nums s, x < 256 := by
  intro x hx
  obtain ⟨c, _, rfl⟩ := List.mem_map.1 hx
  exact c.toNat_lt
theorem strOf_nums (s : ByteArray) : strOf (nums s) = s := by
  unfold strOf nums
  rw [List.map_map, show UInt8.ofNat ∘ UInt8.toNat = id from funext fun c => by simp, List.map_id]
theorem nums_strOf {l : List Nat} (h : ∀ x ∈ l, x < 256) : nums (strOf l) = l := by
  unfold strOf nums
  simp only [List.map_map]
  conv => rhs; rw [← List.map_id l]
  refine List.map_congr_left fun x hx => ?_
  simp [Nat.mod_eq_of_lt (h x hx)]
/-- A text behind its length. -/
def txt (s : ByteArray) : List Nat := bytesOf s.size 2 ++ nums s
/-- The payload of a note. -/
def payL (k : Int) (e : Nat) (s : ByteArray) (u : Nat) (d f : Int) (o : List Nat) : List Nat :=
  if k = 1 then bytesOf e 4 ++ txt s
  else if k = 2 then bytesOf e 4 ++ (bytesOf u 4 ++ (bytesOf d.toNat 6 ++ (bytesOf f.toNat 1 ++ (txt s ++ o))))
  else bytesOf e 4 ++ bytesOf u 4
theorem byteAt_next (v x n j : Nat) (hx : x < 256) (hj : j < n) : byteAt (v * 256 + x) (n + 1) j = byteAt v n j := by
  unfold byteAt
  rw [show n + 1 - 1 - j = (n - 1 - j) + 1 by omega, Nat.pow_succ, Nat.mul_comm (256 ^ _) 256, ← Nat.div_div_eq_div_mul, show (v * 256 + x) / 256 = v by omega]
theorem bytesOf_next (v x n : Nat) (hx : x < 256) : bytesOf (v * 256 + x) (n + 1) = bytesOf v n ++ [x] := by
  unfold bytesOf
  rw [List.range_succ, List.map_append, List.map_singleton]
  congr 1
  · exact List.map_congr_left fun j hj => byteAt_next v x n j hx (List.mem_range.1 hj)
  · unfold byteAt
    rw [show n + 1 - 1 - n = 0 by omega]
    simp
    omega
theorem bytesOf_take {l : List Nat} (h : ∀ b ∈ l, b < 256) : ∀ k, k ≤ l.length → bytesOf (numOf (l.take k)) k = l.take k
  | 0, _ => by simp [bytesOf]
  | k + 1, hk => by
    have hx : l.getD k 0 < 256 := by
      have hk' : k < l.length := hk
      simp only [List.getD_eq_getElem?_getD, List.getElem?_eq_getElem hk', Option.getD_some]
      exact h _ (List.getElem_mem _)
    rw [numOf_take l k hk, bytesOf_next _ _ _ hx, bytesOf_take h k (Nat.le_of_lt hk)]
    have hk' : k < l.length := hk
    rw [List.take_add_one, List.getElem?_eq_getElem hk', List.getD_eq_getElem?_getD, List.getElem?_eq_getElem hk']
    rfl
theorem bytesOf_num {l : List Nat} (h : ∀ b ∈ l, b < 256) {n : Nat} (hn : l.length = n) : bytesOf (numOf l) n = l := by
  have := bytesOf_take h n (by omega)
  rw [List.take_of_length_le (by omega)] at this
  exact this
theorem num_lt {l : List Nat} (h : ∀ b ∈ l, b < 256) {n : Nat} (hn : l.length ≤ n) : numOf l < 256 ^ n := by
  have := numOf_lt l h l.length
  rw [List.take_length] at this
  exact Nat.lt_of_lt_of_le this (Nat.pow_le_pow_right (by decide) hn)
theorem got_len (k : Nat) (L : Option (List Nat)) : (got k L).length ≤ k := by
  cases L with
  | none => simp [got]
  | some l => simp only [got]; split <;> simp; omega
theorem got_lt {k : Nat} {L : Option (List Nat)} (h : ∀ l, L = some l → ∀ b ∈ l, b < 256) : ∀ b ∈ got k L, b < 256 := by
  intro b hb
  cases L with
  | none => simp [got] at hb
  | some l =>
    simp only [got] at hb
    split at hb
    · exact h l rfl b (List.mem_of_mem_take hb)
    · simp at hb
theorem got_num {k : Nat} {L : Option (List Nat)} (h : ∀ l, L = some l → ∀ b ∈ l, b < 256) : numOf (got k L) < 256 ^ k := num_lt (got_lt h) (got_len k L)
/-- What was read, if something is left. -/
theorem unread {k : Nat} {L : Option (List Nat)} {l' : List Nat} (h : rest k L = some l') : L = some (got k L ++ l') ∧ (got k L).length = k := by
  cases L with
  | none => simp [rest] at h
  | some l =>
    simp only [rest] at h
    split at h
    · rename_i hk
      obtain rfl := Option.some.inj h
      simp only [got, if_pos hk, List.take_append_drop, List.length_take, Nat.min_eq_left hk]
      exact ⟨trivial, trivial⟩
    · cases h
theorem got_app {a b : List Nat} {k : Nat} (h : a.length = k) : got k (some (a ++ b)) = a := by
  subst h
  simp [got]
theorem rest_app {a b : List Nat} {k : Nat} (h : a.length = k) : rest k (some (a ++ b)) = some b := by
  subst h
  simp [rest]
/-- Where the reader stands. -/
def LA (L : List Nat) : Option (List Nat) := rest 4 (some L)
def LT (L : Option (List Nat)) : Option (List Nat) := rest (numOf (got 2 L)) (rest 2 L)
def TX (L : Option (List Nat)) : ByteArray := strOf (got (numOf (got 2 L)) (rest 2 L))
def LU (L : List Nat) := rest 4 (LA L)
def LD (L : List Nat) := rest 6 (LU L)
def LF (L : List Nat) := rest 1 (LD L)
def LO (L : List Nat) := rest (leftN (LT (LF L))) (LT (LF L))
/-- What a payload says. -/
def epN (L : List Nat) : Nat := numOf (got 4 (some L))
def uidN (L : List Nat) : Nat := numOf (got 4 (LA L))
def datN (L : List Nat) : Nat := numOf (got 6 (LU L))
def flaN (L : List Nat) : Nat := numOf (got 1 (LD L))
def octN (L : List Nat) : List Nat := got (leftN (LT (LF L))) (LT (LF L))
def ok1 (L : List Nat) : Bool := decide (LT (LA L) = some []) && formedB 1 (epN L) (TX (LA L)) 0 0 0 0
def ok2 (L : List Nat) : Bool := decide (LO L = some []) && formedB 2 (epN L) (TX (LF L)) (uidN L) (datN L) (flaN L) (octN L).length
def ok3 (L : List Nat) : Bool := decide (LU L = some []) && formedB 3 (epN L) ByteArray.empty (uidN L) 0 0 0

variable {L : List Nat} (hb : ∀ b ∈ L, b < 256)
include hb
theorem ltA : ∀ l, some L = some l → ∀ b ∈ l, b < 256 := fun l e => by cases e; exact hb
theorem ltLA : ∀ l, LA L = some l → ∀ b ∈ l, b < 256 := rest_lt 4 (ltA hb)
theorem ltLU : ∀ l, LU L = some l → ∀ b ∈ l, b < 256 := rest_lt 4 (ltLA hb)
theorem ltLD : ∀ l, LD L = some l → ∀ b ∈ l, b < 256 := rest_lt 6 (ltLU hb)
theorem ltLF : ∀ l, LF L = some l → ∀ b ∈ l, b < 256 := rest_lt 1 (ltLD hb)
theorem ltLT : ∀ l, LT (LF L) = some l → ∀ b ∈ l, b < 256 := rest_lt _ (rest_lt 2 (ltLF hb))
theorem ep_lt : epN L < 4294967296 := got_num (ltA hb)
theorem uid_lt : uidN L < 4294967296 := got_num (ltLA hb)
omit hb
theorem text_read {M : Option (List Nat)} (hM : ∀ l, M = some l → ∀ b ∈ l, b < 256) {l : List Nat} (h : LT M = some l) : M = some (txt (TX M) ++ l) := by
  obtain ⟨e1, n1⟩ := unread h
  obtain ⟨e2, n2⟩ := unread e1
  have h2 := rest_lt 2 hM
  have g2 := got_lt (k := numOf (got 2 M)) h2
  have hs : (TX M).size = numOf (got 2 M) := by
    unfold TX
    rw [strOf_size, n1]
  have hn : nums (TX M) = got (numOf (got 2 M)) (rest 2 M) := nums_strOf g2
  unfold txt
  rw [hs, hn, bytesOf_num (got_lt hM) n2, List.append_assoc]
  exact e2
include hb
theorem says1 (h : ok1 L = true) : formedB 1 (epN L) (TX (LA L)) 0 0 0 0 = true ∧ payL 1 (epN L) (TX (LA L)) 0 0 0 [] = L := by
  simp only [ok1, Bool.and_eq_true, decide_eq_true_eq] at h
  refine ⟨h.2, ?_⟩
  have e1 := text_read (ltLA hb) h.1
  obtain ⟨e2, n2⟩ := unread e1
  have e3 := bytesOf_num (got_lt (k := 4) (ltA hb)) n2
  have e4 := Option.some.inj e2
  simp only [payL, if_true]
  unfold epN
  rw [e3]
  simpa using e4.symm
theorem says2 (h : ok2 L = true) : formedB 2 (epN L) (TX (LF L)) (uidN L) (datN L) (flaN L) (octN L).length = true ∧ payL 2 (epN L) (TX (LF L)) (uidN L) (datN L) (flaN L) (octN L) = L := by
  simp only [ok2, Bool.and_eq_true, decide_eq_true_eq] at h
  refine ⟨h.2, ?_⟩
  obtain ⟨e0, _⟩ := unread h.1
  have e1 := text_read (ltLF hb) e0
  obtain ⟨e2, n2⟩ := unread e1
  obtain ⟨e3, n3⟩ := unread e2
  obtain ⟨e4, n4⟩ := unread e3
  obtain ⟨e5, n5⟩ := unread e4
  have f2 := bytesOf_num (got_lt (k := 1) (ltLD hb)) n2
  have f3 := bytesOf_num (got_lt (k := 6) (ltLU hb)) n3
  have f4 := bytesOf_num (got_lt (k := 4) (ltLA hb)) n4
  have f5 := bytesOf_num (got_lt (k := 4) (ltA hb)) n5
  have e := Option.some.inj e5
  simp only [payL, if_neg (show ¬ (2 : Int) = 1 by decide), if_true, Int.toNat_natCast]
  unfold epN uidN datN flaN octN
  rw [f2, f3, f4, f5]
  simpa using e.symm
theorem says3 (h : ok3 L = true) : formedB 3 (epN L) ByteArray.empty (uidN L) 0 0 0 = true ∧ payL 3 (epN L) ByteArray.empty (uidN L) 0 0 [] = L := by
  simp only [ok3, Bool.and_eq_true, decide_eq_true_eq] at h
  refine ⟨h.2, ?_⟩
  obtain ⟨e4, n4⟩ := unread h.1
  obtain ⟨e5, n5⟩ := unread e4
  have f4 := bytesOf_num (got_lt (k := 4) (ltLA hb)) n4
  have f5 := bytesOf_num (got_lt (k := 4) (ltA hb)) n5
  have e := Option.some.inj e5
  simp only [payL, if_neg (show ¬ (3 : Int) = 1 by decide), if_neg (show ¬ (3 : Int) = 2 by decide)]
  unfold epN uidN
  rw [f4, f5]
  simpa using e.symm
omit hb
theorem named_size {s : ByteArray} (h : named s = true) : s.size ≤ 60 := by
  simp only [named, nam.normOk, Bool.and_eq_true, decide_eq_true_eq] at h
  exact h.1.1
theorem text_back {s : ByteArray} (hs : s.size ≤ 60) (l : List Nat) : TX (some (txt s ++ l)) = s ∧ LT (some (txt s ++ l)) = some l := by
  have h1 : got 2 (some (txt s ++ l)) = bytesOf s.size 2 := by
    unfold txt
    rw [List.append_assoc]
    exact got_app (bytesOf_length _ _)
  have h2 : rest 2 (some (txt s ++ l)) = some (nums s ++ l) := by
    unfold txt
    rw [List.append_assoc]
    exact rest_app (bytesOf_length _ _)
  have h3 : numOf (bytesOf s.size 2) = s.size := numOf_bytes _ _ (by omega)
  unfold TX LT
  rw [h1, h2, h3, got_app (nums_length s), rest_app (nums_length s), strOf_nums]
  exact ⟨rfl, rfl⟩
theorem back1 {e u : Nat} {s : ByteArray} {d f : Int} {o : List Nat} (he : e < 4294967296) (h : formedB 1 e s u d f o.length = true) :
    ok1 (payL 1 e s u d f o) = true ∧ epN (payL 1 e s u d f o) = e ∧ TX (LA (payL 1 e s u d f o)) = s ∧ u = 0 ∧ d = 0 ∧ f = 0 ∧ o = [] := by
  have h0 := h
  simp only [formedB, emptyB, if_true, Bool.and_eq_true, decide_eq_true_eq] at h
  obtain ⟨h1, h2, rfl, rfl, rfl, h6⟩ := h
  obtain rfl := List.eq_nil_of_length_eq_zero h6
  have hA : LA (payL 1 e s 0 0 0 []) = some (txt s ++ []) := by
    simp only [payL, if_true, List.append_nil]
    exact rest_app (bytesOf_length _ _)
  have hE : epN (payL 1 e s 0 0 0 []) = e := by
    simp only [payL, if_true, epN]
    rw [got_app (bytesOf_length _ _)]
    exact numOf_bytes _ _ (by omega)
  obtain ⟨t1, t2⟩ := text_back (named_size h2) []
  refine ⟨?_, hE, by rw [hA, t1], rfl, rfl, rfl, rfl⟩
  simp only [ok1, hA, t2, hE, t1, decide_true, Bool.true_and]
  exact h0
theorem back2 {e u : Nat} {s : ByteArray} {d f : Int} {o : List Nat} (he : e < 4294967296) (hu : u < 4294967296) (h : formedB 2 e s u d f o.length = true) :
    ok2 (payL 2 e s u d f o) = true ∧ epN (payL 2 e s u d f o) = e ∧ TX (LF (payL 2 e s u d f o)) = s ∧ uidN (payL 2 e s u d f o) = u ∧ (datN (payL 2 e s u d f o) : Int) = d ∧ (flaN (payL 2 e s u d f o) : Int) = f ∧ octN (payL 2 e s u d f o) = o := by
  have h0 := h
  simp only [formedB, fitsB, if_neg (show ¬ (2 : Int) = 1 by decide), if_true, Bool.and_eq_true, decide_eq_true_eq] at h
  obtain ⟨h1, h2, h3, ⟨h4, h5⟩, ⟨h6, h7⟩, h8⟩ := h
  obtain ⟨d, rfl⟩ := Int.eq_ofNat_of_zero_le h4
  obtain ⟨f, rfl⟩ := Int.eq_ofNat_of_zero_le h6
  have hP : payL 2 e s u d f o = bytesOf e 4 ++ (bytesOf u 4 ++ (bytesOf d 6 ++ (bytesOf f 1 ++ (txt s ++ o)))) := by
    simp only [payL, if_neg (show ¬ (2 : Int) = 1 by decide), if_true, Int.toNat_natCast]
  rw [hP]
  have hA : LA (bytesOf e 4 ++ (bytesOf u 4 ++ (bytesOf d 6 ++ (bytesOf f 1 ++ (txt s ++ o))))) = some (bytesOf u 4 ++ (bytesOf d 6 ++ (bytesOf f 1 ++ (txt s ++ o)))) := rest_app (bytesOf_length _ _)
  have hU : LU (bytesOf e 4 ++ (bytesOf u 4 ++ (bytesOf d 6 ++ (bytesOf f 1 ++ (txt s ++ o))))) = some (bytesOf d 6 ++ (bytesOf f 1 ++ (txt s ++ o))) := by unfold LU; rw [hA]; exact rest_app (bytesOf_length _ _)
  have hD : LD (bytesOf e 4 ++ (bytesOf u 4 ++ (bytesOf d 6 ++ (bytesOf f 1 ++ (txt s ++ o))))) = some (bytesOf f 1 ++ (txt s ++ o)) := by unfold LD; rw [hU]; exact rest_app (bytesOf_length _ _)
  have hF : LF (bytesOf e 4 ++ (bytesOf u 4 ++ (bytesOf d 6 ++ (bytesOf f 1 ++ (txt s ++ o))))) = some (txt s ++ o) := by unfold LF; rw [hD]; exact rest_app (bytesOf_length _ _)
  obtain ⟨t1, t2⟩ := text_back (named_size h2) o
  have e1 : epN (bytesOf e 4 ++ (bytesOf u 4 ++ (bytesOf d 6 ++ (bytesOf f 1 ++ (txt s ++ o))))) = e := by
    unfold epN; rw [got_app (bytesOf_length _ _)]; exact numOf_bytes _ _ (by omega)
  have e2 : uidN (bytesOf e 4 ++ (bytesOf u 4 ++ (bytesOf d 6 ++ (bytesOf f 1 ++ (txt s ++ o))))) = u := by
    unfold uidN; rw [hA, got_app (bytesOf_length _ _)]; exact numOf_bytes _ _ (by omega)
  have e3 : datN (bytesOf e 4 ++ (bytesOf u 4 ++ (bytesOf d 6 ++ (bytesOf f 1 ++ (txt s ++ o))))) = d := by
    unfold datN; rw [hU, got_app (bytesOf_length _ _)]; exact numOf_bytes _ _ (by omega)
  have e4 : flaN (bytesOf e 4 ++ (bytesOf u 4 ++ (bytesOf d 6 ++ (bytesOf f 1 ++ (txt s ++ o))))) = f := by
    unfold flaN; rw [hD, got_app (bytesOf_length _ _)]; exact numOf_bytes _ _ (by omega)
  have e5 : octN (bytesOf e 4 ++ (bytesOf u 4 ++ (bytesOf d 6 ++ (bytesOf f 1 ++ (txt s ++ o))))) = o := by
    unfold octN; rw [hF, t2]; simp [got, leftN]
  have e6 : LO (bytesOf e 4 ++ (bytesOf u 4 ++ (bytesOf d 6 ++ (bytesOf f 1 ++ (txt s ++ o))))) = some [] := by
    unfold LO; rw [hF, t2]; simp [rest, leftN]
  refine ⟨?_, e1, by rw [hF, t1], e2, by rw [e3], by rw [e4], e5⟩
  unfold ok2
  rw [e1, e2, e3, e4, e5, e6, hF, t1]
  simp only [decide_true, Bool.true_and]
  exact h0
theorem back3 {e u : Nat} {s : ByteArray} {d f : Int} {o : List Nat} (he : e < 4294967296) (hu : u < 4294967296) (h : formedB 3 e s u d f o.length = true) :
    ok3 (payL 3 e s u d f o) = true ∧ epN (payL 3 e s u d f o) = e ∧ uidN (payL 3 e s u d f o) = u ∧ s = ByteArray.empty ∧ d = 0 ∧ f = 0 ∧ o = [] := by
  have h0 := h
  simp only [formedB, emptyB, if_neg (show ¬ (3 : Int) = 1 by decide), if_neg (show ¬ (3 : Int) = 2 by decide), if_true, Bool.and_eq_true, decide_eq_true_eq] at h
  obtain ⟨h1, h2, h3, rfl, rfl, h6⟩ := h
  obtain rfl := List.eq_nil_of_length_eq_zero h6
  obtain rfl : s = ByteArray.empty := by
    cases s with
    | mk a => exact congrArg ByteArray.mk (Array.eq_empty_of_size_eq_zero h2)
  have hP : payL 3 e ByteArray.empty u 0 0 [] = bytesOf e 4 ++ (bytesOf u 4 ++ []) := by
    simp only [payL, if_neg (show ¬ (3 : Int) = 1 by decide), if_neg (show ¬ (3 : Int) = 2 by decide), List.append_nil]
  rw [hP]
  have hA : LA (bytesOf e 4 ++ (bytesOf u 4 ++ [])) = some (bytesOf u 4 ++ []) := rest_app (bytesOf_length _ _)
  have hU : LU (bytesOf e 4 ++ (bytesOf u 4 ++ [])) = some [] := by unfold LU; rw [hA]; exact rest_app (bytesOf_length _ _)
  have e1 : epN (bytesOf e 4 ++ (bytesOf u 4 ++ [])) = e := by
    unfold epN; rw [got_app (bytesOf_length _ _)]; exact numOf_bytes _ _ (by omega)
  have e2 : uidN (bytesOf e 4 ++ (bytesOf u 4 ++ [])) = u := by
    unfold uidN; rw [hA, got_app (bytesOf_length _ _)]; exact numOf_bytes _ _ (by omega)
  refine ⟨?_, e1, e2, rfl, rfl, rfl, rfl⟩
  unfold ok3
  rw [e1, e2, hU]
  simp only [decide_true, Bool.true_and]
  exact h0
theorem payL_lt {k : Int} {e u : Nat} {s : ByteArray} {d f : Int} {o : List Nat} (ho : ∀ b ∈ o, b < 256) : ∀ b ∈ payL k e s u d f o, b < 256 := by
  have ht : ∀ b ∈ txt s, b < 256 := codec.all_lt (bytesOf_lt _ _) (nums_lt s)
  unfold payL
  split
  · exact codec.all_lt (bytesOf_lt _ _) ht
  · split
    · exact codec.all_lt (bytesOf_lt _ _) (codec.all_lt (bytesOf_lt _ _) (codec.all_lt (bytesOf_lt _ _) (codec.all_lt (bytesOf_lt _ _) (codec.all_lt ht ho))))
    · exact codec.all_lt (bytesOf_lt _ _) (bytesOf_lt _ _)
theorem txt_length (s : ByteArray) : (txt s).length = 2 + s.size := by simp [txt, bytesOf_length, nums_length]
theorem payL_length {k : Int} {e u : Nat} {s : ByteArray} {d f : Int} {o : List Nat} (h : formedB k e s u d f o.length = true) : (payL k e s u d f o).length ≤ 20077 := by
  unfold formedB at h
  unfold payL
  split at h
  · rename_i hk
    simp only [Bool.and_eq_true] at h
    have := named_size h.2.1
    rw [if_pos hk, List.length_append, bytesOf_length, txt_length]
    omega
  · rename_i hk
    rw [if_neg hk]
    split at h
    · rename_i hk2
      simp only [fitsB, Bool.and_eq_true, decide_eq_true_eq] at h
      have := named_size h.2.1
      rw [if_pos hk2]
      simp only [List.length_append, bytesOf_length, txt_length]
      omega
    · rename_i hk2
      rw [if_neg hk2]
      simp [bytesOf_length]
end Go.Proofs.YthhflkgngencdaaGreatDoor.bod
namespace Go.Proofs.YthhflkgngencdaaGreatDoor.idx
open Go.Proofs.YthhflkgngencdaaGreatDoor.codec (bytesOf byteAt bytesOf_length bytesOf_lt strOf numOf numFrom numOf_take numOf_lt numOf_bytes strOf_size)
open Go.Proofs.YthhflkgngencdaaGreatDoor.rd (got rest)
open Go.Proofs.YthhflkgngencdaaGreatDoor.bod (named nums txt nums_length nums_lt strOf_nums nums_strOf bytesOf_take)
set_option linter.unusedVariables false
set_option linter.unusedSimpArgs false

/-- A place: a number and a name. -/
structure P where
  n : Int
  s : ByteArray
/-- An entry, or a mark: a UID and a number. -/
structure E where
  u : Nat
  a : Int

/-! ### Numbers that rise -/
def up (f : Int) (l : List Int) : Int × Bool := l.foldl (fun st n => (n, st.2 && decide (st.1 < n))) (f, true)
theorem up_snoc (f : Int) (l : List Int) (n : Int) : up f (l ++ [n]) = (n, (up f l).2 && decide ((up f l).1 < n)) := by
  unfold up
  rw [List.foldl_append]
  rfl
theorem fold_no : ∀ (l : List Int) (st : Int × Bool), st.2 = false → (l.foldl (fun st n => (n, st.2 && decide (st.1 < n))) st).2 = false
  | [], st, h => h
  | n :: r, st, h => fold_no r _ (by simp [h])
theorem up_stop {f : Int} {l : List Int} {i : Nat} (h : (up f (l.take i)).2 = false) : (up f l).2 = false := by
  have e : up f l = (l.drop i).foldl (fun st n => (n, st.2 && decide (st.1 < n))) (up f (l.take i)) := by
    conv => lhs; rw [← List.take_append_drop i l]
    unfold up
    rw [List.foldl_append]
  rw [e]
  exact fold_no _ _ h
theorem take_next {α : Type} {l : List α} {i : Nat} {x : α} (h : l[i]? = some x) : l.take (i + 1) = l.take i ++ [x] := by
  rw [List.take_add_one, h]
  rfl

/-! ### Names, none of which is there twice -/
def boxesB (l : List ByteArray) : Bool := decide l.Nodup && l.any fun x => decide (x = nam.INBOX)
def rawL (s : ByteArray) : List UInt8 := s.data.toList
theorem rawL_inj {s t : ByteArray} (h : rawL s = rawL t) : s = t := by
  obtain ⟨⟨s⟩⟩ := s
  obtain ⟨⟨t⟩⟩ := t
  simp [rawL] at h
  rw [h]
def leB (x y : List UInt8) : Bool := decide (x ≤ y)
theorem sorted_nodup (l : List (List UInt8)) : decide ((Lib.compact (l.mergeSort fun x y => decide (x ≤ y))).length = l.length) = decide l.Nodup := by
  have hp : (l.mergeSort fun x y => decide (x ≤ y)).Perm l := List.mergeSort_perm l _
  have hs : (l.mergeSort fun x y => decide (x ≤ y)).Pairwise (fun x y => decide (x ≤ y) = true) :=
    List.pairwise_mergeSort (fun a b c h1 h2 => by simp at h1 h2 ⊢; exact List.le_trans h1 h2) (fun a b => by simpa using List.le_total a b) l
  rw [decide_eq_decide, ← hp.nodup_iff, ← hp.length_eq]
  generalize (l.mergeSort fun x y => decide (x ≤ y)) = t at *
  clear hp
  have hlen : (Lib.compact t).length = t.length ↔ ∀ j, j < t.length → Lib.keeps t.toArray j = true := by
    unfold Lib.compact Lib.compactUpTo
    rw [List.length_map]
    constructor
    · intro h j hj
      have := (List.length_filter_eq_length_iff (p := Lib.keeps t.toArray) (l := List.range t.length)).1 (by rw [h, List.length_range])
      exact this j (List.mem_range.2 hj)
    · intro h
      rw [List.length_filter_eq_length_iff.2 (fun j hj => h j (List.mem_range.1 hj)), List.length_range]
  rw [hlen, List.nodup_iff_pairwise_ne, List.pairwise_iff_getElem]
  rw [List.pairwise_iff_getElem] at hs
  constructor
  · intro h i j hi hj hij e
    have hk := h j hj
    have h1 := hs i (j - 1)
    have h2 := hs (j - 1) j (by omega) hj (by omega)
    simp only [Lib.keeps, decide_eq_true_eq] at hk h2
    rcases hk with hk | hk
    · omega
    · apply hk
      simp only [getElem!_pos, List.getElem_toArray, List.size_toArray, hj, show j - 1 < t.length by omega]
      by_cases hij' : i = j - 1
      · subst hij'
        exact e.symm
      · have h1 := hs i (j - 1) hi (by omega) (by omega)
        simp only [decide_eq_true_eq] at h1
        rw [e] at h1
        exact List.le_antisymm h1 h2
  · intro h j hj
    simp only [Lib.keeps, decide_eq_true_eq]
    by_cases hj0 : j = 0
    · exact Or.inl hj0
    · refine Or.inr fun e => ?_
      simp only [getElem!_pos, List.getElem_toArray, List.size_toArray, hj, show j - 1 < t.length by omega] at e
      exact h (j - 1) j (by omega) hj (by omega) e.symm
theorem nodup_raw (l : List ByteArray) : decide (l.map rawL).Nodup = decide l.Nodup := by
  rw [decide_eq_decide]
  constructor
  · intro h
    rw [List.nodup_iff_pairwise_ne, List.pairwise_map] at h
    exact List.nodup_iff_pairwise_ne.2 (h.imp fun hne e => hne (by rw [e]))
  · intro h
    rw [List.nodup_iff_pairwise_ne, List.pairwise_map]
    exact (List.nodup_iff_pairwise_ne.1 h).imp fun hne e => hne (rawL_inj e)
theorem any_sorted (l : List (List UInt8)) (q : List UInt8 → Bool) : (l.mergeSort fun x y => decide (x ≤ y)).any q = l.any q := by
  rw [Bool.eq_iff_iff, List.any_eq_true, List.any_eq_true]
  constructor
  · rintro ⟨y, hy, e⟩
    exact ⟨y, (List.mergeSort_perm l _).mem_iff.1 hy, e⟩
  · rintro ⟨y, hy, e⟩
    exact ⟨y, (List.mergeSort_perm l _).mem_iff.2 hy, e⟩

/-! ### Things, one behind the other, as bytes and back -/
def readG {α : Type} (one : Option (List Nat) → α × Option (List Nat)) : Nat → Option (List Nat) → List α × Option (List Nat)
  | 0, L => ([], L)
  | _ + 1, none => ([], none)
  | k + 1, some l => ((one (some l)).1 :: (readG one k (one (some l)).2).1, (readG one k (one (some l)).2).2)
theorem read_none {α : Type} (one : Option (List Nat) → α × Option (List Nat)) (k : Nat) : readG one k none = ([], none) := by cases k <;> rfl
/-! ### Pieces -/
theorem got_app {k : Nat} {a t : List Nat} (h : a.length = k) : got k (some (a ++ t)) = a ∧ rest k (some (a ++ t)) = some t := by
  subst h
  simp [got, rest]
/-- A text, as it is read: the text, and what is left. -/
def tx (L : Option (List Nat)) : ByteArray := strOf (got (numOf (got 2 L)) (rest 2 L))
def lt (L : Option (List Nat)) : Option (List Nat) := rest (numOf (got 2 L)) (rest 2 L)
/-! ### Trees -/
def encP (p : P) : List Nat := bytesOf p.n.toNat 1 ++ txt p.s
def treeB (l : List P) : Bool := (up (-1) (l.map P.n)).2 && (!(l.any fun p => decide (16 ≤ p.n) || !named p.s) && boxesB (l.map P.s))
def treeL (l : List P) : List Nat := bytesOf l.length 1 ++ l.flatMap encP
/-! ### Indices, and flags -/
def encE (k : Nat) (e : E) : List Nat := bytesOf e.u 4 ++ bytesOf e.a.toNat k
def oneE (k : Nat) (L : Option (List Nat)) : E × Option (List Nat) := (⟨numOf (got 4 L), (numOf (got k (rest 4 L)) : Nat)⟩, rest k (rest 4 L))
/-- What follows the head: a count of two bytes, and things. -/
def restL (k : Nat) (l : List E) : List Nat := bytesOf l.length 2 ++ l.flatMap (encE k)
def placeB (a : Int) : Bool := decide (0 ≤ a) && decide (a ≤ 4294967295)
def belowB (u x : Nat) : Bool := decide (u < x) || decide (x = 4294967295)
def entriesB (l : List E) (x : Nat) : Bool := decide (l.length ≤ 500) && ((up 0 (l.map fun e => (e.u : Int))).2 && !(l.any fun e => !belowB e.u x || !placeB e.a))
def flagsB (a : Int) : Bool := decide (0 ≤ a ∧ a < 32)
def marksB (l : List E) : Bool := decide (l.length ≤ 500) && ((up 0 (l.map fun e => (e.u : Int))).2 && !(l.any fun e => !flagsB e.a))
def indexB (s : ByteArray) (e x : Nat) (t : Int) (l : List E) : Bool := named s && (decide (e ≠ 0) && (decide (x ≠ 0) && (placeB t && entriesB l x)))
def indexL (s : ByteArray) (e x : Nat) (t : Nat) (l : List E) : List Nat := txt s ++ (bytesOf e 4 ++ (bytesOf x 4 ++ (bytesOf t 4 ++ restL 4 l)))
def flsB (e : Nat) (l : List E) : Bool := decide (e ≠ 0) && marksB l
def flsL (e : Nat) (l : List E) : List Nat := bytesOf e 4 ++ restL 1 l
end Go.Proofs.YthhflkgngencdaaGreatDoor.idx
namespace Go.Proofs
open Go.Shelf
def Tryz.laysM316_ren : Go.Shelf.Ren := ⟨fun | 316 => 152 | n => n, fun | 9 => 9 | 3 => 3 | 4 => 4 | 37 => 40 | 0 => 0 | 127 => 267 | 5 => 5 | n => n, fun | n => n⟩
theorem Tryz.laysM316 : Go.Proofs.LaysM.n316 Tryz.prog Tryz.laysM316_ren := {
  mixed := by kernel_rfl
  f316 := Tryz.func152.trans (congrArg some (by kernel_rfl))
  t0 := Tryz.underlying0
  a0 := Tryz.isAgg0
  z0 := Tryz.sizeOf0
  v0 := Tryz.zeroValue0
  t3 := Tryz.underlying3
  a3 := Tryz.isAgg3
  z3 := Tryz.sizeOf3
  v3 := Tryz.zeroValue3
  t4 := Tryz.underlying4
  a4 := Tryz.isAgg4
  z4 := Tryz.sizeOf4
  v4 := Tryz.zeroValue4
  t9 := Tryz.underlying9
  a9 := Tryz.isAgg9
  z9 := Tryz.sizeOf9
  v9 := Tryz.zeroValue9
  t37 := Tryz.underlying40
  a37 := Tryz.isAgg40
  z37 := Tryz.sizeOf40
  v37 := Tryz.zeroValue40
  t127 := Tryz.underlying267
  a127 := Tryz.isAgg267
  z127 := Tryz.sizeOf267
  v127 := Tryz.zeroValue267
  t5 := Tryz.underlying5
  a5 := Tryz.isAgg5
  z5 := Tryz.sizeOf5
  v5 := Tryz.zeroValue5
  i0 := by kernel_rfl
  i3 := by kernel_rfl
  i4 := by kernel_rfl
  i5 := by kernel_rfl
  i9 := by kernel_rfl
  i37 := by kernel_rfl
  i127 := by kernel_rfl }
open Go.RowKit in
/-- internal/stringslite.Clone (what strings.Clone calls): "Clone returns a fresh copy of s.": THE SAME BYTES. Of what was there nothing has turned (a new row is laid, and frozen, where s is not empty). (LAID: no walk: one application.) -/
theorem Tryz.stringslite_Clone (s : ByteArray) (w : World) (hlim : s.size ≤ 281474976710656) :
    Calls Tryz.prog 152 #[.string s] w fun e w' => e = .returned (.string s) ∧ Below w.heap.size w w' := Any.stringslite_Clone Tryz.laysM316 s w hlim
def Tryz.lays190_ren : Go.Shelf.Ren := ⟨fun | 190 => 48 | 125 => 86 | 258 => 85 | 128 => 124 | 129 => 125 | 302 => 115 | 303 => 116 | 304 => 117 | 305 => 118 | 306 => 119 | 307 => 120 | 308 => 121 | 309 => 122 | 310 => 123 | 333 => 162 | 329 => 163 | 330 => 164 | 334 => 165 | 335 => 166 | 336 => 167 | 344 => 199 | n => n, fun | 31 => 57 | 9 => 9 | 3 => 3 | 46 => 137 | 0 => 0 | 51 => 39 | 53 => 188 | 4 => 4 | 183 => 180 | 182 => 179 | 131 => 184 | 5 => 5 | 218 => 230 | 222 => 234 | 228 => 270 | 229 => 271 | n => n, fun | n => n⟩
theorem Tryz.lays190 : Go.Proofs.Lays.n190 Tryz.prog Tryz.lays190_ren := {
  mixed := by kernel_rfl
  f125 := Tryz.func86.trans (congrArg some (by kernel_rfl))
  f128 := Tryz.func124.trans (congrArg some (by kernel_rfl))
  f129 := Tryz.func125.trans (congrArg some (by kernel_rfl))
  f190 := Tryz.func48.trans (congrArg some (by kernel_rfl))
  f258 := Tryz.func85.trans (congrArg some (by kernel_rfl))
  f302 := Tryz.func115.trans (congrArg some (by kernel_rfl))
  f303 := Tryz.func116.trans (congrArg some (by kernel_rfl))
  f304 := Tryz.func117.trans (congrArg some (by kernel_rfl))
  f305 := Tryz.func118.trans (congrArg some (by kernel_rfl))
  f306 := Tryz.func119.trans (congrArg some (by kernel_rfl))
  f307 := Tryz.func120.trans (congrArg some (by kernel_rfl))
  f308 := Tryz.func121.trans (congrArg some (by kernel_rfl))
  f309 := Tryz.func122.trans (congrArg some (by kernel_rfl))
  f310 := Tryz.func123.trans (congrArg some (by kernel_rfl))
  f329 := Tryz.func163.trans (congrArg some (by kernel_rfl))
  f330 := Tryz.func164.trans (congrArg some (by kernel_rfl))
  f333 := Tryz.func162.trans (congrArg some (by kernel_rfl))
  f334 := Tryz.func165.trans (congrArg some (by kernel_rfl))
  f335 := Tryz.func166.trans (congrArg some (by kernel_rfl))
  f336 := Tryz.func167.trans (congrArg some (by kernel_rfl))
  f344 := Tryz.func199.trans (congrArg some (by kernel_rfl))
  t0 := Tryz.underlying0
  a0 := Tryz.isAgg0
  z0 := Tryz.sizeOf0
  v0 := Tryz.zeroValue0
  t3 := Tryz.underlying3
  a3 := Tryz.isAgg3
  z3 := Tryz.sizeOf3
  v3 := Tryz.zeroValue3
  t4 := Tryz.underlying4
  a4 := Tryz.isAgg4
  z4 := Tryz.sizeOf4
  v4 := Tryz.zeroValue4
  t5 := Tryz.underlying5
  a5 := Tryz.isAgg5
  z5 := Tryz.sizeOf5
  v5 := Tryz.zeroValue5
  t9 := Tryz.underlying9
  a9 := Tryz.isAgg9
  z9 := Tryz.sizeOf9
  v9 := Tryz.zeroValue9
  t31 := Tryz.underlying57
  a31 := Tryz.isAgg57
  z31 := Tryz.sizeOf57
  v31 := Tryz.zeroValue57
  t46 := Tryz.underlying137
  a46 := Tryz.isAgg137
  z46 := Tryz.sizeOf137
  v46 := Tryz.zeroValue137
  t51 := Tryz.underlying39
  a51 := Tryz.isAgg39
  z51 := Tryz.sizeOf39
  v51 := Tryz.zeroValue39
  t53 := Tryz.underlying188
  a53 := Tryz.isAgg188
  z53 := Tryz.sizeOf188
  v53 := Tryz.zeroValue188
  t131 := Tryz.underlying184
  a131 := Tryz.isAgg184
  z131 := Tryz.sizeOf184
  v131 := Tryz.zeroValue184
  t182 := Tryz.underlying179
  a182 := Tryz.isAgg179
  z182 := Tryz.sizeOf179
  v182 := Tryz.zeroValue179
  t183 := Tryz.underlying180
  a183 := Tryz.isAgg180
  z183 := Tryz.sizeOf180
  v183 := Tryz.zeroValue180
  t218 := Tryz.underlying230
  a218 := Tryz.isAgg230
  z218 := Tryz.sizeOf230
  v218 := Tryz.zeroValue230
  t222 := Tryz.underlying234
  a222 := Tryz.isAgg234
  z222 := Tryz.sizeOf234
  v222 := Tryz.zeroValue234
  t228 := Tryz.underlying270
  a228 := Tryz.isAgg270
  z228 := Tryz.sizeOf270
  v228 := Tryz.zeroValue270
  t229 := Tryz.underlying271
  a229 := Tryz.isAgg271
  z229 := Tryz.sizeOf271
  v229 := Tryz.zeroValue271 }
open Go.Sort Go.RowKit in
theorem Tryz.slices_Sort_string (blk off cap : Nat) (ss : List (List UInt8)) (w : World) (hH : Holds encStr w blk off ss.toArray) (hblk : blk < w.heap.size) (hsz : ss.length < 4611686018427387904) :
    Calls Tryz.prog 48 #[.slice (some ⟨blk, off, none⟩) ss.length cap] w fun e w' =>
      e = .returned (.tuple #[]) ∧ ∃ n os, w' = grow (putRow encStr (Sort.ahead w n) blk off (ss.mergeSort fun x y => decide (x ≤ y)).toArray) os := Any.slices_Sort_string Tryz.lays190 blk off cap ss w hH hblk hsz
def Tryz.laysM176_ren : Go.Shelf.Ren := ⟨fun | 176 => 268 | 249 => 277 | 288 => 282 | 283 => 209 | 284 => 210 | 285 => 211 | 286 => 212 | 129 => 125 | 317 => 238 | 318 => 239 | 319 => 240 | 320 => 241 | 337 => 261 | 338 => 262 | n => n, fun | 37 => 40 | 2 => 2 | 3 => 3 | 53 => 188 | 4 => 4 | 9 => 9 | 171 => 291 | 0 => 0 | 173 => 293 | 212 => 323 | 51 => 39 | 5 => 5 | 20 => 20 | 213 => 324 | 46 => 137 | 232 => 273 | 233 => 366 | n => n, fun | 17 => 0 | 18 => 7 | 19 => 8 | n => n⟩
theorem Tryz.laysM176 : Go.Proofs.LaysM.n176 Tryz.prog Tryz.laysM176_ren := {
  mixed := by kernel_rfl
  f129 := Tryz.func125.trans (congrArg some (by kernel_rfl))
  f176 := Tryz.func268.trans (congrArg some (by kernel_rfl))
  f249 := Tryz.func277.trans (congrArg some (by kernel_rfl))
  f283 := Tryz.func209.trans (congrArg some (by kernel_rfl))
  f284 := Tryz.func210.trans (congrArg some (by kernel_rfl))
  f285 := Tryz.func211.trans (congrArg some (by kernel_rfl))
  f286 := Tryz.func212.trans (congrArg some (by kernel_rfl))
  f288 := Tryz.func282.trans (congrArg some (by kernel_rfl))
  f317 := Tryz.func238.trans (congrArg some (by kernel_rfl))
  f318 := Tryz.func239.trans (congrArg some (by kernel_rfl))
  f319 := Tryz.func240.trans (congrArg some (by kernel_rfl))
  f320 := Tryz.func241.trans (congrArg some (by kernel_rfl))
  f337 := Tryz.func261.trans (congrArg some (by kernel_rfl))
  f338 := Tryz.func262.trans (congrArg some (by kernel_rfl))
  t0 := Tryz.underlying0
  a0 := Tryz.isAgg0
  z0 := Tryz.sizeOf0
  v0 := Tryz.zeroValue0
  t2 := Tryz.underlying2
  a2 := Tryz.isAgg2
  z2 := Tryz.sizeOf2
  v2 := Tryz.zeroValue2
  t3 := Tryz.underlying3
  a3 := Tryz.isAgg3
  z3 := Tryz.sizeOf3
  v3 := Tryz.zeroValue3
  t4 := Tryz.underlying4
  a4 := Tryz.isAgg4
  z4 := Tryz.sizeOf4
  v4 := Tryz.zeroValue4
  t5 := Tryz.underlying5
  a5 := Tryz.isAgg5
  z5 := Tryz.sizeOf5
  v5 := Tryz.zeroValue5
  t9 := Tryz.underlying9
  a9 := Tryz.isAgg9
  z9 := Tryz.sizeOf9
  v9 := Tryz.zeroValue9
  t20 := Tryz.underlying20
  a20 := Tryz.isAgg20
  z20 := Tryz.sizeOf20
  v20 := Tryz.zeroValue20
  t37 := Tryz.underlying40
  a37 := Tryz.isAgg40
  z37 := Tryz.sizeOf40
  v37 := Tryz.zeroValue40
  t46 := Tryz.underlying137
  a46 := Tryz.isAgg137
  z46 := Tryz.sizeOf137
  v46 := Tryz.zeroValue137
  t51 := Tryz.underlying39
  a51 := Tryz.isAgg39
  z51 := Tryz.sizeOf39
  v51 := Tryz.zeroValue39
  t53 := Tryz.underlying188
  a53 := Tryz.isAgg188
  z53 := Tryz.sizeOf188
  v53 := Tryz.zeroValue188
  t171 := Tryz.underlying291
  a171 := Tryz.isAgg291
  z171 := Tryz.sizeOf291
  v171 := Tryz.zeroValue291
  t173 := Tryz.underlying293
  a173 := Tryz.isAgg293
  z173 := Tryz.sizeOf293
  v173 := Tryz.zeroValue293
  t212 := Tryz.underlying323
  a212 := Tryz.isAgg323
  z212 := Tryz.sizeOf323
  v212 := Tryz.zeroValue323
  t213 := Tryz.underlying324
  a213 := Tryz.isAgg324
  z213 := Tryz.sizeOf324
  t232 := Tryz.underlying273
  a232 := Tryz.isAgg273
  z232 := Tryz.sizeOf273
  v232 := Tryz.zeroValue273
  t233 := Tryz.underlying366
  a233 := Tryz.isAgg366
  z233 := Tryz.sizeOf366
  v233 := Tryz.zeroValue366
  g17 := by kernel_rfl
  g18 := by kernel_rfl
  g19 := by kernel_rfl
  i0 := by kernel_rfl
  i2 := by kernel_rfl
  i3 := by kernel_rfl
  i4 := by kernel_rfl
  i5 := by kernel_rfl
  i9 := by kernel_rfl
  i20 := by kernel_rfl
  i37 := by kernel_rfl
  i46 := by kernel_rfl
  i51 := by kernel_rfl
  i53 := by kernel_rfl
  i171 := by kernel_rfl
  i173 := by kernel_rfl
  i212 := by kernel_rfl
  i232 := by kernel_rfl
  i233 := by kernel_rfl
  m17 := by kernel_rfl
  m18 := by kernel_rfl
  m19 := by kernel_rfl }
open Go.RowKit Go.Sort Go.Lib in
/-- strconv.AppendInt: "AppendInt appends the string form of the integer i, as generated by FormatInt, to dst and returns the extended buffer.": AT BASE 10: WHAT COMES BACK OWNS dst's CELLS AND, BEHIND THEM, i's DECIMAL NUMERAL ('Lib.itoa i': at most 20 bytes), for every int64. Below the call's own blocks nothing has turned. (LAID: no walk: one application.) -/
theorem Tryz.strconv_AppendInt_10 (B n : Nat) (i : Int) (h0 : -9223372036854775808 ≤ i) (h1 : i ≤ 9223372036854775807) (sv : Value) (xs : List Value) (w : World) (hown : w.ownsRow B 5 1 sv n xs) (hBw : B ≤ w.heap.size) (hlim : n + 21 ≤ 140737488355328) (htab : Lib.TabBelow Tryz.prog B w "internal/strconv.uint64pow10" .u64 Lib.pow10Tab) :
    Calls Tryz.prog 268 #[sv, .int .i64 i, .int .i64 10] w fun e w' => ∃ v', e = .returned v' ∧ w'.ownsRow B 5 1 v' (n + (Lib.itoa i).length) (xs ++ Lib.byteCells (Lib.itoa i)) ∧ Below B w w' ∧ Lib.OthersKept 5 none w w' := Any.strconv_AppendInt_10 Tryz.laysM176 B n i h0 h1 sv xs w hown hBw hlim htab
def Tryz.lays146_ren : Go.Shelf.Ren := ⟨fun | 146 => 234 | 221 => 256 | 268 => 272 | 138 => 273 | 143 => 274 | 195 => 278 | 197 => 236 | 218 => 279 | 219 => 280 | 260 => 258 | 217 => 283 | 225 => 284 | 224 => 285 | 267 => 286 | 266 => 287 | 314 => 288 | n => n, fun | 9 => 9 | 31 => 57 | 3 => 3 | 4 => 4 | 0 => 0 | 105 => 318 | 21 => 21 | 5 => 5 | 46 => 137 | 119 => 358 | 139 => 361 | 138 => 360 | 146 => 371 | 51 => 39 | n => n, fun | 1 => 9 | 3 => 5 | 4 => 6 | n => n⟩
theorem Tryz.lays146 : Go.Proofs.Lays.n146 Tryz.prog Tryz.lays146_ren := {
  mixed := by kernel_rfl
  f138 := Tryz.func273.trans (congrArg some (by kernel_rfl))
  f143 := Tryz.func274.trans (congrArg some (by kernel_rfl))
  f146 := Tryz.func234.trans (congrArg some (by kernel_rfl))
  f195 := Tryz.func278.trans (congrArg some (by kernel_rfl))
  f197 := Tryz.func236.trans (congrArg some (by kernel_rfl))
  f217 := Tryz.func283.trans (congrArg some (by kernel_rfl))
  f218 := Tryz.func279.trans (congrArg some (by kernel_rfl))
  f219 := Tryz.func280.trans (congrArg some (by kernel_rfl))
  f221 := Tryz.func256.trans (congrArg some (by kernel_rfl))
  f224 := Tryz.func285.trans (congrArg some (by kernel_rfl))
  f225 := Tryz.func284.trans (congrArg some (by kernel_rfl))
  f260 := Tryz.func258.trans (congrArg some (by kernel_rfl))
  f266 := Tryz.func287.trans (congrArg some (by kernel_rfl))
  f267 := Tryz.func286.trans (congrArg some (by kernel_rfl))
  f268 := Tryz.func272.trans (congrArg some (by kernel_rfl))
  f314 := Tryz.func288.trans (congrArg some (by kernel_rfl))
  t0 := Tryz.underlying0
  a0 := Tryz.isAgg0
  z0 := Tryz.sizeOf0
  v0 := Tryz.zeroValue0
  t3 := Tryz.underlying3
  a3 := Tryz.isAgg3
  z3 := Tryz.sizeOf3
  v3 := Tryz.zeroValue3
  t4 := Tryz.underlying4
  a4 := Tryz.isAgg4
  z4 := Tryz.sizeOf4
  v4 := Tryz.zeroValue4
  t5 := Tryz.underlying5
  a5 := Tryz.isAgg5
  z5 := Tryz.sizeOf5
  v5 := Tryz.zeroValue5
  t9 := Tryz.underlying9
  a9 := Tryz.isAgg9
  z9 := Tryz.sizeOf9
  v9 := Tryz.zeroValue9
  t21 := Tryz.underlying21
  a21 := Tryz.isAgg21
  z21 := Tryz.sizeOf21
  v21 := Tryz.zeroValue21
  t31 := Tryz.underlying57
  a31 := Tryz.isAgg57
  z31 := Tryz.sizeOf57
  v31 := Tryz.zeroValue57
  t46 := Tryz.underlying137
  a46 := Tryz.isAgg137
  z46 := Tryz.sizeOf137
  v46 := Tryz.zeroValue137
  t51 := Tryz.underlying39
  a51 := Tryz.isAgg39
  z51 := Tryz.sizeOf39
  v51 := Tryz.zeroValue39
  t105 := Tryz.underlying318
  a105 := Tryz.isAgg318
  z105 := Tryz.sizeOf318
  v105 := Tryz.zeroValue318
  t119 := Tryz.underlying358
  a119 := Tryz.isAgg358
  z119 := Tryz.sizeOf358
  t138 := Tryz.underlying360
  a138 := Tryz.isAgg360
  z138 := Tryz.sizeOf360
  v138 := Tryz.zeroValue360
  t139 := Tryz.underlying361
  a139 := Tryz.isAgg361
  z139 := Tryz.sizeOf361
  v139 := Tryz.zeroValue361
  t146 := Tryz.underlying371
  a146 := Tryz.isAgg371
  z146 := Tryz.sizeOf371
  v146 := Tryz.zeroValue371
  g1 := by kernel_rfl
  g3 := by kernel_rfl
  g4 := by kernel_rfl }
open Go.RowKit Go.Lib in
/-- strings.Split. (LAID: no walk: one application.) -/
theorem Tryz.strings_Split (s sep : ByteArray) (m : Int) (w : World) (hs : s.size < 4294967281) (hm : w.cell? ⟨9, 0, none⟩ = some (.int .i64 m)) (h1 : 1 ≤ sep.size) :
    Calls Tryz.prog 234 #[.string s, .string sep] w fun e w' =>
      e = .returned (.slice (some ⟨w.heap.size, 0, none⟩) (Lib.countB s sep + 1) (Lib.countB s sep + 1)) ∧ w' = w.alloc (.cells ((Lib.splitB sep 0 (Lib.countB s sep) s).map Value.string).toArray 9) := Any.strings_Split Tryz.lays146 (by kernel_rfl) s sep m w hs hm h1
def Tryz.lays164_ren : Go.Shelf.Ren := ⟨fun | 164 => 208 | 197 => 236 | 239 => 237 | 260 => 258 | 274 => 259 | 275 => 260 | n => n, fun | 9 => 9 | 4 => 4 | 3 => 3 | 5 => 5 | 0 => 0 | 21 => 21 | 105 => 318 | 156 => 341 | 49 => 22 | 157 => 342 | 46 => 137 | 159 => 344 | 162 => 347 | 160 => 345 | 119 => 358 | 139 => 361 | 138 => 360 | 208 => 365 | 51 => 39 | 206 => 363 | n => n, fun | 11 => 2 | 12 => 3 | 13 => 4 | 3 => 5 | 4 => 6 | n => n⟩
theorem Tryz.lays164 : Go.Proofs.Lays.n164 Tryz.prog Tryz.lays164_ren := {
  mixed := by kernel_rfl
  f164 := Tryz.func208.trans (congrArg some (by kernel_rfl))
  f197 := Tryz.func236.trans (congrArg some (by kernel_rfl))
  f239 := Tryz.func237.trans (congrArg some (by kernel_rfl))
  f260 := Tryz.func258.trans (congrArg some (by kernel_rfl))
  f274 := Tryz.func259.trans (congrArg some (by kernel_rfl))
  f275 := Tryz.func260.trans (congrArg some (by kernel_rfl))
  t0 := Tryz.underlying0
  a0 := Tryz.isAgg0
  z0 := Tryz.sizeOf0
  v0 := Tryz.zeroValue0
  t3 := Tryz.underlying3
  a3 := Tryz.isAgg3
  z3 := Tryz.sizeOf3
  v3 := Tryz.zeroValue3
  t4 := Tryz.underlying4
  a4 := Tryz.isAgg4
  z4 := Tryz.sizeOf4
  v4 := Tryz.zeroValue4
  t5 := Tryz.underlying5
  a5 := Tryz.isAgg5
  z5 := Tryz.sizeOf5
  v5 := Tryz.zeroValue5
  t9 := Tryz.underlying9
  a9 := Tryz.isAgg9
  z9 := Tryz.sizeOf9
  v9 := Tryz.zeroValue9
  t21 := Tryz.underlying21
  a21 := Tryz.isAgg21
  z21 := Tryz.sizeOf21
  v21 := Tryz.zeroValue21
  t46 := Tryz.underlying137
  a46 := Tryz.isAgg137
  z46 := Tryz.sizeOf137
  v46 := Tryz.zeroValue137
  t49 := Tryz.underlying22
  a49 := Tryz.isAgg22
  z49 := Tryz.sizeOf22
  v49 := Tryz.zeroValue22
  t51 := Tryz.underlying39
  a51 := Tryz.isAgg39
  z51 := Tryz.sizeOf39
  v51 := Tryz.zeroValue39
  t105 := Tryz.underlying318
  a105 := Tryz.isAgg318
  z105 := Tryz.sizeOf318
  v105 := Tryz.zeroValue318
  t119 := Tryz.underlying358
  a119 := Tryz.isAgg358
  z119 := Tryz.sizeOf358
  t138 := Tryz.underlying360
  a138 := Tryz.isAgg360
  z138 := Tryz.sizeOf360
  v138 := Tryz.zeroValue360
  t139 := Tryz.underlying361
  a139 := Tryz.isAgg361
  z139 := Tryz.sizeOf361
  v139 := Tryz.zeroValue361
  t156 := Tryz.underlying341
  a156 := Tryz.isAgg341
  z156 := Tryz.sizeOf341
  t157 := Tryz.underlying342
  a157 := Tryz.isAgg342
  z157 := Tryz.sizeOf342
  v157 := Tryz.zeroValue342
  t159 := Tryz.underlying344
  a159 := Tryz.isAgg344
  z159 := Tryz.sizeOf344
  v159 := Tryz.zeroValue344
  t160 := Tryz.underlying345
  a160 := Tryz.isAgg345
  z160 := Tryz.sizeOf345
  v160 := Tryz.zeroValue345
  t162 := Tryz.underlying347
  a162 := Tryz.isAgg347
  z162 := Tryz.sizeOf347
  v162 := Tryz.zeroValue347
  t206 := Tryz.underlying363
  a206 := Tryz.isAgg363
  z206 := Tryz.sizeOf363
  v206 := Tryz.zeroValue363
  t208 := Tryz.underlying365
  a208 := Tryz.isAgg365
  z208 := Tryz.sizeOf365
  v208 := Tryz.zeroValue365
  g3 := by kernel_rfl
  g4 := by kernel_rfl
  g11 := by kernel_rfl
  g12 := by kernel_rfl
  g13 := by kernel_rfl }
open Go.RowKit Go.Lib in
theorem Tryz.strings_EqualFold (s t : ByteArray) (w : World) (hs : s.size < 4294967281) (has : ∀ (j : Nat) b, s.data.toList[j]? = some b → b.toNat < 128) (hat : ∀ (j : Nat) b, t.data.toList[j]? = some b → b.toNat < 128) :
    Calls Tryz.prog 208 #[.string s, .string t] w fun e w' => e = .returned (.bool (Lib.equalFold s.data.toList t.data.toList)) ∧ w' = w := Any.strings_EqualFold Tryz.lays164 s t w hs has hat
open Go.Lib in
open Go.Lib in
def Tryz.lays110_ren : Go.Shelf.Ren := ⟨fun | 110 => 37 | 109 => 78 | n => n, fun | 31 => 57 | 9 => 9 | 4 => 4 | 3 => 3 | 0 => 0 | n => n, fun | n => n⟩
theorem Tryz.lays110 : Go.Proofs.Lays.n110 Tryz.prog Tryz.lays110_ren := {
  mixed := by kernel_rfl
  f109 := Tryz.func78.trans (congrArg some (by kernel_rfl))
  f110 := Tryz.func37.trans (congrArg some (by kernel_rfl))
  t0 := Tryz.underlying0
  a0 := Tryz.isAgg0
  z0 := Tryz.sizeOf0
  v0 := Tryz.zeroValue0
  t3 := Tryz.underlying3
  a3 := Tryz.isAgg3
  z3 := Tryz.sizeOf3
  v3 := Tryz.zeroValue3
  t4 := Tryz.underlying4
  a4 := Tryz.isAgg4
  z4 := Tryz.sizeOf4
  v4 := Tryz.zeroValue4
  t9 := Tryz.underlying9
  a9 := Tryz.isAgg9
  z9 := Tryz.sizeOf9
  v9 := Tryz.zeroValue9
  t31 := Tryz.underlying57
  a31 := Tryz.isAgg57
  z31 := Tryz.sizeOf57
  v31 := Tryz.zeroValue57 }
open Go.Lib in
/-- slices.Contains at []string: "Contains reports whether v is present in s.": IT RETURNS 'Lib.containsS (the elements) v', which is true just where v is among them ('Lib.containsS_iff'); the world is as it was. ITS CALLEE slices.Index IS MET BY ITS OWN CONTRACT OFF THE SHELF (lay that first): no loop is walked here. (LAID: no walk: one application.) -/
theorem Tryz.slices_Contains_string (b off n c : Nat) (zs : List ByteArray) (x : ByteArray) (w : World) (hz : n ≤ zs.length) (hbig : n ≤ 9223372036854775807) (hc : ∀ j, j < zs.length → w.cell? ⟨b, off + j, none⟩ = some (.string (zs.getD j ByteArray.empty))) :
    Calls Tryz.prog 37 #[.slice (some ⟨b, off, none⟩) n c, .string x] w fun e w' => e = .returned (.bool (Lib.containsS (zs.take n) x)) ∧ w' = w := Any.slices_Contains_string Tryz.lays110 b off n c zs x w hz hbig hc
open Go.Lib in
/-- The same at a slice of length 0, a nil one too. (LAID: no walk: one application.) -/
theorem Tryz.slices_Contains_string_empty (a : Option Addr) (c : Nat) (x : ByteArray) (w : World) :
    Calls Tryz.prog 37 #[.slice a 0 c, .string x] w fun e w' => e = .returned (.bool false) ∧ w' = w := Any.slices_Contains_string_empty Tryz.lays110 a c x w
def Tryz.laysNm216_ren : Go.Shelf.Ren := ⟨fun | 16 => 183 | n => n, fun | 24 => 57 | 9 => 9 | 4 => 4 | n => n, fun | n => n⟩
theorem Tryz.laysNm216 : Go.Proofs.Lays2.n16 Tryz.prog Tryz.laysNm216_ren := {
  mixed := by kernel_rfl
  f16 := Tryz.func183.trans (congrArg some (by kernel_rfl))
  t4 := Tryz.underlying4
  a4 := Tryz.isAgg4
  z4 := Tryz.sizeOf4
  v4 := Tryz.zeroValue4
  t9 := Tryz.underlying9
  a9 := Tryz.isAgg9
  z9 := Tryz.sizeOf9
  v9 := Tryz.zeroValue9
  t24 := Tryz.underlying57
  a24 := Tryz.isAgg57
  z24 := Tryz.sizeOf57
  v24 := Tryz.zeroValue57
  i9 := by kernel_rfl }
open Go.RowKit Go.Lib in
/-- slices.Clone at []string: "Clone returns a copy of the slice. The elements are copied using assignment, so this is a shallow clone. The result may have additional unused capacity. The result preserves the nilness of s.": OF A SLICE THAT IS NOT nil IT RETURNS A SLICE THAT IS NOT nil, OF THE SAME ELEMENTS, IN MEMORY OF THE CALL's OWN: in the how-to's words (6f): 'w'.ownsRow B e 1 v' n cells': v' begins at the head of a row among the blocks from B on (B: the heap's size at the call), not frozen, whose first cells are the elements · 'Below B w w'': below B all is as it was. The capacity is whatever the run-time gives. 'zs': what the cells behind the slice's address hold; 'zs.take n': its elements. (LAID: no walk: one application.) -/
theorem Tryz.slices_Clone_string (b off n c : Nat) (zs : List ByteArray) (w : World) (hz : n ≤ zs.length) (hbig : n * 16 ≤ 140737488355328) (hc : ∀ j, j < zs.length → w.cell? ⟨b, off + j, none⟩ = some (.string (zs.getD j ByteArray.empty))) :
    Calls Tryz.prog 183 #[.slice (some ⟨b, off, none⟩) n c] w fun e w' => ∃ v', e = .returned v' ∧ w'.ownsRow w.heap.size 9 1 v' n ((zs.take n).map (Value.string)) ∧ v' ≠ .slice none 0 0 ∧ Below w.heap.size w w' := Any.slices_Clone_string Tryz.laysNm216 b off n c zs w hz hbig hc
open Go.RowKit Go.Lib in
/-- The same at nil: nil comes back; the world is as it was. (LAID: no walk: one application.) -/
theorem Tryz.slices_Clone_string_nil (n c : Nat) (w : World) :
    Calls Tryz.prog 183 #[.slice none n c] w fun e w' => e = .returned (.slice none 0 0) ∧ w' = w := Any.slices_Clone_string_nil Tryz.laysNm216 n c w
open Go.RowKit Go.Lib in
def Tryz.lays194_ren : Go.Shelf.Ren := ⟨fun | 194 => 182 | n => n, fun | 31 => 57 | 9 => 9 | 3 => 3 | 4 => 4 | 0 => 0 | n => n, fun | n => n⟩
theorem Tryz.lays194 : Go.Proofs.Lays.n194 Tryz.prog Tryz.lays194_ren := {
  mixed := by kernel_rfl
  f194 := Tryz.func182.trans (congrArg some (by kernel_rfl))
  t0 := Tryz.underlying0
  a0 := Tryz.isAgg0
  z0 := Tryz.sizeOf0
  v0 := Tryz.zeroValue0
  t3 := Tryz.underlying3
  a3 := Tryz.isAgg3
  z3 := Tryz.sizeOf3
  v3 := Tryz.zeroValue3
  t4 := Tryz.underlying4
  a4 := Tryz.isAgg4
  z4 := Tryz.sizeOf4
  v4 := Tryz.zeroValue4
  t9 := Tryz.underlying9
  a9 := Tryz.isAgg9
  z9 := Tryz.sizeOf9
  v9 := Tryz.zeroValue9
  t31 := Tryz.underlying57
  a31 := Tryz.isAgg57
  z31 := Tryz.sizeOf57
  v31 := Tryz.zeroValue57 }
open Go.RowKit Go.Lib Go.Sort in
/-- slices.Compact at []string: "Compact replaces consecutive runs of equal elements with a single copy. This is like the uniq command found on Unix. Compact modifies the contents of the slice s and returns the modified slice, which may have a smaller length. Compact zeroes the elements between the new length and the original length. The result preserves the nilness of s.": IT RETURNS THE SLICE CUT TO 'Lib.compact zs'; ITS CELLS HOLD 'Lib.compact zs', THEN ZERO VALUES up to the old length; all else is as it was, but for the count of draws. IN THE WORDS OF slices.Sort's CONTRACT ('Holds', 'putRow'): so the everyday 'slices.Sort(xs); xs = slices.Compact(xs)' goes from the one contract to the other. It asks 'zs.length ≤ cap' (every slice's: the reslicing 's[:k]' looks at it). Length 0, nil: '.._empty'. (LAID: no walk: one application.) -/
theorem Tryz.slices_Compact_string (blk off cap : Nat) (zs : List (List UInt8)) (w : World) (hH : Holds encStr w blk off zs.toArray) (hsz : zs.length ≤ 9223372036854775807) (hcap : zs.length ≤ cap) :
    Calls Tryz.prog 182 #[.slice (some ⟨blk, off, none⟩) zs.length cap] w fun e w' => e = .returned (.slice (some ⟨blk, off, none⟩) (Lib.compact zs).length cap) ∧ ∃ q, w' = putRow encStr (Sort.ahead w q) blk off (Lib.compact zs ++ List.replicate (zs.length - (Lib.compact zs).length) []).toArray := Any.slices_Compact_string Tryz.lays194 blk off cap zs w hH hsz hcap
open Go.RowKit Go.Lib Go.Sort in
/-- The same at a slice of length 0, a nil one too: it comes back as it is. (LAID: no walk: one application.) -/
theorem Tryz.slices_Compact_string_empty (a : Option Addr) (cap : Nat) (w : World) :
    Calls Tryz.prog 182 #[.slice a 0 cap] w fun e w' => e = .returned (.slice a 0 cap) ∧ w' = w := Any.slices_Compact_string_empty Tryz.lays194 a cap w
open Go.RowKit Go.Sort in
/-- .. and plain. (LAID: no walk: one application.) -/
theorem Tryz.slices_Sort_string_none (p : Option Addr) (cap : Nat) (w : World) :
    Calls Tryz.prog 48 #[.slice p 0 cap] w fun e w' => e = .returned (.tuple #[]) ∧ w' = w := Any.slices_Sort_string_none Tryz.lays190 p cap w
end Go.Proofs
