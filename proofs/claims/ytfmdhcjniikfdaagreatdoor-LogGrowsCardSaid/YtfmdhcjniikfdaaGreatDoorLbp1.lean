/- Notes, when they are formed, their payloads, and what a payload says: plain mathematics. -/
import Derived.Test.YtfmdhcjniikfdaaGreatDoorLbp0
import Derived.Laws.BitsAllLaws
import Derived.Test.YtfmdhcjniikfdaaGreatDoorRows
import Derived.WalkKit
import Derived.ProofKit
import Derived.OpenShut
import Derived.ChangeOld
import Derived.Below
import Derived.Outline
import Derived.WalkSpells
import Derived.Lib.Hide
import Derived.Deep.QuietTactic
import Derived.BigQuiet
import Derived.Deep.OwnRows
import Derived.Deep.WholeRow
import Derived.StillTailTactics
import Derived.Lib.SlBytesConst
import Derived.Laws.CopyOwn
/- Notes, when they are formed, their payloads, and what a payload says: plain mathematics. -/
namespace Go.Proofs.YtfmdhcjniikfdaaGreatDoor.bod
open Go.Proofs.YtfmdhcjniikfdaaGreatDoor.codec (bytesOf byteAt bytesOf_length bytesOf_lt strOf numOf numFrom numOf_take numOf_lt numOf_bytes strOf_size)
open Go.Proofs.YtfmdhcjniikfdaaGreatDoor.rd
set_option linter.unusedVariables false
set_option linter.unusedSimpArgs false

/-- Is it a name, as it should be? -/
def named (s : ByteArray) : Bool := nam.normOk s && decide (nam.normS s = s)
def fitsB (d f : Int) (n : Nat) : Bool := decide (0 ≤ d ∧ d ≤ 253402300799) && (decide (0 ≤ f ∧ f < 32) && decide (n ≤ 20000))
def emptyB (d f : Int) (n : Nat) : Bool := decide (d = 0) && (decide (f = 0) && decide (n = 0))
/-- May a note be? -/
def formedB (k : Int) (e : Nat) (s : ByteArray) (u : Nat) (d f : Int) (n : Nat) : Bool :=
  if k = 1 then decide (e ≠ 0) && (named s && (decide (u = 0) && emptyB d f n))
  else if k = 2 then decide (e ≠ 0) && (named s && (decide (u ≠ 0) && fitsB d f n))
  else if k = 3 then decide (e ≠ 0) && (decide (s.size = 0) && (decide (u ≠ 0) && emptyB d f n))
  else false
def nums (s : ByteArray) : List Nat := s.data.toList.map UInt8.toNat
theorem nums_length (s : ByteArray) : (nums s).length = s.size := by
  unfold nums
  rw [List.length_map, Array.length_toList]
  rfl
theorem nums_lt (s : ByteArray) : ∀ x ∈ nums s, x < 256 := by
  intro x hx
  obtain ⟨c, _, rfl⟩ := List.mem_map.1 hx
  exact c.toNat_lt
theorem strOf_nums (s : ByteArray) : strOf (nums s) = s := by
  unfold strOf nums
  rw [List.map_map, show UInt8.ofNat ∘ UInt8.toNat = id from funext fun c => by simp, List.map_id]
theorem nums_strOf {l : List Nat} (h : ∀ x ∈ l, x < 256) : nums (strOf l) = l := by
  unfold strOf nums
  simp only [List.map_map]
  conv => rhs; rw [← List.map_id l]
  refine List.map_congr_left fun x hx => ?_
  simp [Nat.mod_eq_of_lt (h x hx)]
/-- A text behind its length. -/
def txt (s : ByteArray) : List Nat := bytesOf s.size 2 ++ nums s
/-- The payload of a note. -/
def payL (k : Int) (e : Nat) (s : ByteArray) (u : Nat) (d f : Int) (o : List Nat) : List Nat :=
  if k = 1 then bytesOf e 4 ++ txt s
  else if k = 2 then bytesOf e 4 ++ (bytesOf u 4 ++ (bytesOf d.toNat 6 ++ (bytesOf f.toNat 1 ++ (txt s ++ o))))
  else bytesOf e 4 ++ bytesOf u 4
theorem byteAt_next (v x n j : Nat) (hx : x < 256) (hj : j < n) : byteAt (v * 256 + x) (n + 1) j = byteAt v n j := by
  unfold byteAt
  rw [show n + 1 - 1 - j = (n - 1 - j) + 1 by omega, Nat.pow_succ, Nat.mul_comm (256 ^ _) 256, ← Nat.div_div_eq_div_mul, show (v * 256 + x) / 256 = v by omega]
theorem bytesOf_next (v x n : Nat) (hx : x < 256) : bytesOf (v * 256 + x) (n + 1) = bytesOf v n ++ [x] := by
  unfold bytesOf
  rw [List.range_succ, List.map_append, List.map_singleton]
  congr 1
  · exact List.map_congr_left fun j hj => byteAt_next v x n j hx (List.mem_range.1 hj)
  · unfold byteAt
    rw [show n + 1 - 1 - n = 0 by omega]
    simp
    omega
theorem bytesOf_take {l : List Nat} (h : ∀ b ∈ l, b < 256) : ∀ k, k ≤ l.length → bytesOf (numOf (l.take k)) k = l.take k
  | 0, _ => by simp [bytesOf]
  | k + 1, hk => by
    have hx : l.getD k 0 < 256 := by
      have hk' : k < l.length := hk
      simp only [List.getD_eq_getElem?_getD, List.getElem?_eq_getElem hk', Option.getD_some]
      exact h _ (List.getElem_mem _)
    rw [numOf_take l k hk, bytesOf_next _ _ _ hx, bytesOf_take h k (Nat.le_of_lt hk)]
    have hk' : k < l.length := hk
    rw [List.take_add_one, List.getElem?_eq_getElem hk', List.getD_eq_getElem?_getD, List.getElem?_eq_getElem hk']
    rfl
theorem bytesOf_num {l : List Nat} (h : ∀ b ∈ l, b < 256) {n : Nat} (hn : l.length = n) : bytesOf (numOf l) n = l := by
  have := bytesOf_take h n (by omega)
  rw [List.take_of_length_le (by omega)] at this
  exact this
theorem num_lt {l : List Nat} (h : ∀ b ∈ l, b < 256) {n : Nat} (hn : l.length ≤ n) : numOf l < 256 ^ n := by
  have := numOf_lt l h l.length
  rw [List.take_length] at this
  exact Nat.lt_of_lt_of_le this (Nat.pow_le_pow_right (by decide) hn)
theorem got_len (k : Nat) (L : Option (List Nat)) : (got k L).length ≤ k := by
  cases L with
  | none => simp [got]
  | some l => simp only [got]; split <;> simp; omega
theorem got_lt {k : Nat} {L : Option (List Nat)} (h : ∀ l, L = some l → ∀ b ∈ l, b < 256) : ∀ b ∈ got k L, b < 256 := by
  intro b hb
  cases L with
  | none => simp [got] at hb
  | some l =>
    simp only [got] at hb
    split at hb
    · exact h l rfl b (List.mem_of_mem_take hb)
    · simp at hb
theorem got_num {k : Nat} {L : Option (List Nat)} (h : ∀ l, L = some l → ∀ b ∈ l, b < 256) : numOf (got k L) < 256 ^ k := num_lt (got_lt h) (got_len k L)
/-- What was read, if something is left. -/
theorem unread {k : Nat} {L : Option (List Nat)} {l' : List Nat} (h : rest k L = some l') : L = some (got k L ++ l') ∧ (got k L).length = k := by
  cases L with
  | none => simp [rest] at h
  | some l =>
    simp only [rest] at h
    split at h
    · rename_i hk
      obtain rfl := Option.some.inj h
      simp only [got, if_pos hk, List.take_append_drop, List.length_take, Nat.min_eq_left hk]
      exact ⟨trivial, trivial⟩
    · cases h
theorem got_app {a b : List Nat} {k : Nat} (h : a.length = k) : got k (some (a ++ b)) = a := by
  subst h
  simp [got]
theorem rest_app {a b : List Nat} {k : Nat} (h : a.length = k) : rest k (some (a ++ b)) = some b := by
  subst h
  simp [rest]
/-- Where the reader stands. -/
def LA (L : List Nat) : Option (List Nat) := rest 4 (some L)
def LT (L : Option (List Nat)) : Option (List Nat) := rest (numOf (got 2 L)) (rest 2 L)
def TX (L : Option (List Nat)) : ByteArray := strOf (got (numOf (got 2 L)) (rest 2 L))
def LU (L : List Nat) := rest 4 (LA L)
def LD (L : List Nat) := rest 6 (LU L)
def LF (L : List Nat) := rest 1 (LD L)
def LO (L : List Nat) := rest (leftN (LT (LF L))) (LT (LF L))
/-- What a payload says. -/
def epN (L : List Nat) : Nat := numOf (got 4 (some L))
def uidN (L : List Nat) : Nat := numOf (got 4 (LA L))
def datN (L : List Nat) : Nat := numOf (got 6 (LU L))
def flaN (L : List Nat) : Nat := numOf (got 1 (LD L))
def octN (L : List Nat) : List Nat := got (leftN (LT (LF L))) (LT (LF L))
def ok1 (L : List Nat) : Bool := decide (LT (LA L) = some []) && formedB 1 (epN L) (TX (LA L)) 0 0 0 0
def ok2 (L : List Nat) : Bool := decide (LO L = some []) && formedB 2 (epN L) (TX (LF L)) (uidN L) (datN L) (flaN L) (octN L).length
def ok3 (L : List Nat) : Bool := decide (LU L = some []) && formedB 3 (epN L) ByteArray.empty (uidN L) 0 0 0

variable {L : List Nat} (hb : ∀ b ∈ L, b < 256)
include hb
theorem ltA : ∀ l, some L = some l → ∀ b ∈ l, b < 256 := fun l e => by cases e; exact hb
theorem ltLA : ∀ l, LA L = some l → ∀ b ∈ l, b < 256 := rest_lt 4 (ltA hb)
theorem ltLU : ∀ l, LU L = some l → ∀ b ∈ l, b < 256 := rest_lt 4 (ltLA hb)
theorem ltLD : ∀ l, LD L = some l → ∀ b ∈ l, b < 256 := rest_lt 6 (ltLU hb)
theorem ltLF : ∀ l, LF L = some l → ∀ b ∈ l, b < 256 := rest_lt 1 (ltLD hb)
theorem ltLT : ∀ l, LT (LF L) = some l → ∀ b ∈ l, b < 256 := rest_lt _ (rest_lt 2 (ltLF hb))
theorem ep_lt : epN L < 4294967296 := got_num (ltA hb)
theorem uid_lt : uidN L < 4294967296 := got_num (ltLA hb)
theorem dat_lt : datN L < 281474976710656 := got_num (ltLU hb)
theorem fla_lt : flaN L < 256 := got_num (ltLD hb)
omit hb
theorem text_read {M : Option (List Nat)} (hM : ∀ l, M = some l → ∀ b ∈ l, b < 256) {l : List Nat} (h : LT M = some l) : M = some (txt (TX M) ++ l) := by
  obtain ⟨e1, n1⟩ := unread h
  obtain ⟨e2, n2⟩ := unread e1
  have h2 := rest_lt 2 hM
  have g2 := got_lt (k := numOf (got 2 M)) h2
  have hs : (TX M).size = numOf (got 2 M) := by
    unfold TX
    rw [strOf_size, n1]
  have hn : nums (TX M) = got (numOf (got 2 M)) (rest 2 M) := nums_strOf g2
  unfold txt
  rw [hs, hn, bytesOf_num (got_lt hM) n2, List.append_assoc]
  exact e2
include hb
theorem says1 (h : ok1 L = true) : formedB 1 (epN L) (TX (LA L)) 0 0 0 0 = true ∧ payL 1 (epN L) (TX (LA L)) 0 0 0 [] = L := by
  simp only [ok1, Bool.and_eq_true, decide_eq_true_eq] at h
  refine ⟨h.2, ?_⟩
  have e1 := text_read (ltLA hb) h.1
  obtain ⟨e2, n2⟩ := unread e1
  have e3 := bytesOf_num (got_lt (k := 4) (ltA hb)) n2
  have e4 := Option.some.inj e2
  simp only [payL, if_true]
  unfold epN
  rw [e3]
  simpa using e4.symm
theorem says2 (h : ok2 L = true) : formedB 2 (epN L) (TX (LF L)) (uidN L) (datN L) (flaN L) (octN L).length = true ∧ payL 2 (epN L) (TX (LF L)) (uidN L) (datN L) (flaN L) (octN L) = L := by
  simp only [ok2, Bool.and_eq_true, decide_eq_true_eq] at h
  refine ⟨h.2, ?_⟩
  obtain ⟨e0, _⟩ := unread h.1
  have e1 := text_read (ltLF hb) e0
  obtain ⟨e2, n2⟩ := unread e1
  obtain ⟨e3, n3⟩ := unread e2
  obtain ⟨e4, n4⟩ := unread e3
  obtain ⟨e5, n5⟩ := unread e4
  have f2 := bytesOf_num (got_lt (k := 1) (ltLD hb)) n2
  have f3 := bytesOf_num (got_lt (k := 6) (ltLU hb)) n3
  have f4 := bytesOf_num (got_lt (k := 4) (ltLA hb)) n4
  have f5 := bytesOf_num (got_lt (k := 4) (ltA hb)) n5
  have e := Option.some.inj e5
  simp only [payL, if_neg (show ¬ (2 : Int) = 1 by decide), if_true, Int.toNat_natCast]
  unfold epN uidN datN flaN octN
  rw [f2, f3, f4, f5]
  simpa using e.symm
theorem says3 (h : ok3 L = true) : formedB 3 (epN L) ByteArray.empty (uidN L) 0 0 0 = true ∧ payL 3 (epN L) ByteArray.empty (uidN L) 0 0 [] = L := by
  simp only [ok3, Bool.and_eq_true, decide_eq_true_eq] at h
  refine ⟨h.2, ?_⟩
  obtain ⟨e4, n4⟩ := unread h.1
  obtain ⟨e5, n5⟩ := unread e4
  have f4 := bytesOf_num (got_lt (k := 4) (ltLA hb)) n4
  have f5 := bytesOf_num (got_lt (k := 4) (ltA hb)) n5
  have e := Option.some.inj e5
  simp only [payL, if_neg (show ¬ (3 : Int) = 1 by decide), if_neg (show ¬ (3 : Int) = 2 by decide)]
  unfold epN uidN
  rw [f4, f5]
  simpa using e.symm
omit hb
theorem named_size {s : ByteArray} (h : named s = true) : s.size ≤ 60 := by
  simp only [named, nam.normOk, Bool.and_eq_true, decide_eq_true_eq] at h
  exact h.1.1
theorem text_back {s : ByteArray} (hs : s.size ≤ 60) (l : List Nat) : TX (some (txt s ++ l)) = s ∧ LT (some (txt s ++ l)) = some l := by
  have h1 : got 2 (some (txt s ++ l)) = bytesOf s.size 2 := by
    unfold txt
    rw [List.append_assoc]
    exact got_app (bytesOf_length _ _)
  have h2 : rest 2 (some (txt s ++ l)) = some (nums s ++ l) := by
    unfold txt
    rw [List.append_assoc]
    exact rest_app (bytesOf_length _ _)
  have h3 : numOf (bytesOf s.size 2) = s.size := numOf_bytes _ _ (by omega)
  unfold TX LT
  rw [h1, h2, h3, got_app (nums_length s), rest_app (nums_length s), strOf_nums]
  exact ⟨rfl, rfl⟩
theorem back1 {e u : Nat} {s : ByteArray} {d f : Int} {o : List Nat} (he : e < 4294967296) (h : formedB 1 e s u d f o.length = true) :
    ok1 (payL 1 e s u d f o) = true ∧ epN (payL 1 e s u d f o) = e ∧ TX (LA (payL 1 e s u d f o)) = s ∧ u = 0 ∧ d = 0 ∧ f = 0 ∧ o = [] := by
  have h0 := h
  simp only [formedB, emptyB, if_true, Bool.and_eq_true, decide_eq_true_eq] at h
  obtain ⟨h1, h2, rfl, rfl, rfl, h6⟩ := h
  obtain rfl := List.eq_nil_of_length_eq_zero h6
  have hA : LA (payL 1 e s 0 0 0 []) = some (txt s ++ []) := by
    simp only [payL, if_true, List.append_nil]
    exact rest_app (bytesOf_length _ _)
  have hE : epN (payL 1 e s 0 0 0 []) = e := by
    simp only [payL, if_true, epN]
    rw [got_app (bytesOf_length _ _)]
    exact numOf_bytes _ _ (by omega)
  obtain ⟨t1, t2⟩ := text_back (named_size h2) []
  refine ⟨?_, hE, by rw [hA, t1], rfl, rfl, rfl, rfl⟩
  simp only [ok1, hA, t2, hE, t1, decide_true, Bool.true_and]
  exact h0
theorem back2 {e u : Nat} {s : ByteArray} {d f : Int} {o : List Nat} (he : e < 4294967296) (hu : u < 4294967296) (h : formedB 2 e s u d f o.length = true) :
    ok2 (payL 2 e s u d f o) = true ∧ epN (payL 2 e s u d f o) = e ∧ TX (LF (payL 2 e s u d f o)) = s ∧ uidN (payL 2 e s u d f o) = u ∧ (datN (payL 2 e s u d f o) : Int) = d ∧ (flaN (payL 2 e s u d f o) : Int) = f ∧ octN (payL 2 e s u d f o) = o := by
  have h0 := h
  simp only [formedB, fitsB, if_neg (show ¬ (2 : Int) = 1 by decide), if_true, Bool.and_eq_true, decide_eq_true_eq] at h
  obtain ⟨h1, h2, h3, ⟨h4, h5⟩, ⟨h6, h7⟩, h8⟩ := h
  obtain ⟨d, rfl⟩ := Int.eq_ofNat_of_zero_le h4
  obtain ⟨f, rfl⟩ := Int.eq_ofNat_of_zero_le h6
  have hP : payL 2 e s u d f o = bytesOf e 4 ++ (bytesOf u 4 ++ (bytesOf d 6 ++ (bytesOf f 1 ++ (txt s ++ o)))) := by
    simp only [payL, if_neg (show ¬ (2 : Int) = 1 by decide), if_true, Int.toNat_natCast]
  rw [hP]
  have hA : LA (bytesOf e 4 ++ (bytesOf u 4 ++ (bytesOf d 6 ++ (bytesOf f 1 ++ (txt s ++ o))))) = some (bytesOf u 4 ++ (bytesOf d 6 ++ (bytesOf f 1 ++ (txt s ++ o)))) := rest_app (bytesOf_length _ _)
  have hU : LU (bytesOf e 4 ++ (bytesOf u 4 ++ (bytesOf d 6 ++ (bytesOf f 1 ++ (txt s ++ o))))) = some (bytesOf d 6 ++ (bytesOf f 1 ++ (txt s ++ o))) := by unfold LU; rw [hA]; exact rest_app (bytesOf_length _ _)
  have hD : LD (bytesOf e 4 ++ (bytesOf u 4 ++ (bytesOf d 6 ++ (bytesOf f 1 ++ (txt s ++ o))))) = some (bytesOf f 1 ++ (txt s ++ o)) := by unfold LD; rw [hU]; exact rest_app (bytesOf_length _ _)
  have hF : LF (bytesOf e 4 ++ (bytesOf u 4 ++ (bytesOf d 6 ++ (bytesOf f 1 ++ (txt s ++ o))))) = some (txt s ++ o) := by unfold LF; rw [hD]; exact rest_app (bytesOf_length _ _)
  obtain ⟨t1, t2⟩ := text_back (named_size h2) o
  have e1 : epN (bytesOf e 4 ++ (bytesOf u 4 ++ (bytesOf d 6 ++ (bytesOf f 1 ++ (txt s ++ o))))) = e := by
    unfold epN; rw [got_app (bytesOf_length _ _)]; exact numOf_bytes _ _ (by omega)
  have e2 : uidN (bytesOf e 4 ++ (bytesOf u 4 ++ (bytesOf d 6 ++ (bytesOf f 1 ++ (txt s ++ o))))) = u := by
    unfold uidN; rw [hA, got_app (bytesOf_length _ _)]; exact numOf_bytes _ _ (by omega)
  have e3 : datN (bytesOf e 4 ++ (bytesOf u 4 ++ (bytesOf d 6 ++ (bytesOf f 1 ++ (txt s ++ o))))) = d := by
    unfold datN; rw [hU, got_app (bytesOf_length _ _)]; exact numOf_bytes _ _ (by omega)
  have e4 : flaN (bytesOf e 4 ++ (bytesOf u 4 ++ (bytesOf d 6 ++ (bytesOf f 1 ++ (txt s ++ o))))) = f := by
    unfold flaN; rw [hD, got_app (bytesOf_length _ _)]; exact numOf_bytes _ _ (by omega)
  have e5 : octN (bytesOf e 4 ++ (bytesOf u 4 ++ (bytesOf d 6 ++ (bytesOf f 1 ++ (txt s ++ o))))) = o := by
    unfold octN; rw [hF, t2]; simp [got, leftN]
  have e6 : LO (bytesOf e 4 ++ (bytesOf u 4 ++ (bytesOf d 6 ++ (bytesOf f 1 ++ (txt s ++ o))))) = some [] := by
    unfold LO; rw [hF, t2]; simp [rest, leftN]
  refine ⟨?_, e1, by rw [hF, t1], e2, by rw [e3], by rw [e4], e5⟩
  unfold ok2
  rw [e1, e2, e3, e4, e5, e6, hF, t1]
  simp only [decide_true, Bool.true_and]
  exact h0
theorem back3 {e u : Nat} {s : ByteArray} {d f : Int} {o : List Nat} (he : e < 4294967296) (hu : u < 4294967296) (h : formedB 3 e s u d f o.length = true) :
    ok3 (payL 3 e s u d f o) = true ∧ epN (payL 3 e s u d f o) = e ∧ uidN (payL 3 e s u d f o) = u ∧ s = ByteArray.empty ∧ d = 0 ∧ f = 0 ∧ o = [] := by
  have h0 := h
  simp only [formedB, emptyB, if_neg (show ¬ (3 : Int) = 1 by decide), if_neg (show ¬ (3 : Int) = 2 by decide), if_true, Bool.and_eq_true, decide_eq_true_eq] at h
  obtain ⟨h1, h2, h3, rfl, rfl, h6⟩ := h
  obtain rfl := List.eq_nil_of_length_eq_zero h6
  obtain rfl : s = ByteArray.empty := by
    cases s with
    | mk a => exact congrArg ByteArray.mk (Array.eq_empty_of_size_eq_zero h2)
  have hP : payL 3 e ByteArray.empty u 0 0 [] = bytesOf e 4 ++ (bytesOf u 4 ++ []) := by
    simp only [payL, if_neg (show ¬ (3 : Int) = 1 by decide), if_neg (show ¬ (3 : Int) = 2 by decide), List.append_nil]
  rw [hP]
  have hA : LA (bytesOf e 4 ++ (bytesOf u 4 ++ [])) = some (bytesOf u 4 ++ []) := rest_app (bytesOf_length _ _)
  have hU : LU (bytesOf e 4 ++ (bytesOf u 4 ++ [])) = some [] := by unfold LU; rw [hA]; exact rest_app (bytesOf_length _ _)
  have e1 : epN (bytesOf e 4 ++ (bytesOf u 4 ++ [])) = e := by
    unfold epN; rw [got_app (bytesOf_length _ _)]; exact numOf_bytes _ _ (by omega)
  have e2 : uidN (bytesOf e 4 ++ (bytesOf u 4 ++ [])) = u := by
    unfold uidN; rw [hA, got_app (bytesOf_length _ _)]; exact numOf_bytes _ _ (by omega)
  refine ⟨?_, e1, e2, rfl, rfl, rfl, rfl⟩
  unfold ok3
  rw [e1, e2, hU]
  simp only [decide_true, Bool.true_and]
  exact h0
theorem payL_lt {k : Int} {e u : Nat} {s : ByteArray} {d f : Int} {o : List Nat} (ho : ∀ b ∈ o, b < 256) : ∀ b ∈ payL k e s u d f o, b < 256 := by
  have ht : ∀ b ∈ txt s, b < 256 := codec.all_lt (bytesOf_lt _ _) (nums_lt s)
  unfold payL
  split
  · exact codec.all_lt (bytesOf_lt _ _) ht
  · split
    · exact codec.all_lt (bytesOf_lt _ _) (codec.all_lt (bytesOf_lt _ _) (codec.all_lt (bytesOf_lt _ _) (codec.all_lt (bytesOf_lt _ _) (codec.all_lt ht ho))))
    · exact codec.all_lt (bytesOf_lt _ _) (bytesOf_lt _ _)
theorem txt_length (s : ByteArray) : (txt s).length = 2 + s.size := by simp [txt, bytesOf_length, nums_length]
theorem payL_length {k : Int} {e u : Nat} {s : ByteArray} {d f : Int} {o : List Nat} (h : formedB k e s u d f o.length = true) : (payL k e s u d f o).length ≤ 20077 := by
  unfold formedB at h
  unfold payL
  split at h
  · rename_i hk
    simp only [Bool.and_eq_true] at h
    have := named_size h.2.1
    rw [if_pos hk, List.length_append, bytesOf_length, txt_length]
    omega
  · rename_i hk
    rw [if_neg hk]
    split at h
    · rename_i hk2
      simp only [fitsB, Bool.and_eq_true, decide_eq_true_eq] at h
      have := named_size h.2.1
      rw [if_pos hk2]
      simp only [List.length_append, bytesOf_length, txt_length]
      omega
    · rename_i hk2
      rw [if_neg hk2]
      simp [bytesOf_length]
end Go.Proofs.YtfmdhcjniikfdaaGreatDoor.bod
/- Logs: what notes, one behind the other, say: plain mathematics. -/
namespace Go.Proofs.YtfmdhcjniikfdaaGreatDoor.lg
open Go.Proofs.YtfmdhcjniikfdaaGreatDoor.bod (formedB payL named fitsB emptyB named_size ok1 ok2 ok3 epN uidN datN flaN octN LA LF TX says1 says2 says3 back1 back2 back3 ep_lt uid_lt)
set_option linter.unusedVariables false
set_option linter.unusedSimpArgs false

/-- A note. -/
structure Nt where
  k : Nat
  e : Nat
  s : ByteArray
  u : Nat
  d : Int
  f : Int
  o : List Nat
def Nt.ok (n : Nt) : Prop := formedB (n.k : Nat) n.e n.s n.u n.d n.f n.o.length = true ∧ n.e < 4294967296 ∧ n.u < 4294967296
def Nt.pay (n : Nt) : List Nat := payL (n.k : Nat) n.e n.s n.u n.d n.f n.o
theorem Nt.ok.parts {n : Nt} (h : n.ok) : 1 ≤ n.k ∧ n.k ≤ 3 ∧ (n.k = 1 → n.u = 0) ∧ (n.k ≠ 1 → 1 ≤ n.u) ∧ 1 ≤ n.e ∧ n.e < 4294967296 ∧ n.u < 4294967296 := by
  obtain ⟨h, he, hu⟩ := h
  unfold formedB at h
  split at h
  · simp only [Bool.and_eq_true, decide_eq_true_eq] at h
    omega
  · split at h
    · simp only [Bool.and_eq_true, decide_eq_true_eq] at h
      omega
    · split at h
      · simp only [Bool.and_eq_true, decide_eq_true_eq] at h
        omega
      · cases h
/-- What a record of a kind says. -/
def dec (k : Nat) (L : List Nat) : Option Nt :=
  if k = 1 then (if ok1 L = true then some ⟨1, epN L, TX (LA L), 0, 0, 0, []⟩ else none)
  else if k = 2 then (if ok2 L = true then some ⟨2, epN L, TX (LF L), uidN L, datN L, flaN L, octN L⟩ else none)
  else if k = 3 then (if ok3 L = true then some ⟨3, epN L, ByteArray.empty, uidN L, 0, 0, []⟩ else none)
  else none
theorem dec_ok {k : Nat} {L : List Nat} {n : Nt} (hb : ∀ b ∈ L, b < 256) (h : dec k L = some n) : n.ok ∧ n.k = k := by
  unfold dec at h
  split at h
  · rename_i hk
    split at h
    · rename_i ho
      cases h
      exact ⟨⟨(says1 hb ho).1, ep_lt hb, by show 0 < _; omega⟩, hk.symm⟩
    · cases h
  · split at h
    · rename_i hk
      split at h
      · rename_i ho
        cases h
        exact ⟨⟨(says2 hb ho).1, ep_lt hb, uid_lt hb⟩, hk.symm⟩
      · cases h
    · split at h
      · rename_i hk
        split at h
        · rename_i ho
          cases h
          exact ⟨⟨(says3 hb ho).1, ep_lt hb, uid_lt hb⟩, hk.symm⟩
        · cases h
      · cases h
theorem dec_back {n : Nt} (h : n.ok) : dec n.k n.pay = some n := by
  have hp := h.parts
  obtain ⟨k, e, s, u, d, f, o⟩ := n
  obtain ⟨hf, he, hu⟩ := h
  simp only [Nt.pay] at *
  by_cases h1 : k = 1
  · subst h1
    obtain ⟨k1, k2, k3, rfl, rfl, rfl, rfl⟩ := back1 he hf
    unfold dec
    rw [show ((1 : Nat) : Int) = 1 from rfl, if_pos rfl, if_pos k1]
    rw [k2, k3]
  · by_cases h2 : k = 2
    · subst h2
      obtain ⟨k1, k2, k3, k4, k5, k6, k7⟩ := back2 he hu hf
      unfold dec
      rw [show ((2 : Nat) : Int) = 2 from rfl, if_neg (by decide), if_pos rfl, if_pos k1]
      rw [k2, k3, k4, k5, k6, k7]
    · obtain rfl : k = 3 := by omega
      obtain ⟨k1, k2, k3, rfl, rfl, rfl, rfl⟩ := back3 he hu hf
      unfold dec
      rw [show ((3 : Nat) : Int) = 3 from rfl, if_neg (by decide), if_neg (by decide), if_pos rfl, if_pos k1]
      rw [k2, k3]

/-! What notes say. -/
def epo (l : List Nt) : Nat := l.foldl (fun a n => max a n.e) 0
def nmL (l : List Nt) : ByteArray := l.foldl (fun a n => if n.k = 3 then a else n.s) ByteArray.empty
def top (E : Nat) (l : List Nt) : Nat := l.foldl (fun a n => if n.e = E then max a n.u else a) 0
def nxt (g : Nat) : Nat := min g 4294967294 + 1
def rnx (E : Nat) (l : List Nt) : Nat := l.foldl (fun a n => if 1 < n.k ∧ n.e = E then max a (if n.u < 4294967295 then n.u + 1 else n.u) else a) 1
theorem epo_snoc (l : List Nt) (n : Nt) : epo (l ++ [n]) = max (epo l) n.e := by simp [epo]
theorem nmL_snoc (l : List Nt) (n : Nt) : nmL (l ++ [n]) = if n.k = 3 then nmL l else n.s := by simp [nmL]
theorem top_snoc (E : Nat) (l : List Nt) (n : Nt) : top E (l ++ [n]) = if n.e = E then max (top E l) n.u else top E l := by simp [top]
theorem rnx_snoc (E : Nat) (l : List Nt) (n : Nt) : rnx E (l ++ [n]) = if 1 < n.k ∧ n.e = E then max (rnx E l) (if n.u < 4294967295 then n.u + 1 else n.u) else rnx E l := by simp [rnx]
theorem take_next {α : Type} {l : List α} {i : Nat} {x : α} (h : l[i]? = some x) : l.take (i + 1) = l.take i ++ [x] := by
  rw [List.take_add_one, h]
  rfl
theorem epo_lt {l : List Nt} (h : ∀ n ∈ l, n.ok) : epo l < 4294967296 := by
  have : ∀ (l : List Nt) (a : Nat), a < 4294967296 → (∀ n ∈ l, n.ok) → l.foldl (fun a n => max a n.e) a < 4294967296 := by
    intro l
    induction l with
    | nil => intro a h _; exact h
    | cons n r ih =>
      intro a ha hl
      have := (hl n (by simp)).parts
      exact ih _ (by show max a n.e < _; omega) (fun m hm => hl m (by simp [hm]))
  exact this l 0 (by omega) h
theorem top_lt {E : Nat} {l : List Nt} (h : ∀ n ∈ l, n.ok) : top E l < 4294967296 := by
  have : ∀ (l : List Nt) (a : Nat), a < 4294967296 → (∀ n ∈ l, n.ok) → l.foldl (fun a n => if n.e = E then max a n.u else a) a < 4294967296 := by
    intro l
    induction l with
    | nil => intro a h _; exact h
    | cons n r ih =>
      intro a ha hl
      have := (hl n (by simp)).parts
      refine ih _ ?_ (fun m hm => hl m (by simp [hm]))
      simp only []
      split <;> omega
  exact this l 0 (by omega) h
theorem rnx_eq {E : Nat} {l : List Nt} (h : ∀ n ∈ l, n.ok) : rnx E l = nxt (top E l) := by
  have : ∀ (l : List Nt) (a : Nat), (∀ n ∈ l, n.ok) → l.foldl (fun a n => if 1 < n.k ∧ n.e = E then max a (if n.u < 4294967295 then n.u + 1 else n.u) else a) (nxt a) = nxt (l.foldl (fun a n => if n.e = E then max a n.u else a) a) := by
    intro l
    induction l with
    | nil => intro a _; rfl
    | cons n r ih =>
      intro a hl
      have hp := (hl n (by simp)).parts
      rw [List.foldl_cons, List.foldl_cons, ← ih _ (fun m hm => hl m (by simp [hm]))]
      congr 1
      unfold nxt
      by_cases hE : n.e = E
      · by_cases h1 : 1 < n.k
        · rw [if_pos ⟨h1, hE⟩, if_pos hE]
          split <;> omega
        · have := hp.2.2.1 (by omega)
          rw [if_neg (fun h => h1 h.1), if_pos hE]
          omega
      · rw [if_neg (fun h => hE h.2), if_neg hE]
  exact this l 0 h

/-! Which are live. -/
def gone (n : Nt) (r : List Nt) : Bool := decide (n.k ≠ 2) || r.any fun q => decide (q.k = 3 ∧ q.e = n.e ∧ q.u = n.u)
def livB (l : List Nt) (i : Nat) : Bool := match l[i]? with
  | some n => !gone n (l.drop (i + 1))
  | none => false
def pick {α : Type} (l : List α) (b : Nat → Bool) : Nat → List α
  | 0 => []
  | i + 1 => pick l b i ++ (if b i = true then (l[i]?).toList else [])
theorem pick_yes {α : Type} {l : List α} {b : Nat → Bool} {i : Nat} {x : α} (h : l[i]? = some x) (hb : b i = true) : pick l b (i + 1) = pick l b i ++ [x] := by
  rw [pick, if_pos hb, h]
  rfl
theorem pick_no {α : Type} {l : List α} {b : Nat → Bool} {i : Nat} (hb : b i = false) : pick l b (i + 1) = pick l b i := by
  rw [pick, if_neg (by rw [hb]; simp), List.append_nil]
theorem pick_map {α β : Type} (f : α → β) (l : List α) (b : Nat → Bool) : ∀ i, (pick l b i).map f = pick (l.map f) b i
  | 0 => rfl
  | i + 1 => by
    rw [pick, pick, List.map_append, pick_map f l b i]
    congr 1
    split
    · rw [List.getElem?_map]
      cases l[i]? <;> rfl
    · rfl
theorem pick_len {α : Type} (l : List α) (b : Nat → Bool) : ∀ i, (pick l b i).length ≤ i
  | 0 => Nat.le_refl _
  | i + 1 => by
    have := pick_len l b i
    rw [pick, List.length_append]
    have : (if b i = true then (l[i]?).toList else []).length ≤ 1 := by
      split
      · cases l[i]? <;> simp
      · simp
    omega
theorem pick_mem {α : Type} {l : List α} {b : Nat → Bool} {x : α} : ∀ i, x ∈ pick l b i → x ∈ l
  | 0, h => by cases h
  | i + 1, h => by
    rw [pick] at h
    rcases List.mem_append.1 h with h | h
    · exact pick_mem i h
    · split at h
      · cases hx : l[i]? with
        | none => rw [hx] at h; cases h
        | some y =>
          rw [hx] at h
          simp at h
          subst h
          exact List.mem_of_getElem? hx
      · cases h
/-- All live messages. -/
def lives (l : List Nt) : List Nt := pick l (livB l) l.length
theorem lives_mem {l : List Nt} {n : Nt} (h : n ∈ lives l) : n ∈ l := pick_mem _ h

/-- The last UID, and whether all was clean till there. -/
def stp (E : Nat) (st : Nat × Bool) (n : Nt) : Nat × Bool := (n.u, st.2 && decide (n.e = E ∧ st.1 < n.u ∧ n.u < 4294967295))
def cl (E : Nat) (l : List Nt) : Nat × Bool := l.foldl (stp E) (0, true)
theorem cl_snoc (E : Nat) (l : List Nt) (n : Nt) : cl E (l ++ [n]) = stp E (cl E l) n := by simp [cl]
theorem cl_false {E : Nat} : ∀ (l : List Nt) (st : Nat × Bool), st.2 = false → (l.foldl (stp E) st).2 = false
  | [], st, h => h
  | n :: r, st, h => cl_false r _ (by simp [stp, h])
theorem cl_stop {E : Nat} {l : List Nt} {i : Nat} (h : (cl E (l.take i)).2 = false) : (cl E l).2 = false := by
  have e : cl E l = (l.drop i).foldl (stp E) (cl E (l.take i)) := by
    unfold cl
    rw [← List.foldl_append, List.take_append_drop]
  rw [e]
  exact cl_false _ _ h
theorem cl_lt {E : Nat} {l : List Nt} (h : ∀ n ∈ l, n.ok) : (cl E l).1 < 4294967296 := by
  have : ∀ (l : List Nt) (st : Nat × Bool), st.1 < 4294967296 → (∀ n ∈ l, n.ok) → (l.foldl (stp E) st).1 < 4294967296 := by
    intro l
    induction l with
    | nil => intro st h _; exact h
    | cons n r ih =>
      intro st hs hl
      exact ih _ (hl n (by simp)).2.2 (fun m hm => hl m (by simp [hm]))
  exact this l (0, true) (by show 0 < _; omega) h

/-! UIDs that are given anew. -/
def withU (n : Nt) (u : Nat) : Nt := { n with u := u }
def ru {α : Type} (f : α → Nat → α) (l : List α) : Nat → List α
  | 0 => l
  | i + 1 => (ru f l i).modify i (fun x => f x (i + 1))
theorem ru_at {α : Type} (f : α → Nat → α) (l : List α) : ∀ i j, (ru f l i)[j]? = if j < i then (l[j]?).map (fun x => f x (j + 1)) else l[j]?
  | 0, j => by simp [ru]
  | i + 1, j => by
    rw [ru, List.getElem?_modify, ru_at f l i j]
    by_cases h : i = j
    · subst h
      simp
    · by_cases h2 : j < i
      · simp [h, h2, show j < i + 1 by omega]
      · simp [h, h2, show ¬ j < i + 1 by omega]
theorem ru_len {α : Type} (f : α → Nat → α) (l : List α) : ∀ i, (ru f l i).length = l.length
  | 0 => rfl
  | i + 1 => by rw [ru, List.length_modify, ru_len f l i]
theorem ru_map {α β : Type} (f : α → Nat → α) (g : β → Nat → β) (m : α → β) (hm : ∀ x i, m (f x i) = g (m x) i) (l : List α) (i : Nat) : (ru f l i).map m = ru g (l.map m) i := by
  apply List.ext_getElem?
  intro j
  rw [List.getElem?_map, ru_at, ru_at, List.getElem?_map]
  split
  · cases l[j]? <;> simp [hm]
  · rfl
/-- The messages of the mailbox of notes. -/
def boxed (l : List Nt) : List Nt := if (cl (epo l) (lives l)).2 = true then lives l else ru withU (lives l) (lives l).length
def boxE (l : List Nt) : Nat := if (cl (epo l) (lives l)).2 = true then epo l else min (epo l) 4294967294 + 1
def boxX (l : List Nt) : Nat := if (cl (epo l) (lives l)).2 = true then nxt (top (epo l) l) else (lives l).length + 1

/-! Where it was said last that one is gone. -/
def lastG (l : List (Nt × Nat)) (e u : Nat) : Option Nat := l.foldl (fun a x => if x.1.k = 3 ∧ x.1.e = e ∧ x.1.u = u then some x.2 else a) none
theorem lastG_snoc (l : List (Nt × Nat)) (x : Nt × Nat) (e u : Nat) : lastG (l ++ [x]) e u = if x.1.k = 3 ∧ x.1.e = e ∧ x.1.u = u then some x.2 else lastG l e u := by simp [lastG]
theorem fold_none {e u : Nat} : ∀ (l : List (Nt × Nat)) (a : Option Nat), (∀ x ∈ l, ¬ (x.1.k = 3 ∧ x.1.e = e ∧ x.1.u = u)) → l.foldl (fun a x => if x.1.k = 3 ∧ x.1.e = e ∧ x.1.u = u then some x.2 else a) a = a
  | [], a, _ => rfl
  | x :: r, a, h => by
    rw [List.foldl_cons, if_neg (h x (by simp))]
    exact fold_none r a (fun y hy => h y (by simp [hy]))
theorem fold_some {e u : Nat} : ∀ (l : List (Nt × Nat)) (a : Option Nat), (∃ x ∈ l, x.1.k = 3 ∧ x.1.e = e ∧ x.1.u = u) → ∃ x ∈ l, l.foldl (fun a x => if x.1.k = 3 ∧ x.1.e = e ∧ x.1.u = u then some x.2 else a) a = some x.2
  | [], a, h => by obtain ⟨x, hx, _⟩ := h; cases hx
  | x :: r, a, h => by
    rw [List.foldl_cons]
    by_cases hr : ∃ y ∈ r, y.1.k = 3 ∧ y.1.e = e ∧ y.1.u = u
    · obtain ⟨y, hy, h2⟩ := fold_some r (if x.1.k = 3 ∧ x.1.e = e ∧ x.1.u = u then some x.2 else a) hr
      exact ⟨y, by simp [hy], h2⟩
    · rw [fold_none r _ (fun y hy h => hr ⟨y, hy, h⟩)]
      obtain ⟨y, hy, h2⟩ := h
      rcases List.mem_cons.1 hy with rfl | hy
      · exact ⟨y, by simp, by rw [if_pos h2]⟩
      · exact absurd ⟨y, hy, h2⟩ hr
theorem fold_where {e u : Nat} : ∀ (l : List (Nt × Nat)) (a : Option Nat) (v : Nat), l.foldl (fun a x => if x.1.k = 3 ∧ x.1.e = e ∧ x.1.u = u then some x.2 else a) a = some v → a = some v ∨ ∃ x ∈ l, x.2 = v
  | [], a, v, h => Or.inl h
  | x :: r, a, v, h => by
    rw [List.foldl_cons] at h
    rcases fold_where r _ v h with h | ⟨y, hy, h⟩
    · split at h
      · exact Or.inr ⟨x, by simp, Option.some.inj h⟩
      · exact Or.inl h
    · exact Or.inr ⟨y, by simp [hy], h⟩
/-- A message is live just if it wasn't said behind it that it is gone. -/
theorem live_at {l : List (Nt × Nat)} (hp : l.Pairwise (fun a b => a.2 < b.2)) {i : Nat} {x : Nt × Nat} (hx : l[i]? = some x) (h2 : x.1.k = 2) : livB (l.map Prod.fst) i = (match lastG l x.1.e x.1.u with
    | none => true
    | some p => decide (p < x.2)) := by
  have hi := (List.getElem?_eq_some_iff.1 hx).1
  have hsplit : l = l.take i ++ (x :: l.drop (i + 1)) := by
    conv => lhs; rw [← List.take_append_drop i l]
    rw [List.drop_eq_getElem_cons hi, (List.getElem?_eq_some_iff.1 hx).2]
  have hlt : ∀ y ∈ l.drop (i + 1), x.2 < y.2 := by
    rw [hsplit] at hp
    have := (List.pairwise_append.1 hp).2.1
    exact (List.pairwise_cons.1 this).1
  have hgt : ∀ y ∈ l.take i, y.2 < x.2 := by
    rw [hsplit] at hp
    have := (List.pairwise_append.1 hp).2.2
    exact fun y hy => this y hy x (by simp)
  have hB : livB (l.map Prod.fst) i = !((l.drop (i + 1)).any fun q => decide (q.1.k = 3 ∧ q.1.e = x.1.e ∧ q.1.u = x.1.u)) := by
    unfold livB gone
    rw [List.getElem?_map, hx]
    simp only [Option.map_some, h2, ne_eq, not_true_eq_false, decide_false, Bool.false_or]
    rw [← List.map_drop, List.any_map]
    rfl
  have hl : lastG l x.1.e x.1.u = (l.drop (i + 1)).foldl (fun a y => if y.1.k = 3 ∧ y.1.e = x.1.e ∧ y.1.u = x.1.u then some y.2 else a) (lastG (l.take i) x.1.e x.1.u) := by
    unfold lastG
    conv => lhs; rw [hsplit]
    rw [List.foldl_append, List.foldl_cons, if_neg (by omega)]
  rw [hB, hl]
  by_cases hr : ∃ y ∈ l.drop (i + 1), y.1.k = 3 ∧ y.1.e = x.1.e ∧ y.1.u = x.1.u
  · obtain ⟨y, hy, h3⟩ := fold_some (l.drop (i + 1)) (lastG (l.take i) x.1.e x.1.u) hr
    rw [h3]
    have := hlt y hy
    have ha : (l.drop (i + 1)).any (fun q => decide (q.1.k = 3 ∧ q.1.e = x.1.e ∧ q.1.u = x.1.u)) = true := by
      obtain ⟨z, hz, hzz⟩ := hr
      exact List.any_eq_true.2 ⟨z, hz, by simpa using hzz⟩
    rw [ha]
    simp
    omega
  · have hn : ∀ y ∈ l.drop (i + 1), ¬ (y.1.k = 3 ∧ y.1.e = x.1.e ∧ y.1.u = x.1.u) := fun y hy h => hr ⟨y, hy, h⟩
    rw [fold_none _ _ hn]
    have ha : (l.drop (i + 1)).any (fun q => decide (q.1.k = 3 ∧ q.1.e = x.1.e ∧ q.1.u = x.1.u)) = false := by
      rw [List.any_eq_false]
      intro y hy
      simpa using hn y hy
    rw [ha]
    cases hv : lastG (l.take i) x.1.e x.1.u with
    | none => rfl
    | some p =>
      rcases fold_where _ _ _ hv with h | ⟨y, hy, h⟩
      · cases h
      · have := hgt y hy
        simp
        omega
theorem live_not {l : List Nt} {i : Nat} {n : Nt} (hx : l[i]? = some n) (h2 : n.k ≠ 2) : livB l i = false := by
  unfold livB gone
  rw [hx]
  simp [h2]
end Go.Proofs.YtfmdhcjniikfdaaGreatDoor.lg
/- Sums of bytes as plain functions of numbers. -/
namespace Go.Proofs.YtfmdhcjniikfdaaGreatDoor.sumPlain

/-- A word turned to the right. -/
def rot (x n : Nat) : Nat := x / 2 ^ n ||| x * 2 ^ (32 - n) % 4294967296
def sm0 (x : Nat) : Nat := (rot x 7 ^^^ rot x 18) ^^^ x / 8
def sm1 (x : Nat) : Nat := (rot x 17 ^^^ rot x 19) ^^^ x / 1024
def bg0 (x : Nat) : Nat := (rot x 2 ^^^ rot x 13) ^^^ rot x 22
def bg1 (x : Nat) : Nat := (rot x 6 ^^^ rot x 11) ^^^ rot x 25
def chs (e f g : Nat) : Nat := (e &&& f) ^^^ ((4294967295 ^^^ e) &&& g)
def mjr (a b c : Nat) : Nat := ((a &&& b) ^^^ (a &&& c)) ^^^ (b &&& c)

/-- The word at place k of a block of bytes. -/
def word (g : Nat → Nat) (k : Nat) : Nat := g (4 * k) * 16777216 + g (4 * k + 1) * 65536 + g (4 * k + 2) * 256 + g (4 * k + 3)
/-- The next word of those that are there. -/
def next (l : List Nat) (k : Nat) : Nat := (l.getD (k - 16) 0 + sm0 (l.getD (k - 15) 0) + l.getD (k - 7) 0 + sm1 (l.getD (k - 2) 0)) % 4294967296
/-- The first words of a block. -/
def words (g : Nat → Nat) : Nat → List Nat
  | 0 => []
  | k + 1 => words g k ++ [if k < 16 then word g k else next (words g k) k]

/-- The words of the rounds. -/
def consts : List Nat := [1116352408, 1899447441, 3049323471, 3921009573, 961987163, 1508970993, 2453635748, 2870763221, 3624381080, 310598401, 607225278, 1426881987, 1925078388, 2162078206, 2614888103, 3248222580, 3835390401, 4022224774, 264347078, 604807628, 770255983, 1249150122, 1555081692, 1996064986, 2554220882, 2821834349, 2952996808, 3210313671, 3336571891, 3584528711, 113926993, 338241895, 666307205, 773529912, 1294757372, 1396182291, 1695183700, 1986661051, 2177026350, 2456956037, 2730485921, 2820302411, 3259730800, 3345764771, 3516065817, 3600352804, 4094571909, 275423344, 430227734, 506948616, 659060556, 883997877, 958139571, 1322822218, 1537002063, 1747873779, 1955562222, 2024104815, 2227730452, 2361852424, 2428436474, 2756734187, 3204031479, 3329325298]

/-- Eight words. -/
structure Eight where
  a : Nat
  b : Nat
  c : Nat
  d : Nat
  e : Nat
  f : Nat
  g : Nat
  h : Nat
def seed8 : Eight := ⟨1779033703, 3144134277, 1013904242, 2773480762, 1359893119, 2600822924, 528734635, 1541459225⟩
def low (s : Eight) (k w : Nat) : Nat := (s.h + bg1 s.e + chs s.e s.f s.g + k + w) % 4294967296
def high (s : Eight) : Nat := (bg0 s.a + mjr s.a s.b s.c) % 4294967296
def round (s : Eight) (k w : Nat) : Eight :=
  ⟨(low s k w + high s) % 4294967296, s.a, s.b, s.c, (s.d + low s k w) % 4294967296, s.e, s.f, s.g⟩
def rounds (ws : List Nat) (s : Eight) : Nat → Eight
  | 0 => s
  | k + 1 => round (rounds ws s k) (consts.getD k 0) (ws.getD k 0)
def Eight.add (s t : Eight) : Eight :=
  ⟨(s.a + t.a) % 4294967296, (s.b + t.b) % 4294967296, (s.c + t.c) % 4294967296, (s.d + t.d) % 4294967296, (s.e + t.e) % 4294967296, (s.f + t.f) % 4294967296, (s.g + t.g) % 4294967296, (s.h + t.h) % 4294967296⟩
def block (s : Eight) (g : Nat → Nat) : Eight := s.add (rounds (words g 64) s 64)
def Eight.Ok (s : Eight) : Prop := s.a < 4294967296 ∧ s.b < 4294967296 ∧ s.c < 4294967296 ∧ s.d < 4294967296 ∧ s.e < 4294967296 ∧ s.f < 4294967296 ∧ s.g < 4294967296 ∧ s.h < 4294967296

theorem xor_lt32 {a b : Nat} (ha : a < 4294967296) (hb : b < 4294967296) : a ^^^ b < 4294967296 := Nat.xor_lt_two_pow (n := 32) ha hb
theorem or_lt32 {a b : Nat} (ha : a < 4294967296) (hb : b < 4294967296) : a ||| b < 4294967296 := Nat.or_lt_two_pow (n := 32) ha hb
theorem and_lt32 {a b : Nat} (hb : b < 4294967296) : a &&& b < 4294967296 := Nat.and_lt_two_pow (n := 32) a hb
theorem div_lt32 {a : Nat} (k : Nat) (ha : a < 4294967296) : a / k < 4294967296 := Nat.lt_of_le_of_lt (Nat.div_le_self _ _) ha
theorem rot_lt {x : Nat} (n : Nat) (h : x < 4294967296) : rot x n < 4294967296 := or_lt32 (div_lt32 _ h) (Nat.mod_lt _ (by omega))
theorem sm0_lt {x : Nat} (h : x < 4294967296) : sm0 x < 4294967296 := xor_lt32 (xor_lt32 (rot_lt _ h) (rot_lt _ h)) (div_lt32 _ h)
theorem sm1_lt {x : Nat} (h : x < 4294967296) : sm1 x < 4294967296 := xor_lt32 (xor_lt32 (rot_lt _ h) (rot_lt _ h)) (div_lt32 _ h)
theorem bg0_lt {x : Nat} (h : x < 4294967296) : bg0 x < 4294967296 := xor_lt32 (xor_lt32 (rot_lt _ h) (rot_lt _ h)) (rot_lt _ h)
theorem bg1_lt {x : Nat} (h : x < 4294967296) : bg1 x < 4294967296 := xor_lt32 (xor_lt32 (rot_lt _ h) (rot_lt _ h)) (rot_lt _ h)
theorem chs_lt {e f g : Nat} (hf : f < 4294967296) (hg : g < 4294967296) : chs e f g < 4294967296 := xor_lt32 (and_lt32 hf) (and_lt32 hg)
theorem mjr_lt {a b c : Nat} (hb : b < 4294967296) (hc : c < 4294967296) : mjr a b c < 4294967296 := xor_lt32 (xor_lt32 (and_lt32 hb) (and_lt32 hc)) (and_lt32 hc)
theorem word_lt {g : Nat → Nat} (hg : ∀ i, g i < 256) (k : Nat) : word g k < 4294967296 := by
  have h0 := hg (4 * k)
  have h1 := hg (4 * k + 1)
  have h2 := hg (4 * k + 2)
  have h3 := hg (4 * k + 3)
  unfold word
  omega
theorem next_lt (l : List Nat) (k : Nat) : next l k < 4294967296 := Nat.mod_lt _ (by omega)
theorem words_len (g : Nat → Nat) : ∀ k, (words g k).length = k
  | 0 => rfl
  | k + 1 => by simp [words, words_len g k]
theorem words_lt {g : Nat → Nat} (hg : ∀ i, g i < 256) : ∀ k, ∀ x ∈ words g k, x < 4294967296
  | 0 => by simp [words]
  | k + 1 => by
    intro x hx
    rw [words, List.mem_append] at hx
    rcases hx with hx | hx
    · exact words_lt hg k x hx
    · simp only [List.mem_singleton] at hx
      subst hx
      split
      · exact word_lt hg k
      · exact next_lt _ _
theorem getD_lt {l : List Nat} (h : ∀ x ∈ l, x < 4294967296) (i : Nat) : l.getD i 0 < 4294967296 := by
  by_cases hi : i < l.length
  · have : l.getD i 0 = l[i] := by simp [List.getD, hi]
    rw [this]
    exact h _ (List.getElem_mem hi)
  · have : l.getD i 0 = 0 := by simp [List.getD, List.getElem?_eq_none (Nat.le_of_not_lt hi)]
    omega
theorem words_old (g : Nat → Nat) (k i : Nat) (h : i < k) : (words g (k + 1)).getD i 0 = (words g k).getD i 0 := by
  have := words_len g k
  simp [words, List.getD, List.getElem?_append, this, h]
theorem words_new (g : Nat → Nat) (k : Nat) : (words g (k + 1)).getD k 0 = if k < 16 then word g k else next (words g k) k := by
  have := words_len g k
  simp [words, List.getD, this]
theorem low_lt (s : Eight) (k w : Nat) : low s k w < 4294967296 := Nat.mod_lt _ (by omega)
theorem high_lt (s : Eight) : high s < 4294967296 := Nat.mod_lt _ (by omega)
theorem round_ok {s : Eight} (h : s.Ok) (k w : Nat) : (round s k w).Ok := by
  obtain ⟨h1, h2, h3, h4, h5, h6, h7, h8⟩ := h
  exact ⟨Nat.mod_lt _ (by omega), h1, h2, h3, Nat.mod_lt _ (by omega), h5, h6, h7⟩
theorem rounds_ok {s : Eight} (h : s.Ok) (ws : List Nat) : ∀ k, (rounds ws s k).Ok
  | 0 => h
  | k + 1 => round_ok (rounds_ok h ws k) _ _
theorem add_ok (s t : Eight) : (s.add t).Ok := by
  refine ⟨?_, ?_, ?_, ?_, ?_, ?_, ?_, ?_⟩ <;> exact Nat.mod_lt _ (by omega)
/-- The word at a place. -/
def Eight.nth (s : Eight) : Nat → Nat
  | 0 => s.a
  | 1 => s.b
  | 2 => s.c
  | 3 => s.d
  | 4 => s.e
  | 5 => s.f
  | 6 => s.g
  | 7 => s.h
  | _ => 0
theorem nth_lt {s : Eight} (h : s.Ok) : ∀ i, s.nth i < 4294967296
  | 0 => h.1
  | 1 => h.2.1
  | 2 => h.2.2.1
  | 3 => h.2.2.2.1
  | 4 => h.2.2.2.2.1
  | 5 => h.2.2.2.2.2.1
  | 6 => h.2.2.2.2.2.2.1
  | 7 => h.2.2.2.2.2.2.2
  | _ + 8 => by simp [Eight.nth]
theorem add_nth (s t : Eight) : ∀ i, i < 8 → (s.add t).nth i = (s.nth i + t.nth i) % 4294967296
  | 0, _ => rfl
  | 1, _ => rfl
  | 2, _ => rfl
  | 3, _ => rfl
  | 4, _ => rfl
  | 5, _ => rfl
  | 6, _ => rfl
  | 7, _ => rfl
  | n + 8, h => by omega
end Go.Proofs.YtfmdhcjniikfdaaGreatDoor.sumPlain
/- What the parts of the digest answer. -/
namespace Go.Proofs.YtfmdhcjniikfdaaGreatDoor.sumDoor
open Go.ChangeShapes Go.WideShapes Go.ChangeAt Go.RowKit Go.Proofs.YtfmdhcjniikfdaaGreatDoor.sumPlain
set_option linter.unusedVariables false
set_option maxRecDepth 100000

theorem ret_int {k : IntKind} {a b : Int} (h : a = b) : Ending.returned (.int k a) = .returned (.int k b) := by rw [h]
theorem below_draws {B : Nat} {a w : World} (h : Below B a w) (n : Nat) : Below B a (w.drewN n) := ⟨h.os, h.tape, h.output, h.size, h.block⟩
/-- Eight words as a value. -/
def cells8 (k : IntKind) (s : Eight) : Array Value := #[.int k s.a, .int k s.b, .int k s.c, .int k s.d, .int k s.e, .int k s.f, .int k s.g, .int k s.h]
/-- Numbers as cells. -/
def cellsOf (k : IntKind) (l : List Nat) : Array Value := (l.map fun x => Value.int k (x : Nat)).toArray

/-- The slice reads as these bytes. -/
def Bytes (w : World) (A : Option Addr) (n : Nat) (l : List Nat) : Prop :=
  l.length = n ∧ (∀ b ∈ l, b < 256) ∧ (0 < n → ∃ b o, A = some ⟨b, o, none⟩ ∧ ∀ i, i < n → w.cell? ⟨b, o + i, none⟩ = some (.int .u8 (l.getD i 0 : Nat)))
theorem getD_lt256 {l : List Nat} (h : ∀ x ∈ l, x < 256) (i : Nat) : l.getD i 0 < 256 := by
  by_cases hi : i < l.length
  · have : l.getD i 0 = l[i] := by simp [List.getD, hi]
    rw [this]
    exact h _ (List.getElem_mem hi)
  · have : l.getD i 0 = 0 := by simp [List.getD, List.getElem?_eq_none (Nat.le_of_not_lt hi)]
    omega
theorem Bytes.lt {w : World} {A : Option Addr} {n : Nat} {l : List Nat} (h : Bytes w A n l) : ∀ ad, A = some ad → 0 < n → ad.block < w.heap.size := by
  rintro ad rfl hn
  obtain ⟨b, o, e, hc⟩ := h.2.2 hn
  cases e
  exact block_lt_of_cell (hc 0 hn)
theorem Bytes.below {w w' : World} {A : Option Addr} {n B : Nat} {l : List Nat} (h : Bytes w A n l) (hA : ∀ ad, A = some ad → 0 < n → ad.block < B) (hb : Below B w w') : Bytes w' A n l := by
  obtain ⟨h1, h2, h3⟩ := h
  refine ⟨h1, h2, fun hn => ?_⟩
  obtain ⟨b, o, rfl, hc⟩ := h3 hn
  refine ⟨b, o, rfl, fun i hi => ?_⟩
  exact (hb.cell (p := ⟨b, o + i, none⟩) (hA ⟨b, o, none⟩ rfl hn)).trans (hc i hi)
/-- One byte of them. -/
theorem Bytes.at_ {w : World} {b o n : Nat} {l : List Nat} (h : Bytes w (some ⟨b, o, none⟩) n l) (i : Nat) (hi : i < n) :
    ∃ x : Nat, l.getD i 0 = x ∧ x < 256 ∧ w.cell? ⟨b, o + i, none⟩ = some (.int .u8 (x : Nat)) := by
  obtain ⟨b', o', e, hc⟩ := h.2.2 (by omega)
  cases e
  exact ⟨_, rfl, getD_lt256 h.2.1 i, hc i hi⟩

theorem rot_i (x n : Nat) (hx : x < 4294967296) (h1 : 1 ≤ n) (hn : n ≤ 31) : bits .or .u32 ((x : Int) / 2 ^ n) ((x : Int) * 2 ^ (32 - n) % 4294967296) = ((rot x n : Nat) : Int) := by
  have := u32_or_nat (x / 2 ^ n) (x * 2 ^ (32 - n) % 4294967296) (div_lt32 _ hx) (Nat.mod_lt _ (by omega))
  unfold rot
  rw [← this]
  simp

theorem trn_i (x n : Nat) (hx : x < 4294967296) (h1 : 1 ≤ n) (hn : n ≤ 31) : bits .and .u64 (bits .or .u64 ((x : Int) / 2 ^ n) (IntKind.u64.wrap ((x : Int) * 2 ^ (32 - n)))) 4294967295 = ((rot x n : Nat) : Int) := by
  have hp : x * 2 ^ (32 - n) < 18446744073709551616 := by
    have h2 : 2 ^ (32 - n) ≤ 2 ^ 31 := Nat.pow_le_pow_right (by omega) (by omega)
    calc x * 2 ^ (32 - n) ≤ x * 2 ^ 31 := Nat.mul_le_mul_left _ h2
      _ < 18446744073709551616 := by omega
  have hw : IntKind.u64.wrap ((x : Int) * 2 ^ (32 - n)) = ((x * 2 ^ (32 - n) : Nat) : Int) := by
    have e : (x : Int) * 2 ^ (32 - n) = ((x * 2 ^ (32 - n) : Nat) : Int) := by simp
    rw [e]
    generalize x * 2 ^ (32 - n) = m at *
    simp only [IntKind.wrap, IntKind.bits, IntKind.signed]
    simp
    omega
  have hd : x / 2 ^ n < 18446744073709551616 := by have := div_lt32 (2 ^ n) hx; omega
  have ho : bits .or .u64 ((x : Int) / 2 ^ n) ((x * 2 ^ (32 - n) : Nat) : Int) = ((x / 2 ^ n ||| x * 2 ^ (32 - n) : Nat) : Int) := by
    have := u64_or_nat (x / 2 ^ n) (x * 2 ^ (32 - n)) hd hp
    rw [← this]
    simp
  rw [hw, ho]
  have h3 := u64_and_nat (x / 2 ^ n ||| x * 2 ^ (32 - n)) 4294967295 (Nat.or_lt_two_pow (n := 64) hd hp) (by omega)
  have h4 : bits .and .u64 ((x / 2 ^ n ||| x * 2 ^ (32 - n) : Nat) : Int) 4294967295 = ((x / 2 ^ n ||| x * 2 ^ (32 - n)) &&& 4294967295 : Nat) := h3
  rw [h4, nat_mask32]
  unfold rot
  have h5 : (x / 2 ^ n ||| x * 2 ^ (32 - n)) % 2 ^ 32 = (x / 2 ^ n % 2 ^ 32) ||| (x * 2 ^ (32 - n) % 2 ^ 32) := Nat.or_mod_two_pow
  have h6 : x / 2 ^ n % 2 ^ 32 = x / 2 ^ n := Nat.mod_eq_of_lt (div_lt32 _ hx)
  have h7 : (4294967296 : Nat) = 2 ^ 32 := by decide
  rw [h7, h5, h6]

set_option maxHeartbeats 400000 in
theorem rotated_any (w : World) (x n : Nat) (hx : x < 4294967296) (h1 : 1 ≤ n) (hn : n ≤ 31) :
    Calls Tryz.prog 77 #[.int .u32 x, .int .u64 n] w fun e w' => e = .returned (.int .u32 (rot x n : Nat)) ∧ w = w' := by
  have HR := Lib.hid (rot_i x n hx h1 hn)
  go_enter Tryz.func77, Tryz.ntmps77
  go_wp2
  go_ret
  exact ⟨ret_int HR.out, rfl⟩

theorem rotated_i (w : World) (x : Nat) (m : Int) (n : Nat) (hm : m = n) (hx : x < 4294967296) (h1 : 1 ≤ n) (hn : n ≤ 31) :
    Calls Tryz.prog 77 #[.int .u32 x, .int .u64 m] w fun e w' => e = .returned (.int .u32 (rot x n : Nat)) ∧ w = w' := by
  subst hm
  exact rotated_any w x n hx h1 hn

set_option maxHeartbeats 400000 in
theorem turned_any (w : World) (x n : Nat) (hx : x < 4294967296) (h1 : 1 ≤ n) (hn : n ≤ 31) :
    Calls Tryz.prog 63 #[.int .u64 x, .int .u64 n] w fun e w' => e = .returned (.int .u64 (rot x n : Nat)) ∧ w = w' := by
  have HR := Lib.hid (trn_i x n hx h1 hn)
  go_enter Tryz.func63, Tryz.ntmps63
  go_wp2
  go_ret
  exact ⟨ret_int HR.out, rfl⟩

theorem turned_i (w : World) (x : Nat) (m : Int) (n : Nat) (hm : m = n) (hx : x < 4294967296) (h1 : 1 ≤ n) (hn : n ≤ 31) :
    Calls Tryz.prog 63 #[.int .u64 x, .int .u64 m] w fun e w' => e = .returned (.int .u64 (rot x n : Nat)) ∧ w = w' := by
  subst hm
  exact turned_any w x n hx h1 hn

set_option maxHeartbeats 400000 in
theorem firstState_any (w : World) :
    Calls Tryz.prog 57 #[] w fun e w' => e = .returned (.agg (cells8 .u32 seed8)) ∧ Below w.heap.size w w' := by
  go_enter Tryz.func57, Tryz.ntmps57
  go_wp2
  exact bodyPost_ret (v := .agg (cells8 .u32 seed8)) (by simp [results, Tryz.results57, go_sem]; rfl) rfl ⟨rfl, (Below.refl _ _).alloc (Nat.le_refl _) _⟩

end Go.Proofs.YtfmdhcjniikfdaaGreatDoor.sumDoor
/- The words of a block. -/
namespace Go.Proofs.YtfmdhcjniikfdaaGreatDoor.sumDoor
open Go.ChangeShapes Go.WideShapes Go.ChangeAt Go.RowKit Go.Proofs.YtfmdhcjniikfdaaGreatDoor.sumPlain
set_option linter.unusedVariables false
set_option maxRecDepth 100000

theorem word_i (x0 x1 x2 x3 : Nat) (h0 : x0 < 256) (h1 : x1 < 256) (h2 : x2 < 256) (h3 : x3 < 256) :
    bits .or .u32 (bits .or .u32 (bits .or .u32 ((x0 : Int) * 16777216) ((x1 : Int) * 65536)) ((x2 : Int) * 256)) (x3 : Int) = ((x0 * 16777216 + x1 * 65536 + x2 * 256 + x3 : Nat) : Int) := by
  rw [show (x0 : Int) * 16777216 = ((x0 * 16777216 : Nat) : Int) by simp, show (x1 : Int) * 65536 = ((x1 * 65536 : Nat) : Int) by simp, show (x2 : Int) * 256 = ((x2 * 256 : Nat) : Int) by simp,
    u32_or_nat _ _ (by omega) (by omega), nat_join 24 _ _ (by omega) (by omega), u32_or_nat _ _ (by omega) (by omega), nat_join 16 _ _ (by omega) (by omega),
    u32_or_nat _ _ (by omega) (by omega), nat_join 8 _ _ (by omega) (by omega)]

theorem words_other (g : Nat → Nat) (k j : Nat) (h : j ≠ k) : (words g (k + 1)).getD j 0 = (words g k).getD j 0 := by
  have := words_len g k
  by_cases hj : j < k
  · exact words_old g k j hj
  · have h1 : (words g (k + 1)).length = k + 1 := words_len g (k + 1)
    simp [List.getD, List.getElem?_eq_none (show (words g (k + 1)).length ≤ j by omega), List.getElem?_eq_none (show (words g k).length ≤ j by omega)]

theorem row_step {wr : World} {N k : Nat} {kd : IntKind} {t : TypeId} {g : Nat → Nat} {v : Int} (h : wr.rowIs N t 64 (fun j => .int kd ((words g k).getD j 0 : Nat))) (hv : v = ((words g (k + 1)).getD k 0 : Nat)) :
    (wr.setCell ⟨N, k, none⟩ (.int kd v)).rowIs N t 64 (fun j => .int kd ((words g (k + 1)).getD j 0 : Nat)) := by
  refine (h.set k _).congr fun j hj => ?_
  by_cases e : j = k
  · subst e; simp only [if_true]; rw [hv]
  · simp only [if_neg e]; rw [words_other g k j e]

theorem cells_words {cs : Array Value} {kd : IntKind} {g : Nat → Nat} (hs : cs.size = 64) (h : ∀ i, i < 64 → cs[i]? = some (.int kd ((words g 64).getD i 0 : Nat))) : cs = cellsOf kd (words g 64) := by
  apply Array.ext_getElem?
  intro i
  have hl := words_len g 64
  by_cases hi : i < 64
  · rw [h i hi]
    simp [cellsOf, List.getD, hl, hi]
  · rw [Array.getElem?_eq_none (by omega)]
    rw [Array.getElem?_eq_none (by simp [cellsOf]; omega)]
theorem all_cells (kd : IntKind) (l : List Nat) : (cellsOf kd l).all (·.oneCell') = true := by
  rw [Array.all_eq_true_iff_forall_mem]
  intro v hv
  simp only [cellsOf, List.mem_toArray, List.mem_map] at hv
  obtain ⟨x, _, rfl⟩ := hv
  rfl
theorem row_new {w : World} {g : Nat} {t : TypeId} {cs cs' : Array Value} (h : w.heap[g]? = some (.cells cs t (0, 0))) : (w.setRow g cs').heap[g]? = some (.cells cs' t (0, 0)) := by
  simp [World.setRow, Array.getElem?_modify, h]
theorem below_setRow {B g : Nat} {a w : World} (h : Below B a w) (hg : B ≤ g) (cs : Array Value) : Below B a (w.setRow g cs) :=
  h.trans ⟨rfl, rfl, rfl, by simp, fun k hk => by simp only [World.setRow, Array.getElem?_modify]; rw [if_neg (by omega)]⟩
theorem row_rep (w : World) {N : Nat} (hN : N = w.heap.size) (v : Value) (t : TypeId) (n : Nat) : (w.alloc (.cells (Array.replicate n v) t)).rowIs N t n (fun _ => v) := by
  subst hN
  exact ⟨Array.replicate n v, heap_alloc_new _ _, by simp, fun i hi => by simp [hi]⟩
theorem sm0_i (x : Nat) (hx : x < 4294967296) : bits .xor .u32 (bits .xor .u32 ((rot x 7 : Nat) : Int) ((rot x 18 : Nat) : Int)) ((x : Int) / 8) = ((sm0 x : Nat) : Int) := by
  rw [u32_xor_nat _ _ (rot_lt 7 hx) (rot_lt 18 hx)]
  exact u32_xor_nat _ (x / 8) (xor_lt32 (rot_lt 7 hx) (rot_lt 18 hx)) (div_lt32 _ hx)
theorem sm1_i (x : Nat) (hx : x < 4294967296) : bits .xor .u32 (bits .xor .u32 ((rot x 17 : Nat) : Int) ((rot x 19 : Nat) : Int)) ((x : Int) / 1024) = ((sm1 x : Nat) : Int) := by
  rw [u32_xor_nat _ _ (rot_lt 17 hx) (rot_lt 19 hx)]
  exact u32_xor_nat _ (x / 1024) (xor_lt32 (rot_lt 17 hx) (rot_lt 19 hx)) (div_lt32 _ hx)

set_option maxHeartbeats 1000000 in
theorem scheduled_any (w : World) (b o n c : Nat) (l : List Nat) (hB : Bytes w (some ⟨b, o, none⟩) n l) (h64 : 64 ≤ n) (hn : n ≤ maxLen) :
    Calls Tryz.prog 59 #[.slice (some ⟨b, o, none⟩) n c] w fun e w' => e = .returned (.agg (cellsOf .u32 (words (fun i => l.getD i 0) 64))) ∧ Below w.heap.size w w' := by
  unfold maxLen at hn
  have HB := Lib.hid hB
  have hL : b < w.heap.size := hB.lt _ rfl (by omega)
  clear hB
  go_enter Tryz.func59, Tryz.ntmps59
  go_wp2
  go_loopw [4, 8] (fun _ i wr => ∃ k : Nat, k ≤ 16 ∧ i = .int .i64 k ∧ wr.rowIs (w.heap.size + 1) 118 64 (fun j => .int .u32 ((words (fun i => l.getD i 0) k).getD j 0 : Nat)) ∧ wr.rowIs w.heap.size 118 64 (fun _ => .int .u32 0) ∧ Below w.heap.size w wr) (fun _ i _ => 16 - (intOf i).toNat)
  case atStart =>
    refine ⟨0, by omega, rfl, ?_, ?_, ?_⟩
    · exact row_rep (w.alloc _) (by simp) (.int .u32 0) 118 64
    · exact (row_rep w rfl (.int .u32 0) 118 64).alloc _
    · exact ((Below.refl _ _).alloc (Nat.le_refl _) _).alloc (by simp) _
  case round =>
    obtain ⟨k, hk, rfl, hr1, hr0, hbel⟩ := hrel
    by_cases hlt : k < 16
    · have hB' : Bytes wr (some ⟨b, o, none⟩) n l := HB.out.below (fun ad' e _ => by cases e; exact hL) hbel
      obtain ⟨x0, E0, y0, c0⟩ := hB'.at_ (4 * k) (by omega)
      obtain ⟨x1, E1, y1, c1⟩ := hB'.at_ (4 * k + 1) (by omega)
      obtain ⟨x2, E2, y2, c2⟩ := hB'.at_ (4 * k + 2) (by omega)
      obtain ⟨x3, E3, y3, c3⟩ := hB'.at_ (4 * k + 3) (by omega)
      have HW : Hid (word (fun i => l.getD i 0) k = x0 * 16777216 + x1 * 65536 + x2 * 256 + x3) := by
        rw [← E0, ← E1, ← E2, ← E3]
        exact rfl
      have HI := Lib.hid (word_i x0 x1 x2 x3 y0 y1 y2 y3)
      clear E0 E1 E2 E3 hB'
      have cw := hr1.cell (i := k) (by omega)
      have cf := hr1.frozen k
      have HR1 := Lib.hid hr1
      have HR0 := Lib.hid hr0
      have HBel := Lib.hid hbel
      clear hr1 hr0 hbel
      go_wp2
      have e0 : IntKind.i64.wrap (4 * (k : Int)) = 4 * (k : Int) := IntWalk.i64_in _ (by omega)
      have e1 : IntKind.i64.wrap (4 * (k : Int) + 1) = 4 * (k : Int) + 1 := IntWalk.i64_in _ (by omega)
      have e2 : IntKind.i64.wrap (4 * (k : Int) + 2) = 4 * (k : Int) + 2 := IntWalk.i64_in _ (by omega)
      have e3 : IntKind.i64.wrap (4 * (k : Int) + 3) = 4 * (k : Int) + 3 := IntWalk.i64_in _ (by omega)
      have t0 : (4 * (k : Int)).toNat = 4 * k := by omega
      have t1 : (4 * (k : Int) + 1).toNat = 4 * k + 1 := by omega
      have t2 : (4 * (k : Int) + 2).toNat = 4 * k + 2 := by omega
      have t3 : (4 * (k : Int) + 3).toNat = 4 * k + 3 := by omega
      have b0 : (0 : Int) ≤ 4 * (k : Int) := by omega
      have b1 : (0 : Int) ≤ 4 * (k : Int) + 1 := by omega
      have b2 : (0 : Int) ≤ 4 * (k : Int) + 2 := by omega
      have b3 : (0 : Int) ≤ 4 * (k : Int) + 3 := by omega
      have l0 : 4 * (k : Int) < n := by omega
      have l1 : 4 * (k : Int) + 1 < n := by omega
      have l2 : 4 * (k : Int) + 2 < n := by omega
      have l3 : 4 * (k : Int) + 3 < n := by omega
      have l4 : (k : Int) < 64 := by omega
      go_still_tail 35, (by kernel_rfl)
      clear e0 e1 e2 e3 t0 t1 t2 t3
      go_wp2
      go_roundw
      case rel =>
        refine ⟨k + 1, by omega, by go_num, World.rowIs.drew (row_step HR1.out ?_), World.rowIs.drew (HR0.out.setOther (by simp) _), Below.drew (HBel.out.setCell (by simp) _)⟩
        rw [words_new, if_pos hlt, HW.out]
        exact HI.out
      case measure => simp [intOf]; omega
    · obtain rfl : k = 16 := by omega
      have HR1 := Lib.hid hr1
      have HR0 := Lib.hid hr0
      have HBel := Lib.hid hbel
      clear hr1 hr0 hbel
      rw [show ((16 : Nat) : Int) = 16 from rfl]
      go_wp2
      go_loopw [5, 6, 7] (fun i _ _ wr => ∃ k : Nat, 16 ≤ k ∧ k ≤ 64 ∧ i = .int .i64 k ∧ wr.rowIs (w.heap.size + 1) 118 64 (fun j => .int .u32 ((words (fun i => l.getD i 0) k).getD j 0 : Nat)) ∧ wr.rowIs w.heap.size 118 64 (fun _ => .int .u32 0) ∧ Below w.heap.size w wr) (fun i _ _ _ => 64 - (intOf i).toNat)
      case atStart => exact ⟨16, by omega, by omega, rfl, HR1.out, HR0.out, HBel.out⟩
      case round =>
        obtain ⟨k, hk1, hk2, rfl, hr1, hr0, hbel⟩ := hrel
        by_cases hlt2 : k < 64
        · have hW := words_lt (fun i => getD_lt256 HB.out.2.1 i) k
          have c15 := hr1.cell (i := k - 15) (by omega)
          have c2 := hr1.cell (i := k - 2) (by omega)
          have c16 := hr1.cell (i := k - 16) (by omega)
          have c7 := hr1.cell (i := k - 7) (by omega)
          have ck := hr1.cell (i := k) (by omega)
          have cf := hr1.frozen k
          have y15 := getD_lt hW (k - 15)
          have y2 := getD_lt hW (k - 2)
          have y16 := getD_lt hW (k - 16)
          have y7 := getD_lt hW (k - 7)
          have HN : Hid ((words (fun i => l.getD i 0) (k + 1)).getD k 0 = next (words (fun i => l.getD i 0) k) k) := by
            rw [words_new, if_neg (by omega)]; exact rfl
          unfold next at HN
          have HR1 := Lib.hid hr1
          have HR0 := Lib.hid hr0
          have HBel := Lib.hid hbel
          clear hr1 hr0 hbel hW
          generalize (words (fun i => l.getD i 0) k).getD (k - 15) 0 = x15 at *
          generalize (words (fun i => l.getD i 0) k).getD (k - 2) 0 = x2 at *
          generalize (words (fun i => l.getD i 0) k).getD (k - 16) 0 = x16 at *
          generalize (words (fun i => l.getD i 0) k).getD (k - 7) 0 = x7 at *
          have H15 := Lib.hid (sm0_i x15 y15)
          have H2 := Lib.hid (sm1_i x2 y2)
          go_wp2
          have e15 : IntKind.i64.wrap ((k : Int) - 15) = (k : Int) - 15 := IntWalk.i64_in _ (by omega)
          have e2 : IntKind.i64.wrap ((k : Int) - 2) = (k : Int) - 2 := IntWalk.i64_in _ (by omega)
          have t15 : ((k : Int) - 15).toNat = k - 15 := by omega
          have t2 : ((k : Int) - 2).toNat = k - 2 := by omega
          have b15 : (0 : Int) ≤ (k : Int) - 15 := by omega
          have b2 : (0 : Int) ≤ (k : Int) - 2 := by omega
          have d15 : (15 : Int) ≤ (k : Int) := by omega
          have d2 : (2 : Int) ≤ (k : Int) := by omega
          have l15 : (k : Int) - 15 < 64 := by omega
          have l2 : (k : Int) - 2 < 64 := by omega
          go_quiet (fail)
          clear e15 e2 t15 t2
          go_wp2_with fail
          (with_reducible refine (rotated_i _ x15 7 7 rfl y15 (by omega) (by omega)).mono ?_)
          rintro e w' ⟨rfl, rfl⟩
          go_wp2_with fail
          (with_reducible refine (rotated_i _ x15 18 18 rfl y15 (by omega) (by omega)).mono ?_)
          rintro e w' ⟨rfl, rfl⟩
          go_wp2_with fail
          (with_reducible refine (rotated_i _ x2 17 17 rfl y2 (by omega) (by omega)).mono ?_)
          rintro e w' ⟨rfl, rfl⟩
          go_wp2_with fail
          (with_reducible refine (rotated_i _ x2 19 19 rfl y2 (by omega) (by omega)).mono ?_)
          rintro e w' ⟨rfl, rfl⟩
          go_wp2
          rw [H15.out, H2.out]
          have q16 : (wr.drewN nq).cell? ⟨w.heap.size + 1, k - 16, none⟩ = some (.int .u32 (x16 : Nat)) := c16
          have q7 : (wr.drewN nq).cell? ⟨w.heap.size + 1, k - 7, none⟩ = some (.int .u32 (x7 : Nat)) := c7
          have qk : (wr.drewN nq).cell? ⟨w.heap.size + 1, k, none⟩ = some (.int .u32 ((words (fun i => l.getD i 0) k).getD k 0 : Nat)) := ck
          have qf : (wr.drewN nq).frozen? ⟨w.heap.size + 1, k, none⟩ = false := cf
          have QR1 : Hid ((wr.drewN nq).rowIs (w.heap.size + 1) 118 64 (fun j => .int .u32 ((words (fun i => l.getD i 0) k).getD j 0 : Nat))) := HR1.out
          have QR0 : Hid ((wr.drewN nq).rowIs w.heap.size 118 64 (fun _ => .int .u32 0)) := HR0.out
          have QBel : Hid (Below w.heap.size w (wr.drewN nq)) := below_draws HBel.out nq
          clear c16 c7 ck cf c15 c2 HR1 HR0 HBel
          generalize wr.drewN nq = wq at *
          have z15 := sm0_lt y15
          have z2 := sm1_lt y2
          generalize sm0 x15 = s15 at *
          generalize sm1 x2 = s2 at *
          have e16 : IntKind.i64.wrap ((k : Int) - 16) = (k : Int) - 16 := IntWalk.i64_in _ (by omega)
          have e7 : IntKind.i64.wrap ((k : Int) - 7) = (k : Int) - 7 := IntWalk.i64_in _ (by omega)
          have t16 : ((k : Int) - 16).toNat = k - 16 := by omega
          have t7 : ((k : Int) - 7).toNat = k - 7 := by omega
          have b16 : (0 : Int) ≤ (k : Int) - 16 := by omega
          have b7 : (0 : Int) ≤ (k : Int) - 7 := by omega
          have d16 : (16 : Int) ≤ (k : Int) := by omega
          have d7 : (7 : Int) ≤ (k : Int) := by omega
          have l16 : (k : Int) - 16 < 64 := by omega
          have l7 : (k : Int) - 7 < 64 := by omega
          have lk : (k : Int) < 64 := by omega
          go_still_tail 15, (by kernel_rfl)
          clear e16 e7 t16 t7
          go_wp2
          go_roundw
          case rel =>
            refine ⟨k + 1, by omega, by omega, by go_num, World.rowIs.drew (row_step QR1.out ?_), World.rowIs.drew (QR0.out.setOther (by simp) _), Below.drew (QBel.out.setCell (by simp) _)⟩
            rw [HN.out]
            omega
          case measure => simp [intOf]; omega
        · obtain rfl : k = 64 := by omega
          obtain ⟨cs, hcs, hsz, hget⟩ := hr1
          obtain ⟨cz, hcz, hzz, _⟩ := hr0
          obtain rfl : cs = cellsOf .u32 (words (fun i => l.getD i 0) 64) := cells_words hsz hget
          have HBel := Lib.hid hbel
          have hall : (cellsOf .u32 (words (fun i => l.getD i 0) 64)).all (·.oneCell') = true := all_cells _ _
          have hsz' : cz.size = (cellsOf .u32 (words (fun i => l.getD i 0) 64)).size := by omega
          have hp : (Tryz.prog.info? 118).map (·.size) = some (cellsOf .u32 (words (fun i => l.getD i 0) 64)).size := by rw [hsz]; kernel_rfl
          have HCS := Lib.hid hcs
          have HCZ := Lib.hid hcz
          have HALL := Lib.hid hall
          have HSZ := Lib.hid hsz'
          have HP := Lib.hid hp
          clear hcs hcz hall hsz' hp hget hsz hzz hbel
          go_wp2_with (first | (refine wpList_load_row rfl 118 (.tmp 3) rfl (w.heap.size + 1) rfl 118 _ (0, 0) _ HCS.out Tryz.underlying118 rfl HP.out ?_) | (refine wpList_store_row rfl 118 (.tmp 2) (.tmp 90) rfl w.heap.size _ rfl rfl 118 _ HCZ.out HP.out HSZ.out HALL.out ?_))
          refine bodyPost_ret (v := .agg (cellsOf .u32 (words (fun i => l.getD i 0) 64))) ?_ rfl ⟨rfl, ?_⟩
          · refine results_cell_row Tryz.results59 _ _ w.heap.size 118 _ (0, 0) _ rfl ?_ Tryz.underlying118 rfl HP.out
            exact row_new HCZ.out
          · exact below_setRow HBel.out (Nat.le_refl _) _
end Go.Proofs.YtfmdhcjniikfdaaGreatDoor.sumDoor
/- The rounds of a block. -/
namespace Go.Proofs.YtfmdhcjniikfdaaGreatDoor.sumDoor
open Go.ChangeShapes Go.WideShapes Go.ChangeAt Go.RowKit Go.Proofs.YtfmdhcjniikfdaaGreatDoor.sumPlain
set_option linter.unusedVariables false
set_option maxRecDepth 100000

/-- The words of the rounds are laid. -/
def Laid (w : World) : Prop := ∀ i, i < 64 → w.cell? ⟨0, i, none⟩ = some (.int .u32 (consts.getD i 0 : Nat))
theorem Laid.lt {w : World} (h : Laid w) : 0 < w.heap.size := block_lt_of_cell (h 0 (by omega))
theorem Laid.below {w w' : World} {B : Nat} (h : Laid w) (hB : 0 < B) (hb : Below B w w') : Laid w' := fun i hi => (hb.cell (p := ⟨0, i, none⟩) hB).trans (h i hi)

theorem rot_quiet (w : World) (q x : Nat) (m : Int) (n : Nat) (hm : m = n) (hx : x < 4294967296) (h1 : 1 ≤ n) (hn : n ≤ 31) :
    Calls Tryz.prog 77 #[.int .u32 x, .int .u64 m] (w.drewN q) fun e w'' => e = .returned (.int .u32 (rot x n : Nat)) ∧ ∃ r, w'' = w.drewN r :=
  (rotated_i (w.drewN q) x m n hm hx h1 hn).mono fun _ _ ⟨he, hw⟩ => ⟨he, q, hw.symm⟩

theorem start11 (w : World) (s : Eight) (ws : List Nat) (hw : ws.length = 64) (Z : Array Value) :
    (((w.alloc (.cells (cells8 .u32 s) 115)).alloc (.cells (cellsOf .u32 ws) 118)).alloc (.cells Z 115)).heap[w.heap.size]? = some (.cells (cells8 .u32 s) 115 (0, 0)) ∧
    (((w.alloc (.cells (cells8 .u32 s) 115)).alloc (.cells (cellsOf .u32 ws) 118)).alloc (.cells Z 115)).rowIs (w.heap.size + 1) 118 64 (fun j => .int .u32 (ws.getD j 0 : Nat)) ∧
    (((w.alloc (.cells (cells8 .u32 s) 115)).alloc (.cells (cellsOf .u32 ws) 118)).alloc (.cells Z 115)).heap[w.heap.size + 1 + 1]? = some (.cells Z 115 (0, 0)) ∧
    Below w.heap.size w (((w.alloc (.cells (cells8 .u32 s) 115)).alloc (.cells (cellsOf .u32 ws) 118)).alloc (.cells Z 115)) := by
  refine ⟨?_, ?_, ?_, ?_⟩
  · rw [Below.heap_alloc _ _ _ (by simp; omega), Below.heap_alloc _ _ _ (by simp)]
    exact heap_alloc_new _ _
  · refine World.rowIs.alloc ?_ _
    have := World.rowIs_alloc (w.alloc (.cells (cells8 .u32 s) 115)) (cellsOf .u32 ws) 118 (fun j => .int .u32 (ws.getD j 0 : Nat)) (fun i hi => by
      simp [cellsOf] at hi
      simp [cellsOf, List.getD, hi])
    have e1 : (cellsOf .u32 ws).size = 64 := by simp [cellsOf, hw]
    have e2 : (w.alloc (.cells (cells8 .u32 s) 115)).heap.size = w.heap.size + 1 := by simp
    rwa [e1, e2] at this
  · have := heap_alloc_new ((w.alloc (.cells (cells8 .u32 s) 115)).alloc (.cells (cellsOf .u32 ws) 118)) (.cells Z 115)
    simpa using this
  · exact (((Below.refl _ _).alloc (Nat.le_refl _) _).alloc (by simp) _).alloc (by simp; omega) _

/-- What lies in memory while a block is turned. -/
def Turn (w : World) (s : Eight) (ws : List Nat) (wr : World) : Prop :=
  wr.heap[w.heap.size]? = some (.cells (cells8 .u32 s) 115 (0, 0)) ∧ wr.rowIs (w.heap.size + 1) 118 64 (fun j => .int .u32 (ws.getD j 0 : Nat)) ∧
  wr.heap[w.heap.size + 1 + 1]? = some (.cells #[.int .u32 0, .int .u32 0, .int .u32 0, .int .u32 0, .int .u32 0, .int .u32 0, .int .u32 0, .int .u32 0] 115 (0, 0)) ∧ Below w.heap.size w wr ∧ Laid wr
theorem Turn.draws {w wr : World} {s : Eight} {ws : List Nat} (h : Turn w s ws wr) (n : Nat) : Turn w s ws (wr.drewN n) :=
  ⟨h.1, h.2.1, h.2.2.1, below_draws h.2.2.2.1 n, h.2.2.2.2⟩

theorem not_i (e : Nat) (he : e < 4294967296) : bits .xor .u32 IntKind.u32.max (e : Int) = ((4294967295 ^^^ e : Nat) : Int) := u32_xor_nat 4294967295 e (by omega) he
theorem chs_i (e f g : Nat) (he : e < 4294967296) (hf : f < 4294967296) (hg : g < 4294967296) :
    bits .xor .u32 (bits .and .u32 (e : Int) (f : Int)) (bits .and .u32 (bits .xor .u32 IntKind.u32.max (e : Int)) (g : Int)) = ((chs e f g : Nat) : Int) := by
  rw [not_i e he, u32_and_nat _ _ he hf, u32_and_nat _ _ (xor_lt32 (by omega) he) hg, u32_xor_nat _ _ (and_lt32 hf) (and_lt32 hg)]
  rfl
theorem mjr_i (a b c : Nat) (ha : a < 4294967296) (hb : b < 4294967296) (hc : c < 4294967296) :
    bits .xor .u32 (bits .xor .u32 (bits .and .u32 (a : Int) (b : Int)) (bits .and .u32 (a : Int) (c : Int))) (bits .and .u32 (b : Int) (c : Int)) = ((mjr a b c : Nat) : Int) := by
  rw [u32_and_nat _ _ ha hb, u32_and_nat _ _ ha hc, u32_and_nat _ _ hb hc, u32_xor_nat _ _ (and_lt32 hb) (and_lt32 hc), u32_xor_nat _ _ (xor_lt32 (and_lt32 hb) (and_lt32 hc)) (and_lt32 hc)]
  rfl
theorem bg0_i (x : Nat) (hx : x < 4294967296) : bits .xor .u32 (bits .xor .u32 ((rot x 2 : Nat) : Int) ((rot x 13 : Nat) : Int)) ((rot x 22 : Nat) : Int) = ((bg0 x : Nat) : Int) := by
  rw [u32_xor_nat _ _ (rot_lt 2 hx) (rot_lt 13 hx)]
  exact u32_xor_nat _ _ (xor_lt32 (rot_lt 2 hx) (rot_lt 13 hx)) (rot_lt 22 hx)
theorem bg1_i (x : Nat) (hx : x < 4294967296) : bits .xor .u32 (bits .xor .u32 ((rot x 6 : Nat) : Int) ((rot x 11 : Nat) : Int)) ((rot x 25 : Nat) : Int) = ((bg1 x : Nat) : Int) := by
  rw [u32_xor_nat _ _ (rot_lt 6 hx) (rot_lt 11 hx)]
  exact u32_xor_nat _ _ (xor_lt32 (rot_lt 6 hx) (rot_lt 11 hx)) (rot_lt 25 hx)

/-- The first k words are added. -/
def half (s t : Eight) (k j : Nat) : Nat := if j < k then (s.nth j + t.nth j) % 4294967296 else s.nth j
theorem get8 (kd : IntKind) (s : Eight) : ∀ i, i < 8 → (cells8 kd s)[i]? = some (.int kd (s.nth i : Nat))
  | 0, _ => rfl
  | 1, _ => rfl
  | 2, _ => rfl
  | 3, _ => rfl
  | 4, _ => rfl
  | 5, _ => rfl
  | 6, _ => rfl
  | 7, _ => rfl
  | n + 8, h => by omega
theorem size8 (s : Eight) : (Tryz.prog.info? 115).map (·.size) = some (cells8 .u32 s).size := by
  rw [show (cells8 .u32 s).size = 8 from rfl]
  kernel_rfl
theorem all8 (kd : IntKind) (s : Eight) : (cells8 kd s).all (·.oneCell') = true := by
  simp [cells8, Value.oneCell']
theorem row8 {w : World} {g : Nat} {t' : TypeId} {s t : Eight} (h : w.heap[g]? = some (.cells (cells8 .u32 s) t' (0, 0))) : w.rowIs g t' 8 (fun j => .int .u32 (half s t 0 j : Nat)) :=
  ⟨_, h, rfl, fun i hi => by rw [get8 _ s i hi]; simp [half]⟩
theorem index8 (w : World) (t : Eight) : ∀ k : Nat, k < 8 → (Instr.index 115 (.agg #[.int .u32 t.a, .int .u32 t.b, .int .u32 t.c, .int .u32 t.d, .int .u32 t.e, .int .u32 t.f, .int .u32 t.g, .int .u32 t.h]) (.int .i64 (k : Int))).run Tryz.prog w = .ok (.int .u32 (t.nth k : Nat)) w
  | 0, _ => by kernel_rfl
  | 1, _ => by kernel_rfl
  | 2, _ => by kernel_rfl
  | 3, _ => by kernel_rfl
  | 4, _ => by kernel_rfl
  | 5, _ => by kernel_rfl
  | 6, _ => by kernel_rfl
  | 7, _ => by kernel_rfl
  | n + 8, h => by omega
theorem half_step {wr : World} {N k : Nat} {t' : TypeId} {s t : Eight} {v : Int} (h : wr.rowIs N t' 8 (fun j => .int .u32 (half s t k j : Nat))) (hv : v = ((s.nth k + t.nth k) % 4294967296 : Nat)) :
    (wr.setCell ⟨N, k, none⟩ (.int .u32 v)).rowIs N t' 8 (fun j => .int .u32 (half s t (k + 1) j : Nat)) := by
  refine (h.set k _).congr fun j hj => ?_
  by_cases e : j = k
  · subst e; simp only [if_true]; rw [hv]; simp [half]
  · simp only [if_neg e]
    have : (j < k + 1) ↔ (j < k) := by omega
    simp [half, this]
theorem half_done {cs : Array Value} {s t : Eight} (hs : cs.size = 8) (h : ∀ i, i < 8 → cs[i]? = some (.int .u32 (half s t 8 i : Nat))) : cs = cells8 .u32 (s.add t) := by
  apply Array.ext_getElem?
  intro i
  by_cases hi : i < 8
  · rw [h i hi, get8 _ _ i hi, add_nth s t i hi]
    simp [half, hi]
  · rw [Array.getElem?_eq_none (by omega), Array.getElem?_eq_none (by simp [cells8]; omega)]

set_option maxRecDepth 100000 in
set_option maxHeartbeats 1000000 in
theorem turnedBlock_any (w : World) (s : Eight) (ws : List Nat) (hs : s.Ok) (hw : ws.length = 64) (hlt : ∀ x ∈ ws, x < 4294967296) (hL : Laid w) :
    Calls Tryz.prog 58 #[.agg (cells8 .u32 s), .agg (cellsOf .u32 ws)] w fun e w' => e = .returned (.agg (cells8 .u32 (s.add (rounds ws s 64)))) ∧ Below w.heap.size w w' := by
  have HL := Lib.hid hL
  have HT := Lib.hid hlt
  have HS := Lib.hid hs
  have hN : 0 < w.heap.size := hL.lt
  have F := Lib.hid (start11 w s ws hw #[.int .u32 0, .int .u32 0, .int .u32 0, .int .u32 0, .int .u32 0, .int .u32 0, .int .u32 0, .int .u32 0])
  clear hL hw hlt hs
  go_enter Tryz.func58, Tryz.ntmps58
  go_wp2
  generalize (((w.alloc (.cells (cells8 .u32 s) 115)).alloc (.cells (cellsOf .u32 ws) 118)).alloc (.cells #[.int .u32 0, .int .u32 0, .int .u32 0, .int .u32 0, .int .u32 0, .int .u32 0, .int .u32 0, .int .u32 0] 115)) = wz at *
  obtain ⟨f0, f1, f2, fB⟩ := F.out
  have LZ : Hid (Laid wz) := HL.out.below hN fB
  have c0 : wz.cell? ⟨w.heap.size, 0, none⟩ = some (.int .u32 s.a) := (cell_of_row _ _ _ _ _ _ f0)
  have c1 : wz.cell? ⟨w.heap.size, 1, none⟩ = some (.int .u32 s.b) := (cell_of_row _ _ _ _ _ _ f0)
  have c2 : wz.cell? ⟨w.heap.size, 2, none⟩ = some (.int .u32 s.c) := (cell_of_row _ _ _ _ _ _ f0)
  have c3 : wz.cell? ⟨w.heap.size, 3, none⟩ = some (.int .u32 s.d) := (cell_of_row _ _ _ _ _ _ f0)
  have c4 : wz.cell? ⟨w.heap.size, 4, none⟩ = some (.int .u32 s.e) := (cell_of_row _ _ _ _ _ _ f0)
  have c5 : wz.cell? ⟨w.heap.size, 5, none⟩ = some (.int .u32 s.f) := (cell_of_row _ _ _ _ _ _ f0)
  have c6 : wz.cell? ⟨w.heap.size, 6, none⟩ = some (.int .u32 s.g) := (cell_of_row _ _ _ _ _ _ f0)
  have c7 : wz.cell? ⟨w.heap.size, 7, none⟩ = some (.int .u32 s.h) := (cell_of_row _ _ _ _ _ _ f0)
  have HF : Hid (Turn w s ws wz) := ⟨f0, f1, f2, fB, LZ.out⟩
  clear f0 f1 f2 fB F HL LZ
  go_quiet (fail)
  go_wp2
  go_quiet (fail)
  clear c0 c1 c2 c3 c4 c5 c6 c7
  go_wp2
  rename_i nq1 _ nq2
  go_loopw [5, 6, 7, 8, 9, 10, 11, 12, 13, 14, 15, 16, 17, 36] (fun a b c d e f g h _ _ _ _ _ i wr => ∃ k : Nat, k ≤ 64 ∧ i = .int .i64 k ∧ a = .int .u32 (rounds ws s k).a ∧ b = .int .u32 (rounds ws s k).b ∧ c = .int .u32 (rounds ws s k).c ∧ d = .int .u32 (rounds ws s k).d ∧ e = .int .u32 (rounds ws s k).e ∧ f = .int .u32 (rounds ws s k).f ∧ g = .int .u32 (rounds ws s k).g ∧ h = .int .u32 (rounds ws s k).h ∧ Turn w s ws wr) (fun _ _ _ _ _ _ _ _ _ _ _ _ _ i _ => 64 - (intOf i).toNat)
  case atStart => exact ⟨0, by omega, rfl, rfl, rfl, rfl, rfl, rfl, rfl, rfl, rfl, (HF.out.draws _).draws _⟩
  case round =>
    obtain ⟨k, hk, rfl, rfl, rfl, rfl, rfl, rfl, rfl, rfl, rfl, hturn⟩ := hrel
    by_cases hlt : k < 64
    · obtain ⟨oa, ob, oc, od, oe, of, og, oh⟩ := rounds_ok HS.out ws k
      have HN : Hid (rounds ws s (k + 1) = round (rounds ws s k) (consts.getD k 0) (ws.getD k 0)) := rfl
      have ck := hturn.2.2.2.2 k hlt
      have cw := hturn.2.1.cell hlt
      have yw := getD_lt HT.out k
      have yk : consts.getD k 0 < 4294967296 := getD_lt (by decide) k
      have HF := Lib.hid hturn
      clear hturn
      generalize rounds ws s k = R at *
      generalize consts.getD k 0 = kk at *
      generalize ws.getD k 0 = ww at *
      obtain ⟨a, b, c, d, e, f, g, h⟩ := R
      simp only at oa ob oc od oe of og oh
      simp only
      have HCH := Lib.hid (chs_i e f g oe of og)
      have HMJ := Lib.hid (mjr_i a b c oa ob oc)
      have HB0 := Lib.hid (bg0_i a oa)
      have HB1 := Lib.hid (bg1_i e oe)
      have lk : (k : Int) < 64 := by omega
      go_wp2
      rw [HCH.out]
      go_quiet ((go_at_call 77; first | (with_reducible exact rot_quiet _ _ e 6 6 rfl oe (by omega) (by omega)) | (with_reducible exact rot_quiet _ _ e 11 11 rfl oe (by omega) (by omega)) | (with_reducible exact rot_quiet _ _ e 25 25 rfl oe (by omega) (by omega))))
      rw [HB1.out]
      have HFq : Hid (Turn w s ws (wr.drewN nq)) := HF.out.draws nq
      clear ck cw HF
      generalize wr.drewN nq = wq at *
      go_wp2_with fail
      (with_reducible refine (rotated_i _ a 2 2 rfl oa (by omega) (by omega)).mono ?_)
      rintro e w' ⟨rfl, rfl⟩
      go_wp2_with fail
      (with_reducible refine (rotated_i _ a 13 13 rfl oa (by omega) (by omega)).mono ?_)
      rintro e w' ⟨rfl, rfl⟩
      go_wp2_with fail
      (with_reducible refine (rotated_i _ a 22 22 rfl oa (by omega) (by omega)).mono ?_)
      rintro e w' ⟨rfl, rfl⟩
      rw [HMJ.out]
      go_wp2
      rw [HB0.out]
      go_roundw
      case rel => exact ⟨k + 1, by omega, by go_num, by rw [HN.out]; simp [round, low, high], by rw [HN.out]; rfl, by rw [HN.out]; rfl, by rw [HN.out]; rfl, by rw [HN.out]; simp [round, low], by rw [HN.out]; rfl, by rw [HN.out]; rfl, by rw [HN.out]; rfl, HFq.out⟩
      case measure => simp [intOf]; omega
    · obtain rfl : k = 64 := by omega
      have HF := Lib.hid hturn
      have HO := Lib.hid (rounds_ok HS.out ws 64)
      clear hturn
      obtain ⟨t, ht⟩ : ∃ t, t = rounds ws s 64 := ⟨_, rfl⟩
      rw [← ht] at HO
      rw [← ht]
      have HTT := Lib.hid ht
      clear ht
      rw [show ((64 : Nat) : Int) = 64 from rfl]
      go_wp2
      go_loopw [18, 19, 110] (fun _ _ i wr => ∃ k : Nat, k ≤ 8 ∧ i = .int .i64 k ∧ wr.rowIs w.heap.size 115 8 (fun j => .int .u32 (half s t k j : Nat)) ∧ wr.heap[w.heap.size + 1 + 1]? = some (.cells #[.int .u32 0, .int .u32 0, .int .u32 0, .int .u32 0, .int .u32 0, .int .u32 0, .int .u32 0, .int .u32 0] 115 (0, 0)) ∧ Below w.heap.size w wr) (fun _ _ i _ => 8 - (intOf i).toNat)
      case atStart => exact ⟨0, by omega, rfl, row8 HF.out.1, HF.out.2.2.1, HF.out.2.2.2.1⟩
      case round =>
        clear HF
        obtain ⟨k, hk, rfl, hr, hz, hbel⟩ := hrel
        by_cases hlt : k < 8
        · have hidx := fun w => index8 w t k hlt
          have hc := hr.cell hlt
          have hf := hr.frozen k
          have o1 := nth_lt HS.out k
          have o2 := nth_lt HO.out k
          have HR := Lib.hid hr
          have HZ := Lib.hid hz
          have HBel := Lib.hid hbel
          have HH : Hid (half s t k k = s.nth k) := by simp [half, Hid]
          rw [HH.out] at hc
          have lk : (k : Int) < 8 := by omega
          clear hr hz hbel
          go_wp2
          go_roundw
          case rel => exact ⟨k + 1, by omega, by go_num, half_step HR.out (by simp), (Below.heap_setCell _ _ _ _ (by simp; omega)).trans HZ.out, HBel.out.setCell (Nat.le_refl _) _⟩
          case measure => simp [intOf]; omega
        · obtain rfl : k = 8 := by omega
          obtain ⟨cs, hcs, hsz, hget⟩ := hr
          obtain rfl : cs = cells8 .u32 (s.add t) := half_done hsz hget
          have HCS := Lib.hid hcs
          have HCZ := Lib.hid hz
          have HBel := Lib.hid hbel
          have HP := Lib.hid (size8 (s.add t))
          have HA := Lib.hid (all8 .u32 (s.add t))
          clear hcs hz hbel hget hsz
          go_wp2_with (first | (refine wpList_load_row rfl 115 (.tmp 2) rfl w.heap.size rfl 115 _ (0, 0) _ HCS.out Tryz.underlying115 rfl HP.out ?_) | (refine wpList_store_row rfl 115 (.tmp 4) (.tmp 121) rfl (w.heap.size + 1 + 1) _ rfl rfl 115 _ HCZ.out HP.out rfl HA.out ?_))
          refine bodyPost_ret (v := .agg (cells8 .u32 (s.add t))) ?_ rfl ⟨by rw [HTT.out], ?_⟩
          · refine results_cell_row Tryz.results58 _ _ (w.heap.size + 1 + 1) 115 _ (0, 0) _ rfl ?_ Tryz.underlying115 rfl HP.out
            exact row_new HCZ.out
          · exact below_setRow HBel.out (by omega) _
end Go.Proofs.YtfmdhcjniikfdaaGreatDoor.sumDoor
/- The last blocks, and the bytes of a state. -/
namespace Go.Proofs.YtfmdhcjniikfdaaGreatDoor.sumDoor
open Go.ChangeShapes Go.WideShapes Go.ChangeAt Go.RowKit Go.Proofs.YtfmdhcjniikfdaaGreatDoor.sumPlain
set_option linter.unusedVariables false
set_option maxRecDepth 100000

/-- The rest, padded, with the last k bytes of its length. -/
def padTo (l : List Nat) (bs e k j : Nat) : Nat :=
  if e - k ≤ j ∧ j < e then bs / 2 ^ (8 * (e - 1 - j)) % 256 else if j < l.length then l.getD j 0 else if j = l.length then 128 else 0
def padEnd (n : Nat) : Nat := if 55 < n then 128 else 64
def padList (l : List Nat) (bs e : Nat) : List Nat := (List.range 128).map (padTo l bs e 8)

/-- A room of 128 zeros. -/
def room : List Value := List.replicate 128 (.int .u8 0)
theorem zero37 (w : World) : (zeroValue 120).run Tryz.prog w = .ok (.agg room.toArray) w := by kernel_rfl

/-- The rest stands in the room. -/
def laidIn (l : List Nat) (j : Nat) : Nat := if j < l.length then l.getD j 0 else 0
theorem copied {w1 : World} {g : Nat} {t : TypeId} {l : List Nat} (hn : l.length < 64) (h : w1.heap[g]? = some (.cells (splice room 0 (l.map fun x => Value.int .u8 (x : Nat))).toArray t (0, 0))) :
    w1.rowIs g t 128 (fun j => .int .u8 (laidIn l j : Nat)) := by
  have hr : room.length = 128 := by simp [room]
  refine ⟨_, h, ?_, fun i hi => ?_⟩
  · simp [splice, hr]
    omega
  · simp only [List.getElem?_toArray, splice, List.take_zero, List.nil_append, Nat.zero_add]
    rw [List.getElem?_append]
    by_cases hj : i < l.length
    · simp [hj, laidIn, List.getD]
    · simp only [List.length_map, if_neg hj]
      simp only [laidIn, if_neg hj]
      rw [List.getElem?_drop]
      unfold room
      rw [List.getElem?_replicate, if_pos (by omega)]
      rfl

theorem start13 (w : World) (A : Option Addr) (n : Nat) (l : List Nat) (hB : Bytes w A n l) (hn : n < 64) :
    ((w.alloc (.cells room.toArray 120)).alloc (.cells room.toArray 120)).heap[w.heap.size + 1]? = some (.cells room.toArray 120 (0, 0)) ∧
    (l.map fun x => Value.int .u8 (x : Nat)).length = Nat.min n 128 ∧
    (0 < (l.map fun x => Value.int .u8 (x : Nat)).length → some (Addr.mk (w.heap.size + 1) 0 none) = some ⟨w.heap.size + 1, 0, none⟩ ∧ ∃ ad, A = some ad ∧ ∀ j v, (l.map fun x => Value.int .u8 (x : Nat))[j]? = some v → ((w.alloc (.cells room.toArray 120)).alloc (.cells room.toArray 120)).cell? (ad.add j) = some v) ∧
    0 + (l.map fun x => Value.int .u8 (x : Nat)).length ≤ room.length ∧ (∀ v ∈ (l.map fun x => Value.int .u8 (x : Nat)), v.oneCell' = true) ∧
    ((w.alloc (.cells room.toArray 120)).alloc (.cells room.toArray 120)).heap[w.heap.size]? = some (.cells room.toArray 120 (0, 0)) ∧
    Below w.heap.size w ((w.alloc (.cells room.toArray 120)).alloc (.cells room.toArray 120)) := by
  have hbel : Below w.heap.size w ((w.alloc (.cells room.toArray 120)).alloc (.cells room.toArray 120)) := ((Below.refl _ _).alloc (Nat.le_refl _) _).alloc (by simp) _
  have hl := hB.1
  refine ⟨?_, ?_, ?_, ?_, ?_, ?_, hbel⟩
  · have := heap_alloc_new (w.alloc (.cells room.toArray 120)) (.cells room.toArray 120)
    simpa using this
  · rw [List.length_map, hl]
    exact (Nat.min_eq_left (by omega)).symm
  · intro h0
    refine ⟨rfl, ?_⟩
    have hB' := hB.below hB.lt hbel
    have hn0 : 0 < n := by simp at h0; omega
    obtain ⟨b, o, rfl, hc⟩ := hB'.2.2 hn0
    refine ⟨_, rfl, fun j v hv => ?_⟩
    have ha : (Addr.mk b o none).add j = ⟨b, o + j, none⟩ := by unfold Addr.add; split <;> simp_all
    rw [ha]
    simp only [List.getElem?_map, Option.map_eq_some_iff] at hv
    obtain ⟨x, hx, rfl⟩ := hv
    have hj : j < l.length := (List.getElem?_eq_some_iff.1 hx).1
    rw [hc j (by omega)]
    simp [List.getD, hx]
  · simp [room]
    omega
  · intro v hv
    obtain ⟨x, _, rfl⟩ := List.mem_map.1 hv
    rfl
  · rw [Below.heap_alloc _ _ _ (by simp)]
    exact heap_alloc_new _ _

theorem pad_start {w1 : World} {g n bs e : Nat} {t : TypeId} {l : List Nat} (hl : l.length = n) (hn : n < 64) (hE : n + 9 ≤ e) (h : w1.rowIs g t 128 (fun j => .int .u8 (laidIn l j : Nat))) :
    (w1.setCell ⟨g, n, none⟩ (.int .u8 128)).rowIs g t 128 (fun j => .int .u8 (padTo l bs e 0 j : Nat)) := by
  refine (h.set n _).congr fun j hj => ?_
  have h1 : ¬ (e - 0 ≤ j ∧ j < e) := by omega
  by_cases e1 : j = n
  · subst e1
    simp only [if_true, padTo, if_neg h1, hl]
    simp
  · simp only [if_neg e1, padTo, if_neg h1, laidIn, hl]
theorem pad_step {wr : World} {g n bs e k : Nat} {t : TypeId} {l : List Nat} {v : Int} {m : Nat} (hm : m = e - 1 - k) (hl : l.length = n) (hE : n + 9 ≤ e) (hk : k < 8) (hv : v = ((bs / 2 ^ (8 * k) % 256 : Nat) : Int)) (h : wr.rowIs g t 128 (fun j => .int .u8 (padTo l bs e k j : Nat))) :
    (wr.setCell ⟨g, m, none⟩ (.int .u8 v)).rowIs g t 128 (fun j => .int .u8 (padTo l bs e (k + 1) j : Nat)) := by
  subst hm
  refine (h.set _ _).congr fun j hj => ?_
  by_cases e1 : j = e - 1 - k
  · simp only [if_pos e1]
    have h1 : e - (k + 1) ≤ j ∧ j < e := by omega
    have h2 : e - 1 - j = k := by omega
    simp only [padTo, if_pos h1, h2, hv]
  · simp only [if_neg e1]
    have h1 : (e - (k + 1) ≤ j ∧ j < e) ↔ (e - k ≤ j ∧ j < e) := by omega
    simp only [padTo, h1]
theorem size128 (cs : Array Value) (h : cs.size = 128) : (Tryz.prog.info? 120).map (·.size) = some cs.size := by
  rw [h]
  kernel_rfl
theorem row_list {cs : Array Value} {kd : IntKind} {n : Nat} {f : Nat → Nat} (hs : cs.size = n) (h : ∀ i, i < n → cs[i]? = some (.int kd (f i : Nat))) : cs = cellsOf kd ((List.range n).map f) := by
  apply Array.ext_getElem?
  intro i
  by_cases hi : i < n
  · rw [h i hi]
    simp [cellsOf, hi]
  · rw [Array.getElem?_eq_none (by omega), Array.getElem?_eq_none (by simp [cellsOf]; omega)]

set_option maxRecDepth 100000 in
set_option maxHeartbeats 1000000 in
theorem lastBlocks_at (w : World) (A : Option Addr) (n c bs e : Nat) (l : List Nat) (hB : Bytes w A n l) (hn : n < 64) (hbs : bs < 18446744073709551616) (he : 55 < n ∧ e = 128 ∨ n ≤ 55 ∧ e = 64) :
    Calls Tryz.prog 60 #[.slice A n c, .int .u64 bs] w fun r w' => r = .returned (.tuple #[.agg (cellsOf .u8 (padList l bs e)), .int .i64 (e : Nat)]) ∧ Below w.heap.size w w' := by
  have HS := Lib.hid (start13 w A n l hB hn)
  have HL := Lib.hid hB.1
  have HU := Lib.hid (show (Tryz.prog.info? 5).map (·.size) = some 1 by kernel_rfl)
  clear hB
  have hz := zero37
  have hd : decide ((64 : Int) < (n : Int) + 1 + 8) = decide (55 < n) := by simp only [decide_eq_decide]; omega
  have hE : n + 9 ≤ e ∧ e ≤ 128 ∧ 64 ≤ e := by omega
  rcases he with ⟨h55, he⟩ | ⟨h55, he⟩
  · have hd' : decide ((64 : Int) < (n : Int) + 1 + 8) = true := by rw [hd]; simpa using h55
    clear hd
    subst he
    go_enter Tryz.func60, Tryz.ntmps60
    go_wp2_with (refine wpList_copy_splice rfl (.tmp 9) (.tmp 10) 22 22 rfl 5 Tryz.underlying22 HU.out _ _ _ _ _ _ rfl rfl (w.heap.size + 1) 0 room 120 HS.out.1 (l.map fun x => Value.int .u8 (x : Nat)) HS.out.2.1 HS.out.2.2.1 HS.out.2.2.2.1 HS.out.2.2.2.2.1 (w.heap.size + 1) _ (Below.refl _ _) (Nat.le_refl _) ?_; intro w1 hg1 hb1; have hr1 := copied (by rw [HL.out]; exact hn) hg1.out; have hc1 := hr1.cell (i := n) (by omega); have hf1 := hr1.frozen n; have HR1 := Lib.hid hr1; have HB1 := Lib.hid hb1; clear hb1 hr1 hg1)
    go_loopw [8, 22] (fun _ i wr => ∃ k : Nat, k ≤ 8 ∧ i = .int .i64 k ∧ wr.rowIs (w.heap.size + 1) 120 128 (fun j => .int .u8 (padTo l bs 128 k j : Nat)) ∧ wr.heap[w.heap.size]? = some (.cells room.toArray 120 (0, 0)) ∧ Below w.heap.size w wr) (fun _ i _ => 8 - (intOf i).toNat)
    case atStart =>
      refine ⟨0, by omega, rfl, pad_start HL.out hn (by omega) HR1.out, ?_, ?_⟩
      · rw [Below.heap_setCell _ _ _ _ (by simp), HB1.out.block _ (by omega)]
        exact HS.out.2.2.2.2.2.1
      · exact (HS.out.2.2.2.2.2.2.trans (HB1.out.mono (by omega))).setCell (by simp) _
    case round =>
      clear hc1 hf1 HB1 HR1 HS HU
      obtain ⟨k, hk, rfl, hr, hzz, hbel⟩ := hrel
      by_cases hlt : k < 8
      · have hc := hr.cell (i := 128 - 1 - k) (by omega)
        have hf := hr.frozen (128 - 1 - k)
        have HR := Lib.hid hr
        have HZ := Lib.hid hzz
        have HBel := Lib.hid hbel
        have lk : (k : Int) < 8 := by omega
        clear hr hzz hbel
        simp only [show 128 - 1 - k = 127 - k by omega] at hc hf
        go_wp2
        go_roundw
        case rel => exact ⟨k + 1, by omega, by go_num, pad_step (by omega) HL.out (by omega) hlt (by simp) HR.out, (Below.heap_setCell _ _ _ _ (by simp)).trans HZ.out, HBel.out.setCell (by simp) _⟩
        case measure => simp [intOf]; omega
      · obtain rfl : k = 8 := by omega
        obtain ⟨cs, hcs, hsz, hget⟩ := hr
        obtain rfl : cs = cellsOf .u8 (padList l bs 128) := row_list hsz hget
        have HCS := Lib.hid hcs
        have HCZ := Lib.hid hzz
        have HBel := Lib.hid hbel
        have HP := Lib.hid (size128 _ hsz)
        have HA := Lib.hid (all_cells .u8 (padList l bs 128))
        have HZ2 := Lib.hid (show room.toArray.size = (cellsOf .u8 (padList l bs 128)).size by rw [hsz]; simp [room])
        clear hcs hzz hbel hget hsz
        go_wp2_with (first | (refine wpList_load_row rfl 120 (.tmp 6) rfl (w.heap.size + 1) rfl 120 _ (0, 0) _ HCS.out Tryz.underlying120 rfl HP.out ?_) | (refine wpList_store_row rfl 120 (.tmp 4) (.tmp 36) rfl w.heap.size _ rfl rfl 120 _ HCZ.out HP.out HZ2.out HA.out ?_))
        have hld := run_loadVar_row (P := Tryz.prog) _ w.heap.size 120 120 _ (0, 0) _ (row_new (cs' := cellsOf .u8 (padList l bs 128)) HCZ.out) Tryz.underlying120 rfl HP.out
        refine bodyPost_ret (v := .tuple #[.agg (cellsOf .u8 (padList l bs 128)), .int .i64 ((128 : Nat) : Int)]) ?_ rfl ⟨rfl, ?_⟩
        · simp [results, Tryz.results60, asAddr, hld]
        · exact below_setRow HBel.out (Nat.le_refl _) _
  · have hd' : decide ((64 : Int) < (n : Int) + 1 + 8) = false := by rw [hd]; simp; omega
    clear hd
    subst he
    go_enter Tryz.func60, Tryz.ntmps60
    go_wp2_with (refine wpList_copy_splice rfl (.tmp 9) (.tmp 10) 22 22 rfl 5 Tryz.underlying22 HU.out _ _ _ _ _ _ rfl rfl (w.heap.size + 1) 0 room 120 HS.out.1 (l.map fun x => Value.int .u8 (x : Nat)) HS.out.2.1 HS.out.2.2.1 HS.out.2.2.2.1 HS.out.2.2.2.2.1 (w.heap.size + 1) _ (Below.refl _ _) (Nat.le_refl _) ?_; intro w1 hg1 hb1; have hr1 := copied (by rw [HL.out]; exact hn) hg1.out; have hc1 := hr1.cell (i := n) (by omega); have hf1 := hr1.frozen n; have HR1 := Lib.hid hr1; have HB1 := Lib.hid hb1; clear hb1 hr1 hg1)
    go_loopw [8, 22] (fun _ i wr => ∃ k : Nat, k ≤ 8 ∧ i = .int .i64 k ∧ wr.rowIs (w.heap.size + 1) 120 128 (fun j => .int .u8 (padTo l bs 64 k j : Nat)) ∧ wr.heap[w.heap.size]? = some (.cells room.toArray 120 (0, 0)) ∧ Below w.heap.size w wr) (fun _ i _ => 8 - (intOf i).toNat)
    case atStart =>
      refine ⟨0, by omega, rfl, pad_start HL.out hn (by omega) HR1.out, ?_, ?_⟩
      · rw [Below.heap_setCell _ _ _ _ (by simp), HB1.out.block _ (by omega)]
        exact HS.out.2.2.2.2.2.1
      · exact (HS.out.2.2.2.2.2.2.trans (HB1.out.mono (by omega))).setCell (by simp) _
    case round =>
      clear hc1 hf1 HB1 HR1 HS HU
      obtain ⟨k, hk, rfl, hr, hzz, hbel⟩ := hrel
      by_cases hlt : k < 8
      · have hc := hr.cell (i := 64 - 1 - k) (by omega)
        have hf := hr.frozen (64 - 1 - k)
        have HR := Lib.hid hr
        have HZ := Lib.hid hzz
        have HBel := Lib.hid hbel
        have lk : (k : Int) < 8 := by omega
        clear hr hzz hbel
        simp only [show 64 - 1 - k = 63 - k by omega] at hc hf
        go_wp2
        go_roundw
        case rel => exact ⟨k + 1, by omega, by go_num, pad_step (by omega) HL.out (by omega) hlt (by simp) HR.out, (Below.heap_setCell _ _ _ _ (by simp)).trans HZ.out, HBel.out.setCell (by simp) _⟩
        case measure => simp [intOf]; omega
      · obtain rfl : k = 8 := by omega
        obtain ⟨cs, hcs, hsz, hget⟩ := hr
        obtain rfl : cs = cellsOf .u8 (padList l bs 64) := row_list hsz hget
        have HCS := Lib.hid hcs
        have HCZ := Lib.hid hzz
        have HBel := Lib.hid hbel
        have HP := Lib.hid (size128 _ hsz)
        have HA := Lib.hid (all_cells .u8 (padList l bs 64))
        have HZ2 := Lib.hid (show room.toArray.size = (cellsOf .u8 (padList l bs 64)).size by rw [hsz]; simp [room])
        clear hcs hzz hbel hget hsz
        go_wp2_with (first | (refine wpList_load_row rfl 120 (.tmp 6) rfl (w.heap.size + 1) rfl 120 _ (0, 0) _ HCS.out Tryz.underlying120 rfl HP.out ?_) | (refine wpList_store_row rfl 120 (.tmp 4) (.tmp 36) rfl w.heap.size _ rfl rfl 120 _ HCZ.out HP.out HZ2.out HA.out ?_))
        have hld := run_loadVar_row (P := Tryz.prog) _ w.heap.size 120 120 _ (0, 0) _ (row_new (cs' := cellsOf .u8 (padList l bs 64)) HCZ.out) Tryz.underlying120 rfl HP.out
        refine bodyPost_ret (v := .tuple #[.agg (cellsOf .u8 (padList l bs 64)), .int .i64 ((64 : Nat) : Int)]) ?_ rfl ⟨rfl, ?_⟩
        · simp [results, Tryz.results60, asAddr, hld]
        · exact below_setRow HBel.out (Nat.le_refl _) _
theorem lastBlocks_any (w : World) (A : Option Addr) (n c bs : Nat) (l : List Nat) (hB : Bytes w A n l) (hn : n < 64) (hbs : bs < 18446744073709551616) :
    Calls Tryz.prog 60 #[.slice A n c, .int .u64 bs] w fun r w' => r = .returned (.tuple #[.agg (cellsOf .u8 (padList l bs (padEnd n))), .int .i64 (padEnd n : Nat)]) ∧ Below w.heap.size w w' :=
  lastBlocks_at w A n c bs (padEnd n) l hB hn hbs (by unfold padEnd; split <;> omega)
end Go.Proofs.YtfmdhcjniikfdaaGreatDoor.sumDoor
/- The bytes of a state. -/
namespace Go.Proofs.YtfmdhcjniikfdaaGreatDoor.sumDoor
open Go.ChangeShapes Go.WideShapes Go.ChangeAt Go.RowKit Go.Proofs.YtfmdhcjniikfdaaGreatDoor.sumPlain
set_option linter.unusedVariables false
set_option maxRecDepth 100000

/-- A byte of eight words. -/
def outByte (s : Eight) (j : Nat) : Nat := s.nth (j / 4) / 2 ^ (8 * (3 - j % 4)) % 256
def outTo (s : Eight) (k j : Nat) : Nat := if j < k then outByte s j else 0
def outList (s : Eight) : List Nat := (List.range 32).map (outByte s)
theorem index8' (w : World) (t : Eight) (k : Nat) (h : k < 8) : (Instr.index 115 (.agg (cells8 .u32 t)) (.int .i64 (k : Int))).run Tryz.prog w = .ok (.int .u32 (t.nth k : Nat)) w := index8 w t k h

theorem start14 (w : World) (cs Z : Array Value) (t u : TypeId) :
    (((w.alloc (.cells cs t)).alloc (.cells Z u)).alloc (.cells Z u)).heap[w.heap.size]? = some (.cells cs t (0, 0)) ∧
    (((w.alloc (.cells cs t)).alloc (.cells Z u)).alloc (.cells Z u)).heap[w.heap.size + 1]? = some (.cells Z u (0, 0)) ∧
    (((w.alloc (.cells cs t)).alloc (.cells Z u)).alloc (.cells Z u)).heap[w.heap.size + 1 + 1]? = some (.cells Z u (0, 0)) ∧
    Below w.heap.size w (((w.alloc (.cells cs t)).alloc (.cells Z u)).alloc (.cells Z u)) := by
  refine ⟨?_, ?_, ?_, ?_⟩
  · rw [Below.heap_alloc _ _ _ (by simp; omega), Below.heap_alloc _ _ _ (by simp)]
    exact heap_alloc_new _ _
  · rw [Below.heap_alloc _ _ _ (by simp)]
    have := heap_alloc_new (w.alloc (.cells cs t)) (.cells Z u)
    simpa using this
  · have := heap_alloc_new ((w.alloc (.cells cs t)).alloc (.cells Z u)) (.cells Z u)
    simpa using this
  · exact (((Below.refl _ _).alloc (Nat.le_refl _) _).alloc (by simp) _).alloc (by simp; omega) _
theorem rep_row {w : World} {g : Nat} {t : TypeId} {n : Nat} {v : Value} (h : w.heap[g]? = some (.cells (Array.replicate n v) t (0, 0))) : w.rowIs g t n (fun _ => v) :=
  ⟨_, h, by simp, fun i hi => by simp [hi]⟩
theorem out_start {w : World} {g : Nat} {t : TypeId} {s : Eight} (h : w.rowIs g t 32 (fun _ => .int .u8 0)) : w.rowIs g t 32 (fun j => .int .u8 (outTo s 0 j : Nat)) :=
  h.congr fun i _ => by simp [outTo]
theorem out_step {w : World} {g m : Nat} {t : TypeId} {s : Eight} {v : Int} (hv : v = (outByte s m : Nat)) (h : w.rowIs g t 32 (fun j => .int .u8 (outTo s m j : Nat))) : (w.setCell ⟨g, m, none⟩ (.int .u8 v)).rowIs g t 32 (fun j => .int .u8 (outTo s (m + 1) j : Nat)) := by
  refine (h.set _ _).congr fun j hj => ?_
  by_cases e : j = m
  · subst e
    simp [outTo, hv]
  · have : (j < m + 1) ↔ (j < m) := by omega
    simp [e, outTo, this]

theorem outByte0 (s : Eight) (k : Nat) (h : s.nth k < 4294967296) : outByte s (4 * k) = s.nth k / 16777216 := by
  unfold outByte
  rw [show 4 * k / 4 = k by omega, show 4 * k % 4 = 0 by omega]
  omega
theorem outByte1 (s : Eight) (k : Nat) : outByte s (4 * k + 1) = s.nth k / 65536 % 256 := by
  unfold outByte
  rw [show (4 * k + 1) / 4 = k by omega, show (4 * k + 1) % 4 = 1 by omega]
theorem outByte2 (s : Eight) (k : Nat) : outByte s (4 * k + 2) = s.nth k / 256 % 256 := by
  unfold outByte
  rw [show (4 * k + 2) / 4 = k by omega, show (4 * k + 2) % 4 = 2 by omega]
theorem outByte3 (s : Eight) (k : Nat) : outByte s (4 * k + 3) = s.nth k % 256 := by
  unfold outByte
  rw [show (4 * k + 3) / 4 = k by omega, show (4 * k + 3) % 4 = 3 by omega]
  simp
theorem size32 (cs : Array Value) (h : cs.size = 32) : (Tryz.prog.info? 80).map (·.size) = some cs.size := by
  rw [h]
  kernel_rfl

set_option maxRecDepth 100000 in
set_option maxHeartbeats 1000000 in
theorem told_any (w : World) (s : Eight) (hs : s.Ok) :
    Calls Tryz.prog 61 #[.agg (cells8 .u32 s)] w fun e w' => e = .returned (.agg (cellsOf .u8 (outList s))) ∧ Below w.heap.size w w' := by
  have HS := Lib.hid hs
  have HP := Lib.hid (size8 s)
  have HF := Lib.hid (start14 w (cells8 .u32 s) (Array.replicate 32 (.int .u8 0)) 115 80)
  clear hs
  go_enter Tryz.func61, Tryz.ntmps61
  go_wp2_with (refine wpList_load_row rfl 115 (.tmp 1) rfl w.heap.size rfl 115 _ (0, 0) _ HF.out.1 Tryz.underlying115 rfl HP.out ?_)
  go_loopw [4, 5, 7] (fun _ _ i wr => ∃ k : Nat, k ≤ 8 ∧ i = .int .i64 k ∧ wr.rowIs (w.heap.size + 1 + 1) 80 32 (fun j => .int .u8 (outTo s (4 * k) j : Nat)) ∧ wr.rowIs (w.heap.size + 1) 80 32 (fun _ => .int .u8 0) ∧ Below w.heap.size w wr) (fun _ _ i _ => 8 - (intOf i).toNat)
  case atStart => exact ⟨0, by omega, rfl, out_start (rep_row HF.out.2.2.1), rep_row HF.out.2.1, HF.out.2.2.2⟩
  case round =>
    clear HF
    obtain ⟨k, hk, rfl, hr, hz, hbel⟩ := hrel
    by_cases hlt : k < 8
    · have hidx := fun w => index8' w s k hlt
      have o1 := nth_lt HS.out k
      have c0 := hr.cell (i := 4 * k) (by omega)
      have c1 := hr.cell (i := 4 * k + 1) (by omega)
      have c2 := hr.cell (i := 4 * k + 2) (by omega)
      have c3 := hr.cell (i := 4 * k + 3) (by omega)
      have f0 := hr.frozen (4 * k)
      have f1 := hr.frozen (4 * k + 1)
      have f2 := hr.frozen (4 * k + 2)
      have f3 := hr.frozen (4 * k + 3)
      have HR := Lib.hid hr
      have HZ := Lib.hid hz
      have HBel := Lib.hid hbel
      have lk : (k : Int) < 8 := by omega
      clear hr hz hbel
      go_wp2
      go_roundw
      case rel =>
        refine ⟨k + 1, by omega, by go_num, ?_, (((HZ.out.setOther (by simp) _).setOther (by simp) _).setOther (by simp) _).setOther (by simp) _, (((HBel.out.setCell (by simp; omega) _).setCell (by simp; omega) _).setCell (by simp; omega) _).setCell (by simp; omega) _⟩
        have h0 := out_step (v := ((s.nth k : Nat) : Int) / 16777216) (by rw [outByte0 s k o1]; simp) HR.out
        have h1 := out_step (v := ((s.nth k : Nat) : Int) / 65536 % 256) (by rw [outByte1 s k]; simp) h0
        have h2 := out_step (v := ((s.nth k : Nat) : Int) / 256 % 256) (by rw [outByte2 s k]; simp) h1
        exact out_step (v := ((s.nth k : Nat) : Int) % 256) (by rw [outByte3 s k]; simp) h2
      case measure => simp [intOf]; omega
    · obtain rfl : k = 8 := by omega
      obtain ⟨cs, hcs, hsz, hget⟩ := hr
      obtain ⟨cz, hcz, hzz, _⟩ := hz
      obtain rfl : cs = cellsOf .u8 (outList s) := row_list hsz (fun i hi => by rw [hget i hi]; simp [outTo, hi])
      have HCS := Lib.hid hcs
      have HCZ := Lib.hid hcz
      have HBel := Lib.hid hbel
      have HP2 := Lib.hid (size32 _ hsz)
      have HA := Lib.hid (all_cells .u8 (outList s))
      have HZ2 := Lib.hid (hzz.trans hsz.symm)
      clear hcs hcz hbel hget hsz hzz
      go_wp2_with (first | (refine wpList_load_row rfl 80 (.tmp 3) rfl (w.heap.size + 1 + 1) rfl 80 _ (0, 0) _ HCS.out Tryz.underlying80 rfl HP2.out ?_) | (refine wpList_store_row rfl 80 (.tmp 2) (.tmp 38) rfl (w.heap.size + 1) _ rfl rfl 80 _ HCZ.out HP2.out HZ2.out HA.out ?_))
      refine bodyPost_ret (v := .agg (cellsOf .u8 (outList s))) ?_ rfl ⟨rfl, ?_⟩
      · refine results_cell_row Tryz.results61 _ _ (w.heap.size + 1) 80 _ (0, 0) _ rfl ?_ Tryz.underlying80 rfl HP2.out
        exact row_new HCZ.out
      · exact below_setRow HBel.out (by omega) _
end Go.Proofs.YtfmdhcjniikfdaaGreatDoor.sumDoor
