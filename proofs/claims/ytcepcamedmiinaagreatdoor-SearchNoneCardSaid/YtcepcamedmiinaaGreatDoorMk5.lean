/- Notes, when they are formed, their payloads, and what a payload says: plain mathematics. -/
import Derived.Test.YtcepcamedmiinaaGreatDoorMk1
import Derived.Test.YtcepcamedmiinaaGreatDoorMk2
namespace Go.Proofs.YtcepcamedmiinaaGreatDoor.bod
open Go.Proofs.YtcepcamedmiinaaGreatDoor.codec (bytesOf byteAt bytesOf_length bytesOf_lt strOf numOf numFrom numOf_take numOf_lt numOf_bytes strOf_size)
open Go.Proofs.YtcepcamedmiinaaGreatDoor.rd
set_option linter.unusedVariables false
set_option linter.unusedSimpArgs false

/-- Is it a name, as it should be? -/
def named (s : ByteArray) : Bool := nam.normOk s && decide (nam.normS s = s)
def fitsB (d f : Int) (n : Nat) : Bool := decide (0 ≤ d ∧ d ≤ 253402300799) && (decide (0 ≤ f ∧ f < 32) && decide (n ≤ 20000))
def emptyB (d f : Int) (n : Nat) : Bool := decide (d = 0) && (decide (f = 0) && decide (n = 0))
/-- May a note be? -/
def formedB (k : Int) (e : Nat) (s : ByteArray) (u : Nat) (d f : Int) (n : Nat) : Bool :=
  if k = 1 then decide (e ≠ 0) && (named s && (decide (u = 0) && emptyB d f n))
  else if k = 2 then decide (e ≠ 0) && (named s && (decide (u ≠ 0) && fitsB d f n))
  else if k = 3 then decide (e ≠ 0) && (decide (s.size = 0) && (decide (u ≠ 0) && emptyB d f n))
  else false
def nums (s : ByteArray) : List Nat := s.data.toList.map UInt8.toNat
theorem nums_length (s : ByteArray) : (nums s).length = s.size := by
  unfold nums
  rw [List.length_map, Array.length_toList]
  rfl
theorem nums_lt (s : ByteArray) : ∀ x ∈ nums s, x < 256 := by
  intro x hx
  obtain ⟨c, _, rfl⟩ := List.mem_map.1 hx
  exact c.toNat_lt
theorem strOf_nums (s : ByteArray) : strOf (nums s) = s := by
  unfold strOf nums
  rw [List.map_map, show UInt8.ofNat ∘ UInt8.toNat = id from funext fun c => by simp, List.map_id]
theorem nums_strOf {l : List Nat} (h : ∀ x ∈ l, x < 256) : nums (strOf l) = l := by
  unfold strOf nums
  simp only [List.map_map]
  conv => rhs; rw [← List.map_id l]
  refine List.map_congr_left fun x hx => ?_
  simp [Nat.mod_eq_of_lt (h x hx)]
/-- A text behind its length. -/
def txt (s : ByteArray) : List Nat := bytesOf s.size 2 ++ nums s
/-- The payload of a note. -/
def payL (k : Int) (e : Nat) (s : ByteArray) (u : Nat) (d f : Int) (o : List Nat) : List Nat :=
  if k = 1 then bytesOf e 4 ++ txt s
  else if k = 2 then bytesOf e 4 ++ (bytesOf u 4 ++ (bytesOf d.toNat 6 ++ (bytesOf f.toNat 1 ++ (txt s ++ o))))
  else bytesOf e 4 ++ bytesOf u 4
theorem byteAt_next (v x n j : Nat) (hx : x < 256) (hj : j < n) : byteAt (v * 256 + x) (n + 1) j = byteAt v n j := by
  unfold byteAt
  rw [show n + 1 - 1 - j = (n - 1 - j) + 1 by omega, Nat.pow_succ, Nat.mul_comm (256 ^ _) 256, ← Nat.div_div_eq_div_mul, show (v * 256 + x) / 256 = v by omega]
theorem bytesOf_next (v x n : Nat) (hx : x < 256) : bytesOf (v * 256 + x) (n + 1) = bytesOf v n ++ [x] := by
  unfold bytesOf
  rw [List.range_succ, List.map_append, List.map_singleton]
  congr 1
  · exact List.map_congr_left fun j hj => byteAt_next v x n j hx (List.mem_range.1 hj)
  · unfold byteAt
    rw [show n + 1 - 1 - n = 0 by omega]
    simp
    omega
theorem bytesOf_take {l : List Nat} (h : ∀ b ∈ l, b < 256) : ∀ k, k ≤ l.length → bytesOf (numOf (l.take k)) k = l.take k
  | 0, _ => by simp [bytesOf]
  | k + 1, hk => by
    have hx : l.getD k 0 < 256 := by
      have hk' : k < l.length := hk
      simp only [List.getD_eq_getElem?_getD, List.getElem?_eq_getElem hk', Option.getD_some]
      exact h _ (List.getElem_mem _)
    rw [numOf_take l k hk, bytesOf_next _ _ _ hx, bytesOf_take h k (Nat.le_of_lt hk)]
    have hk' : k < l.length := hk
    rw [List.take_add_one, List.getElem?_eq_getElem hk', List.getD_eq_getElem?_getD, List.getElem?_eq_getElem hk']
    rfl
theorem bytesOf_num {l : List Nat} (h : ∀ b ∈ l, b < 256) {n : Nat} (hn : l.length = n) : bytesOf (numOf l) n = l := by
  have := bytesOf_take h n (by omega)
  rw [List.take_of_length_le (by omega)] at this
  exact this
theorem num_lt {l : List Nat} (h : ∀ b ∈ l, b < 256) {n : Nat} (hn : l.length ≤ n) : numOf l < 256 ^ n := by
  have := numOf_lt l h l.length
  rw [List.take_length] at this
  exact Nat.lt_of_lt_of_le this (Nat.pow_le_pow_right (by decide) hn)
theorem got_len (k : Nat) (L : Option (List Nat)) : (got k L).length ≤ k := by
  cases L with
  | none => simp [got]
  | some l => simp only [got]; split <;> simp; omega
theorem got_lt {k : Nat} {L : Option (List Nat)} (h : ∀ l, L = some l → ∀ b ∈ l, b < 256) : ∀ b ∈ got k L, b < 256 := by
  intro b hb
  cases L with
  | none => simp [got] at hb
  | some l =>
    simp only [got] at hb
    split at hb
    · exact h l rfl b (List.mem_of_mem_take hb)
    · simp at hb
theorem got_num {k : Nat} {L : Option (List Nat)} (h : ∀ l, L = some l → ∀ b ∈ l, b < 256) : numOf (got k L) < 256 ^ k := num_lt (got_lt h) (got_len k L)
/-- What was read, if something is left. -/
theorem unread {k : Nat} {L : Option (List Nat)} {l' : List Nat} (h : rest k L = some l') : L = some (got k L ++ l') ∧ (got k L).length = k := by
  cases L with
  | none => simp [rest] at h
  | some l =>
    simp only [rest] at h
    split at h
    · rename_i hk
      obtain rfl := Option.some.inj h
      simp only [got, if_pos hk, List.take_append_drop, List.length_take, Nat.min_eq_left hk]
      exact ⟨trivial, trivial⟩
    · cases h
theorem got_app {a b : List Nat} {k : Nat} (h : a.length = k) : got k (some (a ++ b)) = a := by
  subst h
  simp [got]
theorem rest_app {a b : List Nat} {k : Nat} (h : a.length = k) : rest k (some (a ++ b)) = some b := by
  subst h
  simp [rest]
/-- Where the reader stands. -/
def LA (L : List Nat) : Option (List Nat) := rest 4 (some L)
def LT (L : Option (List Nat)) : Option (List Nat) := rest (numOf (got 2 L)) (rest 2 L)
def TX (L : Option (List Nat)) : ByteArray := strOf (got (numOf (got 2 L)) (rest 2 L))
def LU (L : List Nat) := rest 4 (LA L)
def LD (L : List Nat) := rest 6 (LU L)
def LF (L : List Nat) := rest 1 (LD L)
def LO (L : List Nat) := rest (leftN (LT (LF L))) (LT (LF L))
/-- What a payload says. -/
def epN (L : List Nat) : Nat := numOf (got 4 (some L))
def uidN (L : List Nat) : Nat := numOf (got 4 (LA L))
def datN (L : List Nat) : Nat := numOf (got 6 (LU L))
def flaN (L : List Nat) : Nat := numOf (got 1 (LD L))
def octN (L : List Nat) : List Nat := got (leftN (LT (LF L))) (LT (LF L))
def ok1 (L : List Nat) : Bool := decide (LT (LA L) = some []) && formedB 1 (epN L) (TX (LA L)) 0 0 0 0
def ok2 (L : List Nat) : Bool := decide (LO L = some []) && formedB 2 (epN L) (TX (LF L)) (uidN L) (datN L) (flaN L) (octN L).length
def ok3 (L : List Nat) : Bool := decide (LU L = some []) && formedB 3 (epN L) ByteArray.empty (uidN L) 0 0 0

variable {L : List Nat} (hb : ∀ b ∈ L, b < 256)
include hb
theorem ltA : ∀ l, some L = some l → ∀ b ∈ l, b < 256 := fun l e => by cases e; exact hb
theorem ltLA : ∀ l, LA L = some l → ∀ b ∈ l, b < 256 := rest_lt 4 (ltA hb)
theorem ltLU : ∀ l, LU L = some l → ∀ b ∈ l, b < 256 := rest_lt 4 (ltLA hb)
theorem ltLD : ∀ l, LD L = some l → ∀ b ∈ l, b < 256 := rest_lt 6 (ltLU hb)
theorem ltLF : ∀ l, LF L = some l → ∀ b ∈ l, b < 256 := rest_lt 1 (ltLD hb)
theorem ltLT : ∀ l, LT (LF L) = some l → ∀ b ∈ l, b < 256 := rest_lt _ (rest_lt 2 (ltLF hb))
theorem ep_lt : epN L < 4294967296 := got_num (ltA hb)
theorem uid_lt : uidN L < 4294967296 := got_num (ltLA hb)
theorem dat_lt : datN L < 281474976710656 := got_num (ltLU hb)
theorem fla_lt : flaN L < 256 := got_num (ltLD hb)
omit hb
theorem text_read {M : Option (List Nat)} (hM : ∀ l, M = some l → ∀ b ∈ l, b < 256) {l : List Nat} (h : LT M = some l) : M = some (txt (TX M) ++ l) := by
  obtain ⟨e1, n1⟩ := unread h
  obtain ⟨e2, n2⟩ := unread e1
  have h2 := rest_lt 2 hM
  have g2 := got_lt (k := numOf (got 2 M)) h2
  have hs : (TX M).size = numOf (got 2 M) := by
    unfold TX
    rw [strOf_size, n1]
  have hn : nums (TX M) = got (numOf (got 2 M)) (rest 2 M) := nums_strOf g2
  unfold txt
  rw [hs, hn, bytesOf_num (got_lt hM) n2, List.append_assoc]
  exact e2
include hb
theorem says1 (h : ok1 L = true) : formedB 1 (epN L) (TX (LA L)) 0 0 0 0 = true ∧ payL 1 (epN L) (TX (LA L)) 0 0 0 [] = L := by
  simp only [ok1, Bool.and_eq_true, decide_eq_true_eq] at h
  refine ⟨h.2, ?_⟩
  have e1 := text_read (ltLA hb) h.1
  obtain ⟨e2, n2⟩ := unread e1
  have e3 := bytesOf_num (got_lt (k := 4) (ltA hb)) n2
  have e4 := Option.some.inj e2
  simp only [payL, if_true]
  unfold epN
  rw [e3]
  simpa using e4.symm
theorem says2 (h : ok2 L = true) : formedB 2 (epN L) (TX (LF L)) (uidN L) (datN L) (flaN L) (octN L).length = true ∧ payL 2 (epN L) (TX (LF L)) (uidN L) (datN L) (flaN L) (octN L) = L := by
  simp only [ok2, Bool.and_eq_true, decide_eq_true_eq] at h
  refine ⟨h.2, ?_⟩
  obtain ⟨e0, _⟩ := unread h.1
  have e1 := text_read (ltLF hb) e0
  obtain ⟨e2, n2⟩ := unread e1
  obtain ⟨e3, n3⟩ := unread e2
  obtain ⟨e4, n4⟩ := unread e3
  obtain ⟨e5, n5⟩ := unread e4
  have f2 := bytesOf_num (got_lt (k := 1) (ltLD hb)) n2
  have f3 := bytesOf_num (got_lt (k := 6) (ltLU hb)) n3
  have f4 := bytesOf_num (got_lt (k := 4) (ltLA hb)) n4
  have f5 := bytesOf_num (got_lt (k := 4) (ltA hb)) n5
  have e := Option.some.inj e5
  simp only [payL, if_neg (show ¬ (2 : Int) = 1 by decide), if_true, Int.toNat_natCast]
  unfold epN uidN datN flaN octN
  rw [f2, f3, f4, f5]
  simpa using e.symm
theorem says3 (h : ok3 L = true) : formedB 3 (epN L) ByteArray.empty (uidN L) 0 0 0 = true ∧ payL 3 (epN L) ByteArray.empty (uidN L) 0 0 [] = L := by
  simp only [ok3, Bool.and_eq_true, decide_eq_true_eq] at h
  refine ⟨h.2, ?_⟩
  obtain ⟨e4, n4⟩ := unread h.1
  obtain ⟨e5, n5⟩ := unread e4
  have f4 := bytesOf_num (got_lt (k := 4) (ltLA hb)) n4
  have f5 := bytesOf_num (got_lt (k := 4) (ltA hb)) n5
  have e := Option.some.inj e5
  simp only [payL, if_neg (show ¬ (3 : Int) = 1 by decide), if_neg (show ¬ (3 : Int) = 2 by decide)]
  unfold epN uidN
  rw [f4, f5]
  simpa using e.symm
omit hb
theorem named_size {s : ByteArray} (h : named s = true) : s.size ≤ 60 := by
  simp only [named, nam.normOk, Bool.and_eq_true, decide_eq_true_eq] at h
  exact h.1.1
theorem text_back {s : ByteArray} (hs : s.size ≤ 60) (l : List Nat) : TX (some (txt s ++ l)) = s ∧ LT (some (txt s ++ l)) = some l := by
  have h1 : got 2 (some (txt s ++ l)) = bytesOf s.size 2 := by
    unfold txt
    rw [List.append_assoc]
    exact got_app (bytesOf_length _ _)
  have h2 : rest 2 (some (txt s ++ l)) = some (nums s ++ l) := by
    unfold txt
    rw [List.append_assoc]
    exact rest_app (bytesOf_length _ _)
  have h3 : numOf (bytesOf s.size 2) = s.size := numOf_bytes _ _ (by omega)
  unfold TX LT
  rw [h1, h2, h3, got_app (nums_length s), rest_app (nums_length s), strOf_nums]
  exact ⟨rfl, rfl⟩
theorem back1 {e u : Nat} {s : ByteArray} {d f : Int} {o : List Nat} (he : e < 4294967296) (h : formedB 1 e s u d f o.length = true) :
    ok1 (payL 1 e s u d f o) = true ∧ epN (payL 1 e s u d f o) = e ∧ TX (LA (payL 1 e s u d f o)) = s ∧ u = 0 ∧ d = 0 ∧ f = 0 ∧ o = [] := by
  have h0 := h
  simp only [formedB, emptyB, if_true, Bool.and_eq_true, decide_eq_true_eq] at h
  obtain ⟨h1, h2, rfl, rfl, rfl, h6⟩ := h
  obtain rfl := List.eq_nil_of_length_eq_zero h6
  have hA : LA (payL 1 e s 0 0 0 []) = some (txt s ++ []) := by
    simp only [payL, if_true, List.append_nil]
    exact rest_app (bytesOf_length _ _)
  have hE : epN (payL 1 e s 0 0 0 []) = e := by
    simp only [payL, if_true, epN]
    rw [got_app (bytesOf_length _ _)]
    exact numOf_bytes _ _ (by omega)
  obtain ⟨t1, t2⟩ := text_back (named_size h2) []
  refine ⟨?_, hE, by rw [hA, t1], rfl, rfl, rfl, rfl⟩
  simp only [ok1, hA, t2, hE, t1, decide_true, Bool.true_and]
  exact h0
theorem back2 {e u : Nat} {s : ByteArray} {d f : Int} {o : List Nat} (he : e < 4294967296) (hu : u < 4294967296) (h : formedB 2 e s u d f o.length = true) :
    ok2 (payL 2 e s u d f o) = true ∧ epN (payL 2 e s u d f o) = e ∧ TX (LF (payL 2 e s u d f o)) = s ∧ uidN (payL 2 e s u d f o) = u ∧ (datN (payL 2 e s u d f o) : Int) = d ∧ (flaN (payL 2 e s u d f o) : Int) = f ∧ octN (payL 2 e s u d f o) = o := by
  have h0 := h
  simp only [formedB, fitsB, if_neg (show ¬ (2 : Int) = 1 by decide), if_true, Bool.and_eq_true, decide_eq_true_eq] at h
  obtain ⟨h1, h2, h3, ⟨h4, h5⟩, ⟨h6, h7⟩, h8⟩ := h
  obtain ⟨d, rfl⟩ := Int.eq_ofNat_of_zero_le h4
  obtain ⟨f, rfl⟩ := Int.eq_ofNat_of_zero_le h6
  have hP : payL 2 e s u d f o = bytesOf e 4 ++ (bytesOf u 4 ++ (bytesOf d 6 ++ (bytesOf f 1 ++ (txt s ++ o)))) := by
    simp only [payL, if_neg (show ¬ (2 : Int) = 1 by decide), if_true, Int.toNat_natCast]
  rw [hP]
  have hA : LA (bytesOf e 4 ++ (bytesOf u 4 ++ (bytesOf d 6 ++ (bytesOf f 1 ++ (txt s ++ o))))) = some (bytesOf u 4 ++ (bytesOf d 6 ++ (bytesOf f 1 ++ (txt s ++ o)))) := rest_app (bytesOf_length _ _)
  have hU : LU (bytesOf e 4 ++ (bytesOf u 4 ++ (bytesOf d 6 ++ (bytesOf f 1 ++ (txt s ++ o))))) = some (bytesOf d 6 ++ (bytesOf f 1 ++ (txt s ++ o))) := by unfold LU; rw [hA]; exact rest_app (bytesOf_length _ _)
  have hD : LD (bytesOf e 4 ++ (bytesOf u 4 ++ (bytesOf d 6 ++ (bytesOf f 1 ++ (txt s ++ o))))) = some (bytesOf f 1 ++ (txt s ++ o)) := by unfold LD; rw [hU]; exact rest_app (bytesOf_length _ _)
  have hF : LF (bytesOf e 4 ++ (bytesOf u 4 ++ (bytesOf d 6 ++ (bytesOf f 1 ++ (txt s ++ o))))) = some (txt s ++ o) := by unfold LF; rw [hD]; exact rest_app (bytesOf_length _ _)
  obtain ⟨t1, t2⟩ := text_back (named_size h2) o
  have e1 : epN (bytesOf e 4 ++ (bytesOf u 4 ++ (bytesOf d 6 ++ (bytesOf f 1 ++ (txt s ++ o))))) = e := by
    unfold epN; rw [got_app (bytesOf_length _ _)]; exact numOf_bytes _ _ (by omega)
  have e2 : uidN (bytesOf e 4 ++ (bytesOf u 4 ++ (bytesOf d 6 ++ (bytesOf f 1 ++ (txt s ++ o))))) = u := by
    unfold uidN; rw [hA, got_app (bytesOf_length _ _)]; exact numOf_bytes _ _ (by omega)
  have e3 : datN (bytesOf e 4 ++ (bytesOf u 4 ++ (bytesOf d 6 ++ (bytesOf f 1 ++ (txt s ++ o))))) = d := by
    unfold datN; rw [hU, got_app (bytesOf_length _ _)]; exact numOf_bytes _ _ (by omega)
  have e4 : flaN (bytesOf e 4 ++ (bytesOf u 4 ++ (bytesOf d 6 ++ (bytesOf f 1 ++ (txt s ++ o))))) = f := by
    unfold flaN; rw [hD, got_app (bytesOf_length _ _)]; exact numOf_bytes _ _ (by omega)
  have e5 : octN (bytesOf e 4 ++ (bytesOf u 4 ++ (bytesOf d 6 ++ (bytesOf f 1 ++ (txt s ++ o))))) = o := by
    unfold octN; rw [hF, t2]; simp [got, leftN]
  have e6 : LO (bytesOf e 4 ++ (bytesOf u 4 ++ (bytesOf d 6 ++ (bytesOf f 1 ++ (txt s ++ o))))) = some [] := by
    unfold LO; rw [hF, t2]; simp [rest, leftN]
  refine ⟨?_, e1, by rw [hF, t1], e2, by rw [e3], by rw [e4], e5⟩
  unfold ok2
  rw [e1, e2, e3, e4, e5, e6, hF, t1]
  simp only [decide_true, Bool.true_and]
  exact h0
theorem back3 {e u : Nat} {s : ByteArray} {d f : Int} {o : List Nat} (he : e < 4294967296) (hu : u < 4294967296) (h : formedB 3 e s u d f o.length = true) :
    ok3 (payL 3 e s u d f o) = true ∧ epN (payL 3 e s u d f o) = e ∧ uidN (payL 3 e s u d f o) = u ∧ s = ByteArray.empty ∧ d = 0 ∧ f = 0 ∧ o = [] := by
  have h0 := h
  simp only [formedB, emptyB, if_neg (show ¬ (3 : Int) = 1 by decide), if_neg (show ¬ (3 : Int) = 2 by decide), if_true, Bool.and_eq_true, decide_eq_true_eq] at h
  obtain ⟨h1, h2, h3, rfl, rfl, h6⟩ := h
  obtain rfl := List.eq_nil_of_length_eq_zero h6
  obtain rfl : s = ByteArray.empty := by
    cases s with
    | mk a => exact congrArg ByteArray.mk (Array.eq_empty_of_size_eq_zero h2)
  have hP : payL 3 e ByteArray.empty u 0 0 [] = bytesOf e 4 ++ (bytesOf u 4 ++ []) := by
    simp only [payL, if_neg (show ¬ (3 : Int) = 1 by decide), if_neg (show ¬ (3 : Int) = 2 by decide), List.append_nil]
  rw [hP]
  have hA : LA (bytesOf e 4 ++ (bytesOf u 4 ++ [])) = some (bytesOf u 4 ++ []) := rest_app (bytesOf_length _ _)
  have hU : LU (bytesOf e 4 ++ (bytesOf u 4 ++ [])) = some [] := by unfold LU; rw [hA]; exact rest_app (bytesOf_length _ _)
  have e1 : epN (bytesOf e 4 ++ (bytesOf u 4 ++ [])) = e := by
    unfold epN; rw [got_app (bytesOf_length _ _)]; exact numOf_bytes _ _ (by omega)
  have e2 : uidN (bytesOf e 4 ++ (bytesOf u 4 ++ [])) = u := by
    unfold uidN; rw [hA, got_app (bytesOf_length _ _)]; exact numOf_bytes _ _ (by omega)
  refine ⟨?_, e1, e2, rfl, rfl, rfl, rfl⟩
  unfold ok3
  rw [e1, e2, hU]
  simp only [decide_true, Bool.true_and]
  exact h0
theorem payL_lt {k : Int} {e u : Nat} {s : ByteArray} {d f : Int} {o : List Nat} (ho : ∀ b ∈ o, b < 256) : ∀ b ∈ payL k e s u d f o, b < 256 := by
  have ht : ∀ b ∈ txt s, b < 256 := codec.all_lt (bytesOf_lt _ _) (nums_lt s)
  unfold payL
  split
  · exact codec.all_lt (bytesOf_lt _ _) ht
  · split
    · exact codec.all_lt (bytesOf_lt _ _) (codec.all_lt (bytesOf_lt _ _) (codec.all_lt (bytesOf_lt _ _) (codec.all_lt (bytesOf_lt _ _) (codec.all_lt ht ho))))
    · exact codec.all_lt (bytesOf_lt _ _) (bytesOf_lt _ _)
theorem txt_length (s : ByteArray) : (txt s).length = 2 + s.size := by simp [txt, bytesOf_length, nums_length]
theorem payL_length {k : Int} {e u : Nat} {s : ByteArray} {d f : Int} {o : List Nat} (h : formedB k e s u d f o.length = true) : (payL k e s u d f o).length ≤ 20077 := by
  unfold formedB at h
  unfold payL
  split at h
  · rename_i hk
    simp only [Bool.and_eq_true] at h
    have := named_size h.2.1
    rw [if_pos hk, List.length_append, bytesOf_length, txt_length]
    omega
  · rename_i hk
    rw [if_neg hk]
    split at h
    · rename_i hk2
      simp only [fitsB, Bool.and_eq_true, decide_eq_true_eq] at h
      have := named_size h.2.1
      rw [if_pos hk2]
      simp only [List.length_append, bytesOf_length, txt_length]
      omega
    · rename_i hk2
      rw [if_neg hk2]
      simp [bytesOf_length]
end Go.Proofs.YtcepcamedmiinaaGreatDoor.bod
namespace Go.Proofs.YtcepcamedmiinaaGreatDoor.lg
open Go.Proofs.YtcepcamedmiinaaGreatDoor.bod (formedB payL named fitsB emptyB named_size ok1 ok2 ok3 epN uidN datN flaN octN LA LF TX says1 says2 says3 back1 back2 back3 ep_lt uid_lt)
set_option linter.unusedVariables false
set_option linter.unusedSimpArgs false

/-- A note. -/
structure Nt where
  k : Nat
  e : Nat
  s : ByteArray
  u : Nat
  d : Int
  f : Int
  o : List Nat
def Nt.ok (n : Nt) : Prop := formedB (n.k : Nat) n.e n.s n.u n.d n.f n.o.length = true ∧ n.e < 4294967296 ∧ n.u < 4294967296
def Nt.pay (n : Nt) : List Nat := payL (n.k : Nat) n.e n.s n.u n.d n.f n.o
theorem Nt.ok.parts {n : Nt} (h : n.ok) : 1 ≤ n.k ∧ n.k ≤ 3 ∧ (n.k = 1 → n.u = 0) ∧ (n.k ≠ 1 → 1 ≤ n.u) ∧ 1 ≤ n.e ∧ n.e < 4294967296 ∧ n.u < 4294967296 := by
  obtain ⟨h, he, hu⟩ := h
  unfold formedB at h
  split at h
  · simp only [Bool.and_eq_true, decide_eq_true_eq] at h
    omega
  · split at h
    · simp only [Bool.and_eq_true, decide_eq_true_eq] at h
      omega
    · split at h
      · simp only [Bool.and_eq_true, decide_eq_true_eq] at h
        omega
      · cases h
/-- What a record of a kind says. -/
def dec (k : Nat) (L : List Nat) : Option Nt :=
  if k = 1 then (if ok1 L = true then some ⟨1, epN L, TX (LA L), 0, 0, 0, []⟩ else none)
  else if k = 2 then (if ok2 L = true then some ⟨2, epN L, TX (LF L), uidN L, datN L, flaN L, octN L⟩ else none)
  else if k = 3 then (if ok3 L = true then some ⟨3, epN L, ByteArray.empty, uidN L, 0, 0, []⟩ else none)
  else none
theorem dec_ok {k : Nat} {L : List Nat} {n : Nt} (hb : ∀ b ∈ L, b < 256) (h : dec k L = some n) : n.ok ∧ n.k = k := by
  unfold dec at h
  split at h
  · rename_i hk
    split at h
    · rename_i ho
      cases h
      exact ⟨⟨(says1 hb ho).1, ep_lt hb, by show 0 < _; omega⟩, hk.symm⟩
    · cases h
  · split at h
    · rename_i hk
      split at h
      · rename_i ho
        cases h
        exact ⟨⟨(says2 hb ho).1, ep_lt hb, uid_lt hb⟩, hk.symm⟩
      · cases h
    · split at h
      · rename_i hk
        split at h
        · rename_i ho
          cases h
          exact ⟨⟨(says3 hb ho).1, ep_lt hb, uid_lt hb⟩, hk.symm⟩
        · cases h
      · cases h
theorem dec_back {n : Nt} (h : n.ok) : dec n.k n.pay = some n := by
  have hp := h.parts
  obtain ⟨k, e, s, u, d, f, o⟩ := n
  obtain ⟨hf, he, hu⟩ := h
  simp only [Nt.pay] at *
  by_cases h1 : k = 1
  · subst h1
    obtain ⟨k1, k2, k3, rfl, rfl, rfl, rfl⟩ := back1 he hf
    unfold dec
    rw [show ((1 : Nat) : Int) = 1 from rfl, if_pos rfl, if_pos k1]
    rw [k2, k3]
  · by_cases h2 : k = 2
    · subst h2
      obtain ⟨k1, k2, k3, k4, k5, k6, k7⟩ := back2 he hu hf
      unfold dec
      rw [show ((2 : Nat) : Int) = 2 from rfl, if_neg (by decide), if_pos rfl, if_pos k1]
      rw [k2, k3, k4, k5, k6, k7]
    · obtain rfl : k = 3 := by omega
      obtain ⟨k1, k2, k3, rfl, rfl, rfl, rfl⟩ := back3 he hu hf
      unfold dec
      rw [show ((3 : Nat) : Int) = 3 from rfl, if_neg (by decide), if_neg (by decide), if_pos rfl, if_pos k1]
      rw [k2, k3]

/-! What notes say. -/
def epo (l : List Nt) : Nat := l.foldl (fun a n => max a n.e) 0
def nmL (l : List Nt) : ByteArray := l.foldl (fun a n => if n.k = 3 then a else n.s) ByteArray.empty
def top (E : Nat) (l : List Nt) : Nat := l.foldl (fun a n => if n.e = E then max a n.u else a) 0
def nxt (g : Nat) : Nat := min g 4294967294 + 1
def rnx (E : Nat) (l : List Nt) : Nat := l.foldl (fun a n => if 1 < n.k ∧ n.e = E then max a (if n.u < 4294967295 then n.u + 1 else n.u) else a) 1
theorem epo_snoc (l : List Nt) (n : Nt) : epo (l ++ [n]) = max (epo l) n.e := by simp [epo]
theorem nmL_snoc (l : List Nt) (n : Nt) : nmL (l ++ [n]) = if n.k = 3 then nmL l else n.s := by simp [nmL]
theorem top_snoc (E : Nat) (l : List Nt) (n : Nt) : top E (l ++ [n]) = if n.e = E then max (top E l) n.u else top E l := by simp [top]
theorem rnx_snoc (E : Nat) (l : List Nt) (n : Nt) : rnx E (l ++ [n]) = if 1 < n.k ∧ n.e = E then max (rnx E l) (if n.u < 4294967295 then n.u + 1 else n.u) else rnx E l := by simp [rnx]
theorem take_next {α : Type} {l : List α} {i : Nat} {x : α} (h : l[i]? = some x) : l.take (i + 1) = l.take i ++ [x] := by
  rw [List.take_add_one, h]
  rfl
theorem epo_lt {l : List Nt} (h : ∀ n ∈ l, n.ok) : epo l < 4294967296 := by
  have : ∀ (l : List Nt) (a : Nat), a < 4294967296 → (∀ n ∈ l, n.ok) → l.foldl (fun a n => max a n.e) a < 4294967296 := by
    intro l
    induction l with
    | nil => intro a h _; exact h
    | cons n r ih =>
      intro a ha hl
      have := (hl n (by simp)).parts
      exact ih _ (by show max a n.e < _; omega) (fun m hm => hl m (by simp [hm]))
  exact this l 0 (by omega) h
theorem top_lt {E : Nat} {l : List Nt} (h : ∀ n ∈ l, n.ok) : top E l < 4294967296 := by
  have : ∀ (l : List Nt) (a : Nat), a < 4294967296 → (∀ n ∈ l, n.ok) → l.foldl (fun a n => if n.e = E then max a n.u else a) a < 4294967296 := by
    intro l
    induction l with
    | nil => intro a h _; exact h
    | cons n r ih =>
      intro a ha hl
      have := (hl n (by simp)).parts
      refine ih _ ?_ (fun m hm => hl m (by simp [hm]))
      simp only []
      split <;> omega
  exact this l 0 (by omega) h
theorem rnx_eq {E : Nat} {l : List Nt} (h : ∀ n ∈ l, n.ok) : rnx E l = nxt (top E l) := by
  have : ∀ (l : List Nt) (a : Nat), (∀ n ∈ l, n.ok) → l.foldl (fun a n => if 1 < n.k ∧ n.e = E then max a (if n.u < 4294967295 then n.u + 1 else n.u) else a) (nxt a) = nxt (l.foldl (fun a n => if n.e = E then max a n.u else a) a) := by
    intro l
    induction l with
    | nil => intro a _; rfl
    | cons n r ih =>
      intro a hl
      have hp := (hl n (by simp)).parts
      rw [List.foldl_cons, List.foldl_cons, ← ih _ (fun m hm => hl m (by simp [hm]))]
      congr 1
      unfold nxt
      by_cases hE : n.e = E
      · by_cases h1 : 1 < n.k
        · rw [if_pos ⟨h1, hE⟩, if_pos hE]
          split <;> omega
        · have := hp.2.2.1 (by omega)
          rw [if_neg (fun h => h1 h.1), if_pos hE]
          omega
      · rw [if_neg (fun h => hE h.2), if_neg hE]
  exact this l 0 h

/-! Which are live. -/
def gone (n : Nt) (r : List Nt) : Bool := decide (n.k ≠ 2) || r.any fun q => decide (q.k = 3 ∧ q.e = n.e ∧ q.u = n.u)
def livB (l : List Nt) (i : Nat) : Bool := match l[i]? with
  | some n => !gone n (l.drop (i + 1))
  | none => false
def pick {α : Type} (l : List α) (b : Nat → Bool) : Nat → List α
  | 0 => []
  | i + 1 => pick l b i ++ (if b i = true then (l[i]?).toList else [])
theorem pick_yes {α : Type} {l : List α} {b : Nat → Bool} {i : Nat} {x : α} (h : l[i]? = some x) (hb : b i = true) : pick l b (i + 1) = pick l b i ++ [x] := by
  rw [pick, if_pos hb, h]
  rfl
theorem pick_no {α : Type} {l : List α} {b : Nat → Bool} {i : Nat} (hb : b i = false) : pick l b (i + 1) = pick l b i := by
  rw [pick, if_neg (by rw [hb]; simp), List.append_nil]
theorem pick_map {α β : Type} (f : α → β) (l : List α) (b : Nat → Bool) : ∀ i, (pick l b i).map f = pick (l.map f) b i
  | 0 => rfl
  | i + 1 => by
    rw [pick, pick, List.map_append, pick_map f l b i]
    congr 1
    split
    · rw [List.getElem?_map]
      cases l[i]? <;> rfl
    · rfl
theorem pick_len {α : Type} (l : List α) (b : Nat → Bool) : ∀ i, (pick l b i).length ≤ i
  | 0 => Nat.le_refl _
  | i + 1 => by
    have := pick_len l b i
    rw [pick, List.length_append]
    have : (if b i = true then (l[i]?).toList else []).length ≤ 1 := by
      split
      · cases l[i]? <;> simp
      · simp
    omega
theorem pick_mem {α : Type} {l : List α} {b : Nat → Bool} {x : α} : ∀ i, x ∈ pick l b i → x ∈ l
  | 0, h => by cases h
  | i + 1, h => by
    rw [pick] at h
    rcases List.mem_append.1 h with h | h
    · exact pick_mem i h
    · split at h
      · cases hx : l[i]? with
        | none => rw [hx] at h; cases h
        | some y =>
          rw [hx] at h
          simp at h
          subst h
          exact List.mem_of_getElem? hx
      · cases h
/-- All live messages. -/
def lives (l : List Nt) : List Nt := pick l (livB l) l.length
theorem lives_mem {l : List Nt} {n : Nt} (h : n ∈ lives l) : n ∈ l := pick_mem _ h

/-- The last UID, and whether all was clean till there. -/
def stp (E : Nat) (st : Nat × Bool) (n : Nt) : Nat × Bool := (n.u, st.2 && decide (n.e = E ∧ st.1 < n.u ∧ n.u < 4294967295))
def cl (E : Nat) (l : List Nt) : Nat × Bool := l.foldl (stp E) (0, true)
theorem cl_snoc (E : Nat) (l : List Nt) (n : Nt) : cl E (l ++ [n]) = stp E (cl E l) n := by simp [cl]
theorem cl_false {E : Nat} : ∀ (l : List Nt) (st : Nat × Bool), st.2 = false → (l.foldl (stp E) st).2 = false
  | [], st, h => h
  | n :: r, st, h => cl_false r _ (by simp [stp, h])
theorem cl_stop {E : Nat} {l : List Nt} {i : Nat} (h : (cl E (l.take i)).2 = false) : (cl E l).2 = false := by
  have e : cl E l = (l.drop i).foldl (stp E) (cl E (l.take i)) := by
    unfold cl
    rw [← List.foldl_append, List.take_append_drop]
  rw [e]
  exact cl_false _ _ h
theorem cl_lt {E : Nat} {l : List Nt} (h : ∀ n ∈ l, n.ok) : (cl E l).1 < 4294967296 := by
  have : ∀ (l : List Nt) (st : Nat × Bool), st.1 < 4294967296 → (∀ n ∈ l, n.ok) → (l.foldl (stp E) st).1 < 4294967296 := by
    intro l
    induction l with
    | nil => intro st h _; exact h
    | cons n r ih =>
      intro st hs hl
      exact ih _ (hl n (by simp)).2.2 (fun m hm => hl m (by simp [hm]))
  exact this l (0, true) (by show 0 < _; omega) h

/-! UIDs that are given anew. -/
def withU (n : Nt) (u : Nat) : Nt := { n with u := u }
def ru {α : Type} (f : α → Nat → α) (l : List α) : Nat → List α
  | 0 => l
  | i + 1 => (ru f l i).modify i (fun x => f x (i + 1))
theorem ru_at {α : Type} (f : α → Nat → α) (l : List α) : ∀ i j, (ru f l i)[j]? = if j < i then (l[j]?).map (fun x => f x (j + 1)) else l[j]?
  | 0, j => by simp [ru]
  | i + 1, j => by
    rw [ru, List.getElem?_modify, ru_at f l i j]
    by_cases h : i = j
    · subst h
      simp
    · by_cases h2 : j < i
      · simp [h, h2, show j < i + 1 by omega]
      · simp [h, h2, show ¬ j < i + 1 by omega]
theorem ru_len {α : Type} (f : α → Nat → α) (l : List α) : ∀ i, (ru f l i).length = l.length
  | 0 => rfl
  | i + 1 => by rw [ru, List.length_modify, ru_len f l i]
theorem ru_map {α β : Type} (f : α → Nat → α) (g : β → Nat → β) (m : α → β) (hm : ∀ x i, m (f x i) = g (m x) i) (l : List α) (i : Nat) : (ru f l i).map m = ru g (l.map m) i := by
  apply List.ext_getElem?
  intro j
  rw [List.getElem?_map, ru_at, ru_at, List.getElem?_map]
  split
  · cases l[j]? <;> simp [hm]
  · rfl
/-- The messages of the mailbox of notes. -/
def boxed (l : List Nt) : List Nt := if (cl (epo l) (lives l)).2 = true then lives l else ru withU (lives l) (lives l).length
def boxE (l : List Nt) : Nat := if (cl (epo l) (lives l)).2 = true then epo l else min (epo l) 4294967294 + 1
def boxX (l : List Nt) : Nat := if (cl (epo l) (lives l)).2 = true then nxt (top (epo l) l) else (lives l).length + 1

/-! Where it was said last that one is gone. -/
def lastG (l : List (Nt × Nat)) (e u : Nat) : Option Nat := l.foldl (fun a x => if x.1.k = 3 ∧ x.1.e = e ∧ x.1.u = u then some x.2 else a) none
theorem lastG_snoc (l : List (Nt × Nat)) (x : Nt × Nat) (e u : Nat) : lastG (l ++ [x]) e u = if x.1.k = 3 ∧ x.1.e = e ∧ x.1.u = u then some x.2 else lastG l e u := by simp [lastG]
theorem fold_none {e u : Nat} : ∀ (l : List (Nt × Nat)) (a : Option Nat), (∀ x ∈ l, ¬ (x.1.k = 3 ∧ x.1.e = e ∧ x.1.u = u)) → l.foldl (fun a x => if x.1.k = 3 ∧ x.1.e = e ∧ x.1.u = u then some x.2 else a) a = a
  | [], a, _ => rfl
  | x :: r, a, h => by
    rw [List.foldl_cons, if_neg (h x (by simp))]
    exact fold_none r a (fun y hy => h y (by simp [hy]))
theorem fold_some {e u : Nat} : ∀ (l : List (Nt × Nat)) (a : Option Nat), (∃ x ∈ l, x.1.k = 3 ∧ x.1.e = e ∧ x.1.u = u) → ∃ x ∈ l, l.foldl (fun a x => if x.1.k = 3 ∧ x.1.e = e ∧ x.1.u = u then some x.2 else a) a = some x.2
  | [], a, h => by obtain ⟨x, hx, _⟩ := h; cases hx
  | x :: r, a, h => by
    rw [List.foldl_cons]
    by_cases hr : ∃ y ∈ r, y.1.k = 3 ∧ y.1.e = e ∧ y.1.u = u
    · obtain ⟨y, hy, h2⟩ := fold_some r (if x.1.k = 3 ∧ x.1.e = e ∧ x.1.u = u then some x.2 else a) hr
      exact ⟨y, by simp [hy], h2⟩
    · rw [fold_none r _ (fun y hy h => hr ⟨y, hy, h⟩)]
      obtain ⟨y, hy, h2⟩ := h
      rcases List.mem_cons.1 hy with rfl | hy
      · exact ⟨y, by simp, by rw [if_pos h2]⟩
      · exact absurd ⟨y, hy, h2⟩ hr
theorem fold_where {e u : Nat} : ∀ (l : List (Nt × Nat)) (a : Option Nat) (v : Nat), l.foldl (fun a x => if x.1.k = 3 ∧ x.1.e = e ∧ x.1.u = u then some x.2 else a) a = some v → a = some v ∨ ∃ x ∈ l, x.2 = v
  | [], a, v, h => Or.inl h
  | x :: r, a, v, h => by
    rw [List.foldl_cons] at h
    rcases fold_where r _ v h with h | ⟨y, hy, h⟩
    · split at h
      · exact Or.inr ⟨x, by simp, Option.some.inj h⟩
      · exact Or.inl h
    · exact Or.inr ⟨y, by simp [hy], h⟩
/-- A message is live just if it wasn't said behind it that it is gone. -/
theorem live_at {l : List (Nt × Nat)} (hp : l.Pairwise (fun a b => a.2 < b.2)) {i : Nat} {x : Nt × Nat} (hx : l[i]? = some x) (h2 : x.1.k = 2) : livB (l.map Prod.fst) i = (match lastG l x.1.e x.1.u with
    | none => true
    | some p => decide (p < x.2)) := by
  have hi := (List.getElem?_eq_some_iff.1 hx).1
  have hsplit : l = l.take i ++ (x :: l.drop (i + 1)) := by
    conv => lhs; rw [← List.take_append_drop i l]
    rw [List.drop_eq_getElem_cons hi, (List.getElem?_eq_some_iff.1 hx).2]
  have hlt : ∀ y ∈ l.drop (i + 1), x.2 < y.2 := by
    rw [hsplit] at hp
    have := (List.pairwise_append.1 hp).2.1
    exact (List.pairwise_cons.1 this).1
  have hgt : ∀ y ∈ l.take i, y.2 < x.2 := by
    rw [hsplit] at hp
    have := (List.pairwise_append.1 hp).2.2
    exact fun y hy => this y hy x (by simp)
  have hB : livB (l.map Prod.fst) i = !((l.drop (i + 1)).any fun q => decide (q.1.k = 3 ∧ q.1.e = x.1.e ∧ q.1.u = x.1.u)) := by
    unfold livB gone
    rw [List.getElem?_map, hx]
    simp only [Option.map_some, h2, ne_eq, not_true_eq_false, decide_false, Bool.false_or]
    rw [← List.map_drop, List.any_map]
    rfl
  have hl : lastG l x.1.e x.1.u = (l.drop (i + 1)).foldl (fun a y => if y.1.k = 3 ∧ y.1.e = x.1.e ∧ y.1.u = x.1.u then some y.2 else a) (lastG (l.take i) x.1.e x.1.u) := by
    unfold lastG
    conv => lhs; rw [hsplit]
    rw [List.foldl_append, List.foldl_cons, if_neg (by omega)]
  rw [hB, hl]
  by_cases hr : ∃ y ∈ l.drop (i + 1), y.1.k = 3 ∧ y.1.e = x.1.e ∧ y.1.u = x.1.u
  · obtain ⟨y, hy, h3⟩ := fold_some (l.drop (i + 1)) (lastG (l.take i) x.1.e x.1.u) hr
    rw [h3]
    have := hlt y hy
    have ha : (l.drop (i + 1)).any (fun q => decide (q.1.k = 3 ∧ q.1.e = x.1.e ∧ q.1.u = x.1.u)) = true := by
      obtain ⟨z, hz, hzz⟩ := hr
      exact List.any_eq_true.2 ⟨z, hz, by simpa using hzz⟩
    rw [ha]
    simp
    omega
  · have hn : ∀ y ∈ l.drop (i + 1), ¬ (y.1.k = 3 ∧ y.1.e = x.1.e ∧ y.1.u = x.1.u) := fun y hy h => hr ⟨y, hy, h⟩
    rw [fold_none _ _ hn]
    have ha : (l.drop (i + 1)).any (fun q => decide (q.1.k = 3 ∧ q.1.e = x.1.e ∧ q.1.u = x.1.u)) = false := by
      rw [List.any_eq_false]
      intro y hy
      simpa using hn y hy
    rw [ha]
    cases hv : lastG (l.take i) x.1.e x.1.u with
    | none => rfl
    | some p =>
      rcases fold_where _ _ _ hv with h | ⟨y, hy, h⟩
      · cases h
      · have := hgt y hy
        simp
        omega
theorem live_not {l : List Nt} {i : Nat} {n : Nt} (hx : l[i]? = some n) (h2 : n.k ≠ 2) : livB l i = false := by
  unfold livB gone
  rw [hx]
  simp [h2]
end Go.Proofs.YtcepcamedmiinaaGreatDoor.lg
