/- Plain mathematics of sets: parts, which numbers are in one. -/
import Derived.Lib.CutLaws
import Derived.Lib.IndexBytes
import Derived.Lib.Strings
import Derived.Test.YtbhpgghbpibalaaGreatDoorMa1
import Derived.Test.YtbhpgghbpibalaaGreatDoorMs
namespace Go.Proofs.YtbhpgghbpibalaaGreatDoor.sq

/-- A part: from one number to the other; 0 is the greatest one. -/
structure X where
  f : Nat
  t : Nat
deriving Inhabited, DecidableEq
def told (n g : Nat) : Nat := if n = 0 then g else n
/-- The lesser, and the greater end. -/
def lo (x : X) (g : Nat) : Nat := min (told x.f g) (told x.t g)
def hi (x : X) (g : Nat) : Nat := max (told x.f g) (told x.t g)
def inX (x : X) (n g : Nat) : Bool := decide (lo x g ≤ n) && decide (n ≤ hi x g)
def hasB (l : List X) (n g : Nat) : Bool := decide (n ≠ 0) && l.any fun x => inX x n g
theorem told_lt {n g : Nat} (hn : n < 4294967296) (hg : g < 4294967296) : told n g < 4294967296 := by unfold told; split <;> assumption
theorem any_no {α : Type} {p : α → Bool} {l : List α} (h : ∀ (j : Nat) (x : α), l[j]? = some x → p x = false) : l.any p = false := by
  rw [List.any_eq_false]
  intro x hx
  obtain ⟨j, hj⟩ := List.mem_iff_getElem?.1 hx
  rw [h j x hj]
  exact Bool.false_ne_true
theorem any_yes {α : Type} {p : α → Bool} {l : List α} {j : Nat} {x : α} (hx : l[j]? = some x) (h : p x = true) : l.any p = true := List.any_eq_true.2 ⟨x, List.mem_of_getElem? hx, h⟩
end Go.Proofs.YtbhpgghbpibalaaGreatDoor.sq
namespace Go.Proofs.YtbhpgghbpibalaaGreatDoor.sq
open Go.Lib

/-- Byte i of s. -/
def byt (s : ByteArray) (i : Nat) : Nat := (s.data[i]!).toNat
theorem byt_at (s : ByteArray) (i : Nat) (h : i < s.size) : (s[i]'h).toNat = byt s i := by
  unfold byt
  rw [getElem!_pos s.data i (by simpa using h)]; rfl
theorem byt_lt (s : ByteArray) (i : Nat) : byt s i < 256 := UInt8.toNat_lt _
theorem byt_some (s : ByteArray) (i : Nat) (h : i < s.size) : ∃ c : UInt8, s.data.toList[i]? = some c ∧ c.toNat = byt s i := by
  have h' : i < s.data.toList.length := by rw [← size_eq]; exact h
  refine ⟨_, List.getElem?_eq_getElem h', ?_⟩
  unfold byt
  rw [getElem!_pos s.data i (by simpa using h)]
  simp
theorem len_eq (s : ByteArray) : s.data.toList.length = s.size := (size_eq s).symm

def digB (c : Nat) : Bool := decide (48 ≤ c ∧ c ≤ 57)
def step (o : Option Nat) (c : UInt8) : Option Nat := o.bind fun v => if digB c.toNat then some (10 * v + (c.toNat - 48)) else none
/-- The number that digits are. -/
def digs (l : List UInt8) : Option Nat := l.foldl step (some 0)
theorem fold_none : ∀ l : List UInt8, l.foldl step none = none
  | [] => rfl
  | _ :: r => fold_none r
theorem digs_next {l : List UInt8} {k : Nat} {c : UInt8} (h : l[k]? = some c) : digs (l.take (k + 1)) = step (digs (l.take k)) c := by
  unfold digs
  rw [List.take_add_one, h, List.foldl_append]
  rfl
theorem digs_split (l : List UInt8) (k : Nat) : digs l = (l.drop k).foldl step (digs (l.take k)) := by
  unfold digs
  rw [← List.foldl_append, List.take_append_drop]
theorem digs_bad {l : List UInt8} {k : Nat} {c : UInt8} (h : l[k]? = some c) (hc : digB c.toNat = false) : digs l = none := by
  rw [digs_split l (k + 1), digs_next h]
  have : step (digs (l.take k)) c = none := by
    unfold step
    cases digs (l.take k) <;> simp [hc]
  rw [this, fold_none]
theorem fold_bounds : ∀ (l : List UInt8) (v v' : Nat), l.foldl step (some v) = some v' → v * 10 ^ l.length ≤ v' ∧ v' < (v + 1) * 10 ^ l.length
  | [], v, v', h => by
    simp at h
    subst h
    simp
  | c :: r, v, v', h => by
    rw [List.foldl_cons] at h
    unfold step at h
    simp only [Option.bind_some] at h
    by_cases hc : digB c.toNat = true
    · rw [if_pos hc] at h
      have hd : 48 ≤ c.toNat ∧ c.toNat ≤ 57 := of_decide_eq_true hc
      obtain ⟨h1, h2⟩ := fold_bounds r _ v' h
      rw [List.length_cons, Nat.pow_succ]
      have e1 : v * (10 ^ r.length * 10) = (10 * v) * 10 ^ r.length := by rw [Nat.mul_comm (10 ^ r.length) 10, ← Nat.mul_assoc, Nat.mul_comm v 10]
      have e2 : (v + 1) * (10 ^ r.length * 10) = (10 * v + 10) * 10 ^ r.length := by rw [Nat.mul_comm (10 ^ r.length) 10, ← Nat.mul_assoc, Nat.mul_comm (v + 1) 10, Nat.mul_add]
      rw [e1, e2]
      exact ⟨Nat.le_trans (Nat.mul_le_mul_right _ (by omega)) h1, Nat.lt_of_lt_of_le h2 (Nat.mul_le_mul_right _ (by omega))⟩
    · rw [if_neg hc] at h
      have := fold_none r
      unfold step at this
      rw [this] at h
      cases h
theorem digs_ge {l : List UInt8} {k v v' : Nat} (h : digs (l.take k) = some v) (h' : digs l = some v') : v ≤ v' := by
  rw [digs_split l k, h] at h'
  exact Nat.le_trans (Nat.le_mul_of_pos_right v (Nat.pow_pos (by decide))) (fold_bounds _ _ _ h').1
theorem digs_lt {l : List UInt8} {v : Nat} (h : digs l = some v) : v < 10 ^ l.length := by
  have := (fold_bounds l 0 v h).2
  simpa using this
theorem digs_first {c : UInt8} {r : List UInt8} {v : Nat} (hc : c.toNat ≠ 48) (h : digs (c :: r) = some v) : 10 ^ r.length ≤ v := by
  have h1 : digB c.toNat = true := by
    cases hb : digB c.toNat with
    | true => rfl
    | false => rw [digs_bad (l := c :: r) (k := 0) rfl hb] at h; cases h
  have hd : 48 ≤ c.toNat ∧ c.toNat ≤ 57 := of_decide_eq_true h1
  unfold digs at h
  rw [List.foldl_cons, step] at h
  simp only [Option.bind_some, h1, if_true] at h
  have := (fold_bounds r _ v h).1
  refine Nat.le_trans ?_ this
  exact Nat.le_mul_of_pos_left _ (by omega)
/-- The number that a text is; 0: a star. -/
def numL (l : List UInt8) : Option Nat :=
  if l = [42] then some 0 else
  if l = [] ∨ l[0]? = some 48 then none else
  match digs l with
  | some v => if v ≤ 4294967295 then some v else none
  | none => none
theorem numL_lt {l : List UInt8} {v : Nat} (h : numL l = some v) : v ≤ 4294967295 := by
  unfold numL at h
  split at h
  · cases h; omega
  · split at h
    · cases h
    · split at h
      · split at h
        · cases h; assumption
        · cases h
      · cases h
theorem numL_bad {l : List UInt8} (h1 : l ≠ [42]) (h : digs l = none) : numL l = none := by
  unfold numL
  rw [if_neg h1, h]
  split <;> rfl
theorem numL_great {l : List UInt8} {k v : Nat} (h1 : l ≠ [42]) (h : digs (l.take k) = some v) (hv : 4294967295 < v) : numL l = none := by
  unfold numL
  rw [if_neg h1]
  split
  · rfl
  · cases hd : digs l with
    | none => rfl
    | some u => exact if_neg (by have := digs_ge h hd; omega)
theorem numL_is {l : List UInt8} {v : Nat} (h1 : l ≠ [42]) (h2 : ¬ (l = [] ∨ l[0]? = some 48)) (h : digs l = some v) (hv : v ≤ 4294967295) : numL l = some v := by
  unfold numL
  rw [if_neg h1, if_neg h2, h]
  exact if_pos hv
/-- What holds a sign that stands in no number is none. -/
theorem numL_sign {l : List UInt8} {c : UInt8} (h : c ∈ l) (hc : digB c.toNat = false) (h42 : c ≠ 42) : numL l = none := by
  refine numL_bad (fun e => ?_) ?_
  · subst e
    simp at h
    exact h42 h
  · obtain ⟨k, hk⟩ := List.mem_iff_getElem?.1 h
    exact digs_bad hk hc
theorem numL_long {l : List UInt8} (h : 10 < l.length) : numL l = none := by
  unfold numL
  split
  · rename_i e; subst e; simp at h
  · split
    · rfl
    · rename_i h2
      match l, h, h2 with
      | c :: r, h, h2 =>
        cases hd : digs (c :: r) with
        | none => rfl
        | some v =>
          have hc : c.toNat ≠ 48 := fun e => h2 (.inr (by simp; exact UInt8.toNat.inj (by simpa using e)))
          have h3 := digs_first hc hd
          have h4 : 10 ^ 10 ≤ 10 ^ r.length := Nat.pow_le_pow_right (by decide) (by simp at h; omega)
          exact if_neg (by have : (10 : Nat) ^ 10 = 10000000000 := by decide
                           omega)

/-- What stands ahead of a sign, what behind it, and whether it stands there. -/
def cutC (c : UInt8) : List UInt8 → List UInt8 × List UInt8 × Bool
  | [] => ([], [], false)
  | b :: l => if b = c then ([], l, true) else (b :: (cutC c l).1, (cutC c l).2.1, (cutC c l).2.2)
/-- What stands between signs. -/
def splitC (c : UInt8) : List UInt8 → List (List UInt8)
  | [] => [[]]
  | b :: l => if b = c then [] :: splitC c l else (b :: (splitC c l).headD []) :: (splitC c l).tail
theorem splitC_ne (c : UInt8) (l : List UInt8) : splitC c l ≠ [] := by
  cases l with
  | nil => simp [splitC]
  | cons b l => unfold splitC; split <;> simp
theorem splitC_cut (c : UInt8) : ∀ l : List UInt8, splitC c l = (cutC c l).1 :: (if (cutC c l).2.2 then splitC c (cutC c l).2.1 else [])
  | [] => rfl
  | b :: l => by
    by_cases h : b = c
    · rw [splitC, cutC, if_pos h, if_pos h]
      rfl
    · rw [splitC, cutC, if_neg h, if_neg h, splitC_cut c l]
      rfl
theorem cutC_length (c : UInt8) : ∀ l : List UInt8, (cutC c l).1.length + (cutC c l).2.1.length + (if (cutC c l).2.2 then 1 else 0) = l.length
  | [] => rfl
  | b :: l => by
    unfold cutC
    split
    · simp
    · have := cutC_length c l
      simp
      omega
theorem splitC_none {c : UInt8} : ∀ {l : List UInt8}, c ∉ l → splitC c l = [l]
  | [], _ => rfl
  | b :: l, h => by
    have h1 : b ≠ c := fun e => h (by simp [e])
    have := splitC_none (c := c) (l := l) (fun e => h (by simp [e]))
    unfold splitC
    rw [if_neg h1, this]
    rfl
theorem splitC_two {c : UInt8} : ∀ {l : List UInt8}, c ∈ l → 2 ≤ (splitC c l).length
  | [], h => by simp at h
  | b :: l, h => by
    unfold splitC
    split
    · have := splitC_ne c l
      have : 0 < (splitC c l).length := List.length_pos_iff.2 this
      simp
      omega
    · rename_i hb
      have h2 : c ∈ l := by
        rcases List.mem_cons.1 h with e | e
        · exact absurd e.symm hb
        · exact e
      have := splitC_two h2
      rw [List.length_cons, List.length_tail]
      omega
theorem cut_eq (c : UInt8) (l : List UInt8) : Lib.cut l [c] = cutC c l := by
  have key : ∀ l : List UInt8, (Lib.index l [c] = -1 ∧ (cutC c l).2.2 = false ∧ (cutC c l).1 = l ∧ (cutC c l).2.1 = []) ∨ (0 ≤ Lib.index l [c] ∧ (cutC c l).2.2 = true ∧ (cutC c l).1 = l.take (Lib.index l [c]).toNat ∧ (cutC c l).2.1 = l.drop ((Lib.index l [c]).toNat + 1)) := by
    intro l
    induction l with
    | nil => left; simp [Lib.index, cutC]
    | cons b l ih =>
      by_cases h : b = c
      · right
        subst h
        simp [Lib.index, cutC, List.isPrefixOf]
      · have hp : ([c] : List UInt8).isPrefixOf (b :: l) = false := by simp [List.isPrefixOf, Ne.symm h]
        have hi : Lib.index (b :: l) [c] = if Lib.index l [c] == -1 then -1 else Lib.index l [c] + 1 := by
          rw [Lib.index, hp]
          simp
        have hc : cutC c (b :: l) = (b :: (cutC c l).1, (cutC c l).2.1, (cutC c l).2.2) := by rw [cutC, if_neg h]
        rw [hc, hi]
        rcases ih with ⟨i1, i2, i3, i4⟩ | ⟨i1, i2, i3, i4⟩
        · left
          rw [i1]
          exact ⟨rfl, i2, by rw [i3], i4⟩
        · right
          have hne : (Lib.index l [c] == -1) = false := by rw [beq_eq_false_iff_ne]; omega
          rw [hne]
          have e : (Lib.index l [c] + 1).toNat = (Lib.index l [c]).toNat + 1 := by omega
          refine ⟨by simp; omega, i2, ?_, ?_⟩
          · simp [e, i3]
          · simp [e, i4]
  unfold Lib.cut
  rcases key l with ⟨i1, i2, i3, i4⟩ | ⟨i1, i2, i3, i4⟩
  · rw [if_neg (by omega)]
    exact Prod.ext i3.symm (Prod.ext i4.symm i2.symm)
  · rw [if_pos i1]
    exact Prod.ext i3.symm (Prod.ext i4.symm i2.symm)
/-- The part that a text is. -/
def partL (l : List UInt8) : Option X :=
  match numL (cutC 58 l).1, numL (if (cutC 58 l).2.2 then (cutC 58 l).2.1 else (cutC 58 l).1) with
  | some a, some b => some ⟨a, b⟩
  | _, _ => none
/-- The parts that texts are. -/
def parts : List (List UInt8) → Option (List X)
  | [] => some []
  | p :: r => match partL p, parts r with
    | some x, some l => some (x :: l)
    | _, _ => none
/-- The set that a text is. -/
def setL (l : List UInt8) : Option (List X) := if (splitC 44 l).length ≤ 100 then parts (splitC 44 l) else none
theorem parts_length : ∀ (ps : List (List UInt8)) (l : List X), parts ps = some l → l.length = ps.length
  | [], l, h => by simp [parts] at h; subst h; rfl
  | p :: r, l, h => by
    unfold parts at h
    split at h
    · rename_i x m h1 h2
      cases h
      rw [List.length_cons, List.length_cons, parts_length r m h2]
    · cases h
/-- Part by part: what is taken, and that there are not too many. -/
def runL : List (List UInt8) → List X → Option (List X)
  | [], acc => some acc
  | p :: r, acc => match partL p with
    | none => none
    | some x => if acc.length = 100 then none else runL r (acc ++ [x])
theorem runL_eq : ∀ (ps : List (List UInt8)) (acc : List X), acc.length ≤ 100 → runL ps acc = (parts ps).bind fun l => if acc.length + l.length ≤ 100 then some (acc ++ l) else none
  | [], acc, h => by simp [runL, parts, h]
  | p :: r, acc, h => by
    unfold runL parts
    cases hp : partL p with
    | none => rfl
    | some x =>
      simp only
      by_cases h1 : acc.length = 100
      · rw [if_pos h1]
        cases hr : parts r with
        | none => rfl
        | some l => simp; omega
      · rw [if_neg h1, runL_eq r (acc ++ [x]) (by simp; omega)]
        cases hr : parts r with
        | none => rfl
        | some l => simp [Nat.add_assoc, Nat.add_comm 1]
theorem runL_set (l : List UInt8) : runL (splitC 44 l) [] = setL l := by
  rw [runL_eq _ _ (by simp)]
  unfold setL
  cases h : parts (splitC 44 l) with
  | none => simp
  | some x =>
    have := parts_length _ _ h
    simp [this]
theorem setL_length {l : List UInt8} {xs : List X} (h : setL l = some xs) : xs.length ≤ 100 := by
  unfold setL at h
  split at h
  · rw [parts_length _ _ h]; assumption
  · cases h
/-- The document's way: what stands between :, the first and the last of it. -/
theorem partL_doc (l : List UInt8) : partL l = (match numL ((splitC 58 l).headD []), numL ((splitC 58 l).getLastD []) with
    | some a, some b => if 2 < (splitC 58 l).length then none else some ⟨a, b⟩
    | _, _ => none) := by
  rw [splitC_cut 58 l]
  unfold partL
  generalize cutC 58 l = q
  obtain ⟨a, b, m⟩ := q
  cases m with
  | false => simp
  | true =>
    simp only [if_true, List.headD_cons]
    by_cases hb : (58 : UInt8) ∈ b
    · have h2 := splitC_two hb
      rw [numL_sign hb (by decide) (by decide)]
      cases numL a with
      | none => rfl
      | some x =>
        have h3 : 2 < (a :: splitC 58 b).length := by rw [List.length_cons]; omega
        cases numL ((a :: splitC 58 b).getLastD []) with
        | none => rfl
        | some y => simp only [if_pos h3]
    · rw [splitC_none hb]
      simp
theorem set_awake : setL [50, 58, 52, 44, 42] = some [⟨2, 4⟩, ⟨0, 0⟩] := by decide +kernel
end Go.Proofs.YtbhpgghbpibalaaGreatDoor.sq
namespace Go.Proofs.YtbhpgghbpibalaaGreatDoor.sq
open Go.ChangeShapes Go.WideShapes Go.ChangeAt Go.RowKit
open Go.Proofs.YtbhpgghbpibalaaGreatDoor.row
set_option linter.unusedVariables false
set_option maxRecDepth 100000
set_option linter.unusedSimpArgs false

def cX (x : X) : List Value := [.int .u32 (x.f : Nat), .int .u32 (x.t : Nat)]
theorem fX : Fm cX 2 := ⟨fun _ => rfl, fun y u hu => by simp [cX] at hu; rcases hu with rfl | rfl <;> rfl⟩
theorem atX {w : World} {A : Option Addr} {n : Nat} {ys : List X} (h : Rd cX 2 w A n ys) (k : Nat) (hk : k < n) : ∃ b o y, A = some ⟨b, o, none⟩ ∧ ys[k]? = some y ∧ w.cell? ⟨b, o + k * 2, none⟩ = some (.int .u32 (y.f : Nat)) ∧ w.cell? ⟨b, o + k * 2 + 1, none⟩ = some (.int .u32 (y.t : Nat)) := by
  obtain ⟨b, o, y, h1, h2, h3⟩ := h.2 k hk
  exact ⟨b, o, y, h1, h2, h3 0 _ rfl, h3 1 _ rfl⟩
theorem cell_at {w : World} {b : Nat} {cs : Array Value} {t : TypeId} {m : Nat × Nat} (h : w.heap[b]? = some (.cells cs t m)) (i : Nat) (v : Value) (hv : cs[i]? = some v) : w.cell? ⟨b, i, none⟩ = some v := by
  simp [World.cell?, h, hv]
theorem spanSize (cs : Array Value) (h : cs.size = 2) : (Tryz.prog.info? 105).map (·.size) = some cs.size := by
  rw [h]
  kernel_rfl
/-- What then lies in a part that is stored whole. -/
theorem two {w : World} {g : Nat} {t : TypeId} {cs : Array Value} (h : w.heap[g]? = some (.cells cs t (0, 0))) (hs : cs.size = 2) (v0 v1 : Value) :
    ((w.setCell ⟨g, 0, none⟩ v0).setCell ⟨g, 1, none⟩ v1).heap[g]? = some (.cells #[v0, v1] t (0, 0)) ∧
    (∀ k, k ≠ g → ((w.setCell ⟨g, 0, none⟩ v0).setCell ⟨g, 1, none⟩ v1).heap[k]? = w.heap[k]?) ∧
    ∀ (B : Nat) (a : World), Below B a w → B ≤ g → Below B a ((w.setCell ⟨g, 0, none⟩ v0).setCell ⟨g, 1, none⟩ v1) := by
  refine ⟨?_, fun k hk => by rw [heap_setCell_other _ _ _ _ hk, heap_setCell_other _ _ _ _ hk], fun B a hb hg => (hb.setCell (p := ⟨g, 0, none⟩) hg _).setCell (p := ⟨g, 1, none⟩) hg _⟩
  rw [heap_setCell_same _ g 1 _ t _ (heap_setCell_same _ g 0 _ t _ h)]
  obtain ⟨l⟩ := cs
  have hl : l.length = 2 := hs
  match l, hl with
  | [a0, a1], _ => rfl
end Go.Proofs.YtbhpgghbpibalaaGreatDoor.sq
namespace Go.Proofs.YtbhpgghbpibalaaGreatDoor.sq
open Go.ChangeShapes Go.WideShapes Go.ChangeAt Go.RowKit
open Go.Proofs.YtbhpgghbpibalaaGreatDoor.row
set_option linter.unusedVariables false
set_option maxRecDepth 100000
set_option linter.unusedSimpArgs false

/-- What reading a number answers. -/
def numV (l : List UInt8) : Value := .tuple #[.int .u32 ((numL l).getD 0 : Nat), .bool (numL l).isSome]
theorem numV_none {l : List UInt8} (h : numL l = none) : numV l = .tuple #[.int .u32 0, .bool false] := by unfold numV; rw [h]; rfl
theorem numV_some {l : List UInt8} {v : Nat} (h : numL l = some v) : numV l = .tuple #[.int .u32 (v : Nat), .bool true] := by unfold numV; rw [h]; rfl
theorem first_at (s : ByteArray) (h : 0 < s.size) : ∃ c : UInt8, s.data.toList[0]? = some c ∧ (s[0]'h).toNat = c.toNat ∧ s.data.toList ≠ [] := by
  obtain ⟨c, hc, he⟩ := byt_some s 0 h
  exact ⟨c, hc, by rw [byt_at, he], fun e => by rw [e] at hc; cases hc⟩
set_option maxHeartbeats 1000000 in
theorem pnum_any (w : World) (s : ByteArray) (hs : s.size ≤ 1000000) :
    Calls Tryz.prog 84 #[.string s] w fun e w' => e = .returned (numV s.data.toList) ∧ w' = w := by
  by_cases h1 : s.data.toList = [42]
  · rw [numV_some (v := 0) (by unfold numL; rw [if_pos h1])]
    have hq : (s.toList == [42]) = true := by rw [ByteArray.toList_eq, h1]; rfl
    clear h1
    go_enter Tryz.func84, Tryz.ntmps84
    go_wp2
    go_ret2
    exact ⟨rfl, rfl⟩
  · have hq : (s.toList == [42]) = false := by rw [ByteArray.toList_eq, beq_eq_false_iff_ne]; exact h1
    by_cases h0 : 0 < s.size
    · obtain ⟨c0, hc0, he0, hne⟩ := first_at s h0
      have hn : ¬ s.toList = [] := by rw [ByteArray.toList_eq]; exact hne
      have hi : s.toList.isEmpty = false := by rw [List.isEmpty_eq_false_iff]; exact hn
      by_cases h48 : c0.toNat = 48
      · rw [numV_none (by unfold numL; rw [if_neg h1, if_pos (.inr (by rw [hc0]; exact congrArg some (UInt8.toNat.inj (by simpa using h48))))])]
        have q1 : (((s[0]'h0).toNat : Int) == 48) = true := by rw [he0, beq_iff_eq]; omega
        clear h1 he0 hc0 h48 hne
        go_enter Tryz.func84, Tryz.ntmps84
        go_wp2
        go_ret2
        exact ⟨rfl, rfl⟩
      · have q1 : (((s[0]'h0).toNat : Int) == 48) = false := by rw [he0, beq_eq_false_iff_ne]; omega
        have H2 := Lib.hid (show ¬ (s.data.toList = [] ∨ s.data.toList[0]? = some 48) by
          rintro (h | h)
          · exact hne h
          · rw [hc0] at h
            cases h
            exact h48 rfl)
        have H1 := Lib.hid h1
        clear h1 he0 hc0 h48 hne
        go_enter Tryz.func84, Tryz.ntmps84
        go_wp2
        clear hq q1 hn hi
        go_loop [4, 17] (fun x i => ∃ k v : Nat, k ≤ s.size ∧ i = .int .i64 k ∧ x = .int .u64 v ∧ Hid (v ≤ 4294967295) ∧ Hid (digs (s.data.toList.take k) = some v)) (fun _ i => s.size - (intOf i).toNat)
        case atStart => exact ⟨0, 0, Nat.zero_le _, rfl, rfl, Lib.hid (by omega), Lib.hid rfl⟩
        case round =>
          obtain ⟨k, v, hk, rfl, rfl, HV, HD⟩ := hrel
          by_cases hkl : k < s.size
          · obtain ⟨c, hc, hcb⟩ := byt_some s k hkl
            have e1 : (s[k]).toNat = c.toNat := by rw [byt_at, hcb]
            have HC := Lib.hid hc
            by_cases hd : digB c.toNat = true
            · have hd2 : 48 ≤ c.toNat ∧ c.toNat ≤ 57 := of_decide_eq_true hd
              have HX := Lib.hid (show digs (s.data.toList.take (k + 1)) = some (10 * v + (c.toNat - 48)) by rw [digs_next hc, HD.out, step, Option.bind_some, if_pos hd])
              obtain ⟨m, hm⟩ : ∃ m, m = c.toNat := ⟨_, rfl⟩
              rw [← hm] at e1 HX hd2
              have q1 : decide ((m : Int) < 48) = false := decide_eq_false (by omega)
              have q2 : decide ((57 : Int) < m) = false := decide_eq_false (by omega)
              clear hc hcb hd
              obtain ⟨d, hd⟩ : ∃ d, d = m - 48 := ⟨_, rfl⟩
              obtain ⟨y, hy⟩ : ∃ y, y = 10 * v := ⟨_, rfl⟩
              obtain ⟨x, hx⟩ : ∃ x, x = y + d := ⟨_, rfl⟩
              have q3 : IntKind.u8.wrap ((m : Int) - 48) = (d : Int) := (IntWalk.u8_in _ (by omega)).trans (by omega)
              have q4 : IntKind.u64.wrap (d : Int) = (d : Int) := IntWalk.u64_in _ (by omega)
              have q5 : IntKind.u64.wrap (10 * (v : Int)) = (y : Int) := (IntWalk.u64_in _ (by have := HV.out; omega)).trans (by omega)
              have q6 : IntKind.u64.wrap ((y : Int) + (d : Int)) = (x : Int) := (IntWalk.u64_in _ (by have := HV.out; omega)).trans (by omega)
              have HX2 := Lib.hid (show digs (s.data.toList.take (k + 1)) = some x by rw [HX.out, hx, hy, hd])
              clear hd2 hm HX hd hy hx
              go_wp2
              all_goals clear q1 q2 q3 q4 q5 q6
              all_goals first
                | (go_ret2; rw [numV_none (numL_great H1.out HX2.out (by omega))]; exact ⟨rfl, rfl⟩)
                | (go_round
                   case rel => first | exact ⟨k + 1, x, by omega, by go_num, rfl, Lib.hid (by omega), HX2⟩ | ((repeat apply Exists.intro); exact ⟨⟨k + 1, x, by omega, by go_num, rfl, Lib.hid (by omega), HX2⟩, rfl⟩)
                   case measure => (show s.size - ((k : Int) + 1).toNat < s.size - k; omega))
            · have HN := Lib.hid (numL_bad H1.out (digs_bad hc (by simpa using hd)))
              have hd2 : ¬ (48 ≤ c.toNat ∧ c.toNat ≤ 57) := fun h => hd (decide_eq_true h)
              obtain ⟨m, hm⟩ : ∃ m, m = c.toNat := ⟨_, rfl⟩
              rw [← hm] at e1 hd2
              clear hc hcb hd hm
              go_wp2
              all_goals first
                | (exfalso; omega)
                | (go_ret2; rw [numV_none HN.out]; exact ⟨rfl, rfl⟩)
          · obtain rfl : k = s.size := by omega
            have HE := Lib.hid (show numL s.data.toList = some v from numL_is H1.out H2.out (by have := HD.out; rwa [← len_eq, List.take_length] at this) HV.out)
            have q6 : IntKind.u32.wrap (v : Int) = (v : Int) := IntWalk.u32_in _ (by have := HV.out; omega)
            go_wp2
            go_ret2
            rw [numV_some HE.out]
            exact ⟨rfl, rfl⟩
    · have he : s.data.toList = [] := List.eq_nil_of_length_eq_zero (by rw [len_eq]; omega)
      rw [numV_none (by unfold numL; rw [if_neg h1, if_pos (.inl he)])]
      have hn : s.toList = [] := by rw [ByteArray.toList_eq]; exact he
      have hi : s.toList.isEmpty = true := by rw [hn]; rfl
      clear h1 he
      go_enter Tryz.func84, Tryz.ntmps84
      go_wp2
      go_ret2
      exact ⟨rfl, rfl⟩
end Go.Proofs.YtbhpgghbpibalaaGreatDoor.sq
namespace Go.Proofs.YtbhpgghbpibalaaGreatDoor.sq
open Go.ChangeShapes Go.WideShapes Go.ChangeAt Go.RowKit
open Go.Proofs.YtbhpgghbpibalaaGreatDoor.row
set_option linter.unusedVariables false
set_option maxRecDepth 100000
set_option linter.unusedSimpArgs false

/-- A library's variable holds some number. -/
def Room (w : World) : Prop := ∃ m, w.cell? ⟨0, 0, none⟩ = some (.int .i64 m)
theorem Room.below {w w' : World} (h : Room w) (hb : Below w.heap.size w w') : Room w' := by
  obtain ⟨m, hm⟩ := h
  exact ⟨m, (hb.cell (p := ⟨0, 0, none⟩) (block_lt_of_cell hm)).trans hm⟩
/-- What a cut answers. -/
def CutAns (c : UInt8) (w : World) (s : ByteArray) (e : Ending) (w' : World) : Prop :=
  ∃ a b : ByteArray, e = .returned (.tuple #[.string a, .string b, .bool (cutC c s.data.toList).2.2]) ∧ a.data.toList = (cutC c s.data.toList).1 ∧ b.data.toList = (cutC c s.data.toList).2.1 ∧ a.size + b.size + (if (cutC c s.data.toList).2.2 then 1 else 0) = s.size ∧ Below w.heap.size w w'
theorem cut_any (w : World) (s : ByteArray) (c : UInt8) (hs : s.size ≤ 1000000) (hr : Room w) :
    Calls Tryz.prog 69 #[.string s, .string ⟨#[c]⟩] w fun e w' => CutAns c w s e w' := by
  obtain ⟨m, hm⟩ := hr
  refine (Tryz.strings_Cut s ⟨#[c]⟩ m w (by omega) hm).mono ?_
  rintro e w' ⟨he, n, rfl⟩
  have hc : Lib.cut s.data.toList (⟨#[c]⟩ : ByteArray).data.toList = cutC c s.data.toList := cut_eq c _
  rw [hc] at he
  refine ⟨_, _, he, rfl, rfl, ?_, codec.below_draws (Below.refl _ _) n⟩
  rw [← len_eq s, ← cutC_length c s.data.toList]
  simp [ByteArray.size]
theorem results_cell_tmp {P : Program} {fn : Func} {p q : Tmp} {ty : TypeId} (h : fn.results = #[.cell p ty, .tmp q]) (tmps : Array Value) (w : World) (g : Nat) (t : TypeId) (cs : Array Value) (fr : Nat × Nat) (d : TypeDesc)
    (hp : tmps.getD p undef = .pointer (some ⟨g, 0, none⟩)) (hg : w.heap[g]? = some (.cells cs t fr))
    (hu : P.underlying ty = some d) (hd : (match d with | .struct _ | .array _ _ => true | _ => false) = true) (hi : (P.info? ty).map (·.size) = some cs.size) :
    (results fn tmps).run P w = .ok (.tuple #[.agg cs, tmps.getD q undef]) w := by
  have hp' : tmps[p]?.getD undef = .pointer (some ⟨g, 0, none⟩) := by simpa using hp
  simp [results, h, hp', asAddr, run_loadVar_row w g t ty cs fr d hg hu hd hi]
/-- What reading a part answers. -/
def PartAns (l : List UInt8) (w : World) (e : Ending) (w' : World) : Prop :=
  ∃ f t : Nat, e = .returned (.tuple #[.agg #[.int .u32 (f : Nat), .int .u32 (t : Nat)], .bool (partL l).isSome]) ∧ (∀ x, partL l = some x → x = ⟨f, t⟩) ∧ Below w.heap.size w w'
theorem numV_form (l : List UInt8) : ∃ (f : Nat) (b : Bool), numV l = .tuple #[.int .u32 (f : Nat), .bool b] ∧ (b = true → numL l = some f) ∧ (b = false → numL l = none) := by
  refine ⟨_, _, rfl, fun h => ?_, fun h => ?_⟩
  · obtain ⟨v, hv⟩ := Option.isSome_iff_exists.1 h
    rw [hv]
    rfl
  · simpa using h
theorem partAns_of {l : List UInt8} {w w' : World} {f t : Nat} {b d : Bool} (h1 : b = true → numL (cutC 58 l).1 = some f) (h2 : b = false → numL (cutC 58 l).1 = none)
    (h3 : d = true → numL (if (cutC 58 l).2.2 then (cutC 58 l).2.1 else (cutC 58 l).1) = some t) (h4 : d = false → numL (if (cutC 58 l).2.2 then (cutC 58 l).2.1 else (cutC 58 l).1) = none) (hb : Below w.heap.size w w') :
    PartAns l w (.returned (.tuple #[.agg #[.int .u32 (f : Nat), .int .u32 (t : Nat)], .bool (b && d)])) w' := by
  have key : (partL l).isSome = (b && d) ∧ ∀ x, partL l = some x → x = ⟨f, t⟩ := by
    unfold partL
    cases b with
    | false => rw [h2 rfl]; exact ⟨rfl, fun x h => by cases h⟩
    | true =>
      rw [h1 rfl]
      cases d with
      | false => rw [h4 rfl]; exact ⟨rfl, fun x h => by cases h⟩
      | true => rw [h3 rfl]; exact ⟨rfl, fun x h => by cases h; rfl⟩
  exact ⟨f, t, by rw [key.1], key.2, hb⟩
set_option maxHeartbeats 1000000 in
theorem part_any (w : World) (s : ByteArray) (hs : s.size ≤ 1000000) (hr : Room w) :
    Calls Tryz.prog 70 #[.string s] w fun e w' => PartAns s.data.toList w e w' := by
  obtain ⟨W1, hW1⟩ : ∃ W1, W1 = w.alloc (.cells #[.int .u32 0, .int .u32 0] 105) := ⟨_, rfl⟩
  have HB := Lib.hid (show Below w.heap.size w W1 by rw [hW1]; exact (Below.refl _ _).alloc (Nat.le_refl _) _)
  have HX := Lib.hid (show W1.heap[w.heap.size]? = some (.cells #[.int .u32 0, .int .u32 0] 105 (0, 0)) by rw [hW1]; exact heap_alloc_new _ _)
  have HC := Lib.hid (cut_any W1 s 58 hs (hr.below HB.out))
  have HW1 := Lib.hid hW1
  clear hr hW1
  go_enter Tryz.func70, Tryz.ntmps70
  go_wp2_with fail
  rw [← HW1.out]
  refine HC.out.mono ?_
  rintro e w2 ⟨a, b, rfl, ha, hb, hz, hbel⟩
  have HB2 := Lib.hid (HB.out.trans (hbel.mono HB.out.size))
  have hx2 : w2.heap[w.heap.size]? = some (.cells #[.int .u32 0, .int .u32 0] 105 (0, 0)) := (hbel.block _ (Array.getElem?_eq_some_iff.1 HX.out).1).trans HX.out
  have HX2 := Lib.hid hx2
  have HA := Lib.hid (fun w => pnum_any w a (by omega))
  have HBn := Lib.hid (fun w => pnum_any w b (by omega))
  rw [ha] at HA
  rw [hb] at HBn
  have c0 := cell_at hx2 0 _ rfl
  have c1 := cell_at hx2 1 _ rfl
  have z0 := frozen_of_row _ _ 0 _ _ hx2
  have z1 := frozen_of_row _ _ 1 _ _ hx2
  obtain ⟨f, p, e1, f1, f2⟩ := numV_form (cutC 58 s.data.toList).1
  obtain ⟨t, q, e2, t1, t2⟩ := numV_form (cutC 58 s.data.toList).2.1
  have HF := Lib.hid (And.intro f1 f2)
  have HT := Lib.hid (And.intro t1 t2)
  rw [e1] at HA
  rw [e2] at HBn
  clear ha hb hz hbel hx2 e1 e2 f1 f2 t1 t2
  cases hm : (cutC 58 s.data.toList).2.2
  · have HM := Lib.hid hm
    obtain ⟨k1, k2, k3⟩ := two HX2.out rfl (.int .u32 (f : Nat)) (.int .u32 (f : Nat))
    have HK := Lib.hid k1
    have HL := Lib.hid (partAns_of (l := s.data.toList) (w := w) (b := p) (d := p) (f := f) (t := f) HF.out.1 HF.out.2 (by rw [hm]; exact HF.out.1) (by rw [hm]; exact HF.out.2) (k3 _ _ HB2.out (Nat.le_refl _)))
    clear hm k1 k2 k3
    cases p <;> (go_wp2_with (go_at_call 84; with_reducible refine Calls.mono (HA.out _) ?_; rintro e w3 ⟨rfl, hw⟩; replace hw := hw.symm; subst hw); exact bodyPost_ret (results_cell_tmp Tryz.results70 _ _ w.heap.size _ _ _ _ rfl HK.out Tryz.underlying105 rfl (spanSize _ rfl)) rfl HL.out)
  · have HM := Lib.hid hm
    obtain ⟨k1, k2, k3⟩ := two HX2.out rfl (.int .u32 (f : Nat)) (.int .u32 (t : Nat))
    have HK := Lib.hid k1
    have HL := Lib.hid (partAns_of (l := s.data.toList) (w := w) (b := p) (d := q) (f := f) (t := t) HF.out.1 HF.out.2 (by rw [hm]; exact HT.out.1) (by rw [hm]; exact HT.out.2) (k3 _ _ HB2.out (Nat.le_refl _)))
    clear hm k1 k2 k3
    cases p <;> (go_wp2_with (go_at_call 84; first | (with_reducible refine Calls.mono (HA.out _) ?_; rintro e w3 ⟨rfl, hw⟩; replace hw := hw.symm; subst hw) | (with_reducible refine Calls.mono (HBn.out _) ?_; rintro e w3 ⟨rfl, hw⟩; replace hw := hw.symm; subst hw)); exact bodyPost_ret (results_cell_tmp Tryz.results70 _ _ w.heap.size _ _ _ _ rfl HK.out Tryz.underlying105 rfl (spanSize _ rfl)) rfl HL.out)
end Go.Proofs.YtbhpgghbpibalaaGreatDoor.sq
namespace Go.Proofs.YtbhpgghbpibalaaGreatDoor.sq
open Go.ChangeShapes Go.WideShapes Go.ChangeAt Go.RowKit
open Go.Proofs.YtbhpgghbpibalaaGreatDoor.row
set_option linter.unusedVariables false
set_option maxRecDepth 100000
set_option linter.unusedSimpArgs false

/-- The document's words: from one to the other, whichever is greater. -/
theorem inX_eq (x : X) (n g : Nat) : inX x n g = (decide (told x.f g ≤ n) && decide (n ≤ told x.t g) || decide (told x.t g ≤ n) && decide (n ≤ told x.f g)) := by
  unfold inX lo hi
  rw [Bool.eq_iff_iff]
  simp only [Bool.or_eq_true, Bool.and_eq_true, decide_eq_true_eq]
  omega
theorem any_at {α : Type} {p : α → Bool} {l : List α} {k : Nat} {x : α} (h : l[k]? = some x) : (l.drop k).any p = (p x || (l.drop (k + 1)).any p) := by
  obtain ⟨h1, h2⟩ := List.getElem?_eq_some_iff.1 h
  rw [List.drop_eq_getElem_cons h1, List.any_cons, h2]
theorem any_end {α : Type} {p : α → Bool} {l : List α} {k : Nat} (h : l.length ≤ k) : (l.drop k).any p = false := by
  rw [List.drop_eq_nil_of_le h]
  rfl
/-- Does a part hold it, where one is asked at all? -/
def inN (x : X) (n g : Nat) : Bool := decide (1 ≤ n) && inX x n g
theorem hasB_eq (l : List X) (n g : Nat) : hasB l n g = l.any fun x => inN x n g := by
  unfold hasB inN
  by_cases h : n = 0
  · subst h
    rw [show (l.any fun x => decide (1 ≤ 0) && inX x 0 g) = false from any_no fun j x _ => rfl]
    rfl
  · rw [decide_eq_true h, Bool.true_and]
    congr 1
    funext x
    rw [decide_eq_true (by omega : 1 ≤ n), Bool.true_and]
theorem take_next {α : Type} {l : List α} {k : Nat} {x : α} (h : l[k]? = some x) : l.take (k + 1) = l.take k ++ [x] := by
  rw [List.take_add_one, h]
  rfl
end Go.Proofs.YtbhpgghbpibalaaGreatDoor.sq
namespace Go.Proofs.YtbhpgghbpibalaaGreatDoor.sq
open Go.ChangeShapes Go.WideShapes Go.ChangeAt Go.RowKit
open Go.Proofs.YtbhpgghbpibalaaGreatDoor.row
set_option linter.unusedVariables false
set_option maxRecDepth 100000
set_option linter.unusedSimpArgs false

/-- What reading a set answers. -/
def SetAns (W : World) (o : Option (List X)) (e : Ending) (w' : World) : Prop :=
  Below W.heap.size W w' ∧ ((o = none ∧ e = .returned (.tuple #[.slice none 0 0, .bool false])) ∨ ∃ xs A c, o = some xs ∧ e = .returned (.tuple #[.slice A xs.length c, .bool true]) ∧ Rd cX 2 w' A xs.length xs)
/-- What is left to read. -/
def left : Value → Value → Nat
  | .string b, .bool m => b.size + (if m then 1 else 0)
  | _, _ => 0
theorem infoSp : (Tryz.prog.info? 105).map (fun i => (i.zero, i.size, i.bytes)) = some (some (.agg #[.int .u32 0, .int .u32 0]), 2, 8) := by kernel_rfl
/-- Parts that have been read. -/
def PS (W : World) (l : List UInt8) (r : ByteArray) (acc : List X) (mo : Bool) (v : Value) (w : World) : Prop :=
  Own cX 2 W.heap.size 105 w v acc ∧ Below W.heap.size W w ∧ acc.length ≤ 100 ∧ runL (splitC 44 l) [] = if mo then runL (splitC 44 r.data.toList) acc else some acc
theorem own_slice {α : Type} {F : α → List Value} {K B : Nat} {E : TypeId} {w : World} {v : Value} {ys : List α} (h : Own F K B E w v ys) : ∃ A c, v = .slice A ys.length c := by
  rcases h.2 with ⟨e, h0⟩ | ⟨g, cap, cur, e, hB, hg, hc, _⟩
  · exact ⟨none, 0, by rw [h0]; exact e⟩
  · exact ⟨_, cap, e⟩
set_option maxHeartbeats 2000000 in
theorem parse_any (W : World) (s : ByteArray) (hs : s.size ≤ 1000000) (hr : Room W) :
    Calls Tryz.prog 53 #[.string s] W fun e w' => SetAns W (setL s.data.toList) e w' := by
  rw [← runL_set]
  have HRm := Lib.hid hr
  clear hr
  go_enter Tryz.func53, Tryz.ntmps53
  go_wp2
  go_loopw [0, 4, 5] (fun x v y wr => ∃ (r : ByteArray) (acc : List X) (mo : Bool), r.size ≤ s.size ∧ x = .string r ∧ y = .bool mo ∧ Hid (PS W s.data.toList r acc mo v wr)) (fun x v y _ => left x y)
  case atStart => exact ⟨s, [], true, Nat.le_refl _, rfl, rfl, Lib.hid ⟨Own.nil _ _ _ _ _, Below.refl _ _, by simp, rfl⟩⟩
  case round =>
    obtain ⟨r, acc, mo, hrs, rfl, rfl, HP⟩ := hrel
    have HO := Lib.hid HP.out.1
    have HB := Lib.hid HP.out.2.1
    have HL := Lib.hid HP.out.2.2.1
    have HQ := Lib.hid HP.out.2.2.2
    cases mo
    · go_wp2
      go_ret2
      obtain ⟨A, c, rfl, _, _, hR⟩ := HO.out.rd fX
      refine ⟨HB.out, .inr ⟨acc, A, c, HQ.out, rfl, hR⟩⟩
    · have HC := Lib.hid (cut_any wr r 44 (by omega) (HRm.out.below HB.out))
      go_wp2_with fail
      refine HC.out.mono ?_
      rintro e w2 ⟨a, b, rfl, ha, hb, hz, hbel⟩
      have HB2 := Lib.hid (HB.out.trans (hbel.mono HB.out.size))
      have HO2 := Lib.hid (HO.out.below hbel)
      have HA := Lib.hid (And.intro ha (And.intro hb hz))
      have HPt := Lib.hid (part_any w2 a (by omega) (HRm.out.below HB2.out))
      clear ha hb hz hbel
      go_wp2_with fail
      refine HPt.out.mono ?_
      rintro e w3 ⟨f, t, rfl, hx, hbel⟩
      have HB3 := Lib.hid (HB2.out.trans (hbel.mono HB2.out.size))
      have HO3 := Lib.hid (HO2.out.below hbel)
      have HX := Lib.hid hx
      obtain ⟨A3, c3, hv3⟩ := own_slice HO3.out
      have HV3 := Lib.hid hv3
      obtain ⟨ln, hln⟩ : ∃ ln, ln = acc.length := ⟨_, rfl⟩
      rw [← hln] at hv3
      subst hv3
      have HLn := Lib.hid hln
      clear hx hbel hln
      have HS := Lib.hid (splitC_cut 44 r.data.toList)
      rw [HA.out.1.symm, HA.out.2.1.symm] at HS
      generalize (cutC 44 r.data.toList).2.2 = m at *
      have HR1 := Lib.hid (show runL (splitC 44 s.data.toList) [] = runL (a.data.toList :: (if m then splitC 44 b.data.toList else [])) acc by have h9 := HQ.out; simp only [if_true] at h9; rw [h9, HS.out])
      cases hp : partL a.data.toList with
      | none =>
        have HN := Lib.hid (show runL (splitC 44 s.data.toList) [] = none by rw [HR1.out, runL, hp])
        rw [Option.isSome_none]
        clear hp
        go_wp2_with fail
        go_ret2
        exact ⟨HB3.out.alloc HB3.out.size _, .inl ⟨HN.out, rfl⟩⟩
      | some x =>
        obtain rfl := HX.out x hp
        rw [Option.isSome_some]
        by_cases h100 : ln = 100
        · have HN := Lib.hid (show runL (splitC 44 s.data.toList) [] = none by rw [HR1.out, runL, hp]; exact if_pos (by rw [← HLn.out]; exact h100))
          have q1 : ((ln : Int) == 100) = true := by rw [beq_iff_eq]; omega
          clear hp h100
          go_wp2_with fail
          go_ret2
          exact ⟨HB3.out.alloc HB3.out.size _, .inl ⟨HN.out, rfl⟩⟩
        · have HN := Lib.hid (show runL (splitC 44 s.data.toList) [] = if m then runL (splitC 44 b.data.toList) (acc ++ [⟨f, t⟩]) else some (acc ++ [⟨f, t⟩]) by rw [HR1.out, runL, hp]; simp only; rw [if_neg (by rw [← HLn.out]; exact h100)]; cases m <;> rfl)
          have q1 : ((ln : Int) == 100) = false := by rw [beq_eq_false_iff_ne]; omega
          have HL2 := Lib.hid (show (acc ++ [(⟨f, t⟩ : X)]).length ≤ 100 by rw [List.length_append]; have := HL.out; have := HLn.out; simp; omega)
          have HO4 := Lib.hid (HO3.out.alloc (.cells #[.int .u32 (f : Nat), .int .u32 (t : Nat)] 105))
          have HB4 := Lib.hid (HB3.out.alloc HB3.out.size (.cells #[.int .u32 (f : Nat), .int .u32 (t : Nat)] 105))
          have HM : Hid (acc.length ≤ 20000000) := Lib.hid (by have := HL.out; omega)
          clear hp h100
          go_wp2_with (at_builtin; refine row.wpList_append_own fX (by decide) (by decide) (by_ := 8) (by decide) (z := .agg #[.int .u32 0, .int .u32 0]) rfl rfl (.tmp 28) (.tmp 30) 25 105 rfl Tryz.underlying25 infoSp W.heap.size (.slice A3 ln c3) _ rfl HO4.out HB4.out.size HM.out ⟨f, t⟩ (0, 0) _ (by simp) rfl _ rfl ?_; intro v1 w1 ho hg h3; have HS1 := Lib.hid (show PS W s.data.toList b (acc ++ [⟨f, t⟩]) m v1 w1 from ⟨ho, grown_below HB4.out HO4.out hg, HL2.out, HN.out⟩); clear ho hg h3)
          have HZ := HA.out.2.2
          go_roundw
          case rel => first | exact ⟨b, acc ++ [⟨f, t⟩], m, by omega, rfl, rfl, HS1⟩ | ((repeat apply Exists.intro); exact ⟨⟨b, acc ++ [⟨f, t⟩], m, by omega, rfl, rfl, HS1⟩, rfl⟩)
          case measure => (show b.size + (if m then 1 else 0) < r.size + 1; omega)
end Go.Proofs.YtbhpgghbpibalaaGreatDoor.sq
