/- Plain mathematics of sets: numbers, parts, what stands between signs. -/
import Derived.Test.YtcepcamedmiinaaGreatDoorMb0
import Derived.Lib.CutLaws
import Derived.Lib.IndexBytes
import Derived.Lib.Strings
import Derived.Test.YtcepcamedmiinaaGreatDoorMs
namespace Go.Proofs.YtcepcamedmiinaaGreatDoor.sq
open Go.Lib

/-- Byte i of s. -/
def byt (s : ByteArray) (i : Nat) : Nat := (s.data[i]!).toNat
theorem byt_at (s : ByteArray) (i : Nat) (h : i < s.size) : (s[i]'h).toNat = byt s i := by
  unfold byt
  rw [getElem!_pos s.data i (by simpa using h)]; rfl
theorem byt_lt (s : ByteArray) (i : Nat) : byt s i < 256 := UInt8.toNat_lt _
theorem byt_some (s : ByteArray) (i : Nat) (h : i < s.size) : ∃ c : UInt8, s.data.toList[i]? = some c ∧ c.toNat = byt s i := by
  have h' : i < s.data.toList.length := by rw [← size_eq]; exact h
  refine ⟨_, List.getElem?_eq_getElem h', ?_⟩
  unfold byt
  rw [getElem!_pos s.data i (by simpa using h)]
  simp
theorem len_eq (s : ByteArray) : s.data.toList.length = s.size := (size_eq s).symm

def digB (c : Nat) : Bool := decide (48 ≤ c ∧ c ≤ 57)
def step (o : Option Nat) (c : UInt8) : Option Nat := o.bind fun v => if digB c.toNat then some (10 * v + (c.toNat - 48)) else none
/-- The number that digits are. -/
def digs (l : List UInt8) : Option Nat := l.foldl step (some 0)
theorem fold_none : ∀ l : List UInt8, l.foldl step none = none
  | [] => rfl
  | _ :: r => fold_none r
theorem digs_next {l : List UInt8} {k : Nat} {c : UInt8} (h : l[k]? = some c) : digs (l.take (k + 1)) = step (digs (l.take k)) c := by
  unfold digs
  rw [List.take_add_one, h, List.foldl_append]
  rfl
theorem digs_split (l : List UInt8) (k : Nat) : digs l = (l.drop k).foldl step (digs (l.take k)) := by
  unfold digs
  rw [← List.foldl_append, List.take_append_drop]
theorem digs_bad {l : List UInt8} {k : Nat} {c : UInt8} (h : l[k]? = some c) (hc : digB c.toNat = false) : digs l = none := by
  rw [digs_split l (k + 1), digs_next h]
  have : step (digs (l.take k)) c = none := by
    unfold step
    cases digs (l.take k) <;> simp [hc]
  rw [this, fold_none]
theorem fold_bounds : ∀ (l : List UInt8) (v v' : Nat), l.foldl step (some v) = some v' → v * 10 ^ l.length ≤ v' ∧ v' < (v + 1) * 10 ^ l.length
  | [], v, v', h => by
    simp at h
    subst h
    simp
  | c :: r, v, v', h => by
    rw [List.foldl_cons] at h
    unfold step at h
    simp only [Option.bind_some] at h
    by_cases hc : digB c.toNat = true
    · rw [if_pos hc] at h
      have hd : 48 ≤ c.toNat ∧ c.toNat ≤ 57 := of_decide_eq_true hc
      obtain ⟨h1, h2⟩ := fold_bounds r _ v' h
      rw [List.length_cons, Nat.pow_succ]
      have e1 : v * (10 ^ r.length * 10) = (10 * v) * 10 ^ r.length := by rw [Nat.mul_comm (10 ^ r.length) 10, ← Nat.mul_assoc, Nat.mul_comm v 10]
      have e2 : (v + 1) * (10 ^ r.length * 10) = (10 * v + 10) * 10 ^ r.length := by rw [Nat.mul_comm (10 ^ r.length) 10, ← Nat.mul_assoc, Nat.mul_comm (v + 1) 10, Nat.mul_add]
      rw [e1, e2]
      exact ⟨Nat.le_trans (Nat.mul_le_mul_right _ (by omega)) h1, Nat.lt_of_lt_of_le h2 (Nat.mul_le_mul_right _ (by omega))⟩
    · rw [if_neg hc] at h
      have := fold_none r
      unfold step at this
      rw [this] at h
      cases h
theorem digs_ge {l : List UInt8} {k v v' : Nat} (h : digs (l.take k) = some v) (h' : digs l = some v') : v ≤ v' := by
  rw [digs_split l k, h] at h'
  exact Nat.le_trans (Nat.le_mul_of_pos_right v (Nat.pow_pos (by decide))) (fold_bounds _ _ _ h').1
theorem digs_lt {l : List UInt8} {v : Nat} (h : digs l = some v) : v < 10 ^ l.length := by
  have := (fold_bounds l 0 v h).2
  simpa using this
theorem digs_first {c : UInt8} {r : List UInt8} {v : Nat} (hc : c.toNat ≠ 48) (h : digs (c :: r) = some v) : 10 ^ r.length ≤ v := by
  have h1 : digB c.toNat = true := by
    cases hb : digB c.toNat with
    | true => rfl
    | false => rw [digs_bad (l := c :: r) (k := 0) rfl hb] at h; cases h
  have hd : 48 ≤ c.toNat ∧ c.toNat ≤ 57 := of_decide_eq_true h1
  unfold digs at h
  rw [List.foldl_cons, step] at h
  simp only [Option.bind_some, h1, if_true] at h
  have := (fold_bounds r _ v h).1
  refine Nat.le_trans ?_ this
  exact Nat.le_mul_of_pos_left _ (by omega)
/-- The number that a text is; 0: a star. -/
def numL (l : List UInt8) : Option Nat :=
  if l = [42] then some 0 else
  if l = [] ∨ l[0]? = some 48 then none else
  match digs l with
  | some v => if v ≤ 4294967295 then some v else none
  | none => none
theorem numL_lt {l : List UInt8} {v : Nat} (h : numL l = some v) : v ≤ 4294967295 := by
  unfold numL at h
  split at h
  · cases h; omega
  · split at h
    · cases h
    · split at h
      · split at h
        · cases h; assumption
        · cases h
      · cases h
theorem numL_bad {l : List UInt8} (h1 : l ≠ [42]) (h : digs l = none) : numL l = none := by
  unfold numL
  rw [if_neg h1, h]
  split <;> rfl
theorem numL_great {l : List UInt8} {k v : Nat} (h1 : l ≠ [42]) (h : digs (l.take k) = some v) (hv : 4294967295 < v) : numL l = none := by
  unfold numL
  rw [if_neg h1]
  split
  · rfl
  · cases hd : digs l with
    | none => rfl
    | some u => exact if_neg (by have := digs_ge h hd; omega)
theorem numL_is {l : List UInt8} {v : Nat} (h1 : l ≠ [42]) (h2 : ¬ (l = [] ∨ l[0]? = some 48)) (h : digs l = some v) (hv : v ≤ 4294967295) : numL l = some v := by
  unfold numL
  rw [if_neg h1, if_neg h2, h]
  exact if_pos hv
/-- What holds a sign that stands in no number is none. -/
theorem numL_sign {l : List UInt8} {c : UInt8} (h : c ∈ l) (hc : digB c.toNat = false) (h42 : c ≠ 42) : numL l = none := by
  refine numL_bad (fun e => ?_) ?_
  · subst e
    simp at h
    exact h42 h
  · obtain ⟨k, hk⟩ := List.mem_iff_getElem?.1 h
    exact digs_bad hk hc
theorem numL_long {l : List UInt8} (h : 10 < l.length) : numL l = none := by
  unfold numL
  split
  · rename_i e; subst e; simp at h
  · split
    · rfl
    · rename_i h2
      match l, h, h2 with
      | c :: r, h, h2 =>
        cases hd : digs (c :: r) with
        | none => rfl
        | some v =>
          have hc : c.toNat ≠ 48 := fun e => h2 (.inr (by simp; exact UInt8.toNat.inj (by simpa using e)))
          have h3 := digs_first hc hd
          have h4 : 10 ^ 10 ≤ 10 ^ r.length := Nat.pow_le_pow_right (by decide) (by simp at h; omega)
          exact if_neg (by have : (10 : Nat) ^ 10 = 10000000000 := by decide
                           omega)

/-- What stands ahead of a sign, what behind it, and whether it stands there. -/
def cutC (c : UInt8) : List UInt8 → List UInt8 × List UInt8 × Bool
  | [] => ([], [], false)
  | b :: l => if b = c then ([], l, true) else (b :: (cutC c l).1, (cutC c l).2.1, (cutC c l).2.2)
/-- What stands between signs. -/
def splitC (c : UInt8) : List UInt8 → List (List UInt8)
  | [] => [[]]
  | b :: l => if b = c then [] :: splitC c l else (b :: (splitC c l).headD []) :: (splitC c l).tail
theorem splitC_ne (c : UInt8) (l : List UInt8) : splitC c l ≠ [] := by
  cases l with
  | nil => simp [splitC]
  | cons b l => unfold splitC; split <;> simp
theorem splitC_cut (c : UInt8) : ∀ l : List UInt8, splitC c l = (cutC c l).1 :: (if (cutC c l).2.2 then splitC c (cutC c l).2.1 else [])
  | [] => rfl
  | b :: l => by
    by_cases h : b = c
    · rw [splitC, cutC, if_pos h, if_pos h]
      rfl
    · rw [splitC, cutC, if_neg h, if_neg h, splitC_cut c l]
      rfl
theorem cutC_length (c : UInt8) : ∀ l : List UInt8, (cutC c l).1.length + (cutC c l).2.1.length + (if (cutC c l).2.2 then 1 else 0) = l.length
  | [] => rfl
  | b :: l => by
    unfold cutC
    split
    · simp
    · have := cutC_length c l
      simp
      omega
theorem splitC_none {c : UInt8} : ∀ {l : List UInt8}, c ∉ l → splitC c l = [l]
  | [], _ => rfl
  | b :: l, h => by
    have h1 : b ≠ c := fun e => h (by simp [e])
    have := splitC_none (c := c) (l := l) (fun e => h (by simp [e]))
    unfold splitC
    rw [if_neg h1, this]
    rfl
theorem splitC_two {c : UInt8} : ∀ {l : List UInt8}, c ∈ l → 2 ≤ (splitC c l).length
  | [], h => by simp at h
  | b :: l, h => by
    unfold splitC
    split
    · have := splitC_ne c l
      have : 0 < (splitC c l).length := List.length_pos_iff.2 this
      simp
      omega
    · rename_i hb
      have h2 : c ∈ l := by
        rcases List.mem_cons.1 h with e | e
        · exact absurd e.symm hb
        · exact e
      have := splitC_two h2
      rw [List.length_cons, List.length_tail]
      omega
theorem cut_eq (c : UInt8) (l : List UInt8) : Lib.cut l [c] = cutC c l := by
  have key : ∀ l : List UInt8, (Lib.index l [c] = -1 ∧ (cutC c l).2.2 = false ∧ (cutC c l).1 = l ∧ (cutC c l).2.1 = []) ∨ (0 ≤ Lib.index l [c] ∧ (cutC c l).2.2 = true ∧ (cutC c l).1 = l.take (Lib.index l [c]).toNat ∧ (cutC c l).2.1 = l.drop ((Lib.index l [c]).toNat + 1)) := by
    intro l
    induction l with
    | nil => left; simp [Lib.index, cutC]
    | cons b l ih =>
      by_cases h : b = c
      · right
        subst h
        simp [Lib.index, cutC, List.isPrefixOf]
      · have hp : ([c] : List UInt8).isPrefixOf (b :: l) = false := by simp [List.isPrefixOf, Ne.symm h]
        have hi : Lib.index (b :: l) [c] = if Lib.index l [c] == -1 then -1 else Lib.index l [c] + 1 := by
          rw [Lib.index, hp]
          simp
        have hc : cutC c (b :: l) = (b :: (cutC c l).1, (cutC c l).2.1, (cutC c l).2.2) := by rw [cutC, if_neg h]
        rw [hc, hi]
        rcases ih with ⟨i1, i2, i3, i4⟩ | ⟨i1, i2, i3, i4⟩
        · left
          rw [i1]
          exact ⟨rfl, i2, by rw [i3], i4⟩
        · right
          have hne : (Lib.index l [c] == -1) = false := by rw [beq_eq_false_iff_ne]; omega
          rw [hne]
          have e : (Lib.index l [c] + 1).toNat = (Lib.index l [c]).toNat + 1 := by omega
          refine ⟨by simp; omega, i2, ?_, ?_⟩
          · simp [e, i3]
          · simp [e, i4]
  unfold Lib.cut
  rcases key l with ⟨i1, i2, i3, i4⟩ | ⟨i1, i2, i3, i4⟩
  · rw [if_neg (by omega)]
    exact Prod.ext i3.symm (Prod.ext i4.symm i2.symm)
  · rw [if_pos i1]
    exact Prod.ext i3.symm (Prod.ext i4.symm i2.symm)
/-- The part that a text is. -/
def partL (l : List UInt8) : Option X :=
  match numL (cutC 58 l).1, numL (if (cutC 58 l).2.2 then (cutC 58 l).2.1 else (cutC 58 l).1) with
  | some a, some b => some ⟨a, b⟩
  | _, _ => none
/-- The parts that texts are. -/
def parts : List (List UInt8) → Option (List X)
  | [] => some []
  | p :: r => match partL p, parts r with
    | some x, some l => some (x :: l)
    | _, _ => none
/-- The set that a text is. -/
def setL (l : List UInt8) : Option (List X) := if (splitC 44 l).length ≤ 100 then parts (splitC 44 l) else none
theorem parts_length : ∀ (ps : List (List UInt8)) (l : List X), parts ps = some l → l.length = ps.length
  | [], l, h => by simp [parts] at h; subst h; rfl
  | p :: r, l, h => by
    unfold parts at h
    split at h
    · rename_i x m h1 h2
      cases h
      rw [List.length_cons, List.length_cons, parts_length r m h2]
    · cases h
/-- Part by part: what is taken, and that there are not too many. -/
def runL : List (List UInt8) → List X → Option (List X)
  | [], acc => some acc
  | p :: r, acc => match partL p with
    | none => none
    | some x => if acc.length = 100 then none else runL r (acc ++ [x])
theorem runL_eq : ∀ (ps : List (List UInt8)) (acc : List X), acc.length ≤ 100 → runL ps acc = (parts ps).bind fun l => if acc.length + l.length ≤ 100 then some (acc ++ l) else none
  | [], acc, h => by simp [runL, parts, h]
  | p :: r, acc, h => by
    unfold runL parts
    cases hp : partL p with
    | none => rfl
    | some x =>
      simp only
      by_cases h1 : acc.length = 100
      · rw [if_pos h1]
        cases hr : parts r with
        | none => rfl
        | some l => simp; omega
      · rw [if_neg h1, runL_eq r (acc ++ [x]) (by simp; omega)]
        cases hr : parts r with
        | none => rfl
        | some l => simp [Nat.add_assoc, Nat.add_comm 1]
theorem runL_set (l : List UInt8) : runL (splitC 44 l) [] = setL l := by
  rw [runL_eq _ _ (by simp)]
  unfold setL
  cases h : parts (splitC 44 l) with
  | none => simp
  | some x =>
    have := parts_length _ _ h
    simp [this]
theorem setL_length {l : List UInt8} {xs : List X} (h : setL l = some xs) : xs.length ≤ 100 := by
  unfold setL at h
  split at h
  · rw [parts_length _ _ h]; assumption
  · cases h
/-- The document's way: what stands between :, the first and the last of it. -/
theorem partL_doc (l : List UInt8) : partL l = (match numL ((splitC 58 l).headD []), numL ((splitC 58 l).getLastD []) with
    | some a, some b => if 2 < (splitC 58 l).length then none else some ⟨a, b⟩
    | _, _ => none) := by
  rw [splitC_cut 58 l]
  unfold partL
  generalize cutC 58 l = q
  obtain ⟨a, b, m⟩ := q
  cases m with
  | false => simp
  | true =>
    simp only [if_true, List.headD_cons]
    by_cases hb : (58 : UInt8) ∈ b
    · have h2 := splitC_two hb
      rw [numL_sign hb (by decide) (by decide)]
      cases numL a with
      | none => rfl
      | some x =>
        have h3 : 2 < (a :: splitC 58 b).length := by rw [List.length_cons]; omega
        cases numL ((a :: splitC 58 b).getLastD []) with
        | none => rfl
        | some y => simp only [if_pos h3]
    · rw [splitC_none hb]
      simp
theorem set_awake : setL [50, 58, 52, 44, 42] = some [⟨2, 4⟩, ⟨0, 0⟩] := by decide +kernel
end Go.Proofs.YtcepcamedmiinaaGreatDoor.sq
namespace Go.Proofs.YtcepcamedmiinaaGreatDoor.sq
open Go.ChangeShapes Go.WideShapes Go.ChangeAt Go.RowKit
open Go.Proofs.YtcepcamedmiinaaGreatDoor.row
set_option linter.unusedVariables false
set_option maxRecDepth 100000
set_option linter.unusedSimpArgs false

/-- What reading a number answers. -/
def numV (l : List UInt8) : Value := .tuple #[.int .u32 ((numL l).getD 0 : Nat), .bool (numL l).isSome]
theorem numV_none {l : List UInt8} (h : numL l = none) : numV l = .tuple #[.int .u32 0, .bool false] := by unfold numV; rw [h]; rfl
theorem numV_some {l : List UInt8} {v : Nat} (h : numL l = some v) : numV l = .tuple #[.int .u32 (v : Nat), .bool true] := by unfold numV; rw [h]; rfl
theorem first_at (s : ByteArray) (h : 0 < s.size) : ∃ c : UInt8, s.data.toList[0]? = some c ∧ (s[0]'h).toNat = c.toNat ∧ s.data.toList ≠ [] := by
  obtain ⟨c, hc, he⟩ := byt_some s 0 h
  exact ⟨c, hc, by rw [byt_at, he], fun e => by rw [e] at hc; cases hc⟩
set_option maxHeartbeats 140737488355328 in
theorem pnum_any (w : World) (s : ByteArray) (hs : s.size ≤ 140737488355328) :
    Calls Tryz.prog 101 #[.string s] w fun e w' => e = .returned (numV s.data.toList) ∧ w' = w := by
  by_cases h1 : s.data.toList = [42]
  · rw [numV_some (v := 0) (by unfold numL; rw [if_pos h1])]
    have hq : (s.toList == [42]) = true := by rw [ByteArray.toList_eq, h1]; rfl
    clear h1
    go_enter Tryz.func101, Tryz.ntmps101
    go_wp2
    go_ret2
    exact ⟨rfl, rfl⟩
  · have hq : (s.toList == [42]) = false := by rw [ByteArray.toList_eq, beq_eq_false_iff_ne]; exact h1
    by_cases h0 : 0 < s.size
    · obtain ⟨c0, hc0, he0, hne⟩ := first_at s h0
      have hn : ¬ s.toList = [] := by rw [ByteArray.toList_eq]; exact hne
      have hi : s.toList.isEmpty = false := by rw [List.isEmpty_eq_false_iff]; exact hn
      by_cases h48 : c0.toNat = 48
      · rw [numV_none (by unfold numL; rw [if_neg h1, if_pos (.inr (by rw [hc0]; exact congrArg some (UInt8.toNat.inj (by simpa using h48))))])]
        have q1 : (((s[0]'h0).toNat : Int) == 48) = true := by rw [he0, beq_iff_eq]; omega
        clear h1 he0 hc0 h48 hne
        go_enter Tryz.func101, Tryz.ntmps101
        go_wp2
        go_ret2
        exact ⟨rfl, rfl⟩
      · have q1 : (((s[0]'h0).toNat : Int) == 48) = false := by rw [he0, beq_eq_false_iff_ne]; omega
        have H2 := Lib.hid (show ¬ (s.data.toList = [] ∨ s.data.toList[0]? = some 48) by
          rintro (h | h)
          · exact hne h
          · rw [hc0] at h
            cases h
            exact h48 rfl)
        have H1 := Lib.hid h1
        clear h1 he0 hc0 h48 hne
        go_enter Tryz.func101, Tryz.ntmps101
        go_wp2
        clear hq q1 hn hi
        go_loop [4, 17] (fun x i => ∃ k v : Nat, k ≤ s.size ∧ i = .int .i64 k ∧ x = .int .u64 v ∧ Hid (v ≤ 4294967295) ∧ Hid (digs (s.data.toList.take k) = some v)) (fun _ i => s.size - (intOf i).toNat)
        case atStart => exact ⟨0, 0, Nat.zero_le _, rfl, rfl, Lib.hid (by omega), Lib.hid rfl⟩
        case round =>
          obtain ⟨k, v, hk, rfl, rfl, HV, HD⟩ := hrel
          by_cases hkl : k < s.size
          · obtain ⟨c, hc, hcb⟩ := byt_some s k hkl
            have e1 : (s[k]).toNat = c.toNat := by rw [byt_at, hcb]
            have HC := Lib.hid hc
            by_cases hd : digB c.toNat = true
            · have hd2 : 48 ≤ c.toNat ∧ c.toNat ≤ 57 := of_decide_eq_true hd
              have HX := Lib.hid (show digs (s.data.toList.take (k + 1)) = some (10 * v + (c.toNat - 48)) by rw [digs_next hc, HD.out, step, Option.bind_some, if_pos hd])
              obtain ⟨m, hm⟩ : ∃ m, m = c.toNat := ⟨_, rfl⟩
              rw [← hm] at e1 HX hd2
              have q1 : decide ((m : Int) < 48) = false := decide_eq_false (by omega)
              have q2 : decide ((57 : Int) < m) = false := decide_eq_false (by omega)
              clear hc hcb hd
              obtain ⟨d, hd⟩ : ∃ d, d = m - 48 := ⟨_, rfl⟩
              obtain ⟨y, hy⟩ : ∃ y, y = 10 * v := ⟨_, rfl⟩
              obtain ⟨x, hx⟩ : ∃ x, x = y + d := ⟨_, rfl⟩
              have q3 : IntKind.u8.wrap ((m : Int) - 48) = (d : Int) := (IntWalk.u8_in _ (by omega)).trans (by omega)
              have q4 : IntKind.u64.wrap (d : Int) = (d : Int) := IntWalk.u64_in _ (by omega)
              have q5 : IntKind.u64.wrap (10 * (v : Int)) = (y : Int) := (IntWalk.u64_in _ (by have := HV.out; omega)).trans (by omega)
              have q6 : IntKind.u64.wrap ((y : Int) + (d : Int)) = (x : Int) := (IntWalk.u64_in _ (by have := HV.out; omega)).trans (by omega)
              have HX2 := Lib.hid (show digs (s.data.toList.take (k + 1)) = some x by rw [HX.out, hx, hy, hd])
              clear hd2 hm HX hd hy hx
              go_wp2
              all_goals clear q1 q2 q3 q4 q5 q6
              all_goals first
                | (go_ret2; rw [numV_none (numL_great H1.out HX2.out (by omega))]; exact ⟨rfl, rfl⟩)
                | (go_round
                   case rel => first | exact ⟨k + 1, x, by omega, by go_num, rfl, Lib.hid (by omega), HX2⟩ | ((repeat apply Exists.intro); exact ⟨⟨k + 1, x, by omega, by go_num, rfl, Lib.hid (by omega), HX2⟩, rfl⟩)
                   case measure => (show s.size - ((k : Int) + 1).toNat < s.size - k; omega))
            · have HN := Lib.hid (numL_bad H1.out (digs_bad hc (by simpa using hd)))
              have hd2 : ¬ (48 ≤ c.toNat ∧ c.toNat ≤ 57) := fun h => hd (decide_eq_true h)
              obtain ⟨m, hm⟩ : ∃ m, m = c.toNat := ⟨_, rfl⟩
              rw [← hm] at e1 hd2
              clear hc hcb hd hm
              go_wp2
              all_goals first
                | (exfalso; omega)
                | (go_ret2; rw [numV_none HN.out]; exact ⟨rfl, rfl⟩)
          · obtain rfl : k = s.size := by omega
            have HE := Lib.hid (show numL s.data.toList = some v from numL_is H1.out H2.out (by have := HD.out; rwa [← len_eq, List.take_length] at this) HV.out)
            have q6 : IntKind.u32.wrap (v : Int) = (v : Int) := IntWalk.u32_in _ (by have := HV.out; omega)
            go_wp2
            go_ret2
            rw [numV_some HE.out]
            exact ⟨rfl, rfl⟩
    · have he : s.data.toList = [] := List.eq_nil_of_length_eq_zero (by rw [len_eq]; omega)
      rw [numV_none (by unfold numL; rw [if_neg h1, if_pos (.inl he)])]
      have hn : s.toList = [] := by rw [ByteArray.toList_eq]; exact he
      have hi : s.toList.isEmpty = true := by rw [hn]; rfl
      clear h1 he
      go_enter Tryz.func101, Tryz.ntmps101
      go_wp2
      go_ret2
      exact ⟨rfl, rfl⟩
end Go.Proofs.YtcepcamedmiinaaGreatDoor.sq
