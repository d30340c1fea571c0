/- Heads of bytes, plainly: where a line ends, and where a head does. -/
import Derived.Test.YthofgpddfnajiaaDoorRows
namespace Go.Proofs.YthofgpddfnajiaaDoor.hd
set_option linter.unusedVariables false
set_option linter.unusedSimpArgs false

/-- Where the first line feed stands, or else the end. -/
def lf : List Nat → Nat
  | [] => 0
  | b :: r => if b = 10 then 0 else lf r + 1
theorem lf_le : ∀ l : List Nat, lf l ≤ l.length
  | [] => Nat.le_refl _
  | b :: r => by
    have := lf_le r
    rw [lf, List.length_cons]
    split <;> omega
theorem lf_drop_hit {l : List Nat} {k : Nat} (h : l[k]? = some 10) : lf (l.drop k) = 0 := by
  obtain ⟨h1, h2⟩ := List.getElem?_eq_some_iff.1 h
  rw [List.drop_eq_getElem_cons h1, h2, lf, if_pos rfl]
theorem lf_drop_miss {l : List Nat} {k b : Nat} (h : l[k]? = some b) (hb : b ≠ 10) : lf (l.drop k) = lf (l.drop (k + 1)) + 1 := by
  obtain ⟨h1, h2⟩ := List.getElem?_eq_some_iff.1 h
  rw [List.drop_eq_getElem_cons h1, h2, lf, if_neg hb]
theorem lf_drop_end {l : List Nat} {k : Nat} (h : l.length ≤ k) : lf (l.drop k) = 0 := by
  rw [List.drop_of_length_le h, lf]
theorem lf_first : ∀ (l : List Nat) (k : Nat), l[k]? = some 10 → (∀ j : Nat, j < k → l[j]? ≠ some 10) → lf l = k
  | [], k, h, _ => by simp at h
  | b :: r, 0, h, _ => by
    simp at h
    rw [lf, if_pos h]
  | b :: r, k + 1, h, hn => by
    have h0 : b ≠ 10 := fun e => hn 0 (Nat.succ_pos _) (by simp [e])
    rw [lf, if_neg h0, lf_first r k (by simpa using h) (fun j hj => by simpa using hn (j + 1) (Nat.succ_lt_succ hj))]
theorem lf_none : ∀ (l : List Nat), (∀ j : Nat, l[j]? ≠ some 10) → lf l = l.length
  | [], _ => rfl
  | b :: r, hn => by
    have h0 : b ≠ 10 := fun e => hn 0 (by simp [e])
    rw [lf, if_neg h0, lf_none r (fun j => by simpa using hn (j + 1)), List.length_cons]
/-- A line without its carriage return. -/
def chop (l : List Nat) : List Nat := if l.getLast? = some 13 then l.take (l.length - 1) else l
theorem chop_le (l : List Nat) : (chop l).length ≤ l.length := by
  unfold chop
  split
  · rw [List.length_take]; omega
  · exact Nat.le_refl _
theorem chop_nil {l : List Nat} (h : chop l = []) : l.length ≤ 1 := by
  unfold chop at h
  split at h
  · have := congrArg List.length h
    rw [List.length_take] at this
    simp at this
    omega
  · rw [h]; simp
/-- The first line, and how many bytes it has with its end. -/
def ln (l : List Nat) : List Nat := chop (l.take (lf l))
def nx (l : List Nat) : Nat := min (lf l + 1) l.length
theorem nx_le (l : List Nat) : nx l ≤ l.length := Nat.min_le_right _ _
theorem nx_pos {l : List Nat} (h : 0 < l.length) : 0 < nx l := by unfold nx; omega
/-- How many bytes the head has. -/
def headN (l : List Nat) : Nat :=
  if h : 0 < l.length then (if ln l = [] then nx l else nx l + headN (l.drop (nx l))) else 0
termination_by l.length
decreasing_by
  have := nx_pos h
  rw [List.length_drop]
  omega
theorem headN_nil : headN [] = 0 := by rw [headN]; simp
theorem headN_stop {l : List Nat} (h : 0 < l.length) (hl : ln l = []) : headN l = nx l := by rw [headN, dif_pos h, if_pos hl]
theorem headN_more {l : List Nat} (h : 0 < l.length) (hl : ln l ≠ []) : headN l = nx l + headN (l.drop (nx l)) := by rw [headN, dif_pos h, if_neg hl]
theorem headN_open {l : List Nat} (h : 0 < l.length) (ho : lf l = l.length) : headN l = l.length := by
  have hx : nx l = l.length := by unfold nx; omega
  by_cases hl : ln l = []
  · rw [headN_stop h hl, hx]
  · rw [headN_more h hl, hx, List.drop_of_length_le (Nat.le_refl _), headN_nil, Nat.add_zero]
theorem headN_le (l : List Nat) : headN l ≤ l.length := by
  by_cases h : 0 < l.length
  · have hx := nx_le l
    have hp := nx_pos h
    by_cases hl : ln l = []
    · rw [headN_stop h hl]; exact hx
    · have := headN_le (l.drop (nx l))
      rw [List.length_drop] at this
      rw [headN_more h hl]
      omega
  · obtain rfl : l = [] := List.eq_nil_of_length_eq_zero (by omega)
    rw [headN_nil]
    exact Nat.zero_le _
termination_by l.length
decreasing_by
  rw [List.length_drop]
  omega
/-- What is left of the head at a place. -/
def leftN (m : Bool) (l : List Nat) (p : Nat) : Nat := if m then headN (l.drop p) else 0
theorem drop_nx (l : List Nat) (p : Nat) : (l.drop p).drop (nx (l.drop p)) = l.drop (p + nx (l.drop p)) := by rw [List.drop_drop]
theorem headN_step {l : List Nat} {p : Nat} (hp : p < l.length) (h : headN l = p + headN (l.drop p)) :
    headN l = p + nx (l.drop p) + leftN (decide (0 < (ln (l.drop p)).length)) l (p + nx (l.drop p)) := by
  have h0 : 0 < (l.drop p).length := by rw [List.length_drop]; omega
  by_cases hl : ln (l.drop p) = []
  · rw [h, headN_stop h0 hl, hl]
    rfl
  · have h1 : 0 < (ln (l.drop p)).length := List.length_pos_iff.2 hl
    rw [h, headN_more h0 hl, leftN, if_pos (decide_eq_true h1), drop_nx]
    omega
end Go.Proofs.YthofgpddfnajiaaDoor.hd
