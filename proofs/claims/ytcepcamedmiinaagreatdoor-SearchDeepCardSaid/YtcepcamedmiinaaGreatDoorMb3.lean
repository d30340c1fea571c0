/- Whether a number is in a set: the document's Has; ours. -/
import Derived.Test.YtcepcamedmiinaaGreatDoorMb0
namespace Go.Proofs.YtcepcamedmiinaaGreatDoor.sq
open Go.ChangeShapes Go.WideShapes Go.ChangeAt Go.RowKit
open Go.Proofs.YtcepcamedmiinaaGreatDoor.row
set_option linter.unusedVariables false
set_option maxRecDepth 100000
set_option linter.unusedSimpArgs false

/-- The document's words: from one to the other, whichever is greater. -/
theorem inX_eq (x : X) (n g : Nat) : inX x n g = (decide (told x.f g ≤ n) && decide (n ≤ told x.t g) || decide (told x.t g ≤ n) && decide (n ≤ told x.f g)) := by
  unfold inX lo hi
  rw [Bool.eq_iff_iff]
  simp only [Bool.or_eq_true, Bool.and_eq_true, decide_eq_true_eq]
  omega
theorem any_at {α : Type} {p : α → Bool} {l : List α} {k : Nat} {x : α} (h : l[k]? = some x) : (l.drop k).any p = (p x || (l.drop (k + 1)).any p) := by
  obtain ⟨h1, h2⟩ := List.getElem?_eq_some_iff.1 h
  rw [List.drop_eq_getElem_cons h1, List.any_cons, h2]
theorem any_end {α : Type} {p : α → Bool} {l : List α} {k : Nat} (h : l.length ≤ k) : (l.drop k).any p = false := by
  rw [List.drop_eq_nil_of_le h]
  rfl
/-- Does a part hold it, where one is asked at all? -/
def inN (x : X) (n g : Nat) : Bool := decide (1 ≤ n) && inX x n g
theorem hasB_eq (l : List X) (n g : Nat) : hasB l n g = l.any fun x => inN x n g := by
  unfold hasB inN
  by_cases h : n = 0
  · subst h
    rw [show (l.any fun x => decide (1 ≤ 0) && inX x 0 g) = false from any_no fun j x _ => rfl]
    rfl
  · rw [decide_eq_true h, Bool.true_and]
    congr 1
    funext x
    rw [decide_eq_true (by omega : 1 ≤ n), Bool.true_and]
theorem take_next {α : Type} {l : List α} {k : Nat} {x : α} (h : l[k]? = some x) : l.take (k + 1) = l.take k ++ [x] := by
  rw [List.take_add_one, h]
  rfl
end Go.Proofs.YtcepcamedmiinaaGreatDoor.sq
