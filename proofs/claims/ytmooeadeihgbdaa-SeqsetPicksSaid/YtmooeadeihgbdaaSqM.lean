/- Plain mathematics of sets: parts, which numbers are in one. -/
namespace Go.Proofs.Ytmooeadeihgbdaa.sq

/-- A part: from one number to the other; 0 is the greatest one. -/
structure X where
  f : Nat
  t : Nat
deriving Inhabited, DecidableEq
def told (n g : Nat) : Nat := if n = 0 then g else n
/-- The lesser, and the greater end. -/
def lo (x : X) (g : Nat) : Nat := min (told x.f g) (told x.t g)
def hi (x : X) (g : Nat) : Nat := max (told x.f g) (told x.t g)
def inX (x : X) (n g : Nat) : Bool := decide (lo x g ≤ n) && decide (n ≤ hi x g)
def hasB (l : List X) (n g : Nat) : Bool := decide (n ≠ 0) && l.any fun x => inX x n g
theorem told_lt {n g : Nat} (hn : n < 4294967296) (hg : g < 4294967296) : told n g < 4294967296 := by unfold told; split <;> assumption
theorem any_no {α : Type} {p : α → Bool} {l : List α} (h : ∀ (j : Nat) (x : α), l[j]? = some x → p x = false) : l.any p = false := by
  rw [List.any_eq_false]
  intro x hx
  obtain ⟨j, hj⟩ := List.mem_iff_getElem?.1 hx
  rw [h j x hj]
  exact Bool.false_ne_true
theorem any_yes {α : Type} {p : α → Bool} {l : List α} {j : Nat} {x : α} (hx : l[j]? = some x) (h : p x = true) : l.any p = true := List.any_eq_true.2 ⟨x, List.mem_of_getElem? hx, h⟩
end Go.Proofs.Ytmooeadeihgbdaa.sq
