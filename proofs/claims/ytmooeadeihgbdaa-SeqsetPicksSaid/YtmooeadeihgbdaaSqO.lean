/- Plain mathematics of picking: parts in rising order, the farthest end so far. -/
import Derived.Test.YtmooeadeihgbdaaSqN
import Derived.Sort.LotA
namespace Go.Proofs.Ytmooeadeihgbdaa.sq

def risen (l : List X) (g : Nat) : List X := l.map fun x => ⟨lo x g, hi x g⟩
def within (x : X) (n : Nat) : Bool := decide (x.f ≤ n) && decide (n ≤ x.t)
theorem hasB_risen (l : List X) (n g : Nat) : hasB l n g = (decide (n ≠ 0) && (risen l g).any fun x => within x n) := by
  unfold hasB risen
  rw [List.any_map]
  rfl
/-- The farthest end. -/
def mxL (l : List X) : Nat := l.foldl (fun m x => max m x.t) 0
theorem mxL_snoc (l : List X) (x : X) : mxL (l ++ [x]) = max (mxL l) x.t := by
  unfold mxL
  rw [List.foldl_append]
  rfl
theorem mxL_next {l : List X} {k : Nat} {x : X} (h : l[k]? = some x) : mxL (l.take (k + 1)) = max (mxL (l.take k)) x.t := by
  rw [List.take_add_one, h]
  exact mxL_snoc _ _
theorem mxL_ge : ∀ (l : List X) (m n : Nat), n ≤ l.foldl (fun m x => max m x.t) m ↔ n ≤ m ∨ ∃ x ∈ l, n ≤ x.t
  | [], m, n => by simp
  | y :: r, m, n => by
    rw [List.foldl_cons, mxL_ge r]
    constructor
    · rintro (h | ⟨x, h1, h2⟩)
      · rcases Nat.le_total m y.t with h3 | h3
        · rw [Nat.max_eq_right h3] at h
          exact .inr ⟨y, by simp, h⟩
        · rw [Nat.max_eq_left h3] at h
          exact .inl h
      · exact .inr ⟨x, by simp [h1], h2⟩
    · rintro (h | ⟨x, h1, h2⟩)
      · exact .inl (Nat.le_trans h (Nat.le_max_left _ _))
      · rcases List.mem_cons.1 h1 with rfl | h1
        · exact .inl (Nat.le_trans h2 (Nat.le_max_right _ _))
        · exact .inr ⟨x, h1, h2⟩
/-- The end that stands in place j while the first i are done. -/
def tt (ys : List X) (i j : Nat) (x : X) : Nat := if j < i then mxL (ys.take (j + 1)) else x.t
theorem tt_start {ys : List X} {j : Nat} {x : X} (h : ys[j]? = some x) : tt ys 1 j x = x.t := by
  unfold tt
  split
  · obtain rfl : j = 0 := by omega
    rw [mxL_next h]
    show max 0 x.t = x.t
    omega
  · rfl
/-- Where they begin rises. -/
def Up (ys : List X) : Prop := ∀ (i j : Nat) (x y : X), i ≤ j → ys[i]? = some x → ys[j]? = some y → x.f ≤ y.f
/-- How many begin up to n. -/
def Begun (ys : List X) (n z : Nat) : Prop := z ≤ ys.length ∧ (∀ (k : Nat) (x : X), k < z → ys[k]? = some x → x.f ≤ n) ∧ ∀ (k : Nat) (x : X), z ≤ k → ys[k]? = some x → n < x.f
theorem reached {ys : List X} {n z : Nat} (hn : n ≠ 0) (hz : Begun ys n z) : (decide (0 < z) && decide (n ≤ mxL (ys.take z))) = ys.any fun x => within x n := by
  rw [Bool.eq_iff_iff]
  simp only [Bool.and_eq_true, decide_eq_true_eq, List.any_eq_true, within]
  unfold mxL
  rw [mxL_ge]
  constructor
  · rintro ⟨h0, h | ⟨x, h1, h2⟩⟩
    · omega
    · obtain ⟨k, hk⟩ := List.mem_iff_getElem?.1 h1
      rw [List.getElem?_take] at hk
      split at hk
      · rename_i hkz
        exact ⟨x, List.mem_of_getElem? hk, hz.2.1 k x hkz hk, h2⟩
      · cases hk
  · rintro ⟨x, h1, h2, h3⟩
    obtain ⟨k, hk⟩ := List.mem_iff_getElem?.1 h1
    have hkz : k < z := by
      rcases Nat.lt_or_ge k z with h | h
      · exact h
      · have := hz.2.2 k x h hk
        omega
    exact ⟨by omega, .inr ⟨x, List.mem_of_getElem? (i := k) (by rw [List.getElem?_take, if_pos hkz]; exact hk), h3⟩⟩
theorem any_perm {α : Type} {p : α → Bool} {l m : List α} (h : l.Perm m) : l.any p = m.any p := by
  rw [Bool.eq_iff_iff, List.any_eq_true, List.any_eq_true]
  constructor
  · rintro ⟨x, h1, h2⟩
    exact ⟨x, h.mem_iff.1 h1, h2⟩
  · rintro ⟨x, h1, h2⟩
    exact ⟨x, h.mem_iff.2 h1, h2⟩
/-- What is picked. -/
def pickB (l : List X) (all : List Nat) : List Nat := all.filter fun n => hasB l n (all.getLastD 0)
theorem filter_next {p : Nat → Bool} {l : List Nat} {k n : Nat} (h : l[k]? = some n) : (l.take (k + 1)).filter p = (l.take k).filter p ++ if p n then [n] else [] := by
  rw [List.take_add_one, h, List.filter_append]
  congr 1
  cases hp : p n <;> simp [hp]
/-- What is picked next stands there. -/
theorem filter_at {p : Nat → Bool} {l : List Nat} {k n : Nat} (h : l[k]? = some n) (hp : p n = true) : (l.filter p)[((l.take k).filter p).length]? = some n := by
  have h1 := List.getElem?_eq_some_iff.1 h
  have h2 : l.filter p = (l.take k).filter p ++ (l.drop k).filter p := by rw [← List.filter_append, List.take_append_drop]
  rw [h2, List.getElem?_append_right (Nat.le_refl _), Nat.sub_self, List.drop_eq_getElem_cons h1.1, h1.2, List.filter_cons, if_pos hp]
  rfl
/-- The order in which they are laid. -/
def cmpI (u v : Nat) : Int := if u < v then -1 else if v < u then 1 else 0
def cf (x y : X) : Int := cmpI x.f y.f
theorem cf_lt (x y : X) : decide (cf x y < 0) = decide (x.f < y.f) := by
  unfold cf cmpI
  by_cases h1 : x.f < y.f
  · simp [h1]
  · by_cases h2 : y.f < x.f <;> simp [h1, h2]
end Go.Proofs.Ytmooeadeihgbdaa.sq
