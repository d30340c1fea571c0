/- The files of the document's disk as a list by names. -/
import Derived.Test.YtedhbcaakdfcbaaEa
import Derived.Test.YtedhbcaakdfcbaaQ
import Derived.Test.YtedhbcaakdfcbaaDb
namespace Go.Proofs.Ytedhbcaakdfcbaa.disk
set_option linter.unusedVariables false
set_option linter.unusedSimpArgs false
def keyF (x : RF) : Nm := x.name.data.toList
def absF (xs : List RF) : FL := xs.map fun x => (keyF x, x.f)
theorem mem_abs {xs : List RF} {x : RF} (h : x ∈ xs) : (keyF x, x.f) ∈ absF xs := List.mem_map.2 ⟨x, h, rfl⟩
theorem fm_at {xs : List RF} (h : Rising (absF xs)) {i : Nat} (hi : i < xs.length) : fmL (absF xs) (keyF xs[i]) = some xs[i].f := by
  induction xs generalizing i with
  | nil => simp at hi
  | cons y ys ih =>
    cases i with
    | zero => simp [fmL, absF, findL]
    | succ i =>
      have hi' : i < ys.length := by simpa using hi
      have h1 : keyF y < keyF ys[i] := List.rel_of_pairwise_cons h (mem_abs (List.getElem_mem hi'))
      have := ih (List.Pairwise.of_cons h) hi'
      simp only [fmL] at this ⊢
      show findL (keyF ys[i]) ((keyF y, y.f) :: absF ys) = some ys[i].f
      unfold findL
      rw [if_neg fun e => by rw [show keyF y = keyF ys[i] from e] at h1; exact nm_irrefl _ h1]
      exact this
theorem fm_no {xs : List RF} {k : Nm} (h : ∀ j (hj : j < xs.length), keyF xs[j] ≠ k) : fmL (absF xs) k = none := findL_none fun x hx => by
  obtain ⟨y, hy, rfl⟩ := List.mem_map.1 hx
  obtain ⟨j, hj, rfl⟩ := List.mem_iff_getElem.1 hy
  exact h j hj
/-- Where a name stands, and what is there. -/
theorem at_cases {xs : List RF} (h : Rising (absF xs)) (k : Nm) :
    (atI xs k = -1 ∧ fmL (absF xs) k = none ∧ ∀ j (hj : j < xs.length), keyF xs[j] ≠ k) ∨ ∃ i, ∃ hi : i < xs.length, atI xs k = (i : Nat) ∧ atR xs k = some i ∧ keyF xs[i] = k ∧ fmL (absF xs) k = some xs[i].f := by
  cases hr : atR xs k with
  | none =>
    have h1 : ∀ j (hj : j < xs.length), keyF xs[j] ≠ k := fun j hj => by
      unfold atR at hr
      rw [List.findIdx?_eq_none_iff] at hr
      have := hr xs[j] (List.getElem_mem hj)
      simpa [keyF] using this
    exact .inl ⟨by unfold atI; rw [hr], fm_no h1, h1⟩
  | some i =>
    have h2 := hr
    unfold atR at h2
    rw [List.findIdx?_eq_some_iff_getElem] at h2
    obtain ⟨hi, h3, _⟩ := h2
    have h4 : keyF xs[i] = k := by simpa [keyF] using h3
    refine .inr ⟨i, hi, by unfold atI; rw [hr], rfl, h4, ?_⟩
    rw [← h4]
    exact fm_at h hi
theorem abs_set {xs : List RF} (h : Rising (absF xs)) {i : Nat} (hi : i < xs.length) (x : RF) (hx : keyF x = keyF xs[i]) : absF (xs.set i x) = insL (keyF x) x.f (absF xs) := by
  induction xs generalizing i with
  | nil => simp at hi
  | cons y ys ih =>
    cases i with
    | zero =>
      show (keyF x, x.f) :: absF ys = insL (keyF x) x.f ((keyF y, y.f) :: absF ys)
      have e : keyF y = keyF x := hx.symm
      unfold insL
      rw [if_neg (by show ¬ keyF y < keyF x; rw [e]; exact nm_irrefl _), if_pos (show (keyF y, y.f).1 = keyF x from e)]
    | succ i =>
      have hi' : i < ys.length := by simpa using hi
      have h1 : keyF y < keyF x := by
        rw [hx]
        exact List.rel_of_pairwise_cons h (mem_abs (List.getElem_mem hi'))
      show (keyF y, y.f) :: absF (ys.set i x) = insL (keyF x) x.f ((keyF y, y.f) :: absF ys)
      unfold insL
      rw [if_pos h1, ih (List.Pairwise.of_cons h) hi' hx]
theorem abs_ins {xs : List RF} (k : Nat) (x : RF) (hk : k ≤ xs.length) (hno : ∀ j (hj : j < xs.length), keyF xs[j] ≠ keyF x)
    (hl : ∀ j (hj : j < xs.length), j < k → keyF xs[j] < keyF x) (hg : ∀ (h : k < xs.length), ¬ keyF xs[k] < keyF x) : absF (xs.take k ++ [x] ++ xs.drop k) = insL (keyF x) x.f (absF xs) := by
  induction xs generalizing k with
  | nil => simp [absF, insL]
  | cons y ys ih =>
    cases k with
    | zero =>
      show (keyF x, x.f) :: (keyF y, y.f) :: absF ys = insL (keyF x) x.f ((keyF y, y.f) :: absF ys)
      unfold insL
      rw [if_neg (show ¬ (keyF y, y.f).1 < keyF x from hg (by simp)), if_neg (show ¬ (keyF y, y.f).1 = keyF x from hno 0 (by simp))]
    | succ k =>
      have h1 : keyF y < keyF x := hl 0 (by simp) (by omega)
      show (keyF y, y.f) :: absF (ys.take k ++ [x] ++ ys.drop k) = insL (keyF x) x.f ((keyF y, y.f) :: absF ys)
      unfold insL
      rw [if_pos h1, ih k (by simpa using hk) (fun j hj => hno (j + 1) (by simpa using hj)) (fun j hj hjk => hl (j + 1) (by simpa using hj) (by omega)) (fun hh => hg (by simpa using hh))]
theorem abs_drop {xs : List RF} (h : Rising (absF xs)) {i : Nat} (hi : i < xs.length) : absF (xs.take i ++ xs.drop (i + 1)) = dropL (keyF xs[i]) (absF xs) := by
  induction xs generalizing i with
  | nil => simp at hi
  | cons y ys ih =>
    cases i with
    | zero =>
      show absF ys = dropL (keyF y) ((keyF y, y.f) :: absF ys)
      unfold dropL
      rw [if_pos rfl]
    | succ i =>
      have hi' : i < ys.length := by simpa using hi
      have h1 : keyF y < keyF ys[i] := List.rel_of_pairwise_cons h (mem_abs (List.getElem_mem hi'))
      show (keyF y, y.f) :: absF (ys.take i ++ ys.drop (i + 1)) = dropL (keyF ys[i]) ((keyF y, y.f) :: absF ys)
      unfold dropL
      rw [if_neg fun e => by rw [show keyF y = keyF ys[i] from e] at h1; exact nm_irrefl _ h1, ih (List.Pairwise.of_cons h) hi']
theorem tot_abs {xs : List RF} (h : ∀ x ∈ xs, x.f.l.length = x.n) : totL (absF xs) = totX xs := by
  induction xs with
  | nil => rfl
  | cons y ys ih =>
    have := ih fun x hx => h x (List.mem_cons_of_mem _ hx)
    have h0 := h y (by simp)
    show y.f.l.length + totL (absF ys) = totX (y :: ys)
    simp only [totX, List.map_cons, List.sum_cons] at this ⊢
    omega
theorem whole_abs {xs : List RF} (h : Rising (absF xs)) (hn : ∀ x ∈ xs, x.f.l.length = x.n) (k : Nm) : wholeR xs k = ((fmL (absF xs) k).map fun f => f.ever && decide (f.safe = f.l.length)).getD false := by
  unfold wholeR
  rcases at_cases h k with ⟨h1, h2, h3⟩ | ⟨i, hi, h1, h2, h3, h4⟩
  · rw [h2, atR_none h3]
    rfl
  · rw [h2, h4]
    simp [hi, hn xs[i] (List.getElem_mem hi)]
theorem listed_abs {L : FL} (h : Rising L) (hle : ∀ x ∈ L, x.1.length ≤ maxLen) : Listed (fmL L) (L.map (·.1)) := by
  refine ⟨?_, fun s => ⟨fun hs => ?_, fun hs => ?_⟩, ?_, fun s hs => ?_⟩
  · refine List.Pairwise.map _ (fun a b hab e => ?_) h
    rw [e] at hab
    exact nm_irrefl _ hab
  · obtain ⟨x, hx, rfl⟩ := List.mem_map.1 hs
    cases hf : fmL L x.1 with
    | some f => rfl
    | none =>
      exfalso
      clear hle
      induction L with
      | nil => cases hx
      | cons y L ih =>
        simp only [fmL, findL] at hf
        split at hf
        · cases hf
        · rename_i hne
          rcases List.mem_cons.1 hx with rfl | hx
          · exact hne rfl
          · exact ih (List.Pairwise.of_cons h) hx (List.mem_map.2 ⟨x, hx, rfl⟩) hf
  · obtain ⟨f, hf⟩ := Option.isSome_iff_exists.1 hs
    exact List.mem_map.2 ⟨(s, f), findL_some hf, rfl⟩
  · refine List.Pairwise.map _ (fun a b hab => ?_) h
    exact List.le_of_lt hab
  · obtain ⟨x, hx, rfl⟩ := List.mem_map.1 hs
    exact hle x hx
end Go.Proofs.Ytedhbcaakdfcbaa.disk
