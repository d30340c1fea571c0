/- The disk as a list of files, by their names: plain mathematics. -/
import Derived.Test.YtedhbcaakdfcbaaC
namespace Go.Proofs.Ytedhbcaakdfcbaa.disk
set_option linter.unusedVariables false
set_option linter.unusedSimpArgs false
abbrev Nm := List UInt8
abbrev FL := List (Nm × File)
theorem nm_irrefl (a : Nm) : ¬ a < a := List.lt_irrefl a
theorem nm_trans {a b c : Nm} (h : a < b) (h2 : b < c) : a < c := List.lt_trans h h2
theorem nm_total {a b : Nm} (h : ¬ a < b) (h2 : a ≠ b) : b < a := by
  rcases Std.lt_trichotomy a b with h3 | h3 | h3
  · exact absurd h3 h
  · exact absurd h3 h2
  · exact h3
def findL (k : Nm) : FL → Option File
  | [] => none
  | x :: L => if x.1 = k then some x.2 else findL k L
def insL (k : Nm) (f : File) : FL → FL
  | [] => [(k, f)]
  | x :: L => if x.1 < k then x :: insL k f L else if x.1 = k then (k, f) :: L else (k, f) :: x :: L
def dropL (k : Nm) : FL → FL
  | [] => []
  | x :: L => if x.1 = k then L else x :: dropL k L
def totL : FL → Nat
  | [] => 0
  | x :: L => x.2.l.length + totL L
def Rising (L : FL) : Prop := L.Pairwise (fun a b => a.1 < b.1)
def fmL (L : FL) : FM := fun k => findL k L
theorem findL_none {k : Nm} : ∀ {L : FL}, (∀ x ∈ L, x.1 ≠ k) → findL k L = none
  | [], _ => rfl
  | x :: L, h => by
    unfold findL
    rw [if_neg (h x (by simp)), findL_none fun y hy => h y (by simp [hy])]
theorem findL_some {k : Nm} {f : File} : ∀ {L : FL}, findL k L = some f → (k, f) ∈ L
  | [], h => by cases h
  | x :: L, h => by
    unfold findL at h
    split at h
    · rename_i e
      cases h
      rw [← e]
      simp
    · exact List.mem_cons_of_mem _ (findL_some h)
theorem Rising.not {x : Nm × File} {L : FL} (h : Rising (x :: L)) : findL x.1 L = none := findL_none fun y hy e => by
  have := List.rel_of_pairwise_cons h hy
  rw [e] at this
  exact nm_irrefl _ this
theorem Rising.above {x : Nm × File} {L : FL} (h : Rising (x :: L)) {k : Nm} (hk : k < x.1) : findL k (x :: L) = none := findL_none fun y hy e => by
  rcases List.mem_cons.1 hy with rfl | hy
  · rw [e] at hk; exact nm_irrefl _ hk
  · have := nm_trans hk (List.rel_of_pairwise_cons h hy)
    rw [e] at this
    exact nm_irrefl _ this
theorem fm_ins (k : Nm) (f : File) (L : FL) : fmL (insL k f L) = upd (fmL L) k f := by
  funext s
  induction L with
  | nil =>
    simp only [fmL, insL, findL, upd]
    by_cases e : s = k
    · simp [e]
    · simp [e, Ne.symm e]
  | cons x L ih =>
    simp only [fmL, upd] at ih ⊢
    unfold insL
    by_cases h1 : x.1 < k
    · rw [if_pos h1]
      simp only [findL]
      by_cases h2 : x.1 = s
      · have : s ≠ k := fun e => by rw [h2, e] at h1; exact nm_irrefl _ h1
        simp [h2, this]
      · simp [h2, ih]
    · rw [if_neg h1]
      by_cases h2 : x.1 = k
      · rw [if_pos h2]
        simp only [findL]
        by_cases h3 : s = k
        · simp [h3]
        · simp [h3, Ne.symm h3, show ¬ x.1 = s from fun e => h3 (e.symm.trans h2)]
      · rw [if_neg h2]
        simp only [findL]
        by_cases h3 : s = k
        · simp [h3]
        · simp [h3, Ne.symm h3]
theorem fm_drop (k : Nm) {L : FL} (h : Rising L) : fmL (dropL k L) = erase (fmL L) k := by
  funext s
  induction L with
  | nil => simp [fmL, dropL, findL, erase]
  | cons x L ih =>
    have ih := ih (List.Pairwise.of_cons h)
    simp only [fmL, erase] at ih ⊢
    unfold dropL
    by_cases h1 : x.1 = k
    · rw [if_pos h1]
      by_cases h2 : s = k
      · rw [if_pos h2, h2, ← h1, h.not]
      · simp only [findL]
        rw [if_neg h2, if_neg fun e => h2 (e.symm.trans h1)]
    · rw [if_neg h1]
      simp only [findL]
      by_cases h2 : x.1 = s
      · have : s ≠ k := fun e => h1 (h2.trans e)
        simp [h2, this]
      · simp [h2, ih]
theorem mem_ins {k : Nm} {f : File} {L : FL} {x : Nm × File} (h : x ∈ insL k f L) : x = (k, f) ∨ x ∈ L := by
  induction L with
  | nil => simpa [insL] using h
  | cons y L ih =>
    unfold insL at h
    split at h
    · rcases List.mem_cons.1 h with rfl | h
      · simp
      · rcases ih h with h | h <;> simp [h]
    · split at h
      · rcases List.mem_cons.1 h with rfl | h <;> simp [*]
      · simpa using h
theorem mem_drop {k : Nm} {L : FL} {x : Nm × File} (h : x ∈ dropL k L) : x ∈ L := by
  induction L with
  | nil => simp [dropL] at h
  | cons y L ih =>
    unfold dropL at h
    split at h
    · simp [h]
    · rcases List.mem_cons.1 h with rfl | h
      · simp
      · simp [ih h]
theorem rising_ins (k : Nm) (f : File) {L : FL} (h : Rising L) : Rising (insL k f L) := by
  induction L with
  | nil => simp [insL, Rising]
  | cons x L ih =>
    obtain ⟨h1, h2⟩ := List.pairwise_cons.1 h
    unfold insL
    split
    · rename_i hl
      refine List.pairwise_cons.2 ⟨fun y hy => ?_, ih h2⟩
      rcases mem_ins hy with rfl | hy
      · exact hl
      · exact h1 y hy
    · rename_i hl
      split
      · rename_i e
        exact List.pairwise_cons.2 ⟨fun y hy => by rw [← e]; exact h1 y hy, h2⟩
      · rename_i hne
        have hk := nm_total hl hne
        refine List.pairwise_cons.2 ⟨fun y hy => ?_, h⟩
        rcases List.mem_cons.1 hy with rfl | hy
        · exact hk
        · exact nm_trans hk (h1 y hy)
theorem rising_drop (k : Nm) {L : FL} (h : Rising L) : Rising (dropL k L) := by
  induction L with
  | nil => simp [dropL, Rising]
  | cons x L ih =>
    obtain ⟨h1, h2⟩ := List.pairwise_cons.1 h
    unfold dropL
    split
    · exact h2
    · exact List.pairwise_cons.2 ⟨fun y hy => h1 y (mem_drop hy), ih h2⟩
theorem tot_ins (k : Nm) (f : File) {L : FL} (h : Rising L) : totL (insL k f L) + lenAt (fmL L) k = totL L + f.l.length := by
  induction L with
  | nil => simp [insL, totL, lenAt, fmL, findL]
  | cons x L ih =>
    have ih := ih (List.Pairwise.of_cons h)
    simp only [lenAt, fmL] at ih ⊢
    unfold insL
    by_cases h1 : x.1 < k
    · rw [if_pos h1]
      simp only [totL, findL]
      rw [if_neg fun e => by rw [e] at h1; exact nm_irrefl _ h1]
      omega
    · rw [if_neg h1]
      by_cases h2 : x.1 = k
      · rw [if_pos h2]
        simp only [totL, findL]
        rw [if_pos h2]
        simp
        omega
      · rw [if_neg h2, h.above (nm_total h1 h2)]
        simp [totL]
        omega
theorem tot_drop (k : Nm) (L : FL) : totL (dropL k L) + lenAt (fmL L) k = totL L := by
  induction L with
  | nil => simp [dropL, totL, lenAt, fmL, findL]
  | cons x L ih =>
    simp only [lenAt, fmL] at ih ⊢
    unfold dropL
    by_cases h2 : x.1 = k
    · rw [if_pos h2]
      simp only [totL, findL]
      rw [if_pos h2]
      simp
      omega
    · rw [if_neg h2]
      simp only [totL, findL]
      rw [if_neg h2]
      omega
end Go.Proofs.Ytedhbcaakdfcbaa.disk
