/- Frames one behind the other, as plain lists, and what is scanned of them. -/
import Derived.Test.YtbgnhjmijcpffaaDoorFraM
namespace Go.Proofs.YtbgnhjmijcpffaaDoor.frm
open Go.Proofs.YtbgnhjmijcpffaaDoor.codec (bytesOf byteAt bytesOf_length bytesOf_lt)
set_option linter.unusedVariables false
set_option maxRecDepth 100000
set_option linter.unusedSimpArgs false

theorem drop_app (a b : List Nat) (n : Nat) (h : a.length = n) : (a ++ b).drop n = b := by
  subst h
  simp
theorem take_app (a b : List Nat) (n : Nat) (h : a.length = n) : (a ++ b).take n = a := by
  subst h
  simp
theorem right_frame (k : Nat) (p rest : List Nat) (h1 : 1 ≤ k) (h3 : k ≤ 3) (hp : p.length ≤ 30000) : rightB (frameL k p ++ rest) = true ∧ numOf4 (frameL k p ++ rest) = p.length ∧ (frameL k p ++ rest).getD 3 0 = k := by
  have e : frameL k p ++ rest = first k p.length ++ (bytesOf (crcOf (first k p.length)) 4 ++ (dig p ++ (p ++ rest))) := by
    simp [frameL, headL, List.append_assoc]
  have e2 : first k p.length = [99, 117, 98, k] ++ bytesOf p.length 4 := rfl
  have hn : numOf4 (frameL k p ++ rest) = p.length := by
    unfold numOf4
    rw [e, e2, List.append_assoc, drop_app _ _ 4 rfl, take_app _ _ 4 (by simp [bytesOf])]
    exact codec.numOf_bytes _ 4 (by omega)
  have hk : (frameL k p ++ rest).getD 3 0 = k := by
    rw [e, e2]
    rfl
  refine ⟨?_, hn, hk⟩
  unfold rightB
  rw [decide_eq_true_eq]
  refine ⟨by simp [frameL_length]; omega, ?_, by rw [hk]; exact h1, by rw [hk]; exact h3, ?_, ?_⟩
  · rw [e, e2]
    rfl
  · unfold numOf4 at hn
    rw [hn]
    exact hp
  · rw [e, drop_app _ _ 8 (first_length _ _), take_app _ _ 4 (by simp [bytesOf]), take_app _ _ 8 (first_length _ _)]
    exact codec.numOf_bytes _ 4 (by
      have := crcOf_lt (l := first k p.length) (first_lt (by omega))
      omega)
theorem scan_frame (pre : List Nat) (k : Nat) (p rest : List Nat) (t e : Nat) (l : List Nat) (hl : l = pre ++ (frameL k p ++ rest)) (he : e = pre.length + (44 + p.length)) (h1 : 1 ≤ k) (h3 : k ≤ 3) (hp : p.length ≤ 30000) :
    scan l pre.length t = (⟨pre.length, k, p⟩ :: (scan l e e).1, (scan l e e).2) := by
  obtain ⟨hr, hn, hk⟩ := right_frame k p rest h1 h3 hp
  have hd : l.drop pre.length = frameL k p ++ rest := by rw [hl]; exact drop_app _ _ _ rfl
  have hlen : l.length = pre.length + (44 + p.length) + rest.length := by
    rw [hl]
    simp [frameL_length]
    omega
  have hpay : payOf l pre.length = p := by
    unfold payOf
    rw [hd, hn, ← List.drop_drop, hd, show frameL k p ++ rest = headL k p ++ (p ++ rest) by simp [frameL], drop_app _ _ 44 (headL_length _ _)]
    exact take_app _ _ _ rfl
  have htold : told l pre.length = dig p := by
    unfold told
    rw [hd, show frameL k p ++ rest = (first k p.length ++ bytesOf (crcOf (first k p.length)) 4) ++ (dig p ++ (p ++ rest)) by simp [frameL, headL, List.append_assoc]]
    rw [drop_app _ _ 12 (by simp [first_length, bytesOf])]
    exact take_app _ _ 32 (dig_length _)
  have := scan_rec l pre.length t e (by omega) (by rw [hd]; exact hr) (by rw [hd, hn, he]; omega) (by omega) (by rw [hpay, htold])
  rw [this]
  unfold recOf
  rw [hd, hk, hpay]
theorem scan_heals (ahead : List Nat) (k : Nat) (p : List Nat) (h1 : 1 ≤ k) (h3 : k ≤ 3) (hp : p.length ≤ 30000) (ha : ∀ x ∈ ahead, x ≠ 99) : scan (ahead ++ frameL k p) 0 0 = ([⟨ahead.length, k, p⟩], (ahead ++ frameL k p).length) := by
  have skip : ∀ i, i ≤ ahead.length → scan (ahead ++ frameL k p) 0 0 = scan (ahead ++ frameL k p) i 0 := by
    intro i
    induction i with
    | zero => intro _; rfl
    | succ i ih =>
      intro hi
      rw [ih (by omega)]
      refine scan_skip _ i 0 (by simp; omega) ?_
      unfold rightB
      rw [decide_eq_false_iff_not]
      intro h
      have h2 := h.2.1
      have h4 := congrArg (fun l => l.getD 0 0) h2
      have e : ((List.drop i (ahead ++ frameL k p)).take 3).getD 0 0 = ahead.getD i 0 := by
        have hi' : i < ahead.length := by omega
        simp [List.getD, hi', List.getElem?_append]
      simp only [e] at h4
      have hi' : i < ahead.length := by omega
      have h5 : ahead.getD i 0 = ahead[i] := by simp [List.getD, hi']
      exact ha _ (List.getElem_mem hi') (by rw [← h5, h4]; rfl)
  rw [skip ahead.length (Nat.le_refl _), scan_frame ahead k p [] 0 (ahead.length + (44 + p.length)) _ (by simp) rfl h1 h3 hp, scan_end _ _ _ (by simp [frameL_length])]
  simp [frameL_length]

/-- Frames one behind the other. -/
def allF (fs : List (Nat × List Nat)) : List Nat := fs.flatMap fun f => frameL f.1 f.2
def recsF : Nat → List (Nat × List Nat) → List R
  | _, [] => []
  | i, f :: fs => ⟨i, f.1, f.2⟩ :: recsF (i + (44 + f.2.length)) fs
def GoodF (fs : List (Nat × List Nat)) : Prop := ∀ f ∈ fs, 1 ≤ f.1 ∧ f.1 ≤ 3 ∧ f.2.length ≤ 2000 ∧ ∀ x ∈ f.2, x < 256
theorem allF_snoc (fs : List (Nat × List Nat)) (f : Nat × List Nat) : allF (fs ++ [f]) = allF fs ++ frameL f.1 f.2 := by simp [allF]
theorem recsF_snoc (fs : List (Nat × List Nat)) (f : Nat × List Nat) : ∀ i, recsF i (fs ++ [f]) = recsF i fs ++ [⟨i + (allF fs).length, f.1, f.2⟩] := by
  induction fs with
  | nil => intro i; simp [recsF, allF]
  | cons g fs ih =>
    intro i
    rw [List.cons_append, recsF, ih, recsF]
    simp [allF, frameL_length]
    omega
theorem scan_frames (fs : List (Nat × List Nat)) : ∀ (pre rest l : List Nat) (e : Nat), GoodF fs → l = pre ++ (allF fs ++ rest) → e = pre.length + (allF fs).length → scan l pre.length pre.length = (recsF pre.length fs ++ (scan l e e).1, (scan l e e).2) := by
  induction fs with
  | nil =>
    intro pre rest l e _ _ he
    have : e = pre.length := by simpa [allF] using he
    subst this
    simp [recsF]
  | cons f fs ih =>
    intro pre rest l e hg hl he
    have hf := hg f (by simp)
    have h1 := scan_frame pre f.1 f.2 (allF fs ++ rest) pre.length (pre.length + (44 + f.2.length)) l (by rw [hl]; simp [allF]) rfl hf.1 hf.2.1 (by omega)
    have hpl : (pre ++ frameL f.1 f.2).length = pre.length + (44 + f.2.length) := by simp [frameL_length]
    have h2 := ih (pre ++ frameL f.1 f.2) rest l e (fun g hg' => hg g (by simp [hg'])) (by rw [hl]; simp [allF]) (by rw [he, hpl]; simp [allF, frameL_length]; omega)
    rw [hpl] at h2
    rw [h1, h2, recsF]
    simp
/-- What isn't all there isn't there. -/
theorem scan_part (pre : List Nat) (k : Nat) (p : List Nat) (j : Nat) (l : List Nat) (h1 : 1 ≤ k) (h3 : k ≤ 3) (hp : p.length ≤ 30000) (hj : j < 44 + p.length) (hl : l = pre ++ (frameL k p).take j) : scan l pre.length pre.length = ([], pre.length) := by
  have hlen : l.length = pre.length + j := by
    rw [hl]
    simp [frameL_length]
    omega
  by_cases h44 : j < 44
  · refine nx_none l pre.length (l.length - pre.length) pre.length (by omega) ?_
    have : ∀ f i, nx l f i = none ∨ ∃ q, rightB (l.drop q) = true ∧ i ≤ q := by
      intro f
      induction f with
      | zero => intro i; exact .inl rfl
      | succ f ih =>
        intro i
        rw [nx]
        by_cases hr : rightB (l.drop i) = true
        · exact .inr ⟨i, hr, Nat.le_refl _⟩
        · rw [if_neg hr]
          rcases ih (i + 1) with h | ⟨q, h, hq⟩
          · exact .inl h
          · exact .inr ⟨q, h, by omega⟩
    rcases this (l.length - pre.length) pre.length with h | ⟨q, h, hq⟩
    · exact h
    · have := right_long h
      omega
  · have hd : l.drop pre.length = (frameL k p).take j := by rw [hl]; exact drop_app _ _ _ rfl
    have hs : (frameL k p).take j = headL k p ++ p.take (j - 44) := by
      unfold frameL
      rw [List.take_append, headL_length, List.take_of_length_le (by rw [headL_length]; omega)]
    obtain ⟨hr, hn, hk⟩ := right_frame k p [] h1 h3 hp
    have cong : ∀ a b : List Nat, a.length = 44 → rightB (a ++ b) = rightB a ∧ numOf4 (a ++ b) = numOf4 a := by
      intro a b ha
      have t : ∀ n m, n + m ≤ 44 → ((a ++ b).drop n).take m = (a.drop n).take m := fun n m h => by
        rw [List.drop_append, List.take_append]
        have : m - (List.drop n a).length = 0 := by simp; omega
        rw [this]
        simp
      have t0 : ∀ m, m ≤ 44 → (a ++ b).take m = a.take m := fun m h => by
        have := t 0 m (by omega)
        simpa using this
      have g : (a ++ b).getD 3 0 = a.getD 3 0 := by
        simp [List.getD, List.getElem?_append, show 3 < a.length by omega]
      refine ⟨?_, ?_⟩
      · unfold rightB
        rw [t0 3 (by omega), t 4 4 (by omega), t 8 4 (by omega), t0 8 (by omega), g]
        rw [Bool.eq_iff_iff, decide_eq_true_eq, decide_eq_true_eq]
        simp only [List.length_append, ha]
        constructor
        · rintro ⟨_, h⟩; exact ⟨by omega, h⟩
        · rintro ⟨_, h⟩; exact ⟨by omega, h⟩
      · unfold numOf4
        rw [t 4 4 (by omega)]
    have hfull : frameL k p ++ [] = headL k p ++ p := by simp [frameL]
    rw [hfull] at hr hn
    have c1 := cong (headL k p) p (headL_length _ _)
    have c2 := cong (headL k p) (p.take (j - 44)) (headL_length _ _)
    refine scan_torn l pre.length pre.length (by omega) ?_ ?_
    · rw [hd, hs, c2.1, ← c1.1]
      exact hr
    · rw [hd, hs, c2.2, ← c1.2, hn]
      omega
end Go.Proofs.YtbgnhjmijcpffaaDoor.frm
