/- All padded bytes, block by block, come to the same as whole blocks and the padded rest. -/
import Derived.Test.YtdbdeplabipfaaaGreatDoorSumQ
namespace Go.Proofs.YtdbdeplabipfaaaGreatDoor.sumDoor
open Go.Proofs.YtdbdeplabipfaaaGreatDoor.sumPlain
/-- How many zeros. -/
def zs (n : Nat) : Nat := (119 - n % 64) % 64

theorem word_congr {g h : Nat → Nat} (e : ∀ i, i < 64 → g i = h i) {k : Nat} (hk : k < 16) : word g k = word h k := by
  unfold word
  rw [e _ (by omega), e _ (by omega), e _ (by omega), e _ (by omega)]
theorem words_congr {g h : Nat → Nat} (e : ∀ i, i < 64 → g i = h i) : ∀ k, words g k = words h k
  | 0 => rfl
  | k + 1 => by
    rw [words, words, words_congr e k]
    by_cases hk : k < 16
    · rw [if_pos hk, if_pos hk, word_congr e hk]
    · rw [if_neg hk, if_neg hk]
theorem block_congr {g h : Nat → Nat} (s : Eight) (e : ∀ i, i < 64 → g i = h i) : block s g = block s h := by
  unfold block
  rw [words_congr e]
/-- Blocks that read the same come to the same. -/
theorem chunk_congr {s : Eight} {l l' : List Nat} : ∀ m, (∀ i, i < 64 * m → l.getD i 0 = l'.getD i 0) → chunk s l m = chunk s l' m
  | 0, _ => rfl
  | m + 1, h => by
    rw [chunk, chunk, chunk_congr m (fun i hi => h i (by omega))]
    refine block_congr _ fun i hi => ?_
    have := h (64 * m + i) (by omega)
    simpa [List.getD, List.getElem?_drop] using this
theorem chunk_add (s : Eight) (l : List Nat) (a : Nat) : ∀ b, chunk s l (a + b) = chunk (chunk s l a) (l.drop (64 * a)) b
  | 0 => rfl
  | b + 1 => by
    rw [← Nat.add_assoc, chunk, chunk, chunk_add s l a b, List.drop_drop]
    rw [show 64 * (a + b) = 64 * a + 64 * b by omega]

theorem getD_app (l m : List Nat) (i : Nat) : (l ++ m).getD i 0 = if i < l.length then l.getD i 0 else m.getD (i - l.length) 0 := by
  simp only [List.getD, List.getElem?_append]
  split <;> rfl
theorem getD_rep (z i : Nat) : (List.replicate z 0).getD i 0 = 0 := by
  simp only [List.getD, List.getElem?_replicate]
  split <;> rfl

theorem chunk_all {l : List Nat} {n B : Nat} (hl : l.length = n) (hB : B * 64 = (l ++ 128 :: List.replicate (zs n) 0 ++ bytesOf (n * 8) 8).length) : chunk seed8 (l ++ 128 :: List.replicate (zs n) 0 ++ bytesOf (n * 8) 8) B = digest l := by
  have h8 : (bytesOf (n * 8) 8).length = 8 := by simp [bytesOf]
  have hlen : (l ++ 128 :: List.replicate (zs n) 0 ++ bytesOf (n * 8) 8).length = n + 1 + zs n + 8 := by simp [h8, hl]; omega
  rw [hlen] at hB
  unfold digest
  rw [hl]
  have hE : padEnd (n % 64) = 64 * (B - n / 64) := by unfold padEnd zs at *; split <;> omega
  have hBn : n / 64 ≤ B := by unfold zs at hB; omega
  rw [hE, Nat.mul_div_cancel_left _ (by omega)]
  conv => lhs; rw [show B = n / 64 + (B - n / 64) by omega, chunk_add]
  have h1 : chunk seed8 (l ++ 128 :: List.replicate (zs n) 0 ++ bytesOf (n * 8) 8) (n / 64) = chunk seed8 l (n / 64) := by
    refine chunk_congr _ fun i hi => ?_
    rw [List.append_assoc, getD_app, if_pos (by omega)]
  rw [h1]
  refine chunk_congr _ fun i hi => ?_
  have hi2 : i < 128 := by unfold zs at hB; omega
  -- the padded rest at i
  have hR : (padList (l.drop (64 * (n / 64))) (n * 8) (64 * (B - n / 64))).getD i 0 = padTo (l.drop (64 * (n / 64))) (n * 8) (64 * (B - n / 64)) 8 i := by
    simp [padList, List.getD, hi2]
  rw [hR]
  have hr : (l.drop (64 * (n / 64))).length = n % 64 := by rw [List.length_drop, hl]; omega
  have hD : ((l ++ 128 :: List.replicate (zs n) 0 ++ bytesOf (n * 8) 8).drop (64 * (n / 64))).getD i 0 = (l ++ 128 :: List.replicate (zs n) 0 ++ bytesOf (n * 8) 8).getD (64 * (n / 64) + i) 0 := by
    simp [List.getD, List.getElem?_drop]
  rw [hD]
  unfold padTo
  rw [hr, getD_app]
  have hl2 : (l ++ 128 :: List.replicate (zs n) 0).length = n + 1 + zs n := by simp [hl]; omega
  rw [hl2]
  by_cases hc : 64 * (B - n / 64) - 8 ≤ i ∧ i < 64 * (B - n / 64)
  · rw [if_pos hc, if_neg (by unfold zs at *; omega)]
    have hj : 64 * (n / 64) + i - (n + 1 + zs n) < 8 := by unfold zs at *; omega
    have e1 : (bytesOf (n * 8) 8).getD (64 * (n / 64) + i - (n + 1 + zs n)) 0 = byteAt (n * 8) 8 (64 * (n / 64) + i - (n + 1 + zs n)) := by
      simp [bytesOf, List.getD, hj]
    rw [e1]
    unfold byteAt
    rw [show (256 : Nat) = 2 ^ 8 by decide, ← Nat.pow_mul]
    have e2 : 8 * (8 - 1 - (64 * (n / 64) + i - (n + 1 + zs n))) = 8 * (64 * (B - n / 64) - 1 - i) := by unfold zs at *; omega
    rw [e2]
  · rw [if_neg hc, if_pos (by unfold zs at *; omega), getD_app, hl]
    by_cases h2 : i < n % 64
    · rw [if_pos (by omega), if_pos h2]
      simp [List.getD, List.getElem?_drop]
    · rw [if_neg (by omega), if_neg h2]
      by_cases h3 : i = n % 64
      · rw [if_pos h3, show 64 * (n / 64) + i - n = 0 by omega]
        rfl
      · rw [if_neg h3]
        obtain ⟨q, hq⟩ : ∃ q, 64 * (n / 64) + i - n = q + 1 := ⟨64 * (n / 64) + i - n - 1, by omega⟩
        rw [hq]
        show (List.replicate (zs n) 0).getD q 0 = 0
        exact getD_rep _ _
end Go.Proofs.YtdbdeplabipfaaaGreatDoor.sumDoor
