/- Plain mathematics of dates: years, months, the text of a time. -/
import Derived.Lib.ItoaNum
import Derived.Lib.Fold
import Derived.Lib.Strings
namespace Go.Proofs.YtklmbiekpilkhaaGreatDoor.dat
open Go.Lib
set_option linter.unusedVariables false
set_option linter.unusedSimpArgs false

/-- Byte i of s. -/
def byt (s : ByteArray) (i : Nat) : Nat := (s.data[i]!).toNat
theorem byt_at (s : ByteArray) (i : Nat) (h : i < s.size) : (s[i]'h).toNat = byt s i := by
  unfold byt
  rw [getElem!_pos s.data i (by simpa using h)]; rfl
theorem byt_lt (s : ByteArray) (i : Nat) : byt s i < 256 := UInt8.toNat_lt _
theorem byt_of (l : List UInt8) (i : Nat) : byt ⟨l.toArray⟩ i = (l.getD i 0).toNat := by
  unfold byt
  by_cases h : i < l.length
  · rw [getElem!_pos _ i (by simpa using h), List.getD, List.getElem?_eq_getElem h]
    simp
  · rw [getElem!_neg _ i (by simpa using h), List.getD, List.getElem?_eq_none (by omega)]
    rfl

/-! ### Years and months -/
def leapN (y : Nat) : Bool := decide (y % 4 = 0 ∧ (y % 100 ≠ 0 ∨ y % 400 = 0))
def ylen (y : Nat) : Nat := if leapN y then 366 else 365
def daysN (y m : Nat) : Nat := if m = 2 then (if leapN y then 29 else 28) else if m = 4 ∨ m = 6 ∨ m = 9 ∨ m = 11 then 30 else 31
theorem daysN_pos (y m : Nat) : 28 ≤ daysN y m ∧ daysN y m ≤ 31 := by
  unfold daysN
  split
  · split <;> omega
  · split <;> omega
/-- The days of the first months. -/
def cum (y : Nat) : Nat → Nat
  | 0 => 0
  | k + 1 => cum y k + daysN y (k + 1)
theorem cum12 (y : Nat) : cum y 12 = ylen y := by
  unfold ylen
  cases h : leapN y <;> simp [cum, daysN, h]
theorem cum_mono (y : Nat) {a b : Nat} (h : a ≤ b) : cum y a ≤ cum y b := by
  induction b with
  | zero => obtain rfl : a = 0 := by omega
            exact Nat.le_refl _
  | succ b ih =>
    by_cases e : a = b + 1
    · subst e; exact Nat.le_refl _
    · have := ih (by omega)
      simp only [cum]; omega
theorem cum_step (y k : Nat) (h : 1 ≤ k) : cum y k = cum y (k - 1) + daysN y k := by
  obtain ⟨j, rfl⟩ : ∃ j, k = j + 1 := ⟨k - 1, by omega⟩
  rfl
theorem cum_le (y k : Nat) : cum y k ≤ 31 * k := by
  induction k with
  | zero => exact Nat.le_refl _
  | succ k ih => have := (daysN_pos y (k + 1)).2; simp only [cum]; omega
/-- The day, from 1970 on, that a year begins with. -/
def nY (y : Nat) : Int := 365 * ((y : Int) - 1) + ((y : Int) - 1).tdiv 4 - ((y : Int) - 1).tdiv 100 + ((y : Int) - 1).tdiv 400 - 719162
theorem nY_nat (x : Nat) : nY (x + 1) = 365 * (x : Int) + ((x / 4 : Nat) : Int) - ((x / 100 : Nat) : Int) + ((x / 400 : Nat) : Int) - 719162 := by
  unfold nY
  rw [show (((x + 1 : Nat) : Int) - 1) = (x : Int) by omega]
  rfl
theorem nY_zero : nY 0 = -719527 := by decide
theorem nY_1970 : nY 1970 = 0 := by decide
theorem nY_1969 : nY 1969 = -365 := by decide
theorem nY_10000 : nY 10000 = 2932897 := by decide
theorem nY_succ (y : Nat) (h : 1 ≤ y) : nY (y + 1) = nY y + ylen y := by
  obtain ⟨x, rfl⟩ : ∃ x, y = x + 1 := ⟨y - 1, by omega⟩
  rw [nY_nat, nY_nat]
  unfold ylen leapN
  by_cases h1 : (x + 1) % 4 = 0 ∧ ((x + 1) % 100 ≠ 0 ∨ (x + 1) % 400 = 0)
  · rw [if_pos (by simpa using h1)]
    omega
  · rw [if_neg (by simpa using h1)]
    omega
theorem ylen_pos (y : Nat) : 365 ≤ ylen y ∧ ylen y ≤ 366 := by unfold ylen; split <;> omega
theorem nY_mono {a b : Nat} (h1 : 1 ≤ a) (h : a ≤ b) : nY a ≤ nY b := by
  induction b with
  | zero => omega
  | succ b ih =>
    by_cases e : a = b + 1
    · subst e; exact Int.le_refl _
    · have := ih (by omega)
      have := nY_succ b (by omega)
      omega
theorem nY_low (y : Nat) (h : y ≤ 1968) : nY y ≤ -366 - 365 := by
  rcases y with _ | x
  · rw [nY_zero]; omega
  · rw [nY_nat]; omega
theorem nY_bounds (y : Nat) (h : y ≤ 10000) : -719527 ≤ nY y ∧ nY y ≤ 2932897 := by
  rcases y with _ | x
  · rw [nY_zero]; omega
  · rw [nY_nat]; omega
theorem nY_near (k : Nat) (h : k ≤ 8030) : nY (1970 + k) ≤ 366 * k := by
  rw [show 1970 + k = (1969 + k) + 1 by omega, nY_nat]
  omega
theorem year_at : ∀ (n : Nat) (d : Int), 0 ≤ d → d < nY (1970 + n) → ∃ Y, 1970 ≤ Y ∧ Y < 1970 + n ∧ nY Y ≤ d ∧ d < nY (Y + 1)
  | 0, d, h0, h => by rw [show 1970 + 0 = 1970 from rfl, nY_1970] at h; omega
  | n + 1, d, h0, h => by
    by_cases h' : d < nY (1970 + n)
    · obtain ⟨Y, a, b, c, e⟩ := year_at n d h0 h'
      exact ⟨Y, a, by omega, c, e⟩
    · exact ⟨1970 + n, by omega, by omega, by omega, h⟩
theorem month_at (y : Nat) : ∀ (n r : Nat), r < cum y n → ∃ M, 1 ≤ M ∧ M ≤ n ∧ cum y (M - 1) ≤ r ∧ r < cum y M
  | 0, r, h => by simp [cum] at h
  | n + 1, r, h => by
    by_cases h' : r < cum y n
    · obtain ⟨M, a, b, c, d⟩ := month_at y n r h'
      exact ⟨M, a, by omega, c, d⟩
    · exact ⟨n + 1, by omega, Nat.le_refl _, by simpa using h', h⟩
/-- What a day is. -/
structure Civ (day : Int) (Y M D : Nat) : Prop where
  y0 : 1970 ≤ Y
  y1 : Y ≤ 9999
  m0 : 1 ≤ M
  m1 : M ≤ 12
  d0 : 1 ≤ D
  d1 : D ≤ daysN Y M
  eq : day = nY Y + (cum Y (M - 1) : Nat) + D - 1
theorem civ_at (d : Int) (h0 : 0 ≤ d) (h1 : d ≤ 2932896) : ∃ Y M D, Civ d Y M D := by
  obtain ⟨Y, a, b, c, e⟩ := year_at 8030 d h0 (by rw [show 1970 + 8030 = 10000 from rfl, nY_10000]; omega)
  obtain ⟨r, hr⟩ := Int.eq_ofNat_of_zero_le (show 0 ≤ d - nY Y by omega)
  have hy := nY_succ Y (by omega)
  obtain ⟨M, m0, m1, c0, c1⟩ := month_at Y 12 r (by rw [cum12]; omega)
  have hs := cum_step Y M m0
  exact ⟨Y, M, r - cum Y (M - 1) + 1, a, by omega, m0, m1, by omega, by omega, by omega⟩
theorem Civ.next {d : Int} {Y M D : Nat} (h : Civ d Y M D) : d < nY (Y + 1) := by
  have h1 := nY_succ Y (by have := h.y0; omega)
  have h2 := cum_mono Y h.m1
  have h3 := cum_step Y M h.m0
  rw [cum12] at h2
  have := h.eq; have := h.d1; have := h.d0
  omega
theorem Civ.first {d : Int} {Y M D : Nat} (h : Civ d Y M D) : nY Y ≤ d := by
  have := h.eq; have := h.d0
  omega
theorem Civ.year {d : Int} {Y M D : Nat} (h : Civ d Y M D) {y : Nat} (hy : y ≤ Y) (h1 : 1 ≤ y) : nY (y + 1) ≤ d ↔ y < Y := by
  constructor
  · intro h2
    have h3 := h.next
    rcases Nat.lt_or_ge y Y with h4 | h4
    · exact h4
    · obtain rfl : y = Y := by omega
      omega
  · intro h2
    have := nY_mono (a := y + 1) (b := Y) (by omega) (by omega)
    have := h.first
    omega
/-- Behind the first k - 1 months there are still so many days. -/
theorem Civ.month {d : Int} {Y M D : Nat} (h : Civ d Y M D) {k : Nat} (hk : 1 ≤ k) (hM : k ≤ M) : cum Y (k - 1) ≤ cum Y (M - 1) ∧ (daysN Y k < cum Y (M - 1) + D - cum Y (k - 1) ↔ k < M) := by
  have h1 := cum_mono Y (show k - 1 ≤ M - 1 by omega)
  have h2 := cum_step Y k hk
  refine ⟨h1, ?_⟩
  constructor
  · intro h3
    rcases Nat.lt_or_ge k M with h4 | h4
    · exact h4
    · obtain rfl : k = M := by omega
      have := h.d1
      omega
  · intro h3
    have := cum_mono Y (show k ≤ M - 1 by omega)
    have := h.d0
    omega

/-! ### The text -/
def nameL : Nat → List UInt8
  | 1 => [74, 97, 110] | 2 => [70, 101, 98] | 3 => [77, 97, 114] | 4 => [65, 112, 114] | 5 => [77, 97, 121] | 6 => [74, 117, 110]
  | 7 => [74, 117, 108] | 8 => [65, 117, 103] | 9 => [83, 101, 112] | 10 => [79, 99, 116] | 11 => [78, 111, 118] | 12 => [68, 101, 99] | _ => []
theorem twelve {m : Nat} (h0 : 1 ≤ m) (h1 : m ≤ 12) : m = 1 ∨ m = 2 ∨ m = 3 ∨ m = 4 ∨ m = 5 ∨ m = 6 ∨ m = 7 ∨ m = 8 ∨ m = 9 ∨ m = 10 ∨ m = 11 ∨ m = 12 := by omega
theorem nameL_length {m : Nat} (h0 : 1 ≤ m) (h1 : m ≤ 12) : (nameL m).length = 3 := by
  rcases twelve h0 h1 with rfl | rfl | rfl | rfl | rfl | rfl | rfl | rfl | rfl | rfl | rfl | rfl <;> rfl
def two (v : Nat) : List UInt8 := [dg v 1, dg v 0]
def four (v : Nat) : List UInt8 := [dg v 3, dg v 2, dg v 1, dg v 0]
def tensB (D : Nat) : UInt8 := if D < 10 then 32 else dg D 1
/-- The digits of v, from the right: so many. -/
def digL (v : Nat) : Nat → List UInt8
  | 0 => []
  | k + 1 => dg v k :: digL v k
theorem digL_two (v : Nat) : digL v 2 = two v := rfl
theorem digL_four (v : Nat) : digL v 4 = four v := rfl
/-- What stands ahead of the zone. -/
def headL (Y M D s : Nat) : List UInt8 :=
  tensB D :: dg D 0 :: 45 :: (nameL M ++ 45 :: (four Y ++ 32 :: (two (s / 3600) ++ 58 :: (two (s / 60 % 60) ++ 58 :: two (s % 60)))))
def textL (Y M D s : Nat) : List UInt8 := headL Y M D s ++ [32, 43, 48, 48, 48, 48]
theorem itoa_four {Y : Nat} (h0 : 1000 ≤ Y) (h1 : Y ≤ 9999) : itoa (Y : Int) = four Y := by
  unfold itoa
  rw [if_neg (by omega), show ((Y : Int)).toNat = Y by omega, decDigits_eq, nDigits_unique 3 Y (by omega) (by omega)]
  rfl
theorem two_small {v : Nat} (h : v < 100) : two v = [UInt8.ofNat (48 + v / 10), UInt8.ofNat (48 + v % 10)] := by
  unfold two dg
  rw [show 10 ^ 1 = 10 from rfl, show 10 ^ 0 = 1 from rfl, Nat.div_one, show v / 10 % 10 = v / 10 by omega]
end Go.Proofs.YtklmbiekpilkhaaGreatDoor.dat
