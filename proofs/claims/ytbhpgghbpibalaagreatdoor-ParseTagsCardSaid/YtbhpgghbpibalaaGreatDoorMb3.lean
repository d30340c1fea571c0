/- Plain mathematics of dates: years, months, the text of a time. -/
import Derived.Lib.ItoaNum
import Derived.Lib.Fold
import Derived.Lib.Strings
import Derived.Test.YtbhpgghbpibalaaGreatDoorRows
import Derived.Test.YtbhpgghbpibalaaGreatDoorMs
import Derived.WalkKit
import Derived.ProofKit
import Derived.OpenShut
import Derived.ShutString
import Derived.ChangeOld
import Derived.Below
import Derived.Outline
import Derived.WalkSpells
import Derived.Lib.Hide
import Derived.Deep.QuietTactic
import Derived.BigQuiet
import Derived.Deep.OwnRows
import Derived.Deep.WholeRow
import Derived.StillTailTactics
import Derived.Deep.RegionLaw
import Derived.Lib.AppendIntMem
import Derived.Lib.LaidTab
import Derived.LaidSub
import Derived.MakeChecks
import Derived.Deep.SlicePairs
namespace Go.Proofs.YtbhpgghbpibalaaGreatDoor.dat
open Go.Lib
set_option linter.unusedVariables false
set_option linter.unusedSimpArgs false

/-- Byte i of s. -/
def byt (s : ByteArray) (i : Nat) : Nat := (s.data[i]!).toNat
theorem byt_at (s : ByteArray) (i : Nat) (h : i < s.size) : (s[i]'h).toNat = byt s i := by
  unfold byt
  rw [getElem!_pos s.data i (by simpa using h)]; rfl
theorem byt_lt (s : ByteArray) (i : Nat) : byt s i < 256 := UInt8.toNat_lt _
theorem byt_of (l : List UInt8) (i : Nat) : byt ⟨l.toArray⟩ i = (l.getD i 0).toNat := by
  unfold byt
  by_cases h : i < l.length
  · rw [getElem!_pos _ i (by simpa using h), List.getD, List.getElem?_eq_getElem h]
    simp
  · rw [getElem!_neg _ i (by simpa using h), List.getD, List.getElem?_eq_none (by omega)]
    rfl

/-! ### Years and months -/
def leapN (y : Nat) : Bool := decide (y % 4 = 0 ∧ (y % 100 ≠ 0 ∨ y % 400 = 0))
def ylen (y : Nat) : Nat := if leapN y then 366 else 365
def daysN (y m : Nat) : Nat := if m = 2 then (if leapN y then 29 else 28) else if m = 4 ∨ m = 6 ∨ m = 9 ∨ m = 11 then 30 else 31
theorem daysN_pos (y m : Nat) : 28 ≤ daysN y m ∧ daysN y m ≤ 31 := by
  unfold daysN
  split
  · split <;> omega
  · split <;> omega
/-- The days of the first months. -/
def cum (y : Nat) : Nat → Nat
  | 0 => 0
  | k + 1 => cum y k + daysN y (k + 1)
theorem cum12 (y : Nat) : cum y 12 = ylen y := by
  unfold ylen
  cases h : leapN y <;> simp [cum, daysN, h]
theorem cum_mono (y : Nat) {a b : Nat} (h : a ≤ b) : cum y a ≤ cum y b := by
  induction b with
  | zero => obtain rfl : a = 0 := by omega
            exact Nat.le_refl _
  | succ b ih =>
    by_cases e : a = b + 1
    · subst e; exact Nat.le_refl _
    · have := ih (by omega)
      simp only [cum]; omega
theorem cum_step (y k : Nat) (h : 1 ≤ k) : cum y k = cum y (k - 1) + daysN y k := by
  obtain ⟨j, rfl⟩ : ∃ j, k = j + 1 := ⟨k - 1, by omega⟩
  rfl
theorem cum_le (y k : Nat) : cum y k ≤ 31 * k := by
  induction k with
  | zero => exact Nat.le_refl _
  | succ k ih => have := (daysN_pos y (k + 1)).2; simp only [cum]; omega
/-- The day, from 1970 on, that a year begins with. -/
def nY (y : Nat) : Int := 365 * ((y : Int) - 1) + ((y : Int) - 1).tdiv 4 - ((y : Int) - 1).tdiv 100 + ((y : Int) - 1).tdiv 400 - 719162
theorem nY_nat (x : Nat) : nY (x + 1) = 365 * (x : Int) + ((x / 4 : Nat) : Int) - ((x / 100 : Nat) : Int) + ((x / 400 : Nat) : Int) - 719162 := by
  unfold nY
  rw [show (((x + 1 : Nat) : Int) - 1) = (x : Int) by omega]
  rfl
theorem nY_zero : nY 0 = -719527 := by decide
theorem nY_1970 : nY 1970 = 0 := by decide
theorem nY_1969 : nY 1969 = -365 := by decide
theorem nY_10000 : nY 10000 = 2932897 := by decide
theorem nY_succ (y : Nat) (h : 1 ≤ y) : nY (y + 1) = nY y + ylen y := by
  obtain ⟨x, rfl⟩ : ∃ x, y = x + 1 := ⟨y - 1, by omega⟩
  rw [nY_nat, nY_nat]
  unfold ylen leapN
  by_cases h1 : (x + 1) % 4 = 0 ∧ ((x + 1) % 100 ≠ 0 ∨ (x + 1) % 400 = 0)
  · rw [if_pos (by simpa using h1)]
    omega
  · rw [if_neg (by simpa using h1)]
    omega
theorem ylen_pos (y : Nat) : 365 ≤ ylen y ∧ ylen y ≤ 366 := by unfold ylen; split <;> omega
theorem nY_mono {a b : Nat} (h1 : 1 ≤ a) (h : a ≤ b) : nY a ≤ nY b := by
  induction b with
  | zero => omega
  | succ b ih =>
    by_cases e : a = b + 1
    · subst e; exact Int.le_refl _
    · have := ih (by omega)
      have := nY_succ b (by omega)
      omega
theorem nY_low (y : Nat) (h : y ≤ 1968) : nY y ≤ -366 - 365 := by
  rcases y with _ | x
  · rw [nY_zero]; omega
  · rw [nY_nat]; omega
theorem nY_bounds (y : Nat) (h : y ≤ 10000) : -719527 ≤ nY y ∧ nY y ≤ 2932897 := by
  rcases y with _ | x
  · rw [nY_zero]; omega
  · rw [nY_nat]; omega
theorem nY_near (k : Nat) (h : k ≤ 8030) : nY (1970 + k) ≤ 366 * k := by
  rw [show 1970 + k = (1969 + k) + 1 by omega, nY_nat]
  omega
theorem year_at : ∀ (n : Nat) (d : Int), 0 ≤ d → d < nY (1970 + n) → ∃ Y, 1970 ≤ Y ∧ Y < 1970 + n ∧ nY Y ≤ d ∧ d < nY (Y + 1)
  | 0, d, h0, h => by rw [show 1970 + 0 = 1970 from rfl, nY_1970] at h; omega
  | n + 1, d, h0, h => by
    by_cases h' : d < nY (1970 + n)
    · obtain ⟨Y, a, b, c, e⟩ := year_at n d h0 h'
      exact ⟨Y, a, by omega, c, e⟩
    · exact ⟨1970 + n, by omega, by omega, by omega, h⟩
theorem month_at (y : Nat) : ∀ (n r : Nat), r < cum y n → ∃ M, 1 ≤ M ∧ M ≤ n ∧ cum y (M - 1) ≤ r ∧ r < cum y M
  | 0, r, h => by simp [cum] at h
  | n + 1, r, h => by
    by_cases h' : r < cum y n
    · obtain ⟨M, a, b, c, d⟩ := month_at y n r h'
      exact ⟨M, a, by omega, c, d⟩
    · exact ⟨n + 1, by omega, Nat.le_refl _, by simpa using h', h⟩
/-- What a day is. -/
structure Civ (day : Int) (Y M D : Nat) : Prop where
  y0 : 1970 ≤ Y
  y1 : Y ≤ 9999
  m0 : 1 ≤ M
  m1 : M ≤ 12
  d0 : 1 ≤ D
  d1 : D ≤ daysN Y M
  eq : day = nY Y + (cum Y (M - 1) : Nat) + D - 1
theorem civ_at (d : Int) (h0 : 0 ≤ d) (h1 : d ≤ 2932896) : ∃ Y M D, Civ d Y M D := by
  obtain ⟨Y, a, b, c, e⟩ := year_at 8030 d h0 (by rw [show 1970 + 8030 = 10000 from rfl, nY_10000]; omega)
  obtain ⟨r, hr⟩ := Int.eq_ofNat_of_zero_le (show 0 ≤ d - nY Y by omega)
  have hy := nY_succ Y (by omega)
  obtain ⟨M, m0, m1, c0, c1⟩ := month_at Y 12 r (by rw [cum12]; omega)
  have hs := cum_step Y M m0
  exact ⟨Y, M, r - cum Y (M - 1) + 1, a, by omega, m0, m1, by omega, by omega, by omega⟩
theorem Civ.next {d : Int} {Y M D : Nat} (h : Civ d Y M D) : d < nY (Y + 1) := by
  have h1 := nY_succ Y (by have := h.y0; omega)
  have h2 := cum_mono Y h.m1
  have h3 := cum_step Y M h.m0
  rw [cum12] at h2
  have := h.eq; have := h.d1; have := h.d0
  omega
theorem Civ.first {d : Int} {Y M D : Nat} (h : Civ d Y M D) : nY Y ≤ d := by
  have := h.eq; have := h.d0
  omega
theorem Civ.year {d : Int} {Y M D : Nat} (h : Civ d Y M D) {y : Nat} (hy : y ≤ Y) (h1 : 1 ≤ y) : nY (y + 1) ≤ d ↔ y < Y := by
  constructor
  · intro h2
    have h3 := h.next
    rcases Nat.lt_or_ge y Y with h4 | h4
    · exact h4
    · obtain rfl : y = Y := by omega
      omega
  · intro h2
    have := nY_mono (a := y + 1) (b := Y) (by omega) (by omega)
    have := h.first
    omega
/-- Behind the first k - 1 months there are still so many days. -/
theorem Civ.month {d : Int} {Y M D : Nat} (h : Civ d Y M D) {k : Nat} (hk : 1 ≤ k) (hM : k ≤ M) : cum Y (k - 1) ≤ cum Y (M - 1) ∧ (daysN Y k < cum Y (M - 1) + D - cum Y (k - 1) ↔ k < M) := by
  have h1 := cum_mono Y (show k - 1 ≤ M - 1 by omega)
  have h2 := cum_step Y k hk
  refine ⟨h1, ?_⟩
  constructor
  · intro h3
    rcases Nat.lt_or_ge k M with h4 | h4
    · exact h4
    · obtain rfl : k = M := by omega
      have := h.d1
      omega
  · intro h3
    have := cum_mono Y (show k ≤ M - 1 by omega)
    have := h.d0
    omega

/-! ### The text -/
def nameL : Nat → List UInt8
  | 1 => [74, 97, 110] | 2 => [70, 101, 98] | 3 => [77, 97, 114] | 4 => [65, 112, 114] | 5 => [77, 97, 121] | 6 => [74, 117, 110]
  | 7 => [74, 117, 108] | 8 => [65, 117, 103] | 9 => [83, 101, 112] | 10 => [79, 99, 116] | 11 => [78, 111, 118] | 12 => [68, 101, 99] | _ => []
theorem twelve {m : Nat} (h0 : 1 ≤ m) (h1 : m ≤ 12) : m = 1 ∨ m = 2 ∨ m = 3 ∨ m = 4 ∨ m = 5 ∨ m = 6 ∨ m = 7 ∨ m = 8 ∨ m = 9 ∨ m = 10 ∨ m = 11 ∨ m = 12 := by omega
theorem nameL_length {m : Nat} (h0 : 1 ≤ m) (h1 : m ≤ 12) : (nameL m).length = 3 := by
  rcases twelve h0 h1 with rfl | rfl | rfl | rfl | rfl | rfl | rfl | rfl | rfl | rfl | rfl | rfl <;> rfl
def two (v : Nat) : List UInt8 := [dg v 1, dg v 0]
def four (v : Nat) : List UInt8 := [dg v 3, dg v 2, dg v 1, dg v 0]
def tensB (D : Nat) : UInt8 := if D < 10 then 32 else dg D 1
/-- The digits of v, from the right: so many. -/
def digL (v : Nat) : Nat → List UInt8
  | 0 => []
  | k + 1 => dg v k :: digL v k
theorem digL_two (v : Nat) : digL v 2 = two v := rfl
theorem digL_four (v : Nat) : digL v 4 = four v := rfl
/-- What stands ahead of the zone. -/
def headL (Y M D s : Nat) : List UInt8 :=
  tensB D :: dg D 0 :: 45 :: (nameL M ++ 45 :: (four Y ++ 32 :: (two (s / 3600) ++ 58 :: (two (s / 60 % 60) ++ 58 :: two (s % 60)))))
def textL (Y M D s : Nat) : List UInt8 := headL Y M D s ++ [32, 43, 48, 48, 48, 48]
theorem itoa_four {Y : Nat} (h0 : 1000 ≤ Y) (h1 : Y ≤ 9999) : itoa (Y : Int) = four Y := by
  unfold itoa
  rw [if_neg (by omega), show ((Y : Int)).toNat = Y by omega, decDigits_eq, nDigits_unique 3 Y (by omega) (by omega)]
  rfl
theorem two_small {v : Nat} (h : v < 100) : two v = [UInt8.ofNat (48 + v / 10), UInt8.ofNat (48 + v % 10)] := by
  unfold two dg
  rw [show 10 ^ 1 = 10 from rfl, show 10 ^ 0 = 1 from rfl, Nat.div_one, show v / 10 % 10 = v / 10 by omega]
end Go.Proofs.YtbhpgghbpibalaaGreatDoor.dat
namespace Go.Proofs.YtbhpgghbpibalaaGreatDoor.dat
open Go.ChangeShapes Go.WideShapes Go.ChangeAt Go.RowKit
open Go.Lib (dg itoa byteCells strCells)
set_option linter.unusedVariables false
set_option linter.unusedSimpArgs false

theorem isLeap_any (w : World) (y : Nat) (hy : y ≤ 10001) :
    Calls Tryz.prog 108 #[.int .i64 y] w fun e w' => e = .returned (.bool (leapN y)) ∧ w' = w := by
  go_enter Tryz.func108, Tryz.ntmps108
  go_wp2
  all_goals (go_ret; refine ⟨congrArg (fun b => Ending.returned (Value.bool b)) ?_, rfl⟩; rw [Bool.eq_iff_iff]; simp [leapN] at * <;> omega)
theorem length_any (w : World) (y m : Nat) (hy : y ≤ 10001) (hm : m ≤ 100) :
    Calls Tryz.prog 95 #[.int .i64 y, .int .i64 m] w fun e w' => e = .returned (.int .i64 (daysN y m : Nat)) ∧ w' = w := by
  have h := fun w => isLeap_any w y hy
  unfold daysN
  by_cases h2 : m = 2
  · subst h2
    cases hl : leapN y <;> rw [hl] at h <;>
    · go_enter Tryz.func95, Tryz.ntmps95
      go_wp2_with (go_at_call 108; refine (h _).mono ?_; rintro e w' ⟨rfl, rfl⟩)
      go_ret
      exact ⟨rfl, rfl⟩
  · rw [if_neg h2]
    by_cases h4 : m = 4 ∨ m = 6 ∨ m = 9 ∨ m = 11
    · rw [if_pos h4]
      rcases h4 with rfl | rfl | rfl | rfl <;>
      · go_enter Tryz.func95, Tryz.ntmps95
        go_wp2
        go_ret
        exact ⟨rfl, rfl⟩
    · rw [if_neg h4]
      have e2 : ((m : Int) == 2) = false := by simp; omega
      have e4 : ((m : Int) == 4) = false := by simp; omega
      have e6 : ((m : Int) == 6) = false := by simp; omega
      have e9 : ((m : Int) == 9) = false := by simp; omega
      have e11 : ((m : Int) == 11) = false := by simp; omega
      go_enter Tryz.func95, Tryz.ntmps95
      go_wp2
      go_ret
      exact ⟨rfl, rfl⟩
theorem tdiv_in (p : Int) (n : Int) (hn : 1 ≤ n) (h : -1 ≤ p ∧ p ≤ 10001) : -1 ≤ p.tdiv n ∧ p.tdiv n ≤ 10001 := by
  rcases Int.lt_or_le p 0 with h0 | h0
  · obtain rfl : p = -1 := by omega
    rw [Int.neg_tdiv]
    have h1 : Int.tdiv 1 n = 1 / n := Int.tdiv_eq_ediv_of_nonneg (by omega)
    have h2 : (1 : Int) / n ≤ 1 := Int.ediv_le_self _ (by omega)
    have h3 : 0 ≤ (1 : Int) / n := Int.ediv_nonneg (by omega) (by omega)
    omega
  · rw [Int.tdiv_eq_ediv_of_nonneg h0]
    have h2 : p / n ≤ p := Int.ediv_le_self _ (by omega)
    have h3 : 0 ≤ p / n := Int.ediv_nonneg (by omega) (by omega)
    omega
theorem newYear_any (w : World) (y : Nat) (hy : y ≤ 10001) :
    Calls Tryz.prog 109 #[.int .i64 y] w fun e w' => e = .returned (.int .i64 (nY y)) ∧ w' = w := by
  have a1 := tdiv_in ((y : Int) - 1) 4 (by omega) (by omega)
  have a2 := tdiv_in ((y : Int) - 1) 100 (by omega) (by omega)
  have a3 := tdiv_in ((y : Int) - 1) 400 (by omega) (by omega)
  have w1 := IntWalk.wrap64_in (365 * ((y : Int) - 1) + ((y : Int) - 1).tdiv 4) (by omega)
  have w2 := IntWalk.wrap64_in (365 * ((y : Int) - 1) + ((y : Int) - 1).tdiv 4 - ((y : Int) - 1).tdiv 100) (by omega)
  have w3 := IntWalk.wrap64_in (365 * ((y : Int) - 1) + ((y : Int) - 1).tdiv 4 - ((y : Int) - 1).tdiv 100 + ((y : Int) - 1).tdiv 400) (by omega)
  have w4 := IntWalk.wrap64_in (365 * ((y : Int) - 1) + ((y : Int) - 1).tdiv 4 - ((y : Int) - 1).tdiv 100 + ((y : Int) - 1).tdiv 400 - 719162) (by omega)
  have W1 := Lib.hid w1; have W2 := Lib.hid w2; have W3 := Lib.hid w3; have W4 := Lib.hid w4
  clear w1 w2 w3 w4 a1 a2 a3
  unfold nY
  go_enter Tryz.func109, Tryz.ntmps109
  go_wp2
  rw [W1.out, W2.out, W3.out, W4.out]
  go_ret
  exact ⟨rfl, rfl⟩

theorem isTime_any (w : World) (t : Int) :
    Calls Tryz.prog 97 #[.int .i64 t] w fun e w' => e = .returned (.bool (decide (0 ≤ t ∧ t ≤ 253402300799))) ∧ w' = w := by
  go_enter Tryz.func97, Tryz.ntmps97
  go_wp2
  all_goals (go_ret; refine ⟨congrArg (fun b => Ending.returned (Value.bool b)) ?_, rfl⟩; rw [Bool.eq_iff_iff]; simp at * <;> omega)

theorem u8_digit (n : Nat) (h : n < 10) : ((48 + n : Nat) : Int) = ((UInt8.ofNat (48 + n)).toNat : Int) := by
  rw [UInt8.toNat_ofNat']
  omega
theorem dg0_nat (v : Nat) : (dg v 0).toNat = 48 + v % 10 := by
  unfold dg
  rw [UInt8.toNat_ofNat', show 10 ^ 0 = 1 from rfl, Nat.div_one]
  omega
theorem dg_nat (v j : Nat) : (dg v j).toNat = 48 + v / 10 ^ j % 10 := by
  unfold dg
  rw [UInt8.toNat_ofNat']
  omega
theorem monthName_any (w : World) (m : Nat) (h0 : 1 ≤ m) (h1 : m ≤ 12) :
    Calls Tryz.prog 117 #[.int .i64 m] w fun e w' => e = .returned (.string ⟨(nameL m).toArray⟩) ∧ w' = w := by
  rcases twelve h0 h1 with rfl | rfl | rfl | rfl | rfl | rfl | rfl | rfl | rfl | rfl | rfl | rfl <;>
  · go_enter Tryz.func117, Tryz.ntmps117
    go_wp2
    go_ret
    exact ⟨by first | rfl | kernel_rfl | decide, rfl⟩
theorem dayOf_any (w : World) (y m d : Nat) (hy : y ≤ 10000) (h0 : 1 ≤ m) (h1 : m ≤ 12) (hd : d ≤ 100) :
    Calls Tryz.prog 96 #[.int .i64 y, .int .i64 m, .int .i64 d] w fun e w' => e = .returned (.int .i64 (nY y + d - 1 + (cum y (m - 1) : Nat))) ∧ w' = w := by
  have hb := nY_bounds y hy
  obtain ⟨z, hz⟩ : ∃ z, nY y = z := ⟨_, rfl⟩
  have hn := fun w => newYear_any w y (by omega)
  rw [hz] at hn hb ⊢
  have HZ := Lib.hid hz
  clear hz
  go_enter Tryz.func96, Tryz.ntmps96
  go_wp2_with (go_at_call 109; refine (hn _).mono ?_; rintro e w' ⟨rfl, rfl⟩)
  go_loop [7, 8] (fun x k => ∃ j : Nat, 1 ≤ j ∧ j ≤ m ∧ k = .int .i64 j ∧ x = .int .i64 (z + d - 1 + (cum y (j - 1) : Nat))) (fun _ k => m - (intOf k).toNat)
  case atStart => exact ⟨1, Nat.le_refl _, h0, rfl, by simp [cum]⟩
  case round =>
    obtain ⟨j, j0, j1, rfl, rfl⟩ := hrel
    have hc := cum_le y (j - 1)
    have hl := daysN_pos y j
    have hs := cum_step y j j0
    obtain ⟨c, hcc⟩ : ∃ c, cum y (j - 1) = c := ⟨_, rfl⟩
    obtain ⟨l, hll⟩ : ∃ l, daysN y j = l := ⟨_, rfl⟩
    have hlen := fun w => length_any w y j (by omega) (by omega)
    rw [hll] at hlen hl hs
    rw [hcc] at hc hs ⊢
    have HS := Lib.hid hs
    have HL := Lib.hid hlen
    have HCC := Lib.hid hcc
    clear hlen hll hcc hs
    by_cases hj : j < m
    · go_wp2_with (go_at_call 95; refine (HL.out _).mono ?_; rintro e w' ⟨rfl, rfl⟩)
      exact ⟨⟨j + 1, by omega, hj, by simp, by rw [show j + 1 - 1 = j by omega, HS.out]; congr 1; omega⟩, by simp [intOf]; omega⟩
    · obtain rfl : j = m := by omega
      go_wp2
      go_ret
      rw [HCC.out]
      exact ⟨rfl, rfl⟩
end Go.Proofs.YtbhpgghbpibalaaGreatDoor.dat
namespace Go.Proofs.YtbhpgghbpibalaaGreatDoor.dat
open Go.ChangeShapes Go.WideShapes Go.ChangeAt Go.RowKit
set_option linter.unusedVariables false
set_option linter.unusedSimpArgs false
set_option maxRecDepth 100000

def asciiL : List Int := [0, 1, 2, 3, 4, 5, 6, 7, 8, 9, 10, 11, 12, 13, 14, 15, 16, 17, 18, 19, 20, 21, 22, 23, 24, 25, 26, 27, 28, 29, 30, 31, 32, 33, 34, 35, 36, 37, 38, 39, 40, 41, 42, 43, 44, 45, 46, 47, 48, 49, 50, 51, 52, 53, 54, 55, 56, 57, 58, 59, 60, 61, 62, 63, 64, 97, 98, 99, 100, 101, 102, 103, 104, 105, 106, 107, 108, 109, 110, 111, 112, 113, 114, 115, 116, 117, 118, 119, 120, 121, 122, 91, 92, 93, 94, 95, 96, 65, 66, 67, 68, 69, 70, 71, 72, 73, 74, 8490, 76, 77, 78, 79, 80, 81, 82, 383, 84, 85, 86, 87, 88, 89, 90, 123, 124, 125, 126, 127]
def orbitL : List (DataW Unit) := [.agg [.lit (.int .u16 75), .lit (.int .u16 107)], .agg [.lit (.int .u16 83), .lit (.int .u16 115)], .agg [.lit (.int .u16 107), .lit (.int .u16 8490)], .agg [.lit (.int .u16 115), .lit (.int .u16 383)], .agg [.lit (.int .u16 181), .lit (.int .u16 924)], .agg [.lit (.int .u16 197), .lit (.int .u16 229)], .agg [.lit (.int .u16 223), .lit (.int .u16 7838)], .agg [.lit (.int .u16 229), .lit (.int .u16 8491)], .agg [.lit (.int .u16 304), .lit (.int .u16 304)], .agg [.lit (.int .u16 305), .lit (.int .u16 305)], .agg [.lit (.int .u16 383), .lit (.int .u16 83)], .agg [.lit (.int .u16 452), .lit (.int .u16 453)], .agg [.lit (.int .u16 453), .lit (.int .u16 454)], .agg [.lit (.int .u16 454), .lit (.int .u16 452)], .agg [.lit (.int .u16 455), .lit (.int .u16 456)], .agg [.lit (.int .u16 456), .lit (.int .u16 457)], .agg [.lit (.int .u16 457), .lit (.int .u16 455)], .agg [.lit (.int .u16 458), .lit (.int .u16 459)], .agg [.lit (.int .u16 459), .lit (.int .u16 460)], .agg [.lit (.int .u16 460), .lit (.int .u16 458)], .agg [.lit (.int .u16 497), .lit (.int .u16 498)], .agg [.lit (.int .u16 498), .lit (.int .u16 499)], .agg [.lit (.int .u16 499), .lit (.int .u16 497)], .agg [.lit (.int .u16 837), .lit (.int .u16 921)], .agg [.lit (.int .u16 912), .lit (.int .u16 8147)], .agg [.lit (.int .u16 914), .lit (.int .u16 946)], .agg [.lit (.int .u16 917), .lit (.int .u16 949)], .agg [.lit (.int .u16 920), .lit (.int .u16 952)], .agg [.lit (.int .u16 921), .lit (.int .u16 953)], .agg [.lit (.int .u16 922), .lit (.int .u16 954)], .agg [.lit (.int .u16 924), .lit (.int .u16 956)], .agg [.lit (.int .u16 928), .lit (.int .u16 960)], .agg [.lit (.int .u16 929), .lit (.int .u16 961)], .agg [.lit (.int .u16 931), .lit (.int .u16 962)], .agg [.lit (.int .u16 934), .lit (.int .u16 966)], .agg [.lit (.int .u16 937), .lit (.int .u16 969)], .agg [.lit (.int .u16 944), .lit (.int .u16 8163)], .agg [.lit (.int .u16 946), .lit (.int .u16 976)], .agg [.lit (.int .u16 949), .lit (.int .u16 1013)], .agg [.lit (.int .u16 952), .lit (.int .u16 977)], .agg [.lit (.int .u16 953), .lit (.int .u16 8126)], .agg [.lit (.int .u16 954), .lit (.int .u16 1008)], .agg [.lit (.int .u16 956), .lit (.int .u16 181)], .agg [.lit (.int .u16 960), .lit (.int .u16 982)], .agg [.lit (.int .u16 961), .lit (.int .u16 1009)], .agg [.lit (.int .u16 962), .lit (.int .u16 963)], .agg [.lit (.int .u16 963), .lit (.int .u16 931)], .agg [.lit (.int .u16 966), .lit (.int .u16 981)], .agg [.lit (.int .u16 969), .lit (.int .u16 8486)], .agg [.lit (.int .u16 976), .lit (.int .u16 914)], .agg [.lit (.int .u16 977), .lit (.int .u16 1012)], .agg [.lit (.int .u16 981), .lit (.int .u16 934)], .agg [.lit (.int .u16 982), .lit (.int .u16 928)], .agg [.lit (.int .u16 1008), .lit (.int .u16 922)], .agg [.lit (.int .u16 1009), .lit (.int .u16 929)], .agg [.lit (.int .u16 1012), .lit (.int .u16 920)], .agg [.lit (.int .u16 1013), .lit (.int .u16 917)], .agg [.lit (.int .u16 1042), .lit (.int .u16 1074)], .agg [.lit (.int .u16 1044), .lit (.int .u16 1076)], .agg [.lit (.int .u16 1054), .lit (.int .u16 1086)], .agg [.lit (.int .u16 1057), .lit (.int .u16 1089)], .agg [.lit (.int .u16 1058), .lit (.int .u16 1090)], .agg [.lit (.int .u16 1066), .lit (.int .u16 1098)], .agg [.lit (.int .u16 1074), .lit (.int .u16 7296)], .agg [.lit (.int .u16 1076), .lit (.int .u16 7297)], .agg [.lit (.int .u16 1086), .lit (.int .u16 7298)], .agg [.lit (.int .u16 1089), .lit (.int .u16 7299)], .agg [.lit (.int .u16 1090), .lit (.int .u16 7300)], .agg [.lit (.int .u16 1098), .lit (.int .u16 7302)], .agg [.lit (.int .u16 1122), .lit (.int .u16 1123)], .agg [.lit (.int .u16 1123), .lit (.int .u16 7303)], .agg [.lit (.int .u16 7296), .lit (.int .u16 1042)], .agg [.lit (.int .u16 7297), .lit (.int .u16 1044)], .agg [.lit (.int .u16 7298), .lit (.int .u16 1054)], .agg [.lit (.int .u16 7299), .lit (.int .u16 1057)], .agg [.lit (.int .u16 7300), .lit (.int .u16 7301)], .agg [.lit (.int .u16 7301), .lit (.int .u16 1058)], .agg [.lit (.int .u16 7302), .lit (.int .u16 1066)], .agg [.lit (.int .u16 7303), .lit (.int .u16 1122)], .agg [.lit (.int .u16 7304), .lit (.int .u16 42570)], .agg [.lit (.int .u16 7776), .lit (.int .u16 7777)], .agg [.lit (.int .u16 7777), .lit (.int .u16 7835)], .agg [.lit (.int .u16 7835), .lit (.int .u16 7776)], .agg [.lit (.int .u16 7838), .lit (.int .u16 223)], .agg [.lit (.int .u16 8126), .lit (.int .u16 837)], .agg [.lit (.int .u16 8147), .lit (.int .u16 912)], .agg [.lit (.int .u16 8163), .lit (.int .u16 944)], .agg [.lit (.int .u16 8486), .lit (.int .u16 937)], .agg [.lit (.int .u16 8490), .lit (.int .u16 75)], .agg [.lit (.int .u16 8491), .lit (.int .u16 197)], .agg [.lit (.int .u16 42570), .lit (.int .u16 42571)], .agg [.lit (.int .u16 42571), .lit (.int .u16 7304)], .agg [.lit (.int .u16 64261), .lit (.int .u16 64262)], .agg [.lit (.int .u16 64262), .lit (.int .u16 64261)]]
/-- The letters' other cases, and what the search for the long s meets. -/
structure Fold (w : World) : Prop where
  asc : ∀ c, c < 128 → w.cell? ⟨6, c, none⟩ = some (.int .u16 (asciiL.getD c 0))
  orb : ∃ R o cap, w.cell? ⟨7, 0, none⟩ = some (.slice (some ⟨R, o, none⟩) 94 cap) ∧ R < w.heap.size ∧
    w.cell? ⟨R, o + 47 * 2, none⟩ = some (.int .u16 966) ∧
    w.cell? ⟨R, o + 23 * 2, none⟩ = some (.int .u16 837) ∧
    w.cell? ⟨R, o + 11 * 2, none⟩ = some (.int .u16 452) ∧
    w.cell? ⟨R, o + 5 * 2, none⟩ = some (.int .u16 197) ∧
    w.cell? ⟨R, o + 8 * 2, none⟩ = some (.int .u16 304) ∧
    w.cell? ⟨R, o + 10 * 2, none⟩ = some (.int .u16 383) ∧
    w.cell? ⟨R, o + 9 * 2, none⟩ = some (.int .u16 305) ∧
    w.cell? ⟨R, o + 10 * 2 + 1, none⟩ = some (.int .u16 83)
theorem Fold.below {w w' : World} (h : Fold w) (hb : Below w.heap.size w w') : Fold w' := by
  obtain ⟨ha, R, o, cap, hc, hR, h47, h23, h11, h5, h8, h10, h9, ht⟩ := h
  have e : ∀ i, w'.cell? ⟨R, i, none⟩ = w.cell? ⟨R, i, none⟩ := fun i => hb.cell (p := ⟨R, i, none⟩) hR
  refine ⟨fun c hc => ?_, R, o, cap, ?_, Nat.lt_of_lt_of_le hR hb.size, (e _).trans h47, (e _).trans h23, (e _).trans h11, (e _).trans h5, (e _).trans h8, (e _).trans h10, (e _).trans h9, (e _).trans ht⟩
  · have := ha c hc
    rw [hb.cell (p := ⟨_, c, none⟩) (block_lt_of_cell this)]
    exact this
  · rw [hb.cell (p := ⟨_, 0, none⟩) (block_lt_of_cell hc)]
    exact hc
theorem asc_of {w : World} (h : laidMet Tryz.prog [("unicode.asciiFold", Rows.laid_unicode_asciiFold)] w) : ∀ c, c < 128 → w.cell? ⟨6, c, none⟩ = some (.int .u16 (asciiL.getD c 0)) := by
  have e : (Rows.laid_unicode_asciiFold : DataW Unit) = Lib.tabData .u16 asciiL := by kernel_rfl
  rw [e] at h
  have ht := Lib.tabIs_of_head (g := 6) (t := 142) (e := 141) (n := 128) (by kernel_rfl) (by kernel_rfl) Tryz.underlying142 Tryz.underlying141 (by kernel_rfl) (by kernel_rfl) h
  exact fun c hc => ht.cell (by kernel_rfl) c (by rw [show asciiL.length = 128 by kernel_rfl]; exact hc)
theorem orb_of {w : World} (h : laidMet Tryz.prog [("unicode.caseOrbit", Rows.laid_unicode_caseOrbit)] w) : ∃ R o cap, w.cell? ⟨7, 0, none⟩ = some (.slice (some ⟨R, o, none⟩) 94 cap) ∧ R < w.heap.size ∧
    w.cell? ⟨R, o + 47 * 2, none⟩ = some (.int .u16 966) ∧
    w.cell? ⟨R, o + 23 * 2, none⟩ = some (.int .u16 837) ∧
    w.cell? ⟨R, o + 11 * 2, none⟩ = some (.int .u16 452) ∧
    w.cell? ⟨R, o + 5 * 2, none⟩ = some (.int .u16 197) ∧
    w.cell? ⟨R, o + 8 * 2, none⟩ = some (.int .u16 304) ∧
    w.cell? ⟨R, o + 10 * 2, none⟩ = some (.int .u16 383) ∧
    w.cell? ⟨R, o + 9 * 2, none⟩ = some (.int .u16 305) ∧
    w.cell? ⟨R, o + 10 * 2 + 1, none⟩ = some (.int .u16 83) := by
  obtain ⟨ps, ⟨g, t, cs, fuel, p, q, hg, ht, hvar, hd, -, -⟩, -, -⟩ := h
  obtain rfl := Option.some.inj ((show Tryz.prog.globalNamed "unicode.caseOrbit" = some 7 by kernel_rfl).symm.trans hg)
  obtain rfl := Option.some.inj ((show (Tryz.prog.globals[7]?).map (·.type) = some 143 by kernel_rfl).symm.trans ht)
  rcases Deep.open_slice_pairs (e := 145) Tryz.underlying143 Tryz.underlying145 (by kernel_rfl) rfl rfl (by kernel_rfl) (by kernel_rfl) hd with ⟨-, hx⟩ | ⟨a, len, cap, m, n, V0, V1, D0, D1, P0, P1, hcs, -, hl, -, hm, hx, hel⟩
  · cases hx
  · have hd1 : (Rows.laid_unicode_caseOrbit : DataW Unit) = .slice ((List.range len).map fun i => .agg [D0 i, D1 i]) ((List.range (m - len)).map fun j => .agg [D0 (len + j), D1 (len + j)]) := congrArg Prod.fst hx
    have hd2 : orbitL = (List.range len).map fun i => .agg [D0 i, D1 i] := by
      have : (Rows.laid_unicode_caseOrbit : DataW Unit) = .slice orbitL [] := by kernel_rfl
      rw [this] at hd1
      injection hd1
    have hlen : len = 94 := by
      have := congrArg List.length hd2
      rw [show orbitL.length = 94 by kernel_rfl] at this
      simpa using this.symm
    subst hlen
    have hmm : 94 ≤ m := by rw [hm]; split <;> omega
    obtain ⟨b, o, spot⟩ := a
    have hsp : spot = none := by
      have := (hel 0 (by omega)).1
      simpa [Addr.add] using World.cell?_spot this
    subst hsp
    have ea : ∀ j, ((⟨b, o, none⟩ : Addr).add j) = ⟨b, o + j, none⟩ := by
      intro j
      unfold Addr.add
      split <;> simp_all
    have key : ∀ (i F T : Nat), i < 94 → orbitL[i]? = some (.agg [.lit (.int .u16 F), .lit (.int .u16 T)]) → w.cell? ⟨b, o + i * 2, none⟩ = some (.int .u16 F) ∧ w.cell? ⟨b, o + i * 2 + 1, none⟩ = some (.int .u16 T) := by
      intro i F T hi h
      obtain ⟨h1, h2, h3, h4⟩ := hel i (by omega)
      obtain ⟨z1, e1, e2, -⟩ := DataW.trod_int Tryz.underlying141 h3
      obtain ⟨z2, e3, e4, -⟩ := DataW.trod_int Tryz.underlying141 h4
      rw [hd2] at h
      simp only [List.getElem?_map, List.getElem?_range hi, Option.map_some, Option.some.injEq, DataW.agg.injEq, List.cons.injEq, and_true] at h
      simp only [Prod.mk.injEq] at e2 e4
      rw [h.1] at e2
      rw [h.2] at e4
      have f1 := e2.1
      have f2 := e4.1
      injection f1 with f1
      injection f1 with _ f1
      injection f2 with f2
      injection f2 with _ f2
      simp only [List.cons.injEq, and_true] at e1 e3
      rw [ea, e1, ← f1] at h1
      rw [ea, e3, ← f2, ← Nat.add_assoc] at h2
      exact ⟨h1, h2⟩
    have hc0 : w.cell? ⟨7, 0, none⟩ = some (.slice (some ⟨b, o, none⟩) 94 cap) := by
      have hv := World.var?_cell (show Tryz.prog.globalNamed "unicode.caseOrbit" = some 7 by kernel_rfl) hvar 0
      rw [hv]
      have : cs[0]? = cs.toList[0]? := by simp
      rw [this, hcs]; rfl
    have hk := key 0 75 107 (by omega) (by kernel_rfl)
    exact ⟨b, o, cap, hc0, block_lt_of_cell hk.1, (key 47 966 981 (by omega) (by kernel_rfl)).1, (key 23 837 921 (by omega) (by kernel_rfl)).1, (key 11 452 453 (by omega) (by kernel_rfl)).1, (key 5 197 229 (by omega) (by kernel_rfl)).1, (key 8 304 304 (by omega) (by kernel_rfl)).1, (key 10 383 83 (by omega) (by kernel_rfl)).1, (key 9 305 305 (by omega) (by kernel_rfl)).1, (key 10 383 83 (by omega) (by kernel_rfl)).2⟩
end Go.Proofs.YtbhpgghbpibalaaGreatDoor.dat
namespace Go.Proofs.YtbhpgghbpibalaaGreatDoor.dat
open Go.ChangeShapes Go.WideShapes Go.ChangeAt Go.RowKit
open Go.Lib (dg itoa byteCells strCells)
set_option linter.unusedVariables false
set_option linter.unusedSimpArgs false

theorem byte_text (w : World) (x : Nat) (hx : x < 256) :
    (convert 22 9 (.slice (some ⟨w.heap.size, 0, none⟩) 1 1)).run Tryz.prog (w.alloc (.cells #[.int .u8 (x : Nat)] 5)) = .ok (.string ⟨#[UInt8.ofNat x]⟩) (w.alloc (.cells #[.int .u8 (x : Nat)] 5)) := by
  have h := Go.run_convert_bytes_back (P := Tryz.prog) (w.alloc (.cells #[.int .u8 (x : Nat)] 5)) 22 9 5 ⟨w.heap.size, 0, none⟩ 1 [UInt8.ofNat x] Tryz.underlying22 Tryz.underlying5 Tryz.underlying9 (fun j hj => by
    obtain rfl : j = 0 := by simpa using hj
    have e : (UInt8.ofNat x).toNat = x := by rw [UInt8.toNat_ofNat']; omega
    show (w.alloc (.cells #[.int .u8 (x : Nat)] 5)).cell? ⟨w.heap.size, 0, none⟩ = some (.int .u8 ((UInt8.ofNat x).toNat : Int))
    simp only [World.cell?]
    rw [heap_alloc_new]
    simp [e])
  exact h
theorem digL_length (v k : Nat) : (digL v k).length = k := by
  induction k with
  | zero => rfl
  | succ k ih => simp [digL, ih]
theorem bytes_cons (x : UInt8) (l : List UInt8) : (⟨#[x]⟩ : ByteArray) ++ ⟨l.toArray⟩ = ⟨(x :: l).toArray⟩ := by
  apply ByteArray.ext
  simp
end Go.Proofs.YtbhpgghbpibalaaGreatDoor.dat
namespace Go.Proofs.YtbhpgghbpibalaaGreatDoor.dat
open Go.Lib
set_option linter.unusedVariables false
set_option linter.unusedSimpArgs false

def low (c : Nat) : Nat := if 65 ≤ c ∧ c ≤ 90 then c + 32 else c
def alike (s t : ByteArray) : Bool := decide (s.size = t.size) && (List.range s.size).all fun i => low (byt s i) == low (byt t i)
theorem alike_false (s t : ByteArray) (i : Nat) (h : i < s.size) (hne : (low (byt s i) == low (byt t i)) = false) : alike s t = false := by
  unfold alike
  have : ((List.range s.size).all fun i => low (byt s i) == low (byt t i)) = false := by
    rw [List.all_eq_false]
    exact ⟨i, List.mem_range.2 h, by simp [hne]⟩
  rw [this, Bool.and_false]
theorem alike_true (s t : ByteArray) (h : s.size = t.size) (he : ∀ i, i < s.size → (low (byt s i) == low (byt t i)) = true) : alike s t = true := by
  unfold alike
  simp only [h, decide_true, Bool.true_and, List.all_eq_true, List.mem_range]
  intro i hi
  exact he i (by omega)
theorem alike_size (s t : ByteArray) (h : s.size ≠ t.size) : alike s t = false := by
  unfold alike
  simp [h]

theorem fold_low (x y : UInt8) : foldEq x y = (low x.toNat == low y.toNat) := by
  have hx := UInt8.toNat_lt x
  have hy := UInt8.toNat_lt y
  rw [Bool.eq_iff_iff]
  unfold foldEq low
  simp only [decide_eq_true_eq, beq_iff_eq]
  split <;> split <;> omega
theorem equalFold_map : ∀ (s t : List UInt8), equalFold s t = (s.map (fun c => low c.toNat) == t.map (fun c => low c.toNat))
  | [], [] => rfl
  | [], _ :: _ => rfl
  | _ :: _, [] => rfl
  | x :: s, y :: t => by
    rw [equalFold, equalFold_map s t, fold_low]
    simp

theorem byt_extract (s : ByteArray) (a b i : Nat) (h : a + i < b) (hb : b ≤ s.size) : byt (s.extract a b) i = byt s (a + i) := by
  have h1 : i < (s.extract a b).size := by rw [ByteArray.size_extract]; omega
  rw [← byt_at _ i h1, ← byt_at s (a + i) (by omega), ByteArray.getElem_extract]

theorem alike_fold (s t : ByteArray) (hs : s.size = 3) (ht : t.size = 3) : alike s t = equalFold s.data.toList t.data.toList := by
  rw [equalFold_map]
  obtain ⟨⟨l⟩⟩ := s
  obtain ⟨⟨r⟩⟩ := t
  match l, hs, r, ht with
  | [a, b, c], _, [x, y, z], _ =>
    unfold alike byt
    rw [Bool.eq_iff_iff]
    simp [ByteArray.size, List.range_succ]

/-! ### The month -/
def code (s : ByteArray) (k : Nat) : Nat × Nat × Nat := (low (byt s k), low (byt s (k + 1)), low (byt s (k + 2)))
def codeOf (m : Nat) : Nat × Nat × Nat := code ⟨(nameL m).toArray⟩ 0
def lastM (c : Nat × Nat × Nat) : Nat → Nat
  | 0 => 0
  | k + 1 => if codeOf (k + 1) = c then k + 1 else lastM c k
/-- The month of such letters, 0 if there is none. -/
def mon (c : Nat × Nat × Nat) : Nat := lastM c 12
theorem lastM_le (c : Nat × Nat × Nat) : ∀ k, lastM c k ≤ k
  | 0 => Nat.le_refl _
  | k + 1 => by
    unfold lastM
    split
    · exact Nat.le_refl _
    · have := lastM_le c k; omega
theorem mon_le (c : Nat × Nat × Nat) : mon c ≤ 12 := lastM_le c 12
theorem mon_code {m : Nat} (h0 : 1 ≤ m) (h1 : m ≤ 12) : mon (codeOf m) = m := by
  rcases twelve h0 h1 with rfl | rfl | rfl | rfl | rfl | rfl | rfl | rfl | rfl | rfl | rfl | rfl <;> decide
theorem lastM_none (c : Nat × Nat × Nat) : ∀ k, (∀ m, 1 ≤ m → m ≤ k → codeOf m ≠ c) → lastM c k = 0
  | 0, _ => rfl
  | k + 1, h => by
    unfold lastM
    rw [if_neg (h (k + 1) (by omega) (Nat.le_refl _))]
    exact lastM_none c k fun m h0 h1 => h m h0 (by omega)
theorem alike_name (s : ByteArray) (m : Nat) (h0 : 1 ≤ m) (h1 : m ≤ 12) (hs : s.size = 3) : alike s ⟨(nameL m).toArray⟩ = decide (codeOf m = code s 0) := by
  have hl := nameL_length h0 h1
  have hz : (⟨(nameL m).toArray⟩ : ByteArray).size = 3 := hl
  unfold alike codeOf code
  rw [hs, hz, Bool.eq_iff_iff]
  simp only [show List.range 3 = [0, 1, 2] from rfl, decide_true, Bool.true_and, List.all_cons, List.all_nil, Bool.and_true, Bool.and_eq_true, beq_iff_eq, decide_eq_true_eq, Prod.mk.injEq, Nat.zero_add]
  constructor
  · rintro ⟨a, b, c⟩; exact ⟨a.symm, b.symm, c.symm⟩
  · rintro ⟨a, b, c⟩; exact ⟨a.symm, b.symm, c.symm⟩
theorem code_extract (s : ByteArray) (k : Nat) (h : k + 3 ≤ s.size) : code (s.extract k (k + 3)) 0 = code s k := by
  unfold code
  rw [byt_extract s k (k + 3) 0 (by omega) h, byt_extract s k (k + 3) 1 (by omega) h, byt_extract s k (k + 3) 2 (by omega) h]
  rfl

/-! ### Digits -/
def digB (c : Nat) : Bool := decide (48 ≤ c ∧ c ≤ 57)
/-- The number of n digits from k on. -/
def digs (s : ByteArray) (k : Nat) : Nat → Option Nat
  | 0 => some 0
  | n + 1 => (digs s k n).bind fun v => if digB (byt s (k + n)) then some (10 * v + (byt s (k + n) - 48)) else none
theorem digs_lt (s : ByteArray) (k : Nat) : ∀ n v, digs s k n = some v → v < 10 ^ n
  | 0, v, h => by simp only [digs, Option.some.injEq] at h; subst h; decide
  | n + 1, v, h => by
    simp only [digs, Option.bind_eq_some_iff] at h
    obtain ⟨u, hu, h⟩ := h
    have := digs_lt s k n u hu
    split at h
    · rename_i hd
      simp only [digB, decide_eq_true_eq] at hd
      cases h
      rw [Nat.pow_succ]; omega
    · cases h
theorem digs_bad (s : ByteArray) (k : Nat) : ∀ (n i : Nat), i < n → digB (byt s (k + i)) = false → digs s k n = none
  | 0, i, h, _ => by omega
  | n + 1, i, h, hb => by
    simp only [digs]
    rcases Nat.lt_succ_iff_lt_or_eq.1 h with h' | rfl
    · rw [digs_bad s k n i h' hb]; rfl
    · cases digs s k i with
      | none => rfl
      | some v => simp [hb]
theorem digs_extract (s : ByteArray) (a b : Nat) (hb : b ≤ s.size) : ∀ n, a + n ≤ b → digs (s.extract a b) 0 n = digs s a n
  | 0, _ => rfl
  | n + 1, h => by
    simp only [digs]
    rw [digs_extract s a b hb n (by omega), Nat.zero_add, byt_extract s a b n (by omega) hb]
theorem two_digs (s : ByteArray) (k v : Nat) (hv : v < 100) (h1 : byt s k = (dg v 1).toNat) (h0 : byt s (k + 1) = (dg v 0).toNat) : digs s k 2 = some v := by
  unfold dg at h1 h0
  rw [UInt8.toNat_ofNat'] at h1 h0
  simp only [digs, Option.bind_some, Nat.add_zero, h1, h0, digB]
  rw [if_pos (by simp; omega)]
  simp only [Option.bind_some]
  rw [if_pos (by simp; omega)]
  congr 1
  omega
theorem four_digs (s : ByteArray) (k v : Nat) (hv : v < 10000) (h3 : byt s k = (dg v 3).toNat) (h2 : byt s (k + 1) = (dg v 2).toNat) (h1 : byt s (k + 2) = (dg v 1).toNat) (h0 : byt s (k + 3) = (dg v 0).toNat) : digs s k 4 = some v := by
  unfold dg at h3 h2 h1 h0
  rw [UInt8.toNat_ofNat'] at h3 h2 h1 h0
  simp only [digs, Option.bind_some, Nat.add_zero, h3, h2, h1, h0, digB]
  rw [if_pos (by simp; omega)]
  simp only [Option.bind_some]
  rw [if_pos (by simp; omega)]
  simp only [Option.bind_some]
  rw [if_pos (by simp; omega)]
  simp only [Option.bind_some]
  rw [if_pos (by simp; omega)]
  congr 1
  omega

/-! ### What a text says -/
structure Fm (s : ByteArray) (d m y h i e zh zm : Nat) : Prop where
  size : s.size = 26
  b2 : byt s 2 = 45
  b6 : byt s 6 = 45
  b11 : byt s 11 = 32
  b14 : byt s 14 = 58
  b17 : byt s 17 = 58
  b20 : byt s 20 = 32
  b21 : byt s 21 = 43 ∨ byt s 21 = 45
  day : if byt s 0 = 32 then digs s 1 1 = some d else digs s 0 2 = some d
  month : mon (code s 3) = m
  m0 : m ≠ 0
  year : digs s 7 4 = some y
  hour : digs s 12 2 = some h
  h1 : h ≤ 23
  min : digs s 15 2 = some i
  i1 : i ≤ 59
  sec : digs s 18 2 = some e
  e1 : e ≤ 59
  zhour : digs s 22 2 = some zh
  zh1 : zh ≤ 14
  zmin : digs s 24 2 = some zm
  zm1 : zm ≤ 59
def ahead (s : ByteArray) (zh zm : Nat) : Int := if byt s 21 = 43 then (zh * 3600 + zm * 60 : Nat) else -(zh * 3600 + zm * 60 : Nat)
def timeOf (s : ByteArray) (d m y h i e zh zm : Nat) : Int := (nY y + d - 1 + (cum y (m - 1) : Nat)) * 86400 + h * 3600 + i * 60 + e - ahead s zh zm
/-- s is the text of the time t. -/
def Tells (s : ByteArray) (t : Int) : Prop := ∃ d m y h i e zh zm, Fm s d m y h i e zh zm ∧ 1 ≤ d ∧ d ≤ daysN y m ∧ t = timeOf s d m y h i e zh zm ∧ 0 ≤ t ∧ t ≤ 253402300799
theorem Fm.same {s : ByteArray} {d m y h i e zh zm d' m' y' h' i' e' zh' zm' : Nat} (a : Fm s d m y h i e zh zm) (b : Fm s d' m' y' h' i' e' zh' zm') : d = d' ∧ m = m' ∧ y = y' ∧ h = h' ∧ i = i' ∧ e = e' ∧ zh = zh' ∧ zm = zm' := by
  refine ⟨?_, a.month.symm.trans b.month, Option.some.inj (a.year.symm.trans b.year), Option.some.inj (a.hour.symm.trans b.hour), Option.some.inj (a.min.symm.trans b.min), Option.some.inj (a.sec.symm.trans b.sec), Option.some.inj (a.zhour.symm.trans b.zhour), Option.some.inj (a.zmin.symm.trans b.zmin)⟩
  have h1 := a.day
  have h2 := b.day
  split at h1
  · rename_i hc
    rw [if_pos hc] at h2
    exact Option.some.inj (h1.symm.trans h2)
  · rename_i hc
    rw [if_neg hc] at h2
    exact Option.some.inj (h1.symm.trans h2)
/-- What is answered of s. -/
def Par (s : ByteArray) (t : Int) (ok : Bool) : Prop := (ok = true ∧ Tells s t) ∨ (ok = false ∧ t = 0 ∧ ∀ t', ¬ Tells s t')
theorem Tells.same {s : ByteArray} {t t' : Int} (h : Tells s t) (h' : Tells s t') : t = t' := by
  obtain ⟨d, m, y, hh, i, e, zh, zm, hf, -, -, ht, -⟩ := h
  obtain ⟨d', m', y', hh', i', e', zh', zm', hf', -, -, ht', -⟩ := h'
  obtain ⟨rfl, rfl, rfl, rfl, rfl, rfl, rfl, rfl⟩ := hf.same hf'
  rw [ht, ht']
theorem Par.same {s : ByteArray} {t t' : Int} {ok ok' : Bool} (h : Par s t ok) (h' : Par s t' ok') : t = t' ∧ ok = ok' := by
  rcases h with ⟨rfl, h⟩ | ⟨rfl, rfl, h⟩ <;> rcases h' with ⟨rfl, h'⟩ | ⟨rfl, rfl, h'⟩
  · exact ⟨h.same h', rfl⟩
  · exact absurd h (h' _)
  · exact absurd h' (h _)
  · exact ⟨rfl, rfl⟩
theorem Par.of {s : ByteArray} {t t' : Int} {ok : Bool} (h : Par s t' ok) (ht : Tells s t) : t' = t ∧ ok = true := by
  rcases h with ⟨rfl, h⟩ | ⟨rfl, rfl, h⟩
  · exact ⟨h.same ht, rfl⟩
  · exact absurd ht (h _)
theorem par_none {s : ByteArray} (h : ∀ d m y h i e zh zm, Fm s d m y h i e zh zm → 1 ≤ d → d ≤ daysN y m → 0 ≤ timeOf s d m y h i e zh zm → timeOf s d m y h i e zh zm ≤ 253402300799 → False) : Par s 0 false :=
  .inr ⟨rfl, rfl, fun t ⟨d, m, y, hh, i, e, zh, zm, hf, h1, h2, ht, h3, h4⟩ => h d m y hh i e zh zm hf h1 h2 (ht ▸ h3) (ht ▸ h4)⟩
/-- A year that is too early. -/
theorem early {s : ByteArray} {d m y h i e zh zm : Nat} (hf : Fm s d m y h i e zh zm) (hd : d ≤ daysN y m) (hy : y ≤ 1968) : timeOf s d m y h i e zh zm < 0 := by
  have h1 := nY_low y hy
  have hm : m ≤ 12 := hf.month ▸ mon_le _
  have h2 := cum_step y m (by have := hf.m0; omega)
  have h3 := cum_mono y hm
  rw [cum12] at h3
  have h4 := ylen_pos y
  have := hf.h1; have := hf.i1; have := hf.e1; have := hf.zh1; have := hf.zm1
  unfold timeOf ahead
  split <;> omega

/-! ### A text that was written -/
theorem text_tells (Y M D x : Nat) (t : Int) (sg : UInt8) (zh zm : Nat) (hY : Y ≤ 9999) (hM0 : 1 ≤ M) (hM1 : M ≤ 12) (hD0 : 1 ≤ D) (hD : D ≤ daysN Y M) (hx : x < 86400)
    (hsg : sg = 43 ∨ sg = 45) (hzh : zh ≤ 14) (hzm : zm ≤ 59)
    (ht : t = (nY Y + D - 1 + (cum Y (M - 1) : Nat)) * 86400 + x - (if sg = 43 then ((zh * 3600 + zm * 60 : Nat) : Int) else -((zh * 3600 + zm * 60 : Nat) : Int))) (h0 : 0 ≤ t) (h1 : t ≤ 253402300799) :
    Tells ⟨(headL Y M D x ++ 32 :: sg :: (two zh ++ two zm)).toArray⟩ t := by
  obtain ⟨a, b, c, hn⟩ : ∃ a b c, nameL M = [a, b, c] := by
    have := nameL_length hM0 hM1
    match h : nameL M, this with
    | [a, b, c], _ => exact ⟨a, b, c, rfl⟩
  have hc : codeOf M = (low a.toNat, low b.toNat, low c.toNat) := by
    unfold codeOf code
    rw [hn]; rfl
  obtain ⟨l, hl⟩ : ∃ l, headL Y M D x ++ 32 :: sg :: (two zh ++ two zm) = l := ⟨_, rfl⟩
  have hl' := hl
  unfold headL two four at hl'
  rw [hn] at hl'
  simp only [List.cons_append, List.nil_append] at hl'
  have hd31 := (daysN_pos Y M).2
  have ht0 : byt ⟨l.toArray⟩ 0 = (tensB D).toNat := by rw [byt_of, ← hl']; rfl
  have ht1 : byt ⟨l.toArray⟩ 1 = (dg D 0).toNat := by rw [byt_of, ← hl']; rfl
  rw [hl]
  refine ⟨D, M, Y, x / 3600, x / 60 % 60, x % 60, zh, zm, ⟨?_, ?_, ?_, ?_, ?_, ?_, ?_, ?_, ?_, ?_, by omega, ?_, ?_, by omega, ?_, by omega, ?_, by omega, ?_, hzh, ?_, hzm⟩, hD0, hD, ?_, h0, h1⟩
  · show l.length = 26
    rw [← hl']; rfl
  · rw [byt_of, ← hl']; rfl
  · rw [byt_of, ← hl']; rfl
  · rw [byt_of, ← hl']; rfl
  · rw [byt_of, ← hl']; rfl
  · rw [byt_of, ← hl']; rfl
  · rw [byt_of, ← hl']; rfl
  · rw [byt_of, ← hl']
    show sg.toNat = 43 ∨ sg.toNat = 45
    rcases hsg with rfl | rfl
    · exact .inl rfl
    · exact .inr rfl
  · unfold tensB at ht0
    by_cases h10 : D < 10
    · rw [if_pos h10] at ht0
      rw [if_pos (by rw [ht0]; rfl)]
      unfold dg at ht1
      rw [UInt8.toNat_ofNat'] at ht1
      simp only [digs, Option.bind_some, Nat.add_zero, ht1, digB]
      rw [if_pos (by simp; omega)]
      congr 1
      omega
    · rw [if_neg h10] at ht0
      have hne : ¬ byt ⟨l.toArray⟩ 0 = 32 := by
        rw [ht0]; unfold dg; rw [UInt8.toNat_ofNat']; omega
      rw [if_neg hne]
      exact two_digs _ 0 D (by omega) ht0 ht1
  · rw [← mon_code hM0 hM1, hc]
    congr 1
    unfold code
    rw [byt_of, byt_of, byt_of, ← hl']; rfl
  · exact four_digs _ 7 Y (by omega) (by rw [byt_of, ← hl']; rfl) (by rw [byt_of, ← hl']; rfl) (by rw [byt_of, ← hl']; rfl) (by rw [byt_of, ← hl']; rfl)
  · exact two_digs _ 12 _ (by omega) (by rw [byt_of, ← hl']; rfl) (by rw [byt_of, ← hl']; rfl)
  · exact two_digs _ 15 _ (by omega) (by rw [byt_of, ← hl']; rfl) (by rw [byt_of, ← hl']; rfl)
  · exact two_digs _ 18 _ (by omega) (by rw [byt_of, ← hl']; rfl) (by rw [byt_of, ← hl']; rfl)
  · exact two_digs _ 22 _ (by omega) (by rw [byt_of, ← hl']; rfl) (by rw [byt_of, ← hl']; rfl)
  · exact two_digs _ 24 _ (by omega) (by rw [byt_of, ← hl']; rfl) (by rw [byt_of, ← hl']; rfl)
  · have h21 : byt ⟨l.toArray⟩ 21 = sg.toNat := by rw [byt_of, ← hl']; rfl
    unfold timeOf ahead
    rw [h21, ht]
    rcases hsg with rfl | rfl
    · rw [if_pos rfl, if_pos (show (43 : UInt8).toNat = 43 from rfl)]
      omega
    · rw [if_neg (by decide), if_neg (show ¬ (45 : UInt8).toNat = 43 by decide)]
      omega
end Go.Proofs.YtbhpgghbpibalaaGreatDoor.dat
namespace Go.Proofs.YtbhpgghbpibalaaGreatDoor.dat
open Go.ChangeShapes Go.WideShapes Go.ChangeAt Go.RowKit
open Go.Lib (dg itoa byteCells strCells)
set_option linter.unusedVariables false
set_option linter.unusedSimpArgs false

/-- The world has drawn, and nothing else. -/
def Drew (w w' : World) : Prop := ∃ n, w' = w.drewN n
theorem Drew.refl (w : World) : Drew w w := ⟨0, rfl⟩
theorem Drew.drewN {w w' : World} (h : Drew w w') (q : Nat) : Drew w (w'.drewN q) := by
  obtain ⟨n, rfl⟩ := h
  exact ⟨n + q, by rw [World.drewN_drewN]⟩
theorem Drew.below {w w' : World} (h : Drew w w') (B : Nat) : Below B w w' := by
  obtain ⟨n, rfl⟩ := h
  exact ⟨rfl, rfl, rfl, Nat.le_refl _, fun _ _ => rfl⟩

def numI : Option Nat → Int
  | some v => v
  | none => -1
end Go.Proofs.YtbhpgghbpibalaaGreatDoor.dat
