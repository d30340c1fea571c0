/- Plain mathematics of dates: years, months, the text of a time. -/
import Derived.Lib.ItoaNum
import Derived.Lib.Fold
import Derived.Lib.Strings
import Derived.Test.YtepngemlaiffgaaDoorRows
import Derived.Test.YtepngemlaiffgaaDoorMc1
import Derived.WalkKit
import Derived.ProofKit
import Derived.OpenShut
import Derived.ShutString
import Derived.ChangeOld
import Derived.Below
import Derived.Outline
import Derived.WalkSpells
import Derived.Lib.Hide
import Derived.Deep.QuietTactic
import Derived.BigQuiet
import Derived.Deep.OwnRows
import Derived.Deep.WholeRow
import Derived.StillTailTactics
import Derived.Deep.RegionLaw
import Derived.Lib.AppendStr
import Derived.OwnWalk
import Derived.Laws.OwnMore
import Derived.Laws.IdiomStrings
import Derived.Lib.AppendIntMem
import Derived.Lib.Join
import Derived.Laws.BitsLemmas
import Derived.Test.YtepngemlaiffgaaDoorMc0
import Derived.Lib.LaidTab
namespace Go.Proofs.YtepngemlaiffgaaDoor.dat
open Go.Lib
set_option linter.unusedVariables false
set_option linter.unusedSimpArgs false

/-- Byte i of s. -/
def byt (s : ByteArray) (i : Nat) : Nat := (s.data[i]!).toNat
theorem byt_at (s : ByteArray) (i : Nat) (h : i < s.size) : (s[i]'h).toNat = byt s i := by
  unfold byt
  rw [getElem!_pos s.data i (by simpa using h)]; rfl
theorem byt_lt (s : ByteArray) (i : Nat) : byt s i < 256 := UInt8.toNat_lt _
theorem byt_of (l : List UInt8) (i : Nat) : byt ⟨l.toArray⟩ i = (l.getD i 0).toNat := by
  unfold byt
  by_cases h : i < l.length
  · rw [getElem!_pos _ i (by simpa using h), List.getD, List.getElem?_eq_getElem h]
    simp
  · rw [getElem!_neg _ i (by simpa using h), List.getD, List.getElem?_eq_none (by omega)]
    rfl

/-! ### Years and months -/
def leapN (y : Nat) : Bool := decide (y % 4 = 0 ∧ (y % 100 ≠ 0 ∨ y % 400 = 0))
def ylen (y : Nat) : Nat := if leapN y then 366 else 365
def daysN (y m : Nat) : Nat := if m = 2 then (if leapN y then 29 else 28) else if m = 4 ∨ m = 6 ∨ m = 9 ∨ m = 11 then 30 else 31
theorem daysN_pos (y m : Nat) : 28 ≤ daysN y m ∧ daysN y m ≤ 31 := by
  unfold daysN
  split
  · split <;> omega
  · split <;> omega
/-- The days of the first months. -/
def cum (y : Nat) : Nat → Nat
  | 0 => 0
  | k + 1 => cum y k + daysN y (k + 1)
theorem cum12 (y : Nat) : cum y 12 = ylen y := by
  unfold ylen
  cases h : leapN y <;> simp [cum, daysN, h]
theorem cum_mono (y : Nat) {a b : Nat} (h : a ≤ b) : cum y a ≤ cum y b := by
  induction b with
  | zero => obtain rfl : a = 0 := by omega
            exact Nat.le_refl _
  | succ b ih =>
    by_cases e : a = b + 1
    · subst e; exact Nat.le_refl _
    · have := ih (by omega)
      simp only [cum]; omega
theorem cum_step (y k : Nat) (h : 1 ≤ k) : cum y k = cum y (k - 1) + daysN y k := by
  obtain ⟨j, rfl⟩ : ∃ j, k = j + 1 := ⟨k - 1, by omega⟩
  rfl
theorem cum_le (y k : Nat) : cum y k ≤ 31 * k := by
  induction k with
  | zero => exact Nat.le_refl _
  | succ k ih => have := (daysN_pos y (k + 1)).2; simp only [cum]; omega
/-- The day, from 1970 on, that a year begins with. -/
def nY (y : Nat) : Int := 365 * ((y : Int) - 1) + ((y : Int) - 1).tdiv 4 - ((y : Int) - 1).tdiv 100 + ((y : Int) - 1).tdiv 400 - 719162
theorem nY_nat (x : Nat) : nY (x + 1) = 365 * (x : Int) + ((x / 4 : Nat) : Int) - ((x / 100 : Nat) : Int) + ((x / 400 : Nat) : Int) - 719162 := by
  unfold nY
  rw [show (((x + 1 : Nat) : Int) - 1) = (x : Int) by omega]
  rfl
theorem nY_zero : nY 0 = -719527 := by decide
theorem nY_1970 : nY 1970 = 0 := by decide
theorem nY_1969 : nY 1969 = -365 := by decide
theorem nY_10000 : nY 10000 = 2932897 := by decide
theorem nY_succ (y : Nat) (h : 1 ≤ y) : nY (y + 1) = nY y + ylen y := by
  obtain ⟨x, rfl⟩ : ∃ x, y = x + 1 := ⟨y - 1, by omega⟩
  rw [nY_nat, nY_nat]
  unfold ylen leapN
  by_cases h1 : (x + 1) % 4 = 0 ∧ ((x + 1) % 100 ≠ 0 ∨ (x + 1) % 400 = 0)
  · rw [if_pos (by simpa using h1)]
    omega
  · rw [if_neg (by simpa using h1)]
    omega
theorem ylen_pos (y : Nat) : 365 ≤ ylen y ∧ ylen y ≤ 366 := by unfold ylen; split <;> omega
theorem nY_mono {a b : Nat} (h1 : 1 ≤ a) (h : a ≤ b) : nY a ≤ nY b := by
  induction b with
  | zero => omega
  | succ b ih =>
    by_cases e : a = b + 1
    · subst e; exact Int.le_refl _
    · have := ih (by omega)
      have := nY_succ b (by omega)
      omega
theorem nY_low (y : Nat) (h : y ≤ 1968) : nY y ≤ -366 - 365 := by
  rcases y with _ | x
  · rw [nY_zero]; omega
  · rw [nY_nat]; omega
theorem nY_bounds (y : Nat) (h : y ≤ 10000) : -719527 ≤ nY y ∧ nY y ≤ 2932897 := by
  rcases y with _ | x
  · rw [nY_zero]; omega
  · rw [nY_nat]; omega
theorem nY_near (k : Nat) (h : k ≤ 8030) : nY (1970 + k) ≤ 366 * k := by
  rw [show 1970 + k = (1969 + k) + 1 by omega, nY_nat]
  omega
theorem year_at : ∀ (n : Nat) (d : Int), 0 ≤ d → d < nY (1970 + n) → ∃ Y, 1970 ≤ Y ∧ Y < 1970 + n ∧ nY Y ≤ d ∧ d < nY (Y + 1)
  | 0, d, h0, h => by rw [show 1970 + 0 = 1970 from rfl, nY_1970] at h; omega
  | n + 1, d, h0, h => by
    by_cases h' : d < nY (1970 + n)
    · obtain ⟨Y, a, b, c, e⟩ := year_at n d h0 h'
      exact ⟨Y, a, by omega, c, e⟩
    · exact ⟨1970 + n, by omega, by omega, by omega, h⟩
theorem month_at (y : Nat) : ∀ (n r : Nat), r < cum y n → ∃ M, 1 ≤ M ∧ M ≤ n ∧ cum y (M - 1) ≤ r ∧ r < cum y M
  | 0, r, h => by simp [cum] at h
  | n + 1, r, h => by
    by_cases h' : r < cum y n
    · obtain ⟨M, a, b, c, d⟩ := month_at y n r h'
      exact ⟨M, a, by omega, c, d⟩
    · exact ⟨n + 1, by omega, Nat.le_refl _, by simpa using h', h⟩
/-- What a day is. -/
structure Civ (day : Int) (Y M D : Nat) : Prop where
  y0 : 1970 ≤ Y
  y1 : Y ≤ 9999
  m0 : 1 ≤ M
  m1 : M ≤ 12
  d0 : 1 ≤ D
  d1 : D ≤ daysN Y M
  eq : day = nY Y + (cum Y (M - 1) : Nat) + D - 1
theorem civ_at (d : Int) (h0 : 0 ≤ d) (h1 : d ≤ 2932896) : ∃ Y M D, Civ d Y M D := by
  obtain ⟨Y, a, b, c, e⟩ := year_at 8030 d h0 (by rw [show 1970 + 8030 = 10000 from rfl, nY_10000]; omega)
  obtain ⟨r, hr⟩ := Int.eq_ofNat_of_zero_le (show 0 ≤ d - nY Y by omega)
  have hy := nY_succ Y (by omega)
  obtain ⟨M, m0, m1, c0, c1⟩ := month_at Y 12 r (by rw [cum12]; omega)
  have hs := cum_step Y M m0
  exact ⟨Y, M, r - cum Y (M - 1) + 1, a, by omega, m0, m1, by omega, by omega, by omega⟩
theorem Civ.next {d : Int} {Y M D : Nat} (h : Civ d Y M D) : d < nY (Y + 1) := by
  have h1 := nY_succ Y (by have := h.y0; omega)
  have h2 := cum_mono Y h.m1
  have h3 := cum_step Y M h.m0
  rw [cum12] at h2
  have := h.eq; have := h.d1; have := h.d0
  omega
theorem Civ.first {d : Int} {Y M D : Nat} (h : Civ d Y M D) : nY Y ≤ d := by
  have := h.eq; have := h.d0
  omega
theorem Civ.year {d : Int} {Y M D : Nat} (h : Civ d Y M D) {y : Nat} (hy : y ≤ Y) (h1 : 1 ≤ y) : nY (y + 1) ≤ d ↔ y < Y := by
  constructor
  · intro h2
    have h3 := h.next
    rcases Nat.lt_or_ge y Y with h4 | h4
    · exact h4
    · obtain rfl : y = Y := by omega
      omega
  · intro h2
    have := nY_mono (a := y + 1) (b := Y) (by omega) (by omega)
    have := h.first
    omega
/-- Behind the first k - 1 months there are still so many days. -/
theorem Civ.month {d : Int} {Y M D : Nat} (h : Civ d Y M D) {k : Nat} (hk : 1 ≤ k) (hM : k ≤ M) : cum Y (k - 1) ≤ cum Y (M - 1) ∧ (daysN Y k < cum Y (M - 1) + D - cum Y (k - 1) ↔ k < M) := by
  have h1 := cum_mono Y (show k - 1 ≤ M - 1 by omega)
  have h2 := cum_step Y k hk
  refine ⟨h1, ?_⟩
  constructor
  · intro h3
    rcases Nat.lt_or_ge k M with h4 | h4
    · exact h4
    · obtain rfl : k = M := by omega
      have := h.d1
      omega
  · intro h3
    have := cum_mono Y (show k ≤ M - 1 by omega)
    have := h.d0
    omega

/-! ### The text -/
def nameL : Nat → List UInt8
  | 1 => [74, 97, 110] | 2 => [70, 101, 98] | 3 => [77, 97, 114] | 4 => [65, 112, 114] | 5 => [77, 97, 121] | 6 => [74, 117, 110]
  | 7 => [74, 117, 108] | 8 => [65, 117, 103] | 9 => [83, 101, 112] | 10 => [79, 99, 116] | 11 => [78, 111, 118] | 12 => [68, 101, 99] | _ => []
theorem twelve {m : Nat} (h0 : 1 ≤ m) (h1 : m ≤ 12) : m = 1 ∨ m = 2 ∨ m = 3 ∨ m = 4 ∨ m = 5 ∨ m = 6 ∨ m = 7 ∨ m = 8 ∨ m = 9 ∨ m = 10 ∨ m = 11 ∨ m = 12 := by omega
theorem nameL_length {m : Nat} (h0 : 1 ≤ m) (h1 : m ≤ 12) : (nameL m).length = 3 := by
  rcases twelve h0 h1 with rfl | rfl | rfl | rfl | rfl | rfl | rfl | rfl | rfl | rfl | rfl | rfl <;> rfl
def two (v : Nat) : List UInt8 := [dg v 1, dg v 0]
def four (v : Nat) : List UInt8 := [dg v 3, dg v 2, dg v 1, dg v 0]
def tensB (D : Nat) : UInt8 := if D < 10 then 32 else dg D 1
/-- The digits of v, from the right: so many. -/
def digL (v : Nat) : Nat → List UInt8
  | 0 => []
  | k + 1 => dg v k :: digL v k
theorem digL_two (v : Nat) : digL v 2 = two v := rfl
theorem digL_four (v : Nat) : digL v 4 = four v := rfl
/-- What stands ahead of the zone. -/
def headL (Y M D s : Nat) : List UInt8 :=
  tensB D :: dg D 0 :: 45 :: (nameL M ++ 45 :: (four Y ++ 32 :: (two (s / 3600) ++ 58 :: (two (s / 60 % 60) ++ 58 :: two (s % 60)))))
def textL (Y M D s : Nat) : List UInt8 := headL Y M D s ++ [32, 43, 48, 48, 48, 48]
theorem itoa_four {Y : Nat} (h0 : 1000 ≤ Y) (h1 : Y ≤ 9999) : itoa (Y : Int) = four Y := by
  unfold itoa
  rw [if_neg (by omega), show ((Y : Int)).toNat = Y by omega, decDigits_eq, nDigits_unique 3 Y (by omega) (by omega)]
  rfl
theorem two_small {v : Nat} (h : v < 100) : two v = [UInt8.ofNat (48 + v / 10), UInt8.ofNat (48 + v % 10)] := by
  unfold two dg
  rw [show 10 ^ 1 = 10 from rfl, show 10 ^ 0 = 1 from rfl, Nat.div_one, show v / 10 % 10 = v / 10 by omega]
end Go.Proofs.YtepngemlaiffgaaDoor.dat
namespace Go.Proofs.YtepngemlaiffgaaDoor.dat
open Go.ChangeShapes Go.WideShapes Go.ChangeAt Go.RowKit
open Go.Lib (dg itoa byteCells strCells)
set_option linter.unusedVariables false
set_option linter.unusedSimpArgs false

theorem isLeap_any (w : World) (y : Nat) (hy : y ≤ 10001) :
    Calls Tryd.prog 86 #[.int .i64 y] w fun e w' => e = .returned (.bool (leapN y)) ∧ w' = w := by
  go_enter Tryd.func86, Tryd.ntmps86
  go_wp2
  all_goals (go_ret; refine ⟨congrArg (fun b => Ending.returned (Value.bool b)) ?_, rfl⟩; rw [Bool.eq_iff_iff]; simp [leapN] at * <;> omega)
theorem length_any (w : World) (y m : Nat) (hy : y ≤ 10001) (hm : m ≤ 100) :
    Calls Tryd.prog 81 #[.int .i64 y, .int .i64 m] w fun e w' => e = .returned (.int .i64 (daysN y m : Nat)) ∧ w' = w := by
  have h := fun w => isLeap_any w y hy
  unfold daysN
  by_cases h2 : m = 2
  · subst h2
    cases hl : leapN y <;> rw [hl] at h <;>
    · go_enter Tryd.func81, Tryd.ntmps81
      go_wp2_with (go_at_call 86; refine (h _).mono ?_; rintro e w' ⟨rfl, rfl⟩)
      go_ret
      exact ⟨rfl, rfl⟩
  · rw [if_neg h2]
    by_cases h4 : m = 4 ∨ m = 6 ∨ m = 9 ∨ m = 11
    · rw [if_pos h4]
      rcases h4 with rfl | rfl | rfl | rfl <;>
      · go_enter Tryd.func81, Tryd.ntmps81
        go_wp2
        go_ret
        exact ⟨rfl, rfl⟩
    · rw [if_neg h4]
      have e2 : ((m : Int) == 2) = false := by simp; omega
      have e4 : ((m : Int) == 4) = false := by simp; omega
      have e6 : ((m : Int) == 6) = false := by simp; omega
      have e9 : ((m : Int) == 9) = false := by simp; omega
      have e11 : ((m : Int) == 11) = false := by simp; omega
      go_enter Tryd.func81, Tryd.ntmps81
      go_wp2
      go_ret
      exact ⟨rfl, rfl⟩
theorem tdiv_in (p : Int) (n : Int) (hn : 1 ≤ n) (h : -1 ≤ p ∧ p ≤ 10001) : -1 ≤ p.tdiv n ∧ p.tdiv n ≤ 10001 := by
  rcases Int.lt_or_le p 0 with h0 | h0
  · obtain rfl : p = -1 := by omega
    rw [Int.neg_tdiv]
    have h1 : Int.tdiv 1 n = 1 / n := Int.tdiv_eq_ediv_of_nonneg (by omega)
    have h2 : (1 : Int) / n ≤ 1 := Int.ediv_le_self _ (by omega)
    have h3 : 0 ≤ (1 : Int) / n := Int.ediv_nonneg (by omega) (by omega)
    omega
  · rw [Int.tdiv_eq_ediv_of_nonneg h0]
    have h2 : p / n ≤ p := Int.ediv_le_self _ (by omega)
    have h3 : 0 ≤ p / n := Int.ediv_nonneg (by omega) (by omega)
    omega
theorem newYear_any (w : World) (y : Nat) (hy : y ≤ 10001) :
    Calls Tryd.prog 80 #[.int .i64 y] w fun e w' => e = .returned (.int .i64 (nY y)) ∧ w' = w := by
  have a1 := tdiv_in ((y : Int) - 1) 4 (by omega) (by omega)
  have a2 := tdiv_in ((y : Int) - 1) 100 (by omega) (by omega)
  have a3 := tdiv_in ((y : Int) - 1) 400 (by omega) (by omega)
  have w1 := IntWalk.wrap64_in (365 * ((y : Int) - 1) + ((y : Int) - 1).tdiv 4) (by omega)
  have w2 := IntWalk.wrap64_in (365 * ((y : Int) - 1) + ((y : Int) - 1).tdiv 4 - ((y : Int) - 1).tdiv 100) (by omega)
  have w3 := IntWalk.wrap64_in (365 * ((y : Int) - 1) + ((y : Int) - 1).tdiv 4 - ((y : Int) - 1).tdiv 100 + ((y : Int) - 1).tdiv 400) (by omega)
  have w4 := IntWalk.wrap64_in (365 * ((y : Int) - 1) + ((y : Int) - 1).tdiv 4 - ((y : Int) - 1).tdiv 100 + ((y : Int) - 1).tdiv 400 - 719162) (by omega)
  have W1 := Lib.hid w1; have W2 := Lib.hid w2; have W3 := Lib.hid w3; have W4 := Lib.hid w4
  clear w1 w2 w3 w4 a1 a2 a3
  unfold nY
  go_enter Tryd.func80, Tryd.ntmps80
  go_wp2
  rw [W1.out, W2.out, W3.out, W4.out]
  go_ret
  exact ⟨rfl, rfl⟩

theorem isTime_any (w : World) (t : Int) :
    Calls Tryd.prog 68 #[.int .i64 t] w fun e w' => e = .returned (.bool (decide (0 ≤ t ∧ t ≤ 253402300799))) ∧ w' = w := by
  go_enter Tryd.func68, Tryd.ntmps68
  go_wp2
  all_goals (go_ret; refine ⟨congrArg (fun b => Ending.returned (Value.bool b)) ?_, rfl⟩; rw [Bool.eq_iff_iff]; simp at * <;> omega)

theorem u8_digit (n : Nat) (h : n < 10) : ((48 + n : Nat) : Int) = ((UInt8.ofNat (48 + n)).toNat : Int) := by
  rw [UInt8.toNat_ofNat']
  omega
theorem dg0_nat (v : Nat) : (dg v 0).toNat = 48 + v % 10 := by
  unfold dg
  rw [UInt8.toNat_ofNat', show 10 ^ 0 = 1 from rfl, Nat.div_one]
  omega
theorem dg_nat (v j : Nat) : (dg v j).toNat = 48 + v / 10 ^ j % 10 := by
  unfold dg
  rw [UInt8.toNat_ofNat']
  omega
theorem digit_any (w : World) (v : Nat) (hv : v < 100000) :
    Calls Tryd.prog 71 #[.int .i64 v] w fun e w' => e = .returned (.int .u8 ((dg v 0).toNat : Nat)) ∧ w' = w := by
  rw [dg0_nat]
  go_enter Tryd.func71, Tryd.ntmps71
  go_wp2
  go_ret
  exact ⟨by congr 2 <;> omega, rfl⟩
theorem tens_any (w : World) (v : Nat) (hv : v < 100) :
    Calls Tryd.prog 70 #[.int .i64 v] w fun e w' => e = .returned (.int .u8 ((tensB v).toNat : Nat)) ∧ w' = w := by
  unfold tensB
  by_cases h : v < 10
  · rw [if_pos h]
    go_enter Tryd.func70, Tryd.ntmps70
    go_wp2
    go_ret
    exact ⟨rfl, rfl⟩
  · rw [if_neg h, dg_nat, show 10 ^ 1 = 10 from rfl]
    go_enter Tryd.func70, Tryd.ntmps70
    go_wp2
    go_ret
    rw [show ((48 + v / 10 % 10 : Nat) : Int) = 48 + (v : Int) / 10 by omega]
    exact ⟨rfl, rfl⟩
theorem monthName_any (w : World) (m : Nat) (h0 : 1 ≤ m) (h1 : m ≤ 12) :
    Calls Tryd.prog 72 #[.int .i64 m] w fun e w' => e = .returned (.string ⟨(nameL m).toArray⟩) ∧ w' = w := by
  rcases twelve h0 h1 with rfl | rfl | rfl | rfl | rfl | rfl | rfl | rfl | rfl | rfl | rfl | rfl <;>
  · go_enter Tryd.func72, Tryd.ntmps72
    go_wp2
    go_ret
    exact ⟨by first | rfl | kernel_rfl | decide, rfl⟩
theorem civil_any (w : World) (d : Int) (Y M D : Nat) (h : Civ d Y M D) (h0 : 0 ≤ d) (h1 : d ≤ 2932896) :
    Calls Tryd.prog 69 #[.int .i64 d] w fun e w' => e = .returned (.tuple #[.int .i64 Y, .int .i64 M, .int .i64 D]) ∧ w' = w := by
  obtain ⟨n, rfl⟩ := Int.eq_ofNat_of_zero_le h0
  have hY0 := h.y0; have hY1 := h.y1; have hM0 := h.m0; have hM1 := h.m1; have hD0 := h.d0; have hD1 := h.d1
  have hst : 1970 + n / 366 ≤ Y := by
    have hk := nY_near (n / 366) (by omega)
    rcases Nat.lt_or_ge Y (1970 + n / 366) with h' | h'
    · have := (h.next)
      have := nY_mono (a := Y + 1) (b := 1970 + n / 366) (by omega) (by omega)
      omega
    · exact h'
  have HC := Lib.hid h
  have hdn := daysN_pos Y M
  clear h
  go_enter Tryd.func69, Tryd.ntmps69
  go_wp2
  go_loop [2] (fun x => ∃ y : Nat, 1970 ≤ y ∧ y ≤ Y ∧ x = .int .i64 y) (fun x => Y - (intOf x).toNat)
  case atStart => exact ⟨1970 + n / 366, by omega, hst, by congr 1⟩
  case round =>
    obtain ⟨y, y0, y1, rfl⟩ := hrel
    have hb := nY_bounds (y + 1) (by omega)
    have hi := HC.out.year y1 (by omega)
    have hn := fun w => newYear_any w (y + 1) (by omega)
    obtain ⟨z, hz⟩ : ∃ z, nY (y + 1) = z := ⟨_, rfl⟩
    rw [hz] at hb hi hn
    rw [show (((y + 1 : Nat) : Int)) = (y : Int) + 1 by omega] at hn
    have HN := Lib.hid hn
    clear hn hz
    by_cases hy : y < Y
    · have hzn : z ≤ (n : Int) := hi.2 hy
      clear hi
      go_wp2_with (go_at_call 80; refine (HN.out _).mono ?_; rintro e w' ⟨rfl, rfl⟩)
      exact ⟨⟨y + 1, by omega, hy, by simp⟩, by simp [intOf]; omega⟩
    · obtain rfl : y = Y := by omega
      have hzn : ¬ z ≤ (n : Int) := fun hh => hy (hi.1 hh)
      clear hi
      have hf := HC.out.first
      have he := HC.out.eq
      have hb2 := nY_bounds y (by omega)
      have hn2 := fun w => newYear_any w y (by omega)
      obtain ⟨z2, hz2⟩ : ∃ z, nY y = z := ⟨_, rfl⟩
      rw [hz2] at hf he hb2 hn2
      have HN2 := Lib.hid hn2
      have hcl := cum_le y (M - 1)
      clear hn2 hz2
      obtain ⟨cM, hcM⟩ : ∃ c, cum y (M - 1) = c := ⟨_, rfl⟩
      have HCM := Lib.hid hcM
      rw [hcM] at he hcl
      clear hcM
      go_wp2_with (first | (go_at_call 80; with_reducible refine Calls.mono (HN.out _) ?_; rintro e w' ⟨rfl, rfl⟩) | (go_at_call 80; with_reducible refine Calls.mono (HN2.out _) ?_; rintro e w' ⟨rfl, rfl⟩))
      go_loop [3, 4] (fun x r => ∃ k : Nat, 1 ≤ k ∧ k ≤ M ∧ x = .int .i64 k ∧ r = .int .i64 ((cM + D : Nat) - (cum y (k - 1) : Nat) : Int)) (fun x _ => M - (intOf x).toNat)
      case atStart => exact ⟨1, Nat.le_refl _, hM0, rfl, by simp [cum]; omega⟩
      case round =>
        obtain ⟨k, k0, k1, rfl, rfl⟩ := hrel
        obtain ⟨hm1, hm2⟩ := HC.out.month k0 k1
        have hl := daysN_pos y k
        have hs := cum_step y k k0
        rw [HCM.out] at hm1 hm2
        obtain ⟨c, hcc⟩ : ∃ c, cum y (k - 1) = c := ⟨_, rfl⟩
        obtain ⟨l, hll⟩ : ∃ l, daysN y k = l := ⟨_, rfl⟩
        have hlen := fun w => length_any w y k (by omega) (by omega)
        rw [hll] at hlen hl hs hm2
        rw [hcc] at hm1 hm2 hs ⊢
        have HS := Lib.hid hs
        have HL := Lib.hid hlen
        have HLL := Lib.hid hll
        have HCC := Lib.hid hcc
        clear hlen hll hcc hs
        by_cases hkM : k < M
        · have hlt : (l : Int) < ((cM + D : Nat) : Int) - (c : Int) := by have := hm2.2 hkM; omega
          clear hm2
          go_wp2_with (go_at_call 81; refine (HL.out _).mono ?_; rintro e w' ⟨rfl, rfl⟩)
          exact ⟨⟨k + 1, by omega, hkM, by simp, by rw [show k + 1 - 1 = k by omega, HS.out]; congr 1; omega⟩, by simp [intOf]; omega⟩
        · obtain rfl : k = M := by omega
          obtain rfl : cM = c := HCM.out.symm.trans HCC.out
          have hlt : ¬ (l : Int) < ((cM + D : Nat) : Int) - (cM : Int) := by rw [HLL.out] at hD1; omega
          clear hm2
          go_wp2_with (go_at_call 81; refine (HL.out _).mono ?_; rintro e w' ⟨rfl, rfl⟩)
          go_ret3
          rw [show (cM : Int) + (D : Int) - (cM : Int) = (D : Int) by omega]
          exact ⟨rfl, rfl⟩
end Go.Proofs.YtepngemlaiffgaaDoor.dat
namespace Go.Proofs.YtepngemlaiffgaaDoor.dat
open Go.ChangeShapes Go.WideShapes Go.ChangeAt Go.RowKit
open Go.Lib (dg itoa byteCells strCells)
set_option linter.unusedVariables false
set_option linter.unusedSimpArgs false

theorem byte_text (w : World) (x : Nat) (hx : x < 256) :
    (convert 28 9 (.slice (some ⟨w.heap.size, 0, none⟩) 1 1)).run Tryd.prog (w.alloc (.cells #[.int .u8 (x : Nat)] 5)) = .ok (.string ⟨#[UInt8.ofNat x]⟩) (w.alloc (.cells #[.int .u8 (x : Nat)] 5)) := by
  have h := Go.run_convert_bytes_back (P := Tryd.prog) (w.alloc (.cells #[.int .u8 (x : Nat)] 5)) 28 9 5 ⟨w.heap.size, 0, none⟩ 1 [UInt8.ofNat x] Tryd.underlying28 Tryd.underlying5 Tryd.underlying9 (fun j hj => by
    obtain rfl : j = 0 := by simpa using hj
    have e : (UInt8.ofNat x).toNat = x := by rw [UInt8.toNat_ofNat']; omega
    show (w.alloc (.cells #[.int .u8 (x : Nat)] 5)).cell? ⟨w.heap.size, 0, none⟩ = some (.int .u8 ((UInt8.ofNat x).toNat : Int))
    simp only [World.cell?]
    rw [heap_alloc_new]
    simp [e])
  exact h
theorem digL_length (v k : Nat) : (digL v k).length = k := by
  induction k with
  | zero => rfl
  | succ k ih => simp [digL, ih]
theorem bytes_cons (x : UInt8) (l : List UInt8) : (⟨#[x]⟩ : ByteArray) ++ ⟨l.toArray⟩ = ⟨(x :: l).toArray⟩ := by
  apply ByteArray.ext
  simp
end Go.Proofs.YtepngemlaiffgaaDoor.dat
namespace Go.Proofs.YtepngemlaiffgaaDoor.dat
open Go.ChangeShapes Go.WideShapes Go.ChangeAt Go.RowKit
open Go.Lib (dg itoa byteCells strCells)
set_option linter.unusedVariables false
set_option linter.unusedSimpArgs false

theorem info5 : ∃ i, Tryd.prog.info? 5 = some i ∧ i.zero = some (.int .u8 0) ∧ i.size = 1 ∧ i.bytes = 1 := by
  have h : (Tryd.prog.info? 5).map (fun i => (i.zero, i.size, i.bytes)) = some (some (.int .u8 0), 1, 1) := by kernel_rfl
  cases hq : Tryd.prog.info? 5 with
  | none => rw [hq] at h; cases h
  | some i =>
    rw [hq] at h
    simp only [Option.map_some, Option.some.injEq, Prod.mk.injEq] at h
    exact ⟨i, rfl, h.1, h.2.1, h.2.2⟩
/-- The slice v holds the bytes l, in a block of the call's own. -/
def Bu (W0 : World) (B : Nat) (v : Value) (l : List UInt8) (w : World) : Prop := w.ownsRow B 5 1 v l.length (byteCells l) ∧ Below B W0 w ∧ B ≤ w.heap.size
theorem Bu.grown {W0 w w' : World} {B : Nat} {v v' : Value} {l l' : List UInt8} (h : Bu W0 B v l w) (ho : w'.ownsRow B 5 1 v' l'.length (byteCells l')) (hg : w.grownBy w' v.ownBlock) : Bu W0 B v' l' w' :=
  ⟨ho, h.2.1.grown hg h.2.2 (fun k hk => (h.1.lt k hk).1), Nat.le_trans h.2.2 hg.size⟩
theorem Bu.alloc {W0 w : World} {B : Nat} {v : Value} {l : List UInt8} (h : Bu W0 B v l w) (o : Obj) : Bu W0 B v l (w.alloc o) :=
  ⟨h.1.alloc o, h.2.1.alloc h.2.2 o, Nat.le_trans h.2.2 ((Below.refl 0 w).alloc (Nat.zero_le _) o).size⟩
theorem Bu.made (w : World) (cur : Array Value) (cap : Nat) (hm : cap ≤ maxLen) (hs : cur.size = cap * 1) : Bu w w.heap.size (.slice (some ⟨w.heap.size, 0, none⟩) 0 cap) [] (w.alloc (.cells cur 5)) :=
  ⟨World.ownsRow_made w cur cap (Nat.le_refl _) hm hs, (Below.refl _ _).alloc (Nat.le_refl _) _, by simp⟩
theorem cells_one (l : List UInt8) : ∀ u ∈ byteCells l, u.oneCell' = true := by
  intro u hu
  simp only [byteCells, List.mem_map] at hu
  obtain ⟨b, -, rfl⟩ := hu
  rfl
/-- Bytes that the statement itself has laid. -/
theorem step_lit {ops : Array Oper} {rest : List Oper} {o : Oper} {a : Act} {Q : Exit → Act → World → Prop} (hgd : o.guard = none) (s x : Operand)
    (ho : o.op = .call { callee := .builtin .append, args := #[s, x], argTypes := #[28, 28] })
    (W0 w0 : World) (B : Nat) (v : Value) (l new : List UInt8) (cs : Array Value) (m : Nat) (hcs : cs = (byteCells new).toArray) (hm : m = new.length) (hb : Bu W0 B v l w0) (hs : a.eval s = v)
    (hx : a.eval x = .slice (some ⟨w0.heap.size, 0, none⟩) m m) (hl : l.length + new.length ≤ 1000)
    (h : ∀ v' w', Bu W0 B v' (l ++ new) w' → wpList Tryd.prog ops Q rest (a.put o.dst v') w') : wpList Tryd.prog ops Q (o :: rest) a (w0.alloc (.cells cs 5)) := by
  subst hcs
  subst hm
  obtain ⟨i, h1, h2, h3, h4⟩ := info5
  have hb' := hb.alloc (.cells (byteCells new).toArray 5)
  refine wpList_append_own _ hgd s x 28 ho B 5 i (.int .u8 0) 1 1 Tryd.underlying28 h1 h2 h3 h4 rfl (by decide) v l.length (byteCells l) hs hb'.1 ⟨w0.heap.size, 0, none⟩ new.length new.length (byteCells new) hx (by simp [byteCells]) ?_ (cells_one _) (by unfold maxLen; omega) (by omega) hb'.2.2 ?_
  · intro j u hu
    have e : ((⟨w0.heap.size, 0, none⟩ : Addr).add j) = ⟨w0.heap.size, j, none⟩ := by simp [Addr.add]; intro h; exact h.symm
    rw [e]
    simp only [World.cell?]
    rw [heap_alloc_new]
    simpa using hu
  · intro v' w' ho' hg _
    refine h v' w' (hb'.grown ?_ hg)
    rw [List.length_append]
    simpa [byteCells] using ho'
/-- A text's bytes. -/
theorem step_str {ops : Array Oper} {rest : List Oper} {o : Oper} {a : Act} {Q : Exit → Act → World → Prop} {w : World} (hgd : o.guard = none) (s x : Operand)
    (ho : o.op = .call { callee := .builtin .append, args := #[s, x], argTypes := #[28, 9] })
    (W0 : World) (B : Nat) (v : Value) (l new : List UInt8) (hb : Bu W0 B v l w) (hs : a.eval s = v) (hx : a.eval x = .string ⟨new.toArray⟩) (hl : l.length + new.length ≤ 1000)
    (h : ∀ v' w', Bu W0 B v' (l ++ new) w' → wpList Tryd.prog ops Q rest (a.put o.dst v') w') : wpList Tryd.prog ops Q (o :: rest) a w := by
  obtain ⟨i, h1, h2, h3, h4⟩ := info5
  have hz : (⟨new.toArray⟩ : ByteArray).size = new.length := rfl
  refine Lib.wpList_append_own_string w hgd s x 28 9 ho B 5 i Tryd.underlying28 Tryd.underlying9 h1 h2 h3 h4 v l.length (byteCells l) hs hb.1 ⟨new.toArray⟩ hx (by rw [hz]; unfold maxLen; omega) (by rw [hz]; omega) hb.2.2 ?_
  intro v' w' ho' hg _
  refine h v' w' (hb.grown ?_ hg)
  rw [List.length_append]
  rw [hz, Lib.strCells_toArray] at ho'
  simpa [byteCells] using ho'
theorem Bu.text {W0 w : World} {B : Nat} {v : Value} {l : List UInt8} (h : Bu W0 B v l w) (h0 : 0 < l.length) : (convert 28 9 v).run Tryd.prog w = .ok (.string ⟨l.toArray⟩) w := by
  obtain ⟨hl, h⟩ := h.1
  rcases h with ⟨-, h⟩ | ⟨g, cap, cur, rfl, -, hg, h2, -, h4, h5⟩
  · omega
  · refine Go.run_convert_bytes_back (P := Tryd.prog) w 28 9 5 ⟨g, 0, none⟩ cap l Tryd.underlying28 Tryd.underlying5 Tryd.underlying9 (fun j hj => ?_)
    have e : ((⟨g, 0, none⟩ : Addr).add j) = ⟨g, j, none⟩ := by simp [Addr.add]; intro h; exact h.symm
    rw [e]
    simp only [World.cell?, hg]
    have h6 : (cur.toList.take (l.length * 1))[j]? = some (.int .u8 (l[j].toNat : Int)) := by rw [h5]; simp [byteCells, hj]
    rw [List.getElem?_take] at h6
    split at h6
    · simpa using h6
    · cases h6

theorem two_any (W0 w : World) (B : Nat) (v : Value) (l : List UInt8) (n : Nat) (hn : n < 100) (hl : l.length ≤ 100) (hb : Bu W0 B v l w) :
    Calls Tryd.prog 74 #[v, .int .i64 n] w fun e w' => ∃ v', e = .returned v' ∧ Bu W0 B v' (l ++ two n) w' := by
  have hd := fun w => digit_any w n (by omega)
  have hq : ((48 : Int) + (n : Int) / 10) = ((dg n 1).toNat : Int) := by rw [dg_nat, show 10 ^ 1 = 10 from rfl]; omega
  obtain ⟨x, hx⟩ : ∃ x, dg n 0 = x := ⟨_, rfl⟩
  obtain ⟨y, hy⟩ : ∃ y, dg n 1 = y := ⟨_, rfl⟩
  have e : two n = [y, x] := by unfold two; rw [hx, hy]
  rw [e]
  rw [hx] at hd
  rw [hy] at hq
  have HQ := Lib.hid hq
  have HB := Lib.hid hb
  clear hx hy e hq hb
  go_enter Tryd.func74, Tryd.ntmps74
  go_wp2_with (first | (go_at_call 71; refine (hd _).mono ?_; rintro e w' ⟨rfl, rfl⟩) | (at_builtin; refine step_lit rfl _ _ rfl W0 _ B v l [y, x] _ 2 (by rw [HQ.out]; rfl) rfl HB.out rfl rfl (by simp; omega) ?_; intro v1 w1 hB1))
  go_ret
  exact ⟨_, rfl, hB1⟩
end Go.Proofs.YtepngemlaiffgaaDoor.dat
namespace Go.Proofs.YtepngemlaiffgaaDoor.dat
open Go.ChangeShapes Go.WideShapes Go.ChangeAt Go.RowKit
open Go.Lib (dg itoa byteCells strCells)
set_option linter.unusedVariables false
set_option linter.unusedSimpArgs false

/-- What the library's decimal numeral asks of its own table. -/
def Tens (w : World) : Prop := Lib.TabBelow Tryd.prog w.heap.size w "internal/strconv.uint64pow10" .u64 Lib.pow10Tab
theorem Tens.on {w w' : World} (h : Tens w) (hb : Below w.heap.size w w') : Lib.TabBelow Tryd.prog w.heap.size w' "internal/strconv.uint64pow10" .u64 Lib.pow10Tab := Lib.TabBelow.on h hb
theorem itoa_step (W0 w : World) (v : Value) (l : List UInt8) (Y : Nat) (h0 : 1000 ≤ Y) (h1 : Y ≤ 9999) (hl : l.length ≤ 100) (hb : Bu W0 W0.heap.size v l w) (ht : Tens W0) :
    Calls Tryd.prog 73 #[v, .int .i64 Y, .int .i64 10] w fun e w' => ∃ v', e = .returned v' ∧ Bu W0 W0.heap.size v' (l ++ four Y) w' := by
  have hi := itoa_four h0 h1
  refine (Tryd.strconv_AppendInt_10 W0.heap.size l.length Y (by omega) (by omega) v (byteCells l) w hb.1 hb.2.2 (by omega) (ht.on hb.2.1)).mono ?_
  rintro e w' ⟨v', rfl, ho, hbl, -⟩
  rw [hi] at ho
  refine ⟨v', rfl, ?_, hb.2.1.trans hbl, Nat.le_trans hb.2.2 hbl.size⟩
  rw [List.length_append]
  simpa [byteCells] using ho
theorem print_none (w : World) (t : Int) (h : ¬ (0 ≤ t ∧ t ≤ 253402300799)) :
    Calls Tryd.prog 62 #[.int .i64 t] w fun e w' => e = .returned (.string ⟨#[]⟩) ∧ Below w.heap.size w w' := by
  have hi := fun w => isTime_any w t
  rw [decide_eq_false h] at hi
  go_enter Tryd.func62, Tryd.ntmps62
  go_wp2_with (go_at_call 68; refine (hi _).mono ?_; rintro e w' ⟨rfl, rfl⟩)
  go_ret
  exact ⟨rfl, Below.refl _ _⟩
theorem make26 (w : World) : ∃ w2, (Instr.makeSlice 28 (.int .i64 0) (.int .i64 26)).run Tryd.prog w = .ok (.slice (some ⟨w.heap.size, 0, none⟩) 0 26) w2 ∧ Bu w w.heap.size (.slice (some ⟨w.heap.size, 0, none⟩) 0 26) [] w2 := by
  obtain ⟨i, h1, h2, h3, h4⟩ := info5
  obtain ⟨w2, hr, ho, hg⟩ := run_makeSlice_owned w w.heap.size 28 5 i (.int .u8 0) 1 Tryd.underlying28 h1 h2 h3 .i64 .i64 26 (by omega) (by omega) (by unfold maxLen; omega) (Nat.le_refl _)
  exact ⟨w2, hr, ho, (Below.refl _ _).grown hg (Nat.le_refl _) (fun k hk => by cases hk), hg.size⟩
set_option maxHeartbeats 1600000 in
theorem print_any (w : World) (t Y M D : Nat) (h1 : t ≤ 253402300799) (hc : Civ ((t / 86400 : Nat) : Int) Y M D) (ht : Tens w) :
    Calls Tryd.prog 62 #[.int .i64 t] w fun e w' => e = .returned (.string ⟨(textL Y M D (t % 86400)).toArray⟩) ∧ Below w.heap.size w w' := by
  have hi := fun w => isTime_any w t
  rw [decide_eq_true (by omega)] at hi
  have hci := fun w => civil_any w _ Y M D hc (by omega) (by omega)
  have hd31 := (daysN_pos Y M).2
  have hD := hc.d1; have hD0 := hc.d0; have hY0 := hc.y0; have hY1 := hc.y1; have hM0 := hc.m0; have hM1 := hc.m1
  have hte := fun w => tens_any w D (by omega)
  have hdi := fun w => digit_any w D (by omega)
  have hmn := fun w => monthName_any w M hM0 hM1
  have hnl := nameL_length hM0 hM1
  have h2a := fun (w1 : World) (v : Value) (l : List UInt8) (hl : l.length ≤ 100) (hb : Bu w w.heap.size v l w1) => two_any w w1 w.heap.size v l (t % 86400 / 3600) (by omega) hl hb
  have h2b := fun (w1 : World) (v : Value) (l : List UInt8) (hl : l.length ≤ 100) (hb : Bu w w.heap.size v l w1) => two_any w w1 w.heap.size v l (t % 3600 / 60) (by omega) hl hb
  have h2c := fun (w1 : World) (v : Value) (l : List UInt8) (hl : l.length ≤ 100) (hb : Bu w w.heap.size v l w1) => two_any w w1 w.heap.size v l (t % 60) (by omega) hl hb
  simp only [show ((t % 86400 / 3600 : Nat) : Int) = (t : Int) % 86400 / 3600 by omega] at h2a
  simp only [show ((t % 3600 / 60 : Nat) : Int) = (t : Int) % 3600 / 60 by omega] at h2b
  simp only [show ((t % 60 : Nat) : Int) = (t : Int) % 60 by omega] at h2c
  have hit := fun (w1 : World) (v : Value) (l : List UInt8) (hl : l.length ≤ 100) (hb : Bu w w.heap.size v l w1) => itoa_step w w1 v l Y (by omega) hY1 hl hb ht
  have hD' : D ≤ 31 := by omega
  have hres : textL Y M D (t % 86400) = tensB D :: dg D 0 :: 45 :: (nameL M ++ 45 :: (four Y ++ 32 :: (two (t % 86400 / 3600) ++ 58 :: (two (t % 3600 / 60) ++ 58 :: (two (t % 60) ++ [32, 43, 48, 48, 48, 48]))))) := by
    unfold textL headL
    rw [show t % 86400 / 60 % 60 = t % 3600 / 60 by omega, show t % 86400 % 60 = t % 60 by omega]
    simp
  have HI := Lib.hid hi; have HCI := Lib.hid hci; have HTE := Lib.hid hte; have HDI := Lib.hid hdi; have HMN := Lib.hid hmn; have H2A := Lib.hid h2a; have H2B := Lib.hid h2b; have H2C := Lib.hid h2c; have HIT := Lib.hid hit; have HRES := Lib.hid hres
  clear hi hci hte hdi hmn h2a h2b h2c hit hres hc hD hd31 ht
  obtain ⟨nm, hnm⟩ : ∃ nm, nameL M = nm := ⟨_, rfl⟩
  rw [hnm] at HMN HRES hnl
  clear hnm
  obtain ⟨w2, hmk, hB⟩ := make26 w
  go_enter Tryd.func62, Tryd.ntmps62
  go_wp2_with (first
    | (at_builtin; refine step_lit rfl _ _ rfl w _ w.heap.size _ _ [tensB D, dg D 0, 45] _ 3 rfl rfl hB rfl rfl (by simp) ?_; clear hB; intro v1 w3 hB)
    | (at_builtin; refine step_str rfl _ _ rfl w w.heap.size _ _ nm hB rfl rfl (by simp [hnl]) ?_; clear hB; intro v1 w3 hB)
    | (at_builtin; refine step_lit rfl _ _ rfl w _ w.heap.size _ _ [45] _ 1 rfl rfl hB rfl rfl (by simp [hnl]) ?_; clear hB; intro v1 w3 hB)
    | (at_builtin; refine step_lit rfl _ _ rfl w _ w.heap.size _ _ [32] _ 1 rfl rfl hB rfl rfl (by simp [hnl, four]) ?_; clear hB; intro v1 w3 hB)
    | (at_builtin; refine step_lit rfl _ _ rfl w _ w.heap.size _ _ [58] _ 1 rfl rfl hB rfl rfl (by simp [hnl, four, two]) ?_; clear hB; intro v1 w3 hB)
    | (at_builtin; refine step_str rfl _ _ rfl w w.heap.size _ _ [32, 43, 48, 48, 48, 48] hB rfl rfl (by simp [hnl, four, two]) ?_; clear hB; intro v1 w3 hB; have hcv := hB.text (by simp))
    | (go_at_call 73; refine (HIT.out _ _ _ (by simp [hnl]) hB).mono ?_; clear hB; rintro e w' ⟨v1, rfl, hB⟩)
    | (go_at_call 74; with_reducible refine Calls.mono (H2A.out _ _ _ (by simp [hnl, four, two]) hB) ?_; clear hB; rintro e w' ⟨v1, rfl, hB⟩)
    | (go_at_call 74; with_reducible refine Calls.mono (H2B.out _ _ _ (by simp [hnl, four, two]) hB) ?_; clear hB; rintro e w' ⟨v1, rfl, hB⟩)
    | (go_at_call 74; with_reducible refine Calls.mono (H2C.out _ _ _ (by simp [hnl, four, two]) hB) ?_; clear hB; rintro e w' ⟨v1, rfl, hB⟩)
    | (go_at_call 72; refine (HMN.out _).mono ?_; rintro e w' ⟨rfl, hw⟩; replace hw := hw.symm; subst hw)
    | (go_at_call 68; refine (HI.out _).mono ?_; rintro e w' ⟨rfl, hw⟩; replace hw := hw.symm; subst hw)
    | (go_at_call 69; refine (HCI.out _).mono ?_; rintro e w' ⟨rfl, hw⟩; replace hw := hw.symm; subst hw)
    | (go_at_call 70; refine (HTE.out _).mono ?_; rintro e w' ⟨rfl, hw⟩; replace hw := hw.symm; subst hw)
    | (go_at_call 71; refine (HDI.out _).mono ?_; rintro e w' ⟨rfl, hw⟩; replace hw := hw.symm; subst hw))
  go_ret
  refine ⟨?_, hB.2.1⟩
  rw [HRES.out]
  rfl

end Go.Proofs.YtepngemlaiffgaaDoor.dat
namespace Go.Proofs.YtepngemlaiffgaaDoor.alk
open Go.Lib
set_option linter.unusedVariables false
set_option linter.unusedSimpArgs false

/-- Byte i of s. -/
def byt (s : ByteArray) (i : Nat) : Nat := (s.data[i]!).toNat
theorem byt_at (s : ByteArray) (i : Nat) (h : i < s.size) : (s[i]'h).toNat = byt s i := by
  unfold byt
  rw [getElem!_pos s.data i (by simpa using h)]; rfl
theorem byt_lt (s : ByteArray) (i : Nat) : byt s i < 256 := UInt8.toNat_lt _
theorem byt_of (l : List UInt8) (i : Nat) : byt ⟨l.toArray⟩ i = (l.getD i 0).toNat := by
  unfold byt
  by_cases h : i < l.length
  · rw [getElem!_pos _ i (by simpa using h), List.getD, List.getElem?_eq_getElem h]
    simp
  · rw [getElem!_neg _ i (by simpa using h), List.getD, List.getElem?_eq_none (by omega)]
    rfl
theorem byt_list (s : ByteArray) (i : Nat) (h : i < s.data.toList.length) : (s.data.toList[i]).toNat = byt s i := by
  unfold byt
  rw [getElem!_pos s.data i (by simpa using h)]
  simp

def low (c : Nat) : Nat := if 65 ≤ c ∧ c ≤ 90 then c + 32 else c
def alike (s t : ByteArray) : Bool := decide (s.size = t.size) && (List.range s.size).all fun i => low (byt s i) == low (byt t i)
theorem alike_false (s t : ByteArray) (i : Nat) (h : i < s.size) (hne : (low (byt s i) == low (byt t i)) = false) : alike s t = false := by
  unfold alike
  have : ((List.range s.size).all fun i => low (byt s i) == low (byt t i)) = false := by
    rw [List.all_eq_false]
    exact ⟨i, List.mem_range.2 h, by simp [hne]⟩
  rw [this, Bool.and_false]
theorem alike_true (s t : ByteArray) (h : s.size = t.size) (he : ∀ i, i < s.size → (low (byt s i) == low (byt t i)) = true) : alike s t = true := by
  unfold alike
  simp only [h, decide_true, Bool.true_and, List.all_eq_true, List.mem_range]
  intro i hi
  exact he i (by omega)
theorem alike_size (s t : ByteArray) (h : s.size ≠ t.size) : alike s t = false := by
  unfold alike
  simp [h]
theorem alike_iff (s t : ByteArray) : alike s t = true ↔ s.size = t.size ∧ ∀ i, i < s.size → low (byt s i) = low (byt t i) := by
  unfold alike
  simp only [Bool.and_eq_true, decide_eq_true_eq, List.all_eq_true, List.mem_range, beq_iff_eq]
/-- Two that are like one are like each other. -/
theorem alike_both {s t u : ByteArray} (h : alike s t = true) (k : alike s u = true) : alike t u = true := by
  rw [alike_iff] at *
  exact ⟨h.1.symm.trans k.1, fun i hi => (h.2 i (by omega)).symm.trans (k.2 i (by omega))⟩

theorem fold_low (x y : UInt8) : foldEq x y = (low x.toNat == low y.toNat) := by
  have hx := UInt8.toNat_lt x
  have hy := UInt8.toNat_lt y
  rw [Bool.eq_iff_iff]
  unfold foldEq low
  simp only [decide_eq_true_eq, beq_iff_eq]
  split <;> split <;> omega
theorem equalFold_map : ∀ (s t : List UInt8), equalFold s t = (s.map (fun c => low c.toNat) == t.map (fun c => low c.toNat))
  | [], [] => rfl
  | [], _ :: _ => rfl
  | _ :: _, [] => rfl
  | x :: s, y :: t => by
    rw [equalFold, equalFold_map s t, fold_low]
    simp
theorem byt_extract (s : ByteArray) (a b i : Nat) (h : a + i < b) (hb : b ≤ s.size) : byt (s.extract a b) i = byt s (a + i) := by
  have h1 : i < (s.extract a b).size := by rw [ByteArray.size_extract]; omega
  rw [← byt_at _ i h1, ← byt_at s (a + i) (by omega), ByteArray.getElem_extract]
theorem alike_fold (s t : ByteArray) (h : s.size = t.size) : alike s t = equalFold s.data.toList t.data.toList := by
  rw [equalFold_map, Bool.eq_iff_iff, alike_iff, beq_iff_eq]
  have hs : s.data.toList.length = s.size := (Lib.size_eq s).symm
  have ht : t.data.toList.length = t.size := (Lib.size_eq t).symm
  constructor
  · rintro ⟨-, hh⟩
    apply List.ext_getElem
    · simp only [List.length_map]; omega
    · intro i h1 h2
      simp only [List.length_map] at h1 h2
      rw [List.getElem_map, List.getElem_map, byt_list s i h1, byt_list t i h2]
      exact hh i (by omega)
  · intro hh
    refine ⟨h, fun i hi => ?_⟩
    have h1 : i < s.data.toList.length := by omega
    have h2 : i < t.data.toList.length := by omega
    have e := congrArg (fun l => l[i]?) hh
    simp only [List.getElem?_map, List.getElem?_eq_getElem h1, List.getElem?_eq_getElem h2, Option.map_some, Option.some.injEq] at e
    rw [byt_list s i h1, byt_list t i h2] at e
    exact e
theorem low_high (x y : Nat) (hx : 128 ≤ x) (hy : y < 128) : low y ≠ low x := by
  unfold low
  split <;> split <;> omega
end Go.Proofs.YtepngemlaiffgaaDoor.alk
namespace Go.Proofs.YtepngemlaiffgaaDoor.alk
open Go.ChangeShapes Go.WideShapes Go.ChangeAt Go.RowKit
set_option linter.unusedVariables false
set_option linter.unusedSimpArgs false

theorem small_any (w : World) (c : Nat) (hc : c < 256) :
    Calls Tryd.prog 47 #[.int .u8 (c : Nat)] w fun e w' => e = .returned (.int .u8 (low c : Nat)) ∧ w' = w := by
  unfold low
  by_cases h : 65 ≤ c ∧ c ≤ 90
  · rw [if_pos h]
    go_enter Tryd.func47, Tryd.ntmps47
    go_wp2
    go_ret
    exact ⟨by congr 1, rfl⟩
  · rw [if_neg h]
    go_enter Tryd.func47, Tryd.ntmps47
    go_wp2
    all_goals first | (exfalso; omega) | (go_ret; exact ⟨rfl, rfl⟩)

/-- The world has drawn, and nothing else. -/
def Drew (w w' : World) : Prop := ∃ n, w' = w.drewN n
theorem Drew.refl (w : World) : Drew w w := ⟨0, rfl⟩
theorem Drew.drewN {w w' : World} (h : Drew w w') (q : Nat) : Drew w (w'.drewN q) := by
  obtain ⟨n, rfl⟩ := h
  exact ⟨n + q, by rw [World.drewN_drewN]⟩
theorem Drew.below {w w' : World} (h : Drew w w') (B : Nat) : Below B w w' := by
  obtain ⟨n, rfl⟩ := h
  exact ⟨rfl, rfl, rfl, Nat.le_refl _, fun _ _ => rfl⟩

set_option maxHeartbeats 1600000 in
theorem alike_any (w : World) (s t : ByteArray) (hs : s.size ≤ 100000) (ht : t.size ≤ 100000) :
    Calls Tryd.prog 48 #[.string s, .string t] w fun e w' => e = .returned (.bool (alike s t)) ∧ Drew w w' := by
  by_cases hst : s.size = t.size
  · have HST := Lib.hid hst
    have hne : ((s.size : Int) != (t.size : Int)) = false := by simp [hst]
    clear hst
    go_enter Tryd.func48, Tryd.ntmps48
    go_wp2
    go_loopw [13] (fun i wr => ∃ k : Nat, k ≤ s.size ∧ i = .int .i64 k ∧ Hid (∀ j, j < k → (low (byt s j) == low (byt t j)) = true) ∧ Hid (Drew w wr)) (fun i _ => s.size - (intOf i).toNat)
    case atStart => exact ⟨0, Nat.zero_le _, rfl, fun j h => absurd h (Nat.not_lt_zero _), Drew.refl _⟩
    case round =>
      obtain ⟨k, hk, rfl, hh, hd⟩ := hrel
      by_cases hkl : k < s.size
      · have hkt : k < t.size := by have := HST.out; omega
        go_wp2
        have k1 : (0 : Int) ≤ (k : Int) := by omega
        have k2 : (k : Int) < (s.size : Int) := by omega
        have k3 : (k : Int) < (t.size : Int) := by omega
        go_quiet ((go_at_call 47; exact Calls.quiet_of_same (small_any _ _ (UInt8.toNat_lt _))))
        simp only [byt_at]
        cases hb : (low (byt s k) == low (byt t k))
        · have hb' : (((low (byt s k) : Nat) : Int) != ((low (byt t k) : Nat) : Int)) = true := by
            rw [bne_iff_ne]
            simp at hb
            omega
          go_wp2
          go_ret
          rw [alike_false s t k hkl hb]
          exact ⟨rfl, hd.out.drewN _⟩
        · have hb' : (((low (byt s k) : Nat) : Int) != ((low (byt t k) : Nat) : Int)) = false := by
            simp at hb
            simp [hb]
          have HB := Lib.hid hb
          clear hb
          go_wp2
          refine ⟨⟨k + 1, hkl, by simp, fun j hj => ?_, hd.out.drewN _⟩, by simp [intOf]; omega⟩
          rcases Nat.lt_succ_iff_lt_or_eq.1 hj with h' | rfl
          · exact hh.out j h'
          · exact HB.out
      · go_wp2
        go_ret
        rw [alike_true s t HST.out fun j hj => hh.out j (by omega)]
        exact ⟨rfl, hd.out⟩
  · rw [alike_size s t hst]
    go_enter Tryd.func48, Tryd.ntmps48
    go_wp2
    all_goals first | (exfalso; omega) | (go_ret; exact ⟨rfl, Drew.refl _⟩)

end Go.Proofs.YtepngemlaiffgaaDoor.alk
namespace Go.Proofs.YtepngemlaiffgaaDoor.flg
open Go.Lib Go.Proofs.YtepngemlaiffgaaDoor.alk
set_option linter.unusedVariables false
set_option linter.unusedSimpArgs false

/-- The five lowest bits of a number. -/
def five (x : Int) : Nat := (x % 32).toNat
theorem five_lt (x : Int) : five x < 32 := by unfold five; omega
def bitB (x : Int) (i : Nat) : Bool := decide (x / 2 ^ i % 2 = 1)
theorem bitB_five (x : Int) (i : Nat) (h : i < 5) : bitB x i = (five x).testBit i := by
  have key : (five x).testBit i = decide (five x / 2 ^ i % 2 = 1) := by rw [Nat.testBit_eq_decide_div_mod_eq]
  rw [key, Bool.eq_iff_iff]
  unfold bitB five
  simp only [decide_eq_true_eq]
  match i, h with
  | 0, _ => omega
  | 1, _ => omega
  | 2, _ => omega
  | 3, _ => omega
  | 4, _ => omega

theorem ofInt_five (x : Int) : (BitVec.ofInt 64 x).toNat % 32 = five x := by
  rw [BitVec.toNat_ofInt]
  unfold five
  omega
theorem wrap_mod (n : Nat) : IntKind.i64.wrap (n : Int) % 32 = (n : Int) % 32 := by
  rw [IntKind.wrap_i64]
  omega
theorem i64_and31 (n : Int) : bits .and .i64 n 31 = five n := by
  have h31 : (BitVec.ofInt 64 31).toNat = 2 ^ 5 - 1 := by decide
  have key : (BitVec.ofInt 64 n &&& BitVec.ofInt 64 31).toNat = (BitVec.ofInt 64 n).toNat % 2 ^ 5 := by
    rw [BitVec.toNat_and, h31, Nat.and_two_pow_sub_one_eq_mod]
  show IntKind.i64.wrap ((BitVec.ofInt 64 n &&& BitVec.ofInt 64 31).toNat : Nat) = _
  rw [key, show 2 ^ 5 = 32 from rfl, ofInt_five, IntKind.wrap_i64]
  have := five_lt n
  omega
theorem i64_and1 (n : Int) : bits .and .i64 n 1 = n % 2 := by
  have h1 : (BitVec.ofInt 64 1).toNat = 2 ^ 1 - 1 := by decide
  have key : (BitVec.ofInt 64 n &&& BitVec.ofInt 64 1).toNat = (n % ((2 ^ 64 : Nat) : Int)).toNat % 2 ^ 1 := by
    rw [BitVec.toNat_and, BitVec.toNat_ofInt, h1, Nat.and_two_pow_sub_one_eq_mod]
  show IntKind.i64.wrap ((BitVec.ofInt 64 n &&& BitVec.ofInt 64 1).toNat : Nat) = n % 2
  rw [key, IntKind.wrap_i64]
  omega
theorem five_of_nat {x : Int} {n : Nat} (h : x % 32 = (n : Int) % 32) : five x = n % 32 := by unfold five; omega
theorem five_or (x y : Int) : five (bits .or .i64 x y) = five x ||| five y := by
  have e : bits .or .i64 x y = IntKind.i64.wrap ((BitVec.ofInt 64 x ||| BitVec.ofInt 64 y).toNat : Nat) := rfl
  rw [e, five_of_nat (wrap_mod _), BitVec.toNat_or, show 32 = 2 ^ 5 from rfl, Nat.or_mod_two_pow]
  congr 1 <;> exact ofInt_five _
theorem five_andNot (x y : Int) : five (bits .andNot .i64 x y) = five x &&& (31 ^^^ five y) := by
  have e : bits .andNot .i64 x y = IntKind.i64.wrap ((BitVec.ofInt 64 x &&& ~~~ BitVec.ofInt 64 y).toNat : Nat) := rfl
  rw [e, five_of_nat (wrap_mod _), BitVec.toNat_and, show 32 = 2 ^ 5 from rfl, Nat.and_mod_two_pow, show 2 ^ 5 = 32 from rfl, ofInt_five]
  congr 1
  rw [← ofInt_five y]
  obtain ⟨v, hv⟩ : ∃ v, BitVec.ofInt 64 y = v := ⟨_, rfl⟩
  rw [hv, BitVec.toNat_not]
  have h := v.isLt
  have h32 : v.toNat % 32 < 32 := Nat.mod_lt _ (by decide)
  have h1 : (2 ^ 64 - 1 - v.toNat) % 32 = 31 - v.toNat % 32 := by omega
  rw [h1]
  generalize v.toNat % 32 = k at h32
  revert k
  decide

/-- What the document makes of two flags, bit by bit. -/
def goes (how : Int) (a c : Bool) : Bool := decide (how = 0) && c || decide (how = 1) && (a || c) || decide (how = 2) && a && !c || (decide (how < 0) || decide (2 < how)) && a
def chg (x y how : Int) : Nat → Nat
  | 0 => 0
  | k + 1 => chg x y how k + (if goes how (bitB x k) (bitB y k) then 2 ^ k else 0)
theorem chg_lt (x y how : Int) : ∀ k, chg x y how k < 2 ^ k
  | 0 => Nat.zero_lt_one
  | k + 1 => by
    have := chg_lt x y how k
    unfold chg
    rw [Nat.pow_succ]
    split <;> omega
/-- The same of the five lowest bits. -/
def chgN (m n : Nat) (h : Nat) : Nat := if h = 0 then n else if h = 1 then m ||| n else if h = 2 then m &&& (31 ^^^ n) else m
def kind (how : Int) : Nat := if how = 0 then 0 else if how = 1 then 1 else if how = 2 then 2 else 3
def goesN (h : Nat) (a c : Bool) : Bool := if h = 0 then c else if h = 1 then a || c else if h = 2 then a && !c else a
theorem goes_kind (how : Int) (a c : Bool) : goes how a c = goesN (kind how) a c := by
  unfold goes goesN kind
  by_cases h0 : how = 0
  · subst h0; cases a <;> cases c <;> rfl
  · by_cases h1 : how = 1
    · subst h1; cases a <;> cases c <;> rfl
    · by_cases h2 : how = 2
      · subst h2; cases a <;> cases c <;> rfl
      · have h3 : (decide (how < 0) || decide (2 < how)) = true := by
          simp only [Bool.or_eq_true, decide_eq_true_eq]; omega
        rw [h3]
        simp [h0, h1, h2]
def sumN (m n h : Nat) : Nat := (if goesN h (m.testBit 0) (n.testBit 0) then 1 else 0) + (if goesN h (m.testBit 1) (n.testBit 1) then 2 else 0) + (if goesN h (m.testBit 2) (n.testBit 2) then 4 else 0) + (if goesN h (m.testBit 3) (n.testBit 3) then 8 else 0) + (if goesN h (m.testBit 4) (n.testBit 4) then 16 else 0)
theorem sum_all : ∀ h, h < 4 → ∀ m, m < 32 → ∀ n, n < 32 → sumN m n h = chgN m n h := by decide +kernel
theorem kind_lt (how : Int) : kind how < 4 := by
  unfold kind
  repeat' split
  all_goals omega
theorem chg_five (x y how : Int) : chg x y how 5 = chgN (five x) (five y) (kind how) := by
  rw [← sum_all _ (kind_lt how) _ (five_lt x) _ (five_lt y)]
  simp only [chg, goes_kind, bitB_five x 0 (by decide), bitB_five x 1 (by decide), bitB_five x 2 (by decide), bitB_five x 3 (by decide), bitB_five x 4 (by decide), bitB_five y 0 (by decide), bitB_five y 1 (by decide), bitB_five y 2 (by decide), bitB_five y 3 (by decide), bitB_five y 4 (by decide)]
  unfold sumN
  simp only [Nat.zero_add, Nat.reducePow]
theorem twice_all : ∀ h, h < 4 → ∀ m, m < 32 → ∀ n, n < 32 → chgN (chgN m n h) n h = chgN m n h := by decide +kernel
theorem chgN_lt : ∀ h, h < 4 → ∀ m, m < 32 → ∀ n, n < 32 → chgN m n h < 32 := by decide +kernel

/-! ### Names -/
def nm (k : Nat) : List UInt8 :=
  if k = 0 then [92, 83, 101, 101, 110] else if k = 1 then [92, 65, 110, 115, 119, 101, 114, 101, 100] else if k = 2 then [92, 70, 108, 97, 103, 103, 101, 100] else if k = 3 then [92, 68, 101, 108, 101, 116, 101, 100] else [92, 68, 114, 97, 102, 116]
def nmS (k : Nat) : ByteArray := ⟨(nm k).toArray⟩
theorem nmS_size (k : Nat) : (nmS k).size = (nm k).length := rfl
theorem nm_len (k : Nat) (h : k < 5) : 5 ≤ (nm k).length ∧ (nm k).length ≤ 9 := by
  revert k; decide
/-- The names of the first k bits of m. -/
def names (m : Nat) : Nat → List ByteArray
  | 0 => []
  | k + 1 => names m k ++ (if m.testBit k then [nmS k] else [])
theorem names_len (m : Nat) : ∀ k, (names m k).length ≤ k
  | 0 => Nat.le_refl _
  | k + 1 => by
    have := names_len m k
    unfold names
    rw [List.length_append]
    split <;> simp <;> omega
def lists (m : Nat) : List UInt8 := join ((names m 5).map (·.data.toList)) [32]
def printL (m : Nat) : List UInt8 := 40 :: lists m ++ [41]
/-- The same as the document builds it. -/
def accL (m : Nat) : Nat → List UInt8
  | 0 => []
  | k + 1 => if m.testBit k then (if accL m k = [] then [] else accL m k ++ [32]) ++ nm k else accL m k
theorem acc_all : ∀ m, m < 32 → accL m 5 = lists m := by decide +kernel
theorem acc_len (m : Nat) : ∀ k, k ≤ 5 → (accL m k).length ≤ 10 * k
  | 0, _ => Nat.le_refl _
  | k + 1, h => by
    have := acc_len m k (by omega)
    have := nm_len k (by omega)
    unfold accL
    split
    · split <;> simp <;> omega
    · omega
theorem lists_len (m : Nat) (h : m < 32) : (lists m).length ≤ 50 := by
  rw [← acc_all m h]; exact acc_len m 5 (Nat.le_refl _)

/-! ### Flags of names -/
def bitN (s : ByteArray) : Nat := if alike s (nmS 0) then 1 else if alike s (nmS 1) then 2 else if alike s (nmS 2) then 4 else if alike s (nmS 3) then 8 else if alike s (nmS 4) then 16 else 0
theorem five_cases {k : Nat} (h : k < 5) : k = 0 ∨ k = 1 ∨ k = 2 ∨ k = 3 ∨ k = 4 := by omega
theorem bitN_hit (s : ByteArray) (k : Nat) (h : k < 5) (hn : ∀ j, j < k → alike s (nmS j) = false) (hk : alike s (nmS k) = true) : bitN s = 2 ^ k := by
  unfold bitN
  rcases five_cases h with rfl | rfl | rfl | rfl | rfl
  · simp [hk]
  · simp [hk, hn 0 (by omega)]
  · simp [hk, hn 0 (by omega), hn 1 (by omega)]
  · simp [hk, hn 0 (by omega), hn 1 (by omega), hn 2 (by omega)]
  · simp [hk, hn 0 (by omega), hn 1 (by omega), hn 2 (by omega), hn 3 (by omega)]
theorem bitN_none (s : ByteArray) (hn : ∀ j, j < 5 → alike s (nmS j) = false) : bitN s = 0 := by
  unfold bitN
  simp [hn 0 (by omega), hn 1 (by omega), hn 2 (by omega), hn 3 (by omega), hn 4 (by omega)]
theorem bitN_lt (s : ByteArray) : bitN s < 32 := by
  unfold bitN
  repeat' split
  all_goals omega
theorem names_apart : ∀ j, j < 5 → ∀ k, k < 5 → j ≠ k → alike (nmS j) (nmS k) = false := by decide +kernel
theorem names_like : ∀ k, k < 5 → alike (nmS k) (nmS k) = true := by decide +kernel
theorem bitN_only (s : ByteArray) (k : Nat) (h : k < 5) (hk : alike s (nmS k) = true) : bitN s = 2 ^ k := by
  refine bitN_hit s k h (fun j hj => ?_) hk
  cases ha : alike s (nmS j)
  · rfl
  · have := alike_both ha hk
    rw [names_apart j (by omega) k h (by omega)] at this
    cases this
theorem bitN_cases (s : ByteArray) : (bitN s = 0 ∧ ∀ k, k < 5 → alike s (nmS k) = false) ∨ ∃ k, k < 5 ∧ bitN s = 2 ^ k ∧ alike s (nmS k) = true := by
  by_cases h : ∃ k, k < 5 ∧ alike s (nmS k) = true
  · obtain ⟨k, hk, ha⟩ := h
    exact .inr ⟨k, hk, bitN_only s k hk ha, ha⟩
  · have hn : ∀ k, k < 5 → alike s (nmS k) = false := fun k hk => by
      cases ha : alike s (nmS k)
      · rfl
      · exact absurd ⟨k, hk, ha⟩ h
    exact .inl ⟨bitN_none s hn, hn⟩
theorem pow_bits : ∀ j, j < 5 → ∀ k, k < 5 → (2 ^ j).testBit k = decide (j = k) := by decide +kernel
theorem bitN_bit (s : ByteArray) (k : Nat) (h : k < 5) : (bitN s).testBit k = alike s (nmS k) := by
  rcases bitN_cases s with ⟨h0, hn⟩ | ⟨j, hj, hb, ha⟩
  · rw [h0, hn k h, Nat.zero_testBit]
  · rw [hb, pow_bits j hj k h]
    by_cases hjk : j = k
    · subst hjk; rw [ha]; simp
    · rw [decide_eq_false hjk]
      cases hk : alike s (nmS k)
      · rfl
      · have := alike_both ha hk
        rw [names_apart j hj k h hjk] at this
        cases this
def ors (X : Nat → ByteArray) : Nat → Nat
  | 0 => 0
  | k + 1 => ors X k ||| bitN (X k)
theorem ors_lt (X : Nat → ByteArray) : ∀ k, ors X k < 32
  | 0 => (by decide : 0 < 32)
  | k + 1 => Nat.or_lt_two_pow (n := 5) (ors_lt X k) (bitN_lt _)
theorem ors_bit (X : Nat → ByteArray) (n k : Nat) (h : k < 5) : (ors X (n + 1)).testBit k = ((ors X n).testBit k || alike (X n) (nmS k)) := by
  show (ors X n ||| bitN (X n)).testBit k = _
  rw [Nat.testBit_or, bitN_bit _ k h]
/-- A number out of five bits. -/
def sumB (m : Nat) : Nat → Nat
  | 0 => 0
  | k + 1 => sumB m k + (if m.testBit k then 2 ^ k else 0)
theorem sumB_five : ∀ m, m < 32 → sumB m 5 = m := by decide +kernel
theorem sumB_lt (m : Nat) : ∀ k, sumB m k < 2 ^ k
  | 0 => Nat.zero_lt_one
  | k + 1 => by
    have := sumB_lt m k
    unfold sumB
    rw [Nat.pow_succ]
    split <;> omega
/-- What is made of n names. -/
def fine (X : Nat → ByteArray) (n : Nat) : Prop := ∀ j, j < n → bitN (X j) ≠ 0
theorem names_ors : ∀ m, m < 32 → ors (fun j => (names m 5).getD j ByteArray.empty) (names m 5).length = m ∧ ∀ j, j < (names m 5).length → bitN ((names m 5).getD j ByteArray.empty) ≠ 0 := by decide +kernel
end Go.Proofs.YtepngemlaiffgaaDoor.flg
namespace Go.Proofs.YtepngemlaiffgaaDoor.flg
open Go.ChangeShapes Go.WideShapes Go.ChangeAt Go.RowKit Go.Proofs.YtepngemlaiffgaaDoor.alk
set_option linter.unusedVariables false
set_option linter.unusedSimpArgs false

theorem change_any (w : World) (x y how : Int) :
    Calls Tryd.prog 41 #[.int .i64 x, .int .i64 y, .int .i64 how] w fun e w' => e = .returned (.int .i64 (chgN (five x) (five y) (kind how) : Nat)) ∧ w' = w := by
  by_cases h0 : how = 0
  · subst h0
    show Calls _ _ _ w fun e w' => e = .returned (.int .i64 (five y : Nat)) ∧ w' = w
    go_enter Tryd.func41, Tryd.ntmps41
    go_wp2
    go_ret
    exact ⟨by rw [i64_and31]; rfl, rfl⟩
  · by_cases h1 : how = 1
    · subst h1
      show Calls _ _ _ w fun e w' => e = .returned (.int .i64 (five x ||| five y : Nat)) ∧ w' = w
      go_enter Tryd.func41, Tryd.ntmps41
      go_wp2
      go_ret
      exact ⟨by rw [i64_and31, five_or]; rfl, rfl⟩
    · by_cases h2 : how = 2
      · subst h2
        show Calls _ _ _ w fun e w' => e = .returned (.int .i64 (five x &&& (31 ^^^ five y) : Nat)) ∧ w' = w
        go_enter Tryd.func41, Tryd.ntmps41
        go_wp2
        go_ret
        exact ⟨by rw [i64_and31, five_andNot]; rfl, rfl⟩
      · have e0 : (how == 0) = false := by rw [beq_eq_false_iff_ne]; exact h0
        have e1 : (how == 1) = false := by rw [beq_eq_false_iff_ne]; exact h1
        have e2 : (how == 2) = false := by rw [beq_eq_false_iff_ne]; exact h2
        have hk : kind how = 3 := by simp [kind, h0, h1, h2]
        rw [hk]
        show Calls _ _ _ w fun e w' => e = .returned (.int .i64 (five x : Nat)) ∧ w' = w
        clear hk h0 h1 h2
        go_enter Tryd.func41, Tryd.ntmps41
        go_wp2
        go_ret
        exact ⟨by rw [i64_and31]; rfl, rfl⟩

theorem bit_and (x : Int) (k : Nat) {b : Bool} (h : bitB x k = b) : bits .and .i64 (x / 2 ^ k) 1 = if b then 1 else 0 := by
  subst h
  rw [i64_and1]
  unfold bitB
  by_cases h : x / 2 ^ k % 2 = 1
  · rw [decide_eq_true h, h]; rfl
  · rw [decide_eq_false h]
    have h1 := Int.emod_nonneg (x / 2 ^ k) (show (2 : Int) ≠ 0 by decide)
    have h2 := Int.emod_lt_of_pos (x / 2 ^ k) (show (0 : Int) < 2 by decide)
    simp only [Bool.false_eq_true, if_false]
    omega
set_option maxHeartbeats 6400000 in
theorem changed_in (w : World) (x y : Int) :
    Calls Tryd.prog 43 #[.int .i64 x, .int .i64 y, .int .i64 0] w fun e w' => e = .returned (.int .i64 (chg x y 0 5 : Nat)) ∧ w' = w := by
  go_enter Tryd.func43, Tryd.ntmps43
  go_wp2
  go_loop [7, 8, 12] (fun n b i => ∃ k : Nat, k ≤ 5 ∧ i = .int .i64 k ∧ b = .int .i64 (2 ^ k : Nat) ∧ n = .int .i64 (chg x y 0 k : Nat)) (fun _ _ i => 5 - (intOf i).toNat)
  case atStart => exact ⟨0, Nat.zero_le _, rfl, rfl, rfl⟩
  case round =>
    obtain ⟨k, hk, rfl, rfl, rfl⟩ := hrel
    by_cases hk5 : k < 5
    · have hd : (2 ^ k : Nat) ≤ 16 := by
        rcases five_cases hk5 with rfl | rfl | rfl | rfl | rfl <;> decide
      have hl := chg_lt x y 0 k
      have hs : chg x y 0 (k + 1) = chg x y 0 k + (if goes 0 (bitB x k) (bitB y k) then 2 ^ k else 0) := rfl
      have hd2 : (2 ^ (k + 1) : Nat) = 2 ^ k * 2 := Nat.pow_succ 2 k
      have hga : ∀ a c, goes 0 a c = goesN (kind 0) a c := goes_kind 0
      rw [hga] at hs
      obtain ⟨d, hd'⟩ : ∃ d : Nat, 2 ^ k = d := ⟨_, rfl⟩
      obtain ⟨n, hn⟩ : ∃ n : Nat, chg x y 0 k = n := ⟨_, rfl⟩
      rw [hd'] at hd hl hs hd2 ⊢
      rw [hn] at hl hs ⊢
      have hX0 := fun b h => bit_and x k (b := b) h
      have hY0 := fun b h => bit_and y k (b := b) h
      cases ha : bitB x k <;> cases hc : bitB y k
      all_goals
        rw [ha, hc] at hs
        have hX := hX0 _ ha
        have hY := hY0 _ hc
        simp only [Bool.false_eq_true, if_true, if_false] at hX hY
        have HS := Lib.hid hs
        have HD := Lib.hid hd2
        clear hs hd2 ha hc hga hn hd' hX0 hY0
        go_wp2
        refine ⟨⟨k + 1, hk5, by simp, ?_, ?_⟩, by simp [intOf]; omega⟩
        · rw [HD.out]; push_cast; rfl
        · rw [HS.out]; first | rfl | (simp [goesN, kind]; done)
    · obtain rfl : k = 5 := by omega
      go_wp2
      go_ret
      exact ⟨rfl, rfl⟩
set_option maxHeartbeats 6400000 in
theorem changed_both (w : World) (x y : Int) :
    Calls Tryd.prog 43 #[.int .i64 x, .int .i64 y, .int .i64 1] w fun e w' => e = .returned (.int .i64 (chg x y 1 5 : Nat)) ∧ w' = w := by
  go_enter Tryd.func43, Tryd.ntmps43
  go_wp2
  go_loop [7, 8, 12] (fun n b i => ∃ k : Nat, k ≤ 5 ∧ i = .int .i64 k ∧ b = .int .i64 (2 ^ k : Nat) ∧ n = .int .i64 (chg x y 1 k : Nat)) (fun _ _ i => 5 - (intOf i).toNat)
  case atStart => exact ⟨0, Nat.zero_le _, rfl, rfl, rfl⟩
  case round =>
    obtain ⟨k, hk, rfl, rfl, rfl⟩ := hrel
    by_cases hk5 : k < 5
    · have hd : (2 ^ k : Nat) ≤ 16 := by
        rcases five_cases hk5 with rfl | rfl | rfl | rfl | rfl <;> decide
      have hl := chg_lt x y 1 k
      have hs : chg x y 1 (k + 1) = chg x y 1 k + (if goes 1 (bitB x k) (bitB y k) then 2 ^ k else 0) := rfl
      have hd2 : (2 ^ (k + 1) : Nat) = 2 ^ k * 2 := Nat.pow_succ 2 k
      have hga : ∀ a c, goes 1 a c = goesN (kind 1) a c := goes_kind 1
      rw [hga] at hs
      obtain ⟨d, hd'⟩ : ∃ d : Nat, 2 ^ k = d := ⟨_, rfl⟩
      obtain ⟨n, hn⟩ : ∃ n : Nat, chg x y 1 k = n := ⟨_, rfl⟩
      rw [hd'] at hd hl hs hd2 ⊢
      rw [hn] at hl hs ⊢
      have hX0 := fun b h => bit_and x k (b := b) h
      have hY0 := fun b h => bit_and y k (b := b) h
      cases ha : bitB x k <;> cases hc : bitB y k
      all_goals
        rw [ha, hc] at hs
        have hX := hX0 _ ha
        have hY := hY0 _ hc
        simp only [Bool.false_eq_true, if_true, if_false] at hX hY
        have HS := Lib.hid hs
        have HD := Lib.hid hd2
        clear hs hd2 ha hc hga hn hd' hX0 hY0
        go_wp2
        refine ⟨⟨k + 1, hk5, by simp, ?_, ?_⟩, by simp [intOf]; omega⟩
        · rw [HD.out]; push_cast; rfl
        · rw [HS.out]; first | rfl | (simp [goesN, kind]; done)
    · obtain rfl : k = 5 := by omega
      go_wp2
      go_ret
      exact ⟨rfl, rfl⟩
set_option maxHeartbeats 6400000 in
theorem changed_less (w : World) (x y : Int) :
    Calls Tryd.prog 43 #[.int .i64 x, .int .i64 y, .int .i64 2] w fun e w' => e = .returned (.int .i64 (chg x y 2 5 : Nat)) ∧ w' = w := by
  go_enter Tryd.func43, Tryd.ntmps43
  go_wp2
  go_loop [7, 8, 12] (fun n b i => ∃ k : Nat, k ≤ 5 ∧ i = .int .i64 k ∧ b = .int .i64 (2 ^ k : Nat) ∧ n = .int .i64 (chg x y 2 k : Nat)) (fun _ _ i => 5 - (intOf i).toNat)
  case atStart => exact ⟨0, Nat.zero_le _, rfl, rfl, rfl⟩
  case round =>
    obtain ⟨k, hk, rfl, rfl, rfl⟩ := hrel
    by_cases hk5 : k < 5
    · have hd : (2 ^ k : Nat) ≤ 16 := by
        rcases five_cases hk5 with rfl | rfl | rfl | rfl | rfl <;> decide
      have hl := chg_lt x y 2 k
      have hs : chg x y 2 (k + 1) = chg x y 2 k + (if goes 2 (bitB x k) (bitB y k) then 2 ^ k else 0) := rfl
      have hd2 : (2 ^ (k + 1) : Nat) = 2 ^ k * 2 := Nat.pow_succ 2 k
      have hga : ∀ a c, goes 2 a c = goesN (kind 2) a c := goes_kind 2
      rw [hga] at hs
      obtain ⟨d, hd'⟩ : ∃ d : Nat, 2 ^ k = d := ⟨_, rfl⟩
      obtain ⟨n, hn⟩ : ∃ n : Nat, chg x y 2 k = n := ⟨_, rfl⟩
      rw [hd'] at hd hl hs hd2 ⊢
      rw [hn] at hl hs ⊢
      have hX0 := fun b h => bit_and x k (b := b) h
      have hY0 := fun b h => bit_and y k (b := b) h
      cases ha : bitB x k <;> cases hc : bitB y k
      all_goals
        rw [ha, hc] at hs
        have hX := hX0 _ ha
        have hY := hY0 _ hc
        simp only [Bool.false_eq_true, if_true, if_false] at hX hY
        have HS := Lib.hid hs
        have HD := Lib.hid hd2
        clear hs hd2 ha hc hga hn hd' hX0 hY0
        go_wp2
        refine ⟨⟨k + 1, hk5, by simp, ?_, ?_⟩, by simp [intOf]; omega⟩
        · rw [HD.out]; push_cast; rfl
        · rw [HS.out]; first | rfl | (simp [goesN, kind]; done)
    · obtain rfl : k = 5 := by omega
      go_wp2
      go_ret
      exact ⟨rfl, rfl⟩
set_option maxHeartbeats 6400000 in
theorem changed_low (w : World) (x y how : Int) (h : how < 0) :
    Calls Tryd.prog 43 #[.int .i64 x, .int .i64 y, .int .i64 how] w fun e w' => e = .returned (.int .i64 (chg x y how 5 : Nat)) ∧ w' = w := by
  have hkd : kind how = 3 := by unfold kind; rw [if_neg (by omega), if_neg (by omega), if_neg (by omega)]
  have e0 : (how == 0) = false := by rw [beq_eq_false_iff_ne]; omega
  have e1 : (how == 1) = false := by rw [beq_eq_false_iff_ne]; omega
  have e2 : (how == 2) = false := by rw [beq_eq_false_iff_ne]; omega
  go_enter Tryd.func43, Tryd.ntmps43
  go_wp2
  go_loop [7, 8, 12] (fun n b i => ∃ k : Nat, k ≤ 5 ∧ i = .int .i64 k ∧ b = .int .i64 (2 ^ k : Nat) ∧ n = .int .i64 (chg x y how k : Nat)) (fun _ _ i => 5 - (intOf i).toNat)
  case atStart => exact ⟨0, Nat.zero_le _, rfl, rfl, rfl⟩
  case round =>
    obtain ⟨k, hk, rfl, rfl, rfl⟩ := hrel
    by_cases hk5 : k < 5
    · have hd : (2 ^ k : Nat) ≤ 16 := by
        rcases five_cases hk5 with rfl | rfl | rfl | rfl | rfl <;> decide
      have hl := chg_lt x y how k
      have hs : chg x y how (k + 1) = chg x y how k + (if goes how (bitB x k) (bitB y k) then 2 ^ k else 0) := rfl
      have hd2 : (2 ^ (k + 1) : Nat) = 2 ^ k * 2 := Nat.pow_succ 2 k
      have hga : ∀ a c, goes how a c = goesN (kind how) a c := goes_kind how
      rw [hga, hkd] at hs
      obtain ⟨d, hd'⟩ : ∃ d : Nat, 2 ^ k = d := ⟨_, rfl⟩
      obtain ⟨n, hn⟩ : ∃ n : Nat, chg x y how k = n := ⟨_, rfl⟩
      rw [hd'] at hd hl hs hd2 ⊢
      rw [hn] at hl hs ⊢
      have hX0 := fun b h => bit_and x k (b := b) h
      have hY0 := fun b h => bit_and y k (b := b) h
      cases ha : bitB x k <;> cases hc : bitB y k
      all_goals
        rw [ha, hc] at hs
        have hX := hX0 _ ha
        have hY := hY0 _ hc
        simp only [Bool.false_eq_true, if_true, if_false] at hX hY
        have HS := Lib.hid hs
        have HD := Lib.hid hd2
        clear hs hd2 ha hc hga hn hd' hX0 hY0
        go_wp2
        refine ⟨⟨k + 1, hk5, by simp, ?_, ?_⟩, by simp [intOf]; omega⟩
        · rw [HD.out]; push_cast; rfl
        · rw [HS.out]; first | rfl | (simp [goesN, kind]; done)
    · obtain rfl : k = 5 := by omega
      go_wp2
      go_ret
      exact ⟨rfl, rfl⟩
set_option maxHeartbeats 6400000 in
theorem changed_high (w : World) (x y how : Int) (h : 2 < how) :
    Calls Tryd.prog 43 #[.int .i64 x, .int .i64 y, .int .i64 how] w fun e w' => e = .returned (.int .i64 (chg x y how 5 : Nat)) ∧ w' = w := by
  have hkd : kind how = 3 := by unfold kind; rw [if_neg (by omega), if_neg (by omega), if_neg (by omega)]
  have e0 : (how == 0) = false := by rw [beq_eq_false_iff_ne]; omega
  have e1 : (how == 1) = false := by rw [beq_eq_false_iff_ne]; omega
  have e2 : (how == 2) = false := by rw [beq_eq_false_iff_ne]; omega
  have e3 : ¬ how < 0 := by omega
  go_enter Tryd.func43, Tryd.ntmps43
  go_wp2
  go_loop [7, 8, 12] (fun n b i => ∃ k : Nat, k ≤ 5 ∧ i = .int .i64 k ∧ b = .int .i64 (2 ^ k : Nat) ∧ n = .int .i64 (chg x y how k : Nat)) (fun _ _ i => 5 - (intOf i).toNat)
  case atStart => exact ⟨0, Nat.zero_le _, rfl, rfl, rfl⟩
  case round =>
    obtain ⟨k, hk, rfl, rfl, rfl⟩ := hrel
    by_cases hk5 : k < 5
    · have hd : (2 ^ k : Nat) ≤ 16 := by
        rcases five_cases hk5 with rfl | rfl | rfl | rfl | rfl <;> decide
      have hl := chg_lt x y how k
      have hs : chg x y how (k + 1) = chg x y how k + (if goes how (bitB x k) (bitB y k) then 2 ^ k else 0) := rfl
      have hd2 : (2 ^ (k + 1) : Nat) = 2 ^ k * 2 := Nat.pow_succ 2 k
      have hga : ∀ a c, goes how a c = goesN (kind how) a c := goes_kind how
      rw [hga, hkd] at hs
      obtain ⟨d, hd'⟩ : ∃ d : Nat, 2 ^ k = d := ⟨_, rfl⟩
      obtain ⟨n, hn⟩ : ∃ n : Nat, chg x y how k = n := ⟨_, rfl⟩
      rw [hd'] at hd hl hs hd2 ⊢
      rw [hn] at hl hs ⊢
      have hX0 := fun b h => bit_and x k (b := b) h
      have hY0 := fun b h => bit_and y k (b := b) h
      cases ha : bitB x k <;> cases hc : bitB y k
      all_goals
        rw [ha, hc] at hs
        have hX := hX0 _ ha
        have hY := hY0 _ hc
        simp only [Bool.false_eq_true, if_true, if_false] at hX hY
        have HS := Lib.hid hs
        have HD := Lib.hid hd2
        clear hs hd2 ha hc hga hn hd' hX0 hY0
        go_wp2
        refine ⟨⟨k + 1, hk5, by simp, ?_, ?_⟩, by simp [intOf]; omega⟩
        · rw [HD.out]; push_cast; rfl
        · rw [HS.out]; first | rfl | (simp [goesN, kind]; done)
    · obtain rfl : k = 5 := by omega
      go_wp2
      go_ret
      exact ⟨rfl, rfl⟩
theorem changed_any (w : World) (x y how : Int) :
    Calls Tryd.prog 43 #[.int .i64 x, .int .i64 y, .int .i64 how] w fun e w' => e = .returned (.int .i64 (chg x y how 5 : Nat)) ∧ w' = w := by
  have hcase : how = 0 ∨ how = 1 ∨ how = 2 ∨ how < 0 ∨ 2 < how := by omega
  rcases hcase with rfl | rfl | rfl | h | h
  · exact changed_in w x y
  · exact changed_both w x y
  · exact changed_less w x y
  · exact changed_low w x y how h
  · exact changed_high w x y how h
end Go.Proofs.YtepngemlaiffgaaDoor.flg
namespace Go.Proofs.YtepngemlaiffgaaDoor.bod
open Go.ChangeShapes Go.WideShapes Go.ChangeAt Go.RowKit
open Go.Proofs.YtepngemlaiffgaaDoor.codec (Bytes)
set_option linter.unusedVariables false
set_option linter.unusedSimpArgs false
set_option maxRecDepth 100000

/-- What the walk asks of the library's own variables. -/
structure Fit (w : World) : Prop where
  room : nam.Room w
  tens : dat.Tens w
theorem Fit.below {w w' : World} (h : Fit w) (hb : Below w.heap.size w w') : Fit w' := ⟨h.room.below hb, Lib.tabBelow_of_tabIs (h.tens w' hb)⟩
theorem isName_any (w : World) (s : ByteArray) (hs : s.size ≤ 100000) (hr : Fit w) :
    Calls Tryd.prog 49 #[.string s] w fun e w' => e = .returned (.bool (named s)) ∧ Below w.heap.size w w' := by
  have hN := nam.normR w s hs hr.room
  unfold named
  generalize nam.normS s = t at *
  generalize nam.normOk s = b at *
  have HN := Lib.hid hN
  clear hN hr
  cases b
  · go_enter Tryd.func49, Tryd.ntmps49
    go_wp2_with (go_at_call 56; refine HN.out.mono ?_; rintro e w1 ⟨rfl, hb⟩)
    go_ret
    exact ⟨rfl, hb⟩
  · by_cases hts : t = s
    · subst hts
      rw [decide_eq_true rfl]
      go_enter Tryd.func49, Tryd.ntmps49
      go_wp2_with (go_at_call 56; refine HN.out.mono ?_; rintro e w1 ⟨rfl, hb⟩)
      go_ret
      exact ⟨rfl, hb⟩
    · rw [decide_eq_false hts]
      have hne := rd.str_ne hts
      clear hts
      go_enter Tryd.func49, Tryd.ntmps49
      go_wp2_with (go_at_call 56; refine HN.out.mono ?_; rintro e w1 ⟨rfl, hb⟩)
      go_ret
      exact ⟨by simpa [ByteArray.toList_eq] using hne, hb⟩
theorem rNamed_any (w : World) (s : ByteArray) (hs : s.size ≤ 100000) :
    Calls Tryd.prog 11 #[.string s] w fun e w' => e = .returned (.bool (named s)) ∧ Below w.heap.size w w' := by
  have hN := nam.rNorm_any w s hs
  unfold named
  generalize nam.normS s = t at *
  generalize nam.normOk s = b at *
  have HN := Lib.hid hN
  clear hN
  cases b
  · go_enter Tryd.func11, Tryd.ntmps11
    go_wp2_with (go_at_call 27; refine HN.out.mono ?_; rintro e w1 ⟨rfl, hb⟩)
    go_ret
    exact ⟨rfl, hb.below _⟩
  · by_cases hts : t = s
    · subst hts
      rw [decide_eq_true rfl]
      go_enter Tryd.func11, Tryd.ntmps11
      go_wp2_with (go_at_call 27; refine HN.out.mono ?_; rintro e w1 ⟨rfl, hb⟩)
      go_ret
      exact ⟨rfl, hb.below _⟩
    · rw [decide_eq_false hts]
      have hne := rd.str_ne hts
      clear hts
      go_enter Tryd.func11, Tryd.ntmps11
      go_wp2_with (go_at_call 27; refine HN.out.mono ?_; rintro e w1 ⟨rfl, hb⟩)
      go_ret
      exact ⟨by simpa [ByteArray.toList_eq] using hne, hb.below _⟩
theorem isTime_any (w : World) (d : Int) (hr : Fit w) :
    Calls Tryd.prog 57 #[.int .i64 d] w fun e w' => e = .returned (.bool (decide (0 ≤ d ∧ d ≤ 253402300799))) ∧ Below w.heap.size w w' := by
  by_cases hd : 0 ≤ d ∧ d ≤ 253402300799
  · rw [decide_eq_true hd]
    obtain ⟨n, rfl⟩ := Int.eq_ofNat_of_zero_le hd.1
    obtain ⟨Y, M, D, hc⟩ := dat.civ_at ((n / 86400 : Nat) : Int) (by omega) (by omega)
    have hP := dat.print_any w n Y M D (by omega) hc hr.tens
    have hlen : 0 < (dat.textL Y M D (n % 86400)).length := by simp [dat.textL]
    generalize dat.textL Y M D (n % 86400) = T at *
    have hT : T.isEmpty = false := by cases T with
      | nil => simp at hlen
      | cons => rfl
    have HP := Lib.hid hP
    have HT := Lib.hid hT
    clear hP hT hlen hc hr hd
    go_enter Tryd.func57, Tryd.ntmps57
    go_wp2_with (go_at_call 62; refine HP.out.mono ?_; rintro e w1 ⟨rfl, hb⟩)
    go_ret
    exact ⟨by have := HT.out; simpa [ByteArray.toList_eq] using this, hb⟩
  · rw [decide_eq_false hd]
    have HP := Lib.hid (dat.print_none w d hd)
    clear hd hr
    go_enter Tryd.func57, Tryd.ntmps57
    go_wp2_with (go_at_call 62; refine HP.out.mono ?_; rintro e w1 ⟨rfl, hb⟩)
    go_ret
    exact ⟨rfl, hb⟩
theorem put_five (f : Int) : flg.chgN (flg.five 0) (flg.five f) (flg.kind 0) = flg.five f := rfl
theorem areFlags_any (w : World) (f : Int) :
    Calls Tryd.prog 58 #[.int .i64 f] w fun e w' => e = .returned (.bool (decide (0 ≤ f ∧ f < 32))) ∧ w' = w := by
  have hC := flg.change_any w 0 f 0
  rw [put_five] at hC
  have hv : decide ((flg.five f : Int) = f) = decide (0 ≤ f ∧ f < 32) := by
    rw [decide_eq_decide]
    unfold flg.five
    omega
  rw [← hv]
  generalize flg.five f = g at *
  have HC := Lib.hid hC
  clear hC hv
  go_enter Tryd.func58, Tryd.ntmps58
  go_wp2_with (go_at_call 41; refine HC.out.mono ?_; rintro e w1 ⟨rfl, hw⟩; replace hw := hw.symm; subst hw)
  go_ret
  exact ⟨by rfl, rfl⟩
end Go.Proofs.YtepngemlaiffgaaDoor.bod
