/- What the calendar's parts answer. -/
import Derived.Test.YtklmbiekpilkhaaGreatDoorRows
import Derived.Test.YtklmbiekpilkhaaGreatDoorDatM
import Derived.Test.YtklmbiekpilkhaaGreatDoorIdxS
import Derived.WalkKit
import Derived.ProofKit
import Derived.OpenShut
import Derived.ShutString
import Derived.ChangeOld
import Derived.Below
import Derived.Outline
import Derived.WalkSpells
import Derived.Lib.Hide
import Derived.Deep.QuietTactic
import Derived.BigQuiet
import Derived.Deep.OwnRows
import Derived.Deep.WholeRow
import Derived.StillTailTactics
import Derived.Deep.RegionLaw
namespace Go.Proofs.YtklmbiekpilkhaaGreatDoor.dat
open Go.ChangeShapes Go.WideShapes Go.ChangeAt Go.RowKit
open Go.Lib (dg itoa byteCells strCells)
set_option linter.unusedVariables false
set_option linter.unusedSimpArgs false

theorem isLeap_any (w : World) (y : Nat) (hy : y ≤ 10001) :
    Calls Tryz.prog 155 #[.int .i64 y] w fun e w' => e = .returned (.bool (leapN y)) ∧ w' = w := by
  go_enter Tryz.func155, Tryz.ntmps155
  go_wp2
  all_goals (go_ret; refine ⟨congrArg (fun b => Ending.returned (Value.bool b)) ?_, rfl⟩; rw [Bool.eq_iff_iff]; simp [leapN] at * <;> omega)
theorem length_any (w : World) (y m : Nat) (hy : y ≤ 10001) (hm : m ≤ 100) :
    Calls Tryz.prog 150 #[.int .i64 y, .int .i64 m] w fun e w' => e = .returned (.int .i64 (daysN y m : Nat)) ∧ w' = w := by
  have h := fun w => isLeap_any w y hy
  unfold daysN
  by_cases h2 : m = 2
  · subst h2
    cases hl : leapN y <;> rw [hl] at h <;>
    · go_enter Tryz.func150, Tryz.ntmps150
      go_wp2_with (go_at_call 155; refine (h _).mono ?_; rintro e w' ⟨rfl, rfl⟩)
      go_ret
      exact ⟨rfl, rfl⟩
  · rw [if_neg h2]
    by_cases h4 : m = 4 ∨ m = 6 ∨ m = 9 ∨ m = 11
    · rw [if_pos h4]
      rcases h4 with rfl | rfl | rfl | rfl <;>
      · go_enter Tryz.func150, Tryz.ntmps150
        go_wp2
        go_ret
        exact ⟨rfl, rfl⟩
    · rw [if_neg h4]
      have e2 : ((m : Int) == 2) = false := by simp; omega
      have e4 : ((m : Int) == 4) = false := by simp; omega
      have e6 : ((m : Int) == 6) = false := by simp; omega
      have e9 : ((m : Int) == 9) = false := by simp; omega
      have e11 : ((m : Int) == 11) = false := by simp; omega
      go_enter Tryz.func150, Tryz.ntmps150
      go_wp2
      go_ret
      exact ⟨rfl, rfl⟩
theorem tdiv_in (p : Int) (n : Int) (hn : 1 ≤ n) (h : -1 ≤ p ∧ p ≤ 10001) : -1 ≤ p.tdiv n ∧ p.tdiv n ≤ 10001 := by
  rcases Int.lt_or_le p 0 with h0 | h0
  · obtain rfl : p = -1 := by omega
    rw [Int.neg_tdiv]
    have h1 : Int.tdiv 1 n = 1 / n := Int.tdiv_eq_ediv_of_nonneg (by omega)
    have h2 : (1 : Int) / n ≤ 1 := Int.ediv_le_self _ (by omega)
    have h3 : 0 ≤ (1 : Int) / n := Int.ediv_nonneg (by omega) (by omega)
    omega
  · rw [Int.tdiv_eq_ediv_of_nonneg h0]
    have h2 : p / n ≤ p := Int.ediv_le_self _ (by omega)
    have h3 : 0 ≤ p / n := Int.ediv_nonneg (by omega) (by omega)
    omega
theorem newYear_any (w : World) (y : Nat) (hy : y ≤ 10001) :
    Calls Tryz.prog 149 #[.int .i64 y] w fun e w' => e = .returned (.int .i64 (nY y)) ∧ w' = w := by
  have a1 := tdiv_in ((y : Int) - 1) 4 (by omega) (by omega)
  have a2 := tdiv_in ((y : Int) - 1) 100 (by omega) (by omega)
  have a3 := tdiv_in ((y : Int) - 1) 400 (by omega) (by omega)
  have w1 := IntWalk.wrap64_in (365 * ((y : Int) - 1) + ((y : Int) - 1).tdiv 4) (by omega)
  have w2 := IntWalk.wrap64_in (365 * ((y : Int) - 1) + ((y : Int) - 1).tdiv 4 - ((y : Int) - 1).tdiv 100) (by omega)
  have w3 := IntWalk.wrap64_in (365 * ((y : Int) - 1) + ((y : Int) - 1).tdiv 4 - ((y : Int) - 1).tdiv 100 + ((y : Int) - 1).tdiv 400) (by omega)
  have w4 := IntWalk.wrap64_in (365 * ((y : Int) - 1) + ((y : Int) - 1).tdiv 4 - ((y : Int) - 1).tdiv 100 + ((y : Int) - 1).tdiv 400 - 719162) (by omega)
  have W1 := Lib.hid w1; have W2 := Lib.hid w2; have W3 := Lib.hid w3; have W4 := Lib.hid w4
  clear w1 w2 w3 w4 a1 a2 a3
  unfold nY
  go_enter Tryz.func149, Tryz.ntmps149
  go_wp2
  rw [W1.out, W2.out, W3.out, W4.out]
  go_ret
  exact ⟨rfl, rfl⟩

theorem isTime_any (w : World) (t : Int) :
    Calls Tryz.prog 138 #[.int .i64 t] w fun e w' => e = .returned (.bool (decide (0 ≤ t ∧ t ≤ 253402300799))) ∧ w' = w := by
  go_enter Tryz.func138, Tryz.ntmps138
  go_wp2
  all_goals (go_ret; refine ⟨congrArg (fun b => Ending.returned (Value.bool b)) ?_, rfl⟩; rw [Bool.eq_iff_iff]; simp at * <;> omega)

theorem u8_digit (n : Nat) (h : n < 10) : ((48 + n : Nat) : Int) = ((UInt8.ofNat (48 + n)).toNat : Int) := by
  rw [UInt8.toNat_ofNat']
  omega
theorem dg0_nat (v : Nat) : (dg v 0).toNat = 48 + v % 10 := by
  unfold dg
  rw [UInt8.toNat_ofNat', show 10 ^ 0 = 1 from rfl, Nat.div_one]
  omega
theorem dg_nat (v j : Nat) : (dg v j).toNat = 48 + v / 10 ^ j % 10 := by
  unfold dg
  rw [UInt8.toNat_ofNat']
  omega
theorem digit_any (w : World) (v : Nat) (hv : v < 100000) :
    Calls Tryz.prog 141 #[.int .i64 v] w fun e w' => e = .returned (.int .u8 ((dg v 0).toNat : Nat)) ∧ w' = w := by
  rw [dg0_nat]
  go_enter Tryz.func141, Tryz.ntmps141
  go_wp2
  go_ret
  exact ⟨by congr 2 <;> omega, rfl⟩
theorem tens_any (w : World) (v : Nat) (hv : v < 100) :
    Calls Tryz.prog 140 #[.int .i64 v] w fun e w' => e = .returned (.int .u8 ((tensB v).toNat : Nat)) ∧ w' = w := by
  unfold tensB
  by_cases h : v < 10
  · rw [if_pos h]
    go_enter Tryz.func140, Tryz.ntmps140
    go_wp2
    go_ret
    exact ⟨rfl, rfl⟩
  · rw [if_neg h, dg_nat, show 10 ^ 1 = 10 from rfl]
    go_enter Tryz.func140, Tryz.ntmps140
    go_wp2
    go_ret
    rw [show ((48 + v / 10 % 10 : Nat) : Int) = 48 + (v : Int) / 10 by omega]
    exact ⟨rfl, rfl⟩
theorem monthName_any (w : World) (m : Nat) (h0 : 1 ≤ m) (h1 : m ≤ 12) :
    Calls Tryz.prog 142 #[.int .i64 m] w fun e w' => e = .returned (.string ⟨(nameL m).toArray⟩) ∧ w' = w := by
  rcases twelve h0 h1 with rfl | rfl | rfl | rfl | rfl | rfl | rfl | rfl | rfl | rfl | rfl | rfl <;>
  · go_enter Tryz.func142, Tryz.ntmps142
    go_wp2
    go_ret
    exact ⟨by first | rfl | kernel_rfl | decide, rfl⟩
theorem civil_any (w : World) (d : Int) (Y M D : Nat) (h : Civ d Y M D) (h0 : 0 ≤ d) (h1 : d ≤ 2932896) :
    Calls Tryz.prog 139 #[.int .i64 d] w fun e w' => e = .returned (.tuple #[.int .i64 Y, .int .i64 M, .int .i64 D]) ∧ w' = w := by
  obtain ⟨n, rfl⟩ := Int.eq_ofNat_of_zero_le h0
  have hY0 := h.y0; have hY1 := h.y1; have hM0 := h.m0; have hM1 := h.m1; have hD0 := h.d0; have hD1 := h.d1
  have hst : 1970 + n / 366 ≤ Y := by
    have hk := nY_near (n / 366) (by omega)
    rcases Nat.lt_or_ge Y (1970 + n / 366) with h' | h'
    · have := (h.next)
      have := nY_mono (a := Y + 1) (b := 1970 + n / 366) (by omega) (by omega)
      omega
    · exact h'
  have HC := Lib.hid h
  have hdn := daysN_pos Y M
  clear h
  go_enter Tryz.func139, Tryz.ntmps139
  go_wp2
  go_loop [2] (fun x => ∃ y : Nat, 1970 ≤ y ∧ y ≤ Y ∧ x = .int .i64 y) (fun x => Y - (intOf x).toNat)
  case atStart => exact ⟨1970 + n / 366, by omega, hst, by congr 1⟩
  case round =>
    obtain ⟨y, y0, y1, rfl⟩ := hrel
    have hb := nY_bounds (y + 1) (by omega)
    have hi := HC.out.year y1 (by omega)
    have hn := fun w => newYear_any w (y + 1) (by omega)
    obtain ⟨z, hz⟩ : ∃ z, nY (y + 1) = z := ⟨_, rfl⟩
    rw [hz] at hb hi hn
    rw [show (((y + 1 : Nat) : Int)) = (y : Int) + 1 by omega] at hn
    have HN := Lib.hid hn
    clear hn hz
    by_cases hy : y < Y
    · have hzn : z ≤ (n : Int) := hi.2 hy
      clear hi
      go_wp2_with (go_at_call 149; refine (HN.out _).mono ?_; rintro e w' ⟨rfl, rfl⟩)
      exact ⟨⟨y + 1, by omega, hy, by simp⟩, by simp [intOf]; omega⟩
    · obtain rfl : y = Y := by omega
      have hzn : ¬ z ≤ (n : Int) := fun hh => hy (hi.1 hh)
      clear hi
      have hf := HC.out.first
      have he := HC.out.eq
      have hb2 := nY_bounds y (by omega)
      have hn2 := fun w => newYear_any w y (by omega)
      obtain ⟨z2, hz2⟩ : ∃ z, nY y = z := ⟨_, rfl⟩
      rw [hz2] at hf he hb2 hn2
      have HN2 := Lib.hid hn2
      have hcl := cum_le y (M - 1)
      clear hn2 hz2
      obtain ⟨cM, hcM⟩ : ∃ c, cum y (M - 1) = c := ⟨_, rfl⟩
      have HCM := Lib.hid hcM
      rw [hcM] at he hcl
      clear hcM
      go_wp2_with (first | (go_at_call 149; with_reducible refine Calls.mono (HN.out _) ?_; rintro e w' ⟨rfl, rfl⟩) | (go_at_call 149; with_reducible refine Calls.mono (HN2.out _) ?_; rintro e w' ⟨rfl, rfl⟩))
      go_loop [3, 4] (fun x r => ∃ k : Nat, 1 ≤ k ∧ k ≤ M ∧ x = .int .i64 k ∧ r = .int .i64 ((cM + D : Nat) - (cum y (k - 1) : Nat) : Int)) (fun x _ => M - (intOf x).toNat)
      case atStart => exact ⟨1, Nat.le_refl _, hM0, rfl, by simp [cum]; omega⟩
      case round =>
        obtain ⟨k, k0, k1, rfl, rfl⟩ := hrel
        obtain ⟨hm1, hm2⟩ := HC.out.month k0 k1
        have hl := daysN_pos y k
        have hs := cum_step y k k0
        rw [HCM.out] at hm1 hm2
        obtain ⟨c, hcc⟩ : ∃ c, cum y (k - 1) = c := ⟨_, rfl⟩
        obtain ⟨l, hll⟩ : ∃ l, daysN y k = l := ⟨_, rfl⟩
        have hlen := fun w => length_any w y k (by omega) (by omega)
        rw [hll] at hlen hl hs hm2
        rw [hcc] at hm1 hm2 hs ⊢
        have HS := Lib.hid hs
        have HL := Lib.hid hlen
        have HLL := Lib.hid hll
        have HCC := Lib.hid hcc
        clear hlen hll hcc hs
        by_cases hkM : k < M
        · have hlt : (l : Int) < ((cM + D : Nat) : Int) - (c : Int) := by have := hm2.2 hkM; omega
          clear hm2
          go_wp2_with (go_at_call 150; refine (HL.out _).mono ?_; rintro e w' ⟨rfl, rfl⟩)
          exact ⟨⟨k + 1, by omega, hkM, by simp, by rw [show k + 1 - 1 = k by omega, HS.out]; congr 1; omega⟩, by simp [intOf]; omega⟩
        · obtain rfl : k = M := by omega
          obtain rfl : cM = c := HCM.out.symm.trans HCC.out
          have hlt : ¬ (l : Int) < ((cM + D : Nat) : Int) - (cM : Int) := by rw [HLL.out] at hD1; omega
          clear hm2
          go_wp2_with (go_at_call 150; refine (HL.out _).mono ?_; rintro e w' ⟨rfl, rfl⟩)
          go_ret3
          rw [show (cM : Int) + (D : Int) - (cM : Int) = (D : Int) by omega]
          exact ⟨rfl, rfl⟩
end Go.Proofs.YtklmbiekpilkhaaGreatDoor.dat
