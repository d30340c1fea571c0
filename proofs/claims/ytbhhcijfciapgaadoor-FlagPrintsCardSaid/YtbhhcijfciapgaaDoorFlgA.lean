/- How flags are changed, by the program and by the document; the document's names. -/
import Derived.Test.YtbhhcijfciapgaaDoorAlkA
import Derived.Test.YtbhhcijfciapgaaDoorFlgM
namespace Go.Proofs.YtbhhcijfciapgaaDoor.flg
open Go.ChangeShapes Go.WideShapes Go.ChangeAt Go.RowKit Go.Proofs.YtbhhcijfciapgaaDoor.alk
set_option linter.unusedVariables false
set_option linter.unusedSimpArgs false

theorem change_any (w : World) (x y how : Int) :
    Calls Tryd.prog 12 #[.int .i64 x, .int .i64 y, .int .i64 how] w fun e w' => e = .returned (.int .i64 (chgN (five x) (five y) (kind how) : Nat)) ∧ w' = w := by
  by_cases h0 : how = 0
  · subst h0
    show Calls _ _ _ w fun e w' => e = .returned (.int .i64 (five y : Nat)) ∧ w' = w
    go_enter Tryd.func12, Tryd.ntmps12
    go_wp2
    go_ret
    exact ⟨by rw [i64_and31]; rfl, rfl⟩
  · by_cases h1 : how = 1
    · subst h1
      show Calls _ _ _ w fun e w' => e = .returned (.int .i64 (five x ||| five y : Nat)) ∧ w' = w
      go_enter Tryd.func12, Tryd.ntmps12
      go_wp2
      go_ret
      exact ⟨by rw [i64_and31, five_or]; rfl, rfl⟩
    · by_cases h2 : how = 2
      · subst h2
        show Calls _ _ _ w fun e w' => e = .returned (.int .i64 (five x &&& (31 ^^^ five y) : Nat)) ∧ w' = w
        go_enter Tryd.func12, Tryd.ntmps12
        go_wp2
        go_ret
        exact ⟨by rw [i64_and31, five_andNot]; rfl, rfl⟩
      · have e0 : (how == 0) = false := by rw [beq_eq_false_iff_ne]; exact h0
        have e1 : (how == 1) = false := by rw [beq_eq_false_iff_ne]; exact h1
        have e2 : (how == 2) = false := by rw [beq_eq_false_iff_ne]; exact h2
        have hk : kind how = 3 := by simp [kind, h0, h1, h2]
        rw [hk]
        show Calls _ _ _ w fun e w' => e = .returned (.int .i64 (five x : Nat)) ∧ w' = w
        clear hk h0 h1 h2
        go_enter Tryd.func12, Tryd.ntmps12
        go_wp2
        go_ret
        exact ⟨by rw [i64_and31]; rfl, rfl⟩

/-- The five names as an array. -/
theorem index_five (k : Nat) (hk : k < 5) (w : World) :
    (Instr.index 32 (.agg #[.string ⟨#[92, 83, 101, 101, 110]⟩, .string ⟨#[92, 65, 110, 115, 119, 101, 114, 101, 100]⟩, .string ⟨#[92, 70, 108, 97, 103, 103, 101, 100]⟩, .string ⟨#[92, 68, 101, 108, 101, 116, 101, 100]⟩, .string ⟨#[92, 68, 114, 97, 102, 116]⟩]) (.int .i64 (k : Nat))).run Tryd.prog w = .ok (.string (nmS k)) w := by
  rcases five_cases hk with rfl | rfl | rfl | rfl | rfl <;> kernel_rfl
theorem flag_any (w : World) (k : Nat) (hk : k < 5) :
    Calls Tryd.prog 7 #[.int .i64 k] w fun e w' => e = .returned (.string (nmS k)) ∧ w' = w := by
  have hx := index_five k hk
  obtain ⟨s, hs⟩ : ∃ s, nmS k = s := ⟨_, rfl⟩
  rw [hs] at hx ⊢
  clear hs
  go_enter Tryd.func7, Tryd.ntmps7
  go_wp2
  go_ret
  exact ⟨rfl, rfl⟩

theorem bit_and (x : Int) (k : Nat) {b : Bool} (h : bitB x k = b) : bits .and .i64 (x / 2 ^ k) 1 = if b then 1 else 0 := by
  subst h
  rw [i64_and1]
  unfold bitB
  by_cases h : x / 2 ^ k % 2 = 1
  · rw [decide_eq_true h, h]; rfl
  · rw [decide_eq_false h]
    have h1 := Int.emod_nonneg (x / 2 ^ k) (show (2 : Int) ≠ 0 by decide)
    have h2 := Int.emod_lt_of_pos (x / 2 ^ k) (show (0 : Int) < 2 by decide)
    simp only [Bool.false_eq_true, if_false]
    omega
set_option maxHeartbeats 6400000 in
theorem changed_in (w : World) (x y : Int) :
    Calls Tryd.prog 13 #[.int .i64 x, .int .i64 y, .int .i64 0] w fun e w' => e = .returned (.int .i64 (chg x y 0 5 : Nat)) ∧ w' = w := by
  go_enter Tryd.func13, Tryd.ntmps13
  go_wp2
  go_loop [7, 8, 12] (fun n b i => ∃ k : Nat, k ≤ 5 ∧ i = .int .i64 k ∧ b = .int .i64 (2 ^ k : Nat) ∧ n = .int .i64 (chg x y 0 k : Nat)) (fun _ _ i => 5 - (intOf i).toNat)
  case atStart => exact ⟨0, Nat.zero_le _, rfl, rfl, rfl⟩
  case round =>
    obtain ⟨k, hk, rfl, rfl, rfl⟩ := hrel
    by_cases hk5 : k < 5
    · have hd : (2 ^ k : Nat) ≤ 16 := by
        rcases five_cases hk5 with rfl | rfl | rfl | rfl | rfl <;> decide
      have hl := chg_lt x y 0 k
      have hs : chg x y 0 (k + 1) = chg x y 0 k + (if goes 0 (bitB x k) (bitB y k) then 2 ^ k else 0) := rfl
      have hd2 : (2 ^ (k + 1) : Nat) = 2 ^ k * 2 := Nat.pow_succ 2 k
      have hga : ∀ a c, goes 0 a c = goesN (kind 0) a c := goes_kind 0
      rw [hga] at hs
      obtain ⟨d, hd'⟩ : ∃ d : Nat, 2 ^ k = d := ⟨_, rfl⟩
      obtain ⟨n, hn⟩ : ∃ n : Nat, chg x y 0 k = n := ⟨_, rfl⟩
      rw [hd'] at hd hl hs hd2 ⊢
      rw [hn] at hl hs ⊢
      have hX0 := fun b h => bit_and x k (b := b) h
      have hY0 := fun b h => bit_and y k (b := b) h
      cases ha : bitB x k <;> cases hc : bitB y k
      all_goals
        rw [ha, hc] at hs
        have hX := hX0 _ ha
        have hY := hY0 _ hc
        simp only [Bool.false_eq_true, if_true, if_false] at hX hY
        have HS := Lib.hid hs
        have HD := Lib.hid hd2
        clear hs hd2 ha hc hga hn hd' hX0 hY0
        go_wp2
        refine ⟨⟨k + 1, hk5, by simp, ?_, ?_⟩, by simp [intOf]; omega⟩
        · rw [HD.out]; push_cast; rfl
        · rw [HS.out]; first | rfl | (simp [goesN, kind]; done)
    · obtain rfl : k = 5 := by omega
      go_wp2
      go_ret
      exact ⟨rfl, rfl⟩
set_option maxHeartbeats 6400000 in
theorem changed_both (w : World) (x y : Int) :
    Calls Tryd.prog 13 #[.int .i64 x, .int .i64 y, .int .i64 1] w fun e w' => e = .returned (.int .i64 (chg x y 1 5 : Nat)) ∧ w' = w := by
  go_enter Tryd.func13, Tryd.ntmps13
  go_wp2
  go_loop [7, 8, 12] (fun n b i => ∃ k : Nat, k ≤ 5 ∧ i = .int .i64 k ∧ b = .int .i64 (2 ^ k : Nat) ∧ n = .int .i64 (chg x y 1 k : Nat)) (fun _ _ i => 5 - (intOf i).toNat)
  case atStart => exact ⟨0, Nat.zero_le _, rfl, rfl, rfl⟩
  case round =>
    obtain ⟨k, hk, rfl, rfl, rfl⟩ := hrel
    by_cases hk5 : k < 5
    · have hd : (2 ^ k : Nat) ≤ 16 := by
        rcases five_cases hk5 with rfl | rfl | rfl | rfl | rfl <;> decide
      have hl := chg_lt x y 1 k
      have hs : chg x y 1 (k + 1) = chg x y 1 k + (if goes 1 (bitB x k) (bitB y k) then 2 ^ k else 0) := rfl
      have hd2 : (2 ^ (k + 1) : Nat) = 2 ^ k * 2 := Nat.pow_succ 2 k
      have hga : ∀ a c, goes 1 a c = goesN (kind 1) a c := goes_kind 1
      rw [hga] at hs
      obtain ⟨d, hd'⟩ : ∃ d : Nat, 2 ^ k = d := ⟨_, rfl⟩
      obtain ⟨n, hn⟩ : ∃ n : Nat, chg x y 1 k = n := ⟨_, rfl⟩
      rw [hd'] at hd hl hs hd2 ⊢
      rw [hn] at hl hs ⊢
      have hX0 := fun b h => bit_and x k (b := b) h
      have hY0 := fun b h => bit_and y k (b := b) h
      cases ha : bitB x k <;> cases hc : bitB y k
      all_goals
        rw [ha, hc] at hs
        have hX := hX0 _ ha
        have hY := hY0 _ hc
        simp only [Bool.false_eq_true, if_true, if_false] at hX hY
        have HS := Lib.hid hs
        have HD := Lib.hid hd2
        clear hs hd2 ha hc hga hn hd' hX0 hY0
        go_wp2
        refine ⟨⟨k + 1, hk5, by simp, ?_, ?_⟩, by simp [intOf]; omega⟩
        · rw [HD.out]; push_cast; rfl
        · rw [HS.out]; first | rfl | (simp [goesN, kind]; done)
    · obtain rfl : k = 5 := by omega
      go_wp2
      go_ret
      exact ⟨rfl, rfl⟩
set_option maxHeartbeats 6400000 in
theorem changed_less (w : World) (x y : Int) :
    Calls Tryd.prog 13 #[.int .i64 x, .int .i64 y, .int .i64 2] w fun e w' => e = .returned (.int .i64 (chg x y 2 5 : Nat)) ∧ w' = w := by
  go_enter Tryd.func13, Tryd.ntmps13
  go_wp2
  go_loop [7, 8, 12] (fun n b i => ∃ k : Nat, k ≤ 5 ∧ i = .int .i64 k ∧ b = .int .i64 (2 ^ k : Nat) ∧ n = .int .i64 (chg x y 2 k : Nat)) (fun _ _ i => 5 - (intOf i).toNat)
  case atStart => exact ⟨0, Nat.zero_le _, rfl, rfl, rfl⟩
  case round =>
    obtain ⟨k, hk, rfl, rfl, rfl⟩ := hrel
    by_cases hk5 : k < 5
    · have hd : (2 ^ k : Nat) ≤ 16 := by
        rcases five_cases hk5 with rfl | rfl | rfl | rfl | rfl <;> decide
      have hl := chg_lt x y 2 k
      have hs : chg x y 2 (k + 1) = chg x y 2 k + (if goes 2 (bitB x k) (bitB y k) then 2 ^ k else 0) := rfl
      have hd2 : (2 ^ (k + 1) : Nat) = 2 ^ k * 2 := Nat.pow_succ 2 k
      have hga : ∀ a c, goes 2 a c = goesN (kind 2) a c := goes_kind 2
      rw [hga] at hs
      obtain ⟨d, hd'⟩ : ∃ d : Nat, 2 ^ k = d := ⟨_, rfl⟩
      obtain ⟨n, hn⟩ : ∃ n : Nat, chg x y 2 k = n := ⟨_, rfl⟩
      rw [hd'] at hd hl hs hd2 ⊢
      rw [hn] at hl hs ⊢
      have hX0 := fun b h => bit_and x k (b := b) h
      have hY0 := fun b h => bit_and y k (b := b) h
      cases ha : bitB x k <;> cases hc : bitB y k
      all_goals
        rw [ha, hc] at hs
        have hX := hX0 _ ha
        have hY := hY0 _ hc
        simp only [Bool.false_eq_true, if_true, if_false] at hX hY
        have HS := Lib.hid hs
        have HD := Lib.hid hd2
        clear hs hd2 ha hc hga hn hd' hX0 hY0
        go_wp2
        refine ⟨⟨k + 1, hk5, by simp, ?_, ?_⟩, by simp [intOf]; omega⟩
        · rw [HD.out]; push_cast; rfl
        · rw [HS.out]; first | rfl | (simp [goesN, kind]; done)
    · obtain rfl : k = 5 := by omega
      go_wp2
      go_ret
      exact ⟨rfl, rfl⟩
set_option maxHeartbeats 6400000 in
theorem changed_low (w : World) (x y how : Int) (h : how < 0) :
    Calls Tryd.prog 13 #[.int .i64 x, .int .i64 y, .int .i64 how] w fun e w' => e = .returned (.int .i64 (chg x y how 5 : Nat)) ∧ w' = w := by
  have hkd : kind how = 3 := by unfold kind; rw [if_neg (by omega), if_neg (by omega), if_neg (by omega)]
  have e0 : (how == 0) = false := by rw [beq_eq_false_iff_ne]; omega
  have e1 : (how == 1) = false := by rw [beq_eq_false_iff_ne]; omega
  have e2 : (how == 2) = false := by rw [beq_eq_false_iff_ne]; omega
  go_enter Tryd.func13, Tryd.ntmps13
  go_wp2
  go_loop [7, 8, 12] (fun n b i => ∃ k : Nat, k ≤ 5 ∧ i = .int .i64 k ∧ b = .int .i64 (2 ^ k : Nat) ∧ n = .int .i64 (chg x y how k : Nat)) (fun _ _ i => 5 - (intOf i).toNat)
  case atStart => exact ⟨0, Nat.zero_le _, rfl, rfl, rfl⟩
  case round =>
    obtain ⟨k, hk, rfl, rfl, rfl⟩ := hrel
    by_cases hk5 : k < 5
    · have hd : (2 ^ k : Nat) ≤ 16 := by
        rcases five_cases hk5 with rfl | rfl | rfl | rfl | rfl <;> decide
      have hl := chg_lt x y how k
      have hs : chg x y how (k + 1) = chg x y how k + (if goes how (bitB x k) (bitB y k) then 2 ^ k else 0) := rfl
      have hd2 : (2 ^ (k + 1) : Nat) = 2 ^ k * 2 := Nat.pow_succ 2 k
      have hga : ∀ a c, goes how a c = goesN (kind how) a c := goes_kind how
      rw [hga, hkd] at hs
      obtain ⟨d, hd'⟩ : ∃ d : Nat, 2 ^ k = d := ⟨_, rfl⟩
      obtain ⟨n, hn⟩ : ∃ n : Nat, chg x y how k = n := ⟨_, rfl⟩
      rw [hd'] at hd hl hs hd2 ⊢
      rw [hn] at hl hs ⊢
      have hX0 := fun b h => bit_and x k (b := b) h
      have hY0 := fun b h => bit_and y k (b := b) h
      cases ha : bitB x k <;> cases hc : bitB y k
      all_goals
        rw [ha, hc] at hs
        have hX := hX0 _ ha
        have hY := hY0 _ hc
        simp only [Bool.false_eq_true, if_true, if_false] at hX hY
        have HS := Lib.hid hs
        have HD := Lib.hid hd2
        clear hs hd2 ha hc hga hn hd' hX0 hY0
        go_wp2
        refine ⟨⟨k + 1, hk5, by simp, ?_, ?_⟩, by simp [intOf]; omega⟩
        · rw [HD.out]; push_cast; rfl
        · rw [HS.out]; first | rfl | (simp [goesN, kind]; done)
    · obtain rfl : k = 5 := by omega
      go_wp2
      go_ret
      exact ⟨rfl, rfl⟩
set_option maxHeartbeats 6400000 in
theorem changed_high (w : World) (x y how : Int) (h : 2 < how) :
    Calls Tryd.prog 13 #[.int .i64 x, .int .i64 y, .int .i64 how] w fun e w' => e = .returned (.int .i64 (chg x y how 5 : Nat)) ∧ w' = w := by
  have hkd : kind how = 3 := by unfold kind; rw [if_neg (by omega), if_neg (by omega), if_neg (by omega)]
  have e0 : (how == 0) = false := by rw [beq_eq_false_iff_ne]; omega
  have e1 : (how == 1) = false := by rw [beq_eq_false_iff_ne]; omega
  have e2 : (how == 2) = false := by rw [beq_eq_false_iff_ne]; omega
  have e3 : ¬ how < 0 := by omega
  go_enter Tryd.func13, Tryd.ntmps13
  go_wp2
  go_loop [7, 8, 12] (fun n b i => ∃ k : Nat, k ≤ 5 ∧ i = .int .i64 k ∧ b = .int .i64 (2 ^ k : Nat) ∧ n = .int .i64 (chg x y how k : Nat)) (fun _ _ i => 5 - (intOf i).toNat)
  case atStart => exact ⟨0, Nat.zero_le _, rfl, rfl, rfl⟩
  case round =>
    obtain ⟨k, hk, rfl, rfl, rfl⟩ := hrel
    by_cases hk5 : k < 5
    · have hd : (2 ^ k : Nat) ≤ 16 := by
        rcases five_cases hk5 with rfl | rfl | rfl | rfl | rfl <;> decide
      have hl := chg_lt x y how k
      have hs : chg x y how (k + 1) = chg x y how k + (if goes how (bitB x k) (bitB y k) then 2 ^ k else 0) := rfl
      have hd2 : (2 ^ (k + 1) : Nat) = 2 ^ k * 2 := Nat.pow_succ 2 k
      have hga : ∀ a c, goes how a c = goesN (kind how) a c := goes_kind how
      rw [hga, hkd] at hs
      obtain ⟨d, hd'⟩ : ∃ d : Nat, 2 ^ k = d := ⟨_, rfl⟩
      obtain ⟨n, hn⟩ : ∃ n : Nat, chg x y how k = n := ⟨_, rfl⟩
      rw [hd'] at hd hl hs hd2 ⊢
      rw [hn] at hl hs ⊢
      have hX0 := fun b h => bit_and x k (b := b) h
      have hY0 := fun b h => bit_and y k (b := b) h
      cases ha : bitB x k <;> cases hc : bitB y k
      all_goals
        rw [ha, hc] at hs
        have hX := hX0 _ ha
        have hY := hY0 _ hc
        simp only [Bool.false_eq_true, if_true, if_false] at hX hY
        have HS := Lib.hid hs
        have HD := Lib.hid hd2
        clear hs hd2 ha hc hga hn hd' hX0 hY0
        go_wp2
        refine ⟨⟨k + 1, hk5, by simp, ?_, ?_⟩, by simp [intOf]; omega⟩
        · rw [HD.out]; push_cast; rfl
        · rw [HS.out]; first | rfl | (simp [goesN, kind]; done)
    · obtain rfl : k = 5 := by omega
      go_wp2
      go_ret
      exact ⟨rfl, rfl⟩
theorem changed_any (w : World) (x y how : Int) :
    Calls Tryd.prog 13 #[.int .i64 x, .int .i64 y, .int .i64 how] w fun e w' => e = .returned (.int .i64 (chg x y how 5 : Nat)) ∧ w' = w := by
  have hcase : how = 0 ∨ how = 1 ∨ how = 2 ∨ how < 0 ∨ 2 < how := by omega
  rcases hcase with rfl | rfl | rfl | h | h
  · exact changed_in w x y
  · exact changed_both w x y
  · exact changed_less w x y
  · exact changed_low w x y how h
  · exact changed_high w x y how h
end Go.Proofs.YtbhhcijfciapgaaDoor.flg
