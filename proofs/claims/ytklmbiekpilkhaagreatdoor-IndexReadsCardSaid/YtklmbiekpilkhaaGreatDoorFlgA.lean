/- How flags are changed, by the program and by the document; the document's names. -/
import Derived.Test.YtklmbiekpilkhaaGreatDoorAlkA
import Derived.Test.YtklmbiekpilkhaaGreatDoorFlgM
namespace Go.Proofs.YtklmbiekpilkhaaGreatDoor.flg
open Go.ChangeShapes Go.WideShapes Go.ChangeAt Go.RowKit Go.Proofs.YtklmbiekpilkhaaGreatDoor.alk
set_option linter.unusedVariables false
set_option linter.unusedSimpArgs false

theorem change_any (w : World) (x y how : Int) :
    Calls Tryz.prog 102 #[.int .i64 x, .int .i64 y, .int .i64 how] w fun e w' => e = .returned (.int .i64 (chgN (five x) (five y) (kind how) : Nat)) ∧ w' = w := by
  by_cases h0 : how = 0
  · subst h0
    show Calls _ _ _ w fun e w' => e = .returned (.int .i64 (five y : Nat)) ∧ w' = w
    go_enter Tryz.func102, Tryz.ntmps102
    go_wp2
    go_ret
    exact ⟨by rw [i64_and31]; rfl, rfl⟩
  · by_cases h1 : how = 1
    · subst h1
      show Calls _ _ _ w fun e w' => e = .returned (.int .i64 (five x ||| five y : Nat)) ∧ w' = w
      go_enter Tryz.func102, Tryz.ntmps102
      go_wp2
      go_ret
      exact ⟨by rw [i64_and31, five_or]; rfl, rfl⟩
    · by_cases h2 : how = 2
      · subst h2
        show Calls _ _ _ w fun e w' => e = .returned (.int .i64 (five x &&& (31 ^^^ five y) : Nat)) ∧ w' = w
        go_enter Tryz.func102, Tryz.ntmps102
        go_wp2
        go_ret
        exact ⟨by rw [i64_and31, five_andNot]; rfl, rfl⟩
      · have e0 : (how == 0) = false := by rw [beq_eq_false_iff_ne]; exact h0
        have e1 : (how == 1) = false := by rw [beq_eq_false_iff_ne]; exact h1
        have e2 : (how == 2) = false := by rw [beq_eq_false_iff_ne]; exact h2
        have hk : kind how = 3 := by simp [kind, h0, h1, h2]
        rw [hk]
        show Calls _ _ _ w fun e w' => e = .returned (.int .i64 (five x : Nat)) ∧ w' = w
        clear hk h0 h1 h2
        go_enter Tryz.func102, Tryz.ntmps102
        go_wp2
        go_ret
        exact ⟨by rw [i64_and31]; rfl, rfl⟩

theorem bit_and (x : Int) (k : Nat) {b : Bool} (h : bitB x k = b) : bits .and .i64 (x / 2 ^ k) 1 = if b then 1 else 0 := by
  subst h
  rw [i64_and1]
  unfold bitB
  by_cases h : x / 2 ^ k % 2 = 1
  · rw [decide_eq_true h, h]; rfl
  · rw [decide_eq_false h]
    have h1 := Int.emod_nonneg (x / 2 ^ k) (show (2 : Int) ≠ 0 by decide)
    have h2 := Int.emod_lt_of_pos (x / 2 ^ k) (show (0 : Int) < 2 by decide)
    simp only [Bool.false_eq_true, if_false]
    omega
end Go.Proofs.YtklmbiekpilkhaaGreatDoor.flg
