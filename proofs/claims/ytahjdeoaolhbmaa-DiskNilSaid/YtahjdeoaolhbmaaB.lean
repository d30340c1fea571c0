/- Few at one act answers some bool, whatever the act is. -/
import Derived.Test.YtahjdeoaolhbmaaA
namespace Go.Proofs.Ytahjdeoaolhbmaa.diskNil
open Go.ChangeShapes Go.WideShapes Go.ChangeAt Go.RowKit Go.Maps Go.WideMaps Go.WideElems
set_option linter.unusedVariables false

def SomeBool (w : World) (e : Ending) (w' : World) : Prop := ∃ (x : Bool) (n : Nat), e = .returned (.bool x) ∧ w' = w.drewN n

set_option maxHeartbeats 1000000 in
theorem few_one (w : World) (b : Nat) (A B : ByteArray) (k : Value) (at_ : Value) (da ka : Option Addr) (dl dc kl kc : Nat)
    (h1 : w.cell? ⟨b, 1, none⟩ = some (.string A)) (h2 : w.cell? ⟨b, 2, none⟩ = some (.string B)) (h4 : w.cell? ⟨b, 4, none⟩ = some (.slice da dl dc)) (h5 : w.cell? ⟨b, 5, none⟩ = some (.slice ka kl kc)) :
    Calls Try.prog 8 #[.slice (some ⟨b, 0, none⟩) 1 1, .int .i64 1] w (SomeBool w) := by
  go_enter Try.func8, Try.ntmps8
  go_wp2
  go_loopw [5, 9] (fun n i wr => ∃ k m : Nat, k ≤ 1 ∧ i = .int .i64 k ∧ wr = w.drewN m ∧ ∃ z : Int, n = .int .i64 z) (fun _ i _ => 1 - (intOf i).toNat)
  case atStart => exact ⟨0, 0, by omega, rfl, rfl, 0, rfl⟩
  case round =>
    obtain ⟨k, m, hk, rfl, rfl, z, rfl⟩ := hrel
    by_cases hlt : k < 1
    · obtain rfl : k = 0 := by omega
      go_wp2
      go_quiet (fail)
      go_wp2
      · go_ret
        exact ⟨false, _, rfl, rfl⟩
      · go_roundw
        case rel => exact ⟨1, _, by omega, rfl, rfl, _, rfl⟩
        case measure => simp [intOf]
    · go_wp2
      go_ret
      exact ⟨true, m, rfl, rfl⟩

set_option maxHeartbeats 1000000 in
theorem do_nil_low (w : World) (k at_ : Int) (A B : ByteArray) (d kp : Value) (h0 : 0 ≤ k) (h6 : k ≤ 6) :
    Calls Try.prog 10 #[.pointer none, .agg #[.int .u8 k, .string A, .string B, .int .i64 at_, d, kp]] w fun e w' => e = .returned (.int .i64 1) ∧ Below w.heap.size w w' := by
  have hk : k = 0 ∨ k = 1 ∨ k = 2 ∨ k = 3 ∨ k = 4 ∨ k = 5 ∨ k = 6 := by omega
  clear h0 h6
  rcases hk with rfl | rfl | rfl | rfl | rfl | rfl | rfl
  all_goals
    go_enter Try.func10, Try.ntmps10
    go_wp2_with (first | (go_at_call 22; refine (append_nil _ _ _).mono ?_; rintro e w1 ⟨rfl, rfl⟩) | (go_at_call 23; refine (rename_nil _ _ _).mono ?_; rintro e w1 ⟨rfl, rfl⟩) | (go_at_call 25; refine (fuse_nil _ _).mono ?_; rintro e w1 ⟨rfl, rfl⟩) | (go_at_call 26; refine (harm_nil _ _ _).mono ?_; rintro e w1 ⟨rfl, rfl⟩) | (go_at_call 21; refine (sync_nil _ _).mono ?_; rintro e w1 ⟨rfl, hb⟩) | (go_at_call 24; refine (remove_nil _ _).mono ?_; rintro e w1 ⟨rfl, hb⟩) | (go_at_call 27; refine (lose_nil _ _).mono ?_; rintro e w1 ⟨rfl, hb⟩))
    go_ret
    exact ⟨rfl, by first | exact (Below.refl _ _).alloc (Nat.le_refl _) _ | exact ((Below.refl _ _).alloc (Nat.le_refl _) _).trans (hb.mono (by simp))⟩

set_option maxHeartbeats 1000000 in
theorem do_nil_high (w : World) (k at_ : Int) (A B : ByteArray) (d kp : Value) (h6 : 6 < k) :
    Calls Try.prog 10 #[.pointer none, .agg #[.int .u8 k, .string A, .string B, .int .i64 at_, d, kp]] w fun e w' => e = .returned (.int .i64 0) ∧ Below w.heap.size w w' := by
  have e0 : (k == 0) = false := beq_eq_false_iff_ne.2 (by omega)
  have e1 : (k == 1) = false := beq_eq_false_iff_ne.2 (by omega)
  have e2 : (k == 2) = false := beq_eq_false_iff_ne.2 (by omega)
  have e3 : (k == 3) = false := beq_eq_false_iff_ne.2 (by omega)
  have e4 : (k == 4) = false := beq_eq_false_iff_ne.2 (by omega)
  have e5 : (k == 5) = false := beq_eq_false_iff_ne.2 (by omega)
  have e6 : (k == 6) = false := beq_eq_false_iff_ne.2 (by omega)
  go_enter Try.func10, Try.ntmps10
  go_wp2_with (go_at_call 19; refine (restart_nil _ _).mono ?_; rintro e w1 ⟨rfl, rfl⟩)
  go_ret
  exact ⟨rfl, (Below.refl _ _).alloc (Nat.le_refl _) _⟩
end Go.Proofs.Ytahjdeoaolhbmaa.diskNil
