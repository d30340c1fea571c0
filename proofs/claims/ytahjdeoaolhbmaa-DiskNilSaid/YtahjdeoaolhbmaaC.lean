/- The law DiskNil returns true, whatever the act is, and changes nothing that was there. -/
import Derived.Test.YtahjdeoaolhbmaaB
namespace Go.Proofs.Ytahjdeoaolhbmaa.diskNil
open Go.ChangeShapes Go.WideShapes Go.ChangeAt Go.RowKit Go.Maps Go.WideMaps Go.WideElems
set_option linter.unusedVariables false

set_option maxHeartbeats 2000000 in
theorem walk_low (w : World) (k at_ : Int) (A B : ByteArray) (da ka : Option Addr) (dl dc kl kc : Nat) (h0 : 0 ≤ k) (h6 : k ≤ 6) :
    Calls Try.prog 6 #[.agg #[.int .u8 k, .string A, .string B, .int .i64 at_, .slice da dl dc, .slice ka kl kc]] w fun e w' => e = .returned (.bool true) ∧ Below w.heap.size w w' := by
  go_enter Try.func6, Try.ntmps6
  go_wp2_with fail
  refine (awake_any _).mono ?_; rintro e w1 ⟨rfl, hb⟩
  obtain ⟨hc, hf⟩ := bcell hb
  go_wp2_with fail
  refine (few_one _ _ A B (.int .u8 k) (.int .i64 at_) da ka dl dc kl kc ?_ ?_ ?_ ?_).mono ?_
  all_goals try (go_simp; done)
  rintro e w2 ⟨x, n, rfl, rfl⟩
  have hz : w.heap.size < w1.heap.size := by have := hb.size; simp at this; omega
  cases x
  · go_wp2_with fail
    refine (awake_any _).mono ?_; rintro e w3 ⟨rfl, hb2⟩
    go_wp2_with fail
    go_ret
    refine ⟨rfl, ?_⟩
    exact ((Below.refl _ _).alloc (Nat.le_refl _) _).trans (hb.mono (by simp)) |>.alloc (by omega) _ |> fun h => (below_drewN h n).trans (hb2.mono (by simp; omega))
  · go_wp2_with fail
    refine (do_nil_low _ k at_ A B (.slice da dl dc) (.slice ka kl kc) h0 h6).mono ?_; rintro e w3 ⟨rfl, hb3⟩
    obtain ⟨hc3, hf3⟩ := bcell hb3
    go_wp2_with fail
    refine (read_nil _ A).mono ?_; rintro e w4 ⟨rfl, hb4⟩
    obtain ⟨hc4, hf4⟩ := bcell hb4
    have hz3 : w1.heap.size < w3.heap.size := by have := hb3.size; simp at this; omega
    have hz5 : w.heap.size < w3.heap.size := by omega
    have hz4 : w3.heap.size ≤ w4.heap.size := hb4.size
    have hz6 : w.heap.size < w4.heap.size := by omega
    go_wp2_with (first | (go_at_call 15; refine (names_nil _).mono ?_; rintro e w5 ⟨rfl, rfl⟩) | (go_at_call 16; refine (room_nil _).mono ?_; rintro e w5 ⟨rfl, rfl⟩) | (go_at_call 18; refine (safe_nil _ _).mono ?_; rintro e w5 ⟨rfl, rfl⟩) | (go_at_call 20; refine (lost_nil _).mono ?_; rintro e w5 ⟨rfl, rfl⟩) | (go_at_call 14; refine (clone_nil _).mono ?_; rintro e w5 ⟨rfl, rfl⟩))
    go_ret
    refine ⟨rfl, ?_⟩
    exact ((Below.refl _ _).alloc (Nat.le_refl _) _).trans (hb.mono (by simp)) |>.alloc (by omega) _ |> fun h => ((below_drewN h n).trans (hb3.mono (by simp; omega))).trans (hb4.mono (by omega))
set_option maxHeartbeats 2000000 in
theorem walk_high (w : World) (k at_ : Int) (A B : ByteArray) (da ka : Option Addr) (dl dc kl kc : Nat) (h6 : 6 < k) :
    Calls Try.prog 6 #[.agg #[.int .u8 k, .string A, .string B, .int .i64 at_, .slice da dl dc, .slice ka kl kc]] w fun e w' => e = .returned (.bool true) ∧ Below w.heap.size w w' := by
  go_enter Try.func6, Try.ntmps6
  go_wp2_with fail
  refine (awake_any _).mono ?_; rintro e w1 ⟨rfl, hb⟩
  obtain ⟨hc, hf⟩ := bcell hb
  go_wp2_with fail
  refine (few_one _ _ A B (.int .u8 k) (.int .i64 at_) da ka dl dc kl kc ?_ ?_ ?_ ?_).mono ?_
  all_goals try (go_simp; done)
  rintro e w2 ⟨x, n, rfl, rfl⟩
  have hz : w.heap.size < w1.heap.size := by have := hb.size; simp at this; omega
  cases x
  · go_wp2_with fail
    refine (awake_any _).mono ?_; rintro e w3 ⟨rfl, hb2⟩
    go_wp2_with fail
    go_ret
    refine ⟨rfl, ?_⟩
    exact ((Below.refl _ _).alloc (Nat.le_refl _) _).trans (hb.mono (by simp)) |>.alloc (by omega) _ |> fun h => (below_drewN h n).trans (hb2.mono (by simp; omega))
  · go_wp2_with fail
    refine (do_nil_high _ k at_ A B (.slice da dl dc) (.slice ka kl kc) h6).mono ?_; rintro e w3 ⟨rfl, hb3⟩
    obtain ⟨hc3, hf3⟩ := bcell hb3
    go_wp2_with fail
    refine (read_nil _ A).mono ?_; rintro e w4 ⟨rfl, hb4⟩
    obtain ⟨hc4, hf4⟩ := bcell hb4
    have hz3 : w1.heap.size < w3.heap.size := by have := hb3.size; simp at this; omega
    have hz5 : w.heap.size < w3.heap.size := by omega
    have hz4 : w3.heap.size ≤ w4.heap.size := hb4.size
    have hz6 : w.heap.size < w4.heap.size := by omega
    go_wp2_with (first | (go_at_call 15; refine (names_nil _).mono ?_; rintro e w5 ⟨rfl, rfl⟩) | (go_at_call 16; refine (room_nil _).mono ?_; rintro e w5 ⟨rfl, rfl⟩) | (go_at_call 18; refine (safe_nil _ _).mono ?_; rintro e w5 ⟨rfl, rfl⟩) | (go_at_call 20; refine (lost_nil _).mono ?_; rintro e w5 ⟨rfl, rfl⟩) | (go_at_call 14; refine (clone_nil _).mono ?_; rintro e w5 ⟨rfl, rfl⟩))
    go_ret
    refine ⟨rfl, ?_⟩
    exact ((Below.refl _ _).alloc (Nat.le_refl _) _).trans (hb.mono (by simp)) |>.alloc (by omega) _ |> fun h => ((below_drewN h n).trans (hb3.mono (by simp; omega))).trans (hb4.mono (by omega))
end Go.Proofs.Ytahjdeoaolhbmaa.diskNil
