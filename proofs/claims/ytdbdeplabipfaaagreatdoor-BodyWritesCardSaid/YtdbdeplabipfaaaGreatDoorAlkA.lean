/- Letters in any case, as the document reads them. -/
import Derived.Test.YtdbdeplabipfaaaGreatDoorRows
import Derived.Test.YtdbdeplabipfaaaGreatDoorAlkM
import Derived.WalkKit
import Derived.ProofKit
import Derived.OpenShut
import Derived.ShutString
import Derived.ChangeOld
import Derived.Below
import Derived.Outline
import Derived.WalkSpells
import Derived.Lib.Hide
import Derived.Deep.QuietTactic
import Derived.BigQuiet
import Derived.Deep.OwnRows
import Derived.Deep.WholeRow
import Derived.StillTailTactics
import Derived.Deep.RegionLaw
namespace Go.Proofs.YtdbdeplabipfaaaGreatDoor.alk
open Go.ChangeShapes Go.WideShapes Go.ChangeAt Go.RowKit
set_option linter.unusedVariables false
set_option linter.unusedSimpArgs false

theorem small_any (w : World) (c : Nat) (hc : c < 256) :
    Calls Tryz.prog 50 #[.int .u8 (c : Nat)] w fun e w' => e = .returned (.int .u8 (low c : Nat)) ∧ w' = w := by
  unfold low
  by_cases h : 65 ≤ c ∧ c ≤ 90
  · rw [if_pos h]
    go_enter Tryz.func50, Tryz.ntmps50
    go_wp2
    go_ret
    exact ⟨by congr 1, rfl⟩
  · rw [if_neg h]
    go_enter Tryz.func50, Tryz.ntmps50
    go_wp2
    all_goals first | (exfalso; omega) | (go_ret; exact ⟨rfl, rfl⟩)

/-- The world has drawn, and nothing else. -/
def Drew (w w' : World) : Prop := ∃ n, w' = w.drewN n
theorem Drew.refl (w : World) : Drew w w := ⟨0, rfl⟩
theorem Drew.drewN {w w' : World} (h : Drew w w') (q : Nat) : Drew w (w'.drewN q) := by
  obtain ⟨n, rfl⟩ := h
  exact ⟨n + q, by rw [World.drewN_drewN]⟩
theorem Drew.below {w w' : World} (h : Drew w w') (B : Nat) : Below B w w' := by
  obtain ⟨n, rfl⟩ := h
  exact ⟨rfl, rfl, rfl, Nat.le_refl _, fun _ _ => rfl⟩

set_option maxHeartbeats 1600000 in
theorem alike_any (w : World) (s t : ByteArray) (hs : s.size ≤ 100000) (ht : t.size ≤ 100000) :
    Calls Tryz.prog 51 #[.string s, .string t] w fun e w' => e = .returned (.bool (alike s t)) ∧ Drew w w' := by
  by_cases hst : s.size = t.size
  · have HST := Lib.hid hst
    have hne : ((s.size : Int) != (t.size : Int)) = false := by simp [hst]
    clear hst
    go_enter Tryz.func51, Tryz.ntmps51
    go_wp2
    go_loopw [13] (fun i wr => ∃ k : Nat, k ≤ s.size ∧ i = .int .i64 k ∧ Hid (∀ j, j < k → (low (byt s j) == low (byt t j)) = true) ∧ Hid (Drew w wr)) (fun i _ => s.size - (intOf i).toNat)
    case atStart => exact ⟨0, Nat.zero_le _, rfl, fun j h => absurd h (Nat.not_lt_zero _), Drew.refl _⟩
    case round =>
      obtain ⟨k, hk, rfl, hh, hd⟩ := hrel
      by_cases hkl : k < s.size
      · have hkt : k < t.size := by have := HST.out; omega
        go_wp2
        have k1 : (0 : Int) ≤ (k : Int) := by omega
        have k2 : (k : Int) < (s.size : Int) := by omega
        have k3 : (k : Int) < (t.size : Int) := by omega
        go_quiet ((go_at_call 50; exact Calls.quiet_of_same (small_any _ _ (UInt8.toNat_lt _))))
        simp only [byt_at]
        cases hb : (low (byt s k) == low (byt t k))
        · have hb' : (((low (byt s k) : Nat) : Int) != ((low (byt t k) : Nat) : Int)) = true := by
            rw [bne_iff_ne]
            simp at hb
            omega
          go_wp2
          go_ret
          rw [alike_false s t k hkl hb]
          exact ⟨rfl, hd.out.drewN _⟩
        · have hb' : (((low (byt s k) : Nat) : Int) != ((low (byt t k) : Nat) : Int)) = false := by
            simp at hb
            simp [hb]
          have HB := Lib.hid hb
          clear hb
          go_wp2
          refine ⟨⟨k + 1, hkl, by simp, fun j hj => ?_, hd.out.drewN _⟩, by simp [intOf]; omega⟩
          rcases Nat.lt_succ_iff_lt_or_eq.1 hj with h' | rfl
          · exact hh.out j h'
          · exact HB.out
      · go_wp2
        go_ret
        rw [alike_true s t HST.out fun j hj => hh.out j (by omega)]
        exact ⟨rfl, hd.out⟩
  · rw [alike_size s t hst]
    go_enter Tryz.func51, Tryz.ntmps51
    go_wp2
    all_goals first | (exfalso; omega) | (go_ret; exact ⟨rfl, Drew.refl _⟩)

end Go.Proofs.YtdbdeplabipfaaaGreatDoor.alk
