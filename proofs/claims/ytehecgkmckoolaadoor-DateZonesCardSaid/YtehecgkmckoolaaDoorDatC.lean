/- Letters in any case and digits, as the document reads them. -/
import Derived.Test.YtehecgkmckoolaaDoorDatB
import Derived.Test.YtehecgkmckoolaaDoorDatN
namespace Go.Proofs.YtehecgkmckoolaaDoor.dat
open Go.ChangeShapes Go.WideShapes Go.ChangeAt Go.RowKit
open Go.Lib (dg itoa byteCells strCells)
set_option linter.unusedVariables false
set_option linter.unusedSimpArgs false

theorem small_any (w : World) (c : Nat) (hc : c < 256) :
    Calls Tryd.prog 39 #[.int .u8 (c : Nat)] w fun e w' => e = .returned (.int .u8 (low c : Nat)) ∧ w' = w := by
  unfold low
  by_cases h : 65 ≤ c ∧ c ≤ 90
  · rw [if_pos h]
    go_enter Tryd.func39, Tryd.ntmps39
    go_wp2
    go_ret
    exact ⟨by congr 1, rfl⟩
  · rw [if_neg h]
    go_enter Tryd.func39, Tryd.ntmps39
    go_wp2
    all_goals first | (exfalso; omega) | (go_ret; exact ⟨rfl, rfl⟩)

/-- The world has drawn, and nothing else. -/
def Drew (w w' : World) : Prop := ∃ n, w' = w.drewN n
theorem Drew.refl (w : World) : Drew w w := ⟨0, rfl⟩
theorem Drew.drewN {w w' : World} (h : Drew w w') (q : Nat) : Drew w (w'.drewN q) := by
  obtain ⟨n, rfl⟩ := h
  exact ⟨n + q, by rw [World.drewN_drewN]⟩
theorem Drew.below {w w' : World} (h : Drew w w') (B : Nat) : Below B w w' := by
  obtain ⟨n, rfl⟩ := h
  exact ⟨rfl, rfl, rfl, Nat.le_refl _, fun _ _ => rfl⟩

set_option maxHeartbeats 1600000 in
theorem alike_any (w : World) (s t : ByteArray) (hs : s.size ≤ 100000) (ht : t.size ≤ 100000) :
    Calls Tryd.prog 31 #[.string s, .string t] w fun e w' => e = .returned (.bool (alike s t)) ∧ Drew w w' := by
  by_cases hst : s.size = t.size
  · have HST := Lib.hid hst
    have hne : ((s.size : Int) != (t.size : Int)) = false := by simp [hst]
    clear hst
    go_enter Tryd.func31, Tryd.ntmps31
    go_wp2
    go_loopw [13] (fun i wr => ∃ k : Nat, k ≤ s.size ∧ i = .int .i64 k ∧ Hid (∀ j, j < k → (low (byt s j) == low (byt t j)) = true) ∧ Hid (Drew w wr)) (fun i _ => s.size - (intOf i).toNat)
    case atStart => exact ⟨0, Nat.zero_le _, rfl, fun j h => absurd h (Nat.not_lt_zero _), Drew.refl _⟩
    case round =>
      obtain ⟨k, hk, rfl, hh, hd⟩ := hrel
      by_cases hkl : k < s.size
      · have hkt : k < t.size := by have := HST.out; omega
        go_wp2
        have k1 : (0 : Int) ≤ (k : Int) := by omega
        have k2 : (k : Int) < (s.size : Int) := by omega
        have k3 : (k : Int) < (t.size : Int) := by omega
        go_quiet ((go_at_call 39; exact Calls.quiet_of_same (small_any _ _ (UInt8.toNat_lt _))))
        simp only [byt_at]
        cases hb : (low (byt s k) == low (byt t k))
        · have hb' : (((low (byt s k) : Nat) : Int) != ((low (byt t k) : Nat) : Int)) = true := by
            rw [bne_iff_ne]
            simp at hb
            omega
          go_wp2
          go_ret
          rw [alike_false s t k hkl hb]
          exact ⟨rfl, hd.out.drewN _⟩
        · have hb' : (((low (byt s k) : Nat) : Int) != ((low (byt t k) : Nat) : Int)) = false := by
            simp at hb
            simp [hb]
          have HB := Lib.hid hb
          clear hb
          go_wp2
          refine ⟨⟨k + 1, hkl, by simp, fun j hj => ?_, hd.out.drewN _⟩, by simp [intOf]; omega⟩
          rcases Nat.lt_succ_iff_lt_or_eq.1 hj with h' | rfl
          · exact hh.out j h'
          · exact HB.out
      · go_wp2
        go_ret
        rw [alike_true s t HST.out fun j hj => hh.out j (by omega)]
        exact ⟨rfl, hd.out⟩
  · rw [alike_size s t hst]
    go_enter Tryd.func31, Tryd.ntmps31
    go_wp2
    all_goals first | (exfalso; omega) | (go_ret; exact ⟨rfl, Drew.refl _⟩)

def numI : Option Nat → Int
  | some v => v
  | none => -1
set_option maxHeartbeats 1600000 in
theorem number_any (w : World) (s : ByteArray) (n : Nat) (hs : s.size = n) (hn : n ≤ 4) :
    Calls Tryd.prog 32 #[.string s] w fun e w' => e = .returned (.int .i64 (numI (digs s 0 n))) ∧ w' = w := by
  subst hs
  go_enter Tryd.func32, Tryd.ntmps32
  go_wp2
  go_loop [3, 7] (fun x i => ∃ k v : Nat, k ≤ s.size ∧ i = .int .i64 k ∧ x = .int .i64 v ∧ v < 10000 ∧ Hid (digs s 0 k = some v)) (fun _ i => s.size - (intOf i).toNat)
  case atStart => exact ⟨0, 0, Nat.zero_le _, rfl, rfl, by omega, rfl⟩
  case round =>
    obtain ⟨k, v, hk, rfl, rfl, hv, hd⟩ := hrel
    by_cases hkl : k < s.size
    · have hv3 : v < 1000 := Nat.lt_of_lt_of_le (digs_lt s 0 k v hd.out) (Nat.le_trans (Nat.pow_le_pow_right (by omega) (show k ≤ 3 by omega)) (by decide))
      obtain ⟨c, hc⟩ : ∃ c, byt s k = c := ⟨_, rfl⟩
      have hc256 : c < 256 := hc ▸ byt_lt s k
      have e1 : (s[k]).toNat = c := by rw [byt_at]; exact hc
      have hbad : digB c = false → digs s 0 s.size = none := fun h => digs_bad s 0 s.size k hkl (by rw [Nat.zero_add, hc]; exact h)
      have hgood : digB c = true → digs s 0 (k + 1) = some (10 * v + (c - 48)) := fun h => by
        simp only [digs]
        rw [hd.out, Nat.zero_add, hc]
        simp [h]
      have HB := Lib.hid hbad
      have HG := Lib.hid hgood
      clear hbad hgood hc
      go_wp2
      all_goals first
        | (go_ret
           rw [HB.out (by simp [digB] at *; omega)]
           exact ⟨rfl, rfl⟩)
        | (refine ⟨⟨k + 1, 10 * v + (c - 48), hkl, by simp, ?_, by omega, HG.out (by simp [digB] at *; omega)⟩, by simp [intOf]; omega⟩
           congr 1
           omega)
    · obtain rfl : k = s.size := by omega
      go_wp2
      go_ret
      rw [hd.out]
      exact ⟨rfl, rfl⟩
end Go.Proofs.YtehecgkmckoolaaDoor.dat
