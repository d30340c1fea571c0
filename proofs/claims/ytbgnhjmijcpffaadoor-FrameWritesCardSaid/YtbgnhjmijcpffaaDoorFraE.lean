/- The law on frames that are written, walked. -/
import Derived.Test.YtbgnhjmijcpffaaDoorFraD
namespace Go.Proofs.YtbgnhjmijcpffaaDoor.frm
open Go.ChangeShapes Go.WideShapes Go.ChangeAt Go.RowKit
open Go.Proofs.YtbgnhjmijcpffaaDoor.codec (Bytes vals vals_append vals_length vals_one OutIs More Made New bytesOf byteAt bytesOf_length bytesOf_lt Fits strOf)
set_option linter.unusedVariables false
set_option maxRecDepth 100000
set_option linter.unusedSimpArgs false

set_option maxHeartbeats 1000000 in
theorem writes_walk (W : World) (k : Int) (n c : Nat) (A : Option Addr) (p : List Nat) (hB : Bytes W A n p) (hn : n ≤ maxLen) (hc : n ≤ c) (hA : A = none → c = 0) (hL : sumDoor.Laid W) :
    Calls Tryd.prog 3 #[.int .i64 k, .slice A n c] W fun e w' => e = .returned (.bool true) ∧ Below W.heap.size W w' := by
  unfold maxLen at hn
  have HB := Lib.hid hB
  have HN := Lib.hid hA
  have HL := Lib.hid hL
  have HW := Lib.hid (awake_any W hL)
  clear hB hA hL
  by_cases h4 : 40000 < n
  · go_enter Tryd.func3, Tryd.ntmps3
    go_wp2_with fail
    refine HW.out.mono ?_
    rintro e w1 ⟨rfl, hb⟩
    have HB1 := Lib.hid hb
    have HW1 := Lib.hid (awake_any w1 (HL.out.below HL.out.lt hb))
    clear hb
    go_wp2_with fail
    refine HW1.out.mono ?_
    rintro e w2 ⟨rfl, hb⟩
    have HB2 := Lib.hid hb
    clear hb
    go_wp2_with fail
    go_ret
    exact ⟨rfl, HB1.out.trans (HB2.out.mono HB1.out.size)⟩
  · by_cases hk : 1 ≤ k ∧ k ≤ 3
    · obtain ⟨h1, h3⟩ := hk
      obtain ⟨m, rfl⟩ := Int.eq_ofNat_of_zero_le (show 0 ≤ k by omega)
      by_cases hl : 30000 < n
      · go_enter Tryd.func3, Tryd.ntmps3
        go_wp2_with fail
        refine HW.out.mono ?_
        rintro e w1 ⟨rfl, hb⟩
        have HB1 := Lib.hid hb
        clear hb
        go_wp2_with (go_at_call 8; refine (frame_long w1 m n c A (by omega) (by omega) hl).mono ?_; rintro e w2 ⟨rfl, rfl⟩)
        go_ret
        exact ⟨rfl, HB1.out⟩
      · exact writes_good W m n c A p (by omega) (by omega) HB.out (by omega) hc HN.out HL.out
    · go_enter Tryd.func3, Tryd.ntmps3
      go_wp2_with fail
      refine HW.out.mono ?_
      rintro e w1 ⟨rfl, hb⟩
      have HB1 := Lib.hid hb
      have HK := Lib.hid hk
      clear hb
      by_cases hk1 : k < 1
      · clear hk
        go_wp2_with (go_at_call 8; refine (frame_arg w1 k n c A HK.out).mono ?_; rintro e w2 ⟨rfl, rfl⟩)
        go_ret
        exact ⟨rfl, HB1.out⟩
      · have hk3 : 3 < k := by omega
        clear hk
        go_wp2_with (go_at_call 8; refine (frame_arg w1 k n c A HK.out).mono ?_; rintro e w2 ⟨rfl, rfl⟩)
        go_ret
        exact ⟨rfl, HB1.out⟩
end Go.Proofs.YtbgnhjmijcpffaaDoor.frm
