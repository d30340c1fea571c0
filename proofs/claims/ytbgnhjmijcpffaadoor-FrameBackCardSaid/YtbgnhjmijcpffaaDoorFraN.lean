/- The law on frames that are scanned, walked. -/
import Derived.Test.YtbgnhjmijcpffaaDoorFraM
import Derived.Test.YtbgnhjmijcpffaaDoorFraD
namespace Go.Proofs.YtbgnhjmijcpffaaDoor.frm
open Go.ChangeShapes Go.WideShapes Go.ChangeAt Go.RowKit
open Go.Proofs.YtbgnhjmijcpffaaDoor.codec (Bytes vals vals_append vals_length vals_one OutIs More Made New bytesOf byteAt bytesOf_length bytesOf_lt Fits strOf)
set_option linter.unusedVariables false
set_option maxRecDepth 100000
set_option linter.unusedSimpArgs false

set_option maxHeartbeats 1000000 in
theorem scans_walk (W : World) (n c : Nat) (A : Option Addr) (l : List Nat) (hB : Bytes W A n l) (hn : n ≤ maxLen) (hc : n ≤ c) (hL : sumDoor.Laid W) :
    Calls Tryd.prog 4 #[.slice A n c] W fun e w' => e = .returned (.bool true) ∧ Below W.heap.size W w' := by
  unfold maxLen at hn
  have HB := Lib.hid hB
  have HL := Lib.hid hL
  have HW := Lib.hid (awake_any W hL)
  clear hB hL
  by_cases h4 : 20000 < n
  · go_enter Tryd.func4, Tryd.ntmps4
    go_wp2_with fail
    refine HW.out.mono ?_
    rintro e w1 ⟨rfl, hb⟩
    have HB1 := Lib.hid hb
    have HW1 := Lib.hid (awake_any w1 (HL.out.below HL.out.lt hb))
    clear hb
    go_wp2_with fail
    refine HW1.out.mono ?_
    rintro e w2 ⟨rfl, hb⟩
    have HB2 := Lib.hid hb
    clear hb
    go_wp2_with fail
    go_ret
    exact ⟨rfl, HB1.out.trans (HB2.out.mono HB1.out.size)⟩
  · go_enter Tryd.func4, Tryd.ntmps4
    go_wp2_with fail
    refine HW.out.mono ?_
    rintro e w1 ⟨rfl, hb⟩
    have HB1 := Lib.hid hb
    clear hb HW
    go_wp2_with fail
    refine (scan_any w1 A n c l (HB.out.below HB.out.lt HB1.out) hc (by omega) (HL.out.below HL.out.lt HB1.out)).mono ?_
    rintro e w2 ⟨v, torn, rfl, xs, hr, hb, hs⟩
    have HR := Lib.hid hr
    have HB2 := Lib.hid (HB1.out.trans (hb.mono HB1.out.size))
    have HS := Lib.hid hs
    clear hr hb hs
    go_wp2_with fail
    refine (refScan_any w2 A n c l (HB.out.below HB.out.lt HB2.out) hc (by omega)).mono ?_
    rintro e w3 ⟨v', torn', rfl, ys, hr, hb, hs⟩
    have hs2 := hs.symm.trans HS.out
    have ht : torn' = torn := congrArg Prod.snd hs2
    subst ht
    have hmm : xs.map X.r = ys.map X.r := (congrArg Prod.fst hs2).symm
    have hll : ys.length = xs.length := by
      have := congrArg List.length hmm
      simpa using this.symm
    obtain ⟨A1, c1, rfl, hc1, hR1⟩ := (HR.out.below hb).reads
    obtain ⟨A2, c2, rfl, hc2, hR2⟩ := hr.reads
    have hlen : xs.length ≤ 1000000 := by
      have := scan_length l
      rw [HS.out, HB.out.1] at this
      simp at this
      omega
    rw [hll] at hR2 ⊢
    have HSm := Lib.hid (same_any w3 A1 A2 xs.length c1 c2 xs ys hR1 hR2 hmm hlen)
    have HB3 := Lib.hid (HB2.out.trans (hb.mono HB2.out.size))
    clear hr hb hs hs2 hmm hll hR1 hR2 hlen HR HS hc1 hc2
    generalize xs.length = N at *
    go_wp2_with fail
    refine HSm.out.mono ?_
    rintro e w4 ⟨rfl, hb⟩
    have HB4 := Lib.hid hb
    clear hb
    go_wp2_with fail
    go_ret
    exact ⟨rfl, HB3.out.trans (HB4.out.mono HB3.out.size)⟩
end Go.Proofs.YtbgnhjmijcpffaaDoor.frm
