/- What a program that does nothing answers wrongly; the law on frames that are written, walked. -/
import Derived.Test.YtbgnhjmijcpffaaDoorFraC
import Derived.Deep.RegionWith
namespace Go.Proofs.YtbgnhjmijcpffaaDoor.frm
open Go.ChangeShapes Go.WideShapes Go.ChangeAt Go.RowKit
open Go.Proofs.YtbgnhjmijcpffaaDoor.codec (Bytes vals vals_append vals_length vals_one OutIs More Made New bytesOf byteAt bytesOf_length bytesOf_lt Fits strOf)
set_option linter.unusedVariables false
set_option maxRecDepth 100000
set_option linter.unusedSimpArgs false

theorem empty_bytes (w : World) : Bytes w none 0 [] := codec.empty_bytes w
set_option maxHeartbeats 400000 in
theorem awake_any (W : World) (hL : sumDoor.Laid W) : Calls Tryd.prog 7 #[] W fun e w' => e = .returned (.bool true) ∧ Below W.heap.size W w' := by
  have HF := Lib.hid (frame_good W 1 0 0 none [] (by omega) (by omega) (empty_bytes W) (by omega) (by omega) (fun _ => rfl) hL)
  clear hL
  go_enter Tryd.func7, Tryd.ntmps7
  go_wp2_with fail
  refine HF.out.mono ?_
  rintro e w1 ⟨v, rfl, hM⟩
  obtain ⟨g, rfl, hg, hb, hB⟩ := hM.bytes
  rw [show (frameL 1 []).length = 44 by simp [frameL_length]]
  have HBel := Lib.hid hb
  clear hM hb hB hg HF
  go_wp2_with fail
  go_ret
  exact ⟨rfl, HBel.out⟩

theorem Mine.drew {W w : World} {v : Value} {M : List Nat} (h : Mine W.drew v M w) : Mine W v M w := ⟨h.1, h.2.os, h.2.tape, h.2.output, h.2.size, h.2.block⟩
set_option maxHeartbeats 1000000 in
theorem writes_good (W : World) (m n c : Nat) (A : Option Addr) (p : List Nat) (h1 : 1 ≤ m) (h3 : m ≤ 3) (hB : Bytes W A n p) (hn : n ≤ 30000) (hc : n ≤ c) (hA : A = none → c = 0) (hL : sumDoor.Laid W) :
    Calls Tryd.prog 3 #[.int .i64 m, .slice A n c] W fun e w' => e = .returned (.bool true) ∧ Below W.heap.size W w' := by
  have HB := Lib.hid hB
  have HN := Lib.hid hA
  have HL := Lib.hid hL
  have HW := Lib.hid (awake_any W hL)
  clear hB hA hL
  go_enter Tryd.func3, Tryd.ntmps3
  go_wp2_with fail
  refine HW.out.mono ?_
  rintro e w1 ⟨rfl, hb⟩
  have HB1 := Lib.hid hb
  have HF := Lib.hid (frame_good w1 m n c A p (by omega) (by omega) (HB.out.below HB.out.lt hb) (by omega) hc HN.out (HL.out.below HL.out.lt hb))
  clear hb
  go_wp2_with fail
  refine HF.out.mono ?_
  rintro e w2 ⟨v, rfl, hM⟩
  obtain ⟨g, rfl, hg, hb, hBg⟩ := hM.bytes
  have HB2 := Lib.hid (HB1.out.trans (hb.mono HB1.out.size))
  have HR := Lib.hid (refFrame_any w2.drew m n c A p (by omega) (by omega) ((HB.out.below HB.out.lt HB2.out).drewN 1) (by omega) HN.out)
  generalize hN : (frameL m p).length = N at *
  obtain ⟨T, hT⟩ : ∃ T, T = strOf (frameL m p) := ⟨_, rfl⟩
  have c1 : (convert 22 9 (.slice (some ⟨g, 0, none⟩) N N)).run Tryd.prog w2 = .ok (.string T) w2 := by rw [hT]; exact hBg.text N
  have c2 : (convert 22 9 (.slice (some ⟨g, 0, none⟩) N N)).run Tryd.prog w2.drew = .ok (.string T) w2.drew := by rw [hT]; exact (hBg.drewN 1).text N
  have HBg := Lib.hid hBg
  have HNq := Lib.hid hN
  have HTq := Lib.hid hT
  have HN0 : Hid (0 < N) := by show 0 < N; rw [← hN, frameL_length]; omega
  clear hM hb hBg hg HF hN hT
  go_wp2_with fail
  go_region_with (go_at_call 9; refine HR.out.mono ?_; rintro e w3 ⟨v, rfl, hM0⟩; have hM := Mine.drew hM0; clear hM0; obtain ⟨g3, cap3, rfl, hc3, -⟩ := hM.form N HNq.out HN0.out; have HB3 := Lib.hid (HBg.out.below HBg.out.lt hM.2); have c3 := HB3.out.text N; rw [← HTq.out] at c3; have c4 := (hM.bytes HNq.out HBg.out.2.1).text cap3; rw [← HTq.out] at c4; have HM := Lib.hid hM; clear hM)
  all_goals
    go_wp2
    go_ret
    exact ⟨rfl, HB2.out.trans (HM.out.2.mono HB2.out.size)⟩

end Go.Proofs.YtbgnhjmijcpffaaDoor.frm
