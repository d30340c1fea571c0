/- The law on reading sets. -/
import Derived.Test.YtmooeadeihgbdaaSqH
import Derived.Test.YtmooeadeihgbdaaSqK
namespace Go.Proofs.Ytmooeadeihgbdaa.sq
open Go.ChangeShapes Go.WideShapes Go.ChangeAt Go.RowKit
open Go.Proofs.Ytmooeadeihgbdaa.row
set_option linter.unusedVariables false
set_option maxRecDepth 100000
set_option linter.unusedSimpArgs false

set_option maxHeartbeats 2000000 in
theorem parses_walk (W : World) (s : ByteArray) (hr : Room W) :
    Calls Try.prog 3 #[.string s] W fun e w' => e = .returned (.bool true) ∧ Below W.heap.size W w' := by
  have HW := Lib.hid (awake_any W hr)
  have Hr := Lib.hid hr
  clear hr
  by_cases hm : s.size ≤ 2000
  · have q1 : decide ((2000 : Int) < (s.size : Int)) = false := decide_eq_false (by omega)
    have HM := Lib.hid (show s.size ≤ 1000000 by omega)
    clear hm
    go_enter Try.func3, Try.ntmps3
    go_wp2_with fail
    refine HW.out.mono ?_
    rintro e w1 ⟨rfl, hb⟩
    have HB1 := Lib.hid hb
    have HP := Lib.hid (parse_any w1 s HM.out (Hr.out.below hb))
    clear hb
    go_wp2_with fail
    refine HP.out.mono ?_
    rintro e w2 ⟨hb, ha⟩
    have HB2 := Lib.hid (HB1.out.trans (hb.mono HB1.out.size))
    have HS := Lib.hid (rset_any w2 s HM.out)
    clear hb
    have HLn := Lib.hid (fun xs (h : setL s.data.toList = some xs) => setL_length h)
    generalize setL s.data.toList = o at *
    rcases ha with ⟨rfl, rfl⟩ | ⟨xs, A, c, rfl, rfl, hR⟩
    · go_wp2_with fail
      refine HS.out.mono ?_
      rintro e w3 ⟨hb, ha⟩
      have HB3 := Lib.hid (HB2.out.trans (hb.mono HB2.out.size))
      rcases ha with ⟨_, rfl⟩ | ⟨xs, A, c, h, _⟩
      · clear hb q1
        go_wp2_with fail
        go_loopw [38] (fun i wr => i = .int .i64 0 ∧ Hid (Below W.heap.size W wr)) (fun i _ => 0)
        case atStart => exact ⟨rfl, HB3⟩
        case round =>
          obtain ⟨rfl, HB⟩ := hrel
          go_wp2_with fail
          go_ret
          exact ⟨rfl, HB.out⟩
      · cases h
    · have HR := Lib.hid hR
      clear hR
      obtain ⟨n, hn⟩ : ∃ n, n = xs.length := ⟨_, rfl⟩
      have HN := Lib.hid hn
      rw [← hn]
      clear hn
      go_wp2_with fail
      refine HS.out.mono ?_
      rintro e w3 ⟨hb, ha⟩
      have HB3 := Lib.hid (HB2.out.trans (hb.mono HB2.out.size))
      rcases ha with ⟨h, _⟩ | ⟨ys, B, c2, h, rfl, hR⟩
      · cases h
      · cases h
        have HR1 := Lib.hid (show Rd cX 2 w3 A n xs by rw [HN.out]; exact HR.out.below hb)
        rw [← HN.out] at hR
        have HR2 := Lib.hid hR
        have HL : Hid (n ≤ 1000000) := Lib.hid (by have := HLn.out xs rfl; have := HN.out; omega)
        rw [← HN.out]
        clear hb hR q1
        go_wp2_with fail
        go_loopw [38] (fun i wr => ∃ k : Nat, k ≤ n ∧ i = .int .i64 k ∧ Hid (Below w3.heap.size w3 wr)) (fun i _ => n - (intOf i).toNat)
        case atStart => exact ⟨0, Nat.zero_le _, rfl, Lib.hid (Below.refl _ _)⟩
        case round =>
          obtain ⟨k, hk, rfl, HB⟩ := hrel
          by_cases hlt : k < n
          · obtain ⟨b, o, ⟨f, t⟩, rfl, hx, c0, c1⟩ := atX (HR1.out.below HB.out) k hlt
            obtain ⟨b2, o2, y, rfl, hy, d0, d1⟩ := atX (HR2.out.below HB.out) k hlt
            rw [hx] at hy
            cases hy
            have hlt' : (k : Int) < (n : Int) := by omega
            have hn6 := HL.out
            simp only at c0 c1 d0 d1
            clear hx
            go_wp2_with fail
            go_quiet (fail)
            clear c0 c1 d0 d1
            obtain ⟨w4, hw4⟩ : ∃ w4, w4 = wr.drewN nq := ⟨_, rfl⟩
            rw [← hw4]
            have HB4 := Lib.hid (show Below w3.heap.size w3 w4 by rw [hw4]; exact codec.below_draws HB.out nq)
            clear hw4
            go_wp2_with fail
            go_roundw
            case rel => first | exact ⟨k + 1, by omega, by go_num, HB4⟩ | ((repeat apply Exists.intro); exact ⟨⟨k + 1, by omega, by go_num, HB4⟩, rfl⟩)
            case measure => (show n - ((k : Int) + 1).toNat < n - k; omega)
          · obtain rfl : k = n := by omega
            go_wp2_with fail
            go_ret
            exact ⟨rfl, HB3.out.trans (HB.out.mono HB3.out.size)⟩
  · have q1 : decide ((2000 : Int) < (s.size : Int)) = true := decide_eq_true (by omega)
    clear hm
    go_enter Try.func3, Try.ntmps3
    go_wp2_with fail
    refine HW.out.mono ?_
    rintro e w1 ⟨rfl, hb⟩
    have HB1 := Lib.hid hb
    have HW1 := Lib.hid (awake_any w1 (Hr.out.below hb))
    clear hb
    go_wp2_with fail
    refine HW1.out.mono ?_
    rintro e w2 ⟨rfl, hb⟩
    have HB2 := Lib.hid (HB1.out.trans (hb.mono HB1.out.size))
    clear hb
    go_wp2_with fail
    go_ret
    exact ⟨rfl, HB2.out⟩
end Go.Proofs.Ytmooeadeihgbdaa.sq
