/- What a cut answers is what the document says. -/
import Derived.Test.YthofgpddfnajiaaDoorHedK
import Derived.Test.YthofgpddfnajiaaDoorHedC
import Derived.Test.YthofgpddfnajiaaDoorHedE
namespace Go.Proofs.YthofgpddfnajiaaDoor.hd
open Go.ChangeShapes Go.WideShapes Go.ChangeAt Go.RowKit
open Go.Proofs.YthofgpddfnajiaaDoor.codec (Bytes vals)
set_option linter.unusedVariables false
set_option maxRecDepth 100000
set_option linter.unusedSimpArgs false

set_option maxHeartbeats 4000000 in
theorem cuts_walk (W : World) (A : Option Addr) (n c : Nat) (l : List Nat) (hB : Bytes W A n l) (hnc : n ≤ c) (hA : A = none → c = 0) (hr : Room W) :
    Calls Tryd.prog 3 #[.slice A n c] W fun e w' => e = .returned (.bool true) ∧ Below W.heap.size W w' := by
  have HW := Lib.hid (awake_any W hr)
  have HS := Lib.hid (show Sl W A n c l from ⟨hB, hnc, trivial, hA⟩)
  have HR := Lib.hid hr
  clear hB hA hr
  by_cases hn : n ≤ 10000
  · have q1 : decide ((10000 : Int) < (n : Int)) = false := decide_eq_false (by omega)
    have HN := Lib.hid hn
    have HL := Lib.hid HS.out.1.1
    clear hn
    go_enter Tryd.func3, Tryd.ntmps3
    go_wp2_with fail
    refine HW.out.mono ?_
    rintro e w1 ⟨rfl, hb1⟩
    have HB1 := Lib.hid hb1
    have HC := Lib.hid (headCut_any w1 A n c l (HS.out.below hb1) (by have := HN.out; omega) (HR.out.below hb1))
    clear hb1
    go_wp2_with fail
    refine HC.out.mono ?_
    rintro e w2 ⟨G, k, H, j, rfl, hG, hH, hb2⟩
    have hpn := headN_le l
    have HB2 := Lib.hid (HB1.out.trans (hb2.mono HB1.out.size))
    have HG := Lib.hid hG
    have HH := Lib.hid hH
    have HD := Lib.hid (refHead_any w2 A n c l (HS.out.below HB2.out) HN.out)
    unfold HeadAns at HD
    obtain ⟨p, hp⟩ : ∃ p, p = headN l := ⟨_, rfl⟩
    obtain ⟨m, hm⟩ : ∃ m, m = l.length - headN l := ⟨_, rfl⟩
    rw [← hm] at HH ⊢
    rw [← hp] at HG HH HD ⊢
    rw [← hp, HL.out] at hm
    rw [← hp, HL.out] at hpn
    have HM := Lib.hid hm
    clear hG hH hb2 hp hm
    go_wp2_with fail
    refine HD.out.mono ?_
    rintro e w6 ⟨u, rfl, hb6⟩
    have HB6 := Lib.hid (HB2.out.trans (hb6.mono HB2.out.size))
    have HG6 := Lib.hid (HG.out.below HG.out.lt hb6)
    have HH6 := Lib.hid (HH.out.below HH.out.lt hb6)
    have HA6 := Lib.hid ((HS.out.below HB6.out).part p hpn)
    have HR6 := Lib.hid ((HS.out.below HB6.out).rest p hpn)
    obtain ⟨T1, hT1⟩ : ∃ T1, T1 = strOf (l.take p) := ⟨_, rfl⟩
    obtain ⟨T2, hT2⟩ : ∃ T2, T2 = strOf (l.drop p) := ⟨_, rfl⟩
    have HT1 := Lib.hid hT1
    have HT2 := Lib.hid hT2
    clear hb6 hT1 hT2 q1
    go_wp2_with fail
    have b1 : (0 : Int) ≤ (p : Int) := by omega
    have b2 : (p : Int) ≤ (c : Int) := by omega
    have b3 : (p : Int) ≤ (n : Int) := by omega
    have b4 : (n : Int) ≤ (c : Int) := by omega
    cases A with
    | none =>
      obtain rfl : c = 0 := HS.out.2.2.2 rfl
      obtain rfl : n = 0 := by omega
      obtain rfl : p = 0 := by omega
      rw [if_pos rfl] at HR6
      obtain rfl : l = [] := List.eq_nil_of_length_eq_zero HL.out
      have HTT := Lib.hid (show T2 = T1 from HT2.out.trans HT1.out.symm)
      have t1 : ∀ q, (convert 22 9 (.slice G 0 k)).run Tryd.prog (w6.drewN q) = .ok (.string T1) (w6.drewN q) := fun q => by rw [HT1.out]; exact Bytes.text (HG6.out.drewN q) _
      have t2 : ∀ q, (convert 22 9 (.slice H m j)).run Tryd.prog (w6.drewN q) = .ok (.string T2) (w6.drewN q) := fun q => by rw [HT2.out]; exact Bytes.text (HH6.out.drewN q) _
      have t3 : ∀ q, (convert 22 9 (.slice none 0 0)).run Tryd.prog (w6.drewN q) = .ok (.string T1) (w6.drewN q) := fun q => by rw [HT1.out]; exact Bytes.text ((HA6.out.1).drewN q) _
      have t4 : ∀ q, (convert 22 9 (.slice none 0 0)).run Tryd.prog (w6.drewN q) = .ok (.string T2) (w6.drewN q) := fun q => by rw [HT2.out]; exact Bytes.text ((HR6.out.1).drewN q) _
      go_quiet (fail)
      go_wp2_with fail
      go_ret
      exact ⟨by simp [HTT.out], codec.below_draws HB6.out _⟩
    | some ad =>
      by_cases hcp : c = p
      · subst hcp
        obtain rfl : n = c := by omega
        rw [if_pos rfl, Nat.sub_self] at HR6
        have t1 : ∀ q, (convert 22 9 (.slice G n k)).run Tryd.prog (w6.drewN q) = .ok (.string T1) (w6.drewN q) := fun q => by rw [HT1.out]; exact Bytes.text (HG6.out.drewN q) _
        have t2 : ∀ q, (convert 22 9 (.slice H m j)).run Tryd.prog (w6.drewN q) = .ok (.string T2) (w6.drewN q) := fun q => by rw [HT2.out]; exact Bytes.text (HH6.out.drewN q) _
        have t3 : ∀ q, (convert 22 9 (.slice (some ad) n n)).run Tryd.prog (w6.drewN q) = .ok (.string T1) (w6.drewN q) := fun q => by rw [HT1.out]; exact Bytes.text ((HA6.out.1).drewN q) _
        have t4 : ∀ q, (convert 22 9 (.slice (some ad) 0 0)).run Tryd.prog (w6.drewN q) = .ok (.string T2) (w6.drewN q) := fun q => by rw [HT2.out]; exact Bytes.text ((HR6.out.1).drewN q) _
        go_quiet (fail)
        go_wp2_with fail
        go_ret
        exact ⟨by simp, codec.below_draws HB6.out _⟩
      · have hcp' : ¬ ((c : Int) = (p : Int)) := by omega
        rw [if_neg hcp] at HR6
        have t1 : ∀ q, (convert 22 9 (.slice G p k)).run Tryd.prog (w6.drewN q) = .ok (.string T1) (w6.drewN q) := fun q => by rw [HT1.out]; exact Bytes.text (HG6.out.drewN q) _
        have t2 : ∀ q, (convert 22 9 (.slice H m j)).run Tryd.prog (w6.drewN q) = .ok (.string T2) (w6.drewN q) := fun q => by rw [HT2.out]; exact Bytes.text (HH6.out.drewN q) _
        have t3 : ∀ q, (convert 22 9 (.slice (some ad) p c)).run Tryd.prog (w6.drewN q) = .ok (.string T1) (w6.drewN q) := fun q => by rw [HT1.out]; exact Bytes.text ((HA6.out.1).drewN q) _
        have t4 : ∀ q, (convert 22 9 (.slice (some (ad.add p)) (n - p) (c - p))).run Tryd.prog (w6.drewN q) = .ok (.string T2) (w6.drewN q) := fun q => by rw [HT2.out]; exact Bytes.text ((HR6.out.1).drewN q) _
        go_quiet (fail)
        go_wp2_with fail
        go_ret
        exact ⟨by simp, codec.below_draws HB6.out _⟩
  · have q1 : decide ((10000 : Int) < (n : Int)) = true := decide_eq_true (by omega)
    clear hn
    go_enter Tryd.func3, Tryd.ntmps3
    go_wp2_with fail
    refine HW.out.mono ?_
    rintro e w1 ⟨rfl, hb1⟩
    have HB1 := Lib.hid hb1
    have HW1 := Lib.hid (awake_any w1 (HR.out.below hb1))
    clear hb1
    go_wp2_with fail
    refine HW1.out.mono ?_
    rintro e w2 ⟨rfl, hb2⟩
    have HB2 := Lib.hid (HB1.out.trans (hb2.mono HB1.out.size))
    clear hb2
    go_wp2_with fail
    go_ret
    exact ⟨rfl, HB2.out⟩
end Go.Proofs.YthofgpddfnajiaaDoor.hd
