/- What a chunk tells is what the document says. -/
import Derived.Test.YtihcgbjmgfgenaaLexO
namespace Go.Proofs.Ytihcgbjmgfgenaa.lx
open Go.ChangeShapes Go.WideShapes Go.ChangeAt Go.RowKit
open Go.Proofs.Ytihcgbjmgfgenaa.codec (Bytes vals)
open Go.Proofs.Ytihcgbjmgfgenaa.row
set_option linter.unusedVariables false
set_option maxRecDepth 100000
set_option linter.unusedSimpArgs false

theorem UR.rd {B : Nat} {w w' : World} {A : Option Addr} {n c : Nat} {us : List U} (h : UR B w (fun _ => False) (.slice A n c) us) (hb : Below w.heap.size w w') : n = us.length ∧ ∃ ys : List Un, Rd cU 2 w' A n ys ∧ ∀ (k : Nat) (y : Un) (u : U), ys[k]? = some y → us[k]? = some u → y.k = u.1 ∧ Sl w' y.A y.n y.c u.2 := by
  obtain ⟨⟨ys, hO, h1, h2⟩, h3⟩ := h
  obtain ⟨A', c', e, -, -, hR⟩ := hO.rd fU
  injection e with e1 e2 e3
  subst e1 e2
  refine ⟨h1, ys, hR.below hb, fun k y u hy hu => ?_⟩
  obtain ⟨g1, g2, -⟩ := h2 k y u hy hu
  exact ⟨g1, g2.1.below g2.1.lt hb, g2.2⟩
set_option maxHeartbeats 4000000 in
theorem feeds_walk (W : World) (A : Option Addr) (n c : Nat) (l : List Nat) (hB : Bytes W A n l) (hnc : n ≤ c) (hA : A = none → c = 0) (A2 : Option Addr) (m d : Nat) (z : List Nat) (hB2 : Bytes W A2 m z) (hmd : m ≤ d) (hA2 : A2 = none → d = 0) :
    Calls Try.prog 3 #[.slice A n c, .slice A2 m d] W fun e w' => e = .returned (.bool true) ∧ Below W.heap.size W w' := by
  have HW := Lib.hid (awake_any W)
  have HS := Lib.hid (show Sl W A n c l from ⟨hB, hnc, trivial, hA⟩)
  have HZ := Lib.hid (show Sl W A2 m d z from ⟨hB2, hmd, trivial, hA2⟩)
  clear hB hA hB2 hA2
  by_cases hsm : n ≤ 20000 ∧ m ≤ 100
  · obtain ⟨hn, hm⟩ := hsm
    have q1 : decide ((20000 : Int) < (n : Int)) = false := decide_eq_false (by omega)
    have q2 : decide ((100 : Int) < (m : Int)) = false := decide_eq_false (by omega)
    have HN := Lib.hid (And.intro hn hm)
    clear hn hm
    go_enter Try.func3, Try.ntmps3
    go_wp2_with fail
    refine HW.out.mono ?_
    rintro e w1 ⟨rfl, hb1⟩
    have HB1 := Lib.hid hb1
    have HF := Lib.hid (fed_any w1 A n c l (HS.out.below hb1) HN.out.1 A2 m d z (HZ.out.below hb1) HN.out.2)
    clear hb1
    go_wp2_with fail
    refine HF.out.mono ?_
    rintro e w2 ⟨A9, n9, c9, rfl, hU2, hb2⟩
    have HB2 := Lib.hid (HB1.out.trans (hb2.mono HB1.out.size))
    have HU2 := Lib.hid hU2
    have hcv := Bytes.text ((HS.out.below HB2.out).1) c
    have HUn := Lib.hid (units_any w2 l (strOf l) rfl HS.out.1.2.1 (by rw [HS.out.1.1]; exact HN.out.1))
    unfold FedAns at HUn
    obtain ⟨t, ht⟩ : ∃ t, t = decide (0 < (run s0 l).1.left) := ⟨_, rfl⟩
    obtain ⟨us, hus⟩ : ∃ us, us = (run s0 l).2 := ⟨_, rfl⟩
    have HCn := Lib.hid (show us.length ≤ 20000 by have h1 := run_count l s0; rw [← hus] at h1; have h2 := HS.out.1.1; have h3 := HN.out.1; omega)
    rw [← ht, ← hus] at HUn
    rw [← hus] at HU2
    rw [← ht]
    generalize strOf l = s at *
    clear hb2 hU2 ht hus q1 q2
    go_wp2_with fail
    refine HUn.out.mono ?_
    rintro e w3 ⟨A8, n8, c8, rfl, hU3, hb3⟩
    have HB3 := Lib.hid (HB2.out.trans (hb3.mono HB2.out.size))
    obtain ⟨hn9, hys⟩ := HU2.out.rd hb3
    obtain ⟨hn8, hzs⟩ := hU3.rd (Below.refl _ _)
    obtain ⟨ys, hR9, hy9⟩ := hys
    obtain ⟨zs, hR8, hy8⟩ := hzs
    obtain rfl : n9 = n8 := by omega
    have hn9b : n9 ≤ 20000 := by have := HCn.out; omega
    have HR := Lib.hid (And.intro hR9 (And.intro hy9 (And.intro hR8 (And.intro hy8 hn9))))
    clear hU3 hb3 hn9 hn8 hR9 hy9 hR8 hy8 hcv
    cases t
    all_goals
      go_wp2_with fail
      go_loopw [47] (fun i wr => ∃ k : Nat, k ≤ n9 ∧ i = .int .i64 k ∧ Hid (Below w3.heap.size w3 wr)) (fun i _ => n9 - (intOf i).toNat)
      case atStart => exact ⟨0, Nat.zero_le _, rfl, Lib.hid (Below.refl _ _)⟩
      case round =>
        obtain ⟨k, hk, rfl, HBr⟩ := hrel
        by_cases hkn : k < n9
        · have hkn' : (k : Int) < (n9 : Int) := by omega
          obtain ⟨hR9, hy9, hR8, hy8, hn9⟩ := HR.out
          obtain ⟨u, hu⟩ : ∃ u, us[k]? = some u := ⟨_, List.getElem?_eq_getElem (by omega)⟩
          obtain ⟨b1, o1, y1, rfl, hy1, c1, c2⟩ := unit_at (hR9.below HBr.out) k hkn
          obtain ⟨b2, o2, y2, rfl, hy2, c3, c4⟩ := unit_at (hR8.below HBr.out) k hkn
          obtain ⟨g1, g2⟩ := hy9 k y1 u hy1 hu
          obtain ⟨g3, g4⟩ := hy8 k y2 u hy2 hu
          rw [g1] at c1
          rw [g3] at c3
          have t1 := fun q => Bytes.text ((g2.1.below g2.1.lt HBr.out).drewN q) y1.c
          have t2 := fun q => Bytes.text ((g4.1.below g4.1.lt HBr.out).drewN q) y2.c
          generalize strOf u.2 = T at *
          generalize u.1 = K at *
          generalize y1.A = a1 at *
          generalize y1.n = m1 at *
          generalize y1.c = d1 at *
          generalize y2.A = a2 at *
          generalize y2.n = m2 at *
          generalize y2.c = d2 at *
          clear hR9 hy9 hR8 hy8 hn9 hu hy1 hy2 g1 g2 g3 g4
          go_wp2_with fail
          go_quiet (fail)
          have HB4 := Lib.hid (codec.below_draws HBr.out nq)
          go_wp2_with fail
          go_roundw
          case rel => first | exact ⟨k + 1, by omega, by go_num, HB4⟩ | ((repeat apply Exists.intro); exact ⟨⟨k + 1, by omega, by go_num, HB4⟩, rfl⟩)
          case measure => (show n9 - ((k : Int) + 1).toNat < n9 - k; omega)
        · obtain rfl : k = n9 := by omega
          go_wp2_with fail
          go_ret
          exact ⟨rfl, HB3.out.trans (HBr.out.mono HB3.out.size)⟩
  · by_cases hn : n ≤ 20000
    · have q1 : decide ((20000 : Int) < (n : Int)) = false := decide_eq_false (by omega)
      have q2 : decide ((100 : Int) < (m : Int)) = true := decide_eq_true (by omega)
      clear hsm hn
      go_enter Try.func3, Try.ntmps3
      go_wp2_with fail
      refine HW.out.mono ?_
      rintro e w1 ⟨rfl, hb1⟩
      have HB1 := Lib.hid hb1
      have HW1 := Lib.hid (awake_any w1)
      clear hb1
      go_wp2_with fail
      refine HW1.out.mono ?_
      rintro e w2 ⟨rfl, hb2⟩
      have HB2 := Lib.hid (HB1.out.trans (hb2.mono HB1.out.size))
      clear hb2
      go_wp2_with fail
      go_ret
      exact ⟨rfl, HB2.out⟩
    · have q1 : decide ((20000 : Int) < (n : Int)) = true := decide_eq_true (by omega)
      clear hsm hn
      go_enter Try.func3, Try.ntmps3
      go_wp2_with fail
      refine HW.out.mono ?_
      rintro e w1 ⟨rfl, hb1⟩
      have HB1 := Lib.hid hb1
      have HW1 := Lib.hid (awake_any w1)
      clear hb1
      go_wp2_with fail
      refine HW1.out.mono ?_
      rintro e w2 ⟨rfl, hb2⟩
      have HB2 := Lib.hid (HB1.out.trans (hb2.mono HB1.out.size))
      clear hb2
      go_wp2_with fail
      go_ret
      exact ⟨rfl, HB2.out⟩
end Go.Proofs.Ytihcgbjmgfgenaa.lx
