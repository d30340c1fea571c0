/- The law on trees, walked. -/
import Derived.Test.YtklmbiekpilkhaaDoorIdxH
import Derived.Test.YtklmbiekpilkhaaDoorPagD
import Derived.Deep.DeepCutAuto
import Derived.Deep.RegionHeld3
namespace Go.Proofs.YtklmbiekpilkhaaDoor.idx
open Go.ChangeShapes Go.WideShapes Go.ChangeAt Go.RowKit
open Go.Proofs.YtklmbiekpilkhaaDoor.row
open Go.Proofs.YtklmbiekpilkhaaDoor.codec (Bytes OutIs More bytesOf bytesOf_length bytesOf_lt strOf numOf vals)
open Go.Proofs.YtklmbiekpilkhaaDoor.bod (named nums txt nums_length nums_lt strOf_nums)
open Go.Proofs.YtklmbiekpilkhaaDoor.two (Mine)
set_option linter.unusedVariables false
set_option maxRecDepth 100000
set_option linter.unusedSimpArgs false

/-- The bytes that the law makes, while places are seen. -/
def PS (W : World) (ps : List P) (n k : Nat) (v : Value) (w : World) : Prop := ∃ M, Mine W v M w ∧ M.length ≤ 1 + k * 1003 ∧ (lawB (ps.take k) = true → M = treeK ps n k)
theorem PS.below {W w w' : World} {ps : List P} {n k : Nat} {v : Value} (h : PS W ps n k v w) (hb : Below w.heap.size w w') : PS W ps n k v w' := by
  obtain ⟨M, hM, h1, h2⟩ := h
  exact ⟨M, hM.below hb, h1, h2⟩
theorem PS.bel {W w : World} {ps : List P} {n k : Nat} {v : Value} (h : PS W ps n k v w) : Below W.heap.size W w := by
  obtain ⟨M, hM, h1, h2⟩ := h
  exact hM.2
theorem mine_base {W W1 w : World} {v : Value} {M : List Nat} (h : Mine W1 v M w) (hb : Below W.heap.size W W1) : Mine W v M w :=
  ⟨⟨h.1.1, h.1.2.imp_right fun ⟨g, cap, cur, h1, h2, h3⟩ => ⟨g, cap, cur, h1, Nat.le_trans hb.size h2, h3⟩⟩, hb.trans (h.2.mono hb.size)⟩
theorem bytes_one {n : Nat} (h : n < 256) : bytesOf n 1 = [n] := by
  simp [bytesOf, codec.byteAt]
  omega
theorem ps_next {W w' : World} {ps : List P} {n k : Nat} {m : Int} {s : ByteArray} {v' : Value} {M : List Nat} (hx : ps[k]? = some ⟨m, s⟩) (hs : s.size ≤ 1000) (hl : M.length ≤ 1 + k * 1003) (hMe : lawB (ps.take k) = true → M = treeK ps n k)
    (hF : Mine W v' ((M ++ [low8 m]) ++ txt s) w') : PS W ps n (k + 1) v' w' := by
  refine ⟨_, hF, ?_, fun h => ?_⟩
  · simp only [List.length_append, List.length_cons, List.length_nil, txt, bytesOf_length, nums_length]
    omega
  · have h0 := law_mem h ⟨m, s⟩ (by rw [take_next hx]; simp)
    rw [law_next hx] at h
    simp only [mid, Bool.and_eq_true] at h
    rw [treeK_next hx, hMe h.1.1, low8_same h0.1 h0.2, bytes_one (by simp only at h0 ⊢; omega)]
set_option maxHeartbeats 4000000 in
theorem trees_mid (W : World) (A : Option Addr) (n c : Nat) (ps : List P) (hR : Rd cP 2 W A n ps) (hn : n ≤ 40) (hr : nam.Room W) :
    Calls Tryd.prog 3 #[.slice A n c] W fun e w' => e = .returned (.bool true) ∧ Below W.heap.size W w' := by
  have HW := Lib.hid (awake_any W hr)
  have HR := Lib.hid hR
  have Hr := Lib.hid hr
  have hd40 : decide ((40 : Int) < (n : Int)) = false := by rw [decide_eq_false_iff_not]; omega
  have hw8 : IntKind.u8.wrap (n : Int) = (n : Int) := IntWalk.u8_in n (by omega)
  clear hR hr
  go_enter Tryd.func3, Tryd.ntmps3
  go_wp2_with (go_at_call 4; refine HW.out.mono ?_; rintro e w1 ⟨rfl, hb⟩; have HB1 := Lib.hid hb; have HM0 := Lib.hid (show PS W ps n 0 (.slice (some ⟨w1.heap.size, 0, none⟩) 1 1) (w1.alloc (.cells (vals [n]).toArray 5)) from ⟨[n], mine_base (two.mine_lit w1 [n] 1 rfl (by omega)) hb, by simp, fun _ => by simp [treeK, bytes_one (show n < 256 by omega)]⟩); clear hb)
  go_loopw [3, 4, 5, 27] (fun s3 s4 s5 i wr => ∃ k : Nat, k ≤ n ∧ i = .int .i64 k ∧ s3 = .bool (lawB (ps.take k)) ∧ s4 = .bool (((ps.map P.s).take k).any isBox) ∧ Hid (PS W ps n k s5 wr)) (fun _ _ _ i _ => n - (intOf i).toNat)
  case atStart => exact ⟨0, Nat.zero_le _, rfl, rfl, rfl, HM0⟩
  case round =>
    obtain ⟨k, hk, rfl, rfl, rfl, HS⟩ := hrel
    by_cases hlt : k < n
    · obtain ⟨b, o, ⟨m, s⟩, rfl, hx, c0, c1⟩ := atP (HR.out.below HS.out.bel) k hlt
      have hlt' : (k : Int) < (n : Int) := by omega
      have HX := Lib.hid hx
      simp only at c0 c1
      clear hx
      by_cases hs : 1000 < s.size
      · go_wp2_with fail
        go_ret
        exact ⟨rfl, HS.out.bel⟩
      · go_upto_region 10 with (fail)
        go_cut [3, 27] from 27 to 125 (fun s3 s27 wx => s3 = .bool (mid ps k ⟨m, s⟩) ∧ s27 = .int .i64 k ∧ Hid (∃ q, wx = wr.drewN q))
        case first =>
          have HNM := Lib.hid (fun w => rNamed_any w s (by omega))
          have hge := law_ge (ps := ps) (k := k)
          have hmd : mid ps k ⟨m, s⟩ = (lawB (ps.take k) && (decide (prv ps k < m) && (decide (m < 16) && named s))) := rfl
          cases hr : lawB (ps.take k) with
          | false =>
            have HM := Lib.hid (show mid ps k ⟨m, s⟩ = false by rw [hmd, hr]; rfl)
            clear hmd hge hr hs
            go_wp2_with fail
            go_quiet (fail)
            go_wp2_with fail
            go_meet
            exact ⟨by rw [HM.out], by go_num, Lib.hid ⟨_, rfl⟩⟩
          | true =>
            have hge' := hge hr
            by_cases h0 : 0 ≤ m
            · have d0 : decide ((0 : Int) ≤ m) = true := decide_eq_true h0
              by_cases h16 : m < 16
              · have d16 : decide (m < (16 : Int)) = true := decide_eq_true h16
                rw [hr, d16, Bool.true_and, Bool.true_and] at hmd
                obtain rfl | ⟨j, rfl⟩ : k = 0 ∨ ∃ j, k = j + 1 := by
                  cases k with
                  | zero => exact Or.inl rfl
                  | succ j => exact Or.inr ⟨j, rfl⟩
                · have HM := Lib.hid (show mid ps 0 ⟨m, s⟩ = named s by rw [hmd, prv_zero, decide_eq_true (by omega), Bool.true_and])
                  have c0' : wr.cell? ⟨b, o, none⟩ = some (.int .i64 m) := by simpa using c0
                  have c1' : wr.cell? ⟨b, o + 1, none⟩ = some (.string s) := by simpa using c1
                  clear hmd hge hge' hr hs h0 h16 c0 c1
                  go_wp2_with fail
                  go_quiet ((go_at_call 5; exact Calls.quiet_of (HNM.out _)))
                  go_wp2_with fail
                  go_meet
                  exact ⟨by rw [HM.out], by go_num, Lib.hid ⟨_, rfl⟩⟩
                · obtain ⟨b', o', ⟨m1, s1⟩, hb', hy, e0, e1⟩ := atP (HR.out.below HS.out.bel) j (by omega)
                  obtain ⟨rfl, rfl⟩ : b' = b ∧ o' = o := by simp at hb'; omega
                  simp only at e0
                  have q1 : (0 : Int) ≤ (j : Int) + 1 := by omega
                  have q2 : (j : Int) + 1 < (n : Int) := by omega
                  have q3 : ((j : Int) + 1).toNat = j + 1 := by omega
                  have q4 : (j : Int) < (n : Int) := by omega
                  have q5 : ((j : Int) + 1 == 0) = false := by rw [beq_eq_false_iff_ne]; omega
                  rw [prv_at hy] at hmd
                  by_cases hp : m1 < m
                  · have dp : decide (m1 < m) = true := decide_eq_true hp
                    have HM := Lib.hid (show mid ps (j + 1) ⟨m, s⟩ = named s by rw [hmd, dp, Bool.true_and])
                    clear hmd hge hge' hr hs h0 h16 hp hy e1 hb'
                    go_wp2_with fail
                    go_quiet ((go_at_call 5; exact Calls.quiet_of (HNM.out _)))
                    go_wp2_with fail
                    go_meet
                    exact ⟨by rw [HM.out], by go_num, Lib.hid ⟨_, rfl⟩⟩
                  · have dp : decide (m1 < m) = false := decide_eq_false hp
                    have HM := Lib.hid (show mid ps (j + 1) ⟨m, s⟩ = false by rw [hmd, dp, Bool.false_and])
                    clear hmd hge hge' hr hs h0 h16 hp hy e1 hb'
                    go_wp2_with fail
                    go_quiet (fail)
                    go_wp2_with fail
                    go_meet
                    exact ⟨by rw [HM.out], by go_num, Lib.hid ⟨_, rfl⟩⟩
              · have d16 : decide (m < (16 : Int)) = false := decide_eq_false h16
                have HM := Lib.hid (show mid ps k ⟨m, s⟩ = false by rw [hmd, d16, Bool.false_and, Bool.and_false, Bool.and_false])
                clear hmd hge hge' hr hs h0 h16
                go_wp2_with fail
                go_quiet (fail)
                go_wp2_with fail
                go_meet
                exact ⟨by rw [HM.out], by go_num, Lib.hid ⟨_, rfl⟩⟩
            · have d0 : decide ((0 : Int) ≤ m) = false := decide_eq_false h0
              have HM := Lib.hid (show mid ps k ⟨m, s⟩ = false by rw [hmd, decide_eq_false (show ¬ prv ps k < m by omega), Bool.false_and, Bool.and_false])
              clear hmd hge hge' hr hs h0
              go_wp2_with fail
              go_quiet (fail)
              go_wp2_with fail
              go_meet
              exact ⟨by rw [HM.out], by go_num, Lib.hid ⟨_, rfl⟩⟩
        case rest =>
          obtain ⟨rfl, rfl, HQ⟩ := hcut
          have HS1 : Hid (PS W ps n k u5 wc) := by
            obtain ⟨q, rfl⟩ := HQ.out
            exact Lib.hid (HS.out.below (codec.below_draws (Below.refl _ _) q))
          have HC0 := Lib.hid (show ∀ w', Below W.heap.size W w' → w'.cell? ⟨b, o + k * 2, none⟩ = some (.int .i64 m) ∧ w'.cell? ⟨b, o + k * 2 + 1, none⟩ = some (.string s) from fun w' hw' => by
            obtain ⟨b', o', y, hb', hy, e0, e1⟩ := atP (HR.out.below hw') k hlt
            obtain ⟨rfl, rfl⟩ : b' = b ∧ o' = o := by simp at hb'; omega
            rw [HX.out] at hy
            cases hy
            exact ⟨e0, e1⟩)
          have HLN := Lib.hid (law_next HX.out)
          have HBX := Lib.hid (show (((ps.map P.s).take (k + 1)).any isBox) = (((ps.map P.s).take k).any isBox || isBox s) by rw [take_next (map_at P.s HX.out), List.any_append]; simp)
          simp only at HLN
          clear c0 c1 HS
          go_wp2_with fail
          go_loopw [3, 81] (fun s3 i wr2 => ∃ j : Nat, j ≤ k ∧ i = .int .i64 j ∧ s3 = .bool (mid ps k ⟨m, s⟩ && !dup ps j s) ∧ Hid (∃ d, wr2 = wc.drewN d)) (fun _ i _ => k - (intOf i).toNat)
          case atStart => exact ⟨0, Nat.zero_le _, rfl, by simp [dup], Lib.hid ⟨0, rfl⟩⟩
          case round =>
            obtain ⟨j, hj, rfl, rfl, HD⟩ := hrel
            obtain ⟨d, rfl⟩ := HD.out
            have HSd := Lib.hid (HS1.out.below (codec.below_draws (Below.refl _ wc) d))
            by_cases hjk : j < k
            · obtain ⟨b', o', ⟨m1, s1⟩, hb', hy, e0, e1⟩ := atP (HR.out.below HSd.out.bel) j (by omega)
              obtain ⟨rfl, rfl⟩ : b' = b ∧ o' = o := by simp at hb'; omega
              simp only at e1
              have HDN := Lib.hid (dup_next hy s)
              simp only at HDN
              obtain ⟨c0, c1⟩ := HC0.out _ HSd.out.bel
              have hjk' : (j : Int) < (k : Int) := by omega
              have hjn' : (j : Int) < (n : Int) := by omega
              have HYY := Lib.hid hy
              clear hb' hy e0 c0 HSd HD
              generalize hWq : wc.drewN d = Wq at *
              have HWq := Lib.hid hWq
              clear hWq
              generalize hX : (mid ps k ⟨m, s⟩ && !dup ps j s) = X
              have HXX := Lib.hid hX
              clear hX
              cases X with
              | false =>
                have HD2 : Hid ((mid ps k ⟨m, s⟩ && !dup ps (j + 1) s) = false) := Lib.hid (by
                  rw [HDN.out]
                  have := HXX.out
                  cases h1 : mid ps k ⟨m, s⟩
                  · rfl
                  · rw [h1] at this
                    cases h2 : dup ps j s
                    · rw [h2] at this; cases this
                    · rfl)
                go_wp2_with fail
                go_quiet (fail)
                have HQ2 : Hid (∃ q, Wq.drewN nq = wc.drewN q) := Lib.hid ⟨d + nq, by rw [← HWq.out, World.drewN_drewN]⟩
                generalize Wq.drewN nq = W2 at *
                go_wp2_with fail
                go_roundw
                case rel => first | exact ⟨j + 1, by omega, by go_num, by rw [HD2.out], HQ2⟩ | ((repeat apply Exists.intro); exact ⟨⟨j + 1, by omega, by go_num, by rw [HD2.out], HQ2⟩, rfl⟩)
                case measure => (show k - ((j : Int) + 1).toNat < k - j; omega)
              | true =>
                obtain ⟨hm1, hd1⟩ : mid ps k ⟨m, s⟩ = true ∧ dup ps j s = false := by have := HXX.out; simpa using this
                by_cases hss : s1 = s
                · subst hss
                  have HD2 : Hid ((mid ps k ⟨m, s1⟩ && !dup ps (j + 1) s1) = false) := Lib.hid (by rw [HDN.out, hm1, hd1, decide_eq_true rfl]; rfl)
                  clear hm1 hd1
                  go_wp2_with fail
                  go_quiet (fail)
                  have HQ2 : Hid (∃ q, Wq.drewN nq = wc.drewN q) := Lib.hid ⟨d + nq, by rw [← HWq.out, World.drewN_drewN]⟩
                  generalize Wq.drewN nq = W2 at *
                  go_wp2_with fail
                  go_roundw
                  case rel => first | exact ⟨j + 1, by omega, by go_num, by rw [HD2.out], HQ2⟩ | ((repeat apply Exists.intro); exact ⟨⟨j + 1, by omega, by go_num, by rw [HD2.out], HQ2⟩, rfl⟩)
                  case measure => (show k - ((j : Int) + 1).toNat < k - j; omega)
                · have HD2 : Hid ((mid ps k ⟨m, s⟩ && !dup ps (j + 1) s) = true) := Lib.hid (by rw [HDN.out, hm1, hd1, decide_eq_false hss]; rfl)
                  have hne : (s1.toList == s.toList) = false := by
                    have := rd.str_ne hss
                    rw [ByteArray.toList_eq] at this
                    rw [ByteArray.toList_eq, ByteArray.toList_eq]
                    exact this
                  have hne2 : (s1.toList != s.toList) = true := by rw [bne, hne]; rfl
                  clear hm1 hd1 hss
                  go_wp2_with fail
                  go_quiet (fail)
                  have HQ2 : Hid (∃ q, Wq.drewN nq = wc.drewN q) := Lib.hid ⟨d + nq, by rw [← HWq.out, World.drewN_drewN]⟩
                  generalize Wq.drewN nq = W2 at *
                  go_wp2_with fail
                  go_roundw
                  case rel => first | exact ⟨j + 1, by omega, by go_num, by rw [HD2.out], HQ2⟩ | ((repeat apply Exists.intro); exact ⟨⟨j + 1, by omega, by go_num, by rw [HD2.out], HQ2⟩, rfl⟩)
                  case measure => (show k - ((j : Int) + 1).toNat < k - j; omega)
            · obtain rfl : j = k := by omega
              have HLJ : Hid ((mid ps j ⟨m, s⟩ && !dup ps j s) = lawB (ps.take (j + 1))) := Lib.hid HLN.out.symm
              rw [HLJ.out]
              generalize hwd : wc.drewN d = wd at *
              clear hjk hwd
              go_upto_region 16 with (fail)
              go_cut [4, 27] from 27 to 125 (fun s4 s27 wx => s4 = .bool (((ps.map P.s).take (j + 1)).any isBox) ∧ s27 = .int .i64 j ∧ wx = wd)
              case first =>
                obtain ⟨c0, c1⟩ := HC0.out _ HSd.out.bel
                cases hb : ((ps.map P.s).take j).any isBox with
                | true =>
                  have HB2 := Lib.hid (show ((ps.map P.s).take (j + 1)).any isBox = true by rw [HBX.out, hb]; rfl)
                  clear hb
                  go_wp2_with fail
                  go_meet
                  exact ⟨by rw [HB2.out], rfl, rfl⟩
                | false =>
                  by_cases hsb : s = nam.INBOX
                  · have HB2 := Lib.hid (show ((ps.map P.s).take (j + 1)).any isBox = true by rw [HBX.out, hb, show isBox s = true from decide_eq_true hsb]; rfl)
                    subst hsb
                    have c1' : wd.cell? ⟨b, o + j * 2 + 1, none⟩ = some (.string ⟨#[73, 78, 66, 79, 88]⟩) := c1
                    clear hb c1
                    go_wp2_with fail
                    go_meet
                    exact ⟨by rw [HB2.out], rfl, rfl⟩
                  · have HB2 := Lib.hid (show ((ps.map P.s).take (j + 1)).any isBox = false by rw [HBX.out, hb, show isBox s = false from decide_eq_false hsb]; rfl)
                    have hne : (s.toList == ([73, 78, 66, 79, 88] : List UInt8)) = false := by
                      have := rd.str_ne hsb
                      rw [ByteArray.toList_eq] at this ⊢
                      exact this
                    clear hb hsb
                    go_wp2_with fail
                    go_meet
                    exact ⟨by rw [HB2.out], rfl, rfl⟩
              case rest =>
                obtain ⟨rfl, rfl, rfl⟩ := hcut
                obtain ⟨M, hM, hl, hMe⟩ := HSd.out
                have HTX := Lib.hid (fun w => refText_at w s (by omega))
                have HNX := Lib.hid (fun (v' : Value) (w' : World) (hF : Mine W v' ((M ++ [low8 m]) ++ txt s) w') => ps_next HX.out (by omega) hl hMe hF)
                obtain ⟨x, hxm⟩ : ∃ x, x = low8 m := ⟨_, rfl⟩
                have hx256 : x < 256 := by rw [hxm]; exact low8_lt m
                have HA := Lib.hid (show bits .and .i64 m 255 = (x : Nat) by rw [hxm]; exact low8_i m)
                have HX8 := Lib.hid (show IntKind.u8.wrap (x : Nat) = (x : Int) from IntWalk.u8_in (x : Nat) (by omega))
                rw [← hxm] at HNX
                have hM2000 : M.length ≤ 100000 := by
                  have : j * 1003 ≤ 40 * 1003 := Nat.mul_le_mul_right _ (by omega)
                  omega
                have hs1000 : s.size ≤ 1000 := by omega
                have HMd := Lib.hid (hM.below (codec.below_draws (Below.refl _ _) 1))
                have hBd := HMd.out.2
                have hjn' : (j : Int) < (n : Int) := by omega
                clear hxm hM hMe hl HD HSd HS1 hs
                go_wp2_with fail
                refine wp_region_noPanic ?_
                refine wp_region_held_drew (S := fun w' => Below W.heap.size W w') (by kernel_rfl) hBd (fun hHeld => ?_)
                clear hBd
                change Hid (Mine W u5 M wc.drew) at HMd
                generalize wc.drew = w4 at hHeld HMd ⊢
                refine wpAnyH_take (i := 0) (v := ?_) rfl (by kernel_rfl) (by kernel_rfl) (by kernel_rfl) (fun _ _ _ h => h) (Or.inl ⟨by kernel_rfl, ?_⟩) hHeld ?_
                rotate_left
                · (intro w' hw'; go_simp; first | done | with_reducible rfl)
                refine wpAnyH_take (i := 1) (v := ?_) rfl (by kernel_rfl) (by kernel_rfl) (by kernel_rfl) (fun _ _ _ h => h) (Or.inl ⟨by kernel_rfl, ?_⟩) hHeld ?_
                rotate_left
                · (intro w' hw'; go_simp; first | done | with_reducible rfl)
                refine wpAnyH_take (i := 2) (v := ?_) rfl (by kernel_rfl) (by kernel_rfl) (by kernel_rfl) (fun _ _ _ h => h) (Or.inl ⟨by kernel_rfl, ?_⟩) hHeld ?_
                rotate_left
                · (intro w' hw'; go_simp; first | done | with_reducible rfl)
                refine wpAnyH_take (i := 3) (v := ?_) rfl (by kernel_rfl) (by kernel_rfl) (by kernel_rfl) (fun _ _ _ h => h) (Or.inl ⟨by kernel_rfl, ?_⟩) hHeld ?_
                rotate_left
                · (intro w' hw'; go_simp; first | done | with_reducible rfl)
                refine wpAnyH_take (i := 4) (v := ?_) rfl (by kernel_rfl) (by kernel_rfl) (by kernel_rfl) (fun _ _ _ h => h) (Or.inl ⟨by kernel_rfl, ?_⟩) hHeld ?_
                rotate_left
                · (intro w' hw'; go_simp; first | done | with_reducible rfl)
                refine wpAnyH_take (i := 5) (v := ?_) rfl (by kernel_rfl) (by kernel_rfl) (by kernel_rfl) (fun _ _ _ h => h) (Or.inl ⟨by kernel_rfl, ?_⟩) hHeld ?_
                rotate_left
                · (intro w' hw'; obtain ⟨c0, c1⟩ := HC0.out _ hw'; go_simp; first | done | with_reducible rfl)
                refine wpAnyH_take (i := 6) (v := ?_) rfl (by kernel_rfl) (by kernel_rfl) (by kernel_rfl) (fun _ _ _ h => h) (Or.inl ⟨by kernel_rfl, ?_⟩) hHeld ?_
                rotate_left
                · (intro w' hw'; have ha := HA.out; go_simp; first | done | with_reducible rfl)
                refine wpAnyH_take (i := 7) (v := ?_) rfl (by kernel_rfl) (by kernel_rfl) (by kernel_rfl) (fun _ _ _ h => h) (Or.inl ⟨by kernel_rfl, ?_⟩) hHeld ?_
                rotate_left
                · (intro w' hw'; have hx8 := HX8.out; go_simp; first | done | with_reducible rfl)
                refine wpAnyH_take (i := 10) (v := ?_) rfl (by kernel_rfl) (by kernel_rfl) (by kernel_rfl) (fun _ _ _ h => h) (Or.inl ⟨by kernel_rfl, ?_⟩) hHeld ?_
                rotate_left
                · (intro w' hw'; go_simp; first | done | with_reducible rfl)
                refine wpAnyH_take (i := 11) (v := ?_) rfl (by kernel_rfl) (by kernel_rfl) (by kernel_rfl) (fun _ _ _ h => h) (Or.inl ⟨by kernel_rfl, ?_⟩) hHeld ?_
                rotate_left
                · (intro w' hw'; go_simp; first | done | with_reducible rfl)
                refine wpAnyH_take (i := 12) (v := ?_) rfl (by kernel_rfl) (by kernel_rfl) (by kernel_rfl) (fun _ _ _ h => h) (Or.inl ⟨by kernel_rfl, ?_⟩) hHeld ?_
                rotate_left
                · (intro w' hw'; go_simp; first | done | with_reducible rfl)
                refine wpAnyH_take (i := 13) (v := ?_) rfl (by kernel_rfl) (by kernel_rfl) (by kernel_rfl) (fun _ _ _ h => h) (Or.inl ⟨by kernel_rfl, ?_⟩) hHeld ?_
                rotate_left
                · (intro w' hw'; go_simp; first | done | with_reducible rfl)
                refine wpAnyH_take (i := 14) (v := ?_) rfl (by kernel_rfl) (by kernel_rfl) (by kernel_rfl) (fun _ _ _ h => h) (Or.inl ⟨by kernel_rfl, ?_⟩) hHeld ?_
                rotate_left
                · (intro w' hw'; obtain ⟨c0, c1⟩ := HC0.out _ hw'; go_simp; first | done | with_reducible rfl)
                refine wpAnyH_ready (rs := [8]) (by kernel_rfl) (by simp) ?_
                refine AllReadyH.cons rfl (fun K hK => ?_) AllReadyH.nil
                go_simp
                have HAP1 := Lib.hid (fun g (e : (u5).ownBlock = some g) => (Nat.ne_of_lt (HMd.out.1.lt g e).2 : g ≠ w4.heap.size))
                have hbl : Below w4.heap.size w4 (w4.alloc (.cells #[.int .u8 (x : Nat)] 5)) := (Below.refl _ _).alloc (Nat.le_refl _) _
                have HM1 := Lib.hid (HMd.out.below hbl)
                have HL1 := Lib.hid (lit_bytes w4 x (by omega) 5 (0, 0))
                have hH1 := HM1.out.2
                refine hK.out _ _ hH1 (fun _ => ?_)
                clear hK K hbl
                generalize w4.alloc (.cells #[.int .u8 (x : Nat)] 5) = wz1 at *
                generalize w4.heap.size = l1 at *
                refine wpAnyH_ready (rs := [9]) (by kernel_rfl) (by simp) ?_
                refine AllReadyH.cons rfl (fun K hK => ?_) AllReadyH.nil
                refine codec.step_append_bytes rfl (.tmp 108) (.tmp 116) rfl W.heap.size _ M (by simp [Act.eval, Act.put]) HM1.out.1 HM1.out.2.size (some ⟨l1, 0, none⟩) 1 1 [x] (by simp [Act.eval, Act.put]) HL1.out (fun e => by cases e) (by first | omega | (simp only [List.length_append, List.length_cons, List.length_nil]; omega)) ?_
                intro v2 wz2 ho hg _ _
                have hM2 := HM1.out.more ho hg
                have HM2 := Lib.hid hM2
                have hH2 := hM2.2
                clear ho hg hM2
                refine hK.out _ _ hH2 (fun _ => ?_)
                clear hK K
                refine wpAnyH_ready (rs := [15]) (by kernel_rfl) (by simp) ?_
                refine AllReadyH.cons rfl (fun K hK => ?_) AllReadyH.nil
                go_simp
                refine (HTX.out wz2).mono ?_
                rintro e wz3 ⟨gt3, ct3, rfl, hgt, hBt, hbt⟩
                have hM3 := HM2.out.below hbt
                have HM3 := Lib.hid hM3
                have HT3 := Lib.hid hBt
                have HGN3 := Lib.hid (fun g (e : (v2).ownBlock = some g) => (Nat.ne_of_lt (Nat.lt_of_lt_of_le (HM2.out.1.lt g e).2 hgt) : g ≠ gt3))
                have hH3 := hM3.2
                clear hBt hbt hgt hM3
                go_wp2_with fail
                refine hK.out _ _ hH3 (fun _ => ?_)
                clear hK K
                refine wpAnyH_ready (rs := [16]) (by kernel_rfl) (by simp) ?_
                refine AllReadyH.cons rfl (fun K hK => ?_) AllReadyH.nil
                refine codec.step_append_bytes rfl (.tmp 117) (.tmp 123) rfl W.heap.size _ (M ++ [x]) (by simp [Act.eval, Act.put]) HM3.out.1 HM3.out.2.size (some ⟨gt3, 0, none⟩) (2 + s.size) ct3 (txt s) (by simp [Act.eval, Act.put]) HT3.out (fun e => by cases e) (by first | omega | (simp only [List.length_append, List.length_cons, List.length_nil]; omega)) ?_
                intro v4 wz4 ho hg _ _
                have hM4 := HM3.out.more ho hg
                have HF := Lib.hid hM4
                have hH4 := hM4.2
                clear ho hg hM4
                refine hK.out _ _ hH4 (fun _ => ?_)
                clear hK K
                refine wpAnyH_take (i := 17) (v := ?_) rfl (by kernel_rfl) (by kernel_rfl) (by kernel_rfl) (fun _ _ _ h => h) (Or.inl ⟨by kernel_rfl, ?_⟩) hH4 ?_
                rotate_left
                · (intro w' hw'; go_simp; first | done | with_reducible rfl)
                refine wpAnyH_done (by kernel_rfl) ?_ _
                refine NoPanic.normal ?_
                go_simp
                have HPS := Lib.hid (HNX.out _ _ HF.out)
                go_wp2_with fail
                go_roundw
                case rel => first | exact ⟨j + 1, by omega, by go_num, rfl, rfl, HPS⟩ | ((repeat apply Exists.intro); exact ⟨⟨j + 1, by omega, by go_num, rfl, rfl, HPS⟩, rfl⟩)
                case measure => (show n - ((j : Int) + 1).toNat < n - j; omega)
    · obtain rfl : k = n := by omega
      --TAIL
      have hlen := HR.out.1
      have HR3 : Hid (lawB (ps.take k) = lawB ps) := Lib.hid (law_all hlen)
      have HI3 : Hid ((ps.map P.s).take k = ps.map P.s) := Lib.hid (List.take_of_length_le (by rw [List.length_map, hlen]; omega))
      rw [HR3.out, HI3.out]
      have HTL := Lib.hid (tree_law ps)
      have HBel := Lib.hid HS.out.bel
      cases htb : treeB ps with
      | false =>
        have HP := Lib.hid (putTree_none wr A k c ps (HR.out.below HBel.out) (by omega) (Hr.out.below HBel.out) htb)
        have hh : lawB ps = false ∨ (lawB ps = true ∧ (ps.map P.s).any isBox = false) := by
          have := HTL.out
          rw [htb] at this
          cases h1 : lawB ps
          · exact Or.inl rfl
          · cases h2 : (ps.map P.s).any isBox
            · exact Or.inr ⟨rfl, rfl⟩
            · rw [h1, h2] at this; cases this
        clear htb hlen
        rcases hh with h1 | ⟨h1, h2⟩
        · rw [h1]
          clear h1
          go_wp2_with (go_at_call 7; refine HP.out.mono ?_; rintro e w2 ⟨rfl, hb2⟩; have HB2 := Lib.hid hb2; clear hb2)
          go_ret
          exact ⟨rfl, HBel.out.trans (HB2.out.mono HBel.out.size)⟩
        · rw [h1, h2]
          clear h1 h2
          go_wp2_with (go_at_call 7; refine HP.out.mono ?_; rintro e w2 ⟨rfl, hb2⟩; have HB2 := Lib.hid hb2; clear hb2)
          go_ret
          exact ⟨rfl, HBel.out.trans (HB2.out.mono HBel.out.size)⟩
      | true =>
        obtain ⟨h1, h2⟩ : lawB ps = true ∧ (ps.map P.s).any isBox = true := by
          have := HTL.out
          rw [htb] at this
          simpa using this.symm
        have HP := Lib.hid (putTree_good wr A k c ps (HR.out.below HBel.out) (by omega) (Hr.out.below HBel.out) htb)
        have HTB := Lib.hid htb
        obtain ⟨N0, hN0⟩ : ∃ N0, N0 = (treeL ps).length := ⟨_, rfl⟩
        have hN1 : 1 ≤ N0 ∧ N0 ≤ 16066 := by
          have e : treeK ps k k = treeL ps := by unfold treeK treeL; rw [List.take_of_length_le (by omega), hlen]
          have := treeK_len htb k k (by omega)
          rw [e, ← hN0] at this
          refine ⟨?_, this⟩
          rw [hN0, treeL, List.length_append, bytesOf_length]
          omega
        have HWF := Lib.hid (fun (p : P) (hp : p ∈ ps) => (show wfP p from by
          obtain ⟨a, b, c⟩ := tree_mem htb p hp
          exact ⟨a, by omega, by have := named_60 c; omega⟩))
        have HMp : Hid (Mine W u5 (treeL ps) wr) := by
          obtain ⟨M, hM, hl, hMe⟩ := HS.out
          rw [hMe (by rw [HR3.out, h1])] at hM
          have e : treeK ps k k = treeL ps := by unfold treeK treeL; rw [List.take_of_length_le (by omega), hlen]
          rw [e] at hM
          exact Lib.hid hM
        have HLT : Hid (∀ x ∈ treeL ps, x < 256) := Lib.hid (by
          intro x hx
          unfold treeL at hx
          rw [List.mem_append, List.mem_flatMap] at hx
          rcases hx with hx | ⟨p, hp, hx⟩
          · exact bytesOf_lt _ _ x hx
          · unfold encP txt at hx
            rw [List.mem_append, List.mem_append] at hx
            rcases hx with hx | hx | hx
            · exact bytesOf_lt _ _ x hx
            · exact bytesOf_lt _ _ x hx
            · exact nums_lt _ x hx)
        rw [h1, h2]
        have HLE := Lib.hid hlen
        clear h1 h2 htb HS HTL hlen
        obtain ⟨g0, cap0, rfl, hcap0, -⟩ := HMp.out.form N0 hN0.symm (by omega)
        have HN0 := Lib.hid hN0
        clear hN0
        go_wp2_with (go_at_call 7; refine HP.out.mono ?_; rintro e w2 ⟨g, m, rfl, hm, hg, hB2, hb2⟩; have HB2 := Lib.hid (HBel.out.trans (hb2.mono HBel.out.size)); have HM2 := Lib.hid (HMp.out.below hb2); have HBy2 := Lib.hid hB2; have HNm := Lib.hid hm; have HG := Lib.hid (getTree_any w2 m m (some ⟨g, 0, none⟩) _ hB2 (by have := HN0.out; omega) (Nat.le_refl _) (Hr.out.below HB2.out)); clear hb2 hB2 hm hg)
        refine HG.out.mono ?_
        have hpf := pg.page_formed (m := 3) (p := treeL ps) (by decide) (by decide) (by have := HN0.out; omega)
        have hip : pg.IsPage ((3 : Nat) : Int) (pg.pageL 3 (treeL ps)) := ⟨3, treeL ps, rfl, by decide, by decide, rfl⟩
        have hback : readT (pg.payL (pg.pageL 3 (treeL ps))) = (ps, some []) := by rw [hpf.2]; exact tree_back HWF.out (by have := HLE.out; omega)
        rintro e w3 ⟨(⟨y, xs, -, hrd, -, hxl, rfl, ho⟩ | ⟨hno, rfl⟩), hb3⟩
        · obtain rfl : xs = ps := by rw [hback] at hrd; exact (Prod.mk.inj hrd).1.symm
          obtain ⟨A2, c2, rfl, -, -, hRd2⟩ := ho.rd fP
          have hlen2 : xs.length = k := HLE.out
          rw [hlen2] at hRd2 ⊢
          have HRy := Lib.hid hRd2
          have HB3 := Lib.hid (HB2.out.trans (hb3.mono HB2.out.size))
          have HBy3 := Lib.hid (HBy2.out.below HBy2.out.lt hb3)
          have HM3 := Lib.hid (HM2.out.below hb3)
          obtain ⟨T, hT⟩ : ∃ T, T = strOf (pg.pageL 3 (treeL xs)) := ⟨_, rfl⟩
          have HTq := Lib.hid hT
          obtain ⟨N, hN⟩ : ∃ N, N = (pg.pageL 3 (treeL xs)).length := ⟨_, rfl⟩
          have hN12 : 0 < N := by rw [hN, pg.pageL_length]; omega
          have HNq := Lib.hid hN.symm
          have HLq := Lib.hid (pg.pageL_lt (k := 3) (by decide) HLT.out)
          have HCt := Lib.hid (show ∀ w', Below w3.heap.size w3 w' → (convert 24 9 (.slice (some ⟨g, 0, none⟩) m m)).run Tryd.prog w' = .ok (.string T) w' from fun w' hw' => by rw [HTq.out]; exact (HBy3.out.below HBy3.out.lt hw').text m)
          have HRP := Lib.hid (pg.refPage_any w3.drew 3 N0 cap0 (some ⟨g0, 0, none⟩) (treeL xs) (by decide) (by decide) ((HM3.out.bytes HN0.out.symm HLT.out).drewN 1) (by omega) (fun e => by cases e))
          clear hrd hback hip hpf ho hRd2 hb3 hT hN hxl hlen2 HG HP
          go_wp2_with fail
          refine wp_region_noPanic ?_
          refine wp_region_held_drew (S := fun w' => Below w3.heap.size w3 w') (by kernel_rfl) (codec.below_draws (Below.refl _ _) 1) (fun hHeld => ?_)
          refine wpAnyH_take (i := 0) (v := ?_) rfl (by kernel_rfl) (by kernel_rfl) (by kernel_rfl) (fun _ _ _ h => h) (Or.inl ⟨by kernel_rfl, ?_⟩) hHeld ?_
          rotate_left
          · (intro w' hw'; go_simp; first | done | with_reducible rfl)
          refine wpAnyH_take (i := 1) (v := ?_) rfl (by kernel_rfl) (by kernel_rfl) (by kernel_rfl) (fun _ _ _ h => h) (Or.inl ⟨by kernel_rfl, ?_⟩) hHeld ?_
          rotate_left
          · (intro w' hw'; go_simp; first | done | with_reducible rfl)
          refine wpAnyH_take (i := 2) (v := ?_) rfl (by kernel_rfl) (by kernel_rfl) (by kernel_rfl) (fun _ _ _ h => h) (Or.inl ⟨by kernel_rfl, ?_⟩) hHeld ?_
          rotate_left
          · (intro w' hw'; go_simp; first | done | with_reducible rfl)
          refine wpAnyH_take (i := 3) (v := ?_) rfl (by kernel_rfl) (by kernel_rfl) (by kernel_rfl) (fun _ _ _ h => h) (Or.inl ⟨by kernel_rfl, ?_⟩) hHeld ?_
          rotate_left
          · (intro w' hw'; go_simp; first | done | with_reducible rfl)
          refine wpAnyH_take (i := 4) (v := ?_) rfl (by kernel_rfl) (by kernel_rfl) (by kernel_rfl) (fun _ _ _ h => h) (Or.inl ⟨by kernel_rfl, ?_⟩) hHeld ?_
          rotate_left
          · (intro w' hw'; have hc4 := HCt.out w' hw'; go_simp; first | done | with_reducible rfl)
          refine wpAnyH_take (i := 5) (v := ?_) rfl (by kernel_rfl) (by kernel_rfl) (by kernel_rfl) (fun _ _ _ h => h) (Or.inl ⟨by kernel_rfl, ?_⟩) hHeld ?_
          rotate_left
          · (intro w' hw'; go_simp; first | done | with_reducible rfl)
          refine wpAnyH_ready (rs := [6]) (by kernel_rfl) (by simp) ?_
          refine AllReadyH.cons rfl (fun K hK => ?_) AllReadyH.nil
          go_simp
          refine HRP.out.mono ?_
          rintro e w5 ⟨v5, rfl, hM0⟩
          have hM := two.Mine.drew hM0
          clear hM0
          obtain ⟨g5, cap5, rfl, hc5, -⟩ := hM.form N HNq.out (by omega)
          have c5 := (hM.bytes HNq.out HLq.out).text cap5
          rw [← HTq.out] at c5
          have HM5 := Lib.hid hM
          clear hM
          go_wp2_with fail
          refine hK.out _ _ HM5.out.2 (fun hH1 => ?_)
          clear hK K hHeld
          refine wpAnyH_ready (rs := [7]) (by kernel_rfl) (by simp) ?_
          refine AllReadyH.cons rfl (fun K hK => ?_) AllReadyH.nil
          go_simp
          refine hK _ _ hH1 (fun _ => ?_)
          clear hK K
          refine wpAnyH_take (i := 8) (v := ?_) rfl (by kernel_rfl) (by kernel_rfl) (by kernel_rfl) (fun _ _ _ h => h) (Or.inl ⟨by kernel_rfl, ?_⟩) hH1 ?_
          rotate_left
          · (intro w' hw'; go_simp; first | done | with_reducible rfl)
          refine wpAnyH_take (i := 9) (v := ?_) rfl (by kernel_rfl) (by kernel_rfl) (by kernel_rfl) (fun _ _ _ h => h) (Or.inl ⟨by kernel_rfl, ?_⟩) hH1 ?_
          rotate_left
          · (intro w' hw'; go_simp; first | done | with_reducible rfl)
          refine wpAnyH_take (i := 10) (v := ?_) rfl (by kernel_rfl) (by kernel_rfl) (by kernel_rfl) (fun _ _ _ h => h) (Or.inl ⟨by kernel_rfl, ?_⟩) hH1 ?_
          rotate_left
          · (intro w' hw'; go_simp; first | done | with_reducible rfl)
          refine wpAnyH_take (i := 11) (v := ?_) rfl (by kernel_rfl) (by kernel_rfl) (by kernel_rfl) (fun _ _ _ h => h) (Or.inl ⟨by kernel_rfl, ?_⟩) hH1 ?_
          rotate_left
          · (intro w' hw'; go_simp; first | done | with_reducible rfl)
          refine wpAnyH_take (i := 12) (v := ?_) rfl (by kernel_rfl) (by kernel_rfl) (by kernel_rfl) (fun _ _ _ h => h) (Or.inl ⟨by kernel_rfl, ?_⟩) hH1 ?_
          rotate_left
          · (intro w' hw'; go_simp; first | done | with_reducible rfl)
          refine wpAnyH_take (i := 13) (v := ?_) rfl (by kernel_rfl) (by kernel_rfl) (by kernel_rfl) (fun _ _ _ h => h) (Or.inl ⟨by kernel_rfl, ?_⟩) hH1 ?_
          rotate_left
          · (intro w' hw'; go_simp; first | done | with_reducible rfl)
          refine wpAnyH_take (i := 14) (v := ?_) rfl (by kernel_rfl) (by kernel_rfl) (by kernel_rfl) (fun _ _ _ h => h) (Or.inl ⟨by kernel_rfl, ?_⟩) hH1 ?_
          rotate_left
          · (intro w' hw'; go_simp; first | done | with_reducible rfl)
          refine wpAnyH_take (i := 15) (v := ?_) rfl (by kernel_rfl) (by kernel_rfl) (by kernel_rfl) (fun _ _ _ h => h) (Or.inl ⟨by kernel_rfl, ?_⟩) hH1 ?_
          rotate_left
          · (intro w' hw'; go_simp; first | done | with_reducible rfl)
          refine wpAnyH_take (i := 16) (v := ?_) rfl (by kernel_rfl) (by kernel_rfl) (by kernel_rfl) (fun _ _ _ h => h) (Or.inl ⟨by kernel_rfl, ?_⟩) hH1 ?_
          rotate_left
          · (intro w' hw'; go_simp; first | done | with_reducible rfl)
          refine wpAnyH_take (i := 17) (v := ?_) rfl (by kernel_rfl) (by kernel_rfl) (by kernel_rfl) (fun _ _ _ h => h) (Or.inl ⟨by kernel_rfl, ?_⟩) hH1 ?_
          rotate_left
          · (intro w' hw'; go_simp; first | done | with_reducible rfl)
          refine wpAnyH_take (i := 18) (v := ?_) rfl (by kernel_rfl) (by kernel_rfl) (by kernel_rfl) (fun _ _ _ h => h) (Or.inl ⟨by kernel_rfl, ?_⟩) hH1 ?_
          rotate_left
          · (intro w' hw'; go_simp; first | done | with_reducible rfl)
          refine wpAnyH_take (i := 19) (v := ?_) rfl (by kernel_rfl) (by kernel_rfl) (by kernel_rfl) (fun _ _ _ h => h) (Or.inl ⟨by kernel_rfl, ?_⟩) hH1 ?_
          rotate_left
          · (intro w' hw'; go_simp; first | done | with_reducible rfl)
          refine wpAnyH_take (i := 20) (v := ?_) rfl (by kernel_rfl) (by kernel_rfl) (by kernel_rfl) (fun _ _ _ h => h) (Or.inl ⟨by kernel_rfl, ?_⟩) hH1 ?_
          rotate_left
          · (intro w' hw'; go_simp; first | done | with_reducible rfl)
          refine wpAnyH_done (by kernel_rfl) ?_ _
          refine NoPanic.normal ?_
          go_simp
          have HB5 := Lib.hid (HB3.out.trans (HM5.out.2.mono HB3.out.size))
          clear c5
          go_wp2_with fail
          go_loopw [172] (fun i wr2 => ∃ j : Nat, j ≤ k ∧ i = .int .i64 j ∧ Hid (∃ d, wr2 = w5.drewN d)) (fun i _ => k - (intOf i).toNat)
          case atStart => exact ⟨0, Nat.zero_le _, rfl, Lib.hid ⟨0, rfl⟩⟩
          case round =>
            obtain ⟨j, hj, rfl, HDq⟩ := hrel
            obtain ⟨d, rfl⟩ := HDq.out
            have HD := Lib.hid (codec.below_draws (Below.refl w5.heap.size w5) d)
            have HBD := Lib.hid (HB5.out.trans (HD.out.mono HB5.out.size))
            by_cases hjk : j < k
            · obtain ⟨b, o, ⟨m0, s0⟩, rfl, hy, c0, c1⟩ := atP (HR.out.below HBD.out) j hjk
              obtain ⟨b2, o2, y2, rfl, hy2, e0, e1⟩ := atP (HRy.out.below (HM5.out.2.trans (HD.out.mono HM5.out.2.size))) j hjk
              rw [hy] at hy2
              cases hy2
              simp only at c0 c1 e0 e1
              have hjk' : (j : Int) < (k : Int) := by omega
              clear hy HD HDq HBD
              generalize hWq : w5.drewN d = Wq at *
              have HWq := Lib.hid hWq
              clear hWq
              go_wp2_with fail
              go_quiet (fail)
              have HD2 : Hid (∃ q, Wq.drewN nq = w5.drewN q) := Lib.hid ⟨d + nq, by rw [← HWq.out, World.drewN_drewN]⟩
              generalize Wq.drewN nq = W2 at *
              go_wp2_with fail
              go_roundw
              case rel => first | exact ⟨j + 1, by omega, by go_num, HD2⟩ | ((repeat apply Exists.intro); exact ⟨⟨j + 1, by omega, by go_num, HD2⟩, rfl⟩)
              case measure => (show k - ((j : Int) + 1).toNat < k - j; omega)
            · obtain rfl : j = k := by omega
              go_wp2
              go_ret
              exact ⟨rfl, HBD.out⟩
        · exact absurd ⟨hip, by rw [hback], by rw [hback]; exact HTB.out⟩ hno
end Go.Proofs.YtklmbiekpilkhaaDoor.idx
