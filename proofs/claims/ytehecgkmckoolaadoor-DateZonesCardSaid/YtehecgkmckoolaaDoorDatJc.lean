/- A text's time, as the document reads it: no blank ahead. -/
import Derived.Test.YtehecgkmckoolaaDoorDatJ
namespace Go.Proofs.YtehecgkmckoolaaDoor.dat
open Go.ChangeShapes Go.WideShapes Go.ChangeAt Go.RowKit
open Go.Lib (dg itoa byteCells strCells)
set_option linter.unusedVariables false
set_option linter.unusedSimpArgs false

set_option maxRecDepth 100000 in
set_option maxHeartbeats 6400000 in
theorem rparse_Jc (w : World) (s : ByteArray) (hz : s.size ≤ 1000) (hm : Marks s) (hb : ¬ byt s 0 = 32) (hs21 : byt s 21 = 43) : Calls Tryd.prog 11 #[.string s] w (Ans w s) := by
  have HMK := Lib.hid hm
  obtain ⟨hs, n2, n6, n11, n14, n17, n20, n21⟩ := hm
  have f2 : (((s[2]'(by omega)).toNat : Int) != 45) = false := by rw [byt_at, bne_eq_false_iff_eq]; omega
  have f6 : (((s[6]'(by omega)).toNat : Int) != 45) = false := by rw [byt_at, bne_eq_false_iff_eq]; omega
  have f11 : (((s[11]'(by omega)).toNat : Int) != 32) = false := by rw [byt_at, bne_eq_false_iff_eq]; omega
  have f14 : (((s[14]'(by omega)).toNat : Int) != 58) = false := by rw [byt_at, bne_eq_false_iff_eq]; omega
  have f17 : (((s[17]'(by omega)).toNat : Int) != 58) = false := by rw [byt_at, bne_eq_false_iff_eq]; omega
  have f20 : (((s[20]'(by omega)).toNat : Int) != 32) = false := by rw [byt_at, bne_eq_false_iff_eq]; omega
  obtain ⟨sg, hsg⟩ : ∃ b, byt s 21 = b := ⟨_, rfl⟩
  have e21 : (s[21]'(by omega)).toNat = sg := by rw [byt_at]; exact hsg
  rw [hsg] at n21
  have hs1 : ((s.size : Int) != 26) = false := by rw [hs]; rfl
  have k0 : (s.extract 0 2).size = 2 := by rw [ByteArray.size_extract]; omega
  have k0b : ((s.extract 0 2)[0]'(by omega)).toNat = byt s 0 := by rw [byt_at, byt_extract s 0 2 0 (by omega) (by omega)]
  have HMA := Lib.hid (fun (m : Nat) (h0 : 1 ≤ m) (h1 : m ≤ 12) (w : World) => month_alike s hs m h0 h1 w)
  have HP7 := Lib.hid (piece_any s hs 7 11 4 rfl (by omega) (by omega))
  have HP12 := Lib.hid (piece_any s hs 12 14 2 rfl (by omega) (by omega))
  have HP15 := Lib.hid (piece_any s hs 15 17 2 rfl (by omega) (by omega))
  have HP18 := Lib.hid (piece_any s hs 18 20 2 rfl (by omega) (by omega))
  have HP22 := Lib.hid (piece_any s hs 22 24 2 rfl (by omega) (by omega))
  have HP24 := Lib.hid (piece_any s hs 24 26 2 rfl (by omega) (by omega))
  have hmon0 : mon (code s 3) = lastM (code s 3) 12 := rfl
  have HMON := Lib.hid hmon0
  clear hmon0
  obtain ⟨c, hc⟩ : ∃ c, code s 3 = c := ⟨_, rfl⟩
  rw [hc] at HMA HMON
  have HC := Lib.hid hc
  have HSG := Lib.hid hsg
  clear hc hsg
  have hbad : (mon c = 0 ∨ numI (dayD s) < 1 ∨ numI (digs s 7 4) < 1969 ∨ numI (digs s 12 2) < 0 ∨ 23 < numI (digs s 12 2) ∨ numI (digs s 15 2) < 0 ∨ 59 < numI (digs s 15 2) ∨ numI (digs s 18 2) < 0 ∨ 59 < numI (digs s 18 2) ∨ numI (digs s 22 2) < 0 ∨ 14 < numI (digs s 22 2) ∨ numI (digs s 24 2) < 0 ∨ 59 < numI (digs s 24 2)) → Par s 0 false := fun hh =>
    par_none fun d m y h i e zh zm f h1 h2 h3 h4 => by
      have q1 := early f h2
      have q2 : dayD s = some d := dayD_some f
      have q3 : mon c ≠ 0 := by rw [← HC.out, f.month]; exact f.m0
      have r1 := f.h1; have r2 := f.i1; have r3 := f.e1; have r4 := f.zh1; have r5 := f.zm1
      rw [q2, f.year, f.hour, f.min, f.sec, f.zhour, f.zmin] at hh
      simp only [numI] at hh
      omega
  obtain ⟨dI, hdI⟩ : ∃ z, numI (dayD s) = z := ⟨_, rfl⟩
  obtain ⟨yI, hyI⟩ : ∃ z, numI (digs s 7 4) = z := ⟨_, rfl⟩
  obtain ⟨hI, hhI⟩ : ∃ z, numI (digs s 12 2) = z := ⟨_, rfl⟩
  obtain ⟨iI, hiI⟩ : ∃ z, numI (digs s 15 2) = z := ⟨_, rfl⟩
  obtain ⟨eI, heI⟩ : ∃ z, numI (digs s 18 2) = z := ⟨_, rfl⟩
  obtain ⟨aI, haI⟩ : ∃ z, numI (digs s 22 2) = z := ⟨_, rfl⟩
  obtain ⟨bI, hbI⟩ : ∃ z, numI (digs s 24 2) = z := ⟨_, rfl⟩
  have HDD := fun hb => Lib.hid (first_any s hs hb)
  have HDT := fun hb => Lib.hid (first_two s hs hb)
  rw [hdI] at hbad HDD HDT
  rw [hyI] at hbad HP7
  rw [hhI] at hbad HP12
  rw [hiI] at hbad HP15
  rw [heI] at hbad HP18
  rw [haI] at hbad HP22
  rw [hbI] at hbad HP24
  have bd : -1 ≤ dI ∧ dI < 10000 := by
    rw [← hdI]; unfold dayD; split
    · exact numI_le s 1 1 (by omega)
    · exact numI_le s 0 2 (by omega)
  have HdI := Lib.hid hdI; have HyI := Lib.hid hyI; have HhI := Lib.hid hhI; have HiI := Lib.hid hiI; have HeI := Lib.hid heI; have HaI := Lib.hid haI; have HbI := Lib.hid hbI
  have byI := numI_le s 7 4 (by omega)
  rw [hyI] at byI
  obtain ⟨mm, hmm⟩ : ∃ m, lastM c 12 = m := ⟨_, rfl⟩
  rw [hmm] at HMON
  have bmm : mm ≤ 12 := by rw [← hmm]; exact lastM_le c 12
  have HMM := Lib.hid hmm
  rw [HMON.out] at hbad
  have HBAD := Lib.hid hbad
  have hbad2 : ∀ y : Nat, yI = (y : Int) → (daysN y mm : Int) < dI → Par s 0 false := fun y hy hd => par_none fun d m y' h i e zh zm f h1 h2 h3 h4 => by
    have q2 : numI (dayD s) = (d : Int) := by rw [dayD_some f]; rfl
    have q3 : numI (digs s 7 4) = (y' : Int) := by rw [f.year]; rfl
    have q4 : m = mm := by rw [← f.month, HC.out, HMON.out]
    subst q4
    have q5 : y' = y := by omega
    subst q5
    omega
  have HBAD2 := Lib.hid hbad2
  clear hbad hbad2 hdI hyI hhI hiI heI haI hbI hmm
  have f0 : ((((s.extract 0 2)[0]'(by omega)).toNat : Int) == 32) = false := by rw [k0b, beq_eq_false_iff_ne]; omega
  have HD := HDT hb
  clear n2 n6 n11 n14 n17 n20 hb k0b HDD HDT
  obtain rfl : sg = 43 := HSG.out.symm.trans hs21
  clear n21 hs21
  go_enter Tryd.func11, Tryd.ntmps11
  go_wp2
  go_loopw [5, 6] (fun x y wr => ∃ k : Nat, 1 ≤ k ∧ k ≤ 13 ∧ y = .int .i64 k ∧ x = .int .i64 (lastM c (k - 1) : Nat) ∧ Hid (Drew w wr)) (fun _ y _ => 13 - (intOf y).toNat)
  case atStart => exact ⟨1, Nat.le_refl _, by omega, rfl, rfl, Drew.refl _⟩
  case round =>
    obtain ⟨k, k0', k1, rfl, rfl, hd⟩ := hrel
    by_cases hk : k ≤ 12
    · have hma := Lib.hid (HMA.out k k0' hk)
      have hmn := Lib.hid (fun w => month_any w k k0' hk)
      have hls : lastM c k = if codeOf k = c then k else lastM c (k - 1) := by
        obtain ⟨j, rfl⟩ : ∃ j, k = j + 1 := ⟨k - 1, by omega⟩
        rfl
      have HLS := Lib.hid hls
      clear hls
      by_cases he : codeOf k = c
      · rw [if_pos he] at HLS
        rw [decide_eq_true he] at hma
        clear he
        go_wp2
        go_quiet (first | (go_at_call 22; exact Calls.quiet_of_same (hmn.out _)) | (go_at_call 31; exact Calls.quiet_of (hma.out _)))
        go_wp2
        exact ⟨⟨k + 1, by omega, by omega, by simp, by rw [show k + 1 - 1 = k by omega, HLS.out], hd.out.drewN _⟩, by simp [intOf]; omega⟩
      · rw [if_neg he] at HLS
        rw [decide_eq_false he] at hma
        clear he
        go_wp2
        go_quiet (first | (go_at_call 22; exact Calls.quiet_of_same (hmn.out _)) | (go_at_call 31; exact Calls.quiet_of (hma.out _)))
        go_wp2
        exact ⟨⟨k + 1, by omega, by omega, by simp, by rw [show k + 1 - 1 = k by omega, HLS.out], hd.out.drewN _⟩, by simp [intOf]; omega⟩
    · obtain rfl : k = 13 := by omega
      rw [show lastM c (13 - 1) = mm from HMM.out]
      by_cases hmz : mm = 0
      · have hpar := Lib.hid (HBAD.out (.inl hmz))
        have hmz' : ((mm : Int) == 0) = true := by rw [hmz]; rfl
        clear hmz
        go_wp2
        go_quiet (first | (go_at_call 32; with_reducible exact Calls.quiet_of_same (HD.out _)) | (go_at_call 32; with_reducible exact Calls.quiet_of_same (HP7.out _)))
        have hd5 := hd.out.drewN nq
        generalize wr.drewN nq = w5 at hd5 ⊢
        have HD5 := Lib.hid hd5
        clear hd5
        go_wp2
        go_quiet (first | (go_at_call 32; with_reducible exact Calls.quiet_of_same (HP12.out _)) | (go_at_call 32; with_reducible exact Calls.quiet_of_same (HP15.out _)) | (go_at_call 32; with_reducible exact Calls.quiet_of_same (HP18.out _)) | (go_at_call 32; with_reducible exact Calls.quiet_of_same (HP22.out _)) | (go_at_call 32; with_reducible exact Calls.quiet_of_same (HP24.out _)))
        go_wp2
        all_goals (go_ret2; exact Ans.mk 0 false rfl hpar.out ((HD5.out.drewN _).below _))
      have hmz' : ((mm : Int) == 0) = false := by rw [beq_eq_false_iff_ne]; omega
      have HMZ := Lib.hid hmz
      clear hmz
      by_cases hy : yI < 1969
      · go_wp2
        go_quiet (first | (go_at_call 32; with_reducible exact Calls.quiet_of_same (HD.out _)) | (go_at_call 32; with_reducible exact Calls.quiet_of_same (HP7.out _)))
        have hd5 := hd.out.drewN nq
        generalize wr.drewN nq = w5 at hd5 ⊢
        have HD5 := Lib.hid hd5
        clear hd5
        go_wp2
        go_quiet (first | (go_at_call 32; with_reducible exact Calls.quiet_of_same (HP12.out _)) | (go_at_call 32; with_reducible exact Calls.quiet_of_same (HP15.out _)) | (go_at_call 32; with_reducible exact Calls.quiet_of_same (HP18.out _)) | (go_at_call 32; with_reducible exact Calls.quiet_of_same (HP22.out _)) | (go_at_call 32; with_reducible exact Calls.quiet_of_same (HP24.out _)))
        go_wp2
        all_goals (go_ret2; exact Ans.mk 0 false rfl (HBAD.out (by omega)) ((HD5.out.drewN _).below _))
      · obtain ⟨y, hyy⟩ := Int.eq_ofNat_of_zero_le (show 0 ≤ yI by omega)
        subst hyy
        have HB2 := Lib.hid (HBAD2.out y rfl)
        have hTL := Lib.hid (fun (T : Int) => tells_of (s := s) (T := T) (mm := mm) (y := y) HMK.out HdI.out HyI.out HhI.out HiI.out HeI.out HaI.out HbI.out (by rw [HC.out]; exact HMON.out))
        have hy9 : y < 10000 := by omega
        have hda := Lib.hid (fun (h : 1 ≤ mm) w => days_any w y mm (by omega) h bmm)
        have hdl := daysN_pos y mm
        obtain ⟨dl, hdl'⟩ : ∃ d, daysN y mm = d := ⟨_, rfl⟩
        rw [hdl'] at HB2 hda hdl hTL
        clear hdl'
        go_wp2
        go_quiet (first | (go_at_call 32; with_reducible exact Calls.quiet_of_same (HD.out _)) | (go_at_call 32; with_reducible exact Calls.quiet_of_same (HP7.out _)))
        have hd5 := hd.out.drewN nq
        generalize wr.drewN nq = w5 at hd5 ⊢
        have HD5 := Lib.hid hd5
        clear hd5
        go_wp2
        go_quiet (first | (go_at_call 32; with_reducible exact Calls.quiet_of_same (HP12.out _)) | (go_at_call 32; with_reducible exact Calls.quiet_of_same (HP15.out _)) | (go_at_call 32; with_reducible exact Calls.quiet_of_same (HP18.out _)) | (go_at_call 32; with_reducible exact Calls.quiet_of_same (HP22.out _)) | (go_at_call 32; with_reducible exact Calls.quiet_of_same (HP24.out _)))
        have hd6 := HD5.out.drewN nq
        generalize w5.drewN nq = w6 at hd6 ⊢
        have HD6 := Lib.hid hd6
        clear hd6
        go_wp2_with (go_at_call 20; refine (hda.out (Nat.pos_of_ne_zero HMZ.out) _).mono ?_; rintro e w7 ⟨rfl, hw⟩; replace hw := hw.symm; subst hw)
        all_goals try (go_ret2; first | exact Ans.mk 0 false rfl (HBAD.out (by omega)) (HD6.out.below _) | exact Ans.mk 0 false rfl (HB2.out (by omega)) (HD6.out.below _) | exact Ans.mk 0 false rfl (HB2.out (by rename_i hx; simp only [beq_iff_eq] at hx; omega)) (HD6.out.below _))
        have hdle : dI ≤ (dl : Int) := by
          first
            | omega
            | (rename_i hx; simp only [beq_iff_eq, not_or] at hx; omega)
            | (rename_i hx; simp at hx; omega)
        have hyy0 : 1969 ≤ y := by omega
        have hm0 : mm ≠ 0 := HMZ.out
        have hm1 : 1 ≤ mm := Nat.pos_of_ne_zero HMZ.out
        have HTL := Lib.hid (fun T => hTL.out T hm0 (by omega) hdle (by omega) (by omega) (by omega) (by omega) (by omega))
        have HY0 := Lib.hid hyy0
        have HM1 := Lib.hid hm1
        clear hdle hyy0 hm0 hm1
        go_loop [14, 15] (fun x z => ∃ i : Nat, 1969 ≤ i ∧ i ≤ y ∧ z = .int .i64 i ∧ x = .int .i64 (nY i)) (fun _ z => y - (intOf z).toNat)
        case atStart => exact ⟨1969, Nat.le_refl _, HY0.out, rfl, by rw [nY_1969]⟩
        case round =>
          obtain ⟨i, i0, i1, rfl, rfl⟩ := hrel
          have hb1 := nY_bounds i (by omega)
          by_cases hiy : i < y
          · have hye := Lib.hid (fun w => year_any w i (by omega))
            have hsu := nY_succ i (by omega)
            have hlp := ylen_pos i
            obtain ⟨z, hz'⟩ : ∃ z, nY i = z := ⟨_, rfl⟩
            obtain ⟨l, hl⟩ : ∃ l, ylen i = l := ⟨_, rfl⟩
            rw [hz'] at hb1 hsu ⊢
            rw [hl] at hsu hlp hye
            have HSU := Lib.hid hsu
            clear hsu hz' hl
            go_wp2_with (go_at_call 19; refine (hye.out _).mono ?_; rintro e w7 ⟨rfl, hw⟩; replace hw := hw.symm; subst hw)
            exact ⟨⟨i + 1, by omega, hiy, by simp, by rw [HSU.out]⟩, by simp [intOf]; omega⟩
          · obtain rfl : i = y := by omega
            obtain ⟨z, hz'⟩ : ∃ z, nY i = z := ⟨_, rfl⟩
            rw [hz'] at hb1 HTL ⊢
            clear hz'
            go_wp2
            go_loop [14, 16] (fun x q => ∃ j : Nat, 1 ≤ j ∧ j ≤ mm ∧ q = .int .i64 j ∧ x = .int .i64 (z + (cum i (j - 1) : Nat))) (fun _ q => mm - (intOf q).toNat)
            case atStart => exact ⟨1, Nat.le_refl _, HM1.out, rfl, by simp [cum]⟩
            case round =>
              obtain ⟨j, j0, j1, rfl, rfl⟩ := hrel
              have hcb := cum_le i (j - 1)
              by_cases hjm : j < mm
              · have hdj := Lib.hid (fun w => days_any w i j (by omega) j0 (by omega))
                have hcs := cum_step i j j0
                have hdp := daysN_pos i j
                obtain ⟨cj, hcj⟩ : ∃ c, cum i (j - 1) = c := ⟨_, rfl⟩
                obtain ⟨lj, hlj⟩ : ∃ l, daysN i j = l := ⟨_, rfl⟩
                rw [hcj] at hcs hcb ⊢
                rw [hlj] at hcs hdp hdj
                have HCS := Lib.hid hcs
                clear hcs hcj hlj
                go_wp2_with (go_at_call 20; refine (hdj.out _).mono ?_; rintro e w7 ⟨rfl, hw⟩; replace hw := hw.symm; subst hw)
                exact ⟨⟨j + 1, by omega, hjm, by simp, by rw [show j + 1 - 1 = j by omega, HCS.out]; congr 1; omega⟩, by simp [intOf]; omega⟩
              · obtain rfl : j = mm := by omega
                obtain ⟨cj, hcj⟩ : ∃ c, cum i (j - 1) = c := ⟨_, rfl⟩
                rw [hcj] at hcb HTL ⊢
                clear hcj
                have hzc : -719527 ≤ z + (cj : Int) ∧ z + (cj : Int) ≤ 2940000 := by omega
                obtain ⟨K, hK⟩ : ∃ K, z + (cj : Int) = K := ⟨_, rfl⟩
                rw [hK] at hzc HTL ⊢
                clear hK
                have hsg : ((43 : Int) == 43) = true := by decide
                have hT := HTL.out _ (show (K + dI - 1) * 86400 + hI * 3600 + iI * 60 + eI - aI * 3600 - bI * 60 = (K + dI - 1) * 86400 + hI * 3600 + iI * 60 + eI - (if byt s 21 = 43 then aI * 3600 + bI * 60 else -(aI * 3600 + bI * 60)) by rw [HSG.out]; rw [if_pos rfl]; omega)
                by_cases hr : 0 ≤ (K + dI - 1) * 86400 + hI * 3600 + iI * 60 + eI - aI * 3600 - bI * 60 ∧ (K + dI - 1) * 86400 + hI * 3600 + iI * 60 + eI - aI * 3600 - bI * 60 ≤ 253402300799
                · have hpar := Lib.hid (hT.1 hr)
                  clear hT
                  go_wp2
                  go_ret2
                  exact Ans.mk _ true rfl hpar.out (HD6.out.below _)
                · have hpar := Lib.hid (hT.2 hr)
                  clear hT
                  go_wp2
                  all_goals (go_ret2; exact Ans.mk 0 false rfl hpar.out (HD6.out.below _))
end Go.Proofs.YtehecgkmckoolaaDoor.dat
