/- Safe: the walk. -/
import Derived.Test.YtedhbcaakdfcbaaAb
import Derived.Test.YtedhbcaakdfcbaaAe
namespace Go.Proofs.Ytedhbcaakdfcbaa.disk
open Go.ChangeShapes Go.WideShapes Go.ChangeAt Go.RowKit Go.Maps Go.WideMaps Go.Sort Go.Shelf
set_option linter.unusedVariables false
set_option linter.unusedSimpArgs false

theorem read_ok {w : World} {base p : Nat} {mb : Option Nat} {D : DataW Value} {c : Cfg} {fm : FM} {N : Nat} (s : ByteArray) (h : Dsk w base p mb D c fm N) (hl : c.lost = false) (f : File) (hf : fm s.data.toList = some f) (hm : f.l.length ≤ 1000000) :
    Calls Try.prog 16 #[.pointer (some ⟨p, 0, none⟩), .string s] w fun e w' => ∃ A m, e = .returned (.tuple #[.slice A m m, .int .i64 0]) ∧ Bytes w' A m f.l ∧ Below w.heap.size w w' := by
  refine (read_str s h f hf hm).mono ?_
  rintro e w' ⟨A, m, he, hB, hb⟩
  rw [show rdE c = 0 by simp [rdE, hl]] at he
  rw [show rdL c f = f.l by simp [rdL, hl]] at hB
  exact ⟨A, m, he, hB, hb⟩
theorem row_none (w : World) (B : Nat) : w.ownsRow B 9 1 (.slice none 0 0) ([] : List (List UInt8)).length (([] : List (List UInt8)).map encStr) := ⟨by simp, .inl ⟨rfl, rfl⟩⟩
theorem Ints.belowS {w w' : World} {A : Option Addr} {n : Nat} {l : List Int} (h : Ints w A n l) (hb : Below w.heap.size w w') : Ints w' A n l := h.touch (F := fun _ => False) (fun _ _ _ h => h) (touch_below hb)
set_option maxRecDepth 50000 in
set_option maxHeartbeats 8000000 in
theorem safe_walk (w : World) (cap : Int) (A1 : Option Addr) (n1 c1 : Nat) (L1 : List ActV) (A2 : Option Addr) (n2 c2 : Nat) (K2 : List Int) (A3 : Option Addr) (n3 c3 : Nat) (K3 : List Int) (h1 : Acts w w.heap.size A1 n1 L1) (h2 : Ints w A2 n2 K2) (h3 : Ints w A3 n3 K3) (hn2 : n2 ≤ 140737488355328) (hn3 : n3 ≤ 140737488355328) :
    Calls Try.prog 5 #[.int .i64 cap, .slice A1 n1 c1, .slice A2 n2 c2, .slice A3 n3 c3] w fun e w' => e = .returned (.bool true) ∧ Below w.heap.size w w' := by
  have HAc := Lib.hid (fun w' (hb : Below w.heap.size w w') => h1.touch (F := fun _ => False) (fun _ _ h => h) (touch_below hb))
  have HK2 := Lib.hid (fun w' (hb : Below w.heap.size w w') => h2.belowS hb)
  have HK3 := Lib.hid (fun w' (hb : Below w.heap.size w w') => h3.belowS hb)
  have HO2 := Lib.hid h2.lt
  have HO3 := Lib.hid h3.lt
  have H6 := Lib.hid (fun w' (hb : Below w.heap.size w w') => (awake_any w').mono (R' := fun e w2 => e = .returned (.bool true) ∧ Below w.heap.size w w2) (fun e w2 h => ⟨h.1, hb.trans (h.2.mono hb.size)⟩))
  have H71 := Lib.hid (fun w' (hb : Below w.heap.size w w') => (few_exact w' w.heap.size A1 n1 c1 L1 60 (by decide) (HAc.out w' hb)).mono (R' := fun e w2 => e = .returned (.bool (decide (n1 ≤ 60 ∧ tot L1 ≤ 100000))) ∧ Below w.heap.size w w2) (fun e w2 h => ⟨h.1, hb.trans (h.2.mono hb.size)⟩))
  have HL1 := Lib.hid h1.1
  clear h1 h2 h3
  by_cases f1 : n1 ≤ 60 ∧ tot L1 ≤ 100000
  · rw [decide_eq_true f1] at H71
    by_cases f2 : n2 + n3 ≤ 200
    · by_cases hc : 0 ≤ cap ∧ cap ≤ 4194304
      · have H8 := Lib.hid (fun w' => new_ok w' cap hc.1 hc.2)
        have HF := Lib.hid f1
        have HF2 := Lib.hid f2
        have hk2 : decide ((200 : Int) < (n2 : Nat) + (n3 : Nat)) = false := by simp; omega
        clear f1 f2 hc
        go_enter Try.func5, Try.ntmps5
        go_wp2_with (first | (go_at_call 6; refine (H6.out _ (Below.refl _ _)).mono ?_; rintro e w1 ⟨rfl, hb⟩; have HB1 := Lib.hid hb; clear hb) | (go_at_call 7; refine (H71.out _ HB1.out).mono ?_; rintro e w3 ⟨rfl, hb⟩; have HB3 := Lib.hid hb; clear hb HB1) | (go_at_call 8; refine (H8.out _).mono ?_; rintro e w4 ⟨rfl, hd, hb⟩; have HD := Lib.hid hd; have HB4 := Lib.hid (HB3.out.trans (hb.mono HB3.out.size)); clear hd hb))
        have HP0 := Lib.hid (show Played w w3.heap.size w3.heap.size 0 L1 w4 from ⟨⟨_, _, _, _, HD.out, fun s f e => by cases e⟩, HB4.out⟩)
        have HW3 := Lib.hid HB3.out.size
        clear HD HB3 HB4 H6 H71 H8 hk2
        go_loopw [11, 55] (fun _ i wr => ∃ k : Nat, k ≤ n1 ∧ i = .int .i64 k ∧ Played w w3.heap.size w3.heap.size k L1 wr) (fun _ i _ => n1 - (intOf i).toNat)
        case atStart => exact ⟨0, Nat.zero_le _, rfl, HP0.out⟩
        case round =>
          clear HP0
          obtain ⟨k, hk, rfl, hp⟩ := hrel
          have HAw := Lib.hid (HAc.out _ hp.below)
          obtain ⟨⟨mb, D, c, fm, hd, hM⟩, hb⟩ := hp
          have HD := Lib.hid hd
          have HM := Lib.hid hM
          have HB := Lib.hid hb
          clear hd hM hb
          by_cases hlt : k < n1
          · obtain ⟨b', o', x, rfl, hx, hi⟩ := HAw.out.at_ hlt
            have hkl : k < L1.length := by have := HL1.out; omega
            have htk := tot_take L1 k hkl
            rw [← hx] at htk
            have htl := tot_le L1 (k + 1)
            have hxl : x.len = x.a.size + x.b.size + x.dn + x.kn := rfl
            have hf := HF.out
            have HDo := Lib.hid (do_any x HD.out HM.out (hi.ok HW3.out (by omega)) (by omega) (Nat.le_trans (HD.out.foot_lt _ (.inl rfl)).1 (Nat.le_of_lt (HD.out.foot_lt _ (.inl rfl)).2)) (by omega))
            unfold ActV.val at HDo
            have g0 := hi.kind
            have g1 := hi.ca
            have g2 := hi.cb
            have g3 := hi.at_
            have g4 := hi.data
            have g5 := hi.keep
            have HX := Lib.hid hx
            clear hi hx htk htl hxl hf
            have HLt := Lib.hid hlt
            have hk60 : k < 60 := by have := HF.out.1; omega
            go_wp2_with (first | (go_at_call 9; refine HDo.out.mono ?_; rintro e w5 ⟨⟨r, rfl⟩, ha⟩; rw [HX.out] at ha; have HP5 := Lib.hid (played_step HW3.out hkl HD.out HB.out ha); clear ha))
            go_roundw
            case rel => exact ⟨k + 1, Nat.succ_le_of_lt HLt.out, by go_num, HP5.out⟩
            case measure => have hh := HLt.out; simp [intOf]; omega
          · obtain rfl : k = n1 := by omega
            have hM1 : ∀ s f, fm s = some f → f.l.length ≤ tot L1 := fun s f e => by
              have := HM.out s f e
              rwa [List.take_of_length_le (by have := HL1.out; omega)] at this
            have HM1 := Lib.hid hM1
            have H14 := Lib.hid (names_any HD.out (by have := HF.out; omega))
            clear hM1 HM HAw
            go_wp2_with fail
            refine H14.out.mono ?_
            clear H14
            rintro e w8 ⟨v, ns, rfl, q1, q2, q3, q4⟩
            have HLs := Lib.hid q1
            have HB8 := Lib.hid q4
            obtain ⟨Av, cv, rfl⟩ : ∃ Av cv, v = .slice Av ns.length cv := by
              rcases q2.2 with ⟨e, h0⟩ | ⟨g, cap, cur, e, _⟩
              · exact ⟨none, 0, by rw [h0]; exact e⟩
              · exact ⟨_, _, e⟩
            obtain ⟨nl, hnl⟩ : ∃ nl, nl = ns.length := ⟨_, rfl⟩
            rw [← hnl] at q2 ⊢
            have HN1 := Lib.hid (namesAt_of (by rw [← hnl]; exact q2) hnl.symm)
            have hnm : nl ≤ 60 := by rw [hnl]; exact Nat.le_trans (listed_len HD.out q1) HF.out.1
            have HD8 := Lib.hid (HD.out.below q4)
            have HBw := Lib.hid (HB.out.trans (q4.mono HB.out.size))
            have HSt := Lib.hid (show SafeRow w8 fm 0 (.slice none 0 0) w8 from ⟨⟨[], row_none _ _, by simp, Nat.le_refl _⟩, Below.refl _ _⟩)
            clear q1 q2 q3 q4 hnl HD HB
            have hln := fun w' ty => len43 w' ty Av nl cv
            go_wp2_with fail
            clear hln
            go_loopw [12, 14, 69] (fun v _ i wr2 => ∃ k2 : Nat, k2 ≤ nl ∧ i = .int .i64 k2 ∧ SafeRow w8 fm k2 v wr2) (fun _ _ i _ => nl - (intOf i).toNat)
            case atStart => exact ⟨0, Nat.zero_le _, rfl, HSt.out⟩
            case round =>
              clear HSt
              obtain ⟨k2, hk2, rfl, hsr⟩ := hrel
              by_cases hlt2 : k2 < nl
              · have HSr := Lib.hid hsr
                have HLt2 := Lib.hid hlt2
                obtain ⟨g1, S, rfl, hS, hmem, hc1⟩ := (HN1.out.below hsr.below).at_ hlt2
                rw [← hS] at hmem
                obtain ⟨f, hfm⟩ := Option.isSome_iff_exists.1 ((HLs.out.mem _).1 hmem)
                obtain ⟨b, hb⟩ : ∃ b, b = decide (Whole f) := ⟨_, rfl⟩
                have H17 := Lib.hid (safe_str S (HD8.out.below hsr.below) f hfm b hb)
                have Hb := Lib.hid hb
                have Hfm := Lib.hid hfm
                clear hS hmem hfm hb hsr
                go_wp2_with fail
                refine H17.out.mono ?_
                rintro e w10 ⟨rfl, hb10⟩
                have d1 : w10.cell? ⟨g1, k2, none⟩ = some (.string S) := (hb10.cell (p := ⟨g1, k2, none⟩) (block_lt_of_cell hc1)).trans hc1
                have HSr10 := Lib.hid (HSr.out.below' hb10)
                clear hb10 H17 HSr hc1
                cases b with
                | false =>
                  go_wp2_with fail
                  go_roundw
                  case rel => exact ⟨k2 + 1, Nat.succ_le_of_lt HLt2.out, by go_num, HSr10.out.up (Nat.le_succ _)⟩
                  case measure => have hh := HLt2.out; simp [intOf]; omega
                | true =>
                  have hw : Whole f := by simpa using Hb.out.symm
                  obtain ⟨⟨M, hM1, hM2, hM3⟩, -⟩ := (HSr10.out.below' ((Below.refl w10.heap.size w10).alloc (Nat.le_refl _) (.cells #[.string S] 9)))
                  have HM1' := Lib.hid hM1
                  have HM2' := Lib.hid hM2
                  have hM4 : M.length ≤ 1000000000 := by omega
                  have HM3 := Lib.hid hM3
                  have HB10 := Lib.hid (HSr10.out.below.trans (((Below.refl w10.heap.size w10).alloc (Nat.le_refl _) (.cells #[.string S] 9)).mono HSr10.out.below.size))
                  have HC1 : Hid ((w10.alloc (.cells #[.string S] 9)).cell? ⟨w10.heap.size, 0, none⟩ = some (.string S)) := by
                    show _ = _
                    rw [cell_of_row _ _ 0 _ 9 (0, 0) (heap_alloc_new w10 _)]
                    rfl
                  clear hM1 hM2 hM3
                  go_wp2_with (at_builtin; refine wpList_append_name rfl (.tmp 78) (.tmp 83) rfl w8.heap.size u12 M rfl HM1'.out HB10.out.size w10.heap.size S rfl HC1.out hM4 ?_; intro v' w11 ho hg; have HN11 := Lib.hid (SafeRow.add HM3.out HB10.out HM1'.out HM2'.out Hfm.out hw ho hg); clear ho hg)
                  go_roundw
                  case rel => exact ⟨k2 + 1, Nat.succ_le_of_lt HLt2.out, by go_num, HN11.out⟩
                  case measure => have hh := HLt2.out; simp [intOf]; omega
              · obtain rfl : k2 = nl := by omega
                obtain ⟨Av2, n4, cv2, M, rfl, hM1, hM2, hM3, hM4⟩ := hsr.names
                have HNm := Lib.hid hM1
                have HMw := Lib.hid hM3
                have HMb := Lib.hid hM4
                have HDr := Lib.hid (HD8.out.below hsr.below)
                have HBr := Lib.hid (HBw.out.trans (hsr.below.mono HBw.out.size))
                have HSz := Lib.hid hsr.below.size
                have hn60 : k ≤ 60 ∧ tot L1 ≤ 100000 := HF.out
                have hf2 := HF2.out
                have H13 := Lib.hid (clone_any HDr.out HM1.out (by omega) (by omega) (Nat.le_trans (HDr.out.foot_lt _ (.inl rfl)).1 (Nat.le_of_lt (HDr.out.foot_lt _ (.inl rfl)).2)))
                clear hM1 hM3 hM4 hsr
                go_wp2_with fail
                refine H13.out.mono ?_
                rintro e w5 ⟨b2, D2, rfl, hd2, hb5⟩
                have HC5 := Lib.hid hd2
                have HB5 := Lib.hid hb5
                have HBw5 := Lib.hid (HBr.out.trans (hb5.mono HBr.out.size))
                clear hd2 hb5 H13
                have H18 := Lib.hid (restart_any (HDr.out.below HB5.out) HM1.out (by omega) (by omega) (Nat.le_trans (HDr.out.foot_lt _ (.inl rfl)).1 (Nat.le_of_lt (Nat.lt_of_lt_of_le (HDr.out.foot_lt _ (.inl rfl)).2 HB5.out.size))) A2 n2 c2 K2 (HK2.out _ HBw5.out) (fun ad e h => Nat.lt_of_lt_of_le (HO2.out ad e h) HW3.out) (by omega))
                go_wp2_with fail
                refine H18.out.mono ?_
                rintro e w6 ⟨rfl, ns2, mbd, Dd, hL2, hdd, htd, hfd⟩
                clear H18
                obtain ⟨fd, hfde⟩ : ∃ fd, fd = (rfold K2 fm c.used ns2).1 := ⟨_, rfl⟩
                obtain ⟨cd, hcd⟩ : ∃ cd : Cfg, cd = ⟨c.cap, (rfold K2 fm c.used ns2).2.2, false, 0, false⟩ := ⟨_, rfl⟩
                rw [← hfde, ← hcd] at hdd
                have HWd := Lib.hid (show ∀ s f, fd s = some f → Whole f by rw [hfde]; exact restart_made hL2 HDr.out.safe_le)
                have HKd := Lib.hid (show ∀ s f, fm s = some f → Whole f → fd s = some f by rw [hfde]; exact fun s f h hw => rfold_whole hw ns2 _ h)
                have HMd := Lib.hid (show ∀ s f, fd s = some f → f.l.length ≤ tot L1 by rw [hfde]; exact rfold_bound ns2 _ HM1.out)
                have HLd := Lib.hid (show cd.lost = false by rw [hcd])
                have HDd := Lib.hid hdd
                have HFd := Lib.hid (show ∀ j, Foot w3.heap.size mbd Dd j → j < w8.heap.size ∨ w5.heap.size ≤ j from fun j hj => (hfd j hj).imp (fun h => (HD8.out.foot_lt j h).2) id)
                have HC6 := Lib.hid (HC5.out.touch htd (fun j hj hf => by have h1 := (HC5.out.foot_lt j hj).1; have h2 := (HD8.out.foot_lt j hf).2; have h3 := HSz.out; omega))
                have HNm6 := Lib.hid ((HNm.out.below HB5.out).touch htd (fun ad e hf => by have h1 := (HMb.out ad e).1; have h2 := (HD8.out.foot_lt _ hf).2; omega))
                have HBw6 := Lib.hid (HBw5.out.trans (htd.toBelow w.heap.size HBw5.out.size (fun j hj hf => by have h1 := (HD8.out.foot_lt j hf).1; have h2 := HW3.out; omega)))
                have HS6 := Lib.hid htd.2.2.2.1
                clear hL2 hdd htd hfd hfde hcd
                have H18 := Lib.hid (restart_any HC6.out HM1.out (by omega) (by omega) (Nat.le_trans HB5.out.size HS6.out) A3 n3 c3 K3 (HK3.out _ HBw6.out) (fun ad e h => Nat.lt_of_lt_of_le (HO3.out ad e h) HBr.out.size) (by omega))
                go_wp2_with fail
                refine H18.out.mono ?_
                rintro e w7 ⟨rfl, ns3, mbc, Dc, hL3, hdc, htc, hfc⟩
                clear H18
                obtain ⟨fc, hfce⟩ : ∃ fc, fc = (rfold K3 fm c.used ns3).1 := ⟨_, rfl⟩
                obtain ⟨cc, hcc⟩ : ∃ cc : Cfg, cc = ⟨c.cap, (rfold K3 fm c.used ns3).2.2, false, 0, false⟩ := ⟨_, rfl⟩
                rw [← hfce, ← hcc] at hdc
                have HKc := Lib.hid (show ∀ s f, fm s = some f → Whole f → fc s = some f by rw [hfce]; exact fun s f h hw => rfold_whole hw ns3 _ h)
                have HLc := Lib.hid (show cc.lost = false by rw [hcc])
                have HDc := Lib.hid hdc
                have HDd7 := Lib.hid (HDd.out.touch htc (fun j hj hf => by have h1 := HFd.out j hj; have h2 := HC5.out.foot_lt j hf; have h3 := HSz.out; omega))
                have HNm7 := Lib.hid (HNm6.out.touch htc (fun ad e hf => by have h1 := (HMb.out ad e).2; have h2 := (HC5.out.foot_lt _ hf).1; omega))
                have HBw7 := Lib.hid (HBw6.out.trans (htc.toBelow w.heap.size HBw6.out.size (fun j hj hf => by have h1 := (HC5.out.foot_lt j hf).1; have h2 := HBr.out.size; omega)))
                clear hL3 hdc htc hfc hfce hcc HC6 HNm6 HC5 HDd HNm HFd HDr HB5 HMb
                have hln := fun w' ty => len43 w' ty Av2 n4 cv2
                go_wp2_with fail
                clear hln
                go_loopw [16, 17, 18, 19, 20, 96] (fun _ _ _ _ _ i wr3 => ∃ k3 : Nat, k3 ≤ n4 ∧ i = .int .i64 k3 ∧ Below w7.heap.size w7 wr3) (fun _ _ _ _ _ i _ => n4 - (intOf i).toNat)
                case atStart => exact ⟨0, Nat.zero_le _, rfl, Below.refl _ _⟩
                case round =>
                  obtain ⟨k3, hk3, rfl, hb3⟩ := hrel
                  have HB3 := Lib.hid hb3
                  clear hb3
                  by_cases hlt3 : k3 < n4
                  · obtain ⟨g1, S, rfl, hS, hmem, hc1⟩ := (HNm7.out.below HB3.out).at_ hlt3
                    obtain ⟨f, hfm, hw⟩ := HMw.out _ hmem
                    rw [← hS] at hfm
                    have hfl := HM1.out _ _ hfm
                    have H16a := Lib.hid (read_ok S (HDd7.out.below HB3.out) HLd.out f (HKd.out _ _ hfm hw) (by omega))
                    have H16b := Lib.hid (fun w' (hb : Below wr.heap.size wr w') => read_ok S ((HDc.out.below HB3.out).below hb) HLc.out f (HKc.out _ _ hfm hw) (by omega))
                    have HLt3 := Lib.hid hlt3
                    clear hS hmem hfm hw hfl
                    go_wp2_with fail
                    refine H16a.out.mono ?_
                    rintro e w10 ⟨Aa, ma, rfl, hBa, hb10⟩
                    have HBa := Lib.hid hBa
                    have HB10 := Lib.hid hb10
                    have d1 : w10.cell? ⟨g1, k3, none⟩ = some (.string S) := (hb10.cell (p := ⟨g1, k3, none⟩) (block_lt_of_cell hc1)).trans hc1
                    clear hBa hb10 hc1 H16a
                    go_wp2_with fail
                    refine (H16b.out _ HB10.out).mono ?_
                    rintro e w11 ⟨Ab, mb', rfl, hBb, hb11⟩
                    obtain ⟨T, hT⟩ : ∃ T, T = textOf f.l := ⟨_, rfl⟩
                    have y1 : (convert 33 9 (.slice Aa ma ma)).run Try.prog w11 = .ok (.string T) w11 := by rw [hT]; exact (HBa.out.belowS hb11).text ma
                    have y2 : (convert 33 9 (.slice Ab mb' mb')).run Try.prog w11 = .ok (.string T) w11 := by rw [hT]; exact hBb.text mb'
                    have HB11 := Lib.hid (HB3.out.trans ((HB10.out.trans (hb11.mono HB10.out.size)).mono HB3.out.size))
                    clear hBb hb11 d1 hT H16b
                    go_wp2_with fail
                    go_roundw
                    case rel => exact ⟨k3 + 1, Nat.succ_le_of_lt HLt3.out, by go_num, HB11.out⟩
                    case measure => have hh := HLt3.out; simp [intOf]; omega
                  · obtain rfl : k3 = n4 := by omega
                    have HD3 := Lib.hid (HDd7.out.below HB3.out)
                    have HBw3 := Lib.hid (HBw7.out.trans (HB3.out.mono HBw7.out.size))
                    clear HDd7 HDc HNm7 HB3 HBw7 HKc HLc HKd HMw HBw5 HBw6 HS6 HBr HSz HN1 HD8 HBw HB8 HLs HM1 HL1 HAc
                    have H14 := Lib.hid (names_any HD3.out (by omega))
                    go_wp2_with fail
                    refine H14.out.mono ?_
                    clear H14
                    rintro e w8' ⟨v, ns4, rfl, q1, q2, q3, q4⟩
                    have HLs := Lib.hid q1
                    have HB8 := Lib.hid q4
                    obtain ⟨Av4, cv4, rfl⟩ : ∃ Av cv, v = .slice Av ns4.length cv := by
                      rcases q2.2 with ⟨e, h0⟩ | ⟨g, cap, cur, e, _⟩
                      · exact ⟨none, 0, by rw [h0]; exact e⟩
                      · exact ⟨_, _, e⟩
                    obtain ⟨nl, hnl⟩ : ∃ nl, nl = ns4.length := ⟨_, rfl⟩
                    rw [← hnl] at q2 ⊢
                    have HNa := Lib.hid (namesAt_of (by rw [← hnl]; exact q2) hnl.symm)
                    have HNl := Lib.hid hnl
                    have hnm4 : nl ≤ 60 := by rw [hnl]; exact Nat.le_trans (listed_len HD3.out q1) (by omega)
                    have HD8 := Lib.hid (HD3.out.below q4)
                    have HBw8 := Lib.hid (HBw3.out.trans (q4.mono HBw3.out.size))
                    clear q1 q2 q3 q4 hnl HD3 HB8
                    have H13 := Lib.hid (clone_any HD8.out HMd.out (by omega) (by omega) (Nat.le_trans (HD8.out.foot_lt _ (.inl rfl)).1 (Nat.le_of_lt (HD8.out.foot_lt _ (.inl rfl)).2)))
                    go_wp2_with fail
                    refine H13.out.mono ?_
                    rintro e w9 ⟨b3, D3, rfl, hd3, hb9⟩
                    have HX9 := Lib.hid hd3
                    have HB9 := Lib.hid hb9
                    have HBw9 := Lib.hid (HBw8.out.trans (hb9.mono HBw8.out.size))
                    clear hd3 hb9 H13
                    have H18 := Lib.hid (restart_any HX9.out HMd.out (by omega) (by omega) HB9.out.size A3 n3 c3 K3 (HK3.out _ HBw9.out) (fun ad e h => Nat.lt_of_lt_of_le (HO3.out ad e h) HBw8.out.size) (by omega))
                    go_wp2_with fail
                    refine H18.out.mono ?_
                    rintro e w12 ⟨rfl, ns5, mbx, Dx, hL5, hdx, htx, hfx⟩
                    clear H18
                    rw [restart_same hL5 HWd.out] at hdx
                    obtain ⟨cx, hcx⟩ : ∃ cx : Cfg, cx = ⟨cd.cap, (rfold K3 fd cd.used ns5).2.2, false, 0, false⟩ := ⟨_, rfl⟩
                    rw [← hcx] at hdx
                    have HLx := Lib.hid (show cx.lost = false by rw [hcx])
                    have HX12 := Lib.hid hdx
                    have hbx := htx.toBelow w8'.heap.size HB9.out.size (fun j hj hf => by have h1 := (HX9.out.foot_lt j hf).1; omega)
                    have hbx2 := HB9.out.trans hbx
                    have HD12 := Lib.hid (HD8.out.below hbx2)
                    have HN12 := Lib.hid (HNa.out.below hbx2)
                    have HBw12 := Lib.hid (HBw8.out.trans (hbx2.mono HBw8.out.size))
                    clear hL5 hdx htx hfx hcx hbx hbx2 HX9 HB9 HBw9 HD8 HNa HBw8
                    have hln := fun w' ty => len43 w' ty Av4 nl cv4
                    go_wp2_with fail
                    go_loopw [23, 24, 25, 26, 27, 140] (fun _ _ _ _ _ i wr4 => ∃ k4 : Nat, k4 ≤ nl ∧ i = .int .i64 k4 ∧ Below w12.heap.size w12 wr4) (fun _ _ _ _ _ i _ => nl - (intOf i).toNat)
                    case atStart => exact ⟨0, Nat.zero_le _, rfl, Below.refl _ _⟩
                    case round =>
                      obtain ⟨k4, hk4, rfl, hb4⟩ := hrel
                      have HB4 := Lib.hid hb4
                      clear hb4
                      by_cases hlt4 : k4 < nl
                      · obtain ⟨g1, S, rfl, hS, hmem, hc1⟩ := (HN12.out.below HB4.out).at_ hlt4
                        obtain ⟨f, hfm⟩ := Option.isSome_iff_exists.1 ((HLs.out.mem _).1 hmem)
                        have hw := HWd.out _ _ hfm
                        rw [← hS] at hfm
                        have hfl := HMd.out _ _ hfm
                        have H16a := Lib.hid (read_ok S (HD12.out.below HB4.out) HLd.out f hfm (by omega))
                        have H16b := Lib.hid (fun w' (hb : Below wr.heap.size wr w') => read_ok S ((HX12.out.below HB4.out).below hb) HLx.out f hfm (by omega))
                        have H17 := Lib.hid (fun w' (hb : Below wr.heap.size wr w') => safe_str S ((HD12.out.below HB4.out).below hb) f hfm true (by rw [decide_eq_true hw]))
                        have HLt4 := Lib.hid hlt4
                        clear hS hmem hfm hw hfl hln
                        go_wp2_with fail
                        refine H16a.out.mono ?_
                        rintro e w13 ⟨Aa, ma, rfl, hBa, hb13⟩
                        have HBa := Lib.hid hBa
                        have HB13 := Lib.hid hb13
                        have d1 : w13.cell? ⟨g1, k4, none⟩ = some (.string S) := (hb13.cell (p := ⟨g1, k4, none⟩) (block_lt_of_cell hc1)).trans hc1
                        clear hBa hb13 hc1 H16a
                        go_wp2_with fail
                        refine (H16b.out _ HB13.out).mono ?_
                        rintro e w14 ⟨Ab, mb', rfl, hBb, hb14⟩
                        have HBa14 := Lib.hid (HBa.out.belowS hb14)
                        have HBb14 := Lib.hid hBb
                        have d2 : w14.cell? ⟨g1, k4, none⟩ = some (.string S) := (hb14.cell (p := ⟨g1, k4, none⟩) (block_lt_of_cell d1)).trans d1
                        have HB14 := Lib.hid (HB13.out.trans (hb14.mono HB13.out.size))
                        clear hBb hb14 d1 H16b
                        go_wp2_with fail
                        refine (H17.out _ HB14.out).mono ?_
                        rintro e w15 ⟨rfl, hb15⟩
                        obtain ⟨T, hT⟩ : ∃ T, T = textOf f.l := ⟨_, rfl⟩
                        have y1 : (convert 33 9 (.slice Aa ma ma)).run Try.prog w15 = .ok (.string T) w15 := by rw [hT]; exact (HBa14.out.belowS hb15).text ma
                        have y2 : (convert 33 9 (.slice Ab mb' mb')).run Try.prog w15 = .ok (.string T) w15 := by rw [hT]; exact (HBb14.out.belowS hb15).text mb'
                        have HB15 := Lib.hid (HB4.out.trans ((HB14.out.trans (hb15.mono HB14.out.size)).mono HB4.out.size))
                        clear hb15 d2 hT H17
                        go_wp2_with fail
                        go_roundw
                        case rel => exact ⟨k4 + 1, Nat.succ_le_of_lt HLt4.out, by go_num, HB15.out⟩
                        case measure => have hh := HLt4.out; simp [intOf]; omega
                      · obtain rfl : k4 = nl := by omega
                        have H19 := Lib.hid (lost_any (HD12.out.below HB4.out))
                        rw [HLd.out] at H19
                        have H14 := Lib.hid (fun q => names_any ((HX12.out.below HB4.out).drewN q) (by omega))
                        go_wp2_with fail
                        refine H19.out.mono ?_
                        rintro e w16 ⟨rfl, q, rfl⟩
                        clear H19
                        go_wp2_with fail
                        refine (H14.out q).mono ?_
                        rintro e w17 ⟨v, ns6, rfl, q1, q2, q3, q4⟩
                        obtain rfl : ns4 = ns6 := HLs.out.same q1
                        obtain ⟨Av6, cv6, rfl⟩ : ∃ Av cv, v = .slice Av ns4.length cv := by
                          rcases q2.2 with ⟨e, h0⟩ | ⟨g, cap, cur, e, _⟩
                          · exact ⟨none, 0, by rw [h0]; exact e⟩
                          · exact ⟨_, _, e⟩
                        rw [← HNl.out]
                        have HBe := Lib.hid (HBw12.out.trans ((HB4.out.trans (((below_draws (Below.refl wr.heap.size wr) q).trans q4).mono HB4.out.size)).mono HBw12.out.size))
                        clear q1 q2 q3 q4 H14 HNl
                        have hln6 := fun w' ty => len43 w' ty Av6 k4 cv6
                        go_wp2_with fail
                        go_ret
                        exact ⟨rfl, HBe.out⟩
      · have H8 := Lib.hid (fun w' => new_bad w' cap (by omega))
        have hk2 : decide ((200 : Int) < (n2 : Nat) + (n3 : Nat)) = false := by simp; omega
        clear f1 f2 hc
        go_enter Try.func5, Try.ntmps5
        go_wp2_with (first | (go_at_call 6; refine (H6.out _ (Below.refl _ _)).mono ?_; rintro e w1 ⟨rfl, hb⟩; have HB1 := Lib.hid hb; clear hb) | (go_at_call 7; refine (H71.out _ HB1.out).mono ?_; rintro e w3 ⟨rfl, hb⟩; have HB3 := Lib.hid hb; clear hb HB1) | (go_at_call 8; refine (H8.out _).mono ?_; rintro e w4 ⟨rfl, hb⟩; have HB4 := Lib.hid (HB3.out.trans (hb.mono HB3.out.size)); clear hb))
        go_ret
        exact ⟨rfl, HB4.out⟩
    · have hk2 : decide ((200 : Int) < (n2 : Nat) + (n3 : Nat)) = true := by simp; omega
      clear f1 f2
      go_enter Try.func5, Try.ntmps5
      go_wp2_with fail
      refine (H6.out _ (Below.refl _ _)).mono ?_
      rintro e w1 ⟨rfl, hb⟩
      have HB1 := Lib.hid hb
      clear hb
      go_wp2_with fail
      refine (H71.out _ HB1.out).mono ?_
      rintro e w2 ⟨rfl, hb⟩
      have HB2 := Lib.hid hb
      clear hb
      go_wp2_with fail
      refine (H6.out _ HB2.out).mono ?_
      rintro e w3 ⟨rfl, hb⟩
      go_wp2_with fail
      go_ret
      exact ⟨rfl, hb⟩
  · rw [decide_eq_false f1] at H71
    clear f1
    go_enter Try.func5, Try.ntmps5
    go_wp2_with fail
    refine (H6.out _ (Below.refl _ _)).mono ?_
    rintro e w1 ⟨rfl, hb⟩
    have HB1 := Lib.hid hb
    clear hb
    go_wp2_with fail
    refine (H71.out _ HB1.out).mono ?_
    rintro e w2 ⟨rfl, hb⟩
    have HB2 := Lib.hid hb
    clear hb
    go_wp2_with fail
    refine (H6.out _ HB2.out).mono ?_
    rintro e w3 ⟨rfl, hb⟩
    go_wp2_with fail
    go_ret
    exact ⟨rfl, hb⟩
end Go.Proofs.Ytedhbcaakdfcbaa.disk
