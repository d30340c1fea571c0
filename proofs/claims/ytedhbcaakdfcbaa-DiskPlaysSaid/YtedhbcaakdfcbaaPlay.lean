/- Proves DiskPlays as it is given, for every input, without any condition. (Seven texts in one: a claim has at most 60 files.) -/
import Derived.Test.YtedhbcaakdfcbaaGa
import Derived.Test.YtedhbcaakdfcbaaAf
import Derived.Test.YtedhbcaakdfcbaaFd
import Derived.Test.YtedhbcaakdfcbaaFb
import Derived.Test.YtedhbcaakdfcbaaFf
import Derived.Test.YtedhbcaakdfcbaaBf
import Derived.Test.YtedhbcaakdfcbaaFh
namespace Go.Proofs.Ytedhbcaakdfcbaa.disk
open Go.ChangeShapes Go.WideShapes Go.ChangeAt Go.RowKit Go.Maps Go.WideMaps Go.Sort Go.Shelf
set_option linter.unusedVariables false
set_option linter.unusedSimpArgs false

theorem Ref.drewN {w : World} {base p : Nat} {v : Value} {cap fuse : Int} {lost : Bool} {xs : List RF} (h : Ref w base p v cap fuse lost xs) (q : Nat) : Ref (w.drewN q) base p v cap fuse lost xs := h.belowS (below_draws (Below.refl _ _) q)
theorem fm_mem2 {L : FL} {x : Nm × File} (h : x ∈ L) : (fmL L x.1).isSome = true := by
  induction L with
  | nil => cases h
  | cons y L ih =>
    simp only [fmL, findL] at ih ⊢
    split
    · rfl
    · rename_i hne
      rcases List.mem_cons.1 h with rfl | h
      · exact absurd rfl hne
      · exact ih h
set_option maxRecDepth 50000 in
set_option maxHeartbeats 4000000 in
theorem same_any {w : World} {base p : Nat} {mb : Option Nat} {D : DataW Value} {c : Cfg} {fm : FM} {N base2 p2 : Nat} {v : Value} {cap fuse : Int} {lost : Bool} {xs : List RF} (hd : Dsk w base p mb D c fm N) (hr : Ref w base2 p2 v cap fuse lost xs) (hc : Cor cap fuse lost (absF xs) c fm) (hN : N ≤ 1000000) (hlen : ∀ x ∈ xs, x.n ≤ 1000000) :
    Calls Try.prog 12 #[.pointer (some ⟨p, 0, none⟩), .pointer (some ⟨p2, 0, none⟩)] w fun e w' => e = .returned (.bool true) ∧ Below w.heap.size w w' := by
  have hle : ∀ x ∈ absF xs, x.1.length ≤ maxLen := fun x hx => by
    have h1 : (fm x.1).isSome = true := by
      rw [hc.fm_]
      exact fm_mem2 hx
    exact Nat.le_trans (hd.short _ h1) (by unfold maxLen; omega)
  have hls := listed_abs hc.rise hle
  rw [← hc.fm_] at hls
  have htot := tot_abs (fun x hx => (hr.bytes x hx).1)
  have hrm : wrap64 (c.cap - c.used) = cap - (totX xs : Nat) := by
    rw [hc.cap_, hc.used, htot]
    have := hc.tot
    have := hc.capb
    exact IntWalk.wrap64_in _ (by omega)
  have H14 := Lib.hid (names_any hd hN)
  have HD := Lib.hid hd
  have HR := Lib.hid hr
  have HC := Lib.hid hc
  have HLS := Lib.hid hls
  have HRM := Lib.hid hrm
  have HLE := Lib.hid hlen
  have HT := Lib.hid (show totX xs ≤ 100000000 by have := hc.tot; have := hc.capb; omega)
  clear hd hr hc hle hls htot hrm hlen hN
  go_enter Try.func12, Try.ntmps12
  go_wp2_with fail
  refine H14.out.mono ?_
  rintro e w1 ⟨vn, ns, rfl, q1, q2, q3, q4⟩
  have hns : ns = (absF xs).map (·.1) := q1.same HLS.out
  have hnl : ns.length = xs.length := by rw [hns]; simp [absF]
  have HLs := Lib.hid q1
  obtain ⟨Av, cv, rfl⟩ : ∃ Av cv, vn = .slice Av ns.length cv := by
    rcases q2.2 with ⟨e, h0⟩ | ⟨g, cap, cur, e, _⟩
    · exact ⟨none, 0, by rw [h0]; exact e⟩
    · exact ⟨_, _, e⟩
  obtain ⟨nl, hnl2⟩ : ∃ nl, nl = ns.length := ⟨_, rfl⟩
  rw [← hnl2] at q2 hnl ⊢
  have HN1 := Lib.hid (namesAt_of (by rw [← hnl2]; exact q2) hnl2.symm)
  have HD1 := Lib.hid (HD.out.below q4)
  have HR1 := Lib.hid (HR.out.belowS q4)
  have HB1 := Lib.hid q4
  have hfew : nl ≤ 1000 := by rw [hnl]; exact HR.out.few
  have HNS := Lib.hid hns
  obtain ⟨A2, cp2, hv2, hcp2, _, _⟩ := HR1.out.form
  have hd2 := HR1.out.facts
  rw [hv2, ← hnl] at hd2
  obtain ⟨d0, d1, d2, d3, hfz⟩ := hd2
  have HV2 := Lib.hid hv2
  have HNL := Lib.hid hnl
  have hplt := HR1.out.lt
  have HD3 := Lib.hid d3
  have HD1c := Lib.hid d1
  clear q1 q2 q3 q4 hnl2 hns hv2 hnl d0 d2 hfz hcp2 H14
  have H15 := Lib.hid (fun q => room_any (HD1.out.drewN q))
  have H29 := Lib.hid (fun q => refRoom_any (HR1.out.drewN q) HC.out.capb.1 HC.out.capb.2 HT.out)
  have H19 := Lib.hid (fun q => lost_any (HD1.out.drewN q))
  rw [HRM.out] at H15
  rw [HC.out.lost_] at H19
  have g1 : ((nl : Int) != (nl : Int)) = false := by simp
  have g2 : ((cap - (totX xs : Nat) : Int) != (cap - (totX xs : Nat) : Int)) = false := by simp
  have g3 : (lost != lost) = false := by simp
  have hln := fun w' ty => len43 w' ty Av nl cv
  go_wp2_with fail
  go_quiet (first | (go_at_call 15; exact Calls.quiet_of (H15.out _)) | (go_at_call 29; exact Calls.quiet_of_same ((H29.out _).mono fun _ _ h => ⟨h.1, h.2.symm⟩)) | (go_at_call 19; exact Calls.quiet_of (H19.out _)))
  go_wp2_with fail
  generalize hw3 : w1.drewN nq = w3
  have HD3 := Lib.hid (show Dsk w3 base p mb D c fm N from hw3 ▸ HD1.out.drewN nq)
  have HR3 := Lib.hid (show Ref w3 base2 p2 v cap fuse lost xs from hw3 ▸ HR1.out.drewN nq)
  have HN3 := Lib.hid (show NamesAt w3 Av nl ns from HN1.out.below (hw3 ▸ below_draws (Below.refl _ _) nq))
  have HB3 := Lib.hid (show Below w.heap.size w w3 from hw3 ▸ below_draws HB1.out nq)
  clear hw3 HD1 HR1 HN1 HB1 H15 H29 H19 d1 d3 HD1c hln g2
  have hln := fun w' ty => len43 w' ty Av nl cv
  go_loopw [38] (fun i wr => ∃ k : Nat, k ≤ nl ∧ i = .int .i64 k ∧ Hid (Below w3.heap.size w3 wr)) (fun i _ => nl - (intOf i).toNat)
  case atStart => exact ⟨0, Nat.zero_le _, rfl, Below.refl _ _⟩
  case round =>
    obtain ⟨k, hk, rfl, hbr⟩ := hrel
    by_cases hlt : k < nl
    · have hkx : k < xs.length := by rw [← HNL.out]; exact hlt
      have hmem : xs[k] ∈ xs := List.getElem_mem hkx
      have hrw := HR3.out.belowS hbr.out
      have hxb := hrw.bytes _ hmem
      rw [HV2.out] at hrw
      obtain ⟨g, rfl, hgp, _, hgl, c0, c1, c2, c3, _⟩ := hrw.at_ hkx
      obtain ⟨_, e1, _, e3, _⟩ := hrw.facts
      have hgl2 := hrw.lt
      rw [← HNL.out] at e1
      obtain ⟨g1, S, rfl, hS, _, hc1⟩ := (HN3.out.below hbr.out).at_ hlt
      have hSn : S = xs[k].name := by
        have h1 : ns.getD k [] = keyF xs[k] := by
          rw [HNS.out]
          simp [absF, List.getD, hkx]
        apply ByteArray.ext
        apply Array.toList_inj.1
        rw [hS, h1]
        rfl
      subst hSn
      have hfm : fm (keyF xs[k]) = some xs[k].f := by rw [HC.out.fm_]; exact fm_at HC.out.rise hkx
      have hxl := HLE.out _ hmem
      have hwh := whole_abs HC.out.rise (fun x hx => (HR3.out.bytes x hx).1) (keyF xs[k])
      rw [← HC.out.fm_, hfm] at hwh
      generalize xs[k] = y at c0 c1 c2 c3 hxb hfm hxl hwh hS hc1
      obtain ⟨nm, A0, n0, c0', ⟨l0, sf, ev⟩⟩ := y
      simp only [keyF] at c0 c1 c2 c3 hxb hfm hxl hwh hS hc1
      have hl0 : l0.length = n0 := hxb.1
      obtain ⟨bW, hbW⟩ : ∃ b, b = decide (Whole ⟨l0, sf, ev⟩) := ⟨_, rfl⟩
      have hwb : wholeR xs nm.data.toList = bW := by
        rw [hwh, hbW]
        show (ev && decide (sf = l0.length)) = decide (Whole ⟨l0, sf, ev⟩)
        rw [Bool.eq_iff_iff]
        simp [Whole]
      have H16 := Lib.hid (fun w' (hb : Below w3.heap.size w3 w') => read_str nm (HD3.out.below hb) ⟨l0, sf, ev⟩ hfm (by show l0.length ≤ 1000000; omega))
      have H17 := Lib.hid (fun w' (hb : Below w3.heap.size w3 w') => safe_str nm (HD3.out.below hb) ⟨l0, sf, ev⟩ hfm bW hbW)
      have H33 := Lib.hid (fun w' (hb : Below w3.heap.size w3 w') => whole33_any (HR3.out.belowS hb) nm)
      rw [hwb] at H33
      have y1 : (0 : Int) ≤ ((k : Nat) : Int) := by omega
      have y2 : ((k : Nat) : Int) < (nl : Int) := by omega
      have y3 : ((k : Nat) : Int).toNat = k := by omega
      have HXB := Lib.hid hxb
      have HL0 := Lib.hid hl0
      have HLt := Lib.hid hlt
      clear hmem hrw hxb hgp hfm hxl hwh hS hbW hwb hl0 hkx
      have hg1 := block_lt_of_cell hc1
      have hp2 : p2 < wr.heap.size := hgl2
      have kN : ∀ o, (wr.alloc o).cell? ⟨g1, k, none⟩ = some (.string nm) := fun o => by rw [World.cell?_of_block (w := wr) (Below.heap_alloc wr o g1 hg1)]; exact hc1
      have HP3 := Lib.hid e3
      have HG1 := Lib.hid hg1
      have HP2 := Lib.hid hp2
      clear hg1 hp2 hgl2 e3
      go_wp2_with fail
      refine (H16.out _ (hbr.out.alloc hbr.out.size _)).mono ?_
      rintro e w5 ⟨Ab, m, rfl, hBb, hb5⟩
      have hX5 : w5.heap[wr.heap.size]? = some (.cells #[.string nm, .slice A0 n0 c0', .int .i64 (sf : Nat), .bool ev] 60 (0, 0)) := (hb5.block _ (by simp)).trans (heap_alloc_new wr _)
      have hz5 : wr.heap.size < (wr.alloc (.cells #[.string nm, .slice A0 n0 c0', .int .i64 (sf : Nat), .bool ev] 60)).heap.size := by simp
      have HB5 := Lib.hid (show Below w3.heap.size w3 w5 from (hbr.out.alloc hbr.out.size _).trans (hb5.mono (Nat.le_trans hbr.out.size (Nat.le_of_lt hz5))))
      have hbw : Below wr.heap.size wr w5 := ((Below.refl _ _).alloc (Nat.le_refl _) _).trans (hb5.mono (Nat.le_of_lt hz5))
      have HXB5 := Lib.hid (HXB.out.belowS hbw)
      have n1 : w5.cell? ⟨g1, k, none⟩ = some (.string nm) := (hbw.cell (p := ⟨g1, k, none⟩) HG1.out).trans hc1
      have n2 : w5.cell? ⟨p2, 3, none⟩ = some (.bool lost) := (hbw.cell (p := ⟨p2, 3, none⟩) HP2.out).trans HP3.out
      have n3 : w5.cell? ⟨wr.heap.size, 0, none⟩ = some (.string nm) := by simp [World.cell?, hX5]
      have n4 : w5.cell? ⟨wr.heap.size, 0 + 1, none⟩ = some (.slice A0 n0 c0') := by simp [World.cell?, hX5]
      have HBb := Lib.hid hBb
      have hW5 : p2 < w5.heap.size ∧ g1 < w5.heap.size ∧ wr.heap.size < w5.heap.size := ⟨Nat.lt_of_lt_of_le HP2.out hbw.size, Nat.lt_of_lt_of_le HG1.out hbw.size, (Array.getElem?_eq_some_iff.1 hX5).1⟩
      have HFB := Lib.hid (show ∀ w', Below w5.heap.size w5 w' → w'.cell? ⟨g1, k, none⟩ = some (.string nm) ∧ w'.cell? ⟨p2, 3, none⟩ = some (.bool lost) ∧ w'.cell? ⟨wr.heap.size, 0, none⟩ = some (.string nm) ∧ w'.cell? ⟨wr.heap.size, 0 + 1, none⟩ = some (.slice A0 n0 c0') from fun w' hb => ⟨(hb.cell (p := ⟨g1, k, none⟩) hW5.2.1).trans n1, (hb.cell (p := ⟨p2, 3, none⟩) hW5.1).trans n2, (hb.cell (p := ⟨wr.heap.size, 0, none⟩) hW5.2.2).trans n3, (hb.cell (p := ⟨wr.heap.size, 0 + 1, none⟩) hW5.2.2).trans n4⟩)
      obtain ⟨T, hT⟩ : ∃ T, T = textOf l0 := ⟨_, rfl⟩
      have HT0 := Lib.hid (show ∀ w', Below w5.heap.size w5 w' → (convert 33 9 (.slice A0 n0 c0')).run Try.prog w' = .ok (.string T) w' from fun w' hb => by rw [hT]; exact (HXB5.out.belowS hb).text c0')
      have HWr := Lib.hid hbw.size
      clear hX5 hz5 hbw n1 n2 n3 n4 hb5 hBb c0 c1 c2 c3 e1 hc1 kN hgl
      cases lost
      · have hrl : rdL c ⟨l0, sf, ev⟩ = l0 := by unfold rdL; rw [HC.out.lost_]; rfl
        have hre : rdE c = 0 := by unfold rdE; rw [HC.out.lost_]; rfl
        rw [hrl] at HBb
        rw [hre]
        have HT1 := Lib.hid (show ∀ w', Below w5.heap.size w5 w' → (convert 33 9 (.slice Ab m m)).run Try.prog w' = .ok (.string T) w' from fun w' hb => by rw [hT]; exact (HBb.out.belowS hb).text m)
        clear hrl hre hT
        go_wp2_with fail
        refine wp_region_noPanic ?_
        refine wp_region_held_drew (S := fun w' => Below w5.heap.size w5 w') (by kernel_rfl) (below_draws (Below.refl _ _) 1) (fun hHeld => ?_)
        refine wpAnyH_take (i := 0) (v := ?_) rfl (by kernel_rfl) (by kernel_rfl) (by kernel_rfl) (fun _ _ _ h => h) (Or.inl ⟨by kernel_rfl, ?_⟩) hHeld ?_
        rotate_left
        · (intro w' hw'; obtain ⟨z1, z2, z3, z4⟩ := HFB.out w' hw'; go_simp; first | done | with_reducible rfl)
        refine wpAnyH_take (i := 1) (v := ?_) rfl (by kernel_rfl) (by kernel_rfl) (by kernel_rfl) (fun _ _ _ h => h) (Or.inl ⟨by kernel_rfl, ?_⟩) hHeld ?_
        rotate_left
        · (intro w' hw'; obtain ⟨z1, z2, z3, z4⟩ := HFB.out w' hw'; go_simp; first | done | with_reducible rfl)
        refine wpAnyH_take (i := 2) (v := ?_) rfl (by kernel_rfl) (by kernel_rfl) (by kernel_rfl) (fun _ _ _ h => h) (Or.inl ⟨by kernel_rfl, ?_⟩) hHeld ?_
        rotate_left
        · (intro w' hw'; obtain ⟨z1, z2, z3, z4⟩ := HFB.out w' hw'; go_simp; first | done | with_reducible rfl)
        refine wpAnyH_take (i := 3) (v := ?_) rfl (by kernel_rfl) (by kernel_rfl) (by kernel_rfl) (fun _ _ _ h => h) (Or.inl ⟨by kernel_rfl, ?_⟩) hHeld ?_
        rotate_left
        · (intro w' hw'; obtain ⟨z1, z2, z3, z4⟩ := HFB.out w' hw'; go_simp; first | done | with_reducible rfl)
        refine wpAnyH_take (i := 4) (v := ?_) rfl (by kernel_rfl) (by kernel_rfl) (by kernel_rfl) (fun _ _ _ h => h) (Or.inl ⟨by kernel_rfl, ?_⟩) hHeld ?_
        rotate_left
        · (intro w' hw'; obtain ⟨z1, z2, z3, z4⟩ := HFB.out w' hw'; go_simp; first | done | with_reducible rfl)
        refine wpAnyH_take (i := 5) (v := ?_) rfl (by kernel_rfl) (by kernel_rfl) (by kernel_rfl) (fun _ _ _ h => h) (Or.inl ⟨by kernel_rfl, ?_⟩) hHeld ?_
        rotate_left
        · (intro w' hw'; obtain ⟨z1, z2, z3, z4⟩ := HFB.out w' hw'; go_simp; first | done | with_reducible rfl)
        refine wpAnyH_take (i := 6) (v := ?_) rfl (by kernel_rfl) (by kernel_rfl) (by kernel_rfl) (fun _ _ _ h => h) (Or.inl ⟨by kernel_rfl, ?_⟩) hHeld ?_
        rotate_left
        · (intro w' hw'; obtain ⟨z1, z2, z3, z4⟩ := HFB.out w' hw'; go_simp; first | done | with_reducible rfl)
        refine wpAnyH_take (i := 7) (v := ?_) rfl (by kernel_rfl) (by kernel_rfl) (by kernel_rfl) (fun _ _ _ h => h) (Or.inl ⟨by kernel_rfl, ?_⟩) hHeld ?_
        rotate_left
        · (intro w' hw'; obtain ⟨z1, z2, z3, z4⟩ := HFB.out w' hw'; go_simp; first | done | with_reducible rfl)
        refine wpAnyH_take (i := 8) (v := ?_) rfl (by kernel_rfl) (by kernel_rfl) (by kernel_rfl) (fun _ _ _ h => h) (Or.inl ⟨by kernel_rfl, ?_⟩) hHeld ?_
        rotate_left
        · (intro w' hw'; obtain ⟨z1, z2, z3, z4⟩ := HFB.out w' hw'; go_simp; first | done | with_reducible rfl)
        refine wpAnyH_take (i := 9) (v := ?_) rfl (by kernel_rfl) (by kernel_rfl) (by kernel_rfl) (fun _ _ _ h => h) (Or.inl ⟨by kernel_rfl, ?_⟩) hHeld ?_
        rotate_left
        · (intro w' hw'; obtain ⟨z1, z2, z3, z4⟩ := HFB.out w' hw'; go_simp; first | done | with_reducible rfl)
        refine wpAnyH_take (i := 10) (v := ?_) rfl (by kernel_rfl) (by kernel_rfl) (by kernel_rfl) (fun _ _ _ h => h) (Or.inl ⟨by kernel_rfl, ?_⟩) hHeld ?_
        rotate_left
        · (intro w' hw'; obtain ⟨z1, z2, z3, z4⟩ := HFB.out w' hw'; go_simp; first | done | with_reducible rfl)
        refine wpAnyH_take (i := 11) (v := ?_) rfl (by kernel_rfl) (by kernel_rfl) (by kernel_rfl) (fun _ _ _ h => h) (Or.inl ⟨by kernel_rfl, ?_⟩) hHeld ?_
        rotate_left
        · (intro w' hw'; obtain ⟨z1, z2, z3, z4⟩ := HFB.out w' hw'; go_simp; first | done | with_reducible rfl)
        refine wpAnyH_take (i := 12) (v := ?_) rfl (by kernel_rfl) (by kernel_rfl) (by kernel_rfl) (fun _ _ _ h => h) (Or.inl ⟨by kernel_rfl, ?_⟩) hHeld ?_
        rotate_left
        · (intro w' hw'; obtain ⟨z1, z2, z3, z4⟩ := HFB.out w' hw'; go_simp; first | done | with_reducible rfl)
        refine wpAnyH_take (i := 14) (v := ?_) rfl (by kernel_rfl) (by kernel_rfl) (by kernel_rfl) (fun _ _ _ h => h) (Or.inl ⟨by kernel_rfl, ?_⟩) hHeld ?_
        rotate_left
        · (intro w' hw'; obtain ⟨z1, z2, z3, z4⟩ := HFB.out w' hw'; go_simp; first | done | with_reducible rfl)
        refine wpAnyH_take (i := 15) (v := ?_) rfl (by kernel_rfl) (by kernel_rfl) (by kernel_rfl) (fun _ _ _ h => h) (Or.inl ⟨by kernel_rfl, ?_⟩) hHeld ?_
        rotate_left
        · (intro w' hw'; obtain ⟨z1, z2, z3, z4⟩ := HFB.out w' hw'; go_simp; first | done | with_reducible rfl)
        refine wpAnyH_take (i := 16) (v := ?_) rfl (by kernel_rfl) (by kernel_rfl) (by kernel_rfl) (fun _ _ _ h => h) (Or.inl ⟨by kernel_rfl, ?_⟩) hHeld ?_
        rotate_left
        · (intro w' hw'; obtain ⟨z1, z2, z3, z4⟩ := HFB.out w' hw'; go_simp; first | done | with_reducible rfl)
        refine wpAnyH_ready (rs := [13]) (by kernel_rfl) (by simp) ?_
        refine AllReadyH.cons rfl (fun K hK => ?_) AllReadyH.nil
        go_simp
        refine (H17.out _ (HB5.out.trans (hHeld.mono HB5.out.size))).mono ?_
        rintro e w6 ⟨rfl, hb6⟩
        go_wp2_with fail
        refine hK.out _ _ (hHeld.trans (hb6.mono hHeld.size)) (fun hH1 => ?_)
        clear hK K hHeld
        refine wpAnyH_ready (rs := [17]) (by kernel_rfl) (by simp) ?_
        refine AllReadyH.cons rfl (fun K hK => ?_) AllReadyH.nil
        go_simp
        refine (H33.out _ (HB5.out.trans (hH1.mono HB5.out.size))).mono ?_
        rintro e w7 ⟨rfl, q7, rfl⟩
        go_wp2_with fail
        refine hK.out _ _ (below_draws hH1 q7) (fun hH2 => ?_)
        clear hK K hH1
        refine wpAnyH_take (i := 18) (v := ?_) rfl (by kernel_rfl) (by kernel_rfl) (by kernel_rfl) (fun _ _ _ h => h) (Or.inl ⟨by kernel_rfl, ?_⟩) hH2 ?_
        rotate_left
        · (intro w' hw'; obtain ⟨z1, z2, z3, z4⟩ := HFB.out w' hw'; go_simp; first | done | with_reducible rfl)
        refine wpAnyH_take (i := 19) (v := ?_) rfl (by kernel_rfl) (by kernel_rfl) (by kernel_rfl) (fun _ _ _ h => h) (Or.inl ⟨by kernel_rfl, ?_⟩) hH2 ?_
        rotate_left
        · (intro w' hw'; obtain ⟨z1, z2, z3, z4⟩ := HFB.out w' hw'; go_simp; first | done | with_reducible rfl)
        refine wpAnyH_take (i := 20) (v := ?_) rfl (by kernel_rfl) (by kernel_rfl) (by kernel_rfl) (fun _ _ _ h => h) (Or.inl ⟨by kernel_rfl, ?_⟩) hH2 ?_
        rotate_left
        · (intro w' hw'; obtain ⟨z1, z2, z3, z4⟩ := HFB.out w' hw'; go_simp; first | done | with_reducible rfl)
        refine wpAnyH_take (i := 21) (v := ?_) rfl (by kernel_rfl) (by kernel_rfl) (by kernel_rfl) (fun _ _ _ h => h) (Or.inl ⟨by kernel_rfl, ?_⟩) hH2 ?_
        rotate_left
        · (intro w' hw'; obtain ⟨z1, z2, z3, z4⟩ := HFB.out w' hw'; go_simp; first | done | with_reducible rfl)
        refine wpAnyH_take (i := 22) (v := ?_) rfl (by kernel_rfl) (by kernel_rfl) (by kernel_rfl) (fun _ _ _ h => h) (Or.inl ⟨by kernel_rfl, ?_⟩) hH2 ?_
        rotate_left
        · (intro w' hw'; obtain ⟨z1, z2, z3, z4⟩ := HFB.out w' hw'; go_simp; first | done | with_reducible rfl)
        refine wpAnyH_take (i := 23) (v := ?_) rfl (by kernel_rfl) (by kernel_rfl) (by kernel_rfl) (fun _ _ _ h => h) (Or.inl ⟨by kernel_rfl, ?_⟩) hH2 ?_
        rotate_left
        · (intro w' hw'; obtain ⟨z1, z2, z3, z4⟩ := HFB.out w' hw'; go_simp; first | done | with_reducible rfl)
        refine wpAnyH_take (i := 24) (v := ?_) rfl (by kernel_rfl) (by kernel_rfl) (by kernel_rfl) (fun _ _ _ h => h) (Or.inl ⟨by kernel_rfl, ?_⟩) hH2 ?_
        rotate_left
        · (intro w' hw'; obtain ⟨z1, z2, z3, z4⟩ := HFB.out w' hw'; go_simp; first | done | with_reducible rfl)
        refine wpAnyH_take (i := 25) (v := ?_) rfl (by kernel_rfl) (by kernel_rfl) (by kernel_rfl) (fun _ _ _ h => h) (Or.inl ⟨by kernel_rfl, ?_⟩) hH2 ?_
        rotate_left
        · (intro w' hw'; obtain ⟨z1, z2, z3, z4⟩ := HFB.out w' hw'; go_simp; first | done | with_reducible rfl)
        refine wpAnyH_take (i := 26) (v := undef) rfl (by kernel_rfl) (by kernel_rfl) (by kernel_rfl) (fun _ _ _ h => h) (Or.inr ⟨by kernel_rfl, rfl⟩) hH2 ?_
        refine wpAnyH_take (i := 27) (v := undef) rfl (by kernel_rfl) (by kernel_rfl) (by kernel_rfl) (fun _ _ _ h => h) (Or.inr ⟨by kernel_rfl, rfl⟩) hH2 ?_
        refine wpAnyH_take (i := 28) (v := undef) rfl (by kernel_rfl) (by kernel_rfl) (by kernel_rfl) (fun _ _ _ h => h) (Or.inr ⟨by kernel_rfl, rfl⟩) hH2 ?_
        refine wpAnyH_take (i := 29) (v := undef) rfl (by kernel_rfl) (by kernel_rfl) (by kernel_rfl) (fun _ _ _ h => h) (Or.inr ⟨by kernel_rfl, rfl⟩) hH2 ?_
        refine wpAnyH_take (i := 30) (v := undef) rfl (by kernel_rfl) (by kernel_rfl) (by kernel_rfl) (fun _ _ _ h => h) (Or.inr ⟨by kernel_rfl, rfl⟩) hH2 ?_
        refine wpAnyH_take (i := 31) (v := undef) rfl (by kernel_rfl) (by kernel_rfl) (by kernel_rfl) (fun _ _ _ h => h) (Or.inr ⟨by kernel_rfl, rfl⟩) hH2 ?_
        refine wpAnyH_take (i := 32) (v := undef) rfl (by kernel_rfl) (by kernel_rfl) (by kernel_rfl) (fun _ _ _ h => h) (Or.inr ⟨by kernel_rfl, rfl⟩) hH2 ?_
        refine wpAnyH_take (i := 33) (v := ?_) rfl (by kernel_rfl) (by kernel_rfl) (by kernel_rfl) (fun _ _ _ h => h) (Or.inl ⟨by kernel_rfl, ?_⟩) hH2 ?_
        rotate_left
        · (intro w' hw'; obtain ⟨z1, z2, z3, z4⟩ := HFB.out w' hw'; go_simp; first | done | with_reducible rfl)
        refine wpAnyH_take (i := 34) (v := ?_) rfl (by kernel_rfl) (by kernel_rfl) (by kernel_rfl) (fun _ _ _ h => h) (Or.inl ⟨by kernel_rfl, ?_⟩) hH2 ?_
        rotate_left
        · (intro w' hw'; obtain ⟨z1, z2, z3, z4⟩ := HFB.out w' hw'; go_simp; first | done | with_reducible rfl)
        refine wpAnyH_take (i := 35) (v := ?_) rfl (by kernel_rfl) (by kernel_rfl) (by kernel_rfl) (fun _ _ _ h => h) (Or.inl ⟨by kernel_rfl, ?_⟩) hH2 ?_
        rotate_left
        · (intro w' hw'; obtain ⟨z1, z2, z3, z4⟩ := HFB.out w' hw'; go_simp; first | done | with_reducible rfl)
        refine wpAnyH_take (i := 36) (v := ?_) rfl (by kernel_rfl) (by kernel_rfl) (by kernel_rfl) (fun _ _ _ h => h) (Or.inl ⟨by kernel_rfl, ?_⟩) hH2 ?_
        rotate_left
        · (intro w' hw'; obtain ⟨z1, z2, z3, z4⟩ := HFB.out w' hw'; go_simp; first | done | with_reducible rfl)
        refine wpAnyH_take (i := 37) (v := ?_) rfl (by kernel_rfl) (by kernel_rfl) (by kernel_rfl) (fun _ _ _ h => h) (Or.inl ⟨by kernel_rfl, ?_⟩) hH2 ?_
        rotate_left
        · (intro w' hw'; obtain ⟨z1, z2, z3, z4⟩ := HFB.out w' hw'; go_simp; first | done | with_reducible rfl)
        refine wpAnyH_take (i := 38) (v := ?_) rfl (by kernel_rfl) (by kernel_rfl) (by kernel_rfl) (fun _ _ _ h => h) (Or.inl ⟨by kernel_rfl, ?_⟩) hH2 ?_
        rotate_left
        · (intro w' hw'; obtain ⟨z1, z2, z3, z4⟩ := HFB.out w' hw'; go_simp; first | done | with_reducible rfl)
        refine wpAnyH_take (i := 39) (v := ?_) rfl (by kernel_rfl) (by kernel_rfl) (by kernel_rfl) (fun _ _ _ h => h) (Or.inl ⟨by kernel_rfl, ?_⟩) hH2 ?_
        rotate_left
        · (intro w' hw'; obtain ⟨z1, z2, z3, z4⟩ := HFB.out w' hw'; go_simp; first | done | with_reducible rfl)
        refine wpAnyH_take (i := 40) (v := ?_) rfl (by kernel_rfl) (by kernel_rfl) (by kernel_rfl) (fun _ _ _ h => h) (Or.inl ⟨by kernel_rfl, ?_⟩) hH2 ?_
        rotate_left
        · (intro w' hw'; obtain ⟨z1, z2, z3, z4⟩ := HFB.out w' hw'; go_simp; first | done | with_reducible rfl)
        refine wpAnyH_take (i := 41) (v := ?_) rfl (by kernel_rfl) (by kernel_rfl) (by kernel_rfl) (fun _ _ _ h => h) (Or.inl ⟨by kernel_rfl, ?_⟩) hH2 ?_
        rotate_left
        · (intro w' hw'; obtain ⟨z1, z2, z3, z4⟩ := HFB.out w' hw'; go_simp; first | done | with_reducible rfl)
        refine wpAnyH_take (i := 42) (v := ?_) rfl (by kernel_rfl) (by kernel_rfl) (by kernel_rfl) (fun _ _ _ h => h) (Or.inl ⟨by kernel_rfl, ?_⟩) hH2 ?_
        rotate_left
        · (intro w' hw'; obtain ⟨z1, z2, z3, z4⟩ := HFB.out w' hw'; go_simp; first | done | with_reducible rfl)
        refine wpAnyH_take (i := 43) (v := ?_) rfl (by kernel_rfl) (by kernel_rfl) (by kernel_rfl) (fun _ _ _ h => h) (Or.inl ⟨by kernel_rfl, ?_⟩) hH2 ?_
        rotate_left
        · (intro w' hw'; obtain ⟨z1, z2, z3, z4⟩ := HFB.out w' hw'; go_simp; first | done | with_reducible rfl)
        refine wpAnyH_take (i := 44) (v := ?_) rfl (by kernel_rfl) (by kernel_rfl) (by kernel_rfl) (fun _ _ _ h => h) (Or.inl ⟨by kernel_rfl, ?_⟩) hH2 ?_
        rotate_left
        · (intro w' hw'; obtain ⟨z1, z2, z3, z4⟩ := HFB.out w' hw'; go_simp; first | done | with_reducible rfl)
        refine wpAnyH_take (i := 45) (v := ?_) rfl (by kernel_rfl) (by kernel_rfl) (by kernel_rfl) (fun _ _ _ h => h) (Or.inl ⟨by kernel_rfl, ?_⟩) hH2 ?_
        rotate_left
        · (intro w' hw'; obtain ⟨z1, z2, z3, z4⟩ := HFB.out w' hw'; go_simp; first | done | with_reducible rfl)
        refine wpAnyH_take (i := 46) (v := ?_) rfl (by kernel_rfl) (by kernel_rfl) (by kernel_rfl) (fun _ _ _ h => h) (Or.inl ⟨by kernel_rfl, ?_⟩) hH2 ?_
        rotate_left
        · (intro w' hw'; have z5 := HT1.out w' hw'; go_simp; first | done | with_reducible rfl)
        refine wpAnyH_take (i := 47) (v := ?_) rfl (by kernel_rfl) (by kernel_rfl) (by kernel_rfl) (fun _ _ _ h => h) (Or.inl ⟨by kernel_rfl, ?_⟩) hH2 ?_
        rotate_left
        · (intro w' hw'; obtain ⟨z1, z2, z3, z4⟩ := HFB.out w' hw'; go_simp; first | done | with_reducible rfl)
        refine wpAnyH_take (i := 48) (v := ?_) rfl (by kernel_rfl) (by kernel_rfl) (by kernel_rfl) (fun _ _ _ h => h) (Or.inl ⟨by kernel_rfl, ?_⟩) hH2 ?_
        rotate_left
        · (intro w' hw'; obtain ⟨z1, z2, z3, z4⟩ := HFB.out w' hw'; go_simp; first | done | with_reducible rfl)
        refine wpAnyH_take (i := 49) (v := ?_) rfl (by kernel_rfl) (by kernel_rfl) (by kernel_rfl) (fun _ _ _ h => h) (Or.inl ⟨by kernel_rfl, ?_⟩) hH2 ?_
        rotate_left
        · (intro w' hw'; have z5 := HT0.out w' hw'; go_simp; first | done | with_reducible rfl)
        refine wpAnyH_take (i := 50) (v := ?_) rfl (by kernel_rfl) (by kernel_rfl) (by kernel_rfl) (fun _ _ _ h => h) (Or.inl ⟨by kernel_rfl, ?_⟩) hH2 ?_
        rotate_left
        · (intro w' hw'; obtain ⟨z1, z2, z3, z4⟩ := HFB.out w' hw'; go_simp; first | done | with_reducible rfl)
        refine wpAnyH_take (i := 51) (v := ?_) rfl (by kernel_rfl) (by kernel_rfl) (by kernel_rfl) (fun _ _ _ h => h) (Or.inl ⟨by kernel_rfl, ?_⟩) hH2 ?_
        rotate_left
        · (intro w' hw'; obtain ⟨z1, z2, z3, z4⟩ := HFB.out w' hw'; go_simp; first | done | with_reducible rfl)
        refine wpAnyH_take (i := 52) (v := ?_) rfl (by kernel_rfl) (by kernel_rfl) (by kernel_rfl) (fun _ _ _ h => h) (Or.inl ⟨by kernel_rfl, ?_⟩) hH2 ?_
        rotate_left
        · (intro w' hw'; obtain ⟨z1, z2, z3, z4⟩ := HFB.out w' hw'; go_simp; first | done | with_reducible rfl)
        refine wpAnyH_take (i := 53) (v := ?_) rfl (by kernel_rfl) (by kernel_rfl) (by kernel_rfl) (fun _ _ _ h => h) (Or.inl ⟨by kernel_rfl, ?_⟩) hH2 ?_
        rotate_left
        · (intro w' hw'; obtain ⟨z1, z2, z3, z4⟩ := HFB.out w' hw'; go_simp; first | done | with_reducible rfl)
        refine wpAnyH_done (by kernel_rfl) ?_ _
        refine NoPanic.normal ?_
        go_simp
        go_wp2_with fail
        go_roundw
        case rel => exact ⟨k + 1, Nat.succ_le_of_lt HLt.out, by go_num, HB5.out.trans (Below.mono hH2 HB5.out.size)⟩
        case measure => have hh := HLt.out; simp [intOf]; omega
      · have hrl : rdL c ⟨l0, sf, ev⟩ = [] := by unfold rdL; rw [HC.out.lost_]; rfl
        have hre : rdE c = 6 := by unfold rdE; rw [HC.out.lost_]; rfl
        rw [hrl] at HBb
        rw [hre]
        obtain rfl : m = 0 := HBb.out.1.symm
        clear hrl hre hT
        go_wp2_with fail
        refine wp_region_noPanic ?_
        refine wp_region_held_drew (S := fun w' => Below w5.heap.size w5 w') (by kernel_rfl) (below_draws (Below.refl _ _) 1) (fun hHeld => ?_)
        refine wpAnyH_take (i := 0) (v := ?_) rfl (by kernel_rfl) (by kernel_rfl) (by kernel_rfl) (fun _ _ _ h => h) (Or.inl ⟨by kernel_rfl, ?_⟩) hHeld ?_
        rotate_left
        · (intro w' hw'; obtain ⟨z1, z2, z3, z4⟩ := HFB.out w' hw'; go_simp; first | done | with_reducible rfl)
        refine wpAnyH_take (i := 1) (v := ?_) rfl (by kernel_rfl) (by kernel_rfl) (by kernel_rfl) (fun _ _ _ h => h) (Or.inl ⟨by kernel_rfl, ?_⟩) hHeld ?_
        rotate_left
        · (intro w' hw'; obtain ⟨z1, z2, z3, z4⟩ := HFB.out w' hw'; go_simp; first | done | with_reducible rfl)
        refine wpAnyH_take (i := 2) (v := ?_) rfl (by kernel_rfl) (by kernel_rfl) (by kernel_rfl) (fun _ _ _ h => h) (Or.inl ⟨by kernel_rfl, ?_⟩) hHeld ?_
        rotate_left
        · (intro w' hw'; obtain ⟨z1, z2, z3, z4⟩ := HFB.out w' hw'; go_simp; first | done | with_reducible rfl)
        refine wpAnyH_take (i := 3) (v := ?_) rfl (by kernel_rfl) (by kernel_rfl) (by kernel_rfl) (fun _ _ _ h => h) (Or.inl ⟨by kernel_rfl, ?_⟩) hHeld ?_
        rotate_left
        · (intro w' hw'; obtain ⟨z1, z2, z3, z4⟩ := HFB.out w' hw'; go_simp; first | done | with_reducible rfl)
        refine wpAnyH_take (i := 4) (v := ?_) rfl (by kernel_rfl) (by kernel_rfl) (by kernel_rfl) (fun _ _ _ h => h) (Or.inl ⟨by kernel_rfl, ?_⟩) hHeld ?_
        rotate_left
        · (intro w' hw'; obtain ⟨z1, z2, z3, z4⟩ := HFB.out w' hw'; go_simp; first | done | with_reducible rfl)
        refine wpAnyH_take (i := 5) (v := ?_) rfl (by kernel_rfl) (by kernel_rfl) (by kernel_rfl) (fun _ _ _ h => h) (Or.inl ⟨by kernel_rfl, ?_⟩) hHeld ?_
        rotate_left
        · (intro w' hw'; obtain ⟨z1, z2, z3, z4⟩ := HFB.out w' hw'; go_simp; first | done | with_reducible rfl)
        refine wpAnyH_take (i := 6) (v := ?_) rfl (by kernel_rfl) (by kernel_rfl) (by kernel_rfl) (fun _ _ _ h => h) (Or.inl ⟨by kernel_rfl, ?_⟩) hHeld ?_
        rotate_left
        · (intro w' hw'; obtain ⟨z1, z2, z3, z4⟩ := HFB.out w' hw'; go_simp; first | done | with_reducible rfl)
        refine wpAnyH_take (i := 7) (v := ?_) rfl (by kernel_rfl) (by kernel_rfl) (by kernel_rfl) (fun _ _ _ h => h) (Or.inl ⟨by kernel_rfl, ?_⟩) hHeld ?_
        rotate_left
        · (intro w' hw'; obtain ⟨z1, z2, z3, z4⟩ := HFB.out w' hw'; go_simp; first | done | with_reducible rfl)
        refine wpAnyH_take (i := 8) (v := ?_) rfl (by kernel_rfl) (by kernel_rfl) (by kernel_rfl) (fun _ _ _ h => h) (Or.inl ⟨by kernel_rfl, ?_⟩) hHeld ?_
        rotate_left
        · (intro w' hw'; obtain ⟨z1, z2, z3, z4⟩ := HFB.out w' hw'; go_simp; first | done | with_reducible rfl)
        refine wpAnyH_take (i := 9) (v := ?_) rfl (by kernel_rfl) (by kernel_rfl) (by kernel_rfl) (fun _ _ _ h => h) (Or.inl ⟨by kernel_rfl, ?_⟩) hHeld ?_
        rotate_left
        · (intro w' hw'; obtain ⟨z1, z2, z3, z4⟩ := HFB.out w' hw'; go_simp; first | done | with_reducible rfl)
        refine wpAnyH_take (i := 10) (v := ?_) rfl (by kernel_rfl) (by kernel_rfl) (by kernel_rfl) (fun _ _ _ h => h) (Or.inl ⟨by kernel_rfl, ?_⟩) hHeld ?_
        rotate_left
        · (intro w' hw'; obtain ⟨z1, z2, z3, z4⟩ := HFB.out w' hw'; go_simp; first | done | with_reducible rfl)
        refine wpAnyH_take (i := 11) (v := ?_) rfl (by kernel_rfl) (by kernel_rfl) (by kernel_rfl) (fun _ _ _ h => h) (Or.inl ⟨by kernel_rfl, ?_⟩) hHeld ?_
        rotate_left
        · (intro w' hw'; obtain ⟨z1, z2, z3, z4⟩ := HFB.out w' hw'; go_simp; first | done | with_reducible rfl)
        refine wpAnyH_take (i := 12) (v := ?_) rfl (by kernel_rfl) (by kernel_rfl) (by kernel_rfl) (fun _ _ _ h => h) (Or.inl ⟨by kernel_rfl, ?_⟩) hHeld ?_
        rotate_left
        · (intro w' hw'; obtain ⟨z1, z2, z3, z4⟩ := HFB.out w' hw'; go_simp; first | done | with_reducible rfl)
        refine wpAnyH_take (i := 14) (v := ?_) rfl (by kernel_rfl) (by kernel_rfl) (by kernel_rfl) (fun _ _ _ h => h) (Or.inl ⟨by kernel_rfl, ?_⟩) hHeld ?_
        rotate_left
        · (intro w' hw'; obtain ⟨z1, z2, z3, z4⟩ := HFB.out w' hw'; go_simp; first | done | with_reducible rfl)
        refine wpAnyH_take (i := 15) (v := ?_) rfl (by kernel_rfl) (by kernel_rfl) (by kernel_rfl) (fun _ _ _ h => h) (Or.inl ⟨by kernel_rfl, ?_⟩) hHeld ?_
        rotate_left
        · (intro w' hw'; obtain ⟨z1, z2, z3, z4⟩ := HFB.out w' hw'; go_simp; first | done | with_reducible rfl)
        refine wpAnyH_take (i := 16) (v := ?_) rfl (by kernel_rfl) (by kernel_rfl) (by kernel_rfl) (fun _ _ _ h => h) (Or.inl ⟨by kernel_rfl, ?_⟩) hHeld ?_
        rotate_left
        · (intro w' hw'; obtain ⟨z1, z2, z3, z4⟩ := HFB.out w' hw'; go_simp; first | done | with_reducible rfl)
        refine wpAnyH_ready (rs := [13]) (by kernel_rfl) (by simp) ?_
        refine AllReadyH.cons rfl (fun K hK => ?_) AllReadyH.nil
        go_simp
        refine (H17.out _ (HB5.out.trans (hHeld.mono HB5.out.size))).mono ?_
        rintro e w6 ⟨rfl, hb6⟩
        go_wp2_with fail
        refine hK.out _ _ (hHeld.trans (hb6.mono hHeld.size)) (fun hH1 => ?_)
        clear hK K hHeld
        refine wpAnyH_ready (rs := [17]) (by kernel_rfl) (by simp) ?_
        refine AllReadyH.cons rfl (fun K hK => ?_) AllReadyH.nil
        go_simp
        refine (H33.out _ (HB5.out.trans (hH1.mono HB5.out.size))).mono ?_
        rintro e w7 ⟨rfl, q7, rfl⟩
        go_wp2_with fail
        refine hK.out _ _ (below_draws hH1 q7) (fun hH2 => ?_)
        clear hK K hH1
        refine wpAnyH_take (i := 18) (v := ?_) rfl (by kernel_rfl) (by kernel_rfl) (by kernel_rfl) (fun _ _ _ h => h) (Or.inl ⟨by kernel_rfl, ?_⟩) hH2 ?_
        rotate_left
        · (intro w' hw'; obtain ⟨z1, z2, z3, z4⟩ := HFB.out w' hw'; go_simp; first | done | with_reducible rfl)
        refine wpAnyH_take (i := 19) (v := ?_) rfl (by kernel_rfl) (by kernel_rfl) (by kernel_rfl) (fun _ _ _ h => h) (Or.inl ⟨by kernel_rfl, ?_⟩) hH2 ?_
        rotate_left
        · (intro w' hw'; obtain ⟨z1, z2, z3, z4⟩ := HFB.out w' hw'; go_simp; first | done | with_reducible rfl)
        refine wpAnyH_take (i := 20) (v := ?_) rfl (by kernel_rfl) (by kernel_rfl) (by kernel_rfl) (fun _ _ _ h => h) (Or.inl ⟨by kernel_rfl, ?_⟩) hH2 ?_
        rotate_left
        · (intro w' hw'; obtain ⟨z1, z2, z3, z4⟩ := HFB.out w' hw'; go_simp; first | done | with_reducible rfl)
        refine wpAnyH_take (i := 21) (v := ?_) rfl (by kernel_rfl) (by kernel_rfl) (by kernel_rfl) (fun _ _ _ h => h) (Or.inl ⟨by kernel_rfl, ?_⟩) hH2 ?_
        rotate_left
        · (intro w' hw'; obtain ⟨z1, z2, z3, z4⟩ := HFB.out w' hw'; go_simp; first | done | with_reducible rfl)
        refine wpAnyH_take (i := 22) (v := ?_) rfl (by kernel_rfl) (by kernel_rfl) (by kernel_rfl) (fun _ _ _ h => h) (Or.inl ⟨by kernel_rfl, ?_⟩) hH2 ?_
        rotate_left
        · (intro w' hw'; obtain ⟨z1, z2, z3, z4⟩ := HFB.out w' hw'; go_simp; first | done | with_reducible rfl)
        refine wpAnyH_take (i := 23) (v := ?_) rfl (by kernel_rfl) (by kernel_rfl) (by kernel_rfl) (fun _ _ _ h => h) (Or.inl ⟨by kernel_rfl, ?_⟩) hH2 ?_
        rotate_left
        · (intro w' hw'; obtain ⟨z1, z2, z3, z4⟩ := HFB.out w' hw'; go_simp; first | done | with_reducible rfl)
        refine wpAnyH_take (i := 24) (v := ?_) rfl (by kernel_rfl) (by kernel_rfl) (by kernel_rfl) (fun _ _ _ h => h) (Or.inl ⟨by kernel_rfl, ?_⟩) hH2 ?_
        rotate_left
        · (intro w' hw'; obtain ⟨z1, z2, z3, z4⟩ := HFB.out w' hw'; go_simp; first | done | with_reducible rfl)
        refine wpAnyH_take (i := 25) (v := ?_) rfl (by kernel_rfl) (by kernel_rfl) (by kernel_rfl) (fun _ _ _ h => h) (Or.inl ⟨by kernel_rfl, ?_⟩) hH2 ?_
        rotate_left
        · (intro w' hw'; obtain ⟨z1, z2, z3, z4⟩ := HFB.out w' hw'; go_simp; first | done | with_reducible rfl)
        refine wpAnyH_take (i := 26) (v := ?_) rfl (by kernel_rfl) (by kernel_rfl) (by kernel_rfl) (fun _ _ _ h => h) (Or.inl ⟨by kernel_rfl, ?_⟩) hH2 ?_
        rotate_left
        · (intro w' hw'; obtain ⟨z1, z2, z3, z4⟩ := HFB.out w' hw'; go_simp; first | done | with_reducible rfl)
        refine wpAnyH_take (i := 27) (v := ?_) rfl (by kernel_rfl) (by kernel_rfl) (by kernel_rfl) (fun _ _ _ h => h) (Or.inl ⟨by kernel_rfl, ?_⟩) hH2 ?_
        rotate_left
        · (intro w' hw'; obtain ⟨z1, z2, z3, z4⟩ := HFB.out w' hw'; go_simp; first | done | with_reducible rfl)
        refine wpAnyH_take (i := 28) (v := ?_) rfl (by kernel_rfl) (by kernel_rfl) (by kernel_rfl) (fun _ _ _ h => h) (Or.inl ⟨by kernel_rfl, ?_⟩) hH2 ?_
        rotate_left
        · (intro w' hw'; obtain ⟨z1, z2, z3, z4⟩ := HFB.out w' hw'; go_simp; first | done | with_reducible rfl)
        refine wpAnyH_take (i := 29) (v := ?_) rfl (by kernel_rfl) (by kernel_rfl) (by kernel_rfl) (fun _ _ _ h => h) (Or.inl ⟨by kernel_rfl, ?_⟩) hH2 ?_
        rotate_left
        · (intro w' hw'; obtain ⟨z1, z2, z3, z4⟩ := HFB.out w' hw'; go_simp; first | done | with_reducible rfl)
        refine wpAnyH_take (i := 30) (v := ?_) rfl (by kernel_rfl) (by kernel_rfl) (by kernel_rfl) (fun _ _ _ h => h) (Or.inl ⟨by kernel_rfl, ?_⟩) hH2 ?_
        rotate_left
        · (intro w' hw'; obtain ⟨z1, z2, z3, z4⟩ := HFB.out w' hw'; go_simp; first | done | with_reducible rfl)
        refine wpAnyH_take (i := 31) (v := ?_) rfl (by kernel_rfl) (by kernel_rfl) (by kernel_rfl) (fun _ _ _ h => h) (Or.inl ⟨by kernel_rfl, ?_⟩) hH2 ?_
        rotate_left
        · (intro w' hw'; obtain ⟨z1, z2, z3, z4⟩ := HFB.out w' hw'; go_simp; first | done | with_reducible rfl)
        refine wpAnyH_take (i := 32) (v := ?_) rfl (by kernel_rfl) (by kernel_rfl) (by kernel_rfl) (fun _ _ _ h => h) (Or.inl ⟨by kernel_rfl, ?_⟩) hH2 ?_
        rotate_left
        · (intro w' hw'; obtain ⟨z1, z2, z3, z4⟩ := HFB.out w' hw'; go_simp; first | done | with_reducible rfl)
        refine wpAnyH_take (i := 33) (v := ?_) rfl (by kernel_rfl) (by kernel_rfl) (by kernel_rfl) (fun _ _ _ h => h) (Or.inl ⟨by kernel_rfl, ?_⟩) hH2 ?_
        rotate_left
        · (intro w' hw'; obtain ⟨z1, z2, z3, z4⟩ := HFB.out w' hw'; go_simp; first | done | with_reducible rfl)
        refine wpAnyH_take (i := 34) (v := ?_) rfl (by kernel_rfl) (by kernel_rfl) (by kernel_rfl) (fun _ _ _ h => h) (Or.inl ⟨by kernel_rfl, ?_⟩) hH2 ?_
        rotate_left
        · (intro w' hw'; obtain ⟨z1, z2, z3, z4⟩ := HFB.out w' hw'; go_simp; first | done | with_reducible rfl)
        refine wpAnyH_take (i := 35) (v := ?_) rfl (by kernel_rfl) (by kernel_rfl) (by kernel_rfl) (fun _ _ _ h => h) (Or.inl ⟨by kernel_rfl, ?_⟩) hH2 ?_
        rotate_left
        · (intro w' hw'; obtain ⟨z1, z2, z3, z4⟩ := HFB.out w' hw'; go_simp; first | done | with_reducible rfl)
        refine wpAnyH_take (i := 36) (v := ?_) rfl (by kernel_rfl) (by kernel_rfl) (by kernel_rfl) (fun _ _ _ h => h) (Or.inl ⟨by kernel_rfl, ?_⟩) hH2 ?_
        rotate_left
        · (intro w' hw'; obtain ⟨z1, z2, z3, z4⟩ := HFB.out w' hw'; go_simp; first | done | with_reducible rfl)
        refine wpAnyH_take (i := 37) (v := ?_) rfl (by kernel_rfl) (by kernel_rfl) (by kernel_rfl) (fun _ _ _ h => h) (Or.inl ⟨by kernel_rfl, ?_⟩) hH2 ?_
        rotate_left
        · (intro w' hw'; obtain ⟨z1, z2, z3, z4⟩ := HFB.out w' hw'; go_simp; first | done | with_reducible rfl)
        refine wpAnyH_take (i := 38) (v := ?_) rfl (by kernel_rfl) (by kernel_rfl) (by kernel_rfl) (fun _ _ _ h => h) (Or.inl ⟨by kernel_rfl, ?_⟩) hH2 ?_
        rotate_left
        · (intro w' hw'; obtain ⟨z1, z2, z3, z4⟩ := HFB.out w' hw'; go_simp; first | done | with_reducible rfl)
        refine wpAnyH_take (i := 39) (v := ?_) rfl (by kernel_rfl) (by kernel_rfl) (by kernel_rfl) (fun _ _ _ h => h) (Or.inl ⟨by kernel_rfl, ?_⟩) hH2 ?_
        rotate_left
        · (intro w' hw'; obtain ⟨z1, z2, z3, z4⟩ := HFB.out w' hw'; go_simp; first | done | with_reducible rfl)
        refine wpAnyH_take (i := 40) (v := ?_) rfl (by kernel_rfl) (by kernel_rfl) (by kernel_rfl) (fun _ _ _ h => h) (Or.inl ⟨by kernel_rfl, ?_⟩) hH2 ?_
        rotate_left
        · (intro w' hw'; obtain ⟨z1, z2, z3, z4⟩ := HFB.out w' hw'; go_simp; first | done | with_reducible rfl)
        refine wpAnyH_take (i := 41) (v := ?_) rfl (by kernel_rfl) (by kernel_rfl) (by kernel_rfl) (fun _ _ _ h => h) (Or.inl ⟨by kernel_rfl, ?_⟩) hH2 ?_
        rotate_left
        · (intro w' hw'; obtain ⟨z1, z2, z3, z4⟩ := HFB.out w' hw'; go_simp; first | done | with_reducible rfl)
        refine wpAnyH_take (i := 42) (v := undef) rfl (by kernel_rfl) (by kernel_rfl) (by kernel_rfl) (fun _ _ _ h => h) (Or.inr ⟨by kernel_rfl, rfl⟩) hH2 ?_
        refine wpAnyH_take (i := 43) (v := undef) rfl (by kernel_rfl) (by kernel_rfl) (by kernel_rfl) (fun _ _ _ h => h) (Or.inr ⟨by kernel_rfl, rfl⟩) hH2 ?_
        refine wpAnyH_take (i := 44) (v := undef) rfl (by kernel_rfl) (by kernel_rfl) (by kernel_rfl) (fun _ _ _ h => h) (Or.inr ⟨by kernel_rfl, rfl⟩) hH2 ?_
        refine wpAnyH_take (i := 45) (v := undef) rfl (by kernel_rfl) (by kernel_rfl) (by kernel_rfl) (fun _ _ _ h => h) (Or.inr ⟨by kernel_rfl, rfl⟩) hH2 ?_
        refine wpAnyH_take (i := 46) (v := undef) rfl (by kernel_rfl) (by kernel_rfl) (by kernel_rfl) (fun _ _ _ h => h) (Or.inr ⟨by kernel_rfl, rfl⟩) hH2 ?_
        refine wpAnyH_take (i := 47) (v := undef) rfl (by kernel_rfl) (by kernel_rfl) (by kernel_rfl) (fun _ _ _ h => h) (Or.inr ⟨by kernel_rfl, rfl⟩) hH2 ?_
        refine wpAnyH_take (i := 48) (v := undef) rfl (by kernel_rfl) (by kernel_rfl) (by kernel_rfl) (fun _ _ _ h => h) (Or.inr ⟨by kernel_rfl, rfl⟩) hH2 ?_
        refine wpAnyH_take (i := 49) (v := undef) rfl (by kernel_rfl) (by kernel_rfl) (by kernel_rfl) (fun _ _ _ h => h) (Or.inr ⟨by kernel_rfl, rfl⟩) hH2 ?_
        refine wpAnyH_take (i := 50) (v := undef) rfl (by kernel_rfl) (by kernel_rfl) (by kernel_rfl) (fun _ _ _ h => h) (Or.inr ⟨by kernel_rfl, rfl⟩) hH2 ?_
        refine wpAnyH_take (i := 51) (v := undef) rfl (by kernel_rfl) (by kernel_rfl) (by kernel_rfl) (fun _ _ _ h => h) (Or.inr ⟨by kernel_rfl, rfl⟩) hH2 ?_
        refine wpAnyH_take (i := 52) (v := ?_) rfl (by kernel_rfl) (by kernel_rfl) (by kernel_rfl) (fun _ _ _ h => h) (Or.inl ⟨by kernel_rfl, ?_⟩) hH2 ?_
        rotate_left
        · (intro w' hw'; obtain ⟨z1, z2, z3, z4⟩ := HFB.out w' hw'; go_simp; first | done | with_reducible rfl)
        refine wpAnyH_take (i := 53) (v := ?_) rfl (by kernel_rfl) (by kernel_rfl) (by kernel_rfl) (fun _ _ _ h => h) (Or.inl ⟨by kernel_rfl, ?_⟩) hH2 ?_
        rotate_left
        · (intro w' hw'; obtain ⟨z1, z2, z3, z4⟩ := HFB.out w' hw'; go_simp; first | done | with_reducible rfl)
        refine wpAnyH_done (by kernel_rfl) ?_ _
        refine NoPanic.normal ?_
        go_simp
        go_wp2_with fail
        go_roundw
        case rel => exact ⟨k + 1, Nat.succ_le_of_lt HLt.out, by go_num, HB5.out.trans (Below.mono hH2 HB5.out.size)⟩
        case measure => have hh := HLt.out; simp [intOf]; omega
    · obtain rfl : k = nl := by omega
      go_wp2_with fail
      go_ret
      exact ⟨rfl, HB3.out.trans (hbr.out.mono HB3.out.size)⟩
end Go.Proofs.Ytedhbcaakdfcbaa.disk

namespace Go.Proofs.Ytedhbcaakdfcbaa.disk
open Go.ChangeShapes Go.WideShapes Go.ChangeAt Go.RowKit Go.Maps Go.WideMaps
set_option linter.unusedVariables false
set_option linter.unusedSimpArgs false

theorem ren_put {w w1 w2 : World} {base p : Nat} {v v2 : Value} {cap fuse0 fuse : Int} {lost : Bool} {xs : List RF} {ob : Obj} (h : Ref w base p v cap fuse0 false xs) (hr : Rising (absF xs)) (hbase : base ≤ w.heap.size) (hfew : xs.length < 1000) (h1 : Ref w1 base p v cap fuse lost xs) (ht1 : Touch (fun j => j = p) w w1)
    {i : Nat} (hi : i < xs.length) (h2 : Ref w2 base p v2 cap fuse lost (xs.take i ++ xs.drop (i + 1))) (ht2 : Touch (fun j => j = p) (w1.alloc ob) w2) (hv2 : ∀ g, v2.ownBlock = some g → (w1.alloc ob).heap.size ≤ g) (t : ByteArray) :
    Calls Try.prog 31 #[.pointer (some ⟨p, 0, none⟩), .agg #[.string t, .slice xs[i].A xs[i].n xs[i].c, .int .i64 (xs[i].f.safe : Nat), .bool xs[i].f.ever]] (w2.setCell ⟨w1.heap.size, 0, none⟩ (.string t)) fun e w' => e = .returned (.tuple #[]) ∧ ∃ v' xs', Ref w' base p v' cap fuse lost xs' ∧ absF xs' = insL t.data.toList xs[i].f (dropL (keyF xs[i]) (absF xs)) ∧ Touch (RFoot p v xs) w w' ∧ ∀ j, RFoot p v' xs' j → RFoot p v xs j ∨ w.heap.size ≤ j := by
  have hp := h.lt
  have hs1 := ht1.2.2.2.1
  have hsa : (w1.alloc ob).heap.size = w1.heap.size + 1 := by simp
  have hmem : ∀ x ∈ xs.take i ++ xs.drop (i + 1), x ∈ xs := fun x hx => by
    rcases List.mem_append.1 hx with h | h
    · exact List.mem_of_mem_take h
    · exact List.mem_of_mem_drop h
  have hbl : ∀ x ∈ xs, ∀ ad, x.A = some ad → 0 < x.n → ad.block < w.heap.size := fun x hx ad e h0 => (h.bytes x hx).lt ad e h0
  have h3 : Ref (w2.setCell ⟨w1.heap.size, 0, none⟩ (.string t)) base p v2 cap fuse lost (xs.take i ++ xs.drop (i + 1)) :=
    h2.away (Touch.setCell (F := fun j => j = w1.heap.size) (Touch.refl _ w2) ⟨w1.heap.size, 0, none⟩ (.inr rfl) _) (by omega) (fun g hg e => by have := hv2 g hg; omega) (fun x hx ad e h0 e2 => by have := hbl x (hmem x hx) ad e h0; omega)
  have ht : Touch (RFoot p v xs) w (w2.setCell ⟨w1.heap.size, 0, none⟩ (.string t)) :=
    (((ht1.mono (G := RFoot p v xs) fun _ _ e => .inl e).alloc ob).trans (ht2.mono fun j _ e => .inl (.inl e))).setCell ⟨w1.heap.size, 0, none⟩ (.inl hs1) _
  have hx := List.getElem_mem hi
  have hB : Bytes (w2.setCell ⟨w1.heap.size, 0, none⟩ (.string t)) xs[i].A xs[i].n xs[i].f.l :=
    (((h1.bytes _ hx).alloc ob).touch (fun ad e h0 e2 => (h.apart _ hx ad e h0).1 e2) ht2).kept fun ad e h0 => heap_setCell_other _ _ _ _ (by have := hbl _ hx ad e h0; show ad.block ≠ w1.heap.size; omega)
  have he : absF (xs.take i ++ xs.drop (i + 1)) = dropL (keyF xs[i]) (absF xs) := abs_drop hr hi
  have := put_from (xs := xs) (v := v) h3 (by rw [he]; exact rising_drop _ hr) ht (fun j hj => by
    rcases hj with hj | hj | ⟨x, hx2, ad, g1, g2, g3⟩
    · exact .inl (.inl hj)
    · exact .inr (by have := hv2 j hj; omega)
    · exact .inl (.inr (.inr ⟨x, hmem x hx2, ad, g1, g2, g3⟩))) ⟨t, xs[i].A, xs[i].n, xs[i].c, xs[i].f⟩ hB (fun ad e h0 => ⟨(h.apart _ hx ad e h0).1, fun e2 => by have := hv2 _ e2; have := hbl _ hx ad e h0; omega⟩) (fun e => h.nil_ xs[i] hx e) (h.le xs[i] hx) hbase (by simp; omega) (fun ad e h0 => .inl (.inr (.inr ⟨_, hx, ad, e, h0, rfl⟩)))
  rw [he] at this
  exact this

set_option maxRecDepth 50000 in
set_option maxHeartbeats 4000000 in
theorem act_rename {w : World} {base p : Nat} {v : Value} {cap fuse : Int} {xs : List RF} (h : Ref w base p v cap fuse false xs) (hr : Rising (absF xs)) (s t : ByteArray) (m : Int) (B : Option Addr) (n c : Nat) (hts : t.size ≤ 281474976710656) (hbase : base ≤ w.heap.size) (hf0 : -1 ≤ fuse) (hf1 : fuse ≤ 9223372036854775807) (hfew : xs.length < 1000) :
    Calls Try.prog 10 #[.pointer (some ⟨p, 0, none⟩), .int .i64 2, .string s, .string t, .int .i64 m, .slice B n c] w (RDoes w base p v xs cap (rRename fuse (absF xs) s.data.toList t.data.toList)) := by
  obtain ⟨d0, d1, d2, d3, hfz⟩ := h.facts
  have H27 := Lib.hid (at_any h s)
  have H28 := Lib.hid (right_any w t hts)
  have HR := Lib.hid h
  have HRis := Lib.hid hr
  have hst := str_eqB s t
  by_cases hbad : nameB t.data.toList = false ∨ s.data.toList = t.data.toList
  · rw [show rRename fuse (absF xs) s.data.toList t.data.toList = (fuse, false, absF xs, 1) by unfold rRename; rw [if_pos hbad]]
    cases hnm : nameB t.data.toList with
    | false =>
      rw [hnm] at H28
      clear h d0 d1 d2 hfz hr hst hbad hnm
      go_enter Try.func10, Try.ntmps10
      go_wp2_with (first | (go_at_call 27; refine H27.out.mono ?_; rintro e w1 ⟨rfl, rfl⟩) | (go_at_call 28; refine H28.out.mono ?_; rintro e w1 ⟨rfl, rfl⟩))
      go_ret
      exact rd_same 1 HR.out (Touch.refl _ _)
    | true =>
      rw [hnm] at H28
      have he : s.data.toList = t.data.toList := hbad.resolve_left (by rw [hnm]; decide)
      rw [decide_eq_true he] at hst
      clear h d0 d1 d2 hfz hr hbad hnm he
      go_enter Try.func10, Try.ntmps10
      go_wp2_with (first | (go_at_call 27; refine H27.out.mono ?_; rintro e w1 ⟨rfl, rfl⟩) | (go_at_call 28; refine H28.out.mono ?_; rintro e w1 ⟨rfl, rfl⟩))
      go_ret
      exact rd_same 1 HR.out (Touch.refl _ _)
  · have hnm : nameB t.data.toList = true := by
      cases e : nameB t.data.toList
      · exact absurd (.inl e) hbad
      · rfl
    have hne : ¬ s.data.toList = t.data.toList := fun e => hbad (.inr e)
    rw [hnm] at H28
    rw [decide_eq_false hne] at hst
    have er0 : fmL (absF xs) s.data.toList = none → rRename fuse (absF xs) s.data.toList t.data.toList = (fuse, false, absF xs, 7) := by
      intro e
      unfold rRename
      rw [if_neg hbad, e]
    have er1 : ∀ f, fmL (absF xs) s.data.toList = some f → rRename fuse (absF xs) s.data.toList t.data.toList = if ¬ Whole f then (fuse, false, absF xs, 10) else if fuse = 0 then (0, true, absF xs, 6) else ((rBurnt fuse false).1, false, insL t.data.toList f (dropL s.data.toList (absF xs)), 0) := by
      intro f e
      unfold rRename
      rw [if_neg hbad, e]
    rcases at_cases hr s.data.toList with ⟨h1, h2, _⟩ | ⟨i, hi, h1, h2, h3, h4⟩
    · rw [er0 h2]
      rw [h1] at H27
      clear h d0 d1 d2 hfz hr hbad hnm hne er0 er1 h1 h2
      go_enter Try.func10, Try.ntmps10
      go_wp2_with (first | (go_at_call 27; refine H27.out.mono ?_; rintro e w1 ⟨rfl, rfl⟩) | (go_at_call 28; refine H28.out.mono ?_; rintro e w1 ⟨rfl, rfl⟩))
      go_ret
      exact rd_same 7 HR.out (Touch.refl _ _)
    · rw [er1 _ h4]
      rw [h1] at H27
      have hnl : ∀ x ∈ xs, x.f.l.length = x.n := fun x hx => (h.bytes x hx).1
      have hwh := whole_abs hr hnl s.data.toList
      rw [h4] at hwh
      have y0 : decide (((i : Nat) : Int) < 0) = false := by simp
      have H33 := Lib.hid (whole33_any h s)
      have HR2 : Hid (∀ q, Ref (w.drewN q) base p v cap fuse false xs) := fun q => h.belowS (below_draws (Below.refl _ _) q)
      by_cases hw : Whole xs[i].f
      · rw [if_neg (fun e => e hw)]
        have hwt : wholeR xs s.data.toList = true := by rw [hwh]; simpa [Whole] using hw
        rw [hwt] at H33
        have H30 : Hid (∀ q, _) := fun q => burns_any (HR2.out q) hf0 hf1
        by_cases hz : fuse = 0
        · rw [if_pos hz]
          rw [show decide (fuse = 0) = true from decide_eq_true hz] at H30
          have e30 : rBurnt fuse false = (0, true) := by simp [rBurnt, hz]
          rw [e30] at H30
          clear h d0 d1 d2 hfz hr hbad hnm hne er0 er1 h1 h2 h3 h4 hwh hwt hw hnl e30 hz
          go_enter Try.func10, Try.ntmps10
          go_wp2_with (first | (go_at_call 27; refine H27.out.mono ?_; rintro e w1 ⟨rfl, rfl⟩) | (go_at_call 28; refine H28.out.mono ?_; rintro e w1 ⟨rfl, rfl⟩) | (go_at_call 33; refine H33.out.mono ?_; rintro e w1 ⟨rfl, q, rfl⟩) | (go_at_call 30; refine (H30.out _).mono ?_; rintro e w1 ⟨rfl, hq1, hq2⟩; have HQ1 := Lib.hid hq1; have HQ2 := Lib.hid hq2; clear hq1 hq2))
          go_ret
          exact rd_same 6 HQ1.out ((Touch.refl _ _).trans (HQ2.out.mono fun _ _ e => .inl e))
        · rw [if_neg hz]
          rw [show decide (fuse = 0) = false from decide_eq_false hz] at H30
          have e30 : (rBurnt fuse false).2 = false := by unfold rBurnt; rw [if_neg hz]; split <;> rfl
          rw [e30] at H30
          obtain ⟨A, cp, rfl, hcp, hAc, _⟩ := h.form
          obtain ⟨g, rfl, hgp, _, _, _, _, _, _, _⟩ := h.at_ hi
          obtain ⟨n1, hn1⟩ : ∃ n1, n1 = xs.length := ⟨_, rfl⟩
          have HN1 := Lib.hid hn1
          rw [← hn1] at hcp
          have HI := Lib.hid hi
          have H1 := Lib.hid h1
          have H3 := Lib.hid h3
          have HB := Lib.hid hbase
          have HFew := Lib.hid hfew
          have y1 : (0 : Int) ≤ ((i : Nat) : Int) := by omega
          have y2 : ((i : Nat) : Int) < (n1 : Int) := by omega
          have y3 : ((i : Nat) : Int).toNat = i := by omega
          rw [← hn1] at d1
          clear h d0 d2 hfz hr hbad hnm hne er0 er1 h1 h2 h4 hwh hwt hw hnl e30 hz hAc hn1 hbase hfew
          go_enter Try.func10, Try.ntmps10
          go_wp2_with (first | (go_at_call 27; refine H27.out.mono ?_; rintro e w1 ⟨rfl, rfl⟩) | (go_at_call 28; refine H28.out.mono ?_; rintro e w1 ⟨rfl, rfl⟩) | (go_at_call 33; refine H33.out.mono ?_; rintro e w1 ⟨rfl, q, rfl⟩) | (go_at_call 30; refine (H30.out _).mono ?_; rintro e w1 ⟨rfl, hq1, hq2⟩; rw [← HN1.out] at hq1; have HQ1 := Lib.hid hq1; have HQ2 := Lib.hid hq2; have hc1 := hq1.facts.2.1; obtain ⟨g', hg', _, _, _, e0, e1, e2, e3, _⟩ := hq1.at_ HI.out; cases hg'; have HQT := Lib.hid (show Touch (fun j => j = p) w w1 from ((Touch.refl _ w).drewN _).trans (hq2.mono fun _ _ e => .inl e)); have HNe := Lib.hid (show w1.heap.size ≠ p from by have := HR.out.lt; have := HQT.out.2.2.2.1; omega); have HBw := Lib.hid (show base ≤ (w1.alloc (.cells #[.string xs[i].name, .slice xs[i].A xs[i].n xs[i].c, .int .i64 (xs[i].f.safe : Nat), .bool xs[i].f.ever] 60)).heap.size from by have := HQT.out.2.2.2.1; have := HB.out; simp; omega); rw [HN1.out] at HQ1; clear hq1 hq2) | (go_at_call 32; refine (drop32_any (HQ1.out.belowS ((Below.refl _ _).alloc (Nat.le_refl _) _)) s i HI.out H1.out HBw.out).mono ?_; rintro e w2 ⟨rfl, v2, hq1, hq2, hq3⟩; have HC := Lib.hid (ren_put HR.out HRis.out HB.out HFew.out HQ1.out HQT.out HI.out hq1 hq2 hq3 t); have hX2 := (hq2.2.2.2.2 w1.heap.size (by simp) HNe.out).trans (heap_alloc_new w1 _); have hX4 := heap_setCell_same w2 w1.heap.size 0 _ 60 (.string t) hX2; have s1 : w2.cell? ⟨w1.heap.size, 0, none⟩ = some (.string xs[i].name) := (by simp [World.cell?, hX2]); have s2 : w2.frozen? ⟨w1.heap.size, 0, none⟩ = false := (by simp [World.frozen?, hX2]); have u0 : (w2.setCell ⟨w1.heap.size, 0, none⟩ (.string t)).cell? ⟨w1.heap.size, 0, none⟩ = some (.string t) := (by simp [World.cell?, hX4]); have u1 : (w2.setCell ⟨w1.heap.size, 0, none⟩ (.string t)).cell? ⟨w1.heap.size, 1, none⟩ = some (.slice xs[i].A xs[i].n xs[i].c) := (by simp [World.cell?, hX4]); have u2 : (w2.setCell ⟨w1.heap.size, 0, none⟩ (.string t)).cell? ⟨w1.heap.size, 2, none⟩ = some (.int .i64 (xs[i].f.safe : Nat)) := (by simp [World.cell?, hX4]); have u3 : (w2.setCell ⟨w1.heap.size, 0, none⟩ (.string t)).cell? ⟨w1.heap.size, 3, none⟩ = some (.bool xs[i].f.ever) := (by simp [World.cell?, hX4]); clear hq1 hq2 hq3 hX2 hX4) | (go_at_call 31; refine HC.out.mono ?_; rintro e w4 ⟨rfl, v5, xs5, r1, r2, r3, r4⟩; have R1 := Lib.hid r1; have R2 := Lib.hid r2; have R3 := Lib.hid r3; have R4 := Lib.hid r4; clear r1 r2 r3 r4 u0 u1 u2 u3 s1 s2))
          go_ret
          rw [H3.out] at R2
          exact ⟨rfl, v5, xs5, R1.out, R2.out, R3.out, R4.out⟩
      · rw [if_pos hw]
        have hwt : wholeR xs s.data.toList = false := by rw [hwh]; simpa [Whole] using hw
        rw [hwt] at H33
        clear h d0 d1 d2 hfz hr hbad hnm hne er0 er1 h1 h2 h3 h4 hwh hwt hw hnl
        go_enter Try.func10, Try.ntmps10
        go_wp2_with (first | (go_at_call 27; refine H27.out.mono ?_; rintro e w1 ⟨rfl, rfl⟩) | (go_at_call 28; refine H28.out.mono ?_; rintro e w1 ⟨rfl, rfl⟩) | (go_at_call 33; refine H33.out.mono ?_; rintro e w1 ⟨rfl, q, rfl⟩))
        go_ret
        exact rd_same 10 (HR2.out _) ((Touch.refl _ _).drewN _)
end Go.Proofs.Ytedhbcaakdfcbaa.disk

namespace Go.Proofs.Ytedhbcaakdfcbaa.disk
open Go.ChangeShapes Go.WideShapes Go.ChangeAt Go.RowKit Go.Maps Go.WideMaps
set_option linter.unusedVariables false
set_option linter.unusedSimpArgs false

/-- A lost disk answers every act but a restart so. -/
theorem do_lost {c : Cfg} {fm : FM} {x : ActV} {r : Cfg × FM × Int} (hl : c.lost = true) (hk : x.kind < 7) (h : DoRel c fm x r) : r = (c, fm, 6) := by
  obtain ⟨k, a, b, m, dA, dn, dc, data, kA, kn, kc, keep⟩ := x
  simp only at hk
  have hk7 : k = 0 ∨ k = 1 ∨ k = 2 ∨ k = 3 ∨ k = 4 ∨ k = 5 ∨ k = 6 := by omega
  rcases hk7 with rfl | rfl | rfl | rfl | rfl | rfl | rfl
  · exact (show r = fAppend c fm a.data.toList data from h).trans (by unfold fAppend; rw [if_pos hl])
  · exact (show r = fSync c fm a.data.toList from h).trans (by unfold fSync; rw [if_pos hl])
  · exact (show r = fRename c fm a.data.toList b.data.toList from h).trans (by unfold fRename; rw [if_pos hl])
  · exact (show r = fRemove c fm a.data.toList from h).trans (by unfold fRemove; rw [if_pos hl])
  · exact (show r = fFuse c fm m from h).trans (by unfold fFuse; rw [if_pos hl])
  · exact (show r = fHarm c fm a.data.toList data from h).trans (by unfold fHarm; rw [if_pos hl])
  · exact (show r = fLose c fm a.data.toList from h).trans (by unfold fLose; rw [if_pos hl])
/-- An act that is no restart, on the document's side. -/
theorem act_any {w : World} {base p : Nat} {v : Value} {cap fuse : Int} {lost : Bool} {xs : List RF} {c : Cfg} {fm : FM} (x : ActV) (h : Ref w base p v cap fuse lost xs) (hc : Cor cap fuse lost (absF xs) c fm) (hx : ActOk w base x) (hk : x.kind < 7) (hbase : base ≤ w.heap.size) (hfew : xs.length < 1000) (hT : totX xs ≤ 100000000) (hn : x.dn ≤ 1000000) (hat : x.at_ ≤ 9223372036854775807) :
    Calls Try.prog 10 #[.pointer (some ⟨p, 0, none⟩), .int .i64 (x.kind : Nat), .string x.a, .string x.b, .int .i64 x.at_, .slice x.dA x.dn x.dc] w fun e w' => ∃ q, RDoes w base p v xs cap q e w' ∧ ∀ r, DoRel c fm x r → Both cap r q := by
  cases lost with
  | true => exact (act_lost h hc.rise x.a x.b x.at_ x.dA x.dn x.dc _).mono fun e w' hd => ⟨_, hd, fun r hr => by rw [do_lost hc.lost_ hk hr]; exact ⟨rfl, hc⟩⟩
  | false =>
    obtain ⟨o1, o2, o3, o4, o5, o6, o7, o8, o9⟩ := hx
    obtain ⟨k, a, b, m, dA, dn, dc, data, kA, kn, kc, keep⟩ := x
    simp only at hk hn hat o1 o2 o3 o4 o5 o6 o7 o8 o9 ⊢
    have hf0 := hc.fb0
    have hf1 := hc.fb
    have hc0 := hc.capb.1
    have hc1 := hc.capb.2
    have hk7 : k = 0 ∨ k = 1 ∨ k = 2 ∨ k = 3 ∨ k = 4 ∨ k = 5 ∨ k = 6 := by omega
    rcases hk7 with rfl | rfl | rfl | rfl | rfl | rfl | rfl
    · exact (act_append h hc.rise a b m dA dn dc (by omega) data o1 o5 o2 o6 hbase hfew hc0 hc1 hT hn hf0 hf1).mono fun e w' hd => ⟨_, hd, fun r hr => by rw [show r = fAppend c fm a.data.toList data from hr]; exact both_append hc _ _⟩
    · exact (act_sync h hc.rise a b m dA dn dc hbase hf0 hf1).mono fun e w' hd => ⟨_, hd, fun r hr => by rw [show r = fSync c fm a.data.toList from hr]; exact both_sync hc _⟩
    · exact (act_rename h hc.rise a b m dA dn dc (by omega) hbase hf0 hf1 hfew).mono fun e w' hd => ⟨_, hd, fun r hr => by rw [show r = fRename c fm a.data.toList b.data.toList from hr]; exact both_rename hc _ _⟩
    · exact (act_remove h hc.rise a b m dA dn dc hbase hf0 hf1).mono fun e w' hd => ⟨_, hd, fun r hr => by rw [show r = fRemove c fm a.data.toList from hr]; exact both_remove hc _⟩
    · exact (act_fuse h hc.rise a b m dA dn dc).mono fun e w' hd => ⟨_, hd, fun r hr => by rw [show r = fFuse c fm m from hr]; exact both_fuse hc _ hat⟩
    · exact (act_harm h hc.rise a b m dA dn dc (by omega) data o1 o5 hbase hfew hc0 hc1 hT hn).mono fun e w' hd => ⟨_, hd, fun r hr => by rw [show r = fHarm c fm a.data.toList data from hr]; exact both_harm hc _ _⟩
    · exact (act_lose h hc.rise a b m dA dn dc hbase hf0 hf1).mono fun e w' hd => ⟨_, hd, fun r hr => by rw [show r = fLose c fm a.data.toList from hr]; exact both_lose hc _⟩
/-! ### How long a file can be behind an act -/
theorem grown_bound {fm : FM} {k : List UInt8} {l : List Nat} {M d : Nat} (h : ∀ s f, fm s = some f → f.l.length ≤ M) (hl : l.length ≤ d) : (grown fm k l).l.length ≤ M + d := by
  rw [grown_len]
  have : lenAt fm k ≤ M := by
    unfold lenAt
    cases e : fm k with
    | none => simp
    | some f => simpa using h _ _ e
  omega
theorem do_bound {c : Cfg} {fm : FM} {x : ActV} {r : Cfg × FM × Int} {M : Nat} (h : DoRel c fm x r) (hM : ∀ s f, fm s = some f → f.l.length ≤ M) (hd : x.data.length ≤ x.dn) : ∀ s f, r.2.1 s = some f → f.l.length ≤ M + x.dn := by
  obtain ⟨k, a, b, m, dA, dn, dc, data, kA, kn, kc, keep⟩ := x
  simp only at hd ⊢
  have hM2 : ∀ s f, fm s = some f → f.l.length ≤ M + dn := fun s f e => Nat.le_trans (hM s f e) (Nat.le_add_right _ _)
  rcases (show k = 0 ∨ k = 1 ∨ k = 2 ∨ k = 3 ∨ k = 4 ∨ k = 5 ∨ k = 6 ∨ 7 ≤ k by omega) with rfl | rfl | rfl | rfl | rfl | rfl | rfl | h7
  · rw [show r = fAppend c fm a.data.toList data from h]
    unfold fAppend
    repeat' split
    all_goals first
      | exact hM2
      | exact upd_bound hM2 (grown_bound hM (by simp; omega))
      | exact upd_bound hM2 (grown_bound hM hd)
  · rw [show r = fSync c fm a.data.toList from h]
    unfold fSync
    repeat' split
    all_goals first
      | exact hM2
      | (rename_i f hf _; exact upd_bound hM2 (show f.l.length ≤ M + dn from hM2 _ _ hf))
  · rw [show r = fRename c fm a.data.toList b.data.toList from h]
    unfold fRename
    repeat' split
    all_goals first
      | exact hM2
      | (rename_i f hf _ _; exact upd_bound (erase_bound hM2) (hM2 _ _ hf))
  · rw [show r = fRemove c fm a.data.toList from h]
    unfold fRemove
    repeat' split
    all_goals first
      | exact hM2
      | exact erase_bound hM2
  · rw [show r = fFuse c fm m from h]
    unfold fFuse
    repeat' split
    all_goals exact hM2
  · rw [show r = fHarm c fm a.data.toList data from h]
    unfold fHarm
    repeat' split
    all_goals first
      | exact hM2
      | exact upd_bound hM2 (show data.length ≤ _ by omega)
  · rw [show r = fLose c fm a.data.toList from h]
    unfold fLose
    repeat' split
    all_goals first
      | exact hM2
      | exact erase_bound hM2
  · obtain ⟨j, rfl⟩ : ∃ j, k = j + 7 := ⟨k - 7, by omega⟩
    obtain ⟨ns, -, rfl⟩ : ∃ ns, Listed fm ns ∧ r = (⟨c.cap, (rfold keep fm c.used ns).2.2, false, 0, false⟩, (rfold keep fm c.used ns).1, 0) := h
    exact rfold_bound ns _ hM2
end Go.Proofs.Ytedhbcaakdfcbaa.disk

namespace Go.Proofs.Ytedhbcaakdfcbaa.disk
open Go.ChangeShapes Go.WideShapes Go.ChangeAt Go.RowKit Go.Maps Go.WideMaps
set_option linter.unusedVariables false
set_option linter.unusedSimpArgs false

theorem Ref.foot_lt {w : World} {base p : Nat} {v : Value} {cap fuse : Int} {lost : Bool} {xs : List RF} (h : Ref w base p v cap fuse lost xs) : ∀ j, RFoot p v xs j → j < w.heap.size := by
  rintro j (rfl | e | ⟨x, hx, ad, h1, h2, rfl⟩)
  · exact h.lt
  · exact (World.ownsRow.lt h.rows _ e).2
  · exact (h.bytes x hx).lt ad h1 h2
/-- Both disks side by side: nothing is shared, and all of it lies at base or above. -/
structure Side (w : World) (base p p2 : Nat) (cap : Int) (k : Nat) (mb : Option Nat) (D : DataW Value) (c : Cfg) (fm : FM) (v : Value) (fuse : Int) (lost : Bool) (xs : List RF) : Prop where
  d : Dsk w base p mb D c fm k
  r : Ref w base p2 v cap fuse lost xs
  apart : ∀ j, Foot p mb D j → ¬ RFoot p2 v xs j
  low : ∀ j, RFoot p2 v xs j → base ≤ j
theorem Side.base_le {w : World} {base p p2 : Nat} {cap : Int} {k : Nat} {mb : Option Nat} {D : DataW Value} {c : Cfg} {fm : FM} {v : Value} {fuse : Int} {lost : Bool} {xs : List RF} (h : Side w base p p2 cap k mb D c fm v fuse lost xs) : base ≤ w.heap.size := Nat.le_trans h.r.pb (Nat.le_of_lt h.r.lt)
/-- What is new elsewhere, or is kept. -/
theorem Side.belowS {w w' : World} {base p p2 : Nat} {cap : Int} {k : Nat} {mb : Option Nat} {D : DataW Value} {c : Cfg} {fm : FM} {v : Value} {fuse : Int} {lost : Bool} {xs : List RF} (h : Side w base p p2 cap k mb D c fm v fuse lost xs) (hb : Below w.heap.size w w') : Side w' base p p2 cap k mb D c fm v fuse lost xs :=
  ⟨h.d.below hb, h.r.belowS hb, h.apart, h.low⟩
/-- The program's side acts. -/
theorem Side.prog {w w1 : World} {base p p2 : Nat} {cap : Int} {k k' : Nat} {mb : Option Nat} {D : DataW Value} {c : Cfg} {fm : FM} {v : Value} {fuse : Int} {lost : Bool} {xs : List RF} {r : Cfg × FM × Int} {e : Ending} (h : Side w base p p2 cap k mb D c fm v fuse lost xs) (hd : Does w base p mb D k' r e w1) :
    e = .returned (.int .i64 r.2.2) ∧ Below base w w1 ∧ ∃ mb' D', Side w1 base p p2 cap k' mb' D' r.1 r.2.1 v fuse lost xs := by
  obtain ⟨he, mb', D', q1, q2, q3⟩ := hd
  refine ⟨he, q2.toBelow base h.base_le (fun j hj hf => by have := (h.d.foot_lt j hf).1; omega), mb', D', q1, ?_, fun j hj hr => ?_, h.low⟩
  · exact h.r.away q2 (fun hf => h.apart _ hf (.inl rfl)) (fun g hg hf => h.apart _ hf (.inr (.inl hg))) (fun x hx ad ha h0 hf => h.apart _ hf (.inr (.inr ⟨x, hx, ad, ha, h0, rfl⟩)))
  · rcases q3 j hj with hf | hf
    · exact h.apart j hf hr
    · have := h.r.foot_lt j hr
      omega
/-- The document's side has changed. -/
theorem Side.ref {w w1 : World} {base p p2 : Nat} {cap : Int} {k : Nat} {mb : Option Nat} {D : DataW Value} {c : Cfg} {fm : FM} {v v' : Value} {fuse fuse' : Int} {lost lost' : Bool} {xs xs' : List RF} (h : Side w base p p2 cap k mb D c fm v fuse lost xs) (hr : Ref w1 base p2 v' cap fuse' lost' xs') (ht : Touch (RFoot p2 v xs) w w1) (hf : ∀ j, RFoot p2 v' xs' j → RFoot p2 v xs j ∨ w.heap.size ≤ j) :
    Below base w w1 ∧ Side w1 base p p2 cap k mb D c fm v' fuse' lost' xs' := by
  refine ⟨ht.toBelow base h.base_le (fun j hj hf => by have := h.low j hf; omega), h.d.touch ht (fun j hj hr => h.apart j hj hr), hr, fun j hj hr' => ?_, fun j hj => ?_⟩
  · rcases hf j hr' with hq | hq
    · exact h.apart j hj hq
    · have := (h.d.foot_lt j hj).2
      omega
  · rcases hf j hj with hq | hq
    · exact h.low j hq
    · exact Nat.le_trans h.base_le hq
/-- The document's side acts, where the program's has acted. -/
theorem Side.act {w w1 : World} {base p p2 : Nat} {cap : Int} {k : Nat} {mb : Option Nat} {D : DataW Value} {r : Cfg × FM × Int} {v : Value} {fuse : Int} {lost : Bool} {xs : List RF} {q : Int × Bool × FL × Int} {e : Ending} (h : Side w base p p2 cap k mb D r.1 r.2.1 v fuse lost xs) (hd : RDoes w base p2 v xs cap q e w1) (hq : Both cap r q) :
    e = .returned (.int .i64 r.2.2) ∧ Below base w w1 ∧ ∃ v' fuse' lost' xs', Side w1 base p p2 cap k mb D r.1 r.2.1 v' fuse' lost' xs' ∧ Cor cap fuse' lost' (absF xs') r.1 r.2.1 := by
  obtain ⟨he, v', xs', q1, q2, q3, q4⟩ := hd
  obtain ⟨s1, s2⟩ := h.ref q1 q3 q4
  exact ⟨by rw [he, hq.1], s1, v', _, _, xs', s2, by rw [q2]; exact hq.2⟩
/-- How many files the document's disk holds, and how long they are. -/
theorem Side.few {w : World} {base p p2 : Nat} {cap : Int} {k : Nat} {mb : Option Nat} {D : DataW Value} {c : Cfg} {fm : FM} {v : Value} {fuse : Int} {lost : Bool} {xs : List RF} (h : Side w base p p2 cap k mb D c fm v fuse lost xs) (hc : Cor cap fuse lost (absF xs) c fm) {M : Nat} (hM : ∀ s f, fm s = some f → f.l.length ≤ M) :
    xs.length ≤ k ∧ (∀ x ∈ xs, x.n ≤ M) ∧ (∀ x ∈ xs, x.f.safe ≤ x.n) ∧ totX xs ≤ 4194304 := by
  have hfm : ∀ x ∈ xs, fm (keyF x) = some x.f := fun x hx => by
    rw [hc.fm_]
    exact fm_mem hc.rise (mem_abs hx)
  have hl : ∀ x ∈ xs, x.f.l.length = x.n := fun x hx => (h.r.bytes x hx).1
  refine ⟨?_, fun x hx => ?_, fun x hx => ?_, ?_⟩
  · have hle : ∀ x ∈ absF xs, x.1.length ≤ maxLen := fun x hx => by
      have h1 : (fm x.1).isSome = true := by
        rw [hc.fm_, fm_mem hc.rise hx]
        rfl
      exact Nat.le_trans (h.d.short _ h1) (by unfold maxLen; omega)
    have hls := listed_abs hc.rise hle
    rw [← hc.fm_] at hls
    have := listed_len h.d hls
    simpa [absF] using this
  · rw [← hl x hx]
    exact hM _ _ (hfm x hx)
  · rw [← hl x hx]
    exact h.d.safe_le _ _ (hfm x hx)
  · have h1 := hc.tot
    have h2 := hc.capb
    rw [tot_abs hl] at h1
    omega
end Go.Proofs.Ytedhbcaakdfcbaa.disk

namespace Go.Proofs.Ytedhbcaakdfcbaa.disk
open Go.ChangeShapes Go.WideShapes Go.ChangeAt Go.RowKit Go.Maps Go.WideMaps Go.Sort Go.Shelf
set_option linter.unusedVariables false
set_option linter.unusedSimpArgs false

/-- Both disks behind k acts. -/
def Pair (W : World) (base p p2 : Nat) (cap : Int) (L : List ActV) (k : Nat) (w : World) : Prop :=
  ∃ mb D c fm v fuse lost xs, Side w base p p2 cap k mb D c fm v fuse lost xs ∧ Cor cap fuse lost (absF xs) c fm ∧ (∀ s f, fm s = some f → f.l.length ≤ tot (L.take k)) ∧ Below W.heap.size W w
theorem pair_start {W w : World} {base : Nat} {cap : Int} {L : List ActV} (h0 : 0 ≤ cap) (h1 : cap ≤ 4194304) (hd : Dsk w base base none (.map []) ⟨cap, 0, false, 0, false⟩ (fun _ => none) 0) (hb : Below W.heap.size W w) :
    Pair W base base w.heap.size cap L 0 (w.alloc (.cells #[.int .i64 cap, .slice none 0 0, .int .i64 (-1), .bool false] 32)) := by
  have hbl : Below w.heap.size w (w.alloc (.cells #[.int .i64 cap, .slice none 0 0, .int .i64 (-1), .bool false] 32)) := (Below.refl _ _).alloc (Nat.le_refl _) _
  have hlt := hd.facts.2.2.2.2.2.2.2
  have hfl : ∀ j, RFoot w.heap.size (.slice none 0 0) ([] : List RF) j → j = w.heap.size := by
    rintro j (rfl | e | ⟨x, hx, _⟩)
    · rfl
    · cases e
    · cases hx
  refine ⟨none, _, _, _, .slice none 0 0, -1, false, [], ⟨hd.below hbl, ?_, fun j hj hr => ?_, fun j hj => ?_⟩, ?_, (fun s f e => by cases e), hb.trans (hbl.mono hb.size)⟩
  · exact ⟨heap_alloc_new w _, by omega, ⟨by simp [cellsF], .inl ⟨rfl, rfl⟩⟩, by simp [Value.ownBlock], by simp, by simp, by simp, by simp, by simp⟩
  · have := hfl j hr
    have := (hd.foot_lt j hj).2
    omega
  · have := hfl j hj
    omega
  · exact ⟨rfl, rfl, rfl, by simp [absF, Rising], rfl, .inl ⟨rfl, rfl⟩, by simpa [absF, totL] using h0, ⟨h0, h1⟩, by decide⟩
theorem do_restart {c : Cfg} {fm : FM} {x : ActV} {r : Cfg × FM × Int} (h7 : ¬ x.kind < 7) (h : DoRel c fm x r) : ∃ ns, Listed fm ns ∧ r = (⟨c.cap, (rfold x.keep fm c.used ns).2.2, false, 0, false⟩, (rfold x.keep fm c.used ns).1, 0) := by
  obtain ⟨k, a, b, m, dA, dn, dc, data, kA, kn, kc, keep⟩ := x
  obtain ⟨j, rfl⟩ : ∃ j, k = j + 7 := ⟨k - 7, by simp only at h7; omega⟩
  exact h
set_option maxRecDepth 50000 in
set_option maxHeartbeats 8000000 in
theorem plays_walk (w : World) (cap : Int) (A1 : Option Addr) (n1 c1 : Nat) (L1 : List ActV) (h1 : Acts w w.heap.size A1 n1 L1) (hat : ∀ i, i < n1 → (L1.getD i default).at_ ≤ 9223372036854775807) :
    Calls Try.prog 3 #[.int .i64 cap, .slice A1 n1 c1] w fun e w' => e = .returned (.bool true) ∧ Below w.heap.size w w' := by
  have HAc := Lib.hid (fun w' (hb : Below w.heap.size w w') => h1.touch (F := fun _ => False) (fun _ _ h => h) (touch_below hb))
  have HAt := Lib.hid hat
  have H6 := Lib.hid (fun w' (hb : Below w.heap.size w w') => (awake_any w').mono (R' := fun e w2 => e = .returned (.bool true) ∧ Below w.heap.size w w2) (fun e w2 h => ⟨h.1, hb.trans (h.2.mono hb.size)⟩))
  have H71 := Lib.hid (fun w' (hb : Below w.heap.size w w') => (few_exact w' w.heap.size A1 n1 c1 L1 100 (by decide) (HAc.out w' hb)).mono (R' := fun e w2 => e = .returned (.bool (decide (n1 ≤ 100 ∧ tot L1 ≤ 100000))) ∧ Below w.heap.size w w2) (fun e w2 h => ⟨h.1, hb.trans (h.2.mono hb.size)⟩))
  have HL1 := Lib.hid h1.1
  clear h1 hat
  by_cases f1 : n1 ≤ 100 ∧ tot L1 ≤ 100000
  · rw [decide_eq_true f1] at H71
    by_cases hc : 0 ≤ cap ∧ cap ≤ 4194304
    · have H8 := Lib.hid (fun w' => new_ok w' cap hc.1 hc.2)
      have HF := Lib.hid f1
      have HC := Lib.hid hc
      have g1 : ¬ cap < 0 := by omega
      have g2 : ¬ 4194304 < cap := by omega
      clear f1 hc
      go_enter Try.func3, Try.ntmps3
      go_wp2_with (first | (go_at_call 6; refine (H6.out _ (Below.refl _ _)).mono ?_; rintro e w1 ⟨rfl, hb⟩; have HB1 := Lib.hid hb; clear hb) | (go_at_call 7; refine (H71.out _ HB1.out).mono ?_; rintro e w3 ⟨rfl, hb⟩; have HB3 := Lib.hid hb; clear hb HB1) | (go_at_call 8; refine (H8.out _).mono ?_; rintro e w4 ⟨rfl, hd, hb⟩; have HD := Lib.hid hd; have HB4 := Lib.hid (HB3.out.trans (hb.mono HB3.out.size)); clear hd hb))
      have HP0 := Lib.hid (pair_start (L := L1) HC.out.1 HC.out.2 HD.out HB4.out)
      have HW3 := Lib.hid HB3.out.size
      clear HD HB3 HB4 H6 H71 H8 g1 g2
      go_loopw [8, 9, 10, 11, 42] (fun _ _ _ _ i wr => ∃ k : Nat, k ≤ n1 ∧ i = .int .i64 k ∧ Pair w w3.heap.size w3.heap.size w4.heap.size cap L1 k wr) (fun _ _ _ _ i _ => n1 - (intOf i).toNat)
      case atStart => exact ⟨0, Nat.zero_le _, rfl, HP0.out⟩
      case round =>
        clear HP0
        obtain ⟨k, hk, rfl, mb, D, c, fm, v, fuse, lost, xs, hs, hcor, hM, hb⟩ := hrel
        have HAw := Lib.hid (HAc.out _ hb)
        have HS := Lib.hid hs
        have HCor := Lib.hid hcor
        have HM := Lib.hid hM
        have HB := Lib.hid hb
        clear hs hcor hM hb
        by_cases hlt : k < n1
        · obtain ⟨b', o', x, rfl, hx, hi⟩ := HAw.out.at_ hlt
          have hkl : k < L1.length := by have := HL1.out; omega
          have htk := tot_take L1 k hkl
          rw [← hx] at htk
          have htl := tot_le L1 (k + 1)
          have hxl : x.len = x.a.size + x.b.size + x.dn + x.kn := rfl
          have hf := HF.out
          have hxat := HAt.out k hlt
          rw [← hx] at hxat
          have hok : ∀ w', Below w.heap.size w w' → ActOk w' w3.heap.size x := fun w' hb => by
            obtain ⟨b2, o2, x2, _, hx2, hi2⟩ := (HAc.out w' hb).at_ hlt
            rw [← hx] at hx2
            subst hx2
            exact hi2.ok HW3.out (by omega)
          have g0 := hi.kind
          have g1 := hi.ca
          have g2 := hi.cb
          have g3 := hi.at_
          have g4 := hi.data
          have g5 := hi.keep
          have hk256 := hi.k256
          clear hi hxl
          have HX := Lib.hid hx
          have HLt := Lib.hid hlt
          have HOk := Lib.hid hok
          have HAtx := Lib.hid hxat
          have HTk := Lib.hid (show tot (L1.take k) + x.dn ≤ 1000000 by unfold ActV.len at htk; omega)
          have HTn := Lib.hid (show tot (L1.take k) + x.dn ≤ tot (L1.take (k + 1)) by unfold ActV.len at htk; omega)
          have HSd := Lib.hid (show x.dn ≤ 1000000 ∧ x.kn ≤ 1000000 by unfold ActV.len at htk; omega)
          have hk100 : k < 100 := by omega
          clear hx hok hxat htk htl hf
          have H9 := Lib.hid (fun w' (hb : Below wr.heap.size wr w') => do_exact x (HS.out.belowS hb).d HM.out (HOk.out _ (HB.out.trans (hb.mono HB.out.size))) (by omega) (HS.out.belowS hb).base_le HTk.out)
          unfold ActV.val at H9
          go_wp2_with fail
          refine (H9.out _ ((Below.refl _ _).alloc (Nat.le_refl _) _)).mono ?_
          clear H9 g0 g1 g2 g3 g4 g5
          rintro e w5 ⟨⟨c5, fm5, ans⟩, hr, hdo⟩
          have hX : w5.heap[wr.heap.size]? = some (.cells #[.int .u8 (x.kind : Nat), .string x.a, .string x.b, .int .i64 x.at_, .slice x.dA x.dn x.dc, .slice x.kA x.kn x.kc] 36 (0, 0)) := by
            obtain ⟨_, _, _, _, ht, _⟩ := hdo
            exact (ht.2.2.2.2 wr.heap.size (by simp) (fun hf => by have := (HS.out.d.foot_lt _ hf).2; omega)).trans (heap_alloc_new wr _)
          obtain ⟨rfl, hb5, mb5, D5, hs5⟩ := (HS.out.belowS ((Below.refl _ _).alloc (Nat.le_refl _) _)).prog hdo
          simp only at hs5 ⊢
          have HDr := Lib.hid hr
          have HS5 := Lib.hid hs5
          have HB5 := Lib.hid (HB.out.trans ((((Below.refl _ _).alloc (Nat.le_refl _) _).mono HB.out.size).trans (hb5.mono HW3.out)))
          have k0 : w5.cell? ⟨wr.heap.size, 0, none⟩ = some (.int .u8 (x.kind : Nat)) := by simp [World.cell?, hX]
          have k1 : w5.cell? ⟨wr.heap.size, 0 + 1, none⟩ = some (.string x.a) := by simp [World.cell?, hX]
          have k2 : w5.cell? ⟨wr.heap.size, 2, none⟩ = some (.string x.b) := by simp [World.cell?, hX]
          have k3 : w5.cell? ⟨wr.heap.size, 3, none⟩ = some (.int .i64 x.at_) := by simp [World.cell?, hX]
          have k4 : w5.cell? ⟨wr.heap.size, 4, none⟩ = some (.slice x.dA x.dn x.dc) := by simp [World.cell?, hX]
          have k5 : w5.cell? ⟨wr.heap.size, 5, none⟩ = some (.slice x.kA x.kn x.kc) := by simp [World.cell?, hX]
          have k1' : w5.cell? ⟨wr.heap.size, 1, none⟩ = some (.string x.a) := k1
          have HBd := Lib.hid (show ∀ s f, fm5 s = some f → f.l.length ≤ tot (L1.take (k + 1)) from fun s f e => Nat.le_trans (do_bound hr HM.out (Nat.le_of_eq (HOk.out _ HB.out).bytes.1) s f e) HTn.out)
          have HTm := Lib.hid (show tot (L1.take (k + 1)) ≤ 1000000 by have h1 := tot_le L1 (k + 1); have h2 := HF.out; omega)
          obtain ⟨f1, f2, f3, f4⟩ := HS.out.few HCor.out HM.out
          have HFw := Lib.hid (And.intro f1 (And.intro f2 (And.intro f3 f4)))
          clear hX hr hdo hb5 hs5 f1 f2 f3 f4
          by_cases h7 : x.kind < 7
          · have hq7 : decide ((x.kind : Int) < 7) = true := by simp; omega
            have hcv : IntKind.i64.wrap (x.kind : Int) = (x.kind : Int) := IntWalk.i64_in _ (by omega)
            have hcw : wrap64 (x.kind : Int) = (x.kind : Int) := IntWalk.wrap64_in _ (by omega)
            have H10 := Lib.hid (act_any x HS5.out.r HCor.out (HOk.out _ HB5.out) h7 HS5.out.base_le (by have := HFw.out.1; omega) (by have := HFw.out.2.2.2; omega) HSd.out.1 HAtx.out)
            clear h7
            go_wp2_with fail
            refine H10.out.mono ?_
            rintro e w6 ⟨q, hrd, hbo⟩
            obtain ⟨rfl, hb6, v6, fuse6, lost6, xs6, hs6, hc6⟩ := HS5.out.act (r := (c5, fm5, ans)) hrd (hbo _ HDr.out)
            simp only at hs6 hc6 ⊢
            clear hrd hbo
            have HS6 := Lib.hid hs6
            have HC6 := Lib.hid hc6
            have HB6 := Lib.hid (HB5.out.trans (hb6.mono HW3.out))
            have H12 := Lib.hid (same_any HS6.out.d HS6.out.r HC6.out (by omega) (fun y hy => by have h1 := (HS6.out.few HC6.out HBd.out).2.1 y hy; have h2 := HTm.out; omega))
            clear hs6 hc6 hb6 H10 hcv hcw k0 k1 k2 k3 k4 k5 k1' hq7
            go_wp2_with (go_at_call 12; refine H12.out.mono ?_; rintro e w7 ⟨rfl, hb7⟩; have HB7 := Lib.hid hb7; clear hb7)
            go_roundw
            case rel => exact ⟨k + 1, Nat.succ_le_of_lt HLt.out, by go_num, mb5, D5, _, _, _, _, _, _, HS6.out.belowS HB7.out, HC6.out, HBd.out, HB6.out.trans (HB7.out.mono HB6.out.size)⟩
            case measure => have hh := HLt.out; simp [intOf]; omega
          · have hq7 : decide ((x.kind : Int) < 7) = false := by simp; omega
            have H11 := Lib.hid (act_restart HS5.out.r HCor.out.rise HFw.out.2.2.1 (fun y hy => by have h1 := HFw.out.2.1 y hy; have h2 := HTk.out; omega) HS5.out.base_le x.kA x.kn x.kc x.keep (HOk.out _ HB5.out).ints (HOk.out _ HB5.out).ilow HSd.out.2)
            obtain ⟨ns, hns, hrs⟩ := do_restart h7 HDr.out
            have HBr := Lib.hid (both_restart HCor.out x.keep hns (fun s hs => Nat.le_trans (HS.out.d.short _ hs) (by unfold maxLen; omega)) HS.out.d.safe_le)
            cases hrs
            clear h7
            go_wp2_with fail
            refine H11.out.mono ?_
            rintro e w6 ⟨rfl, v6, xs6, q1, q2, q3, q4⟩
            obtain ⟨hb6, hs6⟩ := HS5.out.ref q1 q3 q4
            have hc6 := HBr.out
            rw [← q2] at hc6
            clear q1 q2 q3 q4
            have HS6 := Lib.hid hs6
            have HC6 := Lib.hid hc6
            have HB6 := Lib.hid (HB5.out.trans (hb6.mono HW3.out))
            have H12 := Lib.hid (same_any HS6.out.d HS6.out.r HC6.out (by omega) (fun y hy => by have h1 := (HS6.out.few HC6.out HBd.out).2.1 y hy; have h2 := HTm.out; omega))
            clear hs6 hc6 hb6 H11 k0 k1 k2 k3 k4 k5 k1' hq7
            go_wp2_with (go_at_call 12; refine H12.out.mono ?_; rintro e w7 ⟨rfl, hb7⟩; have HB7 := Lib.hid hb7; clear hb7)
            go_roundw
            case rel => exact ⟨k + 1, Nat.succ_le_of_lt HLt.out, by go_num, mb5, D5, _, _, _, _, _, _, HS6.out.belowS HB7.out, HC6.out, HBd.out, HB6.out.trans (HB7.out.mono HB6.out.size)⟩
            case measure => have hh := HLt.out; simp [intOf]; omega
        · obtain rfl : k = n1 := by omega
          go_wp2_with fail
          go_ret
          exact ⟨rfl, HB.out⟩
    · have H8 := Lib.hid (fun w' => new_bad w' cap (by omega))
      have g3 : (decide (cap < 0) || decide (4194304 < cap)) = true := by simp; omega
      clear f1
      by_cases hn : cap < 0
      · have g1 : decide (cap < 0) = true := decide_eq_true hn
        clear hc hn
        go_enter Try.func3, Try.ntmps3
        go_wp2_with (first | (go_at_call 6; refine (H6.out _ (Below.refl _ _)).mono ?_; rintro e w1 ⟨rfl, hb⟩; have HB1 := Lib.hid hb; clear hb) | (go_at_call 7; refine (H71.out _ HB1.out).mono ?_; rintro e w3 ⟨rfl, hb⟩; have HB3 := Lib.hid hb; clear hb HB1) | (go_at_call 8; refine (H8.out _).mono ?_; rintro e w4 ⟨rfl, hb⟩; have HB4 := Lib.hid (HB3.out.trans (hb.mono HB3.out.size)); clear hb))
        go_ret
        exact ⟨rfl, HB4.out⟩
      · have g1 : decide (cap < 0) = false := decide_eq_false hn
        have g2 : decide (4194304 < cap) = true := decide_eq_true (by omega)
        clear hc hn
        go_enter Try.func3, Try.ntmps3
        go_wp2_with (first | (go_at_call 6; refine (H6.out _ (Below.refl _ _)).mono ?_; rintro e w1 ⟨rfl, hb⟩; have HB1 := Lib.hid hb; clear hb) | (go_at_call 7; refine (H71.out _ HB1.out).mono ?_; rintro e w3 ⟨rfl, hb⟩; have HB3 := Lib.hid hb; clear hb HB1) | (go_at_call 8; refine (H8.out _).mono ?_; rintro e w4 ⟨rfl, hb⟩; have HB4 := Lib.hid (HB3.out.trans (hb.mono HB3.out.size)); clear hb))
        go_ret
        exact ⟨rfl, HB4.out⟩
  · rw [decide_eq_false f1] at H71
    clear f1
    go_enter Try.func3, Try.ntmps3
    go_wp2_with fail
    refine (H6.out _ (Below.refl _ _)).mono ?_
    rintro e w1 ⟨rfl, hb⟩
    have HB1 := Lib.hid hb
    clear hb
    go_wp2_with fail
    refine (H71.out _ HB1.out).mono ?_
    rintro e w2 ⟨rfl, hb⟩
    have HB2 := Lib.hid hb
    clear hb
    go_wp2_with fail
    refine (H6.out _ HB2.out).mono ?_
    rintro e w3 ⟨rfl, hb⟩
    go_wp2_with fail
    go_ret
    exact ⟨rfl, hb⟩
end Go.Proofs.Ytedhbcaakdfcbaa.disk

namespace Go.Proofs.Ytedhbcaakdfcbaa.disk
open Go.ChangeShapes Go.WideShapes Go.ChangeAt Go.RowKit Go.Deep Go.Maps Go.WideMaps
set_option linter.unusedVariables false
set_option linter.unusedSimpArgs false

set_option maxRecDepth 50000 in
theorem act_in2 {H : Type} {enc : TypeId × Value → H} {W : World} {n : Nat} {b o : Nat} {cs : List Value} {x : DataW H × List MemPlace} (h1 : W.cells? 0 ⟨b, o, none⟩ 6 = some cs) (h2 : DataW.trod enc Try.prog W 0 (fun _ => true) true n 36 cs = some x) (hR : ∀ m ∈ DataW.weights Try.prog 36 x.1, m ≤ 140737488355328) :
    ∃ it : ActV, ActIs W W.heap.size b o it ∧ it.at_ ≤ 9223372036854775807 := by
  obtain ⟨_, hlen, hcell⟩ := World.cells?_some h1
  obtain ⟨xs, k, hk, hxy, _, hxl, hf⟩ := DataW.trod_struct Try.underlying36 h2
  match xs, hxl, cs, hlen with
  | [y0, y1, y2, y3, y4, y5], _, [v0, v1, v2, v3, v4, v5], _ =>
    have g0 := hf 0 _ rfl
    have g1 := hf 1 _ rfl
    have g2 := hf 2 _ rfl
    have g3 := hf 3 _ rfl
    have g4 := hf 4 _ rfl
    have g5 := hf 5 _ rfl
    have c5 : Try.prog.cellsOf 5 = 1 := by kernel_rfl
    have c9 : Try.prog.cellsOf 9 = 1 := by kernel_rfl
    have c3 : Try.prog.cellsOf 3 = 1 := by kernel_rfl
    have c33 : Try.prog.cellsOf 33 = 1 := by kernel_rfl
    have c34 : Try.prog.cellsOf 34 = 1 := by kernel_rfl
    simp [c5, c9, c3, c33, c34] at g0 g1 g2 g3 g4 g5
    have e0 := hcell 0 (by omega)
    have e1 := hcell 1 (by omega)
    have e2 := hcell 2 (by omega)
    have e3 := hcell 3 (by omega)
    have e4 := hcell 4 (by omega)
    have e5 := hcell 5 (by omega)
    simp only [addr_add] at e0 e1 e2 e3 e4 e5
    obtain ⟨kd, q0, _, wk⟩ := DataW.trod_int Try.underlying5 g0
    obtain ⟨sa, q1, z1, _⟩ := DataW.trod_string Try.underlying9 g1
    obtain ⟨sb, q2, z2, _⟩ := DataW.trod_string Try.underlying9 g2
    obtain ⟨at_, q3, _, wat⟩ := DataW.trod_int Try.underlying3 g3
    obtain ⟨A, m, c, l, q4, hB, hc, hn, hwt⟩ := bytes_cell g4
    obtain ⟨A', m', c', l', q5, hI, hc', hwt'⟩ := ints_cell g5
    simp only [List.cons.injEq, and_true] at q0 q1 q2 q3 q4 q5
    subst q0 q1 q2 q3 q4 q5
    have bk := u8_bounds wk
    obtain ⟨kn, rfl⟩ := Int.eq_ofNat_of_zero_le bk.1
    have hw : ∀ (j : Nat) t y, ([5, 9, 9, 3, 33, 34] : List Nat)[j]? = some t → [y0, y1, y2, y3, y4, y5][j]? = some y → ∀ k ∈ DataW.weights Try.prog t y.1, k ≤ 140737488355328 := fun j t y ht hy k hk => hR k (by
      rw [hxy]
      simp only [DataW.weights, Try.underlying36, List.map_cons, List.map_nil, DataW.weightsEach]
      rcases j with _ | _ | _ | _ | _ | _ | j
      all_goals
        simp at ht hy
      all_goals
        subst ht hy
        simp [hk])
    have w1 := hw 1 9 y1 rfl rfl sa.data.toList.length (by rw [z1]; simp [DataW.weights])
    have w2 := hw 2 9 y2 rfl rfl sb.data.toList.length (by rw [z2]; simp [DataW.weights])
    refine ⟨⟨kn, sa, sb, at_, A, m, c, l, A', m', c', l'⟩, ⟨block_lt_of_cell (by simpa using e0), by simpa using e0, by simpa using e1, by simpa using e2, by simpa using e3, by simpa using e4, by simpa using e5, hB, hB.lt, hI, hI.lt, hn, hc, (by show kn < 256; omega), ?_, ?_, hwt _ (hw 4 33 y4 rfl rfl), hwt' _ (hw 5 34 y5 rfl rfl)⟩, (i64_bounds wat).2⟩
    · exact Nat.le_trans (Nat.le_of_eq (size_len sa)) w1
    · exact Nat.le_trans (Nat.le_of_eq (size_len sb)) w2
set_option maxRecDepth 50000 in
/-- Acts that came in. -/
theorem acts_in2 {H : Type} {enc : TypeId × Value → H} {W : World} {a0 : Option Addr} {len0 cap0 : Nat} {d0 : DataW H} {p0 : List MemPlace} (h0 : DataW.Trod enc Try.prog W 0 (fun _ => true) true 22 (.slice a0 len0 cap0) d0 p0) (hR : ∀ m ∈ DataW.weights Try.prog 22 d0, m ≤ 140737488355328) :
    ∃ L, Acts W W.heap.size a0 len0 L ∧ ∀ i, i < len0 → (L.getD i default).at_ ≤ 9223372036854775807 := by
  obtain ⟨fuel, hf⟩ := h0
  have c36 : Try.prog.cellsOf 36 = 6 := by kernel_rfl
  rcases open_slice Try.underlying22 hf with ⟨hcs, _⟩ | ⟨a, len, cap, m, n, D, Pl, hcs, _, hl, hm, hmm, hx, hel⟩
  · simp [Value.cells] at hcs
    obtain ⟨rfl, rfl, rfl⟩ := hcs
    exact ⟨[], ⟨rfl, Nat.zero_le _, fun h => absurd h (by omega)⟩, fun i hi => absurd hi (by omega)⟩
  · simp [Value.cells] at hcs
    obtain ⟨rfl, rfl, rfl⟩ := hcs
    simp at hmm
    subst hmm
    rw [c36] at hel
    obtain ⟨b, o, spot⟩ := a
    by_cases hz : 0 < len0
    · have hspot : spot = none := by
        obtain ⟨cs', h1, h2⟩ := hel 0 (by omega)
        obtain ⟨_, hl', hc'⟩ := World.cells?_some h1
        have := hc' 0 (by omega)
        have h4 : 0 < cs'.length := by omega
        rw [List.getElem?_eq_getElem h4] at this
        simpa [Addr.add] using World.cell?_spot this
      subst hspot
      have hd := congrArg Prod.fst hx
      simp only at hd
      obtain ⟨it, hit⟩ := choose_lt (α := ActV) (n := len0) (p := fun i x => ActIs W W.heap.size b (o + i * 6) x ∧ x.at_ ≤ 9223372036854775807) (fun i hi => by
        obtain ⟨cs', h1, h2⟩ := hel i (by omega)
        rw [addr_add] at h1
        refine act_in2 h1 h2 fun k hk => hR k ?_
        rw [hd]
        simp only [DataW.weights, Try.underlying22]
        exact List.mem_cons_of_mem _ (List.mem_append_left _ (weights_all _ (D i) (List.mem_map.2 ⟨i, List.mem_range.2 hi, rfl⟩) k hk)))
      have e : ∀ i, i < len0 → ((List.range len0).map it).getD i default = it i := fun i hi => by simp [List.getD, hi]
      refine ⟨(List.range len0).map it, ⟨by simp, by omega, fun _ => ⟨b, o, rfl, fun i hi => ?_⟩⟩, fun i hi => ?_⟩
      · rw [e i hi]
        exact (hit i hi).1
      · rw [e i hi]
        exact (hit i hi).2
    · obtain rfl : len0 = 0 := by omega
      exact ⟨[], ⟨rfl, Nat.zero_le _, fun h => absurd h (by omega)⟩, fun i hi => absurd hi (by omega)⟩
end Go.Proofs.Ytedhbcaakdfcbaa.disk

namespace Go.Proofs.Ytedhbcaakdfcbaa.diskPlays
open Go.ChangeShapes Go.WideShapes Go.ChangeAt Go.RowKit Go.Proofs.Ytedhbcaakdfcbaa.disk
set_option linter.unusedVariables false
set_option linter.unusedSimpArgs false

set_option maxRecDepth 100000 in
theorem lifted (os : Os) (started : os.Started) (H : Type) (enc : TypeId × Value → H) :
    ReturnsInHanded {} Try.checked os 3 .any (Rows.diskPlaysSpec.pre6 enc Try.prog Try.f3 Rows.diskPlaysRow.domain false) (Rows.diskPlaysSpec.post enc Try.prog Try.f3 false true false false) := by
  refine returnsInHanded_of_change_sized (C := Try.checked) own started (by kernel_rfl) Try.func3
    (ChangeSpec.witness6 (enc := enc) (C := Try.checked) false ⟨#[], #[.int .i64 0, .slice none 0 0], []⟩ 8 (by kernel_rfl) (by kernel_rfl) (by kernel_rfl) (by kernel_rfl)) ?_
  intro W base args ds gs before hval0 hW hcnd hwt _
  have hval : ∀ (j : Nat) t v, Try.f3.params[j]? = some t → args[j]? = some v → Value.okWide Try.prog W .any base t v := hval0
  have hW' := hW
  obtain ⟨p, q, hA0, hV, rfl, hfz, hnd⟩ := hW
  have hA : DataW.TrodAll enc Try.prog W 0 (fun _ => true) true Try.f3.params.toList args.toList ds p := hA0
  rw [Try.params3] at hA hval
  obtain ⟨v0, vs0, d0, ds0, p0, q0, hargs, rfl, rfl, h0, r0⟩ := trodAll_cons hA
  obtain ⟨v1, vs1, d1, ds1, p1, q1, rfl, rfl, rfl, h1, r1⟩ := trodAll_cons r0
  obtain ⟨rfl, rfl, rfl⟩ := trodAll_nil r1
  obtain rfl : args = #[v0, v1] := by cases args; simp_all
  obtain ⟨rfl, rfl⟩ := trodVars_none hV
  obtain ⟨z0, rfl, rfl, rfl, w0⟩ := open_int Try.underlying3 (hval 0 3 v0 rfl rfl) h0
  have b0 := i64_bounds w0
  obtain ⟨A1, N1, C1, rfl⟩ := okWide_slice Try.underlying22 (hval 1 22 v1 rfl rfl)
  have k1 := h1
  have lt1 : ∀ x ∈ p1, x.block < W.heap.size := by obtain ⟨m, hm⟩ := k1; exact DataW.trod_lt m _ _ _ hm
  have hz1 : ∀ m ∈ DataW.weights Try.prog 22 d1, m ≤ 140737488355328 := fun m hm => by
    have hwt' : (DataW.weightsEach Try.prog ([3, 22] ++ []) ([_, d1] ++ [])).all (· ≤ reachBytes) = true := hwt
    have h1 := List.all_eq_true.1 hwt' m (DataW.weights_mem_each (j := 1) rfl rfl m hm)
    have h2 := reachBytes_lt
    simp at h1
    omega
  obtain ⟨L1, hB1⟩ := acts_in2 h1 hz1
  clear hA0 hval0
  refine (disk.plays_walk W z0 A1 N1 C1 L1 hB1.1 hB1.2).mono fun e W' ⟨he, bel⟩ => ?_
  subst he
  exact ⟨_, rfl, _, _, _, [], _, [], hW', trodAll_mk1 (shut_bool Try.underlying4 _), (trodAll_cons_mk (shut_int Try.underlying3 w0) (trodAll_cons_mk (Below.trod laidOut (by kernel_rfl) (of_decide_eq_true (by kernel_rfl)) k1 bel lt1) trodAll_mk0)), rfl, bel.frame _, fun h => by cases h⟩

theorem over : Rows.DiskPlaysSaid :=
  OpenClaim.holds_of_wide 3 Try.f3 rfl rfl rfl rfl rfl rfl rfl ⟨rfl, rfl, rfl, rfl, rfl⟩ rfl rfl rfl rfl rfl (by kernel_rfl) Try.func3 (by kernel_rfl)
    (of_decide_eq_true (by kernel_rfl)) (by unfold Func.isWrapper; first | (rw [if_pos (by decide +kernel)]; kernel_rfl) | (rw [if_neg (by decide +kernel)]; exact ⟨rfl, rfl⟩))
    (fun os started H enc _ => lifted os started H enc)

theorem proved : Rows.DiskPlaysSaid := over
#print axioms proved
end Go.Proofs.Ytedhbcaakdfcbaa.diskPlays
