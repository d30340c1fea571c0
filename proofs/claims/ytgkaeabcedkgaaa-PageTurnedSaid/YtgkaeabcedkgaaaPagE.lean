/- The law on pages that are written, walked. -/
import Derived.Test.YtgkaeabcedkgaaaPagD
import Derived.Deep.RegionHeld3
namespace Go.Proofs.Ytgkaeabcedkgaaa.pg
open Go.ChangeShapes Go.WideShapes Go.ChangeAt Go.RowKit
open Go.Proofs.Ytgkaeabcedkgaaa.codec (Bytes vals vals_append vals_length vals_one OutIs More Made New bytesOf byteAt bytesOf_length bytesOf_lt Fits strOf)
open Go.Proofs.Ytgkaeabcedkgaaa.crc (crcOf crcOf_lt crc_prog crc_ref)
open Go.Proofs.Ytgkaeabcedkgaaa.two
open Go.Proofs.Ytgkaeabcedkgaaa.rd
set_option linter.unusedVariables false
set_option maxRecDepth 100000
set_option linter.unusedSimpArgs false

theorem page_kind {k : Int} {m : Nat} {p : List Nat} (hk : k ≠ m) : ¬ IsPage k (pageL m p) := by
  rintro ⟨m', p', rfl, _, _, e⟩
  have h := congrArg (fun l => l.getD 3 0) e
  simp [pageL, body, first] at h
  omega
set_option maxHeartbeats 1000000 in
theorem writes_good (W : World) (m n c : Nat) (A : Option Addr) (p : List Nat) (h1 : 1 ≤ m) (h3 : m ≤ 3) (hB : Bytes W A n p) (hn : n ≤ 60000) (hc : n ≤ c) (hA : A = none → c = 0) :
    Calls Try.prog 3 #[.int .i64 m, .slice A n c] W fun e w' => e = .returned (.bool true) ∧ Below W.heap.size W w' := by
  have HB := Lib.hid hB
  have HN := Lib.hid hA
  have HW := Lib.hid (awake_any W)
  clear hB hA
  go_enter Try.func3, Try.ntmps3
  go_wp2_with fail
  refine HW.out.mono ?_
  rintro e w1 ⟨rfl, hb⟩
  have HB1 := Lib.hid hb
  have HF := Lib.hid (put_good w1 m n c A p (by omega) (by omega) (HB.out.below HB.out.lt hb) (by omega) HN.out)
  clear hb
  go_wp2_with fail
  refine HF.out.mono ?_
  rintro e w2 ⟨v, rfl, hM⟩
  obtain ⟨g, rfl, hg, hb, hBg⟩ := hM.bytes
  have HB2 := Lib.hid (HB1.out.trans (hb.mono HB1.out.size))
  have hlp := HB.out.1
  have hpf := page_formed (m := m) (p := p) (by omega) (by omega) (by omega)
  have hll := pageL_length m p
  obtain ⟨N, hN⟩ : ∃ N, N = (pageL m p).length := ⟨_, rfl⟩
  have hN0 : 0 < N := by omega
  have hN1 : N ≤ 60012 := by omega
  rw [← hN] at hBg ⊢
  have HG := Lib.hid (get_any w2 m N N (some ⟨g, 0, none⟩) (pageL m p) hBg (by omega) (Nat.le_refl _))
  have HBg := Lib.hid hBg
  have HNq := Lib.hid hN.symm
  have HPf := Lib.hid hpf
  clear hM hb hBg hg HF hN hlp hpf hll
  go_wp2_with fail
  refine HG.out.mono ?_
  rintro e w3 ⟨hb3, ⟨hip, g3, m3, hm3, rfl, hg3, hB3⟩ | ⟨hnp, -⟩⟩
  · rw [HPf.out.2] at hm3 hB3
    have HB3 := Lib.hid (HB2.out.trans (hb3.mono HB2.out.size))
    have HBg3 := Lib.hid (HBg.out.below HBg.out.lt hb3)
    have HBp3 := Lib.hid hB3
    have hmn : m3 = n := hm3.trans HB.out.1
    subst hmn
    clear hm3 hB3 hg3 hip hb3
    go_wp2_with fail
    refine (get_any w3 ((m : Int) % 3 + 1) N N (some ⟨g, 0, none⟩) (pageL m p) HBg3.out (by omega) (Nat.le_refl _)).mono ?_
    rintro e w4 ⟨hb4, ⟨hip, -⟩ | ⟨-, rfl⟩⟩
    · exact absurd hip (page_kind (by omega))
    · have HB4 := Lib.hid (HB3.out.trans (hb4.mono HB3.out.size))
      have HBg4 := Lib.hid (HBg3.out.below HBg3.out.lt hb4)
      have HBp4 := Lib.hid (HBp3.out.below HBp3.out.lt hb4)
      have HR := Lib.hid (refPage_any w4.drew m m3 c A p (by omega) (by omega) ((HB.out.below HB.out.lt HB4.out).drewN 1) (by omega) HN.out)
      obtain ⟨T, hT⟩ : ∃ T, T = strOf (pageL m p) := ⟨_, rfl⟩
      obtain ⟨U, hU⟩ : ∃ U, U = strOf p := ⟨_, rfl⟩
      have HTq := Lib.hid hT
      have HUq := Lib.hid hU
      clear hb4 hT hU HW HB1 HB2 HG HBg HPf HB3 HBg3 HBp3
      go_wp2_with fail
      have HCt := Lib.hid (show ∀ w', Below w4.heap.size w4 w' → (convert 22 9 (.slice (some ⟨g, 0, none⟩) N N)).run Try.prog w' = .ok (.string T) w' from fun w' hw' => by rw [HTq.out]; exact (HBg4.out.below HBg4.out.lt hw').text N)
      have HCp := Lib.hid (show ∀ w', Below w4.heap.size w4 w' → (convert 22 9 (.slice (some ⟨g3, 0, none⟩) m3 m3)).run Try.prog w' = .ok (.string U) w' from fun w' hw' => by rw [HUq.out]; exact (HBp4.out.below HBp4.out.lt hw').text m3)
      have HCa := Lib.hid (show ∀ w', Below w4.heap.size w4 w' → (convert 22 9 (.slice A m3 c)).run Try.prog w' = .ok (.string U) w' from fun w' hw' => by rw [HUq.out]; exact ((HB.out.below HB.out.lt HB4.out).below (HB.out.below HB.out.lt HB4.out).lt hw').text c)
      refine wp_region_noPanic ?_
      refine wp_region_held_drew (S := fun w' => Below w4.heap.size w4 w') (by kernel_rfl) (codec.below_draws (Below.refl _ _) 1) (fun hHeld => ?_)
      refine wpAnyH_take (i := 0) (v := ?_) rfl (by kernel_rfl) (by kernel_rfl) (by kernel_rfl) (fun _ _ _ h => h) (Or.inl ⟨by kernel_rfl, ?_⟩) hHeld ?_
      rotate_left
      · (intro w' hw'; go_simp; first | done | with_reducible rfl)
      refine wpAnyH_take (i := 1) (v := ?_) rfl (by kernel_rfl) (by kernel_rfl) (by kernel_rfl) (fun _ _ _ h => h) (Or.inl ⟨by kernel_rfl, ?_⟩) hHeld ?_
      rotate_left
      · (intro w' hw'; go_simp; first | done | with_reducible rfl)
      refine wpAnyH_take (i := 2) (v := ?_) rfl (by kernel_rfl) (by kernel_rfl) (by kernel_rfl) (fun _ _ _ h => h) (Or.inl ⟨by kernel_rfl, ?_⟩) hHeld ?_
      rotate_left
      · (intro w' hw'; go_simp; first | done | with_reducible rfl)
      refine wpAnyH_take (i := 3) (v := ?_) rfl (by kernel_rfl) (by kernel_rfl) (by kernel_rfl) (fun _ _ _ h => h) (Or.inl ⟨by kernel_rfl, ?_⟩) hHeld ?_
      rotate_left
      · (intro w' hw'; go_simp; first | done | with_reducible rfl)
      refine wpAnyH_take (i := 5) (v := ?_) rfl (by kernel_rfl) (by kernel_rfl) (by kernel_rfl) (fun _ _ _ h => h) (Or.inl ⟨by kernel_rfl, ?_⟩) hHeld ?_
      rotate_left
      · (intro w' hw'; go_simp; first | done | with_reducible rfl)
      refine wpAnyH_take (i := 6) (v := ?_) rfl (by kernel_rfl) (by kernel_rfl) (by kernel_rfl) (fun _ _ _ h => h) (Or.inl ⟨by kernel_rfl, ?_⟩) hHeld ?_
      rotate_left
      · (intro w' hw'; go_simp; first | done | with_reducible rfl)
      refine wpAnyH_take (i := 4) (v := ?_) rfl (by kernel_rfl) (by kernel_rfl) (by kernel_rfl) (fun _ _ _ h => h) (Or.inl ⟨by kernel_rfl, ?_⟩) hHeld ?_
      rotate_left
      · (intro w' hw'; have hc4 := HCt.out w' hw'; go_simp; first | done | with_reducible rfl)
      refine wpAnyH_ready (rs := [7]) (by kernel_rfl) (by simp) ?_
      refine AllReadyH.cons rfl (fun K hK => ?_) AllReadyH.nil
      go_simp
      refine HR.out.mono ?_
      rintro e w5 ⟨v, rfl, hM0⟩
      have hM := Mine.drew hM0
      clear hM0
      obtain ⟨g5, cap5, rfl, hc5, -⟩ := hM.form N HNq.out hN0
      have c4 := (hM.bytes HNq.out HBg4.out.2.1).text cap5
      rw [← HTq.out] at c4
      have HM := Lib.hid hM
      clear hM
      go_wp2_with fail
      refine hK.out _ _ HM.out.2 (fun hH5 => ?_)
      clear hK K hHeld
      refine wpAnyH_ready (rs := [8]) (by kernel_rfl) (by simp) ?_
      refine AllReadyH.cons rfl (fun K hK => ?_) AllReadyH.nil
      go_simp
      refine hK _ _ hH5 (fun _ => ?_)
      clear hK K
      refine wpAnyH_take (i := 9) (v := ?_) rfl (by kernel_rfl) (by kernel_rfl) (by kernel_rfl) (fun _ _ _ h => h) (Or.inl ⟨by kernel_rfl, ?_⟩) hH5 ?_
      rotate_left
      · (intro w' hw'; go_simp; first | done | with_reducible rfl)
      refine wpAnyH_take (i := 10) (v := ?_) rfl (by kernel_rfl) (by kernel_rfl) (by kernel_rfl) (fun _ _ _ h => h) (Or.inl ⟨by kernel_rfl, ?_⟩) hH5 ?_
      rotate_left
      · (intro w' hw'; go_simp; first | done | with_reducible rfl)
      refine wpAnyH_take (i := 11) (v := ?_) rfl (by kernel_rfl) (by kernel_rfl) (by kernel_rfl) (fun _ _ _ h => h) (Or.inl ⟨by kernel_rfl, ?_⟩) hH5 ?_
      rotate_left
      · (intro w' hw'; go_simp; first | done | with_reducible rfl)
      refine wpAnyH_take (i := 12) (v := ?_) rfl (by kernel_rfl) (by kernel_rfl) (by kernel_rfl) (fun _ _ _ h => h) (Or.inl ⟨by kernel_rfl, ?_⟩) hH5 ?_
      rotate_left
      · (intro w' hw'; go_simp; first | done | with_reducible rfl)
      refine wpAnyH_take (i := 13) (v := ?_) rfl (by kernel_rfl) (by kernel_rfl) (by kernel_rfl) (fun _ _ _ h => h) (Or.inl ⟨by kernel_rfl, ?_⟩) hH5 ?_
      rotate_left
      · (intro w' hw'; go_simp; first | done | with_reducible rfl)
      refine wpAnyH_take (i := 14) (v := ?_) rfl (by kernel_rfl) (by kernel_rfl) (by kernel_rfl) (fun _ _ _ h => h) (Or.inl ⟨by kernel_rfl, ?_⟩) hH5 ?_
      rotate_left
      · (intro w' hw'; go_simp; first | done | with_reducible rfl)
      refine wpAnyH_take (i := 15) (v := ?_) rfl (by kernel_rfl) (by kernel_rfl) (by kernel_rfl) (fun _ _ _ h => h) (Or.inl ⟨by kernel_rfl, ?_⟩) hH5 ?_
      rotate_left
      · (intro w' hw'; go_simp; first | done | with_reducible rfl)
      refine wpAnyH_take (i := 16) (v := ?_) rfl (by kernel_rfl) (by kernel_rfl) (by kernel_rfl) (fun _ _ _ h => h) (Or.inl ⟨by kernel_rfl, ?_⟩) hH5 ?_
      rotate_left
      · (intro w' hw'; go_simp; first | done | with_reducible rfl)
      refine wpAnyH_take (i := 17) (v := ?_) rfl (by kernel_rfl) (by kernel_rfl) (by kernel_rfl) (fun _ _ _ h => h) (Or.inl ⟨by kernel_rfl, ?_⟩) hH5 ?_
      rotate_left
      · (intro w' hw'; have hc4 := HCp.out w' hw'; go_simp; first | done | with_reducible rfl)
      refine wpAnyH_take (i := 18) (v := ?_) rfl (by kernel_rfl) (by kernel_rfl) (by kernel_rfl) (fun _ _ _ h => h) (Or.inl ⟨by kernel_rfl, ?_⟩) hH5 ?_
      rotate_left
      · (intro w' hw'; go_simp; first | done | with_reducible rfl)
      refine wpAnyH_take (i := 19) (v := ?_) rfl (by kernel_rfl) (by kernel_rfl) (by kernel_rfl) (fun _ _ _ h => h) (Or.inl ⟨by kernel_rfl, ?_⟩) hH5 ?_
      rotate_left
      · (intro w' hw'; have hc4 := HCa.out w' hw'; go_simp; first | done | with_reducible rfl)
      refine wpAnyH_take (i := 20) (v := ?_) rfl (by kernel_rfl) (by kernel_rfl) (by kernel_rfl) (fun _ _ _ h => h) (Or.inl ⟨by kernel_rfl, ?_⟩) hH5 ?_
      rotate_left
      · (intro w' hw'; go_simp; first | done | with_reducible rfl)
      refine wpAnyH_take (i := 21) (v := ?_) rfl (by kernel_rfl) (by kernel_rfl) (by kernel_rfl) (fun _ _ _ h => h) (Or.inl ⟨by kernel_rfl, ?_⟩) hH5 ?_
      rotate_left
      · (intro w' hw'; go_simp; first | done | with_reducible rfl)
      refine wpAnyH_take (i := 22) (v := ?_) rfl (by kernel_rfl) (by kernel_rfl) (by kernel_rfl) (fun _ _ _ h => h) (Or.inl ⟨by kernel_rfl, ?_⟩) hH5 ?_
      rotate_left
      · (intro w' hw'; go_simp; first | done | with_reducible rfl)
      refine wpAnyH_take (i := 23) (v := ?_) rfl (by kernel_rfl) (by kernel_rfl) (by kernel_rfl) (fun _ _ _ h => h) (Or.inl ⟨by kernel_rfl, ?_⟩) hH5 ?_
      rotate_left
      · (intro w' hw'; go_simp; first | done | with_reducible rfl)
      refine wpAnyH_take (i := 24) (v := ?_) rfl (by kernel_rfl) (by kernel_rfl) (by kernel_rfl) (fun _ _ _ h => h) (Or.inl ⟨by kernel_rfl, ?_⟩) hH5 ?_
      rotate_left
      · (intro w' hw'; go_simp; first | done | with_reducible rfl)
      refine wpAnyH_take (i := 25) (v := ?_) rfl (by kernel_rfl) (by kernel_rfl) (by kernel_rfl) (fun _ _ _ h => h) (Or.inl ⟨by kernel_rfl, ?_⟩) hH5 ?_
      rotate_left
      · (intro w' hw'; go_simp; first | done | with_reducible rfl)
      refine wpAnyH_take (i := 26) (v := ?_) rfl (by kernel_rfl) (by kernel_rfl) (by kernel_rfl) (fun _ _ _ h => h) (Or.inl ⟨by kernel_rfl, ?_⟩) hH5 ?_
      rotate_left
      · (intro w' hw'; go_simp; first | done | with_reducible rfl)
      refine wpAnyH_done (by kernel_rfl) ?_ _
      refine NoPanic.normal ?_
      go_simp
      go_wp2
      go_ret
      exact ⟨rfl, HB4.out.trans (HM.out.2.mono HB4.out.size)⟩
  · exact absurd ⟨m, p, rfl, h1, h3, rfl⟩ hnp

set_option maxHeartbeats 1000000 in
theorem writes_walk (W : World) (k : Int) (n c : Nat) (A : Option Addr) (p : List Nat) (hB : Bytes W A n p) (hn : n ≤ maxLen) (hc : n ≤ c) (hA : A = none → c = 0) :
    Calls Try.prog 3 #[.int .i64 k, .slice A n c] W fun e w' => e = .returned (.bool true) ∧ Below W.heap.size W w' := by
  unfold maxLen at hn
  have HB := Lib.hid hB
  have HN := Lib.hid hA
  have HW := Lib.hid (awake_any W)
  clear hB hA
  by_cases h4 : 70000 < n
  · go_enter Try.func3, Try.ntmps3
    go_wp2_with fail
    refine HW.out.mono ?_
    rintro e w1 ⟨rfl, hb⟩
    have HB1 := Lib.hid hb
    have HW1 := Lib.hid (awake_any w1)
    clear hb
    go_wp2_with fail
    refine HW1.out.mono ?_
    rintro e w2 ⟨rfl, hb⟩
    have HB2 := Lib.hid hb
    clear hb
    go_wp2_with fail
    go_ret
    exact ⟨rfl, HB1.out.trans (HB2.out.mono HB1.out.size)⟩
  · by_cases hk : 1 ≤ k ∧ k ≤ 3
    · obtain ⟨h1, h3⟩ := hk
      obtain ⟨m, rfl⟩ := Int.eq_ofNat_of_zero_le (show 0 ≤ k by omega)
      by_cases hl : 60000 < n
      · go_enter Try.func3, Try.ntmps3
        go_wp2_with fail
        refine HW.out.mono ?_
        rintro e w1 ⟨rfl, hb⟩
        have HB1 := Lib.hid hb
        clear hb
        go_wp2_with (go_at_call 7; refine (put_long w1 m n c A (by omega) (by omega) hl).mono ?_; rintro e w2 ⟨rfl, rfl⟩)
        go_ret
        exact ⟨rfl, HB1.out⟩
      · exact writes_good W m n c A p (by omega) (by omega) HB.out (by omega) hc HN.out
    · go_enter Try.func3, Try.ntmps3
      go_wp2_with fail
      refine HW.out.mono ?_
      rintro e w1 ⟨rfl, hb⟩
      have HB1 := Lib.hid hb
      have HK := Lib.hid hk
      clear hb
      by_cases hk1 : k < 1
      · clear hk
        go_wp2_with (go_at_call 7; refine (put_arg w1 k n c A HK.out).mono ?_; rintro e w2 ⟨rfl, rfl⟩)
        go_ret
        exact ⟨rfl, HB1.out⟩
      · have hk3 : 3 < k := by omega
        clear hk
        go_wp2_with (go_at_call 7; refine (put_arg w1 k n c A HK.out).mono ?_; rintro e w2 ⟨rfl, rfl⟩)
        go_ret
        exact ⟨rfl, HB1.out⟩
end Go.Proofs.Ytgkaeabcedkgaaa.pg
