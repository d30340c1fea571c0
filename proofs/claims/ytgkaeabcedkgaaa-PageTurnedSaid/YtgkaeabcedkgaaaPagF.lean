/- The law on bytes that are read as a page, walked. -/
import Derived.Test.YtgkaeabcedkgaaaPagE
namespace Go.Proofs.Ytgkaeabcedkgaaa.pg
open Go.ChangeShapes Go.WideShapes Go.ChangeAt Go.RowKit
open Go.Proofs.Ytgkaeabcedkgaaa.codec (Bytes vals vals_append vals_length vals_one OutIs More Made New bytesOf byteAt bytesOf_length bytesOf_lt Fits strOf)
open Go.Proofs.Ytgkaeabcedkgaaa.crc (crcOf crcOf_lt crc_prog crc_ref)
open Go.Proofs.Ytgkaeabcedkgaaa.two
open Go.Proofs.Ytgkaeabcedkgaaa.rd
set_option linter.unusedVariables false
set_option maxRecDepth 100000
set_option linter.unusedSimpArgs false

set_option maxHeartbeats 1000000 in
theorem reads_walk (W : World) (k : Int) (n c : Nat) (A : Option Addr) (p : List Nat) (hB : Bytes W A n p) (hn : n ≤ maxLen) (hc : n ≤ c) (hA : A = none → c = 0) :
    Calls Try.prog 4 #[.int .i64 k, .slice A n c] W fun e w' => e = .returned (.bool true) ∧ Below W.heap.size W w' := by
  unfold maxLen at hn
  have HB := Lib.hid hB
  have HN := Lib.hid hA
  have HW := Lib.hid (awake_any W)
  clear hB hA
  by_cases h4 : 20000 < n
  · go_enter Try.func4, Try.ntmps4
    go_wp2_with fail
    refine HW.out.mono ?_
    rintro e w1 ⟨rfl, hb⟩
    have HB1 := Lib.hid hb
    have HW1 := Lib.hid (awake_any w1)
    clear hb
    go_wp2_with fail
    refine HW1.out.mono ?_
    rintro e w2 ⟨rfl, hb⟩
    have HB2 := Lib.hid hb
    clear hb
    go_wp2_with fail
    go_ret
    exact ⟨rfl, HB1.out.trans (HB2.out.mono HB1.out.size)⟩
  · go_enter Try.func4, Try.ntmps4
    go_wp2_with fail
    refine HW.out.mono ?_
    rintro e w1 ⟨rfl, hb⟩
    have HB1 := Lib.hid hb
    have HG := Lib.hid (get_any w1 k n c A p (HB.out.below HB.out.lt hb) (by omega) hc)
    clear hb
    go_wp2_with fail
    refine HG.out.mono ?_
    rintro e w2 ⟨hb2, ⟨hip, g2, m2, hm2, rfl, hg2, hB2⟩ | ⟨hnp, rfl⟩⟩
    · have HB2 := Lib.hid (HB1.out.trans (hb2.mono HB1.out.size))
      have hlen := HB.out.1
      obtain ⟨m, rfl, h1, h3, hpl⟩ := isPage_pay HB.out.2.1 (by omega) hip
      have hll := congrArg List.length hpl
      rw [pageL_length, hlen, ← hm2] at hll
      have HBa := Lib.hid (HB.out.below HB.out.lt HB2.out)
      have HR := Lib.hid (refPage_any w2.drew m m2 m2 (some ⟨g2, 0, none⟩) (payL p) h1 h3 (hB2.drewN 1) (by omega) (fun e => by cases e))
      obtain ⟨T, hT⟩ : ∃ T, T = strOf p := ⟨_, rfl⟩
      have HTq := Lib.hid hT
      have HNq := Lib.hid (show (pageL m (payL p)).length = n by rw [← hpl]; exact hlen)
      have HLq := Lib.hid (show ∀ x ∈ pageL m (payL p), x < 256 by rw [← hpl]; exact HB.out.2.1)
      have HEq := Lib.hid (show pageL m (payL p) = p from hpl.symm)
      have HCt := Lib.hid (show ∀ w', Below w2.heap.size w2 w' → (convert 22 9 (.slice A n c)).run Try.prog w' = .ok (.string T) w' from fun w' hw' => by rw [HTq.out]; exact (HBa.out.below HBa.out.lt hw').text c)
      have hmm : m2 ≤ 20000 := by omega
      have hd1 : decide ((1 : Int) ≤ (m : Nat)) = true := by simp; omega
      have hd3 : decide (((m : Nat) : Int) ≤ 3) = true := by simp; omega
      have hn0 : 0 < n := by omega
      clear hll hb2 hip hm2 hg2 hB2 hpl hlen hT HG HW HB1
      go_wp2_with fail
      refine wp_region_noPanic ?_
      refine wp_region_held_drew (S := fun w' => Below w2.heap.size w2 w') (by kernel_rfl) (codec.below_draws (Below.refl _ _) 1) (fun hHeld => ?_)
      refine wpAnyH_take (i := 0) (v := ?_) rfl (by kernel_rfl) (by kernel_rfl) (by kernel_rfl) (fun _ _ _ h => h) (Or.inl ⟨by kernel_rfl, ?_⟩) hHeld ?_
      rotate_left
      · (intro w' hw'; go_simp; first | done | with_reducible rfl)
      refine wpAnyH_take (i := 1) (v := ?_) rfl (by kernel_rfl) (by kernel_rfl) (by kernel_rfl) (fun _ _ _ h => h) (Or.inl ⟨by kernel_rfl, ?_⟩) hHeld ?_
      rotate_left
      · (intro w' hw'; go_simp; first | done | with_reducible rfl)
      refine wpAnyH_take (i := 2) (v := ?_) rfl (by kernel_rfl) (by kernel_rfl) (by kernel_rfl) (fun _ _ _ h => h) (Or.inl ⟨by kernel_rfl, ?_⟩) hHeld ?_
      rotate_left
      · (intro w' hw'; go_simp; first | done | with_reducible rfl)
      refine wpAnyH_take (i := 3) (v := ?_) rfl (by kernel_rfl) (by kernel_rfl) (by kernel_rfl) (fun _ _ _ h => h) (Or.inl ⟨by kernel_rfl, ?_⟩) hHeld ?_
      rotate_left
      · (intro w' hw'; go_simp; first | done | with_reducible rfl)
      refine wpAnyH_take (i := 4) (v := ?_) rfl (by kernel_rfl) (by kernel_rfl) (by kernel_rfl) (fun _ _ _ h => h) (Or.inl ⟨by kernel_rfl, ?_⟩) hHeld ?_
      rotate_left
      · (intro w' hw'; go_simp; first | done | with_reducible rfl)
      refine wpAnyH_take (i := 5) (v := ?_) rfl (by kernel_rfl) (by kernel_rfl) (by kernel_rfl) (fun _ _ _ h => h) (Or.inl ⟨by kernel_rfl, ?_⟩) hHeld ?_
      rotate_left
      · (intro w' hw'; go_simp; first | done | with_reducible rfl)
      refine wpAnyH_take (i := 6) (v := ?_) rfl (by kernel_rfl) (by kernel_rfl) (by kernel_rfl) (fun _ _ _ h => h) (Or.inl ⟨by kernel_rfl, ?_⟩) hHeld ?_
      rotate_left
      · (intro w' hw'; go_simp; first | done | with_reducible rfl)
      refine wpAnyH_take (i := 7) (v := ?_) rfl (by kernel_rfl) (by kernel_rfl) (by kernel_rfl) (fun _ _ _ h => h) (Or.inl ⟨by kernel_rfl, ?_⟩) hHeld ?_
      rotate_left
      · (intro w' hw'; go_simp; first | done | with_reducible rfl)
      refine wpAnyH_take (i := 8) (v := ?_) rfl (by kernel_rfl) (by kernel_rfl) (by kernel_rfl) (fun _ _ _ h => h) (Or.inl ⟨by kernel_rfl, ?_⟩) hHeld ?_
      rotate_left
      · (intro w' hw'; go_simp; first | done | with_reducible rfl)
      refine wpAnyH_take (i := 11) (v := ?_) rfl (by kernel_rfl) (by kernel_rfl) (by kernel_rfl) (fun _ _ _ h => h) (Or.inl ⟨by kernel_rfl, ?_⟩) hHeld ?_
      rotate_left
      · (intro w' hw'; go_simp; first | done | with_reducible rfl)
      refine wpAnyH_take (i := 12) (v := ?_) rfl (by kernel_rfl) (by kernel_rfl) (by kernel_rfl) (fun _ _ _ h => h) (Or.inl ⟨by kernel_rfl, ?_⟩) hHeld ?_
      rotate_left
      · (intro w' hw'; have hc4 := HCt.out w' hw'; go_simp; first | done | with_reducible rfl)
      refine wpAnyH_ready (rs := [9]) (by kernel_rfl) (by simp) ?_
      refine AllReadyH.cons rfl (fun K hK => ?_) AllReadyH.nil
      go_simp
      refine HR.out.mono ?_
      rintro e w5 ⟨v, rfl, hM0⟩
      have hM := Mine.drew hM0
      clear hM0
      obtain ⟨g5, cap5, rfl, hc5, -⟩ := hM.form n HNq.out hn0
      have c4 := (hM.bytes HNq.out HLq.out).text cap5
      rw [HEq.out, ← HTq.out] at c4
      have HM := Lib.hid hM
      clear hM
      go_wp2_with fail
      refine hK.out _ _ HM.out.2 (fun hH1 => ?_)
      clear hK K hHeld
      refine wpAnyH_ready (rs := [10]) (by kernel_rfl) (by simp) ?_
      refine AllReadyH.cons rfl (fun K hK => ?_) AllReadyH.nil
      go_simp
      refine hK _ _ hH1 (fun _ => ?_)
      clear hK K
      refine wpAnyH_take (i := 13) (v := ?_) rfl (by kernel_rfl) (by kernel_rfl) (by kernel_rfl) (fun _ _ _ h => h) (Or.inl ⟨by kernel_rfl, ?_⟩) hH1 ?_
      rotate_left
      · (intro w' hw'; go_simp; first | done | with_reducible rfl)
      refine wpAnyH_take (i := 14) (v := ?_) rfl (by kernel_rfl) (by kernel_rfl) (by kernel_rfl) (fun _ _ _ h => h) (Or.inl ⟨by kernel_rfl, ?_⟩) hH1 ?_
      rotate_left
      · (intro w' hw'; go_simp; first | done | with_reducible rfl)
      refine wpAnyH_take (i := 15) (v := ?_) rfl (by kernel_rfl) (by kernel_rfl) (by kernel_rfl) (fun _ _ _ h => h) (Or.inl ⟨by kernel_rfl, ?_⟩) hH1 ?_
      rotate_left
      · (intro w' hw'; go_simp; first | done | with_reducible rfl)
      refine wpAnyH_done (by kernel_rfl) ?_ _
      refine NoPanic.normal ?_
      go_simp
      go_wp2
      go_ret
      exact ⟨rfl, HB2.out.trans (HM.out.2.mono HB2.out.size)⟩
    · have HB2 := Lib.hid (HB1.out.trans (hb2.mono HB1.out.size))
      clear hb2 hnp
      go_wp2_with fail
      go_ret
      exact ⟨rfl, HB2.out⟩
end Go.Proofs.Ytgkaeabcedkgaaa.pg
