/- StoreLays: the walk, call by call. -/
import Derived.Test.YthhflkgngencdaaGreatDoorMa19
import Derived.Test.YthhflkgngencdaaGreatDoorMa16
import Derived.SizedLaws
namespace Go.Proofs.YthhflkgngencdaaGreatDoor.sto
open Go.Proofs.YthhflkgngencdaaGreatDoor.codec (Bytes)
open Go.Proofs.YthhflkgngencdaaGreatDoor.bod (Fit named cell_at)
open Go.ChangeShapes Go.WideShapes Go.ChangeAt Go.RowKit Go.Maps Go.WideMaps Go.Sort Go.Shelf
open Go.Proofs.YthhflkgngencdaaGreatDoor.dis (Dsk Cfg FM File Foot Now Does Listed fAppend fSync fRename fFuse nameB fileAt lenAt upd allSafe erase grown cRoom goes burnt Whole Ints)
set_option linter.unusedVariables false
set_option maxRecDepth 100000
set_option linter.unusedSimpArgs false

set_option maxHeartbeats 800000 in
theorem lays_walk (W : World) (A0 : Option Addr) (N0 C0 : Nat) (L0 : List Nat) (hB0 : Bytes W A0 N0 L0) (hl0 : N0 ≤ 140737488355328) (hc0 : N0 ≤ C0) (hn0 : A0 = none → C0 = 0) (A1 : Option Addr) (N1 C1 : Nat) (L1 : List Nat) (hB1 : Bytes W A1 N1 L1) (hl1 : N1 ≤ 140737488355328) (hc1 : N1 ≤ C1) (hn1 : A1 = none → C1 = 0)
    (z : Nat) (hz : z < 256) (A3 : Option Addr) (N3 C3 : Nat) (L3 : List Int) (hI : Ints W A3 N3 L3) (hN3 : N3 ≤ 140737488355328) (hL : sumDoor.Laid W) (hr : Fit W) :
    Calls Tryz.prog 4 #[.slice A0 N0 C0, .slice A1 N1 C1, .int .u8 (z : Nat), .slice A3 N3 C3] W fun e w' => e = .returned (.bool true) ∧ Below W.heap.size W w' := by
  have HAw := Lib.hid (awake_any W hL hr)
  have HAw2 : Hid (∀ w0, Below W.heap.size W w0 → Calls Tryz.prog 5 #[] w0 fun e w' => e = .returned (.bool true) ∧ Below W.heap.size W w') := Lib.hid (fun w0 hb => (awake_any w0 (hL.below hL.lt hb) (hr.below hb)).mono fun e w' ⟨h1, h2⟩ => ⟨h1, hb.trans (h2.mono hb.size)⟩)
  by_cases hbig : 5000 < N0 + N1
  · have hb1 : 5000 < (N0 : Int) + (N1 : Int) := by omega
    clear hB0 hB1 hI hL hr hbig hc0 hc1 hn0 hn1
    go_enter Tryz.func4, Tryz.ntmps4
    go_wp2_with fail
    refine HAw.out.mono ?_
    rintro e w0 ⟨rfl, hb⟩
    have HA2 := Lib.hid (HAw2.out w0 hb)
    clear hb
    go_wp2_with (go_at_call 5; refine HA2.out.mono ?_; rintro e w2 ⟨rfl, hb⟩; have HB := Lib.hid hb; clear hb)
    go_ret
    exact ⟨rfl, HB.out⟩
  · by_cases hk : 50 < N3
    · have hb1 : ¬ 5000 < (N0 : Int) + (N1 : Int) := by omega
      have hk1 : 50 < (N3 : Int) := by omega
      clear hB0 hB1 hI hL hr hc0 hc1 hn0 hn1
      go_enter Tryz.func4, Tryz.ntmps4
      go_wp2_with fail
      refine HAw.out.mono ?_
      rintro e w0 ⟨rfl, hb⟩
      have HA2 := Lib.hid (HAw2.out w0 hb)
      clear hb
      go_wp2_with (go_at_call 5; refine HA2.out.mono ?_; rintro e w2 ⟨rfl, hb⟩; have HB := Lib.hid hb; clear hb)
      go_ret
      exact ⟨rfl, HB.out⟩
    · have hb1 : ¬ 5000 < (N0 : Int) + (N1 : Int) := by omega
      have hk1 : ¬ 50 < (N3 : Int) := by omega
      have hs : N0 + N1 ≤ 5000 := by omega
      have hs3 : N3 ≤ 50 := by omega
      have HW : Hid (∀ w0, Below W.heap.size W w0 → ∀ w1, Dsk w1 w0.heap.size w0.heap.size none (.map []) ⟨1048576, 0, false, 0, false⟩ (fun _ => none) 0 → Below w0.heap.size w0 w1 → LaysPack W w0.heap.size w1 A0 N0 C0 L0 A1 N1 C1 L1 (z % 6) A3 N3 C3) := Lib.hid (fun w0 hb0 w1 hd hb1 => lays_pack W w0 w1 hb0 hb1 hd A0 N0 C0 L0 hB0 hc0 hn0 A1 N1 C1 L1 hB1 hc1 hn1 (z % 6) A3 N3 C3 L3 hI hs hs3)
      obtain ⟨r, hr6⟩ : ∃ r, r = z % 6 := ⟨_, rfl⟩
      have HZR := Lib.hid (show ((z : Int) % 6) = (r : Int) by rw [hr6]; omega)
      have hr5 : r < 6 := by omega
      rw [← hr6] at HW
      clear hr6
      clear hB0 hB1 hI hL hr hc0 hc1 hn0 hn1 HAw2 hbig hk
      go_enter Tryz.func4, Tryz.ntmps4
      go_wp2_with fail
      refine HAw.out.mono ?_
      rintro e w0 ⟨rfl, hb0⟩
      have HB0 := Lib.hid hb0
      have HNew := Lib.hid (dis.new_ok w0 1048576 (by decide) (by decide))
      clear hb0
      go_wp2_with fail
      refine HNew.out.mono ?_
      rintro e w1 ⟨rfl, hd, hb1'⟩
      obtain ⟨R1, R2, h1, h2, h3, h4⟩ := HW.out w0 HB0.out w1 hd hb1'
      have HP := Lib.hid (Nat.le_trans HB0.out.size (Nat.le_refl w0.heap.size))
      have HBW1 := Lib.hid (HB0.out.trans (hb1'.mono HB0.out.size))
      generalize w0.heap.size = p at *
      have H1 := Lib.hid h1
      have H2 := Lib.hid h2
      have H3 := Lib.hid h3
      have H4 := Lib.hid h4
      clear hd hb1' h1 h2 h3 h4 HW HNew
      go_wp2_with fail
      refine H1.out.mono ?_
      rintro e w2 ⟨rfl, hr1⟩
      have HR1 := Lib.hid hr1
      clear hr1
      go_wp2_with fail
      rw [HZR.out]
      refine (H2.out _ HR1.out).mono ?_
      rintro e w3 ⟨rfl, hr2⟩
      have HR2 := Lib.hid hr2
      clear hr2
      go_wp2_with fail
      refine (H3.out _ HR2.out).mono ?_
      rintro e w4 ⟨R3, hr3, ⟨rfl, hq⟩ | ⟨rfl, hq⟩⟩
      · have HQ := Lib.hid hq
        have HR3 := Lib.hid hr3
        clear hq hr3
        go_wp2_with fail
        refine (HQ.out _ HR3.out).mono ?_
        rintro e w5 ⟨rfl, hrd⟩
        have HRd := Lib.hid hrd
        clear hrd
        go_wp2_with fail
        refine HRd.out.mono ?_
        rintro e w6 ⟨g, rfl, hg, ha, hb⟩
        have hv1 := hg.text N0
        have hv2 := ha.text C0
        have HB := Lib.hid hb
        generalize codec.strOf L0 = T at *
        clear hg ha hb
        go_wp2_with fail
        go_ret
        exact ⟨rfl, HB.out⟩
      · have HQ := Lib.hid hq
        have HR3 := Lib.hid hr3
        clear hq hr3
        go_wp2_with fail
        refine (HQ.out _ HR3.out).mono ?_
        rintro e w5 ⟨rfl, hrd⟩
        have HRd := Lib.hid hrd
        clear hrd
        go_wp2_with fail
        refine HRd.out.mono ?_
        rintro e w6 ⟨g, rfl, hg, ha, hb⟩
        have hv1 := hg.text N1
        have hv2 := ha.text C1
        have HB := Lib.hid hb
        generalize codec.strOf L1 = T at *
        clear hg ha hb
        go_wp2_with fail
        go_ret
        exact ⟨rfl, HB.out⟩
end Go.Proofs.YthhflkgngencdaaGreatDoor.sto
namespace Go.Proofs.YthhflkgngencdaaGreatDoor.cardPin
open Go.ChangeShapes Go.WideShapes Go.ChangeAt Go.RowKit
open Go.Proofs.YthhflkgngencdaaGreatDoor.codec (Bytes)
open Go.Proofs.YthhflkgngencdaaGreatDoor.dis (Ints)
set_option linter.unusedVariables false
set_option linter.unusedSimpArgs false
set_option maxRecDepth 50000

theorem addr_add (b o j : Nat) : (Addr.mk b o none).add j = ⟨b, o + j, none⟩ := by unfold Addr.add; split <;> simp_all
theorem bytes_cell {H : Type} {enc : TypeId × Value → H} {W : World} {fuel : Nat} {cs : List Value} {x : DataW H × List MemPlace} (hf : DataW.trod enc Tryz.prog W 0 (fun _ => true) true fuel 40 cs = some x) :
    ∃ (A : Option Addr) (n c : Nat) (l : List Nat), cs = [.slice A n c] ∧ Bytes W A n l ∧ n ≤ c ∧ (A = none → c = 0) ∧ ∀ R, (∀ m ∈ DataW.weights Tryz.prog 40 x.1, m ≤ R) → n ≤ R := by
  rcases open_ints Tryz.underlying40 Tryz.underlying5 (by kernel_rfl) hf with ⟨rfl, _⟩ | ⟨x', l, c, zs, rfl, _, hl, hm, hz, hx, hcell, hwz⟩
  · exact ⟨none, 0, 0, [], rfl, ⟨rfl, by simp, fun h => absurd h (by omega)⟩, Nat.le_refl _, fun _ => rfl, fun _ _ => Nat.zero_le _⟩
  · have hz' : zs.length = c := by simpa using hz
    refine ⟨some x', l, c, (zs.take l).map Int.toNat, rfl, ⟨by simp; omega, ?_, fun hn => ?_⟩, hl, (fun e => by cases e), fun R hR => ?_⟩
    · intro b hb
      obtain ⟨z, hz, rfl⟩ := List.mem_map.1 hb
      have := u8_bounds (hwz z (List.mem_of_mem_take hz))
      omega
    · obtain ⟨b, o, spot⟩ := x'
      have h0 := hcell 0 (by omega)
      have hspot : spot = none := by simpa [Addr.add] using World.cell?_spot h0
      subst hspot
      refine ⟨b, o, rfl, fun i hi => ?_⟩
      rw [← addr_add, hcell i (by omega)]
      have hi' : i < zs.length := by omega
      have hb := u8_bounds (hwz zs[i] (List.getElem_mem hi'))
      simp [List.getD, hi, hi']
      omega
    · rw [hx] at hR
      have e : (lits (H := H) IntKind.u8 (List.take l zs)).length = l := by simp [lits]; omega
      have hb : Tryz.prog.bytesOf 5 = 1 := by kernel_rfl
      have := hR _ (by
        simp only [DataW.weights, Tryz.underlying40]
        exact List.mem_cons_self)
      rw [hb, Nat.mul_one, e] at this
      omega
theorem ints_cell {H : Type} {enc : TypeId × Value → H} {W : World} {fuel : Nat} {cs : List Value} {x : DataW H × List MemPlace} (hf : DataW.trod enc Tryz.prog W 0 (fun _ => true) true fuel 50 cs = some x) :
    ∃ (A : Option Addr) (n c : Nat) (l : List Int), cs = [.slice A n c] ∧ Ints W A n l ∧ n ≤ c ∧ ∀ R, (∀ m ∈ DataW.weights Tryz.prog 50 x.1, m ≤ R) → n ≤ R := by
  rcases open_ints Tryz.underlying50 Tryz.underlying3 (by kernel_rfl) hf with ⟨rfl, _⟩ | ⟨x', l, c, zs, rfl, _, hl, hm, hz, hx, hcell, hwz⟩
  · exact ⟨none, 0, 0, [], rfl, ⟨rfl, by simp, fun h => absurd h (by omega)⟩, Nat.le_refl _, fun _ _ => Nat.zero_le _⟩
  · have hz' : zs.length = c := by simpa using hz
    refine ⟨some x', l, c, zs.take l, rfl, ⟨by simp; omega, ?_, fun hn => ?_⟩, hl, fun R hR => ?_⟩
    · intro z hz
      have := i64_bounds (hwz z (List.mem_of_mem_take hz))
      omega
    · obtain ⟨b, o, spot⟩ := x'
      have h0 := hcell 0 (by omega)
      have hspot : spot = none := by simpa [Addr.add] using World.cell?_spot h0
      subst hspot
      refine ⟨b, o, rfl, fun i hi => ?_⟩
      rw [← addr_add, hcell i (by omega)]
      have hi' : i < zs.length := by omega
      simp [List.getD, hi, hi']
    · rw [hx] at hR
      have e : (lits (H := H) IntKind.i64 (List.take l zs)).length = l := by simp [lits]; omega
      have hb : Tryz.prog.bytesOf 3 = 8 := by kernel_rfl
      have := hR _ (by
        simp only [DataW.weights, Tryz.underlying50]
        exact List.mem_cons_self)
      rw [hb, e] at this
      omega
theorem ints_in {H : Type} {enc : TypeId × Value → H} {W : World} {a0 : Option Addr} {len0 cap0 : Nat} {d0 : DataW H} {p0 : List MemPlace} (h0 : DataW.Trod enc Tryz.prog W 0 (fun _ => true) true 50 (.slice a0 len0 cap0) d0 p0) (hR : ∀ m ∈ DataW.weights Tryz.prog 50 d0, m ≤ 140737488355328) :
    ∃ L, Ints W a0 len0 L ∧ len0 ≤ 140737488355328 := by
  obtain ⟨fuel, hf⟩ := h0
  obtain ⟨A, n, c, l, e, hI, _, hw⟩ := ints_cell hf
  simp [Value.cells] at e
  obtain ⟨rfl, rfl, rfl⟩ := e
  exact ⟨l, hI, hw _ hR⟩
theorem bytez_in {H : Type} {enc : TypeId × Value → H} {W : World} {a0 : Option Addr} {len0 cap0 : Nat} {d0 : DataW H} {p0 : List MemPlace} (h0 : DataW.Trod enc Tryz.prog W 0 (fun _ => true) true 40 (.slice a0 len0 cap0) d0 p0) (hR : ∀ m ∈ DataW.weights Tryz.prog 40 d0, m ≤ 140737488355328) :
    ∃ L, Bytes W a0 len0 L ∧ len0 ≤ 140737488355328 ∧ len0 ≤ cap0 ∧ (a0 = none → cap0 = 0) := by
  obtain ⟨fuel, hf⟩ := h0
  obtain ⟨A, n, c, l, e, hB, hc, hn, hw⟩ := bytes_cell hf
  simp [Value.cells] at e
  obtain ⟨rfl, rfl, rfl⟩ := e
  exact ⟨l, hB, hw _ hR, hc, hn⟩
end Go.Proofs.YthhflkgngencdaaGreatDoor.cardPin
