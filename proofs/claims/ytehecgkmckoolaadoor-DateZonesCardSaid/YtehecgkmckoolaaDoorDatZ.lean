/- The law DateZones, walked. -/
import Derived.Test.YtehecgkmckoolaaDoorDatL
import Derived.Deep.RegionHeld3
namespace Go.Proofs.YtehecgkmckoolaaDoor.dat
open Go.ChangeShapes Go.WideShapes Go.ChangeAt Go.RowKit
open Go.Lib (dg itoa byteCells strCells)
set_option linter.unusedVariables false
set_option linter.unusedSimpArgs false

theorem head_length (Y M D x : Nat) (h0 : 1 ≤ M) (h1 : M ≤ 12) : (headL Y M D x).length = 20 := by
  have := nameL_length h0 h1
  unfold headL two four
  simp [this]
theorem cut21 (l r : List UInt8) (h : l.length = 21) : (⟨(l ++ r).toArray⟩ : ByteArray).extract 0 21 = ⟨l.toArray⟩ := by
  apply ByteArray.ext
  rw [ByteArray.data_extract]
  simp [← h]
theorem zone_tells (t Y M D hh mm : Nat) (sg : UInt8) (hsg : sg = 43 ∨ sg = 45) (h0 : 1000000 ≤ t) (h1 : t ≤ 253000000000) (hc : Civ ((t / 86400 : Nat) : Int) Y M D) (hh14 : hh ≤ 14) (hm59 : mm ≤ 59) :
    Tells ⟨(headL Y M D (t % 86400) ++ 32 :: sg :: (two hh ++ two mm)).toArray⟩ ((t : Int) - (if sg = 43 then ((hh * 3600 + mm * 60 : Nat) : Int) else -((hh * 3600 + mm * 60 : Nat) : Int))) := by
  have heq := hc.eq
  refine text_tells Y M D (t % 86400) _ sg hh mm hc.y1 hc.m0 hc.m1 hc.d0 hc.d1 (by omega) hsg hh14 hm59 ?_ ?_ ?_
  · split <;> omega
  · split <;> omega
  · split <;> omega
theorem lit_text (w : World) (l : List UInt8) : (convert 29 9 (.slice (some ⟨w.heap.size, 0, none⟩) l.length l.length)).run Tryd.prog (w.alloc (.cells (byteCells l).toArray 5)) = .ok (.string ⟨l.toArray⟩) (w.alloc (.cells (byteCells l).toArray 5)) := by
  refine Go.run_convert_bytes_back (P := Tryd.prog) (w.alloc (.cells (byteCells l).toArray 5)) 29 9 5 ⟨w.heap.size, 0, none⟩ l.length l Tryd.underlying29 Tryd.underlying5 Tryd.underlying9 (fun j hj => ?_)
  have e : ((⟨w.heap.size, 0, none⟩ : Addr).add j) = ⟨w.heap.size, j, none⟩ := by simp [Addr.add]; intro h; exact h.symm
  rw [e]
  simp only [World.cell?]
  rw [heap_alloc_new]
  simp [byteCells, hj]
theorem four_text (w : World) (x y : Nat) (c1 c2 c3 c4 : Int) (h1 : c1 = ((dg x 1).toNat : Int)) (h2 : c2 = ((dg x 0).toNat : Int)) (h3 : c3 = ((dg y 1).toNat : Int)) (h4 : c4 = ((dg y 0).toNat : Int)) :
    (convert 29 9 (.slice (some ⟨w.heap.size, 0, none⟩) 4 4)).run Tryd.prog (w.alloc (.cells #[.int .u8 c1, .int .u8 c2, .int .u8 c3, .int .u8 c4] 5)) =
    .ok (.string ⟨#[dg x 1, dg x 0, dg y 1, dg y 0]⟩) (w.alloc (.cells #[.int .u8 c1, .int .u8 c2, .int .u8 c3, .int .u8 c4] 5)) := by
  subst h1; subst h2; subst h3; subst h4
  exact lit_text w [dg x 1, dg x 0, dg y 1, dg y 0]
theorem tens_byte (x : Nat) (hx : x ≤ 59) : IntKind.u8.wrap (IntKind.i64.wrap (48 + IntKind.i64.wrap ((x : Int) / 10))) = ((dg x 1).toNat : Int) := by
  rw [dg_nat, show 10 ^ 1 = 10 from rfl, IntWalk.i64_in ((x : Int) / 10) (by omega), IntWalk.i64_in (48 + (x : Int) / 10) (by omega), IntKind.wrap_u8]
  omega
theorem ones_byte (x : Nat) (hx : x ≤ 59) : IntKind.u8.wrap (IntKind.i64.wrap (48 + ((x : Int)).tmod 10)) = ((dg x 0).toNat : Int) := by
  rw [dg0_nat, Int.tmod_eq_emod_of_nonneg (by omega), IntWalk.i64_in (48 + (x : Int) % 10) (by omega), IntKind.wrap_u8]
  omega
theorem zone_text (p : ByteArray) (l : List UInt8) (sg : UInt8) (x y : Nat) (hp : (⟨(l ++ [32]).toArray⟩ : ByteArray) = p) : p ++ ⟨#[sg]⟩ ++ ⟨#[dg x 1, dg x 0, dg y 1, dg y 0]⟩ = ⟨(l ++ 32 :: sg :: (two x ++ two y)).toArray⟩ := by
  subst hp
  apply ByteArray.ext
  simp [two]
set_option maxRecDepth 100000 in
set_option maxHeartbeats 3200000 in
theorem zones_walk (w : World) (t : Int) (h m : Nat) (b : Bool) (hh : h < 256) (hm : m < 256) (hT : Tab w) :
    Calls Tryd.prog 5 #[.int .i64 t, .int .u8 h, .int .u8 m, .bool b] w fun e w' => e = .returned (.bool true) ∧ Below w.heap.size w w' := by
  have HT := Lib.hid hT
  clear hT
  by_cases ht : 1000000 ≤ t ∧ t ≤ 253000000000
  · obtain ⟨n, rfl⟩ := Int.eq_ofNat_of_zero_le (show 0 ≤ t by omega)
    have hn : n ≤ 253402300799 := by omega
    obtain ⟨Y, M, D, hc⟩ := civ_at ((n / 86400 : Nat) : Int) (by omega) (by omega)
    have hP := Lib.hid (fun w (h : Tab w) => print_any w n Y M D hn hc h.2)
    have hZ := Lib.hid (fun sg hsg => zone_tells n Y M D (h % 15) (m % 60) sg hsg (by omega) (by omega) hc (by omega) (by omega))
    have hl := head_length Y M D (n % 86400) hc.m0 hc.m1
    have htx : textL Y M D (n % 86400) = (headL Y M D (n % 86400) ++ [32]) ++ [43, 48, 48, 48, 48] := by
      unfold textL; simp
    obtain ⟨l, hl'⟩ : ∃ l, headL Y M D (n % 86400) = l := ⟨_, rfl⟩
    rw [htx, hl'] at hP
    rw [hl'] at hZ hl
    have hcut := cut21 (l ++ [32]) [43, 48, 48, 48, 48] (by simp [hl])
    have hsz : (⟨((l ++ [32]) ++ [43, 48, 48, 48, 48]).toArray⟩ : ByteArray).size = 26 := by
      show ((l ++ [32]) ++ [43, 48, 48, 48, 48]).length = 26
      simp [hl]
    obtain ⟨s, hs⟩ : ∃ s, (⟨((l ++ [32]) ++ [43, 48, 48, 48, 48]).toArray⟩ : ByteArray) = s := ⟨_, rfl⟩
    rw [hs] at hP hcut hsz
    obtain ⟨p, hp⟩ : ∃ p, (⟨(l ++ [32]).toArray⟩ : ByteArray) = p := ⟨_, rfl⟩
    have hpz : p.size = 21 := by rw [← hp]; show (l ++ [32]).length = 21; simp [hl]
    rw [hp] at hcut
    have HPP := Lib.hid hp
    obtain ⟨x, hx⟩ : ∃ x, h % 15 = x := ⟨_, rfl⟩
    obtain ⟨y, hy⟩ : ∃ y, m % 60 = y := ⟨_, rfl⟩
    rw [hx, hy] at hZ
    have hx14 : x ≤ 14 := by omega
    have hy59 : y ≤ 59 := by omega
    have HX := Lib.hid hx; have HY := Lib.hid hy
    clear hs hp hl' htx hl hc hx hy
    have g1 : decide ((n : Int) < 1000000) = false := by simp; omega
    have g2 : decide ((253000000000 : Int) < (n : Int)) = false := by simp; omega
    have HN1 := Lib.hid ht
    clear ht hn
    cases b
    · have hfin : ((n : Int) - (if (43 : UInt8) = 43 then ((x * 3600 + y * 60 : Nat) : Int) else -((x * 3600 + y * 60 : Nat) : Int))) = (n : Int) + -((x : Int) * 3600 + (y : Int) * 60) := by
        rw [if_pos rfl]; omega
      have HZ := Lib.hid (hZ.out 43 (.inl rfl))
      rw [hfin] at HZ
      clear hfin
      have HEQ := Lib.hid (zone_text p l 43 x y HPP.out)
      have HA := Lib.hid (fun w (h : Tab w) => parse_any w (p ++ ⟨#[43]⟩ ++ ⟨#[dg x 1, dg x 0, dg y 1, dg y 0]⟩) (by rw [ByteArray.size_append, ByteArray.size_append, hpz]; show 21 + 1 + 4 ≤ 1000; omega) h.1)
      go_enter Tryd.func5, Tryd.ntmps5
      go_wp2_with (first
        | (go_at_call 6; refine (awake_any _ HT.out).mono ?_; rintro e w1 ⟨rfl, hb1⟩)
        | (go_at_call 7; refine (hP.out _ (HT.out.below hb1)).mono ?_; rintro e w2 ⟨rfl, hb2⟩; have hB2 := hb1.trans (hb2.mono hb1.size)))
      have hx' : (h : Int) % 15 = (x : Int) := by have := HX.out; omega
      have hy' : (m : Int) % 60 = (y : Int) := by have := HY.out; omega
      simp only [hx', hy']
      clear hx' hy'
      have HB2 := Lib.hid hB2
      clear hB2 hb1 hb2
      have k1 : (21 : Int) ≤ (s.size : Int) := by omega
      have w1 : IntKind.i64.wrap (48 + (x : Int) / 10) = 48 + (x : Int) / 10 := (IntWalk.i64_in (48 + (x : Int) / 10) (by omega))
      have w2' : IntKind.i64.wrap (48 + (x : Int) % 10) = 48 + (x : Int) % 10 := (IntWalk.i64_in (48 + (x : Int) % 10) (by omega))
      have w3' : IntKind.i64.wrap (48 + (y : Int) / 10) = 48 + (y : Int) / 10 := (IntWalk.i64_in (48 + (y : Int) / 10) (by omega))
      have w4 : IntKind.i64.wrap (48 + (y : Int) % 10) = 48 + (y : Int) % 10 := (IntWalk.i64_in (48 + (y : Int) % 10) (by omega))
      refine wp_region_noPanic ?_
      refine wp_region_held_drew (S := fun w' => Below w2.heap.size w2 w') (by kernel_rfl) (Below.drew (Below.refl _ _)) (fun hHeld => ?_)
      generalize w2.drew = w3 at hHeld ⊢
      refine wpAnyH_take (i := 0) (v := ?_) rfl (by kernel_rfl) (by kernel_rfl) (by kernel_rfl) (fun _ _ _ h => h) (Or.inl ⟨by kernel_rfl, ?_⟩) hHeld ?_
      rotate_left
      · (intro w' hw'; go_simp; first | done | with_reducible rfl)
      refine wpAnyH_take (i := 1) (v := ?_) rfl (by kernel_rfl) (by kernel_rfl) (by kernel_rfl) (fun _ _ _ h => h) (Or.inl ⟨by kernel_rfl, ?_⟩) hHeld ?_
      rotate_left
      · (intro w' hw'; go_simp; first | done | with_reducible rfl)
      refine wpAnyH_take (i := 2) (v := ?_) rfl (by kernel_rfl) (by kernel_rfl) (by kernel_rfl) (fun _ _ _ h => h) (Or.inl ⟨by kernel_rfl, ?_⟩) hHeld ?_
      rotate_left
      · (intro w' hw'; go_simp; first | done | with_reducible rfl)
      refine wpAnyH_take (i := 3) (v := ?_) rfl (by kernel_rfl) (by kernel_rfl) (by kernel_rfl) (fun _ _ _ h => h) (Or.inl ⟨by kernel_rfl, ?_⟩) hHeld ?_
      rotate_left
      · (intro w' hw'; go_simp; first | done | with_reducible rfl)
      refine wpAnyH_take (i := 4) (v := ?_) rfl (by kernel_rfl) (by kernel_rfl) (by kernel_rfl) (fun _ _ _ h => h) (Or.inl ⟨by kernel_rfl, ?_⟩) hHeld ?_
      rotate_left
      · (intro w' hw'; go_simp; first | done | with_reducible rfl)
      refine wpAnyH_take (i := 5) (v := ?_) rfl (by kernel_rfl) (by kernel_rfl) (by kernel_rfl) (fun _ _ _ h => h) (Or.inl ⟨by kernel_rfl, ?_⟩) hHeld ?_
      rotate_left
      · (intro w' hw'; go_simp; first | done | with_reducible rfl)
      refine wpAnyH_take (i := 6) (v := ?_) rfl (by kernel_rfl) (by kernel_rfl) (by kernel_rfl) (fun _ _ _ h => h) (Or.inl ⟨by kernel_rfl, ?_⟩) hHeld ?_
      rotate_left
      · (intro w' hw'; go_simp; first | done | with_reducible rfl)
      refine wpAnyH_take (i := 7) (v := ?_) rfl (by kernel_rfl) (by kernel_rfl) (by kernel_rfl) (fun _ _ _ h => h) (Or.inl ⟨by kernel_rfl, ?_⟩) hHeld ?_
      rotate_left
      · (intro w' hw'; go_simp; first | done | with_reducible rfl)
      refine wpAnyH_take (i := 8) (v := ?_) rfl (by kernel_rfl) (by kernel_rfl) (by kernel_rfl) (fun _ _ _ h => h) (Or.inl ⟨by kernel_rfl, ?_⟩) hHeld ?_
      rotate_left
      · (intro w' hw'; go_simp; first | done | with_reducible rfl)
      refine wpAnyH_take (i := 9) (v := ?_) rfl (by kernel_rfl) (by kernel_rfl) (by kernel_rfl) (fun _ _ _ h => h) (Or.inl ⟨by kernel_rfl, ?_⟩) hHeld ?_
      rotate_left
      · (intro w' hw'; go_simp; first | done | with_reducible rfl)
      refine wpAnyH_take (i := 10) (v := ?_) rfl (by kernel_rfl) (by kernel_rfl) (by kernel_rfl) (fun _ _ _ h => h) (Or.inl ⟨by kernel_rfl, ?_⟩) hHeld ?_
      rotate_left
      · (intro w' hw'; go_simp; first | done | with_reducible rfl)
      refine wpAnyH_take (i := 11) (v := ?_) rfl (by kernel_rfl) (by kernel_rfl) (by kernel_rfl) (fun _ _ _ h => h) (Or.inl ⟨by kernel_rfl, ?_⟩) hHeld ?_
      rotate_left
      · (intro w' hw'; go_simp; first | done | with_reducible rfl)
      refine wpAnyH_take (i := 12) (v := ?_) rfl (by kernel_rfl) (by kernel_rfl) (by kernel_rfl) (fun _ _ _ h => h) (Or.inl ⟨by kernel_rfl, ?_⟩) hHeld ?_
      rotate_left
      · (intro w' hw'; go_simp; first | done | with_reducible rfl)
      refine wpAnyH_take (i := 13) (v := ?_) rfl (by kernel_rfl) (by kernel_rfl) (by kernel_rfl) (fun _ _ _ h => h) (Or.inl ⟨by kernel_rfl, ?_⟩) hHeld ?_
      rotate_left
      · (intro w' hw'; go_simp; first | done | with_reducible rfl)
      refine wpAnyH_take (i := 14) (v := ?_) rfl (by kernel_rfl) (by kernel_rfl) (by kernel_rfl) (fun _ _ _ h => h) (Or.inl ⟨by kernel_rfl, ?_⟩) hHeld ?_
      rotate_left
      · (intro w' hw'; go_simp; first | done | with_reducible rfl)
      refine wpAnyH_take (i := 15) (v := ?_) rfl (by kernel_rfl) (by kernel_rfl) (by kernel_rfl) (fun _ _ _ h => h) (Or.inl ⟨by kernel_rfl, ?_⟩) hHeld ?_
      rotate_left
      · (intro w' hw'; go_simp; first | done | with_reducible rfl)
      refine wpAnyH_take (i := 16) (v := ?_) rfl (by kernel_rfl) (by kernel_rfl) (by kernel_rfl) (fun _ _ _ h => h) (Or.inl ⟨by kernel_rfl, ?_⟩) hHeld ?_
      rotate_left
      · (intro w' hw'; go_simp; first | done | with_reducible rfl)
      refine wpAnyH_take (i := 17) (v := ?_) rfl (by kernel_rfl) (by kernel_rfl) (by kernel_rfl) (fun _ _ _ h => h) (Or.inl ⟨by kernel_rfl, ?_⟩) hHeld ?_
      rotate_left
      · (intro w' hw'; go_simp; first | done | with_reducible rfl)
      refine wpAnyH_take (i := 18) (v := ?_) rfl (by kernel_rfl) (by kernel_rfl) (by kernel_rfl) (fun _ _ _ h => h) (Or.inl ⟨by kernel_rfl, ?_⟩) hHeld ?_
      rotate_left
      · (intro w' hw'; go_simp; first | done | with_reducible rfl)
      refine wpAnyH_take (i := 19) (v := ?_) rfl (by kernel_rfl) (by kernel_rfl) (by kernel_rfl) (fun _ _ _ h => h) (Or.inl ⟨by kernel_rfl, ?_⟩) hHeld ?_
      rotate_left
      · (intro w' hw'; go_simp; first | done | with_reducible rfl)
      refine wpAnyH_ready (rs := [20]) (by kernel_rfl) (by simp) ?_
      refine AllReadyH.cons rfl (fun K hK => ?_) AllReadyH.nil
      go_simp
      have q1 := tens_byte x (by omega)
      have q2 := ones_byte x (by omega)
      have q3 := tens_byte y (by omega)
      have q4 := ones_byte y (by omega)
      obtain ⟨c1, hc1⟩ : ∃ c, IntKind.u8.wrap (IntKind.i64.wrap (48 + IntKind.i64.wrap ((x : Int) / 10))) = c := ⟨_, rfl⟩
      obtain ⟨c2, hc2⟩ : ∃ c, IntKind.u8.wrap (IntKind.i64.wrap (48 + ((x : Int)).tmod 10)) = c := ⟨_, rfl⟩
      obtain ⟨c3, hc3⟩ : ∃ c, IntKind.u8.wrap (IntKind.i64.wrap (48 + IntKind.i64.wrap ((y : Int) / 10))) = c := ⟨_, rfl⟩
      obtain ⟨c4, hc4⟩ : ∃ c, IntKind.u8.wrap (IntKind.i64.wrap (48 + ((y : Int)).tmod 10)) = c := ⟨_, rfl⟩
      rw [hc1] at q1
      rw [hc2] at q2
      rw [hc3] at q3
      rw [hc4] at q4
      simp only [hc1, hc2, hc3, hc4]
      have hcv := four_text w3 x y c1 c2 c3 c4 q1 q2 q3 q4
      clear hc1 hc2 hc3 hc4 q1 q2 q3 q4 w1 w2' w3' w4
      refine hK.out _ _ (hHeld.alloc hHeld.size _) (fun hH1 => ?_)
      clear hK K hHeld
      refine wpAnyH_ready (rs := [21]) (by kernel_rfl) (by simp) ?_
      refine AllReadyH.cons rfl (fun K hK => ?_) AllReadyH.nil
      go_simp
      refine hK.out _ _ hH1 (fun hH2 => ?_)
      clear hK K hH1 hcv
      refine wpAnyH_ready (rs := [22]) (by kernel_rfl) (by simp) ?_
      refine AllReadyH.cons rfl (fun K hK => ?_) AllReadyH.nil
      go_simp
      refine hK.out _ _ hH2 (fun hH3 => ?_)
      clear hK K hH2
      refine wpAnyH_ready (rs := [23]) (by kernel_rfl) (by simp) ?_
      refine AllReadyH.cons rfl (fun K hK => ?_) AllReadyH.nil
      go_simp
      refine hK.out _ _ hH3 (fun hH4 => ?_)
      clear hK K hH3
      refine wpAnyH_done (by kernel_rfl) ?_ _
      refine NoPanic.normal ?_
      go_simp
      generalize w3.alloc _ = w5 at hH4 ⊢
      have hB5 := HB2.out.trans (hH4.mono HB2.out.size)
      have HB5 := Lib.hid hB5
      clear hH4 hB5
      go_wp2_with (go_at_call 9; refine (HA.out _ (HT.out.below HB5.out)).mono ?_; rintro e w6 ⟨t', ok, rfl, hpar, hb6⟩; rw [HEQ.out] at hpar; obtain ⟨rfl, rfl⟩ := hpar.of HZ.out; clear hpar)
      go_ret
      refine ⟨by simp; exact (IntWalk.wrap64_in _ (by have := HN1.out; omega)).symm, HB5.out.trans (hb6.mono HB5.out.size)⟩
    · have hfin : ((n : Int) - (if (45 : UInt8) = 43 then ((x * 3600 + y * 60 : Nat) : Int) else -((x * 3600 + y * 60 : Nat) : Int))) = (n : Int) + ((x : Int) * 3600 + (y : Int) * 60) := by
        rw [if_neg (by decide)]; omega
      have HZ := Lib.hid (hZ.out 45 (.inr rfl))
      rw [hfin] at HZ
      clear hfin
      have HEQ := Lib.hid (zone_text p l 45 x y HPP.out)
      have HA := Lib.hid (fun w (h : Tab w) => parse_any w (p ++ ⟨#[45]⟩ ++ ⟨#[dg x 1, dg x 0, dg y 1, dg y 0]⟩) (by rw [ByteArray.size_append, ByteArray.size_append, hpz]; show 21 + 1 + 4 ≤ 1000; omega) h.1)
      go_enter Tryd.func5, Tryd.ntmps5
      go_wp2_with (first
        | (go_at_call 6; refine (awake_any _ HT.out).mono ?_; rintro e w1 ⟨rfl, hb1⟩)
        | (go_at_call 7; refine (hP.out _ (HT.out.below hb1)).mono ?_; rintro e w2 ⟨rfl, hb2⟩; have hB2 := hb1.trans (hb2.mono hb1.size)))
      have hx' : (h : Int) % 15 = (x : Int) := by have := HX.out; omega
      have hy' : (m : Int) % 60 = (y : Int) := by have := HY.out; omega
      simp only [hx', hy']
      clear hx' hy'
      have HB2 := Lib.hid hB2
      clear hB2 hb1 hb2
      have k1 : (21 : Int) ≤ (s.size : Int) := by omega
      have w1 : IntKind.i64.wrap (48 + (x : Int) / 10) = 48 + (x : Int) / 10 := (IntWalk.i64_in (48 + (x : Int) / 10) (by omega))
      have w2' : IntKind.i64.wrap (48 + (x : Int) % 10) = 48 + (x : Int) % 10 := (IntWalk.i64_in (48 + (x : Int) % 10) (by omega))
      have w3' : IntKind.i64.wrap (48 + (y : Int) / 10) = 48 + (y : Int) / 10 := (IntWalk.i64_in (48 + (y : Int) / 10) (by omega))
      have w4 : IntKind.i64.wrap (48 + (y : Int) % 10) = 48 + (y : Int) % 10 := (IntWalk.i64_in (48 + (y : Int) % 10) (by omega))
      refine wp_region_noPanic ?_
      refine wp_region_held_drew (S := fun w' => Below w2.heap.size w2 w') (by kernel_rfl) (Below.drew (Below.refl _ _)) (fun hHeld => ?_)
      generalize w2.drew = w3 at hHeld ⊢
      refine wpAnyH_take (i := 0) (v := ?_) rfl (by kernel_rfl) (by kernel_rfl) (by kernel_rfl) (fun _ _ _ h => h) (Or.inl ⟨by kernel_rfl, ?_⟩) hHeld ?_
      rotate_left
      · (intro w' hw'; go_simp; first | done | with_reducible rfl)
      refine wpAnyH_take (i := 1) (v := ?_) rfl (by kernel_rfl) (by kernel_rfl) (by kernel_rfl) (fun _ _ _ h => h) (Or.inl ⟨by kernel_rfl, ?_⟩) hHeld ?_
      rotate_left
      · (intro w' hw'; go_simp; first | done | with_reducible rfl)
      refine wpAnyH_take (i := 2) (v := ?_) rfl (by kernel_rfl) (by kernel_rfl) (by kernel_rfl) (fun _ _ _ h => h) (Or.inl ⟨by kernel_rfl, ?_⟩) hHeld ?_
      rotate_left
      · (intro w' hw'; go_simp; first | done | with_reducible rfl)
      refine wpAnyH_take (i := 3) (v := ?_) rfl (by kernel_rfl) (by kernel_rfl) (by kernel_rfl) (fun _ _ _ h => h) (Or.inl ⟨by kernel_rfl, ?_⟩) hHeld ?_
      rotate_left
      · (intro w' hw'; go_simp; first | done | with_reducible rfl)
      refine wpAnyH_take (i := 4) (v := ?_) rfl (by kernel_rfl) (by kernel_rfl) (by kernel_rfl) (fun _ _ _ h => h) (Or.inl ⟨by kernel_rfl, ?_⟩) hHeld ?_
      rotate_left
      · (intro w' hw'; go_simp; first | done | with_reducible rfl)
      refine wpAnyH_take (i := 5) (v := ?_) rfl (by kernel_rfl) (by kernel_rfl) (by kernel_rfl) (fun _ _ _ h => h) (Or.inl ⟨by kernel_rfl, ?_⟩) hHeld ?_
      rotate_left
      · (intro w' hw'; go_simp; first | done | with_reducible rfl)
      refine wpAnyH_take (i := 6) (v := ?_) rfl (by kernel_rfl) (by kernel_rfl) (by kernel_rfl) (fun _ _ _ h => h) (Or.inl ⟨by kernel_rfl, ?_⟩) hHeld ?_
      rotate_left
      · (intro w' hw'; go_simp; first | done | with_reducible rfl)
      refine wpAnyH_take (i := 7) (v := ?_) rfl (by kernel_rfl) (by kernel_rfl) (by kernel_rfl) (fun _ _ _ h => h) (Or.inl ⟨by kernel_rfl, ?_⟩) hHeld ?_
      rotate_left
      · (intro w' hw'; go_simp; first | done | with_reducible rfl)
      refine wpAnyH_take (i := 8) (v := ?_) rfl (by kernel_rfl) (by kernel_rfl) (by kernel_rfl) (fun _ _ _ h => h) (Or.inl ⟨by kernel_rfl, ?_⟩) hHeld ?_
      rotate_left
      · (intro w' hw'; go_simp; first | done | with_reducible rfl)
      refine wpAnyH_take (i := 9) (v := ?_) rfl (by kernel_rfl) (by kernel_rfl) (by kernel_rfl) (fun _ _ _ h => h) (Or.inl ⟨by kernel_rfl, ?_⟩) hHeld ?_
      rotate_left
      · (intro w' hw'; go_simp; first | done | with_reducible rfl)
      refine wpAnyH_take (i := 10) (v := ?_) rfl (by kernel_rfl) (by kernel_rfl) (by kernel_rfl) (fun _ _ _ h => h) (Or.inl ⟨by kernel_rfl, ?_⟩) hHeld ?_
      rotate_left
      · (intro w' hw'; go_simp; first | done | with_reducible rfl)
      refine wpAnyH_take (i := 11) (v := ?_) rfl (by kernel_rfl) (by kernel_rfl) (by kernel_rfl) (fun _ _ _ h => h) (Or.inl ⟨by kernel_rfl, ?_⟩) hHeld ?_
      rotate_left
      · (intro w' hw'; go_simp; first | done | with_reducible rfl)
      refine wpAnyH_take (i := 12) (v := ?_) rfl (by kernel_rfl) (by kernel_rfl) (by kernel_rfl) (fun _ _ _ h => h) (Or.inl ⟨by kernel_rfl, ?_⟩) hHeld ?_
      rotate_left
      · (intro w' hw'; go_simp; first | done | with_reducible rfl)
      refine wpAnyH_take (i := 13) (v := ?_) rfl (by kernel_rfl) (by kernel_rfl) (by kernel_rfl) (fun _ _ _ h => h) (Or.inl ⟨by kernel_rfl, ?_⟩) hHeld ?_
      rotate_left
      · (intro w' hw'; go_simp; first | done | with_reducible rfl)
      refine wpAnyH_take (i := 14) (v := ?_) rfl (by kernel_rfl) (by kernel_rfl) (by kernel_rfl) (fun _ _ _ h => h) (Or.inl ⟨by kernel_rfl, ?_⟩) hHeld ?_
      rotate_left
      · (intro w' hw'; go_simp; first | done | with_reducible rfl)
      refine wpAnyH_take (i := 15) (v := ?_) rfl (by kernel_rfl) (by kernel_rfl) (by kernel_rfl) (fun _ _ _ h => h) (Or.inl ⟨by kernel_rfl, ?_⟩) hHeld ?_
      rotate_left
      · (intro w' hw'; go_simp; first | done | with_reducible rfl)
      refine wpAnyH_take (i := 16) (v := ?_) rfl (by kernel_rfl) (by kernel_rfl) (by kernel_rfl) (fun _ _ _ h => h) (Or.inl ⟨by kernel_rfl, ?_⟩) hHeld ?_
      rotate_left
      · (intro w' hw'; go_simp; first | done | with_reducible rfl)
      refine wpAnyH_take (i := 17) (v := ?_) rfl (by kernel_rfl) (by kernel_rfl) (by kernel_rfl) (fun _ _ _ h => h) (Or.inl ⟨by kernel_rfl, ?_⟩) hHeld ?_
      rotate_left
      · (intro w' hw'; go_simp; first | done | with_reducible rfl)
      refine wpAnyH_take (i := 18) (v := ?_) rfl (by kernel_rfl) (by kernel_rfl) (by kernel_rfl) (fun _ _ _ h => h) (Or.inl ⟨by kernel_rfl, ?_⟩) hHeld ?_
      rotate_left
      · (intro w' hw'; go_simp; first | done | with_reducible rfl)
      refine wpAnyH_take (i := 19) (v := ?_) rfl (by kernel_rfl) (by kernel_rfl) (by kernel_rfl) (fun _ _ _ h => h) (Or.inl ⟨by kernel_rfl, ?_⟩) hHeld ?_
      rotate_left
      · (intro w' hw'; go_simp; first | done | with_reducible rfl)
      refine wpAnyH_ready (rs := [20]) (by kernel_rfl) (by simp) ?_
      refine AllReadyH.cons rfl (fun K hK => ?_) AllReadyH.nil
      go_simp
      have q1 := tens_byte x (by omega)
      have q2 := ones_byte x (by omega)
      have q3 := tens_byte y (by omega)
      have q4 := ones_byte y (by omega)
      obtain ⟨c1, hc1⟩ : ∃ c, IntKind.u8.wrap (IntKind.i64.wrap (48 + IntKind.i64.wrap ((x : Int) / 10))) = c := ⟨_, rfl⟩
      obtain ⟨c2, hc2⟩ : ∃ c, IntKind.u8.wrap (IntKind.i64.wrap (48 + ((x : Int)).tmod 10)) = c := ⟨_, rfl⟩
      obtain ⟨c3, hc3⟩ : ∃ c, IntKind.u8.wrap (IntKind.i64.wrap (48 + IntKind.i64.wrap ((y : Int) / 10))) = c := ⟨_, rfl⟩
      obtain ⟨c4, hc4⟩ : ∃ c, IntKind.u8.wrap (IntKind.i64.wrap (48 + ((y : Int)).tmod 10)) = c := ⟨_, rfl⟩
      rw [hc1] at q1
      rw [hc2] at q2
      rw [hc3] at q3
      rw [hc4] at q4
      simp only [hc1, hc2, hc3, hc4]
      have hcv := four_text w3 x y c1 c2 c3 c4 q1 q2 q3 q4
      clear hc1 hc2 hc3 hc4 q1 q2 q3 q4 w1 w2' w3' w4
      refine hK.out _ _ (hHeld.alloc hHeld.size _) (fun hH1 => ?_)
      clear hK K hHeld
      refine wpAnyH_ready (rs := [21]) (by kernel_rfl) (by simp) ?_
      refine AllReadyH.cons rfl (fun K hK => ?_) AllReadyH.nil
      go_simp
      refine hK.out _ _ hH1 (fun hH2 => ?_)
      clear hK K hH1 hcv
      refine wpAnyH_ready (rs := [22]) (by kernel_rfl) (by simp) ?_
      refine AllReadyH.cons rfl (fun K hK => ?_) AllReadyH.nil
      go_simp
      refine hK.out _ _ hH2 (fun hH3 => ?_)
      clear hK K hH2
      refine wpAnyH_ready (rs := [23]) (by kernel_rfl) (by simp) ?_
      refine AllReadyH.cons rfl (fun K hK => ?_) AllReadyH.nil
      go_simp
      refine hK.out _ _ hH3 (fun hH4 => ?_)
      clear hK K hH3
      refine wpAnyH_done (by kernel_rfl) ?_ _
      refine NoPanic.normal ?_
      go_simp
      generalize w3.alloc _ = w5 at hH4 ⊢
      have hB5 := HB2.out.trans (hH4.mono HB2.out.size)
      have HB5 := Lib.hid hB5
      clear hH4 hB5
      go_wp2_with (go_at_call 9; refine (HA.out _ (HT.out.below HB5.out)).mono ?_; rintro e w6 ⟨t', ok, rfl, hpar, hb6⟩; rw [HEQ.out] at hpar; obtain ⟨rfl, rfl⟩ := hpar.of HZ.out; clear hpar)
      go_ret
      refine ⟨by simp; exact (IntWalk.wrap64_in _ (by have := HN1.out; omega)).symm, HB5.out.trans (hb6.mono HB5.out.size)⟩
  · have hor : decide (t < 1000000) = true ∨ (decide (t < 1000000) = false ∧ decide (253000000000 < t) = true) := by
      by_cases h1 : t < 1000000
      · exact .inl (by simpa using h1)
      · exact .inr ⟨by simpa using h1, by simp; omega⟩
    rcases hor with h1 | ⟨h1, h2⟩
    all_goals
      go_enter Tryd.func5, Tryd.ntmps5
      go_wp2_with (first
        | (go_at_call 6; with_reducible refine Calls.mono (awake_any w HT.out) ?_; rintro e w1 ⟨rfl, hb1⟩)
        | (go_at_call 6; with_reducible refine Calls.mono (awake_any w1 (HT.out.below hb1)) ?_; rintro e w2 ⟨rfl, hb2⟩))
      go_ret
      exact ⟨rfl, hb1.trans (hb2.mono hb1.size)⟩
end Go.Proofs.YtehecgkmckoolaaDoor.dat
