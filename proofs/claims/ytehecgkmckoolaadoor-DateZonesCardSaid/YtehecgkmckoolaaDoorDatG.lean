/- A time's text, by both. -/
import Derived.Test.YtehecgkmckoolaaDoorDatP
import Derived.Test.YtehecgkmckoolaaDoorDatC
import Derived.Lib.AppendIntMem
namespace Go.Proofs.YtehecgkmckoolaaDoor.dat
open Go.ChangeShapes Go.WideShapes Go.ChangeAt Go.RowKit
open Go.Lib (dg itoa byteCells strCells)
set_option linter.unusedVariables false
set_option linter.unusedSimpArgs false

/-- What the library's decimal numeral asks of its own table. -/
def Tens (w : World) : Prop := Lib.TabBelow Tryd.prog w.heap.size w "internal/strconv.uint64pow10" .u64 Lib.pow10Tab
theorem Tens.on {w w' : World} (h : Tens w) (hb : Below w.heap.size w w') : Lib.TabBelow Tryd.prog w.heap.size w' "internal/strconv.uint64pow10" .u64 Lib.pow10Tab := Lib.TabBelow.on h hb
theorem itoa_step (W0 w : World) (v : Value) (l : List UInt8) (Y : Nat) (h0 : 1000 ≤ Y) (h1 : Y ≤ 9999) (hl : l.length ≤ 100) (hb : Bu W0 W0.heap.size v l w) (ht : Tens W0) :
    Calls Tryd.prog 17 #[v, .int .i64 Y, .int .i64 10] w fun e w' => ∃ v', e = .returned v' ∧ Bu W0 W0.heap.size v' (l ++ four Y) w' := by
  have hi := itoa_four h0 h1
  refine (Tryd.strconv_AppendInt_10 W0.heap.size l.length Y (by omega) (by omega) v (byteCells l) w hb.1 hb.2.2 (by omega) (ht.on hb.2.1)).mono ?_
  rintro e w' ⟨v', rfl, ho, hbl, -⟩
  rw [hi] at ho
  refine ⟨v', rfl, ?_, hb.2.1.trans hbl, Nat.le_trans hb.2.2 hbl.size⟩
  rw [List.length_append]
  simpa [byteCells] using ho
theorem print_none (w : World) (t : Int) (h : ¬ (0 ≤ t ∧ t ≤ 253402300799)) :
    Calls Tryd.prog 7 #[.int .i64 t] w fun e w' => e = .returned (.string ⟨#[]⟩) ∧ Below w.heap.size w w' := by
  have hi := fun w => isTime_any w t
  rw [decide_eq_false h] at hi
  go_enter Tryd.func7, Tryd.ntmps7
  go_wp2_with (go_at_call 12; refine (hi _).mono ?_; rintro e w' ⟨rfl, rfl⟩)
  go_ret
  exact ⟨rfl, Below.refl _ _⟩
theorem make26 (w : World) : ∃ w2, (Instr.makeSlice 29 (.int .i64 0) (.int .i64 26)).run Tryd.prog w = .ok (.slice (some ⟨w.heap.size, 0, none⟩) 0 26) w2 ∧ Bu w w.heap.size (.slice (some ⟨w.heap.size, 0, none⟩) 0 26) [] w2 := by
  obtain ⟨i, h1, h2, h3, h4⟩ := info5
  obtain ⟨w2, hr, ho, hg⟩ := run_makeSlice_owned w w.heap.size 29 5 i (.int .u8 0) 1 Tryd.underlying29 h1 h2 h3 .i64 .i64 26 (by omega) (by omega) (by unfold maxLen; omega) (Nat.le_refl _)
  exact ⟨w2, hr, ho, (Below.refl _ _).grown hg (Nat.le_refl _) (fun k hk => by cases hk), hg.size⟩
set_option maxHeartbeats 1600000 in
theorem print_any (w : World) (t Y M D : Nat) (h1 : t ≤ 253402300799) (hc : Civ ((t / 86400 : Nat) : Int) Y M D) (ht : Tens w) :
    Calls Tryd.prog 7 #[.int .i64 t] w fun e w' => e = .returned (.string ⟨(textL Y M D (t % 86400)).toArray⟩) ∧ Below w.heap.size w w' := by
  have hi := fun w => isTime_any w t
  rw [decide_eq_true (by omega)] at hi
  have hci := fun w => civil_any w _ Y M D hc (by omega) (by omega)
  have hd31 := (daysN_pos Y M).2
  have hD := hc.d1; have hD0 := hc.d0; have hY0 := hc.y0; have hY1 := hc.y1; have hM0 := hc.m0; have hM1 := hc.m1
  have hte := fun w => tens_any w D (by omega)
  have hdi := fun w => digit_any w D (by omega)
  have hmn := fun w => monthName_any w M hM0 hM1
  have hnl := nameL_length hM0 hM1
  have h2a := fun (w1 : World) (v : Value) (l : List UInt8) (hl : l.length ≤ 100) (hb : Bu w w.heap.size v l w1) => two_any w w1 w.heap.size v l (t % 86400 / 3600) (by omega) hl hb
  have h2b := fun (w1 : World) (v : Value) (l : List UInt8) (hl : l.length ≤ 100) (hb : Bu w w.heap.size v l w1) => two_any w w1 w.heap.size v l (t % 3600 / 60) (by omega) hl hb
  have h2c := fun (w1 : World) (v : Value) (l : List UInt8) (hl : l.length ≤ 100) (hb : Bu w w.heap.size v l w1) => two_any w w1 w.heap.size v l (t % 60) (by omega) hl hb
  simp only [show ((t % 86400 / 3600 : Nat) : Int) = (t : Int) % 86400 / 3600 by omega] at h2a
  simp only [show ((t % 3600 / 60 : Nat) : Int) = (t : Int) % 3600 / 60 by omega] at h2b
  simp only [show ((t % 60 : Nat) : Int) = (t : Int) % 60 by omega] at h2c
  have hit := fun (w1 : World) (v : Value) (l : List UInt8) (hl : l.length ≤ 100) (hb : Bu w w.heap.size v l w1) => itoa_step w w1 v l Y (by omega) hY1 hl hb ht
  have hD' : D ≤ 31 := by omega
  have hres : textL Y M D (t % 86400) = tensB D :: dg D 0 :: 45 :: (nameL M ++ 45 :: (four Y ++ 32 :: (two (t % 86400 / 3600) ++ 58 :: (two (t % 3600 / 60) ++ 58 :: (two (t % 60) ++ [32, 43, 48, 48, 48, 48]))))) := by
    unfold textL headL
    rw [show t % 86400 / 60 % 60 = t % 3600 / 60 by omega, show t % 86400 % 60 = t % 60 by omega]
    simp
  have HI := Lib.hid hi; have HCI := Lib.hid hci; have HTE := Lib.hid hte; have HDI := Lib.hid hdi; have HMN := Lib.hid hmn; have H2A := Lib.hid h2a; have H2B := Lib.hid h2b; have H2C := Lib.hid h2c; have HIT := Lib.hid hit; have HRES := Lib.hid hres
  clear hi hci hte hdi hmn h2a h2b h2c hit hres hc hD hd31 ht
  obtain ⟨nm, hnm⟩ : ∃ nm, nameL M = nm := ⟨_, rfl⟩
  rw [hnm] at HMN HRES hnl
  clear hnm
  obtain ⟨w2, hmk, hB⟩ := make26 w
  go_enter Tryd.func7, Tryd.ntmps7
  go_wp2_with (first
    | (at_builtin; refine step_lit rfl _ _ rfl w _ w.heap.size _ _ [tensB D, dg D 0, 45] _ 3 rfl rfl hB rfl rfl (by simp) ?_; clear hB; intro v1 w3 hB)
    | (at_builtin; refine step_str rfl _ _ rfl w w.heap.size _ _ nm hB rfl rfl (by simp [hnl]) ?_; clear hB; intro v1 w3 hB)
    | (at_builtin; refine step_lit rfl _ _ rfl w _ w.heap.size _ _ [45] _ 1 rfl rfl hB rfl rfl (by simp [hnl]) ?_; clear hB; intro v1 w3 hB)
    | (at_builtin; refine step_lit rfl _ _ rfl w _ w.heap.size _ _ [32] _ 1 rfl rfl hB rfl rfl (by simp [hnl, four]) ?_; clear hB; intro v1 w3 hB)
    | (at_builtin; refine step_lit rfl _ _ rfl w _ w.heap.size _ _ [58] _ 1 rfl rfl hB rfl rfl (by simp [hnl, four, two]) ?_; clear hB; intro v1 w3 hB)
    | (at_builtin; refine step_str rfl _ _ rfl w w.heap.size _ _ [32, 43, 48, 48, 48, 48] hB rfl rfl (by simp [hnl, four, two]) ?_; clear hB; intro v1 w3 hB; have hcv := hB.text (by simp))
    | (go_at_call 17; refine (HIT.out _ _ _ (by simp [hnl]) hB).mono ?_; clear hB; rintro e w' ⟨v1, rfl, hB⟩)
    | (go_at_call 18; with_reducible refine Calls.mono (H2A.out _ _ _ (by simp [hnl, four, two]) hB) ?_; clear hB; rintro e w' ⟨v1, rfl, hB⟩)
    | (go_at_call 18; with_reducible refine Calls.mono (H2B.out _ _ _ (by simp [hnl, four, two]) hB) ?_; clear hB; rintro e w' ⟨v1, rfl, hB⟩)
    | (go_at_call 18; with_reducible refine Calls.mono (H2C.out _ _ _ (by simp [hnl, four, two]) hB) ?_; clear hB; rintro e w' ⟨v1, rfl, hB⟩)
    | (go_at_call 16; refine (HMN.out _).mono ?_; rintro e w' ⟨rfl, hw⟩; replace hw := hw.symm; subst hw)
    | (go_at_call 12; refine (HI.out _).mono ?_; rintro e w' ⟨rfl, hw⟩; replace hw := hw.symm; subst hw)
    | (go_at_call 13; refine (HCI.out _).mono ?_; rintro e w' ⟨rfl, hw⟩; replace hw := hw.symm; subst hw)
    | (go_at_call 14; refine (HTE.out _).mono ?_; rintro e w' ⟨rfl, hw⟩; replace hw := hw.symm; subst hw)
    | (go_at_call 15; refine (HDI.out _).mono ?_; rintro e w' ⟨rfl, hw⟩; replace hw := hw.symm; subst hw))
  go_ret
  refine ⟨?_, hB.2.1⟩
  rw [HRES.out]
  rfl

theorem rprint_none (w : World) (t : Int) (h : ¬ (0 ≤ t ∧ t ≤ 253402300799)) :
    Calls Tryd.prog 8 #[.int .i64 t] w fun e w' => e = .returned (.string ⟨#[]⟩) ∧ Below w.heap.size w w' := by
  by_cases h0 : t < 0
  · go_enter Tryd.func8, Tryd.ntmps8
    go_wp2
    go_ret
    exact ⟨rfl, Below.refl _ _⟩
  · have h1 : 253402300799 < t := by omega
    go_enter Tryd.func8, Tryd.ntmps8
    go_wp2
    go_ret
    exact ⟨rfl, Below.refl _ _⟩
set_option maxHeartbeats 3200000 in
theorem rprint_any (w : World) (t Y M D : Nat) (h1 : t ≤ 253402300799) (hc : Civ ((t / 86400 : Nat) : Int) Y M D) :
    Calls Tryd.prog 8 #[.int .i64 t] w fun e w' => e = .returned (.string ⟨(textL Y M D (t % 86400)).toArray⟩) ∧ Below w.heap.size w w' := by
  have hd31 := (daysN_pos Y M).2
  have hD := hc.d1; have hD0 := hc.d0; have hY0 := hc.y0; have hY1 := hc.y1; have hM0 := hc.m0; have hM1 := hc.m1
  have hmn := fun w => month_any w M hM0 hM1
  have hnl := nameL_length hM0 hM1
  have hD' : D ≤ 31 := by omega
  obtain ⟨a, b, c, hn⟩ : ∃ a b c, nameL M = [a, b, c] := by
    match h : nameL M, hnl with
    | [a, b, c], _ => exact ⟨a, b, c, rfl⟩
  rw [hn] at hmn
  obtain ⟨q, hq⟩ : ∃ q, t / 86400 = q := ⟨_, rfl⟩
  obtain ⟨s, hs⟩ : ∃ s, t % 86400 = s := ⟨_, rfl⟩
  have hs1 : s < 86400 := by omega
  have hq1 : (q : Int) ≤ 2932896 := by omega
  have hqi : (t : Int) / 86400 = (q : Int) := by omega
  have hsi : (t : Int) % 86400 = (s : Int) := by omega
  rw [hq] at hc
  rw [hs]
  have hdd : ∀ w, Calls Tryd.prog 21 #[.int .i64 (D : Nat), .int .i64 2] w fun e w' => e = .returned (.string ⟨#[dg D 1, dg D 0]⟩) ∧ Below w.heap.size w w' := fun w => digits_any w D 2 (by omega) (by omega)
  have hdY : ∀ w, Calls Tryd.prog 21 #[.int .i64 (Y : Nat), .int .i64 4] w fun e w' => e = .returned (.string ⟨#[dg Y 3, dg Y 2, dg Y 1, dg Y 0]⟩) ∧ Below w.heap.size w w' := fun w => digits_any w Y 4 (by omega) (by omega)
  have hd1 : ∀ w, Calls Tryd.prog 21 #[.int .i64 ((t : Int) % 86400 / 3600), .int .i64 2] w fun e w' => e = .returned (.string ⟨#[dg (s / 3600) 1, dg (s / 3600) 0]⟩) ∧ Below w.heap.size w w' := fun w => by rw [hsi]; exact digits_any w (s / 3600) 2 (by omega) (by omega)
  have hd2 : ∀ w, Calls Tryd.prog 21 #[.int .i64 ((t : Int) % 86400 / 60 % 60), .int .i64 2] w fun e w' => e = .returned (.string ⟨#[dg (s / 60 % 60) 1, dg (s / 60 % 60) 0]⟩) ∧ Below w.heap.size w w' := fun w => by rw [hsi]; exact digits_any w (s / 60 % 60) 2 (by omega) (by omega)
  have hd3 : ∀ w, Calls Tryd.prog 21 #[.int .i64 ((t : Int) % 60), .int .i64 2] w fun e w' => e = .returned (.string ⟨#[dg (s % 60) 1, dg (s % 60) 0]⟩) ∧ Below w.heap.size w w' := fun w => by rw [show (t : Int) % 60 = ((s % 60 : Nat) : Int) by omega]; exact digits_any w (s % 60) 2 (by omega) (by omega)
  have hres : textL Y M D s = tensB D :: dg D 0 :: 45 :: a :: b :: c :: 45 :: dg Y 3 :: dg Y 2 :: dg Y 1 :: dg Y 0 :: 32 :: dg (s / 3600) 1 :: dg (s / 3600) 0 :: 58 :: dg (s / 60 % 60) 1 :: dg (s / 60 % 60) 0 :: 58 :: dg (s % 60) 1 :: dg (s % 60) 0 :: [32, 43, 48, 48, 48, 48] := by
    unfold textL headL
    rw [hn]
    rfl
  have htens : (D < 10 → (dg D 1).toNat = 48 ∧ tensB D = 32) ∧ (¬ D < 10 → (dg D 1).toNat ≠ 48 ∧ tensB D = dg D 1) := by
    rw [dg_nat, show 10 ^ 1 = 10 from rfl]
    exact ⟨fun h => ⟨by omega, by unfold tensB; rw [if_pos h]⟩, fun h => ⟨by omega, by unfold tensB; rw [if_neg h]⟩⟩
  rw [hres]
  obtain ⟨d1, e1⟩ : ∃ x, dg D 1 = x := ⟨_, rfl⟩
  obtain ⟨d0, e0⟩ : ∃ x, dg D 0 = x := ⟨_, rfl⟩
  obtain ⟨y3, f3⟩ : ∃ x, dg Y 3 = x := ⟨_, rfl⟩
  obtain ⟨y2, f2⟩ : ∃ x, dg Y 2 = x := ⟨_, rfl⟩
  obtain ⟨y1, f1⟩ : ∃ x, dg Y 1 = x := ⟨_, rfl⟩
  obtain ⟨y0, f0⟩ : ∃ x, dg Y 0 = x := ⟨_, rfl⟩
  obtain ⟨h1', g1⟩ : ∃ x, dg (s / 3600) 1 = x := ⟨_, rfl⟩
  obtain ⟨h0', g0⟩ : ∃ x, dg (s / 3600) 0 = x := ⟨_, rfl⟩
  obtain ⟨i1, k1⟩ : ∃ x, dg (s / 60 % 60) 1 = x := ⟨_, rfl⟩
  obtain ⟨i0, k0⟩ : ∃ x, dg (s / 60 % 60) 0 = x := ⟨_, rfl⟩
  obtain ⟨s1, l1⟩ : ∃ x, dg (s % 60) 1 = x := ⟨_, rfl⟩
  obtain ⟨s0, l0⟩ : ∃ x, dg (s % 60) 0 = x := ⟨_, rfl⟩
  obtain ⟨te, t1⟩ : ∃ x, tensB D = x := ⟨_, rfl⟩
  rw [e1, t1] at htens
  rw [e0, f3, f2, f1, f0, g1, g0, k1, k0, l1, l0, t1]
  rw [e1, e0] at hdd
  rw [f3, f2, f1, f0] at hdY
  rw [g1, g0] at hd1
  rw [k1, k0] at hd2
  rw [l1, l0] at hd3
  have HMN := Lib.hid hmn; have HDD := Lib.hid hdd; have HDY := Lib.hid hdY; have HD1 := Lib.hid hd1; have HD2 := Lib.hid hd2; have HD3 := Lib.hid hd3; have HT := Lib.hid htens; have HC := Lib.hid hc; have HQI := Lib.hid hqi
  clear hmn hdd hdY hd1 hd2 hd3 htens hc hqi hsi e1 e0 f3 f2 f1 f0 g1 g0 k1 k0 l1 l0 t1 hres hn hnl hs hq
  go_enter Tryd.func8, Tryd.ntmps8
  go_wp2
  go_loop [3, 5] (fun x y => ∃ k : Nat, 1970 ≤ k ∧ k ≤ Y ∧ y = .int .i64 k ∧ x = .int .i64 ((q : Int) - nY k)) (fun _ y => Y - (intOf y).toNat)
  case atStart => exact ⟨1970, Nat.le_refl _, hY0, rfl, by rw [nY_1970, HQI.out]; congr 1⟩
  case round =>
    obtain ⟨k, k0, k1, rfl, rfl⟩ := hrel
    have hb := nY_bounds k (by omega)
    have hb0 := nY_mono (a := 1970) (b := k) (by omega) k0
    rw [nY_1970] at hb0
    have hsu := nY_succ k (by omega)
    have hi := HC.out.year k1 (by omega)
    have hlp := ylen_pos k
    have hye := fun w => year_any w k (by omega)
    obtain ⟨z, hz⟩ : ∃ z, nY k = z := ⟨_, rfl⟩
    obtain ⟨l, hl⟩ : ∃ l, ylen k = l := ⟨_, rfl⟩
    rw [hz] at hb hb0 hsu ⊢
    rw [hl] at hlp hsu hye
    rw [hsu] at hi
    have HSU := Lib.hid hsu
    have HYE := Lib.hid hye
    have HZ := Lib.hid hz
    clear hsu hye hl hz
    by_cases hk : k < Y
    · have hzn : (l : Int) ≤ (q : Int) - z := by have := hi.2 hk; omega
      clear hi
      go_wp2_with (go_at_call 19; refine (HYE.out _).mono ?_; rintro e w' ⟨rfl, hw⟩; replace hw := hw.symm; subst hw)
      exact ⟨⟨k + 1, by omega, hk, by simp, by rw [HSU.out]; congr 1; omega⟩, by simp [intOf]; omega⟩
    · obtain rfl : k = Y := by omega
      have hzn : ¬ (l : Int) ≤ (q : Int) - z := fun hh => hk (hi.1 (by omega))
      clear hi
      have he := HC.out.eq
      rw [HZ.out] at he
      obtain ⟨cM, hcM⟩ : ∃ c, cum k (M - 1) = c := ⟨_, rfl⟩
      have hcl := cum_le k (M - 1)
      rw [hcM] at he hcl
      have HCM := Lib.hid hcM
      clear hcM
      have hqz : (q : Int) - z = (cM : Int) + (D : Int) - 1 := by omega
      clear he
      rw [hqz] at hzn ⊢
      clear hqz
      go_wp2_with (go_at_call 19; refine (HYE.out _).mono ?_; rintro e w' ⟨rfl, hw⟩; replace hw := hw.symm; subst hw)
      go_loop [3, 6] (fun x m => ∃ j : Nat, 1 ≤ j ∧ j ≤ M ∧ m = .int .i64 j ∧ x = .int .i64 ((cM : Int) + (D : Int) - 1 - (cum k (j - 1) : Nat))) (fun _ m => M - (intOf m).toNat)
      case atStart => exact ⟨1, Nat.le_refl _, hM0, rfl, by simp [cum]⟩
      case round =>
        obtain ⟨j, j0, j1, rfl, rfl⟩ := hrel
        obtain ⟨hm1, hm2⟩ := HC.out.month j0 j1
        have hl := daysN_pos k j
        have hsj := cum_step k j j0
        rw [HCM.out] at hm1 hm2
        obtain ⟨cj, hcc⟩ : ∃ c, cum k (j - 1) = c := ⟨_, rfl⟩
        obtain ⟨lj, hll⟩ : ∃ l, daysN k j = l := ⟨_, rfl⟩
        have hda := fun w => days_any w k j (by omega) (by omega) (by omega)
        rw [hll] at hda hl hsj hm2
        rw [hcc] at hm1 hm2 hsj ⊢
        have HS := Lib.hid hsj
        have HL := Lib.hid hda
        have HLL := Lib.hid hll
        have HCC := Lib.hid hcc
        clear hda hll hcc hsj
        by_cases hjM : j < M
        · have hlt : (lj : Int) ≤ (cM : Int) + (D : Int) - 1 - (cj : Int) := by have := hm2.2 hjM; omega
          clear hm2
          go_wp2_with (go_at_call 20; refine (HL.out _).mono ?_; rintro e w' ⟨rfl, hw⟩; replace hw := hw.symm; subst hw)
          exact ⟨⟨j + 1, by omega, hjM, by simp, by rw [show j + 1 - 1 = j by omega, HS.out]; congr 1; omega⟩, by simp [intOf]; omega⟩
        · obtain rfl : j = M := by omega
          obtain rfl : cM = cj := HCM.out.symm.trans HCC.out
          have hlt : ¬ (lj : Int) ≤ (cM : Int) + (D : Int) - 1 - (cM : Int) := by rw [HLL.out] at hD; omega
          clear hm2
          have hx : (cM : Int) + (D : Int) - 1 - (cM : Int) = (D : Int) - 1 := by omega
          rw [hx] at hlt ⊢
          clear hx
          have hDx : (D : Int) - 1 + 1 = (D : Int) := by omega
          by_cases hD10 : D < 10
          · have h48 : ((((⟨#[d1, d0]⟩ : ByteArray)[0]'(Nat.zero_lt_succ 1)).toNat : Int) == 48) = true := by
              show ((d1.toNat : Int) == 48) = true
              rw [(HT.out.1 hD10).1]; rfl
            go_wp2_with (first
            | (go_at_call 20; refine (HL.out _).mono ?_; rintro e w' ⟨rfl, hw⟩; replace hw := hw.symm; subst hw)
            | (go_at_call 21; with_reducible refine Calls.mono (HDD.out _) ?_; rintro e w1 ⟨rfl, hb1⟩)
            | (go_at_call 22; refine (HMN.out _).mono ?_; rintro e w' ⟨rfl, hw⟩; replace hw := hw.symm; subst hw)
            | (go_at_call 21; with_reducible refine Calls.mono (HDY.out _) ?_; rintro e w2 ⟨rfl, hb2⟩)
            | (go_at_call 21; with_reducible refine Calls.mono (HD1.out _) ?_; rintro e w3 ⟨rfl, hb3⟩)
            | (go_at_call 21; with_reducible refine Calls.mono (HD2.out _) ?_; rintro e w4 ⟨rfl, hb4⟩)
            | (go_at_call 21; with_reducible refine Calls.mono (HD3.out _) ?_; rintro e w5 ⟨rfl, hb5⟩))
            go_ret
            refine ⟨?_, ?_⟩
            · rw [(HT.out.1 hD10).2]
              refine congrArg (fun x => Ending.returned (Value.string x)) ?_
              apply ByteArray.ext
              simp
            · have k1 := hb1.trans (hb2.mono hb1.size)
              have k2 := k1.trans (hb3.mono k1.size)
              have k3 := k2.trans (hb4.mono k2.size)
              exact k3.trans (hb5.mono k3.size)
          · have h48 : ((((⟨#[d1, d0]⟩ : ByteArray)[0]'(Nat.zero_lt_succ 1)).toNat : Int) == 48) = false := by
              show ((d1.toNat : Int) == 48) = false
              have := (HT.out.2 hD10).1
              rw [beq_eq_false_iff_ne]; omega
            go_wp2_with (first
            | (go_at_call 20; refine (HL.out _).mono ?_; rintro e w' ⟨rfl, hw⟩; replace hw := hw.symm; subst hw)
            | (go_at_call 21; with_reducible refine Calls.mono (HDD.out _) ?_; rintro e w1 ⟨rfl, hb1⟩)
            | (go_at_call 22; refine (HMN.out _).mono ?_; rintro e w' ⟨rfl, hw⟩; replace hw := hw.symm; subst hw)
            | (go_at_call 21; with_reducible refine Calls.mono (HDY.out _) ?_; rintro e w2 ⟨rfl, hb2⟩)
            | (go_at_call 21; with_reducible refine Calls.mono (HD1.out _) ?_; rintro e w3 ⟨rfl, hb3⟩)
            | (go_at_call 21; with_reducible refine Calls.mono (HD2.out _) ?_; rintro e w4 ⟨rfl, hb4⟩)
            | (go_at_call 21; with_reducible refine Calls.mono (HD3.out _) ?_; rintro e w5 ⟨rfl, hb5⟩))
            go_ret
            refine ⟨?_, ?_⟩
            · rw [(HT.out.2 hD10).2]
              refine congrArg (fun x => Ending.returned (Value.string x)) ?_
              apply ByteArray.ext
              simp
            · have k1 := hb1.trans (hb2.mono hb1.size)
              have k2 := k1.trans (hb3.mono k1.size)
              have k3 := k2.trans (hb4.mono k2.size)
              exact k3.trans (hb5.mono k3.size)
end Go.Proofs.YtehecgkmckoolaaDoor.dat
