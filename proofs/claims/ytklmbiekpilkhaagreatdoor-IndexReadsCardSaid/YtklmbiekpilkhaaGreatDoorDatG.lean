/- A time's text, by both. -/
import Derived.Test.YtklmbiekpilkhaaGreatDoorDatP
import Derived.Lib.AppendIntMem
namespace Go.Proofs.YtklmbiekpilkhaaGreatDoor.dat
open Go.ChangeShapes Go.WideShapes Go.ChangeAt Go.RowKit
open Go.Lib (dg itoa byteCells strCells)
set_option linter.unusedVariables false
set_option linter.unusedSimpArgs false

/-- What the library's decimal numeral asks of its own table. -/
def Tens (w : World) : Prop := Lib.TabBelow Tryz.prog w.heap.size w "internal/strconv.uint64pow10" .u64 Lib.pow10Tab
theorem Tens.on {w w' : World} (h : Tens w) (hb : Below w.heap.size w w') : Lib.TabBelow Tryz.prog w.heap.size w' "internal/strconv.uint64pow10" .u64 Lib.pow10Tab := Lib.TabBelow.on h hb
theorem itoa_step (W0 w : World) (v : Value) (l : List UInt8) (Y : Nat) (h0 : 1000 ≤ Y) (h1 : Y ≤ 9999) (hl : l.length ≤ 100) (hb : Bu W0 W0.heap.size v l w) (ht : Tens W0) :
    Calls Tryz.prog 143 #[v, .int .i64 Y, .int .i64 10] w fun e w' => ∃ v', e = .returned v' ∧ Bu W0 W0.heap.size v' (l ++ four Y) w' := by
  have hi := itoa_four h0 h1
  refine (Tryz.strconv_AppendInt_10 W0.heap.size l.length Y (by omega) (by omega) v (byteCells l) w hb.1 hb.2.2 (by omega) (ht.on hb.2.1)).mono ?_
  rintro e w' ⟨v', rfl, ho, hbl, -⟩
  rw [hi] at ho
  refine ⟨v', rfl, ?_, hb.2.1.trans hbl, Nat.le_trans hb.2.2 hbl.size⟩
  rw [List.length_append]
  simpa [byteCells] using ho
theorem print_none (w : World) (t : Int) (h : ¬ (0 ≤ t ∧ t ≤ 253402300799)) :
    Calls Tryz.prog 126 #[.int .i64 t] w fun e w' => e = .returned (.string ⟨#[]⟩) ∧ Below w.heap.size w w' := by
  have hi := fun w => isTime_any w t
  rw [decide_eq_false h] at hi
  go_enter Tryz.func126, Tryz.ntmps126
  go_wp2_with (go_at_call 138; refine (hi _).mono ?_; rintro e w' ⟨rfl, rfl⟩)
  go_ret
  exact ⟨rfl, Below.refl _ _⟩
theorem make26 (w : World) : ∃ w2, (Instr.makeSlice 22 (.int .i64 0) (.int .i64 26)).run Tryz.prog w = .ok (.slice (some ⟨w.heap.size, 0, none⟩) 0 26) w2 ∧ Bu w w.heap.size (.slice (some ⟨w.heap.size, 0, none⟩) 0 26) [] w2 := by
  obtain ⟨i, h1, h2, h3, h4⟩ := info5
  obtain ⟨w2, hr, ho, hg⟩ := run_makeSlice_owned w w.heap.size 22 5 i (.int .u8 0) 1 Tryz.underlying22 h1 h2 h3 .i64 .i64 26 (by omega) (by omega) (by unfold maxLen; omega) (Nat.le_refl _)
  exact ⟨w2, hr, ho, (Below.refl _ _).grown hg (Nat.le_refl _) (fun k hk => by cases hk), hg.size⟩
set_option maxHeartbeats 1600000 in
theorem print_any (w : World) (t Y M D : Nat) (h1 : t ≤ 253402300799) (hc : Civ ((t / 86400 : Nat) : Int) Y M D) (ht : Tens w) :
    Calls Tryz.prog 126 #[.int .i64 t] w fun e w' => e = .returned (.string ⟨(textL Y M D (t % 86400)).toArray⟩) ∧ Below w.heap.size w w' := by
  have hi := fun w => isTime_any w t
  rw [decide_eq_true (by omega)] at hi
  have hci := fun w => civil_any w _ Y M D hc (by omega) (by omega)
  have hd31 := (daysN_pos Y M).2
  have hD := hc.d1; have hD0 := hc.d0; have hY0 := hc.y0; have hY1 := hc.y1; have hM0 := hc.m0; have hM1 := hc.m1
  have hte := fun w => tens_any w D (by omega)
  have hdi := fun w => digit_any w D (by omega)
  have hmn := fun w => monthName_any w M hM0 hM1
  have hnl := nameL_length hM0 hM1
  have h2a := fun (w1 : World) (v : Value) (l : List UInt8) (hl : l.length ≤ 100) (hb : Bu w w.heap.size v l w1) => two_any w w1 w.heap.size v l (t % 86400 / 3600) (by omega) hl hb
  have h2b := fun (w1 : World) (v : Value) (l : List UInt8) (hl : l.length ≤ 100) (hb : Bu w w.heap.size v l w1) => two_any w w1 w.heap.size v l (t % 3600 / 60) (by omega) hl hb
  have h2c := fun (w1 : World) (v : Value) (l : List UInt8) (hl : l.length ≤ 100) (hb : Bu w w.heap.size v l w1) => two_any w w1 w.heap.size v l (t % 60) (by omega) hl hb
  simp only [show ((t % 86400 / 3600 : Nat) : Int) = (t : Int) % 86400 / 3600 by omega] at h2a
  simp only [show ((t % 3600 / 60 : Nat) : Int) = (t : Int) % 3600 / 60 by omega] at h2b
  simp only [show ((t % 60 : Nat) : Int) = (t : Int) % 60 by omega] at h2c
  have hit := fun (w1 : World) (v : Value) (l : List UInt8) (hl : l.length ≤ 100) (hb : Bu w w.heap.size v l w1) => itoa_step w w1 v l Y (by omega) hY1 hl hb ht
  have hD' : D ≤ 31 := by omega
  have hres : textL Y M D (t % 86400) = tensB D :: dg D 0 :: 45 :: (nameL M ++ 45 :: (four Y ++ 32 :: (two (t % 86400 / 3600) ++ 58 :: (two (t % 3600 / 60) ++ 58 :: (two (t % 60) ++ [32, 43, 48, 48, 48, 48]))))) := by
    unfold textL headL
    rw [show t % 86400 / 60 % 60 = t % 3600 / 60 by omega, show t % 86400 % 60 = t % 60 by omega]
    simp
  have HI := Lib.hid hi; have HCI := Lib.hid hci; have HTE := Lib.hid hte; have HDI := Lib.hid hdi; have HMN := Lib.hid hmn; have H2A := Lib.hid h2a; have H2B := Lib.hid h2b; have H2C := Lib.hid h2c; have HIT := Lib.hid hit; have HRES := Lib.hid hres
  clear hi hci hte hdi hmn h2a h2b h2c hit hres hc hD hd31 ht
  obtain ⟨nm, hnm⟩ : ∃ nm, nameL M = nm := ⟨_, rfl⟩
  rw [hnm] at HMN HRES hnl
  clear hnm
  obtain ⟨w2, hmk, hB⟩ := make26 w
  go_enter Tryz.func126, Tryz.ntmps126
  go_wp2_with (first
    | (at_builtin; refine step_lit rfl _ _ rfl w _ w.heap.size _ _ [tensB D, dg D 0, 45] _ 3 rfl rfl hB rfl rfl (by simp) ?_; clear hB; intro v1 w3 hB)
    | (at_builtin; refine step_str rfl _ _ rfl w w.heap.size _ _ nm hB rfl rfl (by simp [hnl]) ?_; clear hB; intro v1 w3 hB)
    | (at_builtin; refine step_lit rfl _ _ rfl w _ w.heap.size _ _ [45] _ 1 rfl rfl hB rfl rfl (by simp [hnl]) ?_; clear hB; intro v1 w3 hB)
    | (at_builtin; refine step_lit rfl _ _ rfl w _ w.heap.size _ _ [32] _ 1 rfl rfl hB rfl rfl (by simp [hnl, four]) ?_; clear hB; intro v1 w3 hB)
    | (at_builtin; refine step_lit rfl _ _ rfl w _ w.heap.size _ _ [58] _ 1 rfl rfl hB rfl rfl (by simp [hnl, four, two]) ?_; clear hB; intro v1 w3 hB)
    | (at_builtin; refine step_str rfl _ _ rfl w w.heap.size _ _ [32, 43, 48, 48, 48, 48] hB rfl rfl (by simp [hnl, four, two]) ?_; clear hB; intro v1 w3 hB; have hcv := hB.text (by simp))
    | (go_at_call 143; refine (HIT.out _ _ _ (by simp [hnl]) hB).mono ?_; clear hB; rintro e w' ⟨v1, rfl, hB⟩)
    | (go_at_call 144; with_reducible refine Calls.mono (H2A.out _ _ _ (by simp [hnl, four, two]) hB) ?_; clear hB; rintro e w' ⟨v1, rfl, hB⟩)
    | (go_at_call 144; with_reducible refine Calls.mono (H2B.out _ _ _ (by simp [hnl, four, two]) hB) ?_; clear hB; rintro e w' ⟨v1, rfl, hB⟩)
    | (go_at_call 144; with_reducible refine Calls.mono (H2C.out _ _ _ (by simp [hnl, four, two]) hB) ?_; clear hB; rintro e w' ⟨v1, rfl, hB⟩)
    | (go_at_call 142; refine (HMN.out _).mono ?_; rintro e w' ⟨rfl, hw⟩; replace hw := hw.symm; subst hw)
    | (go_at_call 138; refine (HI.out _).mono ?_; rintro e w' ⟨rfl, hw⟩; replace hw := hw.symm; subst hw)
    | (go_at_call 139; refine (HCI.out _).mono ?_; rintro e w' ⟨rfl, hw⟩; replace hw := hw.symm; subst hw)
    | (go_at_call 140; refine (HTE.out _).mono ?_; rintro e w' ⟨rfl, hw⟩; replace hw := hw.symm; subst hw)
    | (go_at_call 141; refine (HDI.out _).mono ?_; rintro e w' ⟨rfl, hw⟩; replace hw := hw.symm; subst hw))
  go_ret
  refine ⟨?_, hB.2.1⟩
  rw [HRES.out]
  rfl

end Go.Proofs.YtklmbiekpilkhaaGreatDoor.dat
