/- The laws DatePrints and DateParses, walked. -/
import Derived.Test.YtehecgkmckoolaaDoorDatG
import Derived.Test.YtehecgkmckoolaaDoorDatK
namespace Go.Proofs.YtehecgkmckoolaaDoor.dat
open Go.ChangeShapes Go.WideShapes Go.ChangeAt Go.RowKit
open Go.Lib (dg itoa byteCells strCells)
set_option linter.unusedVariables false
set_option linter.unusedSimpArgs false

/-- The tables that are read hold what the text lays. -/
def Tab (w : World) : Prop := Fold w ∧ Tens w
theorem Tab.below {w w' : World} (h : Tab w) (hb : Below w.heap.size w w') : Tab w' := ⟨h.1.below hb, Lib.tabBelow_of_tabIs (h.2 w' hb)⟩
def first0 : ByteArray := ⟨#[32, 49, 45, 74, 97, 110, 45, 49, 57, 55, 48, 32, 48, 48, 58, 48, 48, 58, 48, 48, 32, 43, 48, 48, 48, 48]⟩
theorem civ0 : Civ ((0 / 86400 : Nat) : Int) 1970 1 1 := ⟨by omega, by omega, by omega, by omega, by omega, by decide, by decide⟩
theorem text0 : (⟨(textL 1970 1 1 (0 % 86400)).toArray⟩ : ByteArray) = first0 := by decide +kernel
theorem awake_any (w : World) (h : Tab w) : Calls Tryd.prog 6 #[] w fun e w' => e = .returned (.bool true) ∧ Below w.heap.size w w' := by
  have hp := print_any w 0 1970 1 1 (by omega) civ0 h.2
  rw [text0] at hp
  have HP := Lib.hid hp
  clear hp
  go_enter Tryd.func6, Tryd.ntmps6
  go_wp2_with (go_at_call 7; refine HP.out.mono ?_; rintro e w1 ⟨rfl, hb⟩; unfold first0)
  go_ret
  exact ⟨rfl, hb⟩
/-- What no text of a time is. -/
theorem empty_no (t : Int) : ¬ Tells ⟨#[]⟩ t := by
  rintro ⟨d, m, y, h, i, e, zh, zm, hf, -⟩
  exact absurd hf.size (by decide)
theorem text_self (t Y M D : Nat) (h1 : t ≤ 253402300799) (hc : Civ ((t / 86400 : Nat) : Int) Y M D) : Tells ⟨(textL Y M D (t % 86400)).toArray⟩ t := by
  have he : textL Y M D (t % 86400) = headL Y M D (t % 86400) ++ 32 :: 43 :: (two 0 ++ two 0) := by
    unfold textL; rfl
  rw [he]
  have heq := hc.eq
  exact text_tells Y M D (t % 86400) t 43 0 0 hc.y1 hc.m0 hc.m1 hc.d0 hc.d1 (by omega) (.inl rfl) (by omega) (by omega) (by
    rw [if_pos rfl]
    omega) (by omega) (by omega)
theorem text_size (Y M D x : Nat) (h0 : 1 ≤ M) (h1 : M ≤ 12) : (textL Y M D x).length = 26 := by
  have := nameL_length h0 h1
  unfold textL headL two four
  simp [this]
set_option maxHeartbeats 3200000 in
theorem prints_walk (w : World) (t : Int) (h : Tab w) : Calls Tryd.prog 3 #[.int .i64 t] w fun e w' => e = .returned (.bool true) ∧ Below w.heap.size w w' := by
  have HT := Lib.hid h
  clear h
  by_cases ht : 0 ≤ t ∧ t ≤ 253402300799
  · obtain ⟨n, rfl⟩ := Int.eq_ofNat_of_zero_le ht.1
    have hn : n ≤ 253402300799 := by omega
    obtain ⟨Y, M, D, hc⟩ := civ_at ((n / 86400 : Nat) : Int) (by omega) (by omega)
    have hP := Lib.hid (fun w (h : Tab w) => print_any w n Y M D hn hc h.2)
    have hR := Lib.hid (fun w => rprint_any w n Y M D hn hc)
    have hS := text_self n Y M D hn hc
    have hl := text_size Y M D (n % 86400) hc.m0 hc.m1
    obtain ⟨l, hl'⟩ : ∃ l, textL Y M D (n % 86400) = l := ⟨_, rfl⟩
    rw [hl'] at hP hR hS hl
    have hA := Lib.hid (fun w (h : Tab w) => parse_any w ⟨l.toArray⟩ (by show l.length ≤ 1000; omega) h.1)
    have HS := Lib.hid hS
    have hDay := Lib.hid (fun w => day_any w n hn)
    have hle : l.isEmpty = false := by cases l <;> simp_all
    have hln : ¬ l = [] := by intro h; rw [h] at hl; cases hl
    clear hl' hS hc hl
    go_enter Tryd.func3, Tryd.ntmps3
    go_wp2_with (first
      | (go_at_call 6; refine (awake_any _ HT.out).mono ?_; rintro e w1 ⟨rfl, hb1⟩)
      | (go_at_call 7; refine (hP.out _ (HT.out.below hb1)).mono ?_; rintro e w2 ⟨rfl, hb2⟩; have hB2 := hb1.trans (hb2.mono hb1.size))
      | (go_at_call 8; refine (hR.out _).mono ?_; rintro e w3 ⟨rfl, hb3⟩; have hB3 := hB2.trans (hb3.mono hB2.size))
      | (go_at_call 9; refine (hA.out _ (HT.out.below hB3)).mono ?_; rintro e w4 ⟨t', ok, rfl, hpar, hb4⟩; obtain ⟨rfl, rfl⟩ := hpar.of HS.out)
      | (go_at_call 10; refine (hDay.out _).mono ?_; rintro e w5 ⟨rfl, hw⟩; replace hw := hw.symm; subst hw))
    go_ret
    refine ⟨by simp, hB3.trans (hb4.mono hB3.size)⟩
  · have hP := Lib.hid (fun w => print_none w t ht)
    have hR := Lib.hid (fun w => rprint_none w t ht)
    have hA := Lib.hid (fun w (h : Tab w) => parse_any w ⟨#[]⟩ (by decide) h.1)
    go_enter Tryd.func3, Tryd.ntmps3
    go_wp2_with (first
      | (go_at_call 6; refine (awake_any _ HT.out).mono ?_; rintro e w1 ⟨rfl, hb1⟩)
      | (go_at_call 7; refine (hP.out _).mono ?_; rintro e w2 ⟨rfl, hb2⟩; have hB2 := hb1.trans (hb2.mono hb1.size))
      | (go_at_call 8; refine (hR.out _).mono ?_; rintro e w3 ⟨rfl, hb3⟩; have hB3 := hB2.trans (hb3.mono hB2.size))
      | (go_at_call 9; refine (hA.out _ (HT.out.below hB3)).mono ?_; rintro e w4 ⟨t', ok, rfl, hpar, hb4⟩; obtain ⟨rfl, rfl⟩ : t' = 0 ∧ ok = false := by (rcases hpar with ⟨_, h⟩ | ⟨h1, h2, _⟩; exact absurd h (empty_no _); exact ⟨h2, h1⟩)))
    go_ret
    refine ⟨by simp, hB3.trans (hb4.mono hB3.size)⟩
set_option maxHeartbeats 3200000 in
theorem parses_walk (w : World) (s : ByteArray) (h : Tab w) : Calls Tryd.prog 4 #[.string s] w fun e w' => e = .returned (.bool true) ∧ Below w.heap.size w w' := by
  have HT := Lib.hid h
  clear h
  by_cases hs : s.size ≤ 100
  · have hA := Lib.hid (fun w (h : Tab w) => parse_any w s (by omega) h.1)
    have hR := Lib.hid (fun w => rparse_any w s (by omega))
    have hlt : decide ((100 : Int) < (s.size : Int)) = false := by simp; omega
    go_enter Tryd.func4, Tryd.ntmps4
    go_wp2_with (first
      | (go_at_call 6; refine (awake_any _ HT.out).mono ?_; rintro e w1 ⟨rfl, hb1⟩)
      | (go_at_call 9; refine (hA.out _ (HT.out.below hb1)).mono ?_; rintro e w2 ⟨t1, ok1, rfl, hpar1, hb2⟩; have hB2 := hb1.trans (hb2.mono hb1.size))
      | (go_at_call 11; refine (hR.out _).mono ?_; rintro e w3 ⟨t2, ok2, rfl, hpar2, hb3⟩; obtain ⟨rfl, rfl⟩ := hpar1.same hpar2))
    go_ret
    refine ⟨by simp, hB2.trans (hb3.mono hB2.size)⟩
  · have hlt : decide ((100 : Int) < (s.size : Int)) = true := by simp; omega
    go_enter Tryd.func4, Tryd.ntmps4
    go_wp2_with (first
      | (go_at_call 6; with_reducible refine Calls.mono (awake_any w HT.out) ?_; rintro e w1 ⟨rfl, hb1⟩)
      | (go_at_call 6; with_reducible refine Calls.mono (awake_any w1 (HT.out.below hb1)) ?_; rintro e w2 ⟨rfl, hb2⟩))
    go_ret
    exact ⟨rfl, hb1.trans (hb2.mono hb1.size)⟩
end Go.Proofs.YtehecgkmckoolaaDoor.dat
