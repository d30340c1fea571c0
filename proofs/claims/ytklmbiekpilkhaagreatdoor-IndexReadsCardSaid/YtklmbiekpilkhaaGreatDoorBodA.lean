/- When a note is formed, by both. -/
import Derived.Test.YtklmbiekpilkhaaGreatDoorBodM
import Derived.Test.YtklmbiekpilkhaaGreatDoorNamC
import Derived.Test.YtklmbiekpilkhaaGreatDoorDatG
import Derived.Test.YtklmbiekpilkhaaGreatDoorFlgA
import Derived.Lib.LaidTab
namespace Go.Proofs.YtklmbiekpilkhaaGreatDoor.bod
open Go.ChangeShapes Go.WideShapes Go.ChangeAt Go.RowKit
open Go.Proofs.YtklmbiekpilkhaaGreatDoor.codec (Bytes)
set_option linter.unusedVariables false
set_option linter.unusedSimpArgs false
set_option maxRecDepth 100000

/-- What the walk asks of the library's own variables. -/
structure Fit (w : World) : Prop where
  room : nam.Room w
  tens : dat.Tens w
theorem Fit.below {w w' : World} (h : Fit w) (hb : Below w.heap.size w w') : Fit w' := ⟨h.room.below hb, Lib.tabBelow_of_tabIs (h.tens w' hb)⟩
theorem isName_any (w : World) (s : ByteArray) (hs : s.size ≤ 100000) (hr : Fit w) :
    Calls Tryz.prog 96 #[.string s] w fun e w' => e = .returned (.bool (named s)) ∧ Below w.heap.size w w' := by
  have hN := nam.normR w s hs hr.room
  unfold named
  generalize nam.normS s = t at *
  generalize nam.normOk s = b at *
  have HN := Lib.hid hN
  clear hN hr
  cases b
  · go_enter Tryz.func96, Tryz.ntmps96
    go_wp2_with (go_at_call 68; refine HN.out.mono ?_; rintro e w1 ⟨rfl, hb⟩)
    go_ret
    exact ⟨rfl, hb⟩
  · by_cases hts : t = s
    · subst hts
      rw [decide_eq_true rfl]
      go_enter Tryz.func96, Tryz.ntmps96
      go_wp2_with (go_at_call 68; refine HN.out.mono ?_; rintro e w1 ⟨rfl, hb⟩)
      go_ret
      exact ⟨rfl, hb⟩
    · rw [decide_eq_false hts]
      have hne := rd.str_ne hts
      clear hts
      go_enter Tryz.func96, Tryz.ntmps96
      go_wp2_with (go_at_call 68; refine HN.out.mono ?_; rintro e w1 ⟨rfl, hb⟩)
      go_ret
      exact ⟨by simpa [ByteArray.toList_eq] using hne, hb⟩
theorem isTime_any (w : World) (d : Int) (hr : Fit w) :
    Calls Tryz.prog 109 #[.int .i64 d] w fun e w' => e = .returned (.bool (decide (0 ≤ d ∧ d ≤ 253402300799))) ∧ Below w.heap.size w w' := by
  by_cases hd : 0 ≤ d ∧ d ≤ 253402300799
  · rw [decide_eq_true hd]
    obtain ⟨n, rfl⟩ := Int.eq_ofNat_of_zero_le hd.1
    obtain ⟨Y, M, D, hc⟩ := dat.civ_at ((n / 86400 : Nat) : Int) (by omega) (by omega)
    have hP := dat.print_any w n Y M D (by omega) hc hr.tens
    have hlen : 0 < (dat.textL Y M D (n % 86400)).length := by simp [dat.textL]
    generalize dat.textL Y M D (n % 86400) = T at *
    have hT : T.isEmpty = false := by cases T with
      | nil => simp at hlen
      | cons => rfl
    have HP := Lib.hid hP
    have HT := Lib.hid hT
    clear hP hT hlen hc hr hd
    go_enter Tryz.func109, Tryz.ntmps109
    go_wp2_with (go_at_call 126; refine HP.out.mono ?_; rintro e w1 ⟨rfl, hb⟩)
    go_ret
    exact ⟨by have := HT.out; simpa [ByteArray.toList_eq] using this, hb⟩
  · rw [decide_eq_false hd]
    have HP := Lib.hid (dat.print_none w d hd)
    clear hd hr
    go_enter Tryz.func109, Tryz.ntmps109
    go_wp2_with (go_at_call 126; refine HP.out.mono ?_; rintro e w1 ⟨rfl, hb⟩)
    go_ret
    exact ⟨rfl, hb⟩
theorem put_five (f : Int) : flg.chgN (flg.five 0) (flg.five f) (flg.kind 0) = flg.five f := rfl
theorem areFlags_any (w : World) (f : Int) :
    Calls Tryz.prog 110 #[.int .i64 f] w fun e w' => e = .returned (.bool (decide (0 ≤ f ∧ f < 32))) ∧ w' = w := by
  have hC := flg.change_any w 0 f 0
  rw [put_five] at hC
  have hv : decide ((flg.five f : Int) = f) = decide (0 ≤ f ∧ f < 32) := by
    rw [decide_eq_decide]
    unfold flg.five
    omega
  rw [← hv]
  generalize flg.five f = g at *
  have HC := Lib.hid hC
  clear hC hv
  go_enter Tryz.func110, Tryz.ntmps110
  go_wp2_with (go_at_call 102; refine HC.out.mono ?_; rintro e w1 ⟨rfl, hw⟩; replace hw := hw.symm; subst hw)
  go_ret
  exact ⟨by rfl, rfl⟩
end Go.Proofs.YtklmbiekpilkhaaGreatDoor.bod
