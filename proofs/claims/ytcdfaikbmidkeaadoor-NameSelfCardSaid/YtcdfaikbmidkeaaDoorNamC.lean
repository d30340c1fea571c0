/- The law NameNorms, walked. -/
import Derived.Test.YtcdfaikbmidkeaaDoorNamB
import Derived.Shelf.Vars
namespace Go.Proofs.YtcdfaikbmidkeaaDoor.nam
open Go.ChangeShapes Go.WideShapes Go.ChangeAt Go.RowKit
set_option linter.unusedVariables false
set_option linter.unusedSimpArgs false

/-- What the library's search asks of its own variable. -/
def Room (w : World) : Prop := ∃ m, w.cell? ⟨3, 0, none⟩ = some (.int .i64 m)
theorem Room.below {w w' : World} (h : Room w) (hb : Below w.heap.size w w') : Room w' := by
  obtain ⟨m, hm⟩ := h
  exact ⟨m, (hb.cell (block_lt_of_cell hm)).trans hm⟩

theorem normR (w : World) (s : ByteArray) (hs : s.size ≤ 100000) (hr : Room w) :
    Calls Tryd.prog 7 #[.string s] w fun e w' => e = .returned (.tuple #[.string (normS s), .bool (normOk s)]) ∧ Below w.heap.size w w' := by
  obtain ⟨m, hm⟩ := hr
  exact norm_any w s m hs hm

theorem awake_any (w : World) (hr : Room w) : Calls Tryd.prog 6 #[] w fun e w' => e = .returned (.bool true) ∧ Below w.heap.size w w' := by
  have h := normR w inbox (by decide) hr
  have e1 : normS inbox = INBOX := by unfold normS; rw [if_pos normOk_inbox, if_pos alike_inbox]
  rw [e1, normOk_inbox] at h
  have H := Lib.hid h
  clear h
  go_enter Tryd.func6, Tryd.ntmps6
  go_wp2_with (go_at_call 7; refine H.out.mono ?_; rintro e w1 ⟨rfl, hb⟩; unfold INBOX)
  go_ret
  exact ⟨rfl, hb⟩

set_option maxHeartbeats 1600000 in
theorem norms_walk (w : World) (s : ByteArray) (hr : Room w) :
    Calls Tryd.prog 3 #[.string s] w fun e w' => e = .returned (.bool true) ∧ Below w.heap.size w w' := by
  by_cases h1 : s.size ≤ 1000
  · have hs : s.size ≤ 100000 := by omega
    have h2 : decide ((1000 : Int) < (s.size : Int)) = false := by simp; omega
    obtain ⟨n, hn⟩ : ∃ n, normS s = n := ⟨_, rfl⟩
    cases hok : normOk s
    · have hN : ∀ w, _ := fun w hr => normR w s hs hr
      have hR : ∀ w, _ := fun w => rNorm_any w s hs
      rw [hn, hok] at hN hR
      have HN := Lib.hid hN
      have HR := Lib.hid hR
      have HRoom := Lib.hid hr
      clear hN hR hn hok hr
      go_enter Tryd.func3, Tryd.ntmps3
      go_wp2_with (first | (go_at_call 6; refine (awake_any w HRoom.out).mono ?_; rintro e w1 ⟨rfl, hb1⟩) | (go_at_call 7; refine (HN.out _ (HRoom.out.below hb1)).mono ?_; rintro e w2 ⟨rfl, hb2⟩) | (go_at_call 8; refine (HR.out _).mono ?_; rintro e w3 ⟨rfl, hd3⟩) | (go_at_call 9; refine (up_any _ s hs).mono ?_; rintro e w4 ⟨rfl, hb4⟩) | (go_at_call 10; refine (rUp_any _ s hs).mono ?_; rintro e w5 ⟨rfl, rfl⟩))
      go_ret
      exact ⟨rfl, hb1.trans ((hb2.mono hb1.size).trans (((hd3.below _)).trans (hb4.mono (Nat.le_trans (Nat.le_trans hb1.size hb2.size) (hd3.below 0).size))))⟩
    · have hN : ∀ w, _ := fun w hr => normR w s hs hr
      have hR : ∀ w, _ := fun w => rNorm_any w s hs
      have hag := norm_again s hok
      have hns : n.size ≤ 100000 := by
        have e : normS s = if alike s inbox then INBOX else s := by unfold normS; rw [hok]; rfl
        rw [← hn, e]
        split
        · decide
        · exact hs
      rw [hn] at hag
      have hN2 : ∀ w, _ := fun w hr => normR w n hns hr
      rw [hag.1, hag.2] at hN2
      rw [hn, hok] at hN hR
      have HN := Lib.hid hN
      have HN2 := Lib.hid hN2
      have HR := Lib.hid hR
      have HRoom := Lib.hid hr
      clear hN hN2 hR hn hok hr hag
      go_enter Tryd.func3, Tryd.ntmps3
      go_wp2_with (first | (go_at_call 6; refine (awake_any w HRoom.out).mono ?_; rintro e w1 ⟨rfl, hb1⟩) | (go_at_call 7; with_reducible refine Calls.mono (HN.out w1 (HRoom.out.below hb1)) ?_; rintro e w2 ⟨rfl, hb2⟩) | (go_at_call 8; refine (HR.out _).mono ?_; rintro e w3 ⟨rfl, hd3⟩) | (go_at_call 7; with_reducible refine Calls.mono (HN2.out w3 (HRoom.out.below (hb1.trans ((hb2.mono hb1.size).trans (hd3.below _))))) ?_; rintro e w6 ⟨rfl, hb6⟩) | (go_at_call 9; refine (up_any _ s hs).mono ?_; rintro e w4 ⟨rfl, hb4⟩) | (go_at_call 10; refine (rUp_any _ s hs).mono ?_; rintro e w5 ⟨rfl, rfl⟩))
      go_ret
      refine ⟨rfl, ?_⟩
      have k1 := hb1.trans ((hb2.mono hb1.size).trans (hd3.below _))
      have k2 := k1.trans (hb6.mono k1.size)
      exact k2.trans (hb4.mono k2.size)
  · have HRoom := Lib.hid hr
    clear hr
    go_enter Tryd.func3, Tryd.ntmps3
    go_wp2_with (first | (go_at_call 6; refine (awake_any w HRoom.out).mono ?_; rintro e w1 ⟨rfl, hb1⟩) | (go_at_call 6; refine (awake_any w1 (HRoom.out.below hb1)).mono ?_; rintro e w2 ⟨rfl, hb2⟩))
    go_ret
    exact ⟨rfl, hb1.trans (hb2.mono hb1.size)⟩

theorem Room.of_shape {w : World} (h : w.ShapedOpen Tryd.prog) : Room w :=
  cell_of_shapedOpen_int (t := 3) (zero := #[.int .i64 0]) h (of_decide_eq_true (by kernel_rfl)) (by kernel_rfl) rfl (by kernel_rfl) (by kernel_rfl) Tryd.underlying3
end Go.Proofs.YtcdfaikbmidkeaaDoor.nam
