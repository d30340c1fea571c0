/- Tags, words, boxes, patterns, times, sets. -/
import Derived.Test.YtbhpgghbpibalaaGreatDoorMpc
namespace Go.Proofs.YtbhpgghbpibalaaGreatDoor.par
open Go.ChangeShapes Go.WideShapes Go.ChangeAt Go.RowKit
open Go.Proofs.YtbhpgghbpibalaaGreatDoor.codec (Bytes vals)
open Go.Proofs.YtbhpgghbpibalaaGreatDoor.row
open Go.Proofs.YtbhpgghbpibalaaGreatDoor.lx (Tk cT fT Fit tok_at octs Sl Room)
set_option linter.unusedVariables false
set_option maxRecDepth 100000
set_option linter.unusedSimpArgs false

/-- The reader went on, somehow. -/
def Did (w : World) (p : Nat) (w' : World) : Prop := (∃ l b, ST w' p l b) ∧ codec.Touch (· = p) w w'
theorem Did.mk {w w' : World} {p : Nat} {l : List Tk} {b : Bool} (h : ST w' p l b) (ht : codec.Touch (· = p) w w') : Did w p w' := ⟨⟨l, b, h⟩, ht⟩
/-- A text of some bytes. -/
def Txt (s : ByteArray) : Prop := ∃ t, s = lx.strOf t ∧ t.length ≤ 3000 ∧ ∀ x ∈ t, x < 256
theorem Txt.size {s : ByteArray} (h : Txt s) : s.size ≤ 3000 := by
  obtain ⟨t, rfl, h1, _⟩ := h
  rw [lx.strOf_size]
  exact h1

set_option maxHeartbeats 1600000 in
theorem tag_any (w : World) (p : Nat) (l : List Tk) (bad : Bool) (h : ST w p l bad) :
    Calls Tryz.prog 16 #[.pointer (some ⟨p, 0, none⟩)] w fun e w' => e = .returned (.string (lx.strOf (takeT l bad 1))) ∧ ST w' p (takeL l bad 1) (!comesB l bad 1 || !tagB (takeT l bad 1)) ∧ codec.Touch (· = p) w w' := by
  have HT := Lib.hid (take_any w p l bad 1 (by decide) h.1)
  have HS := Lib.hid h
  have hft := takeT_fit (bad := bad) (k := 1) h.1.fit
  have HL := Lib.hid (fun w1 => lx.str_lies w1 (takeT l bad 1) hft.2)
  have HZ := Lib.hid (show (lx.strOf (takeT l bad 1)).size ≤ 1000000 by rw [lx.strOf_size]; omega)
  have hcv := fun (w' : World) (s : ByteArray) => Lib.run_convert_string_bytes (P := Tryz.prog) w' 9 22 5 s Tryz.underlying9 Tryz.underlying22 Tryz.underlying5
  clear h hft
  go_enter Tryz.func16, Tryz.ntmps16
  go_wp2_with (first
    | (go_at_call 27; refine HT.out.mono ?_; rintro e w1 ⟨rfl, hr, ht⟩; have HR := Lib.hid (HS.out.move hr ht); have HTo := Lib.hid ht; clear hr ht)
    | (go_at_call 12; refine (isTag_any _ _ _ _ _ (HL.out w1).1.1 HZ.out).mono ?_; rintro e w2 ⟨rfl, hw⟩; subst hw)
    | (go_at_call 28; refine (must_any _ p _ _ _ (HR.out.below (HL.out w1).2.1).1).mono ?_; rintro e w3 ⟨rfl, hr3, ht3⟩; have HR3 := Lib.hid ((HR.out.below (HL.out w1).2.1).move hr3 ht3); have HT3 := Lib.hid (touch_trans (HTo.out.below (HL.out w1).2.1) ht3); clear hr3 ht3))
  go_ret
  exact ⟨rfl, HR3.out, HT3.out⟩
set_option maxHeartbeats 1600000 in
theorem word_any (w : World) (p : Nat) (l : List Tk) (bad : Bool) (h : ST w p l bad) :
    Calls Tryz.prog 31 #[.pointer (some ⟨p, 0, none⟩)] w fun e w' => ∃ s, e = .returned (.string s) ∧ Txt s ∧ Did w p w' := by
  have HC := Lib.hid (comes_any w p l bad 2 (by decide) h.1)
  have HT := Lib.hid (fun k hk => take_any w p l bad k hk h.1)
  have HX := Lib.hid (fun k => (show Txt (lx.strOf (takeT l bad k)) from ⟨_, rfl, takeT_fit h.1.fit⟩))
  have HS := Lib.hid h
  clear h
  cases hc : comesB l bad 2 <;> rw [hc] at HC <;> clear hc
  · go_enter Tryz.func31, Tryz.ntmps31
    go_wp2_with (first
      | (go_at_call 48; refine HC.out.mono ?_; rintro e w1 ⟨rfl, hw⟩; replace hw := hw.symm; subst hw)
      | (go_at_call 27; refine (HT.out 1 (by decide)).mono ?_; rintro e w1 ⟨rfl, hr, ht⟩; have HR := Lib.hid (Did.mk (HS.out.move hr ht) ht); clear hr ht))
    go_ret
    exact ⟨_, rfl, HX.out _, HR.out⟩
  · go_enter Tryz.func31, Tryz.ntmps31
    go_wp2_with (first
      | (go_at_call 48; refine HC.out.mono ?_; rintro e w1 ⟨rfl, hw⟩; replace hw := hw.symm; subst hw)
      | (go_at_call 27; refine (HT.out 2 (by decide)).mono ?_; rintro e w1 ⟨rfl, hr, ht⟩; have HR := Lib.hid (Did.mk (HS.out.move hr ht) ht); clear hr ht))
    go_ret
    exact ⟨_, rfl, HX.out _, HR.out⟩
theorem Did.must {w w1 w2 : World} {p : Nat} {l : List Tk} {b b' : Bool} (h : ST w1 p l b) (ht : codec.Touch (· = p) w w1) (hr : RS w2 p l b') (ht2 : codec.Touch (· = p) w1 w2) : Did w p w2 :=
  Did.mk (h.move hr ht2) (touch_trans ht ht2)
set_option maxHeartbeats 1600000 in
theorem pattern_any (w : World) (p : Nat) (l : List Tk) (bad : Bool) (h : ST w p l bad) :
    Calls Tryz.prog 33 #[.pointer (some ⟨p, 0, none⟩)] w fun e w' => ∃ s, e = .returned (.string s) ∧ Did w p w' := by
  have HW := Lib.hid (word_any w p l bad h)
  clear h
  go_enter Tryz.func33, Tryz.ntmps33
  go_wp2_with (first
    | (go_at_call 31; refine HW.out.mono ?_; rintro e w1 ⟨s, rfl, hX, ⟨l1, b1, hr⟩, ht⟩; have HR := Lib.hid hr; have HTo := Lib.hid ht; clear hr ht hX)
    | (go_at_call 28; refine (must_any _ p _ _ _ HR.out.1).mono ?_; rintro e w3 ⟨rfl, hr3, ht3⟩; have HD := Lib.hid (Did.must HR.out HTo.out hr3 ht3); clear hr3 ht3))
  go_ret
  exact ⟨_, rfl, HD.out⟩
set_option maxHeartbeats 1600000 in
theorem box_any (w : World) (p : Nat) (l : List Tk) (bad : Bool) (h : ST w p l bad) :
    Calls Tryz.prog 32 #[.pointer (some ⟨p, 0, none⟩)] w fun e w' => ∃ s, e = .returned (.string s) ∧ Did w p w' := by
  have HW := Lib.hid (word_any w p l bad h)
  clear h
  go_enter Tryz.func32, Tryz.ntmps32
  go_wp2_with (first
    | (go_at_call 31; refine HW.out.mono ?_; rintro e w1 ⟨s, rfl, hX, ⟨l1, b1, hr⟩, ht⟩; have HX := Lib.hid hX.size; have HR := Lib.hid hr; have HTo := Lib.hid ht; clear hr ht hX)
    | (go_at_call 54; refine (nam.normR _ s (Nat.le_trans HX.out (by decide)) HR.out.env.room).mono ?_; rintro e w2 ⟨rfl, hb⟩; have HR2 := Lib.hid (HR.out.below hb); have HT2 := Lib.hid (HTo.out.below hb); clear hb)
    | (go_at_call 28; refine (must_any _ p _ _ _ HR2.out.1).mono ?_; rintro e w3 ⟨rfl, hr3, ht3⟩; have HD := Lib.hid (Did.must HR2.out HT2.out hr3 ht3); clear hr3 ht3))
  go_ret
  exact ⟨_, rfl, HD.out⟩
theorem set_some (w : World) (s : ByteArray) (hs : s.size ≤ 1000000) (hr : Room w) :
    Calls Tryz.prog 53 #[.string s] w fun e w' => ∃ A n c ok, e = .returned (.tuple #[.slice A n c, .bool ok]) ∧ Below w.heap.size w w' := by
  refine (sq.parse_any w s hs hr).mono ?_
  rintro e w' ⟨hb, ⟨_, rfl⟩ | ⟨xs, A, c, _, rfl, _⟩⟩
  · exact ⟨_, _, _, _, rfl, hb⟩
  · exact ⟨_, _, _, _, rfl, hb⟩
set_option maxHeartbeats 1600000 in
theorem set_any (w : World) (p : Nat) (l : List Tk) (bad : Bool) (h : ST w p l bad) :
    Calls Tryz.prog 30 #[.pointer (some ⟨p, 0, none⟩)] w fun e w' => ∃ A n c, e = .returned (.slice A n c) ∧ Did w p w' := by
  have HT := Lib.hid (take_any w p l bad 1 (by decide) h.1)
  have HX := Lib.hid (show (lx.strOf (takeT l bad 1)).size ≤ 1000000 by have := (takeT_fit (bad := bad) (k := 1) h.1.fit).1; rw [lx.strOf_size]; omega)
  have HS := Lib.hid h
  clear h
  go_enter Tryz.func30, Tryz.ntmps30
  go_wp2_with (first
    | (go_at_call 27; refine HT.out.mono ?_; rintro e w1 ⟨rfl, hr, ht⟩; have HR := Lib.hid (HS.out.move hr ht); have HTo := Lib.hid ht; clear hr ht)
    | (go_at_call 53; refine (set_some _ _ HX.out HR.out.env.room).mono ?_; rintro e w2 ⟨A, n, c, ok, rfl, hb⟩; have HR2 := Lib.hid (HR.out.below hb); have HT2 := Lib.hid (HTo.out.below hb); clear hb)
    | (go_at_call 28; refine (must_any _ p _ _ _ HR2.out.1).mono ?_; rintro e w3 ⟨rfl, hr3, ht3⟩; have HD := Lib.hid (Did.must HR2.out HT2.out hr3 ht3); clear hr3 ht3))
  go_ret
  exact ⟨_, _, _, rfl, HD.out⟩
set_option maxHeartbeats 1600000 in
theorem date_any (w : World) (p : Nat) (l : List Tk) (bad : Bool) (h : ST w p l bad) :
    Calls Tryz.prog 55 #[.pointer (some ⟨p, 0, none⟩)] w fun e w' => ∃ z, e = .returned (.int .i64 z) ∧ Did w p w' := by
  have HT := Lib.hid (take_any w p l bad 2 (by decide) h.1)
  have HX := Lib.hid (show (lx.strOf (takeT l bad 2)).size ≤ 5000 by have := (takeT_fit (bad := bad) (k := 2) h.1.fit).1; rw [lx.strOf_size]; omega)
  have HS := Lib.hid h
  clear h
  go_enter Tryz.func55, Tryz.ntmps55
  go_wp2_with (first
    | (go_at_call 27; refine HT.out.mono ?_; rintro e w1 ⟨rfl, hr, ht⟩; have HR := Lib.hid (HS.out.move hr ht); have HTo := Lib.hid ht; clear hr ht)
    | (go_at_call 74; refine (dat.parse_any _ _ HX.out HR.out.env.fold).mono ?_; rintro e w2 ⟨t, ok, rfl, _, hb⟩; have HR2 := Lib.hid (HR.out.below hb); have HT2 := Lib.hid (HTo.out.below hb); clear hb)
    | (go_at_call 28; refine (must_any _ p _ _ _ HR2.out.1).mono ?_; rintro e w3 ⟨rfl, hr3, ht3⟩; have HD := Lib.hid (Did.must HR2.out HT2.out hr3 ht3); clear hr3 ht3))
  go_ret
  exact ⟨_, rfl, HD.out⟩
end Go.Proofs.YtbhpgghbpibalaaGreatDoor.par
