/- What a command has behind its name. -/
import Derived.Test.YtbhpgghbpibalaaGreatDoorMpg
namespace Go.Proofs.YtbhpgghbpibalaaGreatDoor.par
open Go.ChangeShapes Go.WideShapes Go.ChangeAt Go.RowKit
open Go.Proofs.YtbhpgghbpibalaaGreatDoor.codec (Bytes vals)
open Go.Proofs.YtbhpgghbpibalaaGreatDoor.row
open Go.Proofs.YtbhpgghbpibalaaGreatDoor.lx (Tk cT fT Fit tok_at octs Sl Room own_slice)
set_option linter.unusedVariables false
set_option maxRecDepth 100000
set_option linter.unusedSimpArgs false

/-- A reader, and a command behind it, since W. -/
def CC (W : World) (p c : Nat) (w : World) : Prop := (∃ l b, ST w p l b) ∧ (∃ f, w.rowIs c 29 17 f ∧ ∀ i, i < 17 → (f i).oneCell' = true) ∧ p < c ∧ codec.Touch (fun i => i = p ∨ i = c) W w
theorem CC.did {W w w' : World} {p c : Nat} (h : CC W p c w) (hd : Did w p w') : CC W p c w' := by
  obtain ⟨⟨l, b, hs⟩, ⟨f, hf, ho⟩, hpc, ht⟩ := h
  obtain ⟨hs2, ht2⟩ := hd
  exact ⟨hs2, ⟨f, hf.of_block (ht2.2.2.2.2 c hf.lt (by omega)), ho⟩, hpc, ht.trans (ht2.mono fun i _ e => .inl (.inl e))⟩
theorem CC.set {W w : World} {p c : Nat} (h : CC W p c w) (i : Nat) (v : Value) (hv : v.oneCell' = true) : CC W p c (w.setCell ⟨c, i, none⟩ v) := by
  obtain ⟨⟨l, b, hs⟩, ⟨f, hf, ho⟩, hpc, ht⟩ := h
  have k1 : codec.Touch (fun i => i = c) w (w.setCell ⟨c, i, none⟩ v) := codec.Touch.setCell (F := fun i => i = c) (codec.Touch.refl (fun i => i = c) w) ⟨c, i, none⟩ (.inr rfl) v
  exact ⟨⟨l, b, hs.touch k1 (fun i hi e => by omega)⟩, ⟨_, hf.set i v, fun j hj => by show (if j = i then v else f j).oneCell' = true; split; exact hv; exact ho j hj⟩, hpc, ht.trans (k1.mono fun i _ e => .inl (.inr e))⟩
theorem CC.bad {W w : World} {p c : Nat} (h : CC W p c w) : CC W p c (w.setCell ⟨p, 0 + 1, none⟩ (.bool true)) := by
  obtain ⟨⟨l, b, hs⟩, h2⟩ := h
  exact CC.did ⟨⟨l, b, hs⟩, h2⟩ (Did.mk hs.bad (touch_set _ _ _ _))
/-- What the walk needs of it. -/
theorem CC.free {W w : World} {p c : Nat} (h : CC W p c w) : (∃ b, w.cell? ⟨p, 0 + 1, none⟩ = some (.bool b)) ∧ w.frozen? ⟨p, 0 + 1, none⟩ = false ∧ p < w.heap.size ∧ c < w.heap.size ∧ (∀ i, i < 17 → ∃ v, w.cell? ⟨c, i, none⟩ = some v) ∧ ∀ i, w.frozen? ⟨c, i, none⟩ = false := by
  obtain ⟨⟨l, b, hs⟩, ⟨f, hf, ho⟩, hpc, ht⟩ := h
  exact ⟨⟨b, hs.1.free.2.1⟩, hs.1.free.1, hs.1.lt, hf.lt, fun i hi => ⟨_, hf.cell hi⟩, fun i => hf.frozen i⟩
theorem CC.head {W w : World} {p c : Nat} (h : CC W p c w) : ∃ R m d, w.cell? ⟨p, 0, none⟩ = some (.slice R m d) ∧ m ≤ 200 := by
  obtain ⟨⟨l, b, hs⟩, _⟩ := h
  obtain ⟨R, m, d, c0, _, _, hm⟩ := hs.1.head
  exact ⟨R, m, d, c0, hm⟩

theorem word_cc (W w : World) (p c : Nat) (h : CC W p c w) : Calls Tryz.prog 31 #[.pointer (some ⟨p, 0, none⟩)] w fun e w' => ∃ s, e = .returned (.string s) ∧ CC W p c w' := by
  obtain ⟨l, b, hs⟩ := h.1
  refine (word_any w p l b hs).mono ?_
  rintro e w' ⟨s, rfl, _, hd⟩
  exact ⟨s, rfl, h.did hd⟩
theorem pattern_cc (W w : World) (p c : Nat) (h : CC W p c w) : Calls Tryz.prog 33 #[.pointer (some ⟨p, 0, none⟩)] w fun e w' => ∃ s, e = .returned (.string s) ∧ CC W p c w' := by
  obtain ⟨l, b, hs⟩ := h.1
  refine (pattern_any w p l b hs).mono ?_
  rintro e w' ⟨s, rfl, hd⟩
  exact ⟨s, rfl, h.did hd⟩
theorem box_cc (W w : World) (p c : Nat) (h : CC W p c w) : Calls Tryz.prog 32 #[.pointer (some ⟨p, 0, none⟩)] w fun e w' => ∃ s, e = .returned (.string s) ∧ CC W p c w' := by
  obtain ⟨l, b, hs⟩ := h.1
  refine (box_any w p l b hs).mono ?_
  rintro e w' ⟨s, rfl, hd⟩
  exact ⟨s, rfl, h.did hd⟩
theorem set_cc (W w : World) (p c : Nat) (h : CC W p c w) : Calls Tryz.prog 30 #[.pointer (some ⟨p, 0, none⟩)] w fun e w' => ∃ A n d, e = .returned (.slice A n d) ∧ CC W p c w' := by
  obtain ⟨l, b, hs⟩ := h.1
  refine (set_any w p l b hs).mono ?_
  rintro e w' ⟨A, n, d, rfl, hd⟩
  exact ⟨A, n, d, rfl, h.did hd⟩
theorem items_cc (W w : World) (p c : Nat) (h : CC W p c w) : Calls Tryz.prog 35 #[.pointer (some ⟨p, 0, none⟩)] w fun e w' => ∃ A n d, e = .returned (.slice A n d) ∧ CC W p c w' := by
  obtain ⟨l, b, hs⟩ := h.1
  refine (items_any w p l b hs).mono ?_
  rintro e w' ⟨A, n, d, rfl, hd⟩
  exact ⟨A, n, d, rfl, h.did hd⟩
theorem keys_cc (W w : World) (p c : Nat) (h : CC W p c w) : Calls Tryz.prog 38 #[.pointer (some ⟨p, 0, none⟩)] w fun e w' => ∃ A n d, e = .returned (.slice A n d) ∧ CC W p c w' := by
  obtain ⟨l, b, hs⟩ := h.1
  refine (keys_any w p l b hs).mono ?_
  rintro e w' ⟨A, n, d, rfl, hd⟩
  exact ⟨A, n, d, rfl, h.did hd⟩
theorem flags_cc (W w : World) (p c : Nat) (h : CC W p c w) : Calls Tryz.prog 37 #[.pointer (some ⟨p, 0, none⟩)] w fun e w' => ∃ z, e = .returned (.int .i64 z) ∧ CC W p c w' := by
  obtain ⟨l, b, hs⟩ := h.1
  refine (flags_any w p l b hs).mono ?_
  rintro e w' ⟨z, rfl, hd⟩
  exact ⟨z, rfl, h.did hd⟩
theorem date_cc (W w : World) (p c : Nat) (h : CC W p c w) : Calls Tryz.prog 55 #[.pointer (some ⟨p, 0, none⟩)] w fun e w' => ∃ z, e = .returned (.int .i64 z) ∧ CC W p c w' := by
  obtain ⟨l, b, hs⟩ := h.1
  refine (date_any w p l b hs).mono ?_
  rintro e w' ⟨z, rfl, hd⟩
  exact ⟨z, rfl, h.did hd⟩
theorem how_cc (W w : World) (p c : Nat) (h : CC W p c w) : Calls Tryz.prog 36 #[.pointer (some ⟨p, 0, none⟩)] w fun e w' => ∃ (z : Int) (q : Bool), e = .returned (.tuple #[.int .i64 z, .bool q]) ∧ CC W p c w' := by
  obtain ⟨l, b, hs⟩ := h.1
  refine (how_any w p l b hs).mono ?_
  rintro e w' ⟨z, q, rfl, hd⟩
  exact ⟨z, q, rfl, h.did hd⟩
theorem take_cc (W w : World) (p c k : Nat) (hk : k < 10) (h : CC W p c w) : Calls Tryz.prog 27 #[.pointer (some ⟨p, 0, none⟩), .int .i64 k] w fun e w' => ∃ s, e = .returned (.string s) ∧ Txt s ∧ CC W p c w' := by
  obtain ⟨l, b, hs⟩ := h.1
  refine (take_any w p l b k hk hs.1).mono ?_
  rintro e w' ⟨rfl, hr, ht⟩
  exact ⟨_, rfl, ⟨_, rfl, takeT_fit hs.1.fit⟩, h.did (Did.mk (hs.move hr ht) ht)⟩
theorem comes_cc (W w : World) (p c k : Nat) (hk : k < 10) (h : CC W p c w) : Calls Tryz.prog 48 #[.pointer (some ⟨p, 0, none⟩), .int .i64 k] w fun e w' => ∃ q, e = .returned (.bool q) ∧ CC W p c w' := by
  obtain ⟨l, b, hs⟩ := h.1
  refine (comes_any w p l b k hk hs.1).mono ?_
  rintro e w' ⟨rfl, rfl⟩
  exact ⟨_, rfl, h⟩
theorem CC.below {W w w' : World} {p c : Nat} (h : CC W p c w) (hb : Below w.heap.size w w') : CC W p c w' := by
  obtain ⟨⟨l, b, hs⟩, h2⟩ := h
  exact CC.did ⟨⟨l, b, hs⟩, h2⟩ (Did.mk (hs.below hb) (below_touch _ hb))
theorem CC.text {W w : World} {p c : Nat} {s : ByteArray} (h : CC W p c w) (hs : Txt s) : CC W p c (Lib.bytesWorld w 5 s) := by
  obtain ⟨t, rfl, _, ht⟩ := hs
  exact h.below (lx.str_lies w t ht).2.1
set_option maxHeartbeats 6400000 in
theorem takeMessage_any (W w : World) (p c : Nat) (h : CC W p c w) :
    Calls Tryz.prog 34 #[.pointer (some ⟨p, 0, none⟩), .pointer (some ⟨c, 0, none⟩)] w fun e w' => e = .returned (.tuple #[]) ∧ CC W p c w' := by
  have HD := Lib.hid h
  have hcv := fun (w' : World) (s : ByteArray) => Lib.run_convert_string_bytes (P := Tryz.prog) w' 9 22 5 s Tryz.underlying9 Tryz.underlying22 Tryz.underlying5
  clear h
  go_enter Tryz.func34, Tryz.ntmps34
  have hne : p ≠ c := by have := HD.out.2.2.1; omega
  have hne2 : c ≠ p := by omega
  go_wp2_with (first
    | (go_at_call 32; refine (box_cc W _ p c (by first | exact HD.out | exact HD.out.set _ _ rfl | exact (HD.out.set _ _ rfl).set _ _ rfl | exact HD.out.bad)).mono ?_; rintro e w1 ⟨s1, rfl, hd⟩; obtain ⟨⟨_, p1⟩, p2, p3, p4, p5, p6⟩ := hd.free; obtain ⟨v5, q5⟩ := p5 5 (by decide); have y5 := p6 5; clear HD; have HD := Lib.hid hd; clear hd p5 p6)
    | (go_at_call 48; refine (comes_cc W _ p c 3 (by decide) (by first | exact HD.out | exact HD.out.set _ _ rfl | exact (HD.out.set _ _ rfl).set _ _ rfl | exact HD.out.bad)).mono ?_; rintro e w1 ⟨q2, rfl, hd⟩; obtain ⟨⟨_, p1⟩, p2, p3, p4, p5, p6⟩ := hd.free; obtain ⟨v8, q8⟩ := p5 8 (by decide); have y8 := p6 8; obtain ⟨v11, q11⟩ := p5 11 (by decide); have y11 := p6 11; obtain ⟨v13, q13⟩ := p5 13 (by decide); have y13 := p6 13; obtain ⟨R, m, d, k0, km⟩ := hd.head; clear HD; have HD := Lib.hid hd; clear hd p5 p6)
    | (go_at_call 37; refine (flags_cc W _ p c (by first | exact HD.out | exact HD.out.set _ _ rfl | exact (HD.out.set _ _ rfl).set _ _ rfl | exact HD.out.bad)).mono ?_; rintro e w1 ⟨z3, rfl, hd⟩; obtain ⟨⟨_, p1⟩, p2, p3, p4, p5, p6⟩ := hd.free; obtain ⟨v8, q8⟩ := p5 8 (by decide); have y8 := p6 8; obtain ⟨v11, q11⟩ := p5 11 (by decide); have y11 := p6 11; obtain ⟨v13, q13⟩ := p5 13 (by decide); have y13 := p6 13; obtain ⟨R, m, d, k0, km⟩ := hd.head; clear HD; have HD := Lib.hid hd; clear hd p5 p6)
    | (go_at_call 55; refine (date_cc W _ p c (by first | exact HD.out | exact HD.out.set _ _ rfl | exact (HD.out.set _ _ rfl).set _ _ rfl | exact HD.out.bad)).mono ?_; rintro e w1 ⟨z4, rfl, hd⟩; obtain ⟨⟨_, p1⟩, p2, p3, p4, p5, p6⟩ := hd.free; obtain ⟨v12, q12⟩ := p5 12 (by decide); have y12 := p6 12; clear HD; have HD := Lib.hid hd; clear hd p5 p6)
    | (go_at_call 27; refine (take_cc W _ p c 2 (by decide) (by first | exact HD.out | exact HD.out.set _ _ rfl | exact (HD.out.set _ _ rfl).set _ _ rfl | exact HD.out.bad)).mono ?_; rintro e w1 ⟨s5, rfl, hx, hd0⟩; have hd := hd0.text hx; clear hd0; obtain ⟨⟨_, p1⟩, p2, p3, p4, p5, p6⟩ := hd.free; obtain ⟨v13, q13⟩ := p5 13 (by decide); have y13 := p6 13; clear HD; have HD := Lib.hid hd; clear hd p5 p6))
  all_goals go_end0
  all_goals exact ⟨rfl, HD.out.set _ _ rfl⟩
end Go.Proofs.YtbhpgghbpibalaaGreatDoor.par
