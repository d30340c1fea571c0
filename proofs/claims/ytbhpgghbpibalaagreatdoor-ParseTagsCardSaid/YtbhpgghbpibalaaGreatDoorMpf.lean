/- Flags, several items, keys. -/
import Derived.Test.YtbhpgghbpibalaaGreatDoorMpe
namespace Go.Proofs.YtbhpgghbpibalaaGreatDoor.par
open Go.ChangeShapes Go.WideShapes Go.ChangeAt Go.RowKit
open Go.Proofs.YtbhpgghbpibalaaGreatDoor.codec (Bytes vals)
open Go.Proofs.YtbhpgghbpibalaaGreatDoor.row
open Go.Proofs.YtbhpgghbpibalaaGreatDoor.lx (Tk cT fT Fit tok_at octs Sl Room own_slice)
set_option linter.unusedVariables false
set_option maxRecDepth 100000
set_option linter.unusedSimpArgs false

def cS (s : ByteArray) : List Value := [.string s]
theorem fS : Fm cS 1 := ⟨fun _ => rfl, fun y u hu => by simp [cS] at hu; subst hu; rfl⟩
theorem infoS : (Tryz.prog.info? 9).map (fun i => (i.zero, i.size, i.bytes)) = some (some (.string ⟨#[]⟩), 1, 16) := by kernel_rfl
def cI (y : Int × Bool) : List Value := [.int .i64 y.1, .bool y.2]
theorem fI : Fm cI 2 := ⟨fun _ => rfl, fun y u hu => by simp [cI] at hu; rcases hu with rfl | rfl <;> rfl⟩
theorem infoI : (Tryz.prog.info? 87).map (fun i => (i.zero, i.size, i.bytes)) = some (some (.agg #[.int .i64 0, .bool false]), 2, 16) := by kernel_rfl
/-- What grows a row of the call's own touches that row alone. -/
theorem grown_touch {w w' : World} {v : Value} (hg : w.grownBy w' v.ownBlock) : codec.Touch (fun i => v.ownBlock = some i) w w' :=
  ⟨hg.os, hg.tape, hg.output, hg.size, fun k hk h => hg.block k hk (fun e => h e.symm)⟩
/-- What has been gathered since W, beside the reader. -/
def Gat {α : Type} (F : α → List Value) (K : Nat) (E : TypeId) (W : World) (p : Nat) (l : List Tk) (bad : Bool) (acc : List α) (v : Value) (w : World) : Prop :=
  p < W.heap.size ∧ ST w p l bad ∧ codec.Touch (· = p) W w ∧ Own F K W.heap.size E w v acc ∧ acc.length ≤ 500
theorem Gat.step {α : Type} {F : α → List Value} {K : Nat} {E : TypeId} {W : World} {p : Nat} {l l' : List Tk} {bad b' : Bool} {acc : List α} {v : Value} {w w' : World} (h : Gat F K E W p l bad acc v w) (hs : ST w' p l' b') (ht : codec.Touch (· = p) w w') : Gat F K E W p l' b' acc v w' :=
  ⟨h.1, hs, touch_trans h.2.2.1 ht, h.2.2.2.1.touch ht (fun g hg e => by have := (h.2.2.2.1.lt hg).1; have := h.1; omega), h.2.2.2.2⟩
theorem Gat.below {α : Type} {F : α → List Value} {K : Nat} {E : TypeId} {W : World} {p : Nat} {l : List Tk} {bad : Bool} {acc : List α} {v : Value} {w w' : World} (h : Gat F K E W p l bad acc v w) (hb : Below w.heap.size w w') : Gat F K E W p l bad acc v w' :=
  ⟨h.1, h.2.1.below hb, h.2.2.1.below hb, h.2.2.2.1.below hb, h.2.2.2.2⟩
theorem Gat.grown {α : Type} {F : α → List Value} {K : Nat} {E : TypeId} {W : World} {p : Nat} {l : List Tk} {bad : Bool} {acc acc' : List α} {v v' : Value} {w w' : World} (h : Gat F K E W p l bad acc v w) (ho : Own F K W.heap.size E w' v' acc') (hg : w.grownBy w' v.ownBlock) (hl : acc'.length ≤ 500) : Gat F K E W p l bad acc' v' w' := by
  have hp := h.1
  have ht := grown_touch hg
  refine ⟨h.1, h.2.1.touch ht (fun i hi e => ?_), h.2.2.1.trans (ht.mono fun i hi e => .inr ?_), ho, hl⟩
  · have := (h.2.2.2.1.lt e).1
    omega
  · exact (h.2.2.2.1.lt e).1
/-- A slice of texts that was gathered, as layer 8 reads it. -/
theorem own_strs {B : Nat} {w : World} {v : Value} {ys : List ByteArray} (h : Own cS 1 B 9 w v ys) (hy : ∀ s ∈ ys, s.size ≤ 3000) : flg.Strs w v ys.length 3000 (fun j => ys.getD j ⟨#[]⟩) := by
  obtain ⟨A, c, rfl, hc, h0, hR⟩ := h.rd fS
  refine ⟨A, c, rfl, fun hn => ?_⟩
  obtain ⟨b, o, y, h1, h2, h3⟩ := hR.2 0 hn
  refine ⟨b, o, h1, ?_, fun j hj => ?_⟩
  · have := h3 0 _ rfl
    exact block_lt_of_cell this
  · obtain ⟨b1, o1, y1, k1, k2, k3⟩ := hR.2 j hj
    rw [h1] at k1
    cases k1
    have := k3 0 _ rfl
    rw [Nat.mul_one, Nat.add_zero] at this
    have e : ys.getD j ⟨#[]⟩ = y1 := by simp [List.getD, k2]
    simp only [e]
    exact ⟨this, hy y1 (List.mem_of_getElem? k2)⟩
def FL (W : World) (p : Nat) (l : List Tk) (bad : Bool) (acc : List ByteArray) (v : Value) (w : World) : Prop := Gat cS 1 9 W p l bad acc v w ∧ (∀ s ∈ acc, s.size ≤ 3000) ∧ acc.length + l.length ≤ 400
set_option maxHeartbeats 6400000 in
theorem flags_any (w : World) (p : Nat) (l : List Tk) (bad : Bool) (h : ST w p l bad) :
    Calls Tryz.prog 37 #[.pointer (some ⟨p, 0, none⟩)] w fun e w' => ∃ z, e = .returned (.int .i64 z) ∧ Did w p w' := by
  have HT := Lib.hid (take_any w p l bad 3 (by decide) h.1)
  have HS := Lib.hid h
  have HP := Lib.hid h.1.lt
  have HLN := Lib.hid (show (takeL l bad 3).length ≤ 200 from Nat.le_trans (takeL_le l bad 3) h.1.short)
  clear h
  go_enter Tryz.func37, Tryz.ntmps37
  go_wp2_with (go_at_call 27; refine HT.out.mono ?_; rintro e w1 ⟨rfl, hr, ht⟩; have HF := Lib.hid (show FL w p (takeL l bad 3) (!comesB l bad 3) [] (.slice none 0 0) w1 from ⟨⟨HP.out, HS.out.move hr ht, ht, Own.nil _ _ _ _ _, by simp⟩, by simp, by have := HLN.out; simp; omega⟩); clear hr ht)
  go_loopw [3] (fun v wr => ∃ (l : List Tk) (b : Bool) (acc : List ByteArray), Hid (FL w p l b acc v wr)) (fun _ wr => restLen wr p)
  case atStart => exact ⟨_, _, _, HF⟩
  case round =>
    obtain ⟨l1, b1, acc, HF1⟩ := hrel
    have HS1 := Lib.hid HF1.out.1.2.1
    cases hc : comesB l1 b1 1
    · have HC := Lib.hid (comes_any _ p l1 b1 1 (by decide) HS1.out.1)
      rw [hc] at HC
      clear hc
      have HT4 := Lib.hid (take_any _ p l1 b1 4 (by decide) HS1.out.1)
      go_wp2_with (first
        | (go_at_call 48; refine HC.out.mono ?_; rintro e w2 ⟨rfl, hw⟩; replace hw := hw.symm; subst hw)
        | (go_at_call 27; refine HT4.out.mono ?_; rintro e w2 ⟨rfl, hr, ht⟩; have HF2 := Lib.hid (HF1.out.1.step (HS1.out.move hr ht) ht); clear hr ht)
        | (go_at_call 58; refine (flg.parse_any _ u3 acc.length 3000 _ (Nat.le_trans HF2.out.2.2.2.2 (by decide)) (own_strs HF2.out.2.2.2.1 HF1.out.2.1) HF2.out.2.1.env.tab).mono ?_; rintro e w3 ⟨rfl, hb⟩; have HF3 := Lib.hid (HF2.out.below hb); clear hb)
        | (go_at_call 28; refine (must_any _ p _ _ _ HF3.out.2.1.1).mono ?_; rintro e w4 ⟨rfl, hr3, ht3⟩; have HD := Lib.hid (Did.must HF3.out.2.1 HF3.out.2.2.1 hr3 ht3); clear hr3 ht3))
      go_ret
      exact ⟨_, rfl, HD.out⟩
    · have HC := Lib.hid (comes_any _ p l1 b1 1 (by decide) HS1.out.1)
      have HLess := Lib.hid (takeL_less hc)
      have HRest := Lib.hid HS1.out.1.rest
      rw [hc] at HC
      clear hc
      have HT4 := Lib.hid (take_any _ p l1 b1 1 (by decide) HS1.out.1)
      have HX := Lib.hid (show (lx.strOf (takeT l1 b1 1)).size ≤ 3000 by rw [lx.strOf_size]; exact (takeT_fit (bad := b1) (k := 1) HS1.out.1.fit).1)
      have HL := Lib.hid (show acc.length ≤ 20000000 from Nat.le_trans HF1.out.1.2.2.2.2 (by decide))
      go_wp2_with (first
        | (go_at_call 48; refine HC.out.mono ?_; rintro e w2 ⟨rfl, hw⟩; replace hw := hw.symm; subst hw)
        | (go_at_call 27; refine HT4.out.mono ?_; rintro e w2 ⟨rfl, hr, ht⟩; have HF2 := Lib.hid (HF1.out.1.step (HS1.out.move hr ht) ht); clear hr ht)
        | (at_builtin; refine row.wpList_append_own fS (by decide) (by decide) (by_ := 16) (by decide) (z := .string ⟨#[]⟩) rfl rfl (.tmp 10) (.tmp 13) 90 9 rfl Tryz.underlying90 infoS w.heap.size u3 acc rfl HF2.out.2.2.2.1 HF2.out.2.2.1.2.2.2.1 HL.out (lx.strOf (takeT l1 b1 1)) (0, 0) _ (by simp) rfl _ rfl ?_; intro v1 w3 ho hg h3; have HF3 := Lib.hid (show FL w p (takeL l1 b1 1) (!comesB l1 b1 1) (acc ++ [lx.strOf (takeT l1 b1 1)]) v1 w3 from ⟨HF2.out.grown ho hg (by have := HF1.out.2.2; rw [List.length_append]; simp; omega), fun s hs => by
            rcases List.mem_append.1 hs with h | h
            · exact HF1.out.2.1 s h
            · rw [List.mem_singleton.1 h]; exact HX.out, by have := HF1.out.2.2; have := HLess.out; rw [List.length_append]; simp; omega⟩); clear ho hg h3))
      go_roundw
      case rel => first | exact ⟨_, _, _, HF3⟩ | ((repeat apply Exists.intro); exact ⟨⟨_, _, _, HF3⟩, rfl⟩)
      case measure => (show restLen _ p < restLen wr p; rw [HRest.out, HF3.out.1.2.1.1.rest]; have := HLess.out; omega)
end Go.Proofs.YtbhpgghbpibalaaGreatDoor.par
