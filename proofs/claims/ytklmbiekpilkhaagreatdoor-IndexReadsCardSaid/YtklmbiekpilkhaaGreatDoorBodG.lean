/- How a payload is decoded. -/
import Derived.Test.YtklmbiekpilkhaaGreatDoorBodE
namespace Go.Proofs.YtklmbiekpilkhaaGreatDoor.bod
open Go.ChangeShapes Go.WideShapes Go.ChangeAt Go.RowKit
open Go.Proofs.YtklmbiekpilkhaaGreatDoor.codec (Bytes bytesOf bytesOf_length strOf strOf_size numOf)
open Go.Proofs.YtklmbiekpilkhaaGreatDoor.rd
set_option linter.unusedVariables false
set_option linter.unusedSimpArgs false
set_option maxRecDepth 100000

/-- A reader at q that has L left, and a note at b. -/
def Dc (W : World) (q g : Nat) (L : Option (List Nat)) (b : Nat) (cs : Array Value) (w : World) : Prop :=
  Rd W q g L w ∧ w.heap[b]? = some (.cells cs 100 (0, 0)) ∧ b ≠ q ∧ b ≠ g ∧ W.heap.size ≤ b
theorem Dc.lt {W w : World} {q g b : Nat} {L : Option (List Nat)} {cs : Array Value} (h : Dc W q g L b cs w) : b < w.heap.size := (Array.getElem?_eq_some_iff.1 h.2.1).1
theorem Dc.touch {W w w' : World} {q g b : Nat} {L L' : Option (List Nat)} {cs : Array Value} (h : Dc W q g L b cs w) (hR : Rd W q g L' w') (ht : codec.Touch (fun i => i = q) w w') : Dc W q g L' b cs w' :=
  ⟨hR, (ht.2.2.2.2 b h.lt h.2.2.1).trans h.2.1, h.2.2⟩
theorem Dc.below {W w w' : World} {q g b : Nat} {L : Option (List Nat)} {cs : Array Value} (h : Dc W q g L b cs w) (hb : Below w.heap.size w w') : Dc W q g L b cs w' :=
  ⟨h.1.below hb, (hb.block b h.lt).trans h.2.1, h.2.2⟩
theorem rd_other {W w : World} {q g b : Nat} {L : Option (List Nat)} (h : Rd W q g L w) (h1 : b ≠ q) (h2 : b ≠ g) (h3 : W.heap.size ≤ b) (i : Nat) (v : Value) : Rd W q g L (w.setCell ⟨b, i, none⟩ v) := by
  obtain ⟨k1, k2, k3, k4, k5⟩ := h
  refine ⟨?_, k2, by simpa using k3, by simpa using k4, k5.setCell (p := ⟨b, i, none⟩) h3 v⟩
  have e1 : (w.setCell ⟨b, i, none⟩ v).heap[q]? = w.heap[q]? := heap_setCell_other _ _ _ _ (Ne.symm h1)
  have e2 : (w.setCell ⟨b, i, none⟩ v).heap[g]? = w.heap[g]? := heap_setCell_other _ _ _ _ (Ne.symm h2)
  cases L with
  | none => exact e1.trans k1
  | some l =>
    obtain ⟨o, c, hi, hc⟩ := k1
    exact ⟨o, c, hi.kept e1 e2, hc⟩
theorem Dc.set {W w : World} {q g b : Nat} {L : Option (List Nat)} {cs cs' : Array Value} (h : Dc W q g L b cs w) (i : Nat) (v : Value) (hc : cs.setIfInBounds i v = cs') : Dc W q g L b cs' (w.setCell ⟨b, i, none⟩ v) :=
  ⟨rd_other h.1 h.2.2.1 h.2.2.2.1 h.2.2.2.2 i v, by rw [heap_setCell_same _ _ _ _ _ _ h.2.1, hc], h.2.2⟩
theorem Dc.cell {W w : World} {q g b : Nat} {L : Option (List Nat)} {cs : Array Value} (h : Dc W q g L b cs w) (i : Nat) (v : Value) (hv : cs[i]? = some v) : w.cell? ⟨b, i, none⟩ = some v := cell_at h.2.1 i v hv
theorem Dc.froz {W w : World} {q g b : Nat} {L : Option (List Nat)} {cs : Array Value} (h : Dc W q g L b cs w) (i : Nat) : w.frozen? ⟨b, i, none⟩ = false := frozen_of_row w b i cs _ h.2.1
theorem dc_N {W w : World} {q g b : Nat} {L : Option (List Nat)} {cs : Array Value} (h : Dc W q g L b cs w) (s : Nat) (h1 : 1 ≤ s) (h7 : s ≤ 7) :
    Calls Tryz.prog 18 #[.pointer (some ⟨q, 0, none⟩), .int .i64 s] w fun e w' => e = .returned (.int .i64 (numOf (got s L) : Nat)) ∧ Dc W q g (rest s L) b cs w' :=
  (rd_N h.1 s h1 h7).mono fun _ _ ⟨he, hR, ht⟩ => ⟨he, h.touch hR ht⟩
theorem dc_Text {W w : World} {q g b : Nat} {L : Option (List Nat)} {cs : Array Value} (h : Dc W q g L b cs w) :
    Calls Tryz.prog 17 #[.pointer (some ⟨q, 0, none⟩)] w fun e w' => e = .returned (.string (TX L)) ∧ Dc W q g (LT L) b cs w' :=
  (rd_Text h.1).mono fun _ _ ⟨he, hR, w1, t1, t2⟩ => ⟨he, hR, ((t2.2.2.2.2 b (Nat.lt_of_lt_of_le h.lt t1.2.2.2.1) h.2.2.1).trans (t1.2.2.2.2 b h.lt h.2.2.1)).trans h.2.1, h.2.2⟩
theorem dc_Left {W w : World} {q g b : Nat} {L : Option (List Nat)} {cs : Array Value} (h : Dc W q g L b cs w) :
    Calls Tryz.prog 63 #[.pointer (some ⟨q, 0, none⟩)] w fun e w' => e = .returned (.int .i64 (leftN L : Nat)) ∧ w = w' := rd_Left h.1
theorem dc_Raw {W w : World} {q g b : Nat} {L : Option (List Nat)} {cs : Array Value} (h : Dc W q g L b cs w) (s : Nat) (hl : ∀ l, L = some l → ∀ b ∈ l, b < 256) :
    Calls Tryz.prog 62 #[.pointer (some ⟨q, 0, none⟩), .int .i64 s] w fun e w' => ∃ g' m, m = (got s L).length ∧ e = .returned (.slice (some ⟨g', 0, none⟩) m m) ∧ b < g' ∧ W.heap.size ≤ g' ∧ Bytes w' (some ⟨g', 0, none⟩) m (got s L) ∧ Dc W q g (rest s L) b cs w' :=
  (rd_Raw h.1 s hl).mono fun _ _ ⟨g', m, hm, he, hg, hB, hR, ht⟩ => ⟨g', m, hm, he, Nat.lt_of_lt_of_le h.lt hg, Nat.le_trans h.2.2.2.2 (Nat.le_trans (Nat.le_of_lt h.lt) hg), hB, h.touch hR ht⟩
theorem dc_Done {W w : World} {q g b : Nat} {L : Option (List Nat)} {cs : Array Value} (h : Dc W q g L b cs w) :
    Calls Tryz.prog 20 #[.pointer (some ⟨q, 0, none⟩)] w fun e w' => e = .returned (.bool (decide (L = some []))) ∧ w = w' := rd_Done h.1
theorem dc_start {W w : World} {q g : Nat} {L : Option (List Nat)} (h : Rd W q g L w) (cs : Array Value) : Dc W q g L w.heap.size cs (w.alloc (.cells cs 100)) :=
  ⟨h.alloc _, heap_alloc_new w _, by have := h.2.2.1; omega, by have := h.2.2.2.1; omega, h.bel.size⟩
theorem results_note {P : Program} {fn : Func} {p q : Tmp} {ty : TypeId} (h : fn.results = #[.cell p ty, .tmp q]) (tmps : Array Value) (w : World) (g : Nat) (t : TypeId) (cs : Array Value) (fr : Nat × Nat) (d : TypeDesc)
    (hp : tmps.getD p undef = .pointer (some ⟨g, 0, none⟩)) (hg : w.heap[g]? = some (.cells cs t fr))
    (hu : P.underlying ty = some d) (hd : (match d with | .struct _ | .array _ _ => true | _ => false) = true) (hi : (P.info? ty).map (·.size) = some cs.size) :
    (results fn tmps).run P w = .ok (.tuple #[.agg cs, tmps.getD q undef]) w := by
  have hp' : tmps[p]?.getD undef = .pointer (some ⟨g, 0, none⟩) := by simpa using hp
  simp [results, h, hp', asAddr, run_loadVar_row w g t ty cs fr d hg hu hd hi]
theorem below_row {B g : Nat} {a w : World} (h : Below B a w) (hg : B ≤ g) (cs : Array Value) : Below B a (w.setRow g cs) :=
  h.trans ⟨rfl, rfl, rfl, by simp, fun k hk => by simp only [World.setRow, Array.getElem?_modify]; rw [if_neg (by omega)]⟩
theorem tx_size {M : Option (List Nat)} (hM : ∀ l, M = some l → ∀ b ∈ l, b < 256) : (TX M).size ≤ 65535 := by
  unfold TX
  rw [strOf_size]
  have h1 := got_len (numOf (got 2 M)) (rest 2 M)
  have h2 := got_num (k := 2) hM
  omega
/-- The cells of a note. -/
def zeroN : Array Value := #[.int .i64 0, .int .u32 0, .string ⟨#[]⟩, .int .u32 0, .int .i64 0, .int .i64 0, .slice none 0 0]
theorem noteSize (cs : Array Value) (h : cs.size = 7) : (Tryz.prog.info? 100).map (·.size) = some cs.size := by
  rw [h]
  kernel_rfl
theorem rd_ep {W w : World} {q g : Nat} {L : List Nat} (h : Rd W q g (some L) w) :
    Calls Tryz.prog 18 #[.pointer (some ⟨q, 0, none⟩), .int .i64 (4 : Nat)] w fun e w' => e = .returned (.int .i64 (epN L : Nat)) ∧ Rd W q g (LA L) w' :=
  (rd_N h 4 (by decide) (by decide)).mono fun _ _ ⟨a, b, _⟩ => ⟨a, b⟩
theorem dc_uid {W w : World} {q g b : Nat} {L : List Nat} {cs : Array Value} (h : Dc W q g (LA L) b cs w) :
    Calls Tryz.prog 18 #[.pointer (some ⟨q, 0, none⟩), .int .i64 (4 : Nat)] w fun e w' => e = .returned (.int .i64 (uidN L : Nat)) ∧ Dc W q g (LU L) b cs w' := dc_N h 4 (by decide) (by decide)
theorem dc_dat {W w : World} {q g b : Nat} {L : List Nat} {cs : Array Value} (h : Dc W q g (LU L) b cs w) :
    Calls Tryz.prog 18 #[.pointer (some ⟨q, 0, none⟩), .int .i64 (6 : Nat)] w fun e w' => e = .returned (.int .i64 (datN L : Nat)) ∧ Dc W q g (LD L) b cs w' := dc_N h 6 (by decide) (by decide)
theorem dc_fla {W w : World} {q g b : Nat} {L : List Nat} {cs : Array Value} (h : Dc W q g (LD L) b cs w) :
    Calls Tryz.prog 18 #[.pointer (some ⟨q, 0, none⟩), .int .i64 (1 : Nat)] w fun e w' => e = .returned (.int .i64 (flaN L : Nat)) ∧ Dc W q g (LF L) b cs w' := dc_N h 1 (by decide) (by decide)
theorem seven {w : World} {g : Nat} {t : TypeId} {cs : Array Value} (h : w.heap[g]? = some (.cells cs t (0, 0))) (hs : cs.size = 7) (v0 v1 v2 v3 v4 v5 v6 : Value) :
    (((((((w.setCell ⟨g, 0, none⟩ v0).setCell ⟨g, 1, none⟩ v1).setCell ⟨g, 2, none⟩ v2).setCell ⟨g, 3, none⟩ v3).setCell ⟨g, 4, none⟩ v4).setCell ⟨g, 5, none⟩ v5).setCell ⟨g, 6, none⟩ v6).heap[g]? = some (.cells #[v0, v1, v2, v3, v4, v5, v6] t (0, 0)) ∧
    (∀ k, k ≠ g → (((((((w.setCell ⟨g, 0, none⟩ v0).setCell ⟨g, 1, none⟩ v1).setCell ⟨g, 2, none⟩ v2).setCell ⟨g, 3, none⟩ v3).setCell ⟨g, 4, none⟩ v4).setCell ⟨g, 5, none⟩ v5).setCell ⟨g, 6, none⟩ v6).heap[k]? = w.heap[k]?) ∧
    ∀ (B : Nat) (a : World), Below B a w → B ≤ g → Below B a (((((((w.setCell ⟨g, 0, none⟩ v0).setCell ⟨g, 1, none⟩ v1).setCell ⟨g, 2, none⟩ v2).setCell ⟨g, 3, none⟩ v3).setCell ⟨g, 4, none⟩ v4).setCell ⟨g, 5, none⟩ v5).setCell ⟨g, 6, none⟩ v6) := by
  refine ⟨?_, fun k hk => by rw [heap_setCell_other _ _ _ _ hk, heap_setCell_other _ _ _ _ hk, heap_setCell_other _ _ _ _ hk, heap_setCell_other _ _ _ _ hk, heap_setCell_other _ _ _ _ hk, heap_setCell_other _ _ _ _ hk, heap_setCell_other _ _ _ _ hk], fun B a hb hg => ((((((hb.setCell (p := ⟨g, 0, none⟩) hg _).setCell (p := ⟨g, 1, none⟩) hg _).setCell (p := ⟨g, 2, none⟩) hg _).setCell (p := ⟨g, 3, none⟩) hg _).setCell (p := ⟨g, 4, none⟩) hg _).setCell (p := ⟨g, 5, none⟩) hg _).setCell (p := ⟨g, 6, none⟩) hg _⟩
  rw [heap_setCell_same _ g 6 _ t _ (heap_setCell_same _ g 5 _ t _ (heap_setCell_same _ g 4 _ t _ (heap_setCell_same _ g 3 _ t _ (heap_setCell_same _ g 2 _ t _ (heap_setCell_same _ g 1 _ t _ (heap_setCell_same _ g 0 _ t _ h))))))]
  obtain ⟨l⟩ := cs
  have hl : l.length = 7 := hs
  match l, hl with
  | [a0, a1, a2, a3, a4, a5, a6], _ => rfl
/-- What Decode answers. -/
def tup (b : Bool) (cs : Array Value) : Value := if b then .tuple #[.agg cs, .int .i64 0] else .tuple #[.agg zeroN, .int .i64 2]
theorem octs_set {W w : World} {q g b : Nat} {L : Option (List Nat)} {cs : Array Value} (h : Dc W q g L b cs w) {g' m : Nat} {l : List Nat} (hg : b < g') (hB : Bytes w (some ⟨g', 0, none⟩) m l) (i : Nat) (v : Value) : Bytes (w.setCell ⟨b, i, none⟩ v) (some ⟨g', 0, none⟩) m l :=
  hB.kept fun ad e hn => by cases e; exact heap_setCell_other _ _ _ _ (by show g' ≠ b; omega)
set_option maxHeartbeats 1000000 in
theorem decode1 (W : World) (A : Option Addr) (n c : Nat) (L : List Nat) (hB : Bytes W A n L) (hn : n ≤ 100000) (hr : Fit W) :
    Calls Tryz.prog 36 #[.int .i64 1, .slice A n c] W fun x w' => x = .returned (tup (ok1 L) #[.int .i64 1, .int .u32 (epN L), .string (TX (LA L)), .int .u32 0, .int .i64 0, .int .i64 0, .slice none 0 0]) ∧ Below W.heap.size W w' := by
  obtain ⟨W1, hW1⟩ : ∃ W1, W1 = W.alloc (.cells zeroN 100) := ⟨_, rfl⟩
  have HBW := Lib.hid (show Below W.heap.size W W1 by rw [hW1]; exact (Below.refl _ _).alloc (Nat.le_refl _) _)
  have HWS := Lib.hid (show W.heap.size < W1.heap.size by rw [hW1]; simp)
  have HRC := Lib.hid (fun (w1 : World) (h : Below W1.heap.size W1 w1) => (boxed (w := W) (o := .cells zeroN 100) (w1 := w1) (by rw [← hW1]; exact h)).1)
  have HFit := Lib.hid (fun (w1 : World) (h : Below W1.heap.size W1 w1) => hr.below (HBW.out.trans (h.mono HBW.out.size)))
  have HNW := Lib.hid (rd_new W1 A n c L (hB.below hB.lt HBW.out) (by omega))
  have hb := hB.2.1
  have HL := Lib.hid hb
  have HEP := Lib.hid (ep_lt hb)
  have HW1 := Lib.hid hW1
  have HOK : Hid (ok1 L = (decide (LT (LA L) = some []) && formedB 1 (epN L) (TX (LA L)) 0 0 0 0)) := rfl
  have hTX := tx_size (ltLA hb)
  have hF := fun w hr => formed_any w 1 (epN L) 0 (TX (LA L)) 0 0 none 0 0 (by omega) hr
  have HF := Lib.hid hF
  clear hW1 hB hn hr hb hF hTX
  go_enter Tryz.func36, Tryz.ntmps36
  go_wp2_with fail
  rw [show (#[.int .i64 0, .int .u32 0, .string ⟨#[]⟩, .int .u32 0, .int .i64 0, .int .i64 0, .slice none 0 0] : Array Value) = zeroN from rfl, ← HW1.out]
  refine HNW.out.mono ?_
  rintro x w1 ⟨q, g, rfl, hR1⟩
  have HR1 := Lib.hid hR1
  clear hR1 HNW
  go_wp2_with fail
  refine (rd_ep HR1.out).mono ?_
  rintro x w2 ⟨rfl, hR2⟩
  have HR2 := Lib.hid hR2
  have he := IntWalk.u32_in (epN L : Nat) (by have := HEP.out; omega)
  clear hR2 HR1
  go_wp2_with fail
  have HD2 := Lib.hid (dc_start HR2.out #[.int .i64 1, .int .u32 (epN L), .string ⟨#[]⟩, .int .u32 0, .int .i64 0, .int .i64 0, .slice none 0 0])
  refine (dc_Text HD2.out).mono ?_
  rintro x w3 ⟨rfl, hD3⟩
  have HD3 := Lib.hid hD3
  generalize w2.heap.size = b at *
  have e2 := HD3.out.cell 2 _ rfl
  have f2 := HD3.out.froz 2
  clear hD3 HD2 he HR2
  go_wp2_with fail
  have HD4 := Lib.hid (HD3.out.set 2 (.string (TX (LA L))) rfl)
  generalize w3.setCell ⟨b, 2, none⟩ (.string (TX (LA L))) = w4 at *
  clear HD3 e2 f2
  have HDn := Lib.hid (dc_Done HD4.out)
  have HK := HOK.out
  clear HOK
  generalize decide (LT (LA L) = some []) = DD at *
  generalize formedB 1 (epN L) (TX (LA L)) 0 0 0 0 = FF at *
  generalize htx : TX (LA L) = tx at *
  have Etx := Lib.hid htx
  clear htx
  generalize hep : epN L = ep at *
  have Eep := Lib.hid hep
  clear hep
  have HK := Lib.hid HK
  refine HDn.out.mono ?_
  rintro x w9 ⟨rfl, rfl⟩
  clear HDn
  cases DD
  · · clear HF
      have r0 := cell_at (HRC.out _ HD4.out.1.bel) 0 _ rfl
      have s0 := frozen_of_row _ _ 0 _ _ (HRC.out _ HD4.out.1.bel)
      have r1 := cell_at (HRC.out _ HD4.out.1.bel) 1 _ rfl
      have s1 := frozen_of_row _ _ 1 _ _ (HRC.out _ HD4.out.1.bel)
      have r2 := cell_at (HRC.out _ HD4.out.1.bel) 2 _ rfl
      have s2 := frozen_of_row _ _ 2 _ _ (HRC.out _ HD4.out.1.bel)
      have r3 := cell_at (HRC.out _ HD4.out.1.bel) 3 _ rfl
      have s3 := frozen_of_row _ _ 3 _ _ (HRC.out _ HD4.out.1.bel)
      have r4 := cell_at (HRC.out _ HD4.out.1.bel) 4 _ rfl
      have s4 := frozen_of_row _ _ 4 _ _ (HRC.out _ HD4.out.1.bel)
      have r5 := cell_at (HRC.out _ HD4.out.1.bel) 5 _ rfl
      have s5 := frozen_of_row _ _ 5 _ _ (HRC.out _ HD4.out.1.bel)
      have r6 := cell_at (HRC.out _ HD4.out.1.bel) 6 _ rfl
      have s6 := frozen_of_row _ _ 6 _ _ (HRC.out _ HD4.out.1.bel)
      go_wp2_with fail
      have h7 := seven (HRC.out _ HD4.out.1.bel) rfl (.int .i64 0) (.int .u32 0) (.string ⟨#[]⟩) (.int .u32 0) (.int .i64 0) (.int .i64 0) (.slice none 0 0)
      exact bodyPost_ret (results_note Tryz.results36 _ _ W.heap.size _ _ _ _ rfl h7.1 Tryz.underlying100 rfl (noteSize _ rfl)) rfl ⟨by rw [show ok1 L = false from HK.out]; rfl, h7.2.2 _ _ (HBW.out.trans (HD4.out.1.bel.mono HBW.out.size)) (Nat.le_refl _)⟩
  · cases FF
    · --A
      have c0 := HD4.out.cell 0 _ rfl
      have c1 := HD4.out.cell 1 _ rfl
      have c2 := HD4.out.cell 2 _ rfl
      have c3 := HD4.out.cell 3 _ rfl
      have c4 := HD4.out.cell 4 _ rfl
      have c5 := HD4.out.cell 5 _ rfl
      have c6 := HD4.out.cell 6 _ rfl
      go_wp2_with (go_at_call 64; refine (HF.out _ (HFit.out _ HD4.out.1.bel)).mono ?_; rintro x w5 ⟨rfl, hb5⟩; have HD5 := Lib.hid (HD4.out.below hb5); clear hb5 c0 c1 c2 c3 c4 c5 c6; have r0 := cell_at (HRC.out _ HD5.out.1.bel) 0 _ rfl; have s0 := frozen_of_row _ _ 0 _ _ (HRC.out _ HD5.out.1.bel); have r1 := cell_at (HRC.out _ HD5.out.1.bel) 1 _ rfl; have s1 := frozen_of_row _ _ 1 _ _ (HRC.out _ HD5.out.1.bel); have r2 := cell_at (HRC.out _ HD5.out.1.bel) 2 _ rfl; have s2 := frozen_of_row _ _ 2 _ _ (HRC.out _ HD5.out.1.bel); have r3 := cell_at (HRC.out _ HD5.out.1.bel) 3 _ rfl; have s3 := frozen_of_row _ _ 3 _ _ (HRC.out _ HD5.out.1.bel); have r4 := cell_at (HRC.out _ HD5.out.1.bel) 4 _ rfl; have s4 := frozen_of_row _ _ 4 _ _ (HRC.out _ HD5.out.1.bel); have r5 := cell_at (HRC.out _ HD5.out.1.bel) 5 _ rfl; have s5 := frozen_of_row _ _ 5 _ _ (HRC.out _ HD5.out.1.bel); have r6 := cell_at (HRC.out _ HD5.out.1.bel) 6 _ rfl; have s6 := frozen_of_row _ _ 6 _ _ (HRC.out _ HD5.out.1.bel))
      have h7 := seven (HRC.out _ HD5.out.1.bel) rfl (.int .i64 0) (.int .u32 0) (.string ⟨#[]⟩) (.int .u32 0) (.int .i64 0) (.int .i64 0) (.slice none 0 0)
      exact bodyPost_ret (results_note Tryz.results36 _ _ W.heap.size _ _ _ _ rfl h7.1 Tryz.underlying100 rfl (noteSize _ rfl)) rfl ⟨by rw [show ok1 L = false from HK.out]; rfl, h7.2.2 _ _ (HBW.out.trans (HD5.out.1.bel.mono HBW.out.size)) (Nat.le_refl _)⟩
    · --B
      have c0 := HD4.out.cell 0 _ rfl
      have c1 := HD4.out.cell 1 _ rfl
      have c2 := HD4.out.cell 2 _ rfl
      have c3 := HD4.out.cell 3 _ rfl
      have c4 := HD4.out.cell 4 _ rfl
      have c5 := HD4.out.cell 5 _ rfl
      have c6 := HD4.out.cell 6 _ rfl
      go_wp2_with (go_at_call 64; refine (HF.out _ (HFit.out _ HD4.out.1.bel)).mono ?_; rintro x w5 ⟨rfl, hb5⟩; have HD5 := Lib.hid (HD4.out.below hb5); clear hb5 c0 c1 c2 c3 c4 c5 c6; have c0 := HD5.out.cell 0 _ rfl; have c1 := HD5.out.cell 1 _ rfl; have c2 := HD5.out.cell 2 _ rfl; have c3 := HD5.out.cell 3 _ rfl; have c4 := HD5.out.cell 4 _ rfl; have c5 := HD5.out.cell 5 _ rfl; have c6 := HD5.out.cell 6 _ rfl; have r0 := cell_at (HRC.out _ HD5.out.1.bel) 0 _ rfl; have s0 := frozen_of_row _ _ 0 _ _ (HRC.out _ HD5.out.1.bel); have r1 := cell_at (HRC.out _ HD5.out.1.bel) 1 _ rfl; have s1 := frozen_of_row _ _ 1 _ _ (HRC.out _ HD5.out.1.bel); have r2 := cell_at (HRC.out _ HD5.out.1.bel) 2 _ rfl; have s2 := frozen_of_row _ _ 2 _ _ (HRC.out _ HD5.out.1.bel); have r3 := cell_at (HRC.out _ HD5.out.1.bel) 3 _ rfl; have s3 := frozen_of_row _ _ 3 _ _ (HRC.out _ HD5.out.1.bel); have r4 := cell_at (HRC.out _ HD5.out.1.bel) 4 _ rfl; have s4 := frozen_of_row _ _ 4 _ _ (HRC.out _ HD5.out.1.bel); have r5 := cell_at (HRC.out _ HD5.out.1.bel) 5 _ rfl; have s5 := frozen_of_row _ _ 5 _ _ (HRC.out _ HD5.out.1.bel); have r6 := cell_at (HRC.out _ HD5.out.1.bel) 6 _ rfl; have s6 := frozen_of_row _ _ 6 _ _ (HRC.out _ HD5.out.1.bel))
      have h7 := seven (HRC.out _ HD5.out.1.bel) rfl (.int .i64 1) (.int .u32 ep) (.string tx) (.int .u32 0) (.int .i64 0) (.int .i64 0) (.slice none 0 0)
      exact bodyPost_ret (results_note Tryz.results36 _ _ W.heap.size _ _ _ _ rfl h7.1 Tryz.underlying100 rfl (noteSize _ rfl)) rfl ⟨by rw [show ok1 L = true from HK.out, Etx.out, Eep.out]; rfl, h7.2.2 _ _ (HBW.out.trans (HD5.out.1.bel.mono HBW.out.size)) (Nat.le_refl _)⟩
set_option maxHeartbeats 1000000 in
theorem decode3 (W : World) (A : Option Addr) (n c : Nat) (L : List Nat) (hB : Bytes W A n L) (hn : n ≤ 100000) (hr : Fit W) :
    Calls Tryz.prog 36 #[.int .i64 3, .slice A n c] W fun x w' => x = .returned (tup (ok3 L) #[.int .i64 3, .int .u32 (epN L), .string ⟨#[]⟩, .int .u32 (uidN L), .int .i64 0, .int .i64 0, .slice none 0 0]) ∧ Below W.heap.size W w' := by
  obtain ⟨W1, hW1⟩ : ∃ W1, W1 = W.alloc (.cells zeroN 100) := ⟨_, rfl⟩
  have HBW := Lib.hid (show Below W.heap.size W W1 by rw [hW1]; exact (Below.refl _ _).alloc (Nat.le_refl _) _)
  have HWS := Lib.hid (show W.heap.size < W1.heap.size by rw [hW1]; simp)
  have HRC := Lib.hid (fun (w1 : World) (h : Below W1.heap.size W1 w1) => (boxed (w := W) (o := .cells zeroN 100) (w1 := w1) (by rw [← hW1]; exact h)).1)
  have HFit := Lib.hid (fun (w1 : World) (h : Below W1.heap.size W1 w1) => hr.below (HBW.out.trans (h.mono HBW.out.size)))
  have HNW := Lib.hid (rd_new W1 A n c L (hB.below hB.lt HBW.out) (by omega))
  have hb := hB.2.1
  have HL := Lib.hid hb
  have HEP := Lib.hid (ep_lt hb)
  have HW1 := Lib.hid hW1
  have HOK : Hid (ok3 L = (decide (LU L = some []) && formedB 3 (epN L) ⟨#[]⟩ (uidN L) 0 0 0)) := rfl
  have hF := fun w hr => formed_any w 3 (epN L) (uidN L) ⟨#[]⟩ 0 0 none 0 0 (by decide) hr
  have HF := Lib.hid hF
  have HU := Lib.hid (uid_lt hb)
  clear hW1 hB hn hr hb hF
  go_enter Tryz.func36, Tryz.ntmps36
  go_wp2_with fail
  rw [show (#[.int .i64 0, .int .u32 0, .string ⟨#[]⟩, .int .u32 0, .int .i64 0, .int .i64 0, .slice none 0 0] : Array Value) = zeroN from rfl, ← HW1.out]
  refine HNW.out.mono ?_
  rintro x w1 ⟨q, g, rfl, hR1⟩
  have HR1 := Lib.hid hR1
  clear hR1 HNW
  go_wp2_with fail
  refine (rd_ep HR1.out).mono ?_
  rintro x w2 ⟨rfl, hR2⟩
  have HR2 := Lib.hid hR2
  have he := IntWalk.u32_in (epN L : Nat) (by have := HEP.out; omega)
  clear hR2 HR1
  go_wp2_with fail
  have HD2 := Lib.hid (dc_start HR2.out #[.int .i64 3, .int .u32 (epN L), .string ⟨#[]⟩, .int .u32 0, .int .i64 0, .int .i64 0, .slice none 0 0])
  refine (dc_uid HD2.out).mono ?_
  rintro x w3 ⟨rfl, hD3⟩
  have HD3 := Lib.hid hD3
  generalize w2.heap.size = b at *
  have e2 := HD3.out.cell 3 _ rfl
  have f2 := HD3.out.froz 3
  clear hD3 HD2 he HR2
  have he := IntWalk.u32_in (uidN L : Nat) (by have := HU.out; omega)
  go_wp2_with fail
  have HD4 := Lib.hid (HD3.out.set 3 (.int .u32 (uidN L)) rfl)
  generalize w3.setCell ⟨b, 3, none⟩ (.int .u32 (uidN L)) = w4 at *
  clear HD3 e2 f2 he
  have HDn := Lib.hid (dc_Done HD4.out)
  have HK := HOK.out
  clear HOK
  generalize decide (LU L = some []) = DD at *
  generalize formedB 3 (epN L) ⟨#[]⟩ (uidN L) 0 0 0 = FF at *
  generalize hui : uidN L = ui at *
  have Eui := Lib.hid hui
  clear hui
  generalize hep : epN L = ep at *
  have Eep := Lib.hid hep
  clear hep
  have HK := Lib.hid HK
  refine HDn.out.mono ?_
  rintro x w9 ⟨rfl, rfl⟩
  clear HDn
  cases DD
  · · clear HF
      have r0 := cell_at (HRC.out _ HD4.out.1.bel) 0 _ rfl
      have s0 := frozen_of_row _ _ 0 _ _ (HRC.out _ HD4.out.1.bel)
      have r1 := cell_at (HRC.out _ HD4.out.1.bel) 1 _ rfl
      have s1 := frozen_of_row _ _ 1 _ _ (HRC.out _ HD4.out.1.bel)
      have r2 := cell_at (HRC.out _ HD4.out.1.bel) 2 _ rfl
      have s2 := frozen_of_row _ _ 2 _ _ (HRC.out _ HD4.out.1.bel)
      have r3 := cell_at (HRC.out _ HD4.out.1.bel) 3 _ rfl
      have s3 := frozen_of_row _ _ 3 _ _ (HRC.out _ HD4.out.1.bel)
      have r4 := cell_at (HRC.out _ HD4.out.1.bel) 4 _ rfl
      have s4 := frozen_of_row _ _ 4 _ _ (HRC.out _ HD4.out.1.bel)
      have r5 := cell_at (HRC.out _ HD4.out.1.bel) 5 _ rfl
      have s5 := frozen_of_row _ _ 5 _ _ (HRC.out _ HD4.out.1.bel)
      have r6 := cell_at (HRC.out _ HD4.out.1.bel) 6 _ rfl
      have s6 := frozen_of_row _ _ 6 _ _ (HRC.out _ HD4.out.1.bel)
      go_wp2_with fail
      have h7 := seven (HRC.out _ HD4.out.1.bel) rfl (.int .i64 0) (.int .u32 0) (.string ⟨#[]⟩) (.int .u32 0) (.int .i64 0) (.int .i64 0) (.slice none 0 0)
      exact bodyPost_ret (results_note Tryz.results36 _ _ W.heap.size _ _ _ _ rfl h7.1 Tryz.underlying100 rfl (noteSize _ rfl)) rfl ⟨by rw [show ok3 L = false from HK.out]; rfl, h7.2.2 _ _ (HBW.out.trans (HD4.out.1.bel.mono HBW.out.size)) (Nat.le_refl _)⟩
  · cases FF
    · --A
      have c0 := HD4.out.cell 0 _ rfl
      have c1 := HD4.out.cell 1 _ rfl
      have c2 := HD4.out.cell 2 _ rfl
      have c3 := HD4.out.cell 3 _ rfl
      have c4 := HD4.out.cell 4 _ rfl
      have c5 := HD4.out.cell 5 _ rfl
      have c6 := HD4.out.cell 6 _ rfl
      go_wp2_with (go_at_call 64; refine (HF.out _ (HFit.out _ HD4.out.1.bel)).mono ?_; rintro x w5 ⟨rfl, hb5⟩; have HD5 := Lib.hid (HD4.out.below hb5); clear hb5 c0 c1 c2 c3 c4 c5 c6; have r0 := cell_at (HRC.out _ HD5.out.1.bel) 0 _ rfl; have s0 := frozen_of_row _ _ 0 _ _ (HRC.out _ HD5.out.1.bel); have r1 := cell_at (HRC.out _ HD5.out.1.bel) 1 _ rfl; have s1 := frozen_of_row _ _ 1 _ _ (HRC.out _ HD5.out.1.bel); have r2 := cell_at (HRC.out _ HD5.out.1.bel) 2 _ rfl; have s2 := frozen_of_row _ _ 2 _ _ (HRC.out _ HD5.out.1.bel); have r3 := cell_at (HRC.out _ HD5.out.1.bel) 3 _ rfl; have s3 := frozen_of_row _ _ 3 _ _ (HRC.out _ HD5.out.1.bel); have r4 := cell_at (HRC.out _ HD5.out.1.bel) 4 _ rfl; have s4 := frozen_of_row _ _ 4 _ _ (HRC.out _ HD5.out.1.bel); have r5 := cell_at (HRC.out _ HD5.out.1.bel) 5 _ rfl; have s5 := frozen_of_row _ _ 5 _ _ (HRC.out _ HD5.out.1.bel); have r6 := cell_at (HRC.out _ HD5.out.1.bel) 6 _ rfl; have s6 := frozen_of_row _ _ 6 _ _ (HRC.out _ HD5.out.1.bel))
      have h7 := seven (HRC.out _ HD5.out.1.bel) rfl (.int .i64 0) (.int .u32 0) (.string ⟨#[]⟩) (.int .u32 0) (.int .i64 0) (.int .i64 0) (.slice none 0 0)
      exact bodyPost_ret (results_note Tryz.results36 _ _ W.heap.size _ _ _ _ rfl h7.1 Tryz.underlying100 rfl (noteSize _ rfl)) rfl ⟨by rw [show ok3 L = false from HK.out]; rfl, h7.2.2 _ _ (HBW.out.trans (HD5.out.1.bel.mono HBW.out.size)) (Nat.le_refl _)⟩
    · --B
      have c0 := HD4.out.cell 0 _ rfl
      have c1 := HD4.out.cell 1 _ rfl
      have c2 := HD4.out.cell 2 _ rfl
      have c3 := HD4.out.cell 3 _ rfl
      have c4 := HD4.out.cell 4 _ rfl
      have c5 := HD4.out.cell 5 _ rfl
      have c6 := HD4.out.cell 6 _ rfl
      go_wp2_with (go_at_call 64; refine (HF.out _ (HFit.out _ HD4.out.1.bel)).mono ?_; rintro x w5 ⟨rfl, hb5⟩; have HD5 := Lib.hid (HD4.out.below hb5); clear hb5 c0 c1 c2 c3 c4 c5 c6; have c0 := HD5.out.cell 0 _ rfl; have c1 := HD5.out.cell 1 _ rfl; have c2 := HD5.out.cell 2 _ rfl; have c3 := HD5.out.cell 3 _ rfl; have c4 := HD5.out.cell 4 _ rfl; have c5 := HD5.out.cell 5 _ rfl; have c6 := HD5.out.cell 6 _ rfl; have r0 := cell_at (HRC.out _ HD5.out.1.bel) 0 _ rfl; have s0 := frozen_of_row _ _ 0 _ _ (HRC.out _ HD5.out.1.bel); have r1 := cell_at (HRC.out _ HD5.out.1.bel) 1 _ rfl; have s1 := frozen_of_row _ _ 1 _ _ (HRC.out _ HD5.out.1.bel); have r2 := cell_at (HRC.out _ HD5.out.1.bel) 2 _ rfl; have s2 := frozen_of_row _ _ 2 _ _ (HRC.out _ HD5.out.1.bel); have r3 := cell_at (HRC.out _ HD5.out.1.bel) 3 _ rfl; have s3 := frozen_of_row _ _ 3 _ _ (HRC.out _ HD5.out.1.bel); have r4 := cell_at (HRC.out _ HD5.out.1.bel) 4 _ rfl; have s4 := frozen_of_row _ _ 4 _ _ (HRC.out _ HD5.out.1.bel); have r5 := cell_at (HRC.out _ HD5.out.1.bel) 5 _ rfl; have s5 := frozen_of_row _ _ 5 _ _ (HRC.out _ HD5.out.1.bel); have r6 := cell_at (HRC.out _ HD5.out.1.bel) 6 _ rfl; have s6 := frozen_of_row _ _ 6 _ _ (HRC.out _ HD5.out.1.bel))
      have h7 := seven (HRC.out _ HD5.out.1.bel) rfl (.int .i64 3) (.int .u32 ep) (.string ⟨#[]⟩) (.int .u32 ui) (.int .i64 0) (.int .i64 0) (.slice none 0 0)
      exact bodyPost_ret (results_note Tryz.results36 _ _ W.heap.size _ _ _ _ rfl h7.1 Tryz.underlying100 rfl (noteSize _ rfl)) rfl ⟨by rw [show ok3 L = true from HK.out, Eui.out, Eep.out]; rfl, h7.2.2 _ _ (HBW.out.trans (HD5.out.1.bel.mono HBW.out.size)) (Nat.le_refl _)⟩
set_option maxHeartbeats 1000000 in
theorem decode0 (W : World) (k : Int) (h1 : k ≠ 1) (h2 : k ≠ 2) (h3 : k ≠ 3) (A : Option Addr) (n c : Nat) (L : List Nat) (hB : Bytes W A n L) (hn : n ≤ 100000) (hr : Fit W) :
    Calls Tryz.prog 36 #[.int .i64 k, .slice A n c] W fun x w' => x = .returned (tup false #[]) ∧ Below W.heap.size W w' := by
  obtain ⟨W1, hW1⟩ : ∃ W1, W1 = W.alloc (.cells zeroN 100) := ⟨_, rfl⟩
  have HBW := Lib.hid (show Below W.heap.size W W1 by rw [hW1]; exact (Below.refl _ _).alloc (Nat.le_refl _) _)
  have HWS := Lib.hid (show W.heap.size < W1.heap.size by rw [hW1]; simp)
  have HRC := Lib.hid (fun (w1 : World) (h : Below W1.heap.size W1 w1) => (boxed (w := W) (o := .cells zeroN 100) (w1 := w1) (by rw [← hW1]; exact h)).1)
  have HFit := Lib.hid (fun (w1 : World) (h : Below W1.heap.size W1 w1) => hr.below (HBW.out.trans (h.mono HBW.out.size)))
  have HNW := Lib.hid (rd_new W1 A n c L (hB.below hB.lt HBW.out) (by omega))
  have hb := hB.2.1
  have HL := Lib.hid hb
  have HEP := Lib.hid (ep_lt hb)
  have HW1 := Lib.hid hW1
  have HOK : Hid (false = false) := rfl
  have hF := fun w hr => formed_any w k (epN L) 0 ⟨#[]⟩ 0 0 none 0 0 (by decide) hr
  rw [formed_other h1 h2 h3] at hF
  have HF := Lib.hid hF
  have e1 : (k == 1) = false := by rw [beq_eq_false_iff_ne]; exact h1
  have e2 : (k == 2) = false := by rw [beq_eq_false_iff_ne]; exact h2
  have e3 : (k == 3) = false := by rw [beq_eq_false_iff_ne]; exact h3
  clear h1 h2 h3 hW1 hB hn hr hb hF
  go_enter Tryz.func36, Tryz.ntmps36
  go_wp2_with fail
  rw [show (#[.int .i64 0, .int .u32 0, .string ⟨#[]⟩, .int .u32 0, .int .i64 0, .int .i64 0, .slice none 0 0] : Array Value) = zeroN from rfl, ← HW1.out]
  refine HNW.out.mono ?_
  rintro x w1 ⟨q, g, rfl, hR1⟩
  have HR1 := Lib.hid hR1
  clear hR1 HNW
  go_wp2_with fail
  refine (rd_ep HR1.out).mono ?_
  rintro x w2 ⟨rfl, hR2⟩
  have HR2 := Lib.hid hR2
  have he := IntWalk.u32_in (epN L : Nat) (by have := HEP.out; omega)
  clear hR2 HR1
  go_wp2_with fail
  have HD2 := Lib.hid (dc_start HR2.out #[.int .i64 k, .int .u32 (epN L), .string ⟨#[]⟩, .int .u32 0, .int .i64 0, .int .i64 0, .slice none 0 0])
  generalize w2.alloc _ = w4 at *
  generalize w2.heap.size = b at *
  clear he HR2
  have HDn := Lib.hid (dc_Done HD2.out)
  have HK := HOK.out
  clear HOK
  generalize decide (LA L = some []) = DD at *
  generalize hep : epN L = ep at *
  have Eep := Lib.hid hep
  clear hep
  have HK := Lib.hid HK
  refine HDn.out.mono ?_
  rintro x w9 ⟨rfl, rfl⟩
  clear HDn
  cases DD
  · · clear HF
      have r0 := cell_at (HRC.out _ HD2.out.1.bel) 0 _ rfl
      have s0 := frozen_of_row _ _ 0 _ _ (HRC.out _ HD2.out.1.bel)
      have r1 := cell_at (HRC.out _ HD2.out.1.bel) 1 _ rfl
      have s1 := frozen_of_row _ _ 1 _ _ (HRC.out _ HD2.out.1.bel)
      have r2 := cell_at (HRC.out _ HD2.out.1.bel) 2 _ rfl
      have s2 := frozen_of_row _ _ 2 _ _ (HRC.out _ HD2.out.1.bel)
      have r3 := cell_at (HRC.out _ HD2.out.1.bel) 3 _ rfl
      have s3 := frozen_of_row _ _ 3 _ _ (HRC.out _ HD2.out.1.bel)
      have r4 := cell_at (HRC.out _ HD2.out.1.bel) 4 _ rfl
      have s4 := frozen_of_row _ _ 4 _ _ (HRC.out _ HD2.out.1.bel)
      have r5 := cell_at (HRC.out _ HD2.out.1.bel) 5 _ rfl
      have s5 := frozen_of_row _ _ 5 _ _ (HRC.out _ HD2.out.1.bel)
      have r6 := cell_at (HRC.out _ HD2.out.1.bel) 6 _ rfl
      have s6 := frozen_of_row _ _ 6 _ _ (HRC.out _ HD2.out.1.bel)
      go_wp2_with fail
      have h7 := seven (HRC.out _ HD2.out.1.bel) rfl (.int .i64 0) (.int .u32 0) (.string ⟨#[]⟩) (.int .u32 0) (.int .i64 0) (.int .i64 0) (.slice none 0 0)
      exact bodyPost_ret (results_note Tryz.results36 _ _ W.heap.size _ _ _ _ rfl h7.1 Tryz.underlying100 rfl (noteSize _ rfl)) rfl ⟨rfl, h7.2.2 _ _ (HBW.out.trans (HD2.out.1.bel.mono HBW.out.size)) (Nat.le_refl _)⟩
  · · --A
      have c0 := HD2.out.cell 0 _ rfl
      have c1 := HD2.out.cell 1 _ rfl
      have c2 := HD2.out.cell 2 _ rfl
      have c3 := HD2.out.cell 3 _ rfl
      have c4 := HD2.out.cell 4 _ rfl
      have c5 := HD2.out.cell 5 _ rfl
      have c6 := HD2.out.cell 6 _ rfl
      go_wp2_with (go_at_call 64; refine (HF.out _ (HFit.out _ HD2.out.1.bel)).mono ?_; rintro x w5 ⟨rfl, hb5⟩; have HD5 := Lib.hid (HD2.out.below hb5); clear hb5 c0 c1 c2 c3 c4 c5 c6; have r0 := cell_at (HRC.out _ HD5.out.1.bel) 0 _ rfl; have s0 := frozen_of_row _ _ 0 _ _ (HRC.out _ HD5.out.1.bel); have r1 := cell_at (HRC.out _ HD5.out.1.bel) 1 _ rfl; have s1 := frozen_of_row _ _ 1 _ _ (HRC.out _ HD5.out.1.bel); have r2 := cell_at (HRC.out _ HD5.out.1.bel) 2 _ rfl; have s2 := frozen_of_row _ _ 2 _ _ (HRC.out _ HD5.out.1.bel); have r3 := cell_at (HRC.out _ HD5.out.1.bel) 3 _ rfl; have s3 := frozen_of_row _ _ 3 _ _ (HRC.out _ HD5.out.1.bel); have r4 := cell_at (HRC.out _ HD5.out.1.bel) 4 _ rfl; have s4 := frozen_of_row _ _ 4 _ _ (HRC.out _ HD5.out.1.bel); have r5 := cell_at (HRC.out _ HD5.out.1.bel) 5 _ rfl; have s5 := frozen_of_row _ _ 5 _ _ (HRC.out _ HD5.out.1.bel); have r6 := cell_at (HRC.out _ HD5.out.1.bel) 6 _ rfl; have s6 := frozen_of_row _ _ 6 _ _ (HRC.out _ HD5.out.1.bel))
      have h7 := seven (HRC.out _ HD5.out.1.bel) rfl (.int .i64 0) (.int .u32 0) (.string ⟨#[]⟩) (.int .u32 0) (.int .i64 0) (.int .i64 0) (.slice none 0 0)
      exact bodyPost_ret (results_note Tryz.results36 _ _ W.heap.size _ _ _ _ rfl h7.1 Tryz.underlying100 rfl (noteSize _ rfl)) rfl ⟨rfl, h7.2.2 _ _ (HBW.out.trans (HD5.out.1.bel.mono HBW.out.size)) (Nat.le_refl _)⟩
end Go.Proofs.YtklmbiekpilkhaaGreatDoor.bod
