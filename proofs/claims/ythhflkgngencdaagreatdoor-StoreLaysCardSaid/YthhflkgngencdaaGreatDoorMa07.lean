/- How a payload is decoded. -/
import Derived.Test.YthhflkgngencdaaGreatDoorMa06
import Derived.Deep.RegionHeld3
import Derived.Test.YthhflkgngencdaaGreatDoorMa05
import Derived.Test.YthhflkgngencdaaGreatDoorMa02
namespace Go.Proofs.YthhflkgngencdaaGreatDoor.bod
open Go.ChangeShapes Go.WideShapes Go.ChangeAt Go.RowKit
open Go.Proofs.YthhflkgngencdaaGreatDoor.codec (Bytes bytesOf bytesOf_length strOf strOf_size numOf)
open Go.Proofs.YthhflkgngencdaaGreatDoor.rd
set_option linter.unusedVariables false
set_option linter.unusedSimpArgs false
set_option maxRecDepth 100000

/-- A reader at q that has L left, and a note at b. -/
def Dc (W : World) (q g : Nat) (L : Option (List Nat)) (b : Nat) (cs : Array Value) (w : World) : Prop :=
  Rd W q g L w ∧ w.heap[b]? = some (.cells cs 149 (0, 0)) ∧ b ≠ q ∧ b ≠ g ∧ W.heap.size ≤ b
theorem Dc.lt {W w : World} {q g b : Nat} {L : Option (List Nat)} {cs : Array Value} (h : Dc W q g L b cs w) : b < w.heap.size := (Array.getElem?_eq_some_iff.1 h.2.1).1
theorem Dc.touch {W w w' : World} {q g b : Nat} {L L' : Option (List Nat)} {cs : Array Value} (h : Dc W q g L b cs w) (hR : Rd W q g L' w') (ht : codec.Touch (fun i => i = q) w w') : Dc W q g L' b cs w' :=
  ⟨hR, (ht.2.2.2.2 b h.lt h.2.2.1).trans h.2.1, h.2.2⟩
theorem Dc.below {W w w' : World} {q g b : Nat} {L : Option (List Nat)} {cs : Array Value} (h : Dc W q g L b cs w) (hb : Below w.heap.size w w') : Dc W q g L b cs w' :=
  ⟨h.1.below hb, (hb.block b h.lt).trans h.2.1, h.2.2⟩
theorem rd_other {W w : World} {q g b : Nat} {L : Option (List Nat)} (h : Rd W q g L w) (h1 : b ≠ q) (h2 : b ≠ g) (h3 : W.heap.size ≤ b) (i : Nat) (v : Value) : Rd W q g L (w.setCell ⟨b, i, none⟩ v) := by
  obtain ⟨k1, k2, k3, k4, k5⟩ := h
  refine ⟨?_, k2, by simpa using k3, by simpa using k4, k5.setCell (p := ⟨b, i, none⟩) h3 v⟩
  have e1 : (w.setCell ⟨b, i, none⟩ v).heap[q]? = w.heap[q]? := heap_setCell_other _ _ _ _ (Ne.symm h1)
  have e2 : (w.setCell ⟨b, i, none⟩ v).heap[g]? = w.heap[g]? := heap_setCell_other _ _ _ _ (Ne.symm h2)
  cases L with
  | none => exact e1.trans k1
  | some l =>
    obtain ⟨o, c, hi, hc⟩ := k1
    exact ⟨o, c, hi.kept e1 e2, hc⟩
theorem Dc.set {W w : World} {q g b : Nat} {L : Option (List Nat)} {cs cs' : Array Value} (h : Dc W q g L b cs w) (i : Nat) (v : Value) (hc : cs.setIfInBounds i v = cs') : Dc W q g L b cs' (w.setCell ⟨b, i, none⟩ v) :=
  ⟨rd_other h.1 h.2.2.1 h.2.2.2.1 h.2.2.2.2 i v, by rw [heap_setCell_same _ _ _ _ _ _ h.2.1, hc], h.2.2⟩
theorem Dc.cell {W w : World} {q g b : Nat} {L : Option (List Nat)} {cs : Array Value} (h : Dc W q g L b cs w) (i : Nat) (v : Value) (hv : cs[i]? = some v) : w.cell? ⟨b, i, none⟩ = some v := cell_at h.2.1 i v hv
theorem Dc.froz {W w : World} {q g b : Nat} {L : Option (List Nat)} {cs : Array Value} (h : Dc W q g L b cs w) (i : Nat) : w.frozen? ⟨b, i, none⟩ = false := frozen_of_row w b i cs _ h.2.1
theorem dc_N {W w : World} {q g b : Nat} {L : Option (List Nat)} {cs : Array Value} (h : Dc W q g L b cs w) (s : Nat) (h1 : 1 ≤ s) (h7 : s ≤ 7) :
    Calls Tryz.prog 214 #[.pointer (some ⟨q, 0, none⟩), .int .i64 s] w fun e w' => e = .returned (.int .i64 (numOf (got s L) : Nat)) ∧ Dc W q g (rest s L) b cs w' :=
  (rd_N h.1 s h1 h7).mono fun _ _ ⟨he, hR, ht⟩ => ⟨he, h.touch hR ht⟩
theorem dc_Text {W w : World} {q g b : Nat} {L : Option (List Nat)} {cs : Array Value} (h : Dc W q g L b cs w) :
    Calls Tryz.prog 231 #[.pointer (some ⟨q, 0, none⟩)] w fun e w' => e = .returned (.string (TX L)) ∧ Dc W q g (LT L) b cs w' :=
  (rd_Text h.1).mono fun _ _ ⟨he, hR, w1, t1, t2⟩ => ⟨he, hR, ((t2.2.2.2.2 b (Nat.lt_of_lt_of_le h.lt t1.2.2.2.1) h.2.2.1).trans (t1.2.2.2.2 b h.lt h.2.2.1)).trans h.2.1, h.2.2⟩
theorem dc_Left {W w : World} {q g b : Nat} {L : Option (List Nat)} {cs : Array Value} (h : Dc W q g L b cs w) :
    Calls Tryz.prog 233 #[.pointer (some ⟨q, 0, none⟩)] w fun e w' => e = .returned (.int .i64 (leftN L : Nat)) ∧ w = w' := rd_Left h.1
theorem dc_Raw {W w : World} {q g b : Nat} {L : Option (List Nat)} {cs : Array Value} (h : Dc W q g L b cs w) (s : Nat) (hl : ∀ l, L = some l → ∀ b ∈ l, b < 256) :
    Calls Tryz.prog 232 #[.pointer (some ⟨q, 0, none⟩), .int .i64 s] w fun e w' => ∃ g' m, m = (got s L).length ∧ e = .returned (.slice (some ⟨g', 0, none⟩) m m) ∧ b < g' ∧ W.heap.size ≤ g' ∧ Bytes w' (some ⟨g', 0, none⟩) m (got s L) ∧ Dc W q g (rest s L) b cs w' :=
  (rd_Raw h.1 s hl).mono fun _ _ ⟨g', m, hm, he, hg, hB, hR, ht⟩ => ⟨g', m, hm, he, Nat.lt_of_lt_of_le h.lt hg, Nat.le_trans h.2.2.2.2 (Nat.le_trans (Nat.le_of_lt h.lt) hg), hB, h.touch hR ht⟩
theorem dc_Done {W w : World} {q g b : Nat} {L : Option (List Nat)} {cs : Array Value} (h : Dc W q g L b cs w) :
    Calls Tryz.prog 216 #[.pointer (some ⟨q, 0, none⟩)] w fun e w' => e = .returned (.bool (decide (L = some []))) ∧ w = w' := rd_Done h.1
theorem dc_start {W w : World} {q g : Nat} {L : Option (List Nat)} (h : Rd W q g L w) (cs : Array Value) : Dc W q g L w.heap.size cs (w.alloc (.cells cs 149)) :=
  ⟨h.alloc _, heap_alloc_new w _, by have := h.2.2.1; omega, by have := h.2.2.2.1; omega, h.bel.size⟩
theorem results_note {P : Program} {fn : Func} {p q : Tmp} {ty : TypeId} (h : fn.results = #[.cell p ty, .tmp q]) (tmps : Array Value) (w : World) (g : Nat) (t : TypeId) (cs : Array Value) (fr : Nat × Nat) (d : TypeDesc)
    (hp : tmps.getD p undef = .pointer (some ⟨g, 0, none⟩)) (hg : w.heap[g]? = some (.cells cs t fr))
    (hu : P.underlying ty = some d) (hd : (match d with | .struct _ | .array _ _ => true | _ => false) = true) (hi : (P.info? ty).map (·.size) = some cs.size) :
    (results fn tmps).run P w = .ok (.tuple #[.agg cs, tmps.getD q undef]) w := by
  have hp' : tmps[p]?.getD undef = .pointer (some ⟨g, 0, none⟩) := by simpa using hp
  simp [results, h, hp', asAddr, run_loadVar_row w g t ty cs fr d hg hu hd hi]
theorem tx_size {M : Option (List Nat)} (hM : ∀ l, M = some l → ∀ b ∈ l, b < 256) : (TX M).size ≤ 65535 := by
  unfold TX
  rw [strOf_size]
  have h1 := got_len (numOf (got 2 M)) (rest 2 M)
  have h2 := got_num (k := 2) hM
  omega
/-- The cells of a note. -/
def zeroN : Array Value := #[.int .i64 0, .int .u32 0, .string ⟨#[]⟩, .int .u32 0, .int .i64 0, .int .i64 0, .slice none 0 0]
theorem noteSize (cs : Array Value) (h : cs.size = 7) : (Tryz.prog.info? 149).map (·.size) = some cs.size := by
  rw [h]
  kernel_rfl
theorem rd_ep {W w : World} {q g : Nat} {L : List Nat} (h : Rd W q g (some L) w) :
    Calls Tryz.prog 214 #[.pointer (some ⟨q, 0, none⟩), .int .i64 (4 : Nat)] w fun e w' => e = .returned (.int .i64 (epN L : Nat)) ∧ Rd W q g (LA L) w' :=
  (rd_N h 4 (by decide) (by decide)).mono fun _ _ ⟨a, b, _⟩ => ⟨a, b⟩
theorem dc_uid {W w : World} {q g b : Nat} {L : List Nat} {cs : Array Value} (h : Dc W q g (LA L) b cs w) :
    Calls Tryz.prog 214 #[.pointer (some ⟨q, 0, none⟩), .int .i64 (4 : Nat)] w fun e w' => e = .returned (.int .i64 (uidN L : Nat)) ∧ Dc W q g (LU L) b cs w' := dc_N h 4 (by decide) (by decide)
theorem dc_dat {W w : World} {q g b : Nat} {L : List Nat} {cs : Array Value} (h : Dc W q g (LU L) b cs w) :
    Calls Tryz.prog 214 #[.pointer (some ⟨q, 0, none⟩), .int .i64 (6 : Nat)] w fun e w' => e = .returned (.int .i64 (datN L : Nat)) ∧ Dc W q g (LD L) b cs w' := dc_N h 6 (by decide) (by decide)
theorem dc_fla {W w : World} {q g b : Nat} {L : List Nat} {cs : Array Value} (h : Dc W q g (LD L) b cs w) :
    Calls Tryz.prog 214 #[.pointer (some ⟨q, 0, none⟩), .int .i64 (1 : Nat)] w fun e w' => e = .returned (.int .i64 (flaN L : Nat)) ∧ Dc W q g (LF L) b cs w' := dc_N h 1 (by decide) (by decide)
theorem seven {w : World} {g : Nat} {t : TypeId} {cs : Array Value} (h : w.heap[g]? = some (.cells cs t (0, 0))) (hs : cs.size = 7) (v0 v1 v2 v3 v4 v5 v6 : Value) :
    (((((((w.setCell ⟨g, 0, none⟩ v0).setCell ⟨g, 1, none⟩ v1).setCell ⟨g, 2, none⟩ v2).setCell ⟨g, 3, none⟩ v3).setCell ⟨g, 4, none⟩ v4).setCell ⟨g, 5, none⟩ v5).setCell ⟨g, 6, none⟩ v6).heap[g]? = some (.cells #[v0, v1, v2, v3, v4, v5, v6] t (0, 0)) ∧
    (∀ k, k ≠ g → (((((((w.setCell ⟨g, 0, none⟩ v0).setCell ⟨g, 1, none⟩ v1).setCell ⟨g, 2, none⟩ v2).setCell ⟨g, 3, none⟩ v3).setCell ⟨g, 4, none⟩ v4).setCell ⟨g, 5, none⟩ v5).setCell ⟨g, 6, none⟩ v6).heap[k]? = w.heap[k]?) ∧
    ∀ (B : Nat) (a : World), Below B a w → B ≤ g → Below B a (((((((w.setCell ⟨g, 0, none⟩ v0).setCell ⟨g, 1, none⟩ v1).setCell ⟨g, 2, none⟩ v2).setCell ⟨g, 3, none⟩ v3).setCell ⟨g, 4, none⟩ v4).setCell ⟨g, 5, none⟩ v5).setCell ⟨g, 6, none⟩ v6) := by
  refine ⟨?_, fun k hk => by rw [heap_setCell_other _ _ _ _ hk, heap_setCell_other _ _ _ _ hk, heap_setCell_other _ _ _ _ hk, heap_setCell_other _ _ _ _ hk, heap_setCell_other _ _ _ _ hk, heap_setCell_other _ _ _ _ hk, heap_setCell_other _ _ _ _ hk], fun B a hb hg => ((((((hb.setCell (p := ⟨g, 0, none⟩) hg _).setCell (p := ⟨g, 1, none⟩) hg _).setCell (p := ⟨g, 2, none⟩) hg _).setCell (p := ⟨g, 3, none⟩) hg _).setCell (p := ⟨g, 4, none⟩) hg _).setCell (p := ⟨g, 5, none⟩) hg _).setCell (p := ⟨g, 6, none⟩) hg _⟩
  rw [heap_setCell_same _ g 6 _ t _ (heap_setCell_same _ g 5 _ t _ (heap_setCell_same _ g 4 _ t _ (heap_setCell_same _ g 3 _ t _ (heap_setCell_same _ g 2 _ t _ (heap_setCell_same _ g 1 _ t _ (heap_setCell_same _ g 0 _ t _ h))))))]
  obtain ⟨l⟩ := cs
  have hl : l.length = 7 := hs
  match l, hl with
  | [a0, a1, a2, a3, a4, a5, a6], _ => rfl
/-- What Decode answers. -/
def tup (b : Bool) (cs : Array Value) : Value := if b then .tuple #[.agg cs, .int .i64 0] else .tuple #[.agg zeroN, .int .i64 2]
theorem octs_set {W w : World} {q g b : Nat} {L : Option (List Nat)} {cs : Array Value} (h : Dc W q g L b cs w) {g' m : Nat} {l : List Nat} (hg : b < g') (hB : Bytes w (some ⟨g', 0, none⟩) m l) (i : Nat) (v : Value) : Bytes (w.setCell ⟨b, i, none⟩ v) (some ⟨g', 0, none⟩) m l :=
  hB.kept fun ad e hn => by cases e; exact heap_setCell_other _ _ _ _ (by show g' ≠ b; omega)
set_option maxHeartbeats 1000000 in
theorem decode1 (W : World) (A : Option Addr) (n c : Nat) (L : List Nat) (hB : Bytes W A n L) (hn : n ≤ 100000) (hr : Fit W) :
    Calls Tryz.prog 205 #[.int .i64 1, .slice A n c] W fun x w' => x = .returned (tup (ok1 L) #[.int .i64 1, .int .u32 (epN L), .string (TX (LA L)), .int .u32 0, .int .i64 0, .int .i64 0, .slice none 0 0]) ∧ Below W.heap.size W w' := by
  obtain ⟨W1, hW1⟩ : ∃ W1, W1 = W.alloc (.cells zeroN 149) := ⟨_, rfl⟩
  have HBW := Lib.hid (show Below W.heap.size W W1 by rw [hW1]; exact (Below.refl _ _).alloc (Nat.le_refl _) _)
  have HWS := Lib.hid (show W.heap.size < W1.heap.size by rw [hW1]; simp)
  have HRC := Lib.hid (fun (w1 : World) (h : Below W1.heap.size W1 w1) => (boxed (w := W) (o := .cells zeroN 149) (w1 := w1) (by rw [← hW1]; exact h)).1)
  have HFit := Lib.hid (fun (w1 : World) (h : Below W1.heap.size W1 w1) => hr.below (HBW.out.trans (h.mono HBW.out.size)))
  have HNW := Lib.hid (rd_new W1 A n c L (hB.below hB.lt HBW.out) (by omega))
  have hb := hB.2.1
  have HL := Lib.hid hb
  have HEP := Lib.hid (ep_lt hb)
  have HW1 := Lib.hid hW1
  have HOK : Hid (ok1 L = (decide (LT (LA L) = some []) && formedB 1 (epN L) (TX (LA L)) 0 0 0 0)) := rfl
  have hTX := tx_size (ltLA hb)
  have hF := fun w hr => formed_any w 1 (epN L) 0 (TX (LA L)) 0 0 none 0 0 (by omega) hr
  have HF := Lib.hid hF
  clear hW1 hB hn hr hb hF hTX
  go_enter Tryz.func205, Tryz.ntmps205
  go_wp2_with fail
  rw [show (#[.int .i64 0, .int .u32 0, .string ⟨#[]⟩, .int .u32 0, .int .i64 0, .int .i64 0, .slice none 0 0] : Array Value) = zeroN from rfl, ← HW1.out]
  refine HNW.out.mono ?_
  rintro x w1 ⟨q, g, rfl, hR1⟩
  have HR1 := Lib.hid hR1
  clear hR1 HNW
  go_wp2_with fail
  refine (rd_ep HR1.out).mono ?_
  rintro x w2 ⟨rfl, hR2⟩
  have HR2 := Lib.hid hR2
  have he := IntWalk.u32_in (epN L : Nat) (by have := HEP.out; omega)
  clear hR2 HR1
  go_wp2_with fail
  have HD2 := Lib.hid (dc_start HR2.out #[.int .i64 1, .int .u32 (epN L), .string ⟨#[]⟩, .int .u32 0, .int .i64 0, .int .i64 0, .slice none 0 0])
  refine (dc_Text HD2.out).mono ?_
  rintro x w3 ⟨rfl, hD3⟩
  have HD3 := Lib.hid hD3
  generalize w2.heap.size = b at *
  have e2 := HD3.out.cell 2 _ rfl
  have f2 := HD3.out.froz 2
  clear hD3 HD2 he HR2
  go_wp2_with fail
  have HD4 := Lib.hid (HD3.out.set 2 (.string (TX (LA L))) rfl)
  generalize w3.setCell ⟨b, 2, none⟩ (.string (TX (LA L))) = w4 at *
  clear HD3 e2 f2
  have HDn := Lib.hid (dc_Done HD4.out)
  have HK := HOK.out
  clear HOK
  generalize decide (LT (LA L) = some []) = DD at *
  generalize formedB 1 (epN L) (TX (LA L)) 0 0 0 0 = FF at *
  generalize htx : TX (LA L) = tx at *
  have Etx := Lib.hid htx
  clear htx
  generalize hep : epN L = ep at *
  have Eep := Lib.hid hep
  clear hep
  have HK := Lib.hid HK
  refine HDn.out.mono ?_
  rintro x w9 ⟨rfl, rfl⟩
  clear HDn
  cases DD
  · · clear HF
      have r0 := cell_at (HRC.out _ HD4.out.1.bel) 0 _ rfl
      have s0 := frozen_of_row _ _ 0 _ _ (HRC.out _ HD4.out.1.bel)
      have r1 := cell_at (HRC.out _ HD4.out.1.bel) 1 _ rfl
      have s1 := frozen_of_row _ _ 1 _ _ (HRC.out _ HD4.out.1.bel)
      have r2 := cell_at (HRC.out _ HD4.out.1.bel) 2 _ rfl
      have s2 := frozen_of_row _ _ 2 _ _ (HRC.out _ HD4.out.1.bel)
      have r3 := cell_at (HRC.out _ HD4.out.1.bel) 3 _ rfl
      have s3 := frozen_of_row _ _ 3 _ _ (HRC.out _ HD4.out.1.bel)
      have r4 := cell_at (HRC.out _ HD4.out.1.bel) 4 _ rfl
      have s4 := frozen_of_row _ _ 4 _ _ (HRC.out _ HD4.out.1.bel)
      have r5 := cell_at (HRC.out _ HD4.out.1.bel) 5 _ rfl
      have s5 := frozen_of_row _ _ 5 _ _ (HRC.out _ HD4.out.1.bel)
      have r6 := cell_at (HRC.out _ HD4.out.1.bel) 6 _ rfl
      have s6 := frozen_of_row _ _ 6 _ _ (HRC.out _ HD4.out.1.bel)
      go_wp2_with fail
      have h7 := seven (HRC.out _ HD4.out.1.bel) rfl (.int .i64 0) (.int .u32 0) (.string ⟨#[]⟩) (.int .u32 0) (.int .i64 0) (.int .i64 0) (.slice none 0 0)
      exact bodyPost_ret (results_note Tryz.results205 _ _ W.heap.size _ _ _ _ rfl h7.1 Tryz.underlying149 rfl (noteSize _ rfl)) rfl ⟨by rw [show ok1 L = false from HK.out]; rfl, h7.2.2 _ _ (HBW.out.trans (HD4.out.1.bel.mono HBW.out.size)) (Nat.le_refl _)⟩
  · cases FF
    · --A
      have c0 := HD4.out.cell 0 _ rfl
      have c1 := HD4.out.cell 1 _ rfl
      have c2 := HD4.out.cell 2 _ rfl
      have c3 := HD4.out.cell 3 _ rfl
      have c4 := HD4.out.cell 4 _ rfl
      have c5 := HD4.out.cell 5 _ rfl
      have c6 := HD4.out.cell 6 _ rfl
      go_wp2_with (go_at_call 155; refine (HF.out _ (HFit.out _ HD4.out.1.bel)).mono ?_; rintro x w5 ⟨rfl, hb5⟩; have HD5 := Lib.hid (HD4.out.below hb5); clear hb5 c0 c1 c2 c3 c4 c5 c6; have r0 := cell_at (HRC.out _ HD5.out.1.bel) 0 _ rfl; have s0 := frozen_of_row _ _ 0 _ _ (HRC.out _ HD5.out.1.bel); have r1 := cell_at (HRC.out _ HD5.out.1.bel) 1 _ rfl; have s1 := frozen_of_row _ _ 1 _ _ (HRC.out _ HD5.out.1.bel); have r2 := cell_at (HRC.out _ HD5.out.1.bel) 2 _ rfl; have s2 := frozen_of_row _ _ 2 _ _ (HRC.out _ HD5.out.1.bel); have r3 := cell_at (HRC.out _ HD5.out.1.bel) 3 _ rfl; have s3 := frozen_of_row _ _ 3 _ _ (HRC.out _ HD5.out.1.bel); have r4 := cell_at (HRC.out _ HD5.out.1.bel) 4 _ rfl; have s4 := frozen_of_row _ _ 4 _ _ (HRC.out _ HD5.out.1.bel); have r5 := cell_at (HRC.out _ HD5.out.1.bel) 5 _ rfl; have s5 := frozen_of_row _ _ 5 _ _ (HRC.out _ HD5.out.1.bel); have r6 := cell_at (HRC.out _ HD5.out.1.bel) 6 _ rfl; have s6 := frozen_of_row _ _ 6 _ _ (HRC.out _ HD5.out.1.bel))
      have h7 := seven (HRC.out _ HD5.out.1.bel) rfl (.int .i64 0) (.int .u32 0) (.string ⟨#[]⟩) (.int .u32 0) (.int .i64 0) (.int .i64 0) (.slice none 0 0)
      exact bodyPost_ret (results_note Tryz.results205 _ _ W.heap.size _ _ _ _ rfl h7.1 Tryz.underlying149 rfl (noteSize _ rfl)) rfl ⟨by rw [show ok1 L = false from HK.out]; rfl, h7.2.2 _ _ (HBW.out.trans (HD5.out.1.bel.mono HBW.out.size)) (Nat.le_refl _)⟩
    · --B
      have c0 := HD4.out.cell 0 _ rfl
      have c1 := HD4.out.cell 1 _ rfl
      have c2 := HD4.out.cell 2 _ rfl
      have c3 := HD4.out.cell 3 _ rfl
      have c4 := HD4.out.cell 4 _ rfl
      have c5 := HD4.out.cell 5 _ rfl
      have c6 := HD4.out.cell 6 _ rfl
      go_wp2_with (go_at_call 155; refine (HF.out _ (HFit.out _ HD4.out.1.bel)).mono ?_; rintro x w5 ⟨rfl, hb5⟩; have HD5 := Lib.hid (HD4.out.below hb5); clear hb5 c0 c1 c2 c3 c4 c5 c6; have c0 := HD5.out.cell 0 _ rfl; have c1 := HD5.out.cell 1 _ rfl; have c2 := HD5.out.cell 2 _ rfl; have c3 := HD5.out.cell 3 _ rfl; have c4 := HD5.out.cell 4 _ rfl; have c5 := HD5.out.cell 5 _ rfl; have c6 := HD5.out.cell 6 _ rfl; have r0 := cell_at (HRC.out _ HD5.out.1.bel) 0 _ rfl; have s0 := frozen_of_row _ _ 0 _ _ (HRC.out _ HD5.out.1.bel); have r1 := cell_at (HRC.out _ HD5.out.1.bel) 1 _ rfl; have s1 := frozen_of_row _ _ 1 _ _ (HRC.out _ HD5.out.1.bel); have r2 := cell_at (HRC.out _ HD5.out.1.bel) 2 _ rfl; have s2 := frozen_of_row _ _ 2 _ _ (HRC.out _ HD5.out.1.bel); have r3 := cell_at (HRC.out _ HD5.out.1.bel) 3 _ rfl; have s3 := frozen_of_row _ _ 3 _ _ (HRC.out _ HD5.out.1.bel); have r4 := cell_at (HRC.out _ HD5.out.1.bel) 4 _ rfl; have s4 := frozen_of_row _ _ 4 _ _ (HRC.out _ HD5.out.1.bel); have r5 := cell_at (HRC.out _ HD5.out.1.bel) 5 _ rfl; have s5 := frozen_of_row _ _ 5 _ _ (HRC.out _ HD5.out.1.bel); have r6 := cell_at (HRC.out _ HD5.out.1.bel) 6 _ rfl; have s6 := frozen_of_row _ _ 6 _ _ (HRC.out _ HD5.out.1.bel))
      have h7 := seven (HRC.out _ HD5.out.1.bel) rfl (.int .i64 1) (.int .u32 ep) (.string tx) (.int .u32 0) (.int .i64 0) (.int .i64 0) (.slice none 0 0)
      exact bodyPost_ret (results_note Tryz.results205 _ _ W.heap.size _ _ _ _ rfl h7.1 Tryz.underlying149 rfl (noteSize _ rfl)) rfl ⟨by rw [show ok1 L = true from HK.out, Etx.out, Eep.out]; rfl, h7.2.2 _ _ (HBW.out.trans (HD5.out.1.bel.mono HBW.out.size)) (Nat.le_refl _)⟩
set_option maxHeartbeats 1000000 in
theorem decode3 (W : World) (A : Option Addr) (n c : Nat) (L : List Nat) (hB : Bytes W A n L) (hn : n ≤ 100000) (hr : Fit W) :
    Calls Tryz.prog 205 #[.int .i64 3, .slice A n c] W fun x w' => x = .returned (tup (ok3 L) #[.int .i64 3, .int .u32 (epN L), .string ⟨#[]⟩, .int .u32 (uidN L), .int .i64 0, .int .i64 0, .slice none 0 0]) ∧ Below W.heap.size W w' := by
  obtain ⟨W1, hW1⟩ : ∃ W1, W1 = W.alloc (.cells zeroN 149) := ⟨_, rfl⟩
  have HBW := Lib.hid (show Below W.heap.size W W1 by rw [hW1]; exact (Below.refl _ _).alloc (Nat.le_refl _) _)
  have HWS := Lib.hid (show W.heap.size < W1.heap.size by rw [hW1]; simp)
  have HRC := Lib.hid (fun (w1 : World) (h : Below W1.heap.size W1 w1) => (boxed (w := W) (o := .cells zeroN 149) (w1 := w1) (by rw [← hW1]; exact h)).1)
  have HFit := Lib.hid (fun (w1 : World) (h : Below W1.heap.size W1 w1) => hr.below (HBW.out.trans (h.mono HBW.out.size)))
  have HNW := Lib.hid (rd_new W1 A n c L (hB.below hB.lt HBW.out) (by omega))
  have hb := hB.2.1
  have HL := Lib.hid hb
  have HEP := Lib.hid (ep_lt hb)
  have HW1 := Lib.hid hW1
  have HOK : Hid (ok3 L = (decide (LU L = some []) && formedB 3 (epN L) ⟨#[]⟩ (uidN L) 0 0 0)) := rfl
  have hF := fun w hr => formed_any w 3 (epN L) (uidN L) ⟨#[]⟩ 0 0 none 0 0 (by decide) hr
  have HF := Lib.hid hF
  have HU := Lib.hid (uid_lt hb)
  clear hW1 hB hn hr hb hF
  go_enter Tryz.func205, Tryz.ntmps205
  go_wp2_with fail
  rw [show (#[.int .i64 0, .int .u32 0, .string ⟨#[]⟩, .int .u32 0, .int .i64 0, .int .i64 0, .slice none 0 0] : Array Value) = zeroN from rfl, ← HW1.out]
  refine HNW.out.mono ?_
  rintro x w1 ⟨q, g, rfl, hR1⟩
  have HR1 := Lib.hid hR1
  clear hR1 HNW
  go_wp2_with fail
  refine (rd_ep HR1.out).mono ?_
  rintro x w2 ⟨rfl, hR2⟩
  have HR2 := Lib.hid hR2
  have he := IntWalk.u32_in (epN L : Nat) (by have := HEP.out; omega)
  clear hR2 HR1
  go_wp2_with fail
  have HD2 := Lib.hid (dc_start HR2.out #[.int .i64 3, .int .u32 (epN L), .string ⟨#[]⟩, .int .u32 0, .int .i64 0, .int .i64 0, .slice none 0 0])
  refine (dc_uid HD2.out).mono ?_
  rintro x w3 ⟨rfl, hD3⟩
  have HD3 := Lib.hid hD3
  generalize w2.heap.size = b at *
  have e2 := HD3.out.cell 3 _ rfl
  have f2 := HD3.out.froz 3
  clear hD3 HD2 he HR2
  have he := IntWalk.u32_in (uidN L : Nat) (by have := HU.out; omega)
  go_wp2_with fail
  have HD4 := Lib.hid (HD3.out.set 3 (.int .u32 (uidN L)) rfl)
  generalize w3.setCell ⟨b, 3, none⟩ (.int .u32 (uidN L)) = w4 at *
  clear HD3 e2 f2 he
  have HDn := Lib.hid (dc_Done HD4.out)
  have HK := HOK.out
  clear HOK
  generalize decide (LU L = some []) = DD at *
  generalize formedB 3 (epN L) ⟨#[]⟩ (uidN L) 0 0 0 = FF at *
  generalize hui : uidN L = ui at *
  have Eui := Lib.hid hui
  clear hui
  generalize hep : epN L = ep at *
  have Eep := Lib.hid hep
  clear hep
  have HK := Lib.hid HK
  refine HDn.out.mono ?_
  rintro x w9 ⟨rfl, rfl⟩
  clear HDn
  cases DD
  · · clear HF
      have r0 := cell_at (HRC.out _ HD4.out.1.bel) 0 _ rfl
      have s0 := frozen_of_row _ _ 0 _ _ (HRC.out _ HD4.out.1.bel)
      have r1 := cell_at (HRC.out _ HD4.out.1.bel) 1 _ rfl
      have s1 := frozen_of_row _ _ 1 _ _ (HRC.out _ HD4.out.1.bel)
      have r2 := cell_at (HRC.out _ HD4.out.1.bel) 2 _ rfl
      have s2 := frozen_of_row _ _ 2 _ _ (HRC.out _ HD4.out.1.bel)
      have r3 := cell_at (HRC.out _ HD4.out.1.bel) 3 _ rfl
      have s3 := frozen_of_row _ _ 3 _ _ (HRC.out _ HD4.out.1.bel)
      have r4 := cell_at (HRC.out _ HD4.out.1.bel) 4 _ rfl
      have s4 := frozen_of_row _ _ 4 _ _ (HRC.out _ HD4.out.1.bel)
      have r5 := cell_at (HRC.out _ HD4.out.1.bel) 5 _ rfl
      have s5 := frozen_of_row _ _ 5 _ _ (HRC.out _ HD4.out.1.bel)
      have r6 := cell_at (HRC.out _ HD4.out.1.bel) 6 _ rfl
      have s6 := frozen_of_row _ _ 6 _ _ (HRC.out _ HD4.out.1.bel)
      go_wp2_with fail
      have h7 := seven (HRC.out _ HD4.out.1.bel) rfl (.int .i64 0) (.int .u32 0) (.string ⟨#[]⟩) (.int .u32 0) (.int .i64 0) (.int .i64 0) (.slice none 0 0)
      exact bodyPost_ret (results_note Tryz.results205 _ _ W.heap.size _ _ _ _ rfl h7.1 Tryz.underlying149 rfl (noteSize _ rfl)) rfl ⟨by rw [show ok3 L = false from HK.out]; rfl, h7.2.2 _ _ (HBW.out.trans (HD4.out.1.bel.mono HBW.out.size)) (Nat.le_refl _)⟩
  · cases FF
    · --A
      have c0 := HD4.out.cell 0 _ rfl
      have c1 := HD4.out.cell 1 _ rfl
      have c2 := HD4.out.cell 2 _ rfl
      have c3 := HD4.out.cell 3 _ rfl
      have c4 := HD4.out.cell 4 _ rfl
      have c5 := HD4.out.cell 5 _ rfl
      have c6 := HD4.out.cell 6 _ rfl
      go_wp2_with (go_at_call 155; refine (HF.out _ (HFit.out _ HD4.out.1.bel)).mono ?_; rintro x w5 ⟨rfl, hb5⟩; have HD5 := Lib.hid (HD4.out.below hb5); clear hb5 c0 c1 c2 c3 c4 c5 c6; have r0 := cell_at (HRC.out _ HD5.out.1.bel) 0 _ rfl; have s0 := frozen_of_row _ _ 0 _ _ (HRC.out _ HD5.out.1.bel); have r1 := cell_at (HRC.out _ HD5.out.1.bel) 1 _ rfl; have s1 := frozen_of_row _ _ 1 _ _ (HRC.out _ HD5.out.1.bel); have r2 := cell_at (HRC.out _ HD5.out.1.bel) 2 _ rfl; have s2 := frozen_of_row _ _ 2 _ _ (HRC.out _ HD5.out.1.bel); have r3 := cell_at (HRC.out _ HD5.out.1.bel) 3 _ rfl; have s3 := frozen_of_row _ _ 3 _ _ (HRC.out _ HD5.out.1.bel); have r4 := cell_at (HRC.out _ HD5.out.1.bel) 4 _ rfl; have s4 := frozen_of_row _ _ 4 _ _ (HRC.out _ HD5.out.1.bel); have r5 := cell_at (HRC.out _ HD5.out.1.bel) 5 _ rfl; have s5 := frozen_of_row _ _ 5 _ _ (HRC.out _ HD5.out.1.bel); have r6 := cell_at (HRC.out _ HD5.out.1.bel) 6 _ rfl; have s6 := frozen_of_row _ _ 6 _ _ (HRC.out _ HD5.out.1.bel))
      have h7 := seven (HRC.out _ HD5.out.1.bel) rfl (.int .i64 0) (.int .u32 0) (.string ⟨#[]⟩) (.int .u32 0) (.int .i64 0) (.int .i64 0) (.slice none 0 0)
      exact bodyPost_ret (results_note Tryz.results205 _ _ W.heap.size _ _ _ _ rfl h7.1 Tryz.underlying149 rfl (noteSize _ rfl)) rfl ⟨by rw [show ok3 L = false from HK.out]; rfl, h7.2.2 _ _ (HBW.out.trans (HD5.out.1.bel.mono HBW.out.size)) (Nat.le_refl _)⟩
    · --B
      have c0 := HD4.out.cell 0 _ rfl
      have c1 := HD4.out.cell 1 _ rfl
      have c2 := HD4.out.cell 2 _ rfl
      have c3 := HD4.out.cell 3 _ rfl
      have c4 := HD4.out.cell 4 _ rfl
      have c5 := HD4.out.cell 5 _ rfl
      have c6 := HD4.out.cell 6 _ rfl
      go_wp2_with (go_at_call 155; refine (HF.out _ (HFit.out _ HD4.out.1.bel)).mono ?_; rintro x w5 ⟨rfl, hb5⟩; have HD5 := Lib.hid (HD4.out.below hb5); clear hb5 c0 c1 c2 c3 c4 c5 c6; have c0 := HD5.out.cell 0 _ rfl; have c1 := HD5.out.cell 1 _ rfl; have c2 := HD5.out.cell 2 _ rfl; have c3 := HD5.out.cell 3 _ rfl; have c4 := HD5.out.cell 4 _ rfl; have c5 := HD5.out.cell 5 _ rfl; have c6 := HD5.out.cell 6 _ rfl; have r0 := cell_at (HRC.out _ HD5.out.1.bel) 0 _ rfl; have s0 := frozen_of_row _ _ 0 _ _ (HRC.out _ HD5.out.1.bel); have r1 := cell_at (HRC.out _ HD5.out.1.bel) 1 _ rfl; have s1 := frozen_of_row _ _ 1 _ _ (HRC.out _ HD5.out.1.bel); have r2 := cell_at (HRC.out _ HD5.out.1.bel) 2 _ rfl; have s2 := frozen_of_row _ _ 2 _ _ (HRC.out _ HD5.out.1.bel); have r3 := cell_at (HRC.out _ HD5.out.1.bel) 3 _ rfl; have s3 := frozen_of_row _ _ 3 _ _ (HRC.out _ HD5.out.1.bel); have r4 := cell_at (HRC.out _ HD5.out.1.bel) 4 _ rfl; have s4 := frozen_of_row _ _ 4 _ _ (HRC.out _ HD5.out.1.bel); have r5 := cell_at (HRC.out _ HD5.out.1.bel) 5 _ rfl; have s5 := frozen_of_row _ _ 5 _ _ (HRC.out _ HD5.out.1.bel); have r6 := cell_at (HRC.out _ HD5.out.1.bel) 6 _ rfl; have s6 := frozen_of_row _ _ 6 _ _ (HRC.out _ HD5.out.1.bel))
      have h7 := seven (HRC.out _ HD5.out.1.bel) rfl (.int .i64 3) (.int .u32 ep) (.string ⟨#[]⟩) (.int .u32 ui) (.int .i64 0) (.int .i64 0) (.slice none 0 0)
      exact bodyPost_ret (results_note Tryz.results205 _ _ W.heap.size _ _ _ _ rfl h7.1 Tryz.underlying149 rfl (noteSize _ rfl)) rfl ⟨by rw [show ok3 L = true from HK.out, Eui.out, Eep.out]; rfl, h7.2.2 _ _ (HBW.out.trans (HD5.out.1.bel.mono HBW.out.size)) (Nat.le_refl _)⟩
set_option maxHeartbeats 1000000 in
theorem decode0 (W : World) (k : Int) (h1 : k ≠ 1) (h2 : k ≠ 2) (h3 : k ≠ 3) (A : Option Addr) (n c : Nat) (L : List Nat) (hB : Bytes W A n L) (hn : n ≤ 100000) (hr : Fit W) :
    Calls Tryz.prog 205 #[.int .i64 k, .slice A n c] W fun x w' => x = .returned (tup false #[]) ∧ Below W.heap.size W w' := by
  obtain ⟨W1, hW1⟩ : ∃ W1, W1 = W.alloc (.cells zeroN 149) := ⟨_, rfl⟩
  have HBW := Lib.hid (show Below W.heap.size W W1 by rw [hW1]; exact (Below.refl _ _).alloc (Nat.le_refl _) _)
  have HWS := Lib.hid (show W.heap.size < W1.heap.size by rw [hW1]; simp)
  have HRC := Lib.hid (fun (w1 : World) (h : Below W1.heap.size W1 w1) => (boxed (w := W) (o := .cells zeroN 149) (w1 := w1) (by rw [← hW1]; exact h)).1)
  have HFit := Lib.hid (fun (w1 : World) (h : Below W1.heap.size W1 w1) => hr.below (HBW.out.trans (h.mono HBW.out.size)))
  have HNW := Lib.hid (rd_new W1 A n c L (hB.below hB.lt HBW.out) (by omega))
  have hb := hB.2.1
  have HL := Lib.hid hb
  have HEP := Lib.hid (ep_lt hb)
  have HW1 := Lib.hid hW1
  have HOK : Hid (false = false) := rfl
  have hF := fun w hr => formed_any w k (epN L) 0 ⟨#[]⟩ 0 0 none 0 0 (by decide) hr
  rw [formed_other h1 h2 h3] at hF
  have HF := Lib.hid hF
  have e1 : (k == 1) = false := by rw [beq_eq_false_iff_ne]; exact h1
  have e2 : (k == 2) = false := by rw [beq_eq_false_iff_ne]; exact h2
  have e3 : (k == 3) = false := by rw [beq_eq_false_iff_ne]; exact h3
  clear h1 h2 h3 hW1 hB hn hr hb hF
  go_enter Tryz.func205, Tryz.ntmps205
  go_wp2_with fail
  rw [show (#[.int .i64 0, .int .u32 0, .string ⟨#[]⟩, .int .u32 0, .int .i64 0, .int .i64 0, .slice none 0 0] : Array Value) = zeroN from rfl, ← HW1.out]
  refine HNW.out.mono ?_
  rintro x w1 ⟨q, g, rfl, hR1⟩
  have HR1 := Lib.hid hR1
  clear hR1 HNW
  go_wp2_with fail
  refine (rd_ep HR1.out).mono ?_
  rintro x w2 ⟨rfl, hR2⟩
  have HR2 := Lib.hid hR2
  have he := IntWalk.u32_in (epN L : Nat) (by have := HEP.out; omega)
  clear hR2 HR1
  go_wp2_with fail
  have HD2 := Lib.hid (dc_start HR2.out #[.int .i64 k, .int .u32 (epN L), .string ⟨#[]⟩, .int .u32 0, .int .i64 0, .int .i64 0, .slice none 0 0])
  generalize w2.alloc _ = w4 at *
  generalize w2.heap.size = b at *
  clear he HR2
  have HDn := Lib.hid (dc_Done HD2.out)
  have HK := HOK.out
  clear HOK
  generalize decide (LA L = some []) = DD at *
  generalize hep : epN L = ep at *
  have Eep := Lib.hid hep
  clear hep
  have HK := Lib.hid HK
  refine HDn.out.mono ?_
  rintro x w9 ⟨rfl, rfl⟩
  clear HDn
  cases DD
  · · clear HF
      have r0 := cell_at (HRC.out _ HD2.out.1.bel) 0 _ rfl
      have s0 := frozen_of_row _ _ 0 _ _ (HRC.out _ HD2.out.1.bel)
      have r1 := cell_at (HRC.out _ HD2.out.1.bel) 1 _ rfl
      have s1 := frozen_of_row _ _ 1 _ _ (HRC.out _ HD2.out.1.bel)
      have r2 := cell_at (HRC.out _ HD2.out.1.bel) 2 _ rfl
      have s2 := frozen_of_row _ _ 2 _ _ (HRC.out _ HD2.out.1.bel)
      have r3 := cell_at (HRC.out _ HD2.out.1.bel) 3 _ rfl
      have s3 := frozen_of_row _ _ 3 _ _ (HRC.out _ HD2.out.1.bel)
      have r4 := cell_at (HRC.out _ HD2.out.1.bel) 4 _ rfl
      have s4 := frozen_of_row _ _ 4 _ _ (HRC.out _ HD2.out.1.bel)
      have r5 := cell_at (HRC.out _ HD2.out.1.bel) 5 _ rfl
      have s5 := frozen_of_row _ _ 5 _ _ (HRC.out _ HD2.out.1.bel)
      have r6 := cell_at (HRC.out _ HD2.out.1.bel) 6 _ rfl
      have s6 := frozen_of_row _ _ 6 _ _ (HRC.out _ HD2.out.1.bel)
      go_wp2_with fail
      have h7 := seven (HRC.out _ HD2.out.1.bel) rfl (.int .i64 0) (.int .u32 0) (.string ⟨#[]⟩) (.int .u32 0) (.int .i64 0) (.int .i64 0) (.slice none 0 0)
      exact bodyPost_ret (results_note Tryz.results205 _ _ W.heap.size _ _ _ _ rfl h7.1 Tryz.underlying149 rfl (noteSize _ rfl)) rfl ⟨rfl, h7.2.2 _ _ (HBW.out.trans (HD2.out.1.bel.mono HBW.out.size)) (Nat.le_refl _)⟩
  · · --A
      have c0 := HD2.out.cell 0 _ rfl
      have c1 := HD2.out.cell 1 _ rfl
      have c2 := HD2.out.cell 2 _ rfl
      have c3 := HD2.out.cell 3 _ rfl
      have c4 := HD2.out.cell 4 _ rfl
      have c5 := HD2.out.cell 5 _ rfl
      have c6 := HD2.out.cell 6 _ rfl
      go_wp2_with (go_at_call 155; refine (HF.out _ (HFit.out _ HD2.out.1.bel)).mono ?_; rintro x w5 ⟨rfl, hb5⟩; have HD5 := Lib.hid (HD2.out.below hb5); clear hb5 c0 c1 c2 c3 c4 c5 c6; have r0 := cell_at (HRC.out _ HD5.out.1.bel) 0 _ rfl; have s0 := frozen_of_row _ _ 0 _ _ (HRC.out _ HD5.out.1.bel); have r1 := cell_at (HRC.out _ HD5.out.1.bel) 1 _ rfl; have s1 := frozen_of_row _ _ 1 _ _ (HRC.out _ HD5.out.1.bel); have r2 := cell_at (HRC.out _ HD5.out.1.bel) 2 _ rfl; have s2 := frozen_of_row _ _ 2 _ _ (HRC.out _ HD5.out.1.bel); have r3 := cell_at (HRC.out _ HD5.out.1.bel) 3 _ rfl; have s3 := frozen_of_row _ _ 3 _ _ (HRC.out _ HD5.out.1.bel); have r4 := cell_at (HRC.out _ HD5.out.1.bel) 4 _ rfl; have s4 := frozen_of_row _ _ 4 _ _ (HRC.out _ HD5.out.1.bel); have r5 := cell_at (HRC.out _ HD5.out.1.bel) 5 _ rfl; have s5 := frozen_of_row _ _ 5 _ _ (HRC.out _ HD5.out.1.bel); have r6 := cell_at (HRC.out _ HD5.out.1.bel) 6 _ rfl; have s6 := frozen_of_row _ _ 6 _ _ (HRC.out _ HD5.out.1.bel))
      have h7 := seven (HRC.out _ HD5.out.1.bel) rfl (.int .i64 0) (.int .u32 0) (.string ⟨#[]⟩) (.int .u32 0) (.int .i64 0) (.int .i64 0) (.slice none 0 0)
      exact bodyPost_ret (results_note Tryz.results205 _ _ W.heap.size _ _ _ _ rfl h7.1 Tryz.underlying149 rfl (noteSize _ rfl)) rfl ⟨rfl, h7.2.2 _ _ (HBW.out.trans (HD5.out.1.bel.mono HBW.out.size)) (Nat.le_refl _)⟩
end Go.Proofs.YthhflkgngencdaaGreatDoor.bod
namespace Go.Proofs.YthhflkgngencdaaGreatDoor.held
open Go
set_option linter.unusedVariables false

variable {P : Program} {ops : Array Oper} {Q : Exit → Act → World → Prop} {md : Region.Mode} {S : World → Prop} {last : Nat}

/-- Whatever order is picked from here on, and S holds behind every operation but the last. -/
def wpAnyG (P : Program) (md : Region.Mode) (ops : Array Oper) (Q : Exit → Act → World → Prop) (S : World → Prop) (last : Nat) : Nat → Array Bool → Act → World → Prop
  | 0, listed, a, w => Region.ready md ops listed = [] ∧ Q .normal a w
  | fuel + 1, listed, a, w =>
    (Region.ready md ops listed = [] → Q .normal a w) ∧
    ∀ i ∈ Region.ready md ops listed, wpOp P ops Q i (fun a' w' => (i ≠ last → S w') ∧ wpAnyG P md ops Q S last fuel (listed.setIfInBounds i true) a' w') a w
def AllReadyG (P : Program) (md : Region.Mode) (ops : Array Oper) (Q : Exit → Act → World → Prop) (S : World → Prop) (last : Nat) (fuel : Nat) (listed : Array Bool) (a : Act) (w : World) (rs : List Nat) : Prop :=
  ∀ i ∈ rs, wpOp P ops Q i (fun a' w' => (i ≠ last → S w') ∧ wpAnyG P md ops Q S last fuel (listed.setIfInBounds i true) a' w') a w
theorem AllReadyG.nil {fuel : Nat} {listed : Array Bool} {a : Act} {w : World} : AllReadyG P md ops Q S last fuel listed a w [] := fun _ h => by cases h
theorem AllReadyG.cons {fuel : Nat} {listed : Array Bool} {a : Act} {w : World} {i : Nat} {o : Oper} {rs : List Nat} (ho : ops[i]? = some o)
    (h : ∀ K' : Act → World → Prop, Shut (∀ a w, (i ≠ last → S w) → ((i ≠ last → S w) → wpAnyG P md ops Q S last fuel (listed.setIfInBounds i true) a w) → K' a w) → if Region.wanted o (yielded ops a.tmps) = true then Oper.wp P o a w K' Q else K' (a.put o.dst undef) w)
    (hs : AllReadyG P md ops Q S last fuel listed a w rs) : AllReadyG P md ops Q S last fuel listed a w (i :: rs) := fun j hj => by
  rcases List.mem_cons.1 hj with rfl | hj
  · exact wpOp_step ho (fun K' hK => h K' (fun a w hS hW => hK a w ⟨hS, hW hS⟩))
  · exact hs j hj
end Go.Proofs.YthhflkgngencdaaGreatDoor.held
namespace Go.Proofs.YthhflkgngencdaaGreatDoor.row
open Go.ChangeShapes Go.WideShapes Go.ChangeAt Go.RowKit
set_option linter.unusedVariables false
set_option maxRecDepth 100000
set_option linter.unusedSimpArgs false
end Go.Proofs.YthhflkgngencdaaGreatDoor.row
namespace Go.Proofs.YthhflkgngencdaaGreatDoor.idx
open Go.ChangeShapes Go.WideShapes Go.ChangeAt Go.RowKit
open Go.Proofs.YthhflkgngencdaaGreatDoor.row
open Go.Proofs.YthhflkgngencdaaGreatDoor.codec (Bytes OutIs More bytesOf bytesOf_length strOf numOf)
open Go.Proofs.YthhflkgngencdaaGreatDoor.rd (got rest rd_N rd_Text rd_Done rest_lt)
open Go.Proofs.YthhflkgngencdaaGreatDoor.pg (payL)
set_option linter.unusedVariables false
set_option maxRecDepth 100000
set_option linter.unusedSimpArgs false

/-- A reader at q that has L left, and a thing at b. -/
def Dx (W : World) (q g : Nat) (L : Option (List Nat)) (b : Nat) (cs : Array Value) (t : TypeId) (w : World) : Prop :=
  rd.Rd W q g L w ∧ w.heap[b]? = some (.cells cs t (0, 0)) ∧ b ≠ q ∧ b ≠ g ∧ W.heap.size ≤ b
theorem Dx.lt {W w : World} {q g b : Nat} {L : Option (List Nat)} {cs : Array Value} {t : TypeId} (h : Dx W q g L b cs t w) : b < w.heap.size := (Array.getElem?_eq_some_iff.1 h.2.1).1
theorem Dx.touch {W w w' : World} {q g b : Nat} {L L' : Option (List Nat)} {cs : Array Value} {t : TypeId} (h : Dx W q g L b cs t w) (hR : rd.Rd W q g L' w') (ht : codec.Touch (fun i => i = q) w w') : Dx W q g L' b cs t w' :=
  ⟨hR, (ht.2.2.2.2 b h.lt h.2.2.1).trans h.2.1, h.2.2⟩
theorem Dx.below {W w w' : World} {q g b : Nat} {L : Option (List Nat)} {cs : Array Value} {t : TypeId} (h : Dx W q g L b cs t w) (hb : Below w.heap.size w w') : Dx W q g L b cs t w' :=
  ⟨h.1.below hb, (hb.block b h.lt).trans h.2.1, h.2.2⟩
theorem Dx.set {W w : World} {q g b : Nat} {L : Option (List Nat)} {cs cs' : Array Value} {t : TypeId} (h : Dx W q g L b cs t w) (i : Nat) (v : Value) (hc : cs.setIfInBounds i v = cs') : Dx W q g L b cs' t (w.setCell ⟨b, i, none⟩ v) :=
  ⟨bod.rd_other h.1 h.2.2.1 h.2.2.2.1 h.2.2.2.2 i v, by rw [heap_setCell_same _ _ _ _ _ _ h.2.1, hc], h.2.2⟩
theorem Dx.cell {W w : World} {q g b : Nat} {L : Option (List Nat)} {cs : Array Value} {t : TypeId} (h : Dx W q g L b cs t w) (i : Nat) (v : Value) (hv : cs[i]? = some v) : w.cell? ⟨b, i, none⟩ = some v := cell_at h.2.1 i v hv
/-- Bytes all of it. -/
def Oc (L : Option (List Nat)) : Prop := ∀ l, L = some l → ∀ b ∈ l, b < 256
theorem Oc.rest {L : Option (List Nat)} (h : Oc L) (k : Nat) : Oc (rest k L) := rest_lt k h
theorem Oc.lt {L : Option (List Nat)} (h : Oc L) : Oc (lt L) := (h.rest 2).rest _
/-- A reader, a thing whose last cell is a row of what was read, while k are still to come. -/
def IS (kk : Nat) (E0 : TypeId) (W : World) (B q g b : Nat) (T : List E × Option (List Nat)) (k : Nat) (L : Option (List Nat)) (acc : List E) (hd : List Value) (t : TypeId) (w : World) (v : Value) : Prop :=
  GS cE 2 (oneE kk) W B q g E0 T k L v acc w ∧ w.heap[b]? = some (.cells (hd ++ [v]).toArray t (0, 0)) ∧ b ≠ q ∧ b ≠ g ∧ W.heap.size ≤ b ∧ b < B ∧ Oc L
theorem gs_touch {α : Type} {F : α → List Value} {K : Nat} {one : Option (List Nat) → α × Option (List Nat)} {W : World} {B q g b : Nat} {E : TypeId} {T : List α × Option (List Nat)} {k : Nat} {L : Option (List Nat)} {v : Value} {acc : List α} {w : World} (h : GS F K one W B q g E T k L v acc w) (h1 : b ≠ q) (h2 : b ≠ g) (h3 : W.heap.size ≤ b) (h4 : b < B) (i : Nat) (u : Value) :
    GS F K one W B q g E T k L v acc (w.setCell ⟨b, i, none⟩ u) :=
  ⟨bod.rd_other h.1 h1 h2 h3 i u, h.2.1.touch ((codec.Touch.refl (fun j => j = b) w).setCell ⟨b, i, none⟩ (.inr rfl) u) (fun g' e hg' => by have := (h.2.1.lt e).1; omega), h.2.2.1, h.2.2.2.1, h.2.2.2.2.1, h.2.2.2.2.2.1, h.2.2.2.2.2.2.1, by have := h.2.2.2.2.2.2.2; simpa using this⟩
theorem set_last (hd : List Value) (v v' : Value) : (hd ++ [v]).toArray.setIfInBounds hd.length v' = (hd ++ [v']).toArray := by
  simp
/-- One more was read, and its row stored anew. -/
theorem IS.more {kk : Nat} {E0 : TypeId} {W : World} {B q g b : Nat} {T : List E × Option (List Nat)} {k : Nat} {l : List Nat} {acc : List E} {hd : List Value} {t : TypeId} {w w1 w2 : World} {v v' : Value} {j : Nat} (hj : j = hd.length) (h : IS kk E0 W B q g b T (k + 1) (some l) acc hd t w v)
    (hR : rd.Rd W q g (oneE kk (some l)).2 w1) (hB : B ≤ w1.heap.size) (ho1 : Own cE 2 B E0 w1 v acc) (hb1 : w1.heap[b]? = some (.cells (hd ++ [v]).toArray t (0, 0))) (ho : Own cE 2 B E0 w2 v' (acc ++ [(oneE kk (some l)).1])) (hg : w1.grownBy w2 v.ownBlock) :
    IS kk E0 W B q g b T k (oneE kk (some l)).2 (acc ++ [(oneE kk (some l)).1]) hd t (w2.setCell ⟨b, j, none⟩ v') v' := by
  subst hj
  obtain ⟨hgs, -, h2, h3, h4, h5, h6⟩ := h
  have hm := GS.more hgs hR hB ho1 ho hg
  refine ⟨gs_touch hm h2 h3 h4 h5 _ _, ?_, h2, h3, h4, h5, ?_⟩
  · have e : w2.heap[b]? = some (.cells (hd ++ [v]).toArray t (0, 0)) := by
      rw [hg.block b (by omega) (fun e => by have := (ho1.lt e.symm).1; omega)]
      exact hb1
    rw [heap_setCell_same _ _ _ _ _ _ e, set_last]
  · exact (h6.rest 4).rest kk
theorem five {w : World} {g : Nat} {t : TypeId} {cs : Array Value} (h : w.heap[g]? = some (.cells cs t (0, 0))) (hs : cs.size = 5) (v0 v1 v2 v3 v4 : Value) :
    (((((w.setCell ⟨g, 0, none⟩ v0).setCell ⟨g, 1, none⟩ v1).setCell ⟨g, 2, none⟩ v2).setCell ⟨g, 3, none⟩ v3).setCell ⟨g, 4, none⟩ v4).heap[g]? = some (.cells #[v0, v1, v2, v3, v4] t (0, 0)) ∧
    (∀ k, k ≠ g → (((((w.setCell ⟨g, 0, none⟩ v0).setCell ⟨g, 1, none⟩ v1).setCell ⟨g, 2, none⟩ v2).setCell ⟨g, 3, none⟩ v3).setCell ⟨g, 4, none⟩ v4).heap[k]? = w.heap[k]?) ∧
    ∀ (B : Nat) (a : World), Below B a w → B ≤ g → Below B a (((((w.setCell ⟨g, 0, none⟩ v0).setCell ⟨g, 1, none⟩ v1).setCell ⟨g, 2, none⟩ v2).setCell ⟨g, 3, none⟩ v3).setCell ⟨g, 4, none⟩ v4) := by
  refine ⟨?_, fun k hk => by rw [heap_setCell_other _ _ _ _ hk, heap_setCell_other _ _ _ _ hk, heap_setCell_other _ _ _ _ hk, heap_setCell_other _ _ _ _ hk, heap_setCell_other _ _ _ _ hk], fun B a hb hg => ((((hb.setCell (p := ⟨g, 0, none⟩) hg _).setCell (p := ⟨g, 1, none⟩) hg _).setCell (p := ⟨g, 2, none⟩) hg _).setCell (p := ⟨g, 3, none⟩) hg _).setCell (p := ⟨g, 4, none⟩) hg _⟩
  rw [heap_setCell_same _ g 4 _ t _ (heap_setCell_same _ g 3 _ t _ (heap_setCell_same _ g 2 _ t _ (heap_setCell_same _ g 1 _ t _ (heap_setCell_same _ g 0 _ t _ h))))]
  obtain ⟨l⟩ := cs
  have hl : l.length = 5 := hs
  match l, hl with
  | [a0, a1, a2, a3, a4], _ => rfl
theorem twoC {w : World} {g : Nat} {t : TypeId} {cs : Array Value} (h : w.heap[g]? = some (.cells cs t (0, 0))) (hs : cs.size = 2) (v0 v1 : Value) :
    ((w.setCell ⟨g, 0, none⟩ v0).setCell ⟨g, 1, none⟩ v1).heap[g]? = some (.cells #[v0, v1] t (0, 0)) ∧
    (∀ k, k ≠ g → ((w.setCell ⟨g, 0, none⟩ v0).setCell ⟨g, 1, none⟩ v1).heap[k]? = w.heap[k]?) ∧
    ∀ (B : Nat) (a : World), Below B a w → B ≤ g → Below B a ((w.setCell ⟨g, 0, none⟩ v0).setCell ⟨g, 1, none⟩ v1) := by
  refine ⟨?_, fun k hk => by rw [heap_setCell_other _ _ _ _ hk, heap_setCell_other _ _ _ _ hk], fun B a hb hg => (hb.setCell (p := ⟨g, 0, none⟩) hg _).setCell (p := ⟨g, 1, none⟩) hg _⟩
  rw [heap_setCell_same _ g 1 _ t _ (heap_setCell_same _ g 0 _ t _ h)]
  obtain ⟨l⟩ := cs
  have hl : l.length = 2 := hs
  match l, hl with
  | [a0, a1], _ => rfl
theorem infoE : (Tryz.prog.info? 261).map (fun i => (i.zero, i.size, i.bytes)) = some (some (.agg #[.int .u32 0, .int .i64 0]), 2, 16) := by kernel_rfl
theorem infoK : (Tryz.prog.info? 218).map (fun i => (i.zero, i.size, i.bytes)) = some (some (.agg #[.int .u32 0, .int .i64 0]), 2, 16) := by kernel_rfl
theorem sizeX (cs : Array Value) (h : cs.size = 5) : (Tryz.prog.info? 208).map (·.size) = some cs.size := by
  rw [h]
  kernel_rfl
theorem sizeF (cs : Array Value) (h : cs.size = 2) : (Tryz.prog.info? 210).map (·.size) = some cs.size := by
  rw [h]
  kernel_rfl
end Go.Proofs.YthhflkgngencdaaGreatDoor.idx
namespace Go.Proofs.YthhflkgngencdaaGreatDoor.idx
open Go.ChangeShapes Go.WideShapes Go.ChangeAt Go.RowKit
open Go.Proofs.YthhflkgngencdaaGreatDoor.row
open Go.Proofs.YthhflkgngencdaaGreatDoor.codec (Bytes OutIs More bytesOf bytesOf_length strOf numOf)
open Go.Proofs.YthhflkgngencdaaGreatDoor.rd (got rest rd_N rd_Text rd_Done rest_lt)
open Go.Proofs.YthhflkgngencdaaGreatDoor.pg (payL)
set_option linter.unusedVariables false
set_option maxRecDepth 100000
set_option linter.unusedSimpArgs false

theorem own_other {α : Type} {F : α → List Value} {K B r : Nat} {E : TypeId} {w w' : World} {v : Value} {ys : List α} (h : Own F K B E w v ys) (hk : ∀ k, k ≠ r → w'.heap[k]? = w.heap[k]?) (hv : ∀ g, v.ownBlock = some g → ¬ g = r) : Own F K B E w' v ys := by
  refine ⟨h.1, h.2.imp id fun ⟨g, cap, cur, h1, h2, h3, h4⟩ => ⟨g, cap, cur, h1, h2, ?_, h4⟩⟩
  rw [hk g (hv g (by rw [h1]; rfl))]
  exact h3
end Go.Proofs.YthhflkgngencdaaGreatDoor.idx
namespace Go.Proofs.YthhflkgngencdaaGreatDoor.idx
open Go.ChangeShapes Go.WideShapes Go.ChangeAt Go.RowKit
open Go.Proofs.YthhflkgngencdaaGreatDoor.row
open Go.Proofs.YthhflkgngencdaaGreatDoor.codec (Bytes OutIs More bytesOf bytesOf_length strOf numOf)
open Go.Proofs.YthhflkgngencdaaGreatDoor.rd (got rest rd_N rd_Text rd_Done rest_lt)
open Go.Proofs.YthhflkgngencdaaGreatDoor.pg (payL)
set_option linter.unusedVariables false
set_option maxRecDepth 100000
set_option linter.unusedSimpArgs false

end Go.Proofs.YthhflkgngencdaaGreatDoor.idx
namespace Go.Proofs.YthhflkgngencdaaGreatDoor.lg
open Go.Proofs.YthhflkgngencdaaGreatDoor.bod (formedB payL named fitsB emptyB named_size ok1 ok2 ok3 epN uidN datN flaN octN LA LF TX says1 says2 says3 back1 back2 back3 ep_lt uid_lt)
set_option linter.unusedVariables false
set_option linter.unusedSimpArgs false

/-- A note. -/
structure Nt where
  k : Nat
  e : Nat
  s : ByteArray
  u : Nat
  d : Int
  f : Int
  o : List Nat
def Nt.ok (n : Nt) : Prop := formedB (n.k : Nat) n.e n.s n.u n.d n.f n.o.length = true ∧ n.e < 4294967296 ∧ n.u < 4294967296
def Nt.pay (n : Nt) : List Nat := payL (n.k : Nat) n.e n.s n.u n.d n.f n.o
theorem Nt.ok.parts {n : Nt} (h : n.ok) : 1 ≤ n.k ∧ n.k ≤ 3 ∧ (n.k = 1 → n.u = 0) ∧ (n.k ≠ 1 → 1 ≤ n.u) ∧ 1 ≤ n.e ∧ n.e < 4294967296 ∧ n.u < 4294967296 := by
  obtain ⟨h, he, hu⟩ := h
  unfold formedB at h
  split at h
  · simp only [Bool.and_eq_true, decide_eq_true_eq] at h
    omega
  · split at h
    · simp only [Bool.and_eq_true, decide_eq_true_eq] at h
      omega
    · split at h
      · simp only [Bool.and_eq_true, decide_eq_true_eq] at h
        omega
      · cases h
/-- What a record of a kind says. -/
def dec (k : Nat) (L : List Nat) : Option Nt :=
  if k = 1 then (if ok1 L = true then some ⟨1, epN L, TX (LA L), 0, 0, 0, []⟩ else none)
  else if k = 2 then (if ok2 L = true then some ⟨2, epN L, TX (LF L), uidN L, datN L, flaN L, octN L⟩ else none)
  else if k = 3 then (if ok3 L = true then some ⟨3, epN L, ByteArray.empty, uidN L, 0, 0, []⟩ else none)
  else none
theorem dec_ok {k : Nat} {L : List Nat} {n : Nt} (hb : ∀ b ∈ L, b < 256) (h : dec k L = some n) : n.ok ∧ n.k = k := by
  unfold dec at h
  split at h
  · rename_i hk
    split at h
    · rename_i ho
      cases h
      exact ⟨⟨(says1 hb ho).1, ep_lt hb, by show 0 < _; omega⟩, hk.symm⟩
    · cases h
  · split at h
    · rename_i hk
      split at h
      · rename_i ho
        cases h
        exact ⟨⟨(says2 hb ho).1, ep_lt hb, uid_lt hb⟩, hk.symm⟩
      · cases h
    · split at h
      · rename_i hk
        split at h
        · rename_i ho
          cases h
          exact ⟨⟨(says3 hb ho).1, ep_lt hb, uid_lt hb⟩, hk.symm⟩
        · cases h
      · cases h
theorem dec_back {n : Nt} (h : n.ok) : dec n.k n.pay = some n := by
  have hp := h.parts
  obtain ⟨k, e, s, u, d, f, o⟩ := n
  obtain ⟨hf, he, hu⟩ := h
  simp only [Nt.pay] at *
  by_cases h1 : k = 1
  · subst h1
    obtain ⟨k1, k2, k3, rfl, rfl, rfl, rfl⟩ := back1 he hf
    unfold dec
    rw [show ((1 : Nat) : Int) = 1 from rfl, if_pos rfl, if_pos k1]
    rw [k2, k3]
  · by_cases h2 : k = 2
    · subst h2
      obtain ⟨k1, k2, k3, k4, k5, k6, k7⟩ := back2 he hu hf
      unfold dec
      rw [show ((2 : Nat) : Int) = 2 from rfl, if_neg (by decide), if_pos rfl, if_pos k1]
      rw [k2, k3, k4, k5, k6, k7]
    · obtain rfl : k = 3 := by omega
      obtain ⟨k1, k2, k3, rfl, rfl, rfl, rfl⟩ := back3 he hu hf
      unfold dec
      rw [show ((3 : Nat) : Int) = 3 from rfl, if_neg (by decide), if_neg (by decide), if_pos rfl, if_pos k1]
      rw [k2, k3]

/-! What notes say. -/
def epo (l : List Nt) : Nat := l.foldl (fun a n => max a n.e) 0
def nmL (l : List Nt) : ByteArray := l.foldl (fun a n => if n.k = 3 then a else n.s) ByteArray.empty
def top (E : Nat) (l : List Nt) : Nat := l.foldl (fun a n => if n.e = E then max a n.u else a) 0
def nxt (g : Nat) : Nat := min g 4294967294 + 1
theorem epo_snoc (l : List Nt) (n : Nt) : epo (l ++ [n]) = max (epo l) n.e := by simp [epo]
theorem nmL_snoc (l : List Nt) (n : Nt) : nmL (l ++ [n]) = if n.k = 3 then nmL l else n.s := by simp [nmL]
theorem top_snoc (E : Nat) (l : List Nt) (n : Nt) : top E (l ++ [n]) = if n.e = E then max (top E l) n.u else top E l := by simp [top]
theorem take_next {α : Type} {l : List α} {i : Nat} {x : α} (h : l[i]? = some x) : l.take (i + 1) = l.take i ++ [x] := by
  rw [List.take_add_one, h]
  rfl
theorem epo_lt {l : List Nt} (h : ∀ n ∈ l, n.ok) : epo l < 4294967296 := by
  have : ∀ (l : List Nt) (a : Nat), a < 4294967296 → (∀ n ∈ l, n.ok) → l.foldl (fun a n => max a n.e) a < 4294967296 := by
    intro l
    induction l with
    | nil => intro a h _; exact h
    | cons n r ih =>
      intro a ha hl
      have := (hl n (by simp)).parts
      exact ih _ (by show max a n.e < _; omega) (fun m hm => hl m (by simp [hm]))
  exact this l 0 (by omega) h
theorem top_lt {E : Nat} {l : List Nt} (h : ∀ n ∈ l, n.ok) : top E l < 4294967296 := by
  have : ∀ (l : List Nt) (a : Nat), a < 4294967296 → (∀ n ∈ l, n.ok) → l.foldl (fun a n => if n.e = E then max a n.u else a) a < 4294967296 := by
    intro l
    induction l with
    | nil => intro a h _; exact h
    | cons n r ih =>
      intro a ha hl
      have := (hl n (by simp)).parts
      refine ih _ ?_ (fun m hm => hl m (by simp [hm]))
      simp only []
      split <;> omega
  exact this l 0 (by omega) h
/-! Which are live. -/
def gone (n : Nt) (r : List Nt) : Bool := decide (n.k ≠ 2) || r.any fun q => decide (q.k = 3 ∧ q.e = n.e ∧ q.u = n.u)
def livB (l : List Nt) (i : Nat) : Bool := match l[i]? with
  | some n => !gone n (l.drop (i + 1))
  | none => false
def pick {α : Type} (l : List α) (b : Nat → Bool) : Nat → List α
  | 0 => []
  | i + 1 => pick l b i ++ (if b i = true then (l[i]?).toList else [])
theorem pick_yes {α : Type} {l : List α} {b : Nat → Bool} {i : Nat} {x : α} (h : l[i]? = some x) (hb : b i = true) : pick l b (i + 1) = pick l b i ++ [x] := by
  rw [pick, if_pos hb, h]
  rfl
theorem pick_no {α : Type} {l : List α} {b : Nat → Bool} {i : Nat} (hb : b i = false) : pick l b (i + 1) = pick l b i := by
  rw [pick, if_neg (by rw [hb]; simp), List.append_nil]
theorem pick_map {α β : Type} (f : α → β) (l : List α) (b : Nat → Bool) : ∀ i, (pick l b i).map f = pick (l.map f) b i
  | 0 => rfl
  | i + 1 => by
    rw [pick, pick, List.map_append, pick_map f l b i]
    congr 1
    split
    · rw [List.getElem?_map]
      cases l[i]? <;> rfl
    · rfl
theorem pick_len {α : Type} (l : List α) (b : Nat → Bool) : ∀ i, (pick l b i).length ≤ i
  | 0 => Nat.le_refl _
  | i + 1 => by
    have := pick_len l b i
    rw [pick, List.length_append]
    have : (if b i = true then (l[i]?).toList else []).length ≤ 1 := by
      split
      · cases l[i]? <;> simp
      · simp
    omega
theorem pick_mem {α : Type} {l : List α} {b : Nat → Bool} {x : α} : ∀ i, x ∈ pick l b i → x ∈ l
  | 0, h => by cases h
  | i + 1, h => by
    rw [pick] at h
    rcases List.mem_append.1 h with h | h
    · exact pick_mem i h
    · split at h
      · cases hx : l[i]? with
        | none => rw [hx] at h; cases h
        | some y =>
          rw [hx] at h
          simp at h
          subst h
          exact List.mem_of_getElem? hx
      · cases h
/-- All live messages. -/
def lives (l : List Nt) : List Nt := pick l (livB l) l.length
/-- The last UID, and whether all was clean till there. -/
def stp (E : Nat) (st : Nat × Bool) (n : Nt) : Nat × Bool := (n.u, st.2 && decide (n.e = E ∧ st.1 < n.u ∧ n.u < 4294967295))
def cl (E : Nat) (l : List Nt) : Nat × Bool := l.foldl (stp E) (0, true)
theorem cl_snoc (E : Nat) (l : List Nt) (n : Nt) : cl E (l ++ [n]) = stp E (cl E l) n := by simp [cl]
theorem cl_false {E : Nat} : ∀ (l : List Nt) (st : Nat × Bool), st.2 = false → (l.foldl (stp E) st).2 = false
  | [], st, h => h
  | n :: r, st, h => cl_false r _ (by simp [stp, h])
theorem cl_stop {E : Nat} {l : List Nt} {i : Nat} (h : (cl E (l.take i)).2 = false) : (cl E l).2 = false := by
  have e : cl E l = (l.drop i).foldl (stp E) (cl E (l.take i)) := by
    unfold cl
    rw [← List.foldl_append, List.take_append_drop]
  rw [e]
  exact cl_false _ _ h
/-! UIDs that are given anew. -/
def withU (n : Nt) (u : Nat) : Nt := { n with u := u }
def ru {α : Type} (f : α → Nat → α) (l : List α) : Nat → List α
  | 0 => l
  | i + 1 => (ru f l i).modify i (fun x => f x (i + 1))
/-- The messages of the mailbox of notes. -/
def boxed (l : List Nt) : List Nt := if (cl (epo l) (lives l)).2 = true then lives l else ru withU (lives l) (lives l).length
/-! Where it was said last that one is gone. -/
def lastG (l : List (Nt × Nat)) (e u : Nat) : Option Nat := l.foldl (fun a x => if x.1.k = 3 ∧ x.1.e = e ∧ x.1.u = u then some x.2 else a) none
theorem lastG_snoc (l : List (Nt × Nat)) (x : Nt × Nat) (e u : Nat) : lastG (l ++ [x]) e u = if x.1.k = 3 ∧ x.1.e = e ∧ x.1.u = u then some x.2 else lastG l e u := by simp [lastG]
theorem fold_none {e u : Nat} : ∀ (l : List (Nt × Nat)) (a : Option Nat), (∀ x ∈ l, ¬ (x.1.k = 3 ∧ x.1.e = e ∧ x.1.u = u)) → l.foldl (fun a x => if x.1.k = 3 ∧ x.1.e = e ∧ x.1.u = u then some x.2 else a) a = a
  | [], a, _ => rfl
  | x :: r, a, h => by
    rw [List.foldl_cons, if_neg (h x (by simp))]
    exact fold_none r a (fun y hy => h y (by simp [hy]))
theorem fold_some {e u : Nat} : ∀ (l : List (Nt × Nat)) (a : Option Nat), (∃ x ∈ l, x.1.k = 3 ∧ x.1.e = e ∧ x.1.u = u) → ∃ x ∈ l, l.foldl (fun a x => if x.1.k = 3 ∧ x.1.e = e ∧ x.1.u = u then some x.2 else a) a = some x.2
  | [], a, h => by obtain ⟨x, hx, _⟩ := h; cases hx
  | x :: r, a, h => by
    rw [List.foldl_cons]
    by_cases hr : ∃ y ∈ r, y.1.k = 3 ∧ y.1.e = e ∧ y.1.u = u
    · obtain ⟨y, hy, h2⟩ := fold_some r (if x.1.k = 3 ∧ x.1.e = e ∧ x.1.u = u then some x.2 else a) hr
      exact ⟨y, by simp [hy], h2⟩
    · rw [fold_none r _ (fun y hy h => hr ⟨y, hy, h⟩)]
      obtain ⟨y, hy, h2⟩ := h
      rcases List.mem_cons.1 hy with rfl | hy
      · exact ⟨y, by simp, by rw [if_pos h2]⟩
      · exact absurd ⟨y, hy, h2⟩ hr
theorem fold_where {e u : Nat} : ∀ (l : List (Nt × Nat)) (a : Option Nat) (v : Nat), l.foldl (fun a x => if x.1.k = 3 ∧ x.1.e = e ∧ x.1.u = u then some x.2 else a) a = some v → a = some v ∨ ∃ x ∈ l, x.2 = v
  | [], a, v, h => Or.inl h
  | x :: r, a, v, h => by
    rw [List.foldl_cons] at h
    rcases fold_where r _ v h with h | ⟨y, hy, h⟩
    · split at h
      · exact Or.inr ⟨x, by simp, Option.some.inj h⟩
      · exact Or.inl h
    · exact Or.inr ⟨y, by simp [hy], h⟩
/-- A message is live just if it wasn't said behind it that it is gone. -/
theorem live_at {l : List (Nt × Nat)} (hp : l.Pairwise (fun a b => a.2 < b.2)) {i : Nat} {x : Nt × Nat} (hx : l[i]? = some x) (h2 : x.1.k = 2) : livB (l.map Prod.fst) i = (match lastG l x.1.e x.1.u with
    | none => true
    | some p => decide (p < x.2)) := by
  have hi := (List.getElem?_eq_some_iff.1 hx).1
  have hsplit : l = l.take i ++ (x :: l.drop (i + 1)) := by
    conv => lhs; rw [← List.take_append_drop i l]
    rw [List.drop_eq_getElem_cons hi, (List.getElem?_eq_some_iff.1 hx).2]
  have hlt : ∀ y ∈ l.drop (i + 1), x.2 < y.2 := by
    rw [hsplit] at hp
    have := (List.pairwise_append.1 hp).2.1
    exact (List.pairwise_cons.1 this).1
  have hgt : ∀ y ∈ l.take i, y.2 < x.2 := by
    rw [hsplit] at hp
    have := (List.pairwise_append.1 hp).2.2
    exact fun y hy => this y hy x (by simp)
  have hB : livB (l.map Prod.fst) i = !((l.drop (i + 1)).any fun q => decide (q.1.k = 3 ∧ q.1.e = x.1.e ∧ q.1.u = x.1.u)) := by
    unfold livB gone
    rw [List.getElem?_map, hx]
    simp only [Option.map_some, h2, ne_eq, not_true_eq_false, decide_false, Bool.false_or]
    rw [← List.map_drop, List.any_map]
    rfl
  have hl : lastG l x.1.e x.1.u = (l.drop (i + 1)).foldl (fun a y => if y.1.k = 3 ∧ y.1.e = x.1.e ∧ y.1.u = x.1.u then some y.2 else a) (lastG (l.take i) x.1.e x.1.u) := by
    unfold lastG
    conv => lhs; rw [hsplit]
    rw [List.foldl_append, List.foldl_cons, if_neg (by omega)]
  rw [hB, hl]
  by_cases hr : ∃ y ∈ l.drop (i + 1), y.1.k = 3 ∧ y.1.e = x.1.e ∧ y.1.u = x.1.u
  · obtain ⟨y, hy, h3⟩ := fold_some (l.drop (i + 1)) (lastG (l.take i) x.1.e x.1.u) hr
    rw [h3]
    have := hlt y hy
    have ha : (l.drop (i + 1)).any (fun q => decide (q.1.k = 3 ∧ q.1.e = x.1.e ∧ q.1.u = x.1.u)) = true := by
      obtain ⟨z, hz, hzz⟩ := hr
      exact List.any_eq_true.2 ⟨z, hz, by simpa using hzz⟩
    rw [ha]
    simp
    omega
  · have hn : ∀ y ∈ l.drop (i + 1), ¬ (y.1.k = 3 ∧ y.1.e = x.1.e ∧ y.1.u = x.1.u) := fun y hy h => hr ⟨y, hy, h⟩
    rw [fold_none _ _ hn]
    have ha : (l.drop (i + 1)).any (fun q => decide (q.1.k = 3 ∧ q.1.e = x.1.e ∧ q.1.u = x.1.u)) = false := by
      rw [List.any_eq_false]
      intro y hy
      simpa using hn y hy
    rw [ha]
    cases hv : lastG (l.take i) x.1.e x.1.u with
    | none => rfl
    | some p =>
      rcases fold_where _ _ _ hv with h | ⟨y, hy, h⟩
      · cases h
      · have := hgt y hy
        simp
        omega
theorem live_not {l : List Nt} {i : Nat} {n : Nt} (hx : l[i]? = some n) (h2 : n.k ≠ 2) : livB l i = false := by
  unfold livB gone
  rw [hx]
  simp [h2]
end Go.Proofs.YthhflkgngencdaaGreatDoor.lg
namespace Go.Proofs.YthhflkgngencdaaGreatDoor.idx
open Go.Proofs.YthhflkgngencdaaGreatDoor.lg (Nt pick livB pick_yes pick_no cl stp epo lives cl_snoc cl_false)
set_option linter.unusedVariables false
set_option linter.unusedSimpArgs false

end Go.Proofs.YthhflkgngencdaaGreatDoor.idx
