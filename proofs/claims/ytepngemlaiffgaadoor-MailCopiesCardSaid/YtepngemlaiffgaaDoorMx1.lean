/- Copy. -/
import Derived.Test.YtepngemlaiffgaaDoorMm9
namespace Go.Proofs.YtepngemlaiffgaaDoor.mal
open Go.ChangeShapes Go.WideShapes Go.ChangeAt Go.RowKit
open Go.Proofs.YtepngemlaiffgaaDoor.codec (Bytes vals)
open Go.Proofs.YtepngemlaiffgaaDoor.bod (cell_at Fit boxed named formedB fitsB)
open Go.Proofs.YtepngemlaiffgaaDoor.lg (Nt Y Rd Own Oct cM fM fl fl_at nts nts_at nts_len take_next)
set_option linter.unusedVariables false
set_option maxRecDepth 100000
set_option linter.unusedSimpArgs false

/-- What copying has come to: the messages, the next UID, the new UIDs, the error. -/
structure CS where
  l : List Nt
  X : Nat
  g : List Nat
  e : Nat
def cp1 (S : ByteArray) (E : Nat) (U : List Nat) (c : CS) (t : Nt) : CS :=
  if c.e ≠ 0 then c else if inB U t.u = false then c else if 500 ≤ c.l.length then { c with e := 5 } else if c.X = 4294967295 then { c with e := 4 } else ⟨c.l ++ [⟨2, E, S, c.X, t.d, t.f, t.o⟩], c.X + 1, c.g ++ [c.X], 0⟩
def cpA (S : ByteArray) (E : Nat) (U : List Nat) (X : Nat) (l : List Nt) (fl : List Nt) : CS := fl.foldl (cp1 S E U) ⟨l, X, [], 0⟩
theorem cpA_snoc (S : ByteArray) (E : Nat) (U : List Nat) (X : Nat) (l fl : List Nt) (t : Nt) : cpA S E U X l (fl ++ [t]) = cp1 S E U (cpA S E U X l fl) t := by simp [cpA]
theorem cp_stays {S : ByteArray} {E : Nat} {U : List Nat} : ∀ (fl : List Nt) (c : CS), c.e ≠ 0 → fl.foldl (cp1 S E U) c = c
  | [], c, _ => rfl
  | t :: r, c, h => by
    rw [List.foldl_cons, show cp1 S E U c t = c by unfold cp1; rw [if_pos h]]
    exact cp_stays r c h
theorem cpA_stop {S : ByteArray} {E : Nat} {U : List Nat} {X k : Nat} {l fl : List Nt} (h : (cpA S E U X l (fl.take k)).e ≠ 0) : cpA S E U X l fl = cpA S E U X l (fl.take k) := by
  have e : cpA S E U X l fl = (fl.drop k).foldl (cp1 S E U) (cpA S E U X l (fl.take k)) := by
    unfold cpA
    rw [← List.foldl_append, List.take_append_drop]
  rw [e]
  exact cp_stays _ _ h
theorem cp1_no {S : ByteArray} {E : Nat} {U : List Nat} {c : CS} {t : Nt} (h0 : c.e = 0) (h : inB U t.u = false) : cp1 S E U c t = c := by
  unfold cp1
  rw [if_neg (by omega), if_pos h]
theorem cp1_many {S : ByteArray} {E : Nat} {U : List Nat} {c : CS} {t : Nt} (h0 : c.e = 0) (h : inB U t.u = true) (h1 : 500 ≤ c.l.length) : cp1 S E U c t = { c with e := 5 } := by
  unfold cp1
  rw [if_neg (by omega), if_neg (by simp [h]), if_pos h1]
theorem cp1_full {S : ByteArray} {E : Nat} {U : List Nat} {c : CS} {t : Nt} (h0 : c.e = 0) (h : inB U t.u = true) (h1 : c.l.length < 500) (h2 : c.X = 4294967295) : cp1 S E U c t = { c with e := 4 } := by
  unfold cp1
  rw [if_neg (by omega), if_neg (by simp [h]), if_neg (by omega), if_pos h2]
theorem cp1_yes {S : ByteArray} {E : Nat} {U : List Nat} {c : CS} {t : Nt} (h0 : c.e = 0) (h : inB U t.u = true) (h1 : c.l.length < 500) (h2 : c.X ≠ 4294967295) : cp1 S E U c t = ⟨c.l ++ [⟨2, E, S, c.X, t.d, t.f, t.o⟩], c.X + 1, c.g ++ [c.X], 0⟩ := by
  unfold cp1
  rw [if_neg (by omega), if_neg (by simp [h]), if_neg (by omega), if_neg h2]
/-- What holds while nothing was refused. -/
structure Good (S : ByteArray) (E : Nat) (X0 : Nat) (c : CS) : Prop where
  e : c.e = 0
  r : right S E c.X c.l = true
  b : c.X < 4294967296
  g : c.g.length ≤ c.l.length
  m : ∀ x ∈ c.g, X0 ≤ x
  n : X0 ≤ c.X
theorem Good.yes {S : ByteArray} {E X0 : Nat} {U : List Nat} {c : CS} {t : Nt} (h : Good S E X0 c) (hi : inB U t.u = true) (h1 : c.l.length < 500) (h2 : c.X ≠ 4294967295) (hf : fitsB t.d t.f t.o.length = true) : Good S E X0 (cp1 S E U c t) := by
  rw [cp1_yes h.e hi h1 h2]
  have hb := h.b
  have hn := h.n
  refine ⟨rfl, right_snoc h.r h1 rfl hf, by show c.X + 1 < _; omega, by simp; exact h.g, fun x hx => ?_, by show X0 ≤ c.X + 1; omega⟩
  rcases List.mem_append.1 hx with hx | hx
  · exact h.m x hx
  · simp at hx
    omega
theorem addE_cp {S : ByteArray} {E X : Nat} {l : List Nt} {d f : Int} {m : Nat} (h : right S E X l = true) (hf : fitsB d f m = true) : addE S E X l d f m = if 500 ≤ l.length then 5 else if X = 4294967295 then 4 else 0 := by
  have h1 : fitsB d f 0 = true := by
    unfold fitsB at *
    simp only [Bool.and_eq_true, decide_eq_true_eq] at hf ⊢
    exact ⟨hf.1, hf.2.1, by omega⟩
  have h2 : m ≤ 20000 := by
    unfold fitsB at hf
    simp only [Bool.and_eq_true, decide_eq_true_eq] at hf
    exact hf.2.2
  unfold addE
  rw [formed_of h, h1, if_neg (by simp), if_neg (by omega)]
theorem fits_of {S : ByteArray} {E X : Nat} {l : List Nt} {t : Nt} (h : right S E X l = true) (ht : t ∈ l) : fitsB t.d t.f t.o.length = true := by
  have := (right_parts h).2.2.2.2.2 t ht
  unfold fit1 at this
  exact (Bool.and_eq_true_iff.1 this).2
/-- While messages are copied. -/
structure PS (W : World) (FB : Array Value) (S' : ByteArray) (E' : Nat) (X' : Nat) (l : List Nt) (g : List Nat) (v vc : Value) (w : World) : Prop where
  frm : w.heap[W.heap.size]? = some (.cells FB 25 (0, 0))
  to_ : w.heap[W.heap.size + 1]? = some (.cells #[.string S', .int .u32 (E' : Nat), .int .u32 (X' : Nat), v] 25 (0, 0))
  res : w.heap[W.heap.size + 2]? = some (.cells #[.string ⟨#[]⟩, .int .u32 0, .int .u32 0, .slice none 0 0] 25 (0, 0))
  own : ∃ ys, Own cM 4 (W.heap.size + 3) 30 w v ys ∧ nts ys = l ∧ (∀ y ∈ ys, ∀ ad, y.A = some ad → W.heap.size + 3 ≤ ad.block) ∧ ∀ y ∈ ys, ∀ ad, y.A = some ad → 0 < y.m → vc.ownBlock ≠ some ad.block
  came : row.Own cU 1 (W.heap.size + 3) 22 w vc g
  apart : ∀ b, vc.ownBlock = some b → v.ownBlock ≠ some b
  bel : Below W.heap.size W w
theorem PS.lt {W : World} {FB : Array Value} {S' : ByteArray} {E' X' : Nat} {l : List Nt} {g : List Nat} {v vc : Value} {w : World} (h : PS W FB S' E' X' l g v vc w) : W.heap.size + 2 < w.heap.size := (Array.getElem?_eq_some_iff.1 h.res).1
theorem PS.below {W : World} {FB : Array Value} {S' : ByteArray} {E' X' : Nat} {l : List Nt} {g : List Nat} {v vc : Value} {w w' : World} (h : PS W FB S' E' X' l g v vc w) (hb : Below w.heap.size w w') : PS W FB S' E' X' l g v vc w' := by
  have := h.lt
  obtain ⟨ys, h1, h2, h3, h4⟩ := h.own
  exact ⟨by rw [hb.block _ (by omega)]; exact h.frm, by rw [hb.block _ (by omega)]; exact h.to_, by rw [hb.block _ (by omega)]; exact h.res, ⟨ys, h1.below hb, h2, h3, h4⟩, h.came.below hb, h.apart, h.bel.trans (hb.mono (by omega))⟩
theorem PS.added {W : World} {FB : Array Value} {S' : ByteArray} {E' X' : Nat} {l : List Nt} {g : List Nat} {v vc : Value} {w w' : World} {ys : List Y} {t : Nt} {gb nb : Nat} {f : Nat → Value} (h : PS W FB S' E' X' l g v vc w) (h1 : Own cM 4 (W.heap.size + 3) 30 w v ys) (h2 : nts ys = l) (h3 : ∀ y ∈ ys, ∀ ad, y.A = some ad → W.heap.size + 3 ≤ ad.block) (h4 : ∀ y ∈ ys, ∀ ad, y.A = some ad → 0 < y.m → vc.ownBlock ≠ some ad.block) (ha : Added w (W.heap.size + 1) S' E' X' (W.heap.size + 3) v ys t w') (hr : w.rowIs gb 4 nb f ∧ v.ownBlock ≠ some gb ∧ vc.ownBlock ≠ some gb) (hgb : W.heap.size + 3 ≤ gb) :
    ∃ A n c, PS W FB S' E' (X' + 1) (l ++ [t]) g (.slice A n c) vc w' ∧ (w'.rowIs gb 4 nb f ∧ (Value.slice A n c).ownBlock ≠ some gb ∧ vc.ownBlock ≠ some gb) := by
  obtain ⟨A, n, c, y, k1, k2, k3, k4, k5, k6⟩ := ha
  have hlt := h.lt
  have hvl : ∀ j, j < W.heap.size + 3 → v.ownBlock ≠ some j := fun j hj e => by have := (h1.lt e).1; omega
  have hblk : ∀ j, j < w.heap.size → j ≠ W.heap.size + 1 → v.ownBlock ≠ some j → w'.heap[j]? = w.heap[j]? := fun j hj hn hv => k5.2.2.2.2 j hj (fun e => e.elim hn hv)
  refine ⟨A, n, c, ⟨by rw [hblk _ (by omega) (by omega) (hvl _ (by omega))]; exact h.frm, k1, by rw [hblk _ hlt (by omega) (hvl _ (by omega))]; exact h.res, ⟨ys ++ [y], k2, by rw [← h2, ← k3]; simp [nts], fun z hz ad e => ?_, fun z hz ad e h0 => ?_⟩, ?_, fun b e e' => ?_, h.bel.trans (k5.toBelow W.heap.size h.bel.size (fun i hi e => e.elim (by omega) (hvl i (by omega))))⟩, hr.1.of_block (hblk gb hr.1.lt (by omega) hr.2.1), ?_, hr.2.2⟩
  · rcases List.mem_append.1 hz with hz | hz
    · exact h3 z hz ad e
    · simp at hz
      subst hz
      have := k4 ad e
      omega
  · rcases List.mem_append.1 hz with hz | hz
    · exact h4 z hz ad e h0
    · simp at hz
      subst hz
      intro e'
      have := k4 ad e
      have := (h.came.lt e').2
      omega
  · refine h.came.touch k5 (fun b e e' => ?_)
    rcases e' with e' | e'
    · have := (h.came.lt e).1
      omega
    · exact h.apart b e e'
  · rcases k6 with k6 | ⟨q, k6, hq⟩
    · exact h.apart b e (by rw [← k6]; exact e')
    · rw [k6] at e'
      have := Option.some.inj e'
      have := (h.came.lt e).2
      omega
  · have := hr.1.lt
    rcases k6 with k6 | ⟨q, k6, hq⟩
    · rw [k6]
      exact hr.2.1
    · rw [k6]
      intro e
      have := Option.some.inj e
      omega
theorem PS.cames {W : World} {FB : Array Value} {S' : ByteArray} {E' X' x : Nat} {l : List Nt} {g : List Nat} {v vc v' : Value} {w w' : World} {gb nb : Nat} {f : Nat → Value} (h : PS W FB S' E' X' l g v vc w) (ho : row.Own cU 1 (W.heap.size + 3) 22 w' v' (g ++ [x])) (hg : w.grownBy w' vc.ownBlock) (ha : v'.ownBlock = vc.ownBlock ∨ ∃ q, v'.ownBlock = some q ∧ w.heap.size ≤ q) (hr : w.rowIs gb 4 nb f ∧ v.ownBlock ≠ some gb ∧ vc.ownBlock ≠ some gb) :
    PS W FB S' E' X' l (g ++ [x]) v v' w' ∧ (w'.rowIs gb 4 nb f ∧ v.ownBlock ≠ some gb ∧ v'.ownBlock ≠ some gb) := by
  obtain ⟨ys, h1, h2, h3, h4⟩ := h.own
  have hlt := h.lt
  have hne : ∀ j, j < W.heap.size + 3 → some j ≠ vc.ownBlock := fun j hj e => by have := (h.came.lt e.symm).1; omega
  refine ⟨⟨by rw [hg.block _ (by omega) (hne _ (by omega))]; exact h.frm, by rw [hg.block _ (by omega) (hne _ (by omega))]; exact h.to_, by rw [hg.block _ hlt (hne _ (by omega))]; exact h.res, ⟨ys, own_touch h1 (G := fun i => vc.ownBlock = some i) ⟨hg.os, hg.tape, hg.output, hg.size, fun k hk hn => hg.block k hk (fun e => hn e.symm)⟩ (fun b e e' => h.apart b e' e) (fun y hy ad e h0 e' => h4 y hy ad e h0 e'), h2, h3, fun y hy ad e h0 e' => ?_⟩, ho, fun b e e' => ?_, h.bel.trans ⟨hg.os, hg.tape, hg.output, hg.size, fun j hj => hg.block j (by omega) (hne j (by omega))⟩⟩, row_kept hr.1 hg hr.2.2, hr.2.1, ne_kept hr.2.2 hr.1.lt ha⟩
  · have h5 := (h1.2 y hy).1.1.lt ad e h0
    rcases ha with ha | ⟨q, ha, hq⟩
    · exact h4 y hy ad e h0 (by rw [← ha]; exact e')
    · rw [ha] at e'
      have := Option.some.inj e'
      omega
  · rcases ha with ha | ⟨q, ha, hq⟩
    · exact h.apart b (by rw [← ha]; exact e) e'
    · rw [ha] at e
      have := Option.some.inj e
      have := (h1.lt e').2
      omega
set_option maxHeartbeats 2000000 in
theorem copy_wrong1 (W : World) (S S' : ByteArray) (E X E' X' : Nat) (A A' : Option Addr) (n c n' c' : Nat) (qs zs : List Y) (B : Option Addr) (q dd : Nat) (U : List Nat) (hR : Rd cM 4 W A n qs) (hn : n ≤ 1000000) (hs : S.size ≤ 100000) (hm : ∀ y ∈ qs, y.m ≤ 1000000) (hR' : Rd cM 4 W A' n' zs) (hn' : n' ≤ 1000000) (hs' : S'.size ≤ 100000) (hm' : ∀ y ∈ zs, y.m ≤ 1000000) (hr : Fit W) (hU : Nums W B q U) (hq : q ≤ 1000000) (hw : right S E X (nts qs) = false) :
    Calls Tryd.prog 23 #[.agg #[.string S, .int .u32 (E : Nat), .int .u32 (X : Nat), .slice A n c], .agg #[.string S', .int .u32 (E' : Nat), .int .u32 (X' : Nat), .slice A' n' c'], .slice B q dd] W fun x w' => x = .returned (.tuple #[.agg #[.string ⟨#[]⟩, .int .u32 0, .int .u32 0, .slice none 0 0], .slice none 0 0, .int .i64 1]) ∧ Below W.heap.size W w' := by
  obtain ⟨W1, hW1⟩ : ∃ W1, W1 = ((W.alloc (.cells #[.string S, .int .u32 (E : Nat), .int .u32 (X : Nat), .slice A n c] 25)).alloc (.cells #[.string S', .int .u32 (E' : Nat), .int .u32 (X' : Nat), .slice A' n' c'] 25)).alloc (.cells #[.string ⟨#[]⟩, .int .u32 0, .int .u32 0, .slice none 0 0] 25) := ⟨_, rfl⟩
  have HBW := Lib.hid (show Below W.heap.size W W1 by rw [hW1]; exact (((Below.refl _ _).alloc (Nat.le_refl _) _).alloc (by simp) _).alloc (by simp; omega) _)
  have HZW := Lib.hid (show W1.heap.size = W.heap.size + 3 by rw [hW1]; simp)
  have h1 : W1.heap[W.heap.size]? = some (.cells #[.string S, .int .u32 (E : Nat), .int .u32 (X : Nat), .slice A n c] 25 (0, 0)) := by rw [hW1, heap_alloc_old _ _ (by simp; omega), heap_alloc_old _ _ (by simp)]; exact heap_alloc_new _ _
  have h2 : W1.heap[W.heap.size + 1]? = some (.cells #[.string S', .int .u32 (E' : Nat), .int .u32 (X' : Nat), .slice A' n' c'] 25 (0, 0)) := by rw [hW1, heap_alloc_old _ _ (by simp)]; have := heap_alloc_new (W.alloc (.cells #[.string S, .int .u32 (E : Nat), .int .u32 (X : Nat), .slice A n c] 25)) (.cells #[.string S', .int .u32 (E' : Nat), .int .u32 (X' : Nat), .slice A' n' c'] 25); simpa using this
  have h3 : W1.heap[W.heap.size + 2]? = some (.cells #[.string ⟨#[]⟩, .int .u32 0, .int .u32 0, .slice none 0 0] 25 (0, 0)) := by rw [hW1]; have := heap_alloc_new ((W.alloc (.cells #[.string S, .int .u32 (E : Nat), .int .u32 (X : Nat), .slice A n c] 25)).alloc (.cells #[.string S', .int .u32 (E' : Nat), .int .u32 (X' : Nat), .slice A' n' c'] 25)) (.cells #[.string ⟨#[]⟩, .int .u32 0, .int .u32 0, .slice none 0 0] 25); simpa using this
  have HP1 := Lib.hid (fun (w' : World) (h : Below W1.heap.size W1 w') => show w'.heap[W.heap.size]? = some (.cells #[.string S, .int .u32 (E : Nat), .int .u32 (X : Nat), .slice A n c] 25 (0, 0)) from (h.block _ (by rw [HZW.out]; omega)).trans h1)
  have HP2 := Lib.hid (fun (w' : World) (h : Below W1.heap.size W1 w') => show w'.heap[W.heap.size + 1]? = some (.cells #[.string S', .int .u32 (E' : Nat), .int .u32 (X' : Nat), .slice A' n' c'] 25 (0, 0)) from (h.block _ (by rw [HZW.out]; omega)).trans h2)
  have HP3 := Lib.hid (fun (w' : World) (h : Below W1.heap.size W1 w') => show w'.heap[W.heap.size + 2]? = some (.cells #[.string ⟨#[]⟩, .int .u32 0, .int .u32 0, .slice none 0 0] 25 (0, 0)) from (h.block _ (by rw [HZW.out]; omega)).trans h3)
  have HRf := Lib.hid (right_any W1 S E X A n c qs (hR.below HBW.out) hn hs (hr.below HBW.out))
  have HRt := Lib.hid (fun (w' : World) (h : Below W1.heap.size W1 w') => right_any w' S' E' X' A' n' c' zs (hR'.below (HBW.out.trans (h.mono HBW.out.size))) hn' hs' (hr.below (HBW.out.trans (h.mono HBW.out.size))))
  have HRQ := Lib.hid (fun (w' : World) (h : Below W.heap.size W w') => hR.below h)
  have c0 := cell_at (h1) 0 _ rfl
  have c1 := cell_at (h1) 1 _ rfl
  have c2 := cell_at (h1) 2 _ rfl
  have c3 := cell_at (h1) 3 _ rfl
  have HW1 := Lib.hid hW1
  rw [hW1] at c0 c1 c2 c3
  have HRG := Lib.hid hw
  clear hw
  clear hW1 h1 h2 h3 hR hm hR' hm' hr hU
  go_enter Tryd.func23, Tryd.ntmps23
  go_wp2_with fail
  rw [← HW1.out]
  clear c0 c1 c2 c3
  refine HRf.out.mono ?_
  rw [HRG.out]
  rintro x w1 ⟨rfl, hb1⟩
  have HB1 := Lib.hid hb1
  have hz := HP3.out _ hb1
  have HZ := Lib.hid hz
  have r0 := cell_at (hz) 0 _ rfl
  have r1 := cell_at (hz) 1 _ rfl
  have r2 := cell_at (hz) 2 _ rfl
  have r3 := cell_at (hz) 3 _ rfl
  have g0 := frozen_of_row _ _ 0 _ _ (hz)
  have g1 := frozen_of_row _ _ 1 _ _ (hz)
  have g2 := frozen_of_row _ _ 2 _ _ (hz)
  have g3 := frozen_of_row _ _ 3 _ _ (hz)
  clear hz
  go_wp2_with fail
  obtain ⟨k1, k2, k3⟩ := four HZ.out rfl (.string ⟨#[]⟩) (.int .u32 0) (.int .u32 0) (.slice none 0 0)
  refine bodyPost_ret (results_cell_tmp_tmp Tryd.results23 _ _ (W.heap.size + 2) _ _ _ _ rfl k1 Tryd.underlying25 rfl (boxSize _ rfl)) rfl ⟨rfl, k3 _ _ (HBW.out.trans (HB1.out.mono HBW.out.size)) (by omega)⟩
set_option maxHeartbeats 2000000 in
theorem copy_wrong2 (W : World) (S S' : ByteArray) (E X E' X' : Nat) (A A' : Option Addr) (n c n' c' : Nat) (qs zs : List Y) (B : Option Addr) (q dd : Nat) (U : List Nat) (hR : Rd cM 4 W A n qs) (hn : n ≤ 1000000) (hs : S.size ≤ 100000) (hm : ∀ y ∈ qs, y.m ≤ 1000000) (hR' : Rd cM 4 W A' n' zs) (hn' : n' ≤ 1000000) (hs' : S'.size ≤ 100000) (hm' : ∀ y ∈ zs, y.m ≤ 1000000) (hr : Fit W) (hU : Nums W B q U) (hq : q ≤ 1000000) (hw : right S E X (nts qs) = true) (hw' : right S' E' X' (nts zs) = false) :
    Calls Tryd.prog 23 #[.agg #[.string S, .int .u32 (E : Nat), .int .u32 (X : Nat), .slice A n c], .agg #[.string S', .int .u32 (E' : Nat), .int .u32 (X' : Nat), .slice A' n' c'], .slice B q dd] W fun x w' => x = .returned (.tuple #[.agg #[.string ⟨#[]⟩, .int .u32 0, .int .u32 0, .slice none 0 0], .slice none 0 0, .int .i64 1]) ∧ Below W.heap.size W w' := by
  obtain ⟨W1, hW1⟩ : ∃ W1, W1 = ((W.alloc (.cells #[.string S, .int .u32 (E : Nat), .int .u32 (X : Nat), .slice A n c] 25)).alloc (.cells #[.string S', .int .u32 (E' : Nat), .int .u32 (X' : Nat), .slice A' n' c'] 25)).alloc (.cells #[.string ⟨#[]⟩, .int .u32 0, .int .u32 0, .slice none 0 0] 25) := ⟨_, rfl⟩
  have HBW := Lib.hid (show Below W.heap.size W W1 by rw [hW1]; exact (((Below.refl _ _).alloc (Nat.le_refl _) _).alloc (by simp) _).alloc (by simp; omega) _)
  have HZW := Lib.hid (show W1.heap.size = W.heap.size + 3 by rw [hW1]; simp)
  have h1 : W1.heap[W.heap.size]? = some (.cells #[.string S, .int .u32 (E : Nat), .int .u32 (X : Nat), .slice A n c] 25 (0, 0)) := by rw [hW1, heap_alloc_old _ _ (by simp; omega), heap_alloc_old _ _ (by simp)]; exact heap_alloc_new _ _
  have h2 : W1.heap[W.heap.size + 1]? = some (.cells #[.string S', .int .u32 (E' : Nat), .int .u32 (X' : Nat), .slice A' n' c'] 25 (0, 0)) := by rw [hW1, heap_alloc_old _ _ (by simp)]; have := heap_alloc_new (W.alloc (.cells #[.string S, .int .u32 (E : Nat), .int .u32 (X : Nat), .slice A n c] 25)) (.cells #[.string S', .int .u32 (E' : Nat), .int .u32 (X' : Nat), .slice A' n' c'] 25); simpa using this
  have h3 : W1.heap[W.heap.size + 2]? = some (.cells #[.string ⟨#[]⟩, .int .u32 0, .int .u32 0, .slice none 0 0] 25 (0, 0)) := by rw [hW1]; have := heap_alloc_new ((W.alloc (.cells #[.string S, .int .u32 (E : Nat), .int .u32 (X : Nat), .slice A n c] 25)).alloc (.cells #[.string S', .int .u32 (E' : Nat), .int .u32 (X' : Nat), .slice A' n' c'] 25)) (.cells #[.string ⟨#[]⟩, .int .u32 0, .int .u32 0, .slice none 0 0] 25); simpa using this
  have HP1 := Lib.hid (fun (w' : World) (h : Below W1.heap.size W1 w') => show w'.heap[W.heap.size]? = some (.cells #[.string S, .int .u32 (E : Nat), .int .u32 (X : Nat), .slice A n c] 25 (0, 0)) from (h.block _ (by rw [HZW.out]; omega)).trans h1)
  have HP2 := Lib.hid (fun (w' : World) (h : Below W1.heap.size W1 w') => show w'.heap[W.heap.size + 1]? = some (.cells #[.string S', .int .u32 (E' : Nat), .int .u32 (X' : Nat), .slice A' n' c'] 25 (0, 0)) from (h.block _ (by rw [HZW.out]; omega)).trans h2)
  have HP3 := Lib.hid (fun (w' : World) (h : Below W1.heap.size W1 w') => show w'.heap[W.heap.size + 2]? = some (.cells #[.string ⟨#[]⟩, .int .u32 0, .int .u32 0, .slice none 0 0] 25 (0, 0)) from (h.block _ (by rw [HZW.out]; omega)).trans h3)
  have HRf := Lib.hid (right_any W1 S E X A n c qs (hR.below HBW.out) hn hs (hr.below HBW.out))
  have HRt := Lib.hid (fun (w' : World) (h : Below W1.heap.size W1 w') => right_any w' S' E' X' A' n' c' zs (hR'.below (HBW.out.trans (h.mono HBW.out.size))) hn' hs' (hr.below (HBW.out.trans (h.mono HBW.out.size))))
  have HRQ := Lib.hid (fun (w' : World) (h : Below W.heap.size W w') => hR.below h)
  have c0 := cell_at (h1) 0 _ rfl
  have c1 := cell_at (h1) 1 _ rfl
  have c2 := cell_at (h1) 2 _ rfl
  have c3 := cell_at (h1) 3 _ rfl
  have HW1 := Lib.hid hW1
  rw [hW1] at c0 c1 c2 c3
  have HRG := Lib.hid hw
  have HRG2 := Lib.hid hw'
  clear hw hw'
  clear hW1 h1 h2 h3 hR hm hR' hm' hr hU
  go_enter Tryd.func23, Tryd.ntmps23
  go_wp2_with fail
  rw [← HW1.out]
  clear c0 c1 c2 c3
  refine HRf.out.mono ?_
  rw [HRG.out]
  rintro x w1 ⟨rfl, hb1⟩
  have HB1 := Lib.hid hb1
  have c0 := cell_at (HP2.out _ hb1) 0 _ rfl
  have c1 := cell_at (HP2.out _ hb1) 1 _ rfl
  have c2 := cell_at (HP2.out _ hb1) 2 _ rfl
  have c3 := cell_at (HP2.out _ hb1) 3 _ rfl
  clear hb1
  go_wp2_with fail
  clear c0 c1 c2 c3
  refine (HRt.out _ HB1.out).mono ?_
  rw [HRG2.out]
  rintro x w2 ⟨rfl, hb2⟩
  have HB2 := Lib.hid (HB1.out.trans (hb2.mono HB1.out.size))
  clear hb2
  have hz := HP3.out _ HB2.out
  have HZ := Lib.hid hz
  have r0 := cell_at (hz) 0 _ rfl
  have r1 := cell_at (hz) 1 _ rfl
  have r2 := cell_at (hz) 2 _ rfl
  have r3 := cell_at (hz) 3 _ rfl
  have g0 := frozen_of_row _ _ 0 _ _ (hz)
  have g1 := frozen_of_row _ _ 1 _ _ (hz)
  have g2 := frozen_of_row _ _ 2 _ _ (hz)
  have g3 := frozen_of_row _ _ 3 _ _ (hz)
  clear hz
  go_wp2_with fail
  obtain ⟨k1, k2, k3⟩ := four HZ.out rfl (.string ⟨#[]⟩) (.int .u32 0) (.int .u32 0) (.slice none 0 0)
  refine bodyPost_ret (results_cell_tmp_tmp Tryd.results23 _ _ (W.heap.size + 2) _ _ _ _ rfl k1 Tryd.underlying25 rfl (boxSize _ rfl)) rfl ⟨rfl, k3 _ _ (HBW.out.trans (HB2.out.mono HBW.out.size)) (by omega)⟩
/-- What Copy answers. -/
def CpAns (W : World) (S' : ByteArray) (E' : Nat) (c : CS) (x : Ending) (w' : World) : Prop :=
  (c.e ≠ 0 ∧ x = .returned (.tuple #[.agg #[.string ⟨#[]⟩, .int .u32 0, .int .u32 0, .slice none 0 0], .slice none 0 0, .int .i64 (c.e : Nat)]) ∧ Below W.heap.size W w') ∨
  (c.e = 0 ∧ ∃ A n cc vc ys, x = .returned (.tuple #[.agg #[.string S', .int .u32 (E' : Nat), .int .u32 (c.X : Nat), .slice A n cc], vc, .int .i64 0]) ∧ Own cM 4 W.heap.size 30 w' (.slice A n cc) ys ∧ nts ys = c.l ∧ row.Own cU 1 W.heap.size 22 w' vc c.g ∧ Below W.heap.size W w')
set_option maxHeartbeats 8000000 in
theorem copy_good (W : World) (S S' : ByteArray) (E X E' X' : Nat) (A A' : Option Addr) (n c n' c' : Nat) (qs zs : List Y) (B : Option Addr) (q dd : Nat) (U : List Nat) (hR : Rd cM 4 W A n qs) (hn : n ≤ 1000000) (hs : S.size ≤ 100000) (hm : ∀ y ∈ qs, y.m ≤ 1000000) (hR' : Rd cM 4 W A' n' zs) (hn' : n' ≤ 1000000) (hs' : S'.size ≤ 100000) (hm' : ∀ y ∈ zs, y.m ≤ 1000000) (hr : Fit W) (hU : Nums W B q U) (hq : q ≤ 1000000) (hX' : X' < 4294967296) (hw : right S E X (nts qs) = true) (hw' : right S' E' X' (nts zs) = true) :
    Calls Tryd.prog 23 #[.agg #[.string S, .int .u32 (E : Nat), .int .u32 (X : Nat), .slice A n c], .agg #[.string S', .int .u32 (E' : Nat), .int .u32 (X' : Nat), .slice A' n' c'], .slice B q dd] W fun x w' => CpAns W S' E' (cpA S' E' U X' (nts zs) (nts qs)) x w' := by
  obtain ⟨W1, hW1⟩ : ∃ W1, W1 = ((W.alloc (.cells #[.string S, .int .u32 (E : Nat), .int .u32 (X : Nat), .slice A n c] 25)).alloc (.cells #[.string S', .int .u32 (E' : Nat), .int .u32 (X' : Nat), .slice A' n' c'] 25)).alloc (.cells #[.string ⟨#[]⟩, .int .u32 0, .int .u32 0, .slice none 0 0] 25) := ⟨_, rfl⟩
  have HBW := Lib.hid (show Below W.heap.size W W1 by rw [hW1]; exact (((Below.refl _ _).alloc (Nat.le_refl _) _).alloc (by simp) _).alloc (by simp; omega) _)
  have HZW := Lib.hid (show W1.heap.size = W.heap.size + 3 by rw [hW1]; simp)
  have h1 : W1.heap[W.heap.size]? = some (.cells #[.string S, .int .u32 (E : Nat), .int .u32 (X : Nat), .slice A n c] 25 (0, 0)) := by rw [hW1, heap_alloc_old _ _ (by simp; omega), heap_alloc_old _ _ (by simp)]; exact heap_alloc_new _ _
  have h2 : W1.heap[W.heap.size + 1]? = some (.cells #[.string S', .int .u32 (E' : Nat), .int .u32 (X' : Nat), .slice A' n' c'] 25 (0, 0)) := by rw [hW1, heap_alloc_old _ _ (by simp)]; have := heap_alloc_new (W.alloc (.cells #[.string S, .int .u32 (E : Nat), .int .u32 (X : Nat), .slice A n c] 25)) (.cells #[.string S', .int .u32 (E' : Nat), .int .u32 (X' : Nat), .slice A' n' c'] 25); simpa using this
  have h3 : W1.heap[W.heap.size + 2]? = some (.cells #[.string ⟨#[]⟩, .int .u32 0, .int .u32 0, .slice none 0 0] 25 (0, 0)) := by rw [hW1]; have := heap_alloc_new ((W.alloc (.cells #[.string S, .int .u32 (E : Nat), .int .u32 (X : Nat), .slice A n c] 25)).alloc (.cells #[.string S', .int .u32 (E' : Nat), .int .u32 (X' : Nat), .slice A' n' c'] 25)) (.cells #[.string ⟨#[]⟩, .int .u32 0, .int .u32 0, .slice none 0 0] 25); simpa using this
  have HP1 := Lib.hid (fun (w' : World) (h : Below W1.heap.size W1 w') => show w'.heap[W.heap.size]? = some (.cells #[.string S, .int .u32 (E : Nat), .int .u32 (X : Nat), .slice A n c] 25 (0, 0)) from (h.block _ (by rw [HZW.out]; omega)).trans h1)
  have HP2 := Lib.hid (fun (w' : World) (h : Below W1.heap.size W1 w') => show w'.heap[W.heap.size + 1]? = some (.cells #[.string S', .int .u32 (E' : Nat), .int .u32 (X' : Nat), .slice A' n' c'] 25 (0, 0)) from (h.block _ (by rw [HZW.out]; omega)).trans h2)
  have HP3 := Lib.hid (fun (w' : World) (h : Below W1.heap.size W1 w') => show w'.heap[W.heap.size + 2]? = some (.cells #[.string ⟨#[]⟩, .int .u32 0, .int .u32 0, .slice none 0 0] 25 (0, 0)) from (h.block _ (by rw [HZW.out]; omega)).trans h3)
  have HRf := Lib.hid (right_any W1 S E X A n c qs (hR.below HBW.out) hn hs (hr.below HBW.out))
  have HRt := Lib.hid (fun (w' : World) (h : Below W1.heap.size W1 w') => right_any w' S' E' X' A' n' c' zs (hR'.below (HBW.out.trans (h.mono HBW.out.size))) hn' hs' (hr.below (HBW.out.trans (h.mono HBW.out.size))))
  have HRQ := Lib.hid (fun (w' : World) (h : Below W.heap.size W w') => hR.below h)
  have c0 := cell_at (h1) 0 _ rfl
  have c1 := cell_at (h1) 1 _ rfl
  have c2 := cell_at (h1) 2 _ rfl
  have c3 := cell_at (h1) 3 _ rfl
  have HW1 := Lib.hid hW1
  rw [hW1] at c0 c1 c2 c3
  have HRG := Lib.hid hw
  have HRG2 := Lib.hid hw'
  have HUp := Lib.hid (up_of (right_parts hw).2.2.2.2.1)
  have HFt0 := Lib.hid (fun (t : Nt) (h : t ∈ nts qs) => fits_of hw h)
  have HG0 := Lib.hid (show Good S' E' X' ⟨nts zs, X', [], 0⟩ from ⟨rfl, hw', hX', by simp, by simp, Nat.le_refl _⟩)
  have HL := Lib.hid (show (nts qs).length = n by rw [nts_len, hR.1])
  have HFit := Lib.hid (fun (w' : World) (h : Below W.heap.size W w') => hr.below h)
  have HNums := Lib.hid (fun (w' : World) (h : Below W.heap.size W w') => hU.below h)
  have HOwn := Lib.hid (fun (w' : World) (h : Below W1.heap.size W1 w') => own_any w' S' E' X' A' n' c' zs (hR'.below (HBW.out.trans (h.mono HBW.out.size))) hn' hs' hm')
  clear hw hw' hX'
  clear hW1 h1 h2 h3 hR hm hR' hm' hr hU
  go_enter Tryd.func23, Tryd.ntmps23
  go_wp2_with fail
  rw [← HW1.out]
  clear c0 c1 c2 c3
  refine HRf.out.mono ?_
  rw [HRG.out]
  rintro x w1 ⟨rfl, hb1⟩
  have HB1 := Lib.hid hb1
  have c0 := cell_at (HP2.out _ hb1) 0 _ rfl
  have c1 := cell_at (HP2.out _ hb1) 1 _ rfl
  have c2 := cell_at (HP2.out _ hb1) 2 _ rfl
  have c3 := cell_at (HP2.out _ hb1) 3 _ rfl
  clear hb1
  go_wp2_with fail
  clear c0 c1 c2 c3
  refine (HRt.out _ HB1.out).mono ?_
  rw [HRG2.out]
  rintro x w2 ⟨rfl, hb2⟩
  have HB2 := Lib.hid (HB1.out.trans (hb2.mono HB1.out.size))
  have c0 := cell_at (HP2.out _ HB2.out) 0 _ rfl
  have c1 := cell_at (HP2.out _ HB2.out) 1 _ rfl
  have c2 := cell_at (HP2.out _ HB2.out) 2 _ rfl
  have c3 := cell_at (HP2.out _ HB2.out) 3 _ rfl
  clear hb2
  go_wp2_with fail
  clear c0 c1 c2 c3
  refine (HOwn.out w2 HB2.out).mono ?_
  rintro x w3 ⟨A2, n2, c2, ys2, rfl, ho2, hl2, hf2, hb3⟩
  have hB3 := HB2.out.trans (hb3.mono HB2.out.size)
  have hz1 : W1.heap.size ≤ w2.heap.size := HB2.out.size
  have hzw := HZW.out
  have hq := HP2.out _ hB3
  obtain ⟨k1, k2, k3⟩ := four hq rfl (.string S') (.int .u32 (E' : Nat)) (.int .u32 (X' : Nat)) (.slice A2 n2 c2)
  have hov : (Value.slice A2 n2 c2).ownBlock ≠ some (W.heap.size + 1) := fun e => by have := (ho2.lt e).1; omega
  have hoy : ∀ y ∈ ys2, ∀ ad, y.A = some ad → 0 < y.m → ad.block ≠ W.heap.size + 1 := fun y hy ad e h0 => by have := hf2 y hy ad e; omega
  have ho3 := own_other (u := .slice A2 n2 c2) (j := 3) (own_other (u := .int .u32 (X' : Nat)) (j := 2) (own_other (u := .int .u32 (E' : Nat)) (j := 1) (own_other (u := .string S') (j := 0) ho2 hov hoy) hov hoy) hov hoy) hov hoy
  have HPS := Lib.hid (show PS W #[.string S, .int .u32 (E : Nat), .int .u32 (X : Nat), .slice A n c] S' E' X' (nts zs) [] (.slice A2 n2 c2) (.slice none 0 0) _ from ⟨(k2 W.heap.size (by omega)).trans (HP1.out _ hB3), k1, (k2 (W.heap.size + 2) (by omega)).trans (HP3.out _ hB3), ⟨ys2, ⟨⟨ho3.1.1, ho3.1.2.imp id fun ⟨g, cap, cur, h1, h2, h3⟩ => ⟨g, cap, cur, h1, by omega, h3⟩⟩, ho3.2⟩, hl2, fun y hy ad e => (by have := hf2 y hy ad e; omega), fun y hy ad e h0 e' => (by cases e')⟩, row.Own.nil _ _ _ _ _, fun b e => (by cases e), k3 W.heap.size W (HBW.out.trans (hB3.mono HBW.out.size)) (by omega)⟩)
  have e0 := cell_at (hq) 0 _ rfl
  have e1 := cell_at (hq) 1 _ rfl
  have e2 := cell_at (hq) 2 _ rfl
  have e3 := cell_at (hq) 3 _ rfl
  have g0 := frozen_of_row _ _ 0 _ _ (hq)
  have g1 := frozen_of_row _ _ 1 _ _ (hq)
  have g2 := frozen_of_row _ _ 2 _ _ (hq)
  have g3 := frozen_of_row _ _ 3 _ _ (hq)
  have d0 := cell_at (HPS.out.frm) 0 _ rfl
  have d1 := cell_at (HPS.out.frm) 1 _ rfl
  have d2 := cell_at (HPS.out.frm) 2 _ rfl
  have d3 := cell_at (HPS.out.frm) 3 _ rfl
  clear ho2 hl2 hf2 hb3 hB3 hz1 hzw hq k1 k2 k3 hov hoy ho3
  go_wp2_with fail
  clear e0 e1 e2 e3 g0 g1 g2 g3 d0 d1 d2 d3
  generalize (((w3.setCell ⟨W.heap.size + 1, 0, none⟩ (.string S')).setCell ⟨W.heap.size + 1, 1, none⟩ (.int .u32 (E' : Nat))).setCell ⟨W.heap.size + 1, 2, none⟩ (.int .u32 (X' : Nat))).setCell ⟨W.heap.size + 1, 3, none⟩ (.slice A2 n2 c2) = w4 at *
  refine (named_any w4 S E X A n c qs B q dd U (HRQ.out _ HPS.out.bel) hn HUp.out (HNums.out _ HPS.out.bel) hq).mono ?_
  rintro x w5 ⟨gb, rfl, hrow, hgb, hb5⟩
  have HRow := Lib.hid hrow
  have HP5 := Lib.hid (HPS.out.below hb5)
  have HGW := Lib.hid (show W.heap.size + 3 ≤ gb by have := HPS.out.lt; omega)
  have HGB := Lib.hid (show (Value.slice A2 n2 c2).ownBlock ≠ some gb from fun e => by
    obtain ⟨ys, h1, -⟩ := HPS.out.own
    have := (h1.lt e).2
    omega)
  clear hrow hgb hb5
  go_wp2_with fail
  go_loopw [9, 29] (fun vc i wr => ∃ (k : Nat) (A2 : Option Addr) (n2 c2 : Nat) (st : CS), k ≤ n ∧ i = .int .i64 k ∧ Hid (cpA S' E' U X' (nts zs) ((nts qs).take k) = st) ∧ Hid (Good S' E' X' st) ∧ Hid (PS W #[.string S, .int .u32 (E : Nat), .int .u32 (X : Nat), .slice A n c] S' E' st.X st.l st.g (.slice A2 n2 c2) vc wr) ∧ Hid (wr.rowIs gb 4 n (fun j => .bool (isN (nts qs) U j)) ∧ (Value.slice A2 n2 c2).ownBlock ≠ some gb ∧ vc.ownBlock ≠ some gb)) (fun _ i _ => n - (intOf i).toNat)
  case atStart => exact ⟨0, A2, n2, c2, ⟨nts zs, X', [], 0⟩, Nat.zero_le _, rfl, Lib.hid rfl, HG0, HP5, Lib.hid ⟨HRow.out, HGB.out, (fun e => by cases e)⟩⟩
  case round =>
    obtain ⟨k, A2, n2, c2, ⟨l2, X2, g2, e2⟩, hk, rfl, HC, HG, HP, HRw⟩ := hrel
    obtain rfl : e2 = 0 := HG.out.e
    simp only [] at HP
    by_cases hlt : k < n
    · obtain ⟨b, o, y, rfl, hx, d0, d1, d2, d3, hoc⟩ := (HRQ.out wr HP.out.bel).at4 k hlt
      have HX := Lib.hid (nts_at hx)
      have HFt := Lib.hid (HFt0.out y.n (List.mem_of_getElem? (nts_at hx)))
      have HOc := Lib.hid hoc
      have his : wr.cell? ⟨gb, k, none⟩ = some (.bool (isN (nts qs) U k)) := HRw.out.1.cell hlt
      rw [isN_at (nts_at hx)] at his
      have f3 := cell_at HP.out.frm 3 _ rfl
      have hlt' : (k : Int) < (n : Int) := by omega
      have HLn := Lib.hid (show l2.length = n2 by
        obtain ⟨ys, h1, h2, -⟩ := HP.out.own
        rw [← h2, nts_len]
        exact own_len h1)
      clear hx hoc
      have hol := HOc.out.1.1
      obtain ⟨⟨tk, te, ts, tu, td, tf, to_⟩, pp, Am, m, cm⟩ := y
      simp only [] at d0 d1 d2 d3 HX HFt HOc his hol
      have m0 := d0
      have m1 := d1
      have m2 := d2
      have m3 := d3
      clear d0 d1 d2 d3
      cases hin : inB U tu with
      | false =>
        rw [hin] at his
        have HC1 := Lib.hid (show cpA S' E' U X' (nts zs) ((nts qs).take (k + 1)) = ⟨l2, X2, g2, 0⟩ by rw [take_next HX.out, cpA_snoc, HC.out]; exact cp1_no rfl hin)
        clear hin
        go_wp2_with fail
        go_roundw
        case rel => first | exact ⟨k + 1, A2, n2, c2, ⟨l2, X2, g2, 0⟩, by omega, by go_num, HC1, HG, HP, HRw⟩ | ((repeat apply Exists.intro); exact ⟨⟨k + 1, A2, n2, c2, ⟨l2, X2, g2, 0⟩, by omega, by go_num, HC1, HG, HP, HRw⟩, rfl⟩)
        case measure => (show n - ((k : Int) + 1).toNat < n - k; omega)
      | true =>
        rw [hin] at his
        by_cases h5 : 500 ≤ l2.length
        · have HFm := Lib.hid (show fitsB td tf m = true by rw [← hol]; exact HFt.out)
          have HC1 := Lib.hid (show cpA S' E' U X' (nts zs) ((nts qs).take (k + 1)) = ⟨l2, X2, g2, 5⟩ by rw [take_next HX.out, cpA_snoc, HC.out]; exact cp1_many rfl hin h5)
          have HCE := Lib.hid (show cpA S' E' U X' (nts zs) (nts qs) = ⟨l2, X2, g2, 5⟩ by rw [cpA_stop (k := k + 1) (by rw [HC1.out]; show (5 : Nat) ≠ 0; decide), HC1.out])
          have HAd := Lib.hid (add_no wr (W.heap.size + 1) S' E' X2 A2 n2 c2 l2 tu td tf Am m cm 5 HP.out.to_ hs' (HFit.out _ HP.out.bel) HLn.out (by rw [addE_cp HG.out.r HFm.out]; simp only []; rw [if_pos h5]) (by decide))
          clear HC1
          go_wp2_with fail
          refine HAd.out.mono ?_
          rintro x w4 ⟨rfl, hb4⟩
          have hz := (HP.out.below hb4).res
          have HZ := Lib.hid hz
          have HB4 := Lib.hid (HP.out.bel.trans (hb4.mono HP.out.bel.size))
          have r0 := cell_at (hz) 0 _ rfl
          have r1 := cell_at (hz) 1 _ rfl
          have r2 := cell_at (hz) 2 _ rfl
          have r3 := cell_at (hz) 3 _ rfl
          have g0 := frozen_of_row _ _ 0 _ _ (hz)
          have g1 := frozen_of_row _ _ 1 _ _ (hz)
          have g2 := frozen_of_row _ _ 2 _ _ (hz)
          have g3 := frozen_of_row _ _ 3 _ _ (hz)
          clear hz hb4 f3 m0 m1 m2 m3 his hol
          go_wp2_with fail
          obtain ⟨k1, k2, k3⟩ := four HZ.out rfl (.string ⟨#[]⟩) (.int .u32 0) (.int .u32 0) (.slice none 0 0)
          refine bodyPost_ret (results_cell_tmp_tmp Tryd.results23 _ _ (W.heap.size + 2) _ _ _ _ rfl k1 Tryd.underlying25 rfl (boxSize _ rfl)) rfl (.inl ⟨by rw [HCE.out]; show (5 : Nat) ≠ 0; decide, by rw [HCE.out]; rfl, k3 _ _ HB4.out (by omega)⟩)
        by_cases h6 : X2 = 4294967295
        · have HFm := Lib.hid (show fitsB td tf m = true by rw [← hol]; exact HFt.out)
          have HC1 := Lib.hid (show cpA S' E' U X' (nts zs) ((nts qs).take (k + 1)) = ⟨l2, X2, g2, 4⟩ by rw [take_next HX.out, cpA_snoc, HC.out]; exact cp1_full rfl hin (by simp only []; omega) h6)
          have HCE := Lib.hid (show cpA S' E' U X' (nts zs) (nts qs) = ⟨l2, X2, g2, 4⟩ by rw [cpA_stop (k := k + 1) (by rw [HC1.out]; show (4 : Nat) ≠ 0; decide), HC1.out])
          have HAd := Lib.hid (add_no wr (W.heap.size + 1) S' E' X2 A2 n2 c2 l2 tu td tf Am m cm 4 HP.out.to_ hs' (HFit.out _ HP.out.bel) HLn.out (by rw [addE_cp HG.out.r HFm.out]; simp only []; rw [if_neg h5, if_pos h6]) (by decide))
          clear HC1
          go_wp2_with fail
          refine HAd.out.mono ?_
          rintro x w4 ⟨rfl, hb4⟩
          have hz := (HP.out.below hb4).res
          have HZ := Lib.hid hz
          have HB4 := Lib.hid (HP.out.bel.trans (hb4.mono HP.out.bel.size))
          have r0 := cell_at (hz) 0 _ rfl
          have r1 := cell_at (hz) 1 _ rfl
          have r2 := cell_at (hz) 2 _ rfl
          have r3 := cell_at (hz) 3 _ rfl
          have g0 := frozen_of_row _ _ 0 _ _ (hz)
          have g1 := frozen_of_row _ _ 1 _ _ (hz)
          have g2 := frozen_of_row _ _ 2 _ _ (hz)
          have g3 := frozen_of_row _ _ 3 _ _ (hz)
          clear hz hb4 f3 m0 m1 m2 m3 his hol
          go_wp2_with fail
          obtain ⟨k1, k2, k3⟩ := four HZ.out rfl (.string ⟨#[]⟩) (.int .u32 0) (.int .u32 0) (.slice none 0 0)
          refine bodyPost_ret (results_cell_tmp_tmp Tryd.results23 _ _ (W.heap.size + 2) _ _ _ _ rfl k1 Tryd.underlying25 rfl (boxSize _ rfl)) rfl (.inl ⟨by rw [HCE.out]; show (4 : Nat) ≠ 0; decide, by rw [HCE.out]; rfl, k3 _ _ HB4.out (by omega)⟩)
        have hc1 := cp1_yes (S := S') (E := E') (U := U) (c := ⟨l2, X2, g2, 0⟩) (t := ⟨tk, te, ts, tu, td, tf, to_⟩) rfl hin (by simp only []; omega) h6
        have HC1 := Lib.hid (show cpA S' E' U X' (nts zs) ((nts qs).take (k + 1)) = ⟨l2 ++ [⟨2, E', S', X2, td, tf, to_⟩], X2 + 1, g2 ++ [X2], 0⟩ by rw [take_next HX.out, cpA_snoc, HC.out]; exact hc1)
        have HG1 := Lib.hid (show Good S' E' X' ⟨l2 ++ [⟨2, E', S', X2, td, tf, to_⟩], X2 + 1, g2 ++ [X2], 0⟩ from hc1 ▸ HG.out.yes hin (by simp only []; omega) h6 HFt.out)
        obtain ⟨ys, hy1, hy2, hy3, hy4⟩ := HP.out.own
        have hb2 := HG.out.b
        simp only [] at hb2
        have hfit := HFt.out
        have hm2 : m ≤ 20000 := by
          unfold fitsB at hfit
          simp only [Bool.and_eq_true, decide_eq_true_eq] at hfit
          omega
        have HAd := Lib.hid (add_good wr (W.heap.size + 1) S' E' X2 A2 n2 c2 ys tu td tf Am m cm (W.heap.size + 3) HP.out.to_ hs' (HFit.out _ HP.out.bel) (by
          rw [formed_of HG.out.r]
          unfold fitsB at hfit ⊢
          simp only [Bool.and_eq_true, decide_eq_true_eq] at hfit ⊢
          exact ⟨hfit.1, hfit.2.1, by omega⟩) hm2 (by have := HLn.out; omega) (by omega) to_ HOc.out.1 HOc.out.2 hy1 (by have := HP.out.lt; omega) (fun e => by have := (hy1.lt e).1; omega) (fun y hy ad e h0 => by have := hy3 y hy ad e; omega))
        have HAdd := Lib.hid (fun (w4 : World) (h : Added wr (W.heap.size + 1) S' E' X2 (W.heap.size + 3) (.slice A2 n2 c2) ys ⟨2, E', S', X2, td, tf, to_⟩ w4) => HP.out.added hy1 hy2 hy3 hy4 h HRw.out HGW.out)
        have HGL := Lib.hid (show g2.length ≤ 1000000 by have := HG.out.g; simp only [] at this; omega)
        clear hin hc1 hy1 hy2 hy3 hy4 hb2 hfit hm2 h5 h6
        go_wp2_with fail
        refine HAd.out.mono ?_
        rintro x w4 ⟨rfl, hadd⟩
        obtain ⟨A5, n5, c5, hp5, hr5⟩ := HAdd.out w4 hadd
        have HP5b := Lib.hid hp5
        have HR5 := Lib.hid hr5
        clear hadd hp5 hr5 f3 m0 m1 m2 m3 his hol
        go_wp2_with (at_builtin; refine row.wpList_append_own fU (by decide) (by decide) (by_ := 4) (by decide) (z := .int .u32 0) rfl rfl (.tmp 49) (.tmp 51) 42 22 rfl Tryd.underlying42 infoU (W.heap.size + 3) u9 g2 rfl HP5b.out.came (by have := HP5b.out.lt; omega) (by have := HGL.out; omega) X2 (0, 0) _ (by simp) rfl _ rfl ?_; intro v' w6 ho hgr hat; have HS6 := Lib.hid (HP5b.out.cames ho hgr hat HR5.out); clear ho hgr hat)
        go_roundw
        case rel => first | exact ⟨k + 1, A5, n5, c5, _, by omega, by go_num, HC1, HG1, Lib.hid HS6.out.1, Lib.hid HS6.out.2⟩ | ((repeat apply Exists.intro); exact ⟨⟨k + 1, A5, n5, c5, _, by omega, by go_num, HC1, HG1, Lib.hid HS6.out.1, Lib.hid HS6.out.2⟩, rfl⟩)
        case measure => (show n - ((k : Int) + 1).toNat < n - k; omega)
    · obtain rfl : k = n := by omega
      have hP := HP.out
      have hC := HC.out
      rw [List.take_of_length_le (Nat.le_of_eq HL.out)] at hC
      have HCC := Lib.hid hC
      have d0 := cell_at (hP.to_) 0 _ rfl
      have d1 := cell_at (hP.to_) 1 _ rfl
      have d2 := cell_at (hP.to_) 2 _ rfl
      have d3 := cell_at (hP.to_) 3 _ rfl
      have g0 := frozen_of_row _ _ 0 _ _ (hP.res)
      have g1 := frozen_of_row _ _ 1 _ _ (hP.res)
      have g2 := frozen_of_row _ _ 2 _ _ (hP.res)
      have g3 := frozen_of_row _ _ 3 _ _ (hP.res)
      have r0 := cell_at (hP.res) 0 _ rfl
      have r1 := cell_at (hP.res) 1 _ rfl
      have r2 := cell_at (hP.res) 2 _ rfl
      have r3 := cell_at (hP.res) 3 _ rfl
      clear hP hC
      go_wp2_with fail
      have hP := HP.out
      obtain ⟨ys, hy1, hy2, hy3, hy4⟩ := hP.own
      obtain ⟨k1, k2, k3⟩ := four hP.res rfl (.string S') (.int .u32 (E' : Nat)) (.int .u32 (X2 : Nat)) (.slice A2 n2 c2)
      have hv : (Value.slice A2 n2 c2).ownBlock ≠ some (W.heap.size + 2) := fun e => by have := (hy1.lt e).1; omega
      have hy : ∀ y ∈ ys, ∀ ad, y.A = some ad → 0 < y.m → ad.block ≠ W.heap.size + 2 := fun y hy ad e h0 => by have := hy3 y hy ad e; omega
      have ho9 := own_other (u := .slice A2 n2 c2) (j := 3) (own_other (u := .int .u32 (X2 : Nat)) (j := 2) (own_other (u := .int .u32 (E' : Nat)) (j := 1) (own_other (u := .string S') (j := 0) hy1 hv hy) hv hy) hv hy) hv hy
      have hvg : u9.ownBlock ≠ some (W.heap.size + 2) := fun e => by have := (hP.came.lt e).1; omega
      have hg9 := row_other (u := .slice A2 n2 c2) (j := 3) (row_other (u := .int .u32 (X2 : Nat)) (j := 2) (row_other (u := .int .u32 (E' : Nat)) (j := 1) (row_other (u := .string S') (j := 0) hP.came hvg) hvg) hvg) hvg
      refine bodyPost_ret (results_cell_tmp_tmp Tryd.results23 _ _ (W.heap.size + 2) _ _ _ _ rfl k1 Tryd.underlying25 rfl (boxSize _ rfl)) rfl (.inr ⟨by rw [HCC.out], A2, n2, c2, u9, ys, by rw [HCC.out]; rfl, ⟨⟨ho9.1.1, ho9.1.2.imp id fun ⟨g, cap, cur, h1, h2, h3⟩ => ⟨g, cap, cur, h1, by omega, h3⟩⟩, ho9.2⟩, by rw [HCC.out]; exact hy2, by rw [HCC.out]; exact ⟨hg9.1, hg9.2.imp id fun ⟨g, cap, cur, h1, h2, h3⟩ => ⟨g, cap, cur, h1, by omega, h3⟩⟩, k3 _ _ hP.bel (by omega)⟩)
end Go.Proofs.YtepngemlaiffgaaDoor.mal
namespace Go.Proofs.YtepngemlaiffgaaDoor.mal
open Go.ChangeShapes Go.WideShapes Go.ChangeAt Go.RowKit
open Go.Proofs.YtepngemlaiffgaaDoor.codec (Bytes vals)
open Go.Proofs.YtepngemlaiffgaaDoor.bod (cell_at Fit boxed named formedB fitsB)
open Go.Proofs.YtepngemlaiffgaaDoor.lg (Nt Y Rd Own Oct cM fM fl fl_at nts nts_at nts_len take_next)
set_option linter.unusedVariables false
set_option maxRecDepth 100000
set_option linter.unusedSimpArgs false

set_option maxHeartbeats 8000000 in
theorem rappend_at (W : World) (S : ByteArray) (E X : Nat) (A : Option Addr) (n c : Nat) (u : Nat) (d f : Int) (Am : Option Addr) (m cm : Nat) (qs : List Y) (hR : Rd cM 4 W A n qs) (hA : A = none → c = 0) (hn : n < 500) (hX : X < 4294967295) (l : List Nat) (hB : Bytes W Am m l) (hnil : Am = none → cm = 0) :
    Calls Tryd.prog 18 #[.agg #[.string S, .int .u32 (E : Nat), .int .u32 (X : Nat), .slice A n c], .agg #[.int .u32 (u : Nat), .int .i64 d, .int .i64 f, .slice Am m cm]] W fun x w' => ∃ A c, x = .returned (.tuple #[.agg #[.string S, .int .u32 (E : Nat), .int .u32 ((X + 1 : Nat) : Nat), .slice A (n + 1) c], .int .u32 (X : Nat), .int .i64 0]) ∧ Own cM 4 W.heap.size 30 w' (.slice A (n + 1) c) (qs ++ [(⟨⟨2, E, S, X, d, f, l⟩, 0, Am, m, cm⟩ : Y)]) ∧ Below W.heap.size W w' := by
  obtain ⟨W1, hW1⟩ : ∃ W1, W1 = ((W.alloc (.cells #[.string S, .int .u32 (E : Nat), .int .u32 (X : Nat), .slice A n c] 25)).alloc (.cells #[.int .u32 (u : Nat), .int .i64 d, .int .i64 f, .slice Am m cm] 30)).alloc (.cells #[.string ⟨#[]⟩, .int .u32 0, .int .u32 0, .slice none 0 0] 25) := ⟨_, rfl⟩
  have HBW := Lib.hid (show Below W.heap.size W W1 by rw [hW1]; exact (((Below.refl _ _).alloc (Nat.le_refl _) _).alloc (by simp) _).alloc (by simp; omega) _)
  have HZW := Lib.hid (show W1.heap.size = W.heap.size + 3 by rw [hW1]; simp)
  have h1 : W1.heap[W.heap.size]? = some (.cells #[.string S, .int .u32 (E : Nat), .int .u32 (X : Nat), .slice A n c] 25 (0, 0)) := by rw [hW1, heap_alloc_old _ _ (by simp; omega), heap_alloc_old _ _ (by simp)]; exact heap_alloc_new _ _
  have h2 : W1.heap[W.heap.size + 1]? = some (.cells #[.int .u32 (u : Nat), .int .i64 d, .int .i64 f, .slice Am m cm] 30 (0, 0)) := by rw [hW1, heap_alloc_old _ _ (by simp)]; have := heap_alloc_new (W.alloc (.cells #[.string S, .int .u32 (E : Nat), .int .u32 (X : Nat), .slice A n c] 25)) (.cells #[.int .u32 (u : Nat), .int .i64 d, .int .i64 f, .slice Am m cm] 30); simpa using this
  have h3 : W1.heap[W.heap.size + 2]? = some (.cells #[.string ⟨#[]⟩, .int .u32 0, .int .u32 0, .slice none 0 0] 25 (0, 0)) := by rw [hW1]; have := heap_alloc_new ((W.alloc (.cells #[.string S, .int .u32 (E : Nat), .int .u32 (X : Nat), .slice A n c] 25)).alloc (.cells #[.int .u32 (u : Nat), .int .i64 d, .int .i64 f, .slice Am m cm] 30)) (.cells #[.string ⟨#[]⟩, .int .u32 0, .int .u32 0, .slice none 0 0] 25); simpa using this
  have q1 : decide ((499 : Int) < (n : Int)) = false := decide_eq_false (by omega)
  have q2 : ((X : Int) == 4294967295) = false := by rw [beq_eq_false_iff_ne]; omega
  have HXL := Lib.hid hX
  have HNL := Lib.hid hn
  have HQL := Lib.hid hR.1
  have HAN := Lib.hid hA
  have HOQ := Lib.hid (show ∀ y ∈ qs, ∀ ad, y.A = some ad → 0 < y.m → ad.block < W.heap.size from fun y hy ad e h0 => (rd_oct hR hy).1.lt ad e h0)
  have HOM := Lib.hid hB.lt
  obtain ⟨w1, hw1⟩ : ∃ w1, w1 = ((W.alloc (.cells #[.string S, .int .u32 (E : Nat), .int .u32 (X : Nat), .slice A n c] 25)).alloc (.cells #[.int .u32 (X : Nat), .int .i64 d, .int .i64 f, .slice Am m cm] 30)).alloc (.cells #[.string ⟨#[]⟩, .int .u32 0, .int .u32 0, .slice none 0 0] 25) := ⟨_, rfl⟩
  have hm1 : w1.heap[W.heap.size + 1]? = some (.cells #[.int .u32 (X : Nat), .int .i64 d, .int .i64 f, .slice Am m cm] 30 (0, 0)) := by rw [hw1, heap_alloc_old _ _ (by simp)]; have := heap_alloc_new (W.alloc (.cells #[.string S, .int .u32 (E : Nat), .int .u32 (X : Nat), .slice A n c] 25)) (.cells #[.int .u32 (X : Nat), .int .i64 d, .int .i64 f, .slice Am m cm] 30); simpa using this
  have hq1 : w1.heap[W.heap.size]? = some (.cells #[.string S, .int .u32 (E : Nat), .int .u32 (X : Nat), .slice A n c] 25 (0, 0)) := by rw [hw1, heap_alloc_old _ _ (by simp; omega), heap_alloc_old _ _ (by simp)]; exact heap_alloc_new _ _
  have hr1 : w1.heap[W.heap.size + 2]? = some (.cells #[.string ⟨#[]⟩, .int .u32 0, .int .u32 0, .slice none 0 0] 25 (0, 0)) := by rw [hw1]; have := heap_alloc_new ((W.alloc (.cells #[.string S, .int .u32 (E : Nat), .int .u32 (X : Nat), .slice A n c] 25)).alloc (.cells #[.int .u32 (X : Nat), .int .i64 d, .int .i64 f, .slice Am m cm] 30)) (.cells #[.string ⟨#[]⟩, .int .u32 0, .int .u32 0, .slice none 0 0] 25); simpa using this
  have HZ1 := Lib.hid (show w1.heap.size = W.heap.size + 3 by rw [hw1]; simp)
  have HW1B := Lib.hid (show Below W.heap.size W w1 by rw [hw1]; exact (((Below.refl _ _).alloc (Nat.le_refl _) _).alloc (by simp) _).alloc (by simp; omega) _)
  have HQ1 := Lib.hid (fun (w' : World) (h : Below w1.heap.size w1 w') => (h.block W.heap.size (by rw [HZ1.out]; omega)).trans hq1)
  have HM1 := Lib.hid (fun (w' : World) (h : Below w1.heap.size w1 w') => (h.block (W.heap.size + 1) (by rw [HZ1.out]; omega)).trans hm1)
  have HR1 := Lib.hid (fun (w' : World) (h : Below w1.heap.size w1 w') => (h.block (W.heap.size + 2) (by rw [HZ1.out]; omega)).trans hr1)
  have HRQ := Lib.hid (fun (w' : World) (h : Below w1.heap.size w1 w') => hR.below (HW1B.out.trans (h.mono HW1B.out.size)))
  have HOC := Lib.hid (fun (w' : World) (h : Below w1.heap.size w1 w') => show Oct w' (⟨⟨2, E, S, X, d, f, l⟩, 0, Am, m, cm⟩ : Y) from ⟨hB.below hB.lt (HW1B.out.trans (h.mono HW1B.out.size)), hnil⟩)
  have HST := Lib.hid (show Below w1.heap.size w1 w1.drew from codec.below_draws (Below.refl _ _) 1)
  have HW1 := Lib.hid hW1
  have Hw1 := Lib.hid hw1
  have c2 := cell_at (h1) 2 _ rfl
  have c3 := cell_at (h1) 3 _ rfl
  have n0 := cell_at h2 0 _ rfl
  have fn0 := frozen_of_row _ _ 0 _ _ h2
  rw [hW1] at c2 c3 n0 fn0
  clear hW1 hw1 h1 h2 h3 hm1 hq1 hr1 hR hA hn hX hB hnil
  go_enter Tryd.func18, Tryd.ntmps18
  go_wp2_with fail
  rw [← Hw1.out]
  clear c2 c3 n0 fn0
  refine wp_region_noPanic ?_
  refine held.wp_region_G (S := fun w' => Below w1.heap.size w1 w') 8 (by kernel_rfl) HST.out (fun hHeld => ?_)
  refine held.wpAnyG_take (i := 1) (v := ?_) rfl (by kernel_rfl) (by kernel_rfl) (by kernel_rfl) (by kernel_rfl) (fun _ _ _ h => h) (Or.inl ⟨by kernel_rfl, ?_⟩) hHeld ?_
  rotate_left
  · (intro w' hw'; go_simp; first | done | with_reducible rfl)
  refine held.wpAnyG_take (i := 2) (v := ?_) rfl (by kernel_rfl) (by kernel_rfl) (by kernel_rfl) (by kernel_rfl) (fun _ _ _ h => h) (Or.inl ⟨by kernel_rfl, ?_⟩) hHeld ?_
  rotate_left
  · (intro w' hw'; have bh := HQ1.out _ hw'; have b3 := cell_at bh 3 _ rfl; go_simp; first | done | with_reducible rfl)
  refine held.wpAnyG_take (i := 4) (v := ?_) rfl (by kernel_rfl) (by kernel_rfl) (by kernel_rfl) (by kernel_rfl) (fun _ _ _ h => h) (Or.inl ⟨by kernel_rfl, ?_⟩) hHeld ?_
  rotate_left
  · (intro w' hw'; have mh := HM1.out _ hw'; have m0 := cell_at mh 0 _ rfl; have m1 := cell_at mh 1 _ rfl; have m2 := cell_at mh 2 _ rfl; have m3 := cell_at mh 3 _ rfl; go_simp; first | done | with_reducible rfl)
  have hHeld0 : Below w1.heap.size w1 w1.drew := HST.out
  generalize w1.drew = w2 at *
  refine held.wpAnyG_ready (rs := [0, 5]) (by kernel_rfl) (by simp) ?_
  refine held.AllReadyG.cons rfl (fun K hK => ?_) (held.AllReadyG.cons rfl (fun K hK => ?_) held.AllReadyG.nil)
  · have hbe : Below w2.heap.size w2 (w2.alloc (.cells #[] 30)) := (Below.refl _ _).alloc (Nat.le_refl _) _
    have hse := hHeld0.trans (hbe.mono hHeld0.size)
    have HOe := Lib.hid (show Own cM 4 w1.heap.size 30 (w2.alloc (.cells #[] 30)) (.slice (some ⟨w2.heap.size, 0, none⟩) 0 0) [] from ⟨World.ownsRow_made w2 #[] 0 hHeld0.size (Nat.zero_le _) rfl, by simp⟩)
    have HGe := Lib.hid (show w1.heap.size ≤ w2.heap.size from hHeld0.size)
    have HGl := Lib.hid (show w2.heap.size < (w2.alloc (.cells #[] 30)).heap.size by simp)
    go_simp
    refine hK.out _ _ (fun _ => hse) (fun hh => ?_)
    clear hK K hh
    generalize ge : w2.heap.size = ge0 at *
    generalize w2.alloc (.cells #[] 30) = we at *
    refine held.wpAnyG_ready (rs := [3, 5]) (by kernel_rfl) (by simp) ?_
    refine held.AllReadyG.cons rfl (fun K hK => ?_) (held.AllReadyG.cons rfl (fun K hK => ?_) held.AllReadyG.nil)
    · refine step_append_rows rfl (.tmp 19) (.tmp 21) rfl w1.heap.size (.slice (some ⟨ge0, 0, none⟩) 0 0) [] (by simp [Act.eval, Act.put]) HOe.out hse.size A n c qs (by simp [Act.eval, Act.put]) (HRQ.out _ hse) HAN.out (fun y hy ad e h0 e' => by
        have h1 := HOQ.out y hy ad e h0
        have h2 : ge0 = ad.block := Option.some.inj e'
        have h3 := HGe.out
        have h4 := HZ1.out
        omega) (by have := HNL.out; simp; omega) ?_
      intro v3 w3 ho3 hg3 hn3 hat3
      rw [List.nil_append] at ho3
      have hs3 := own_below (B := 0) HOe.out hse hg3
      have HO3 := Lib.hid ho3
      clear ho3 hg3 hn3 hat3
      refine hK.out _ _ (fun _ => hs3) (fun hh => ?_)
      clear hK K hh
      refine held.wpAnyG_ready (rs := [5]) (by kernel_rfl) (by simp) ?_
      refine held.AllReadyG.cons rfl (fun K hK => ?_) held.AllReadyG.nil
      have hbl : Below w3.heap.size w3 (w3.alloc (.cells #[.int .u32 (X : Nat), .int .i64 d, .int .i64 f, .slice Am m cm] 30)) := (Below.refl _ _).alloc (Nat.le_refl _) _
      have hsl := hs3.trans (hbl.mono hs3.size)
      have HRl := Lib.hid (show Rd cM 4 (w3.alloc (.cells #[.int .u32 (X : Nat), .int .i64 d, .int .i64 f, .slice Am m cm] 30)) (some ⟨w3.heap.size, 0, none⟩) 1 [(⟨⟨2, E, S, X, d, f, l⟩, 0, Am, m, cm⟩ : Y)] from rd_one (HOC.out _ hs3))
      have HLl := Lib.hid (show w3.heap.size < (w3.alloc (.cells #[.int .u32 (X : Nat), .int .i64 d, .int .i64 f, .slice Am m cm] 30)).heap.size by simp)
      go_simp
      refine hK.out _ _ (fun _ => hsl) (fun hh => ?_)
      clear hK K hh
      generalize gl : w3.heap.size = gl0 at *
      generalize w3.alloc (.cells #[.int .u32 (X : Nat), .int .i64 d, .int .i64 f, .slice Am m cm] 30) = wl at *
      have HO3 := Lib.hid (show Own cM 4 w1.heap.size 30 wl v3 qs from HO3.out.below (by rw [gl]; exact hbl))
      refine held.wpAnyG_ready (rs := [6]) (by kernel_rfl) (by simp) ?_
      refine held.AllReadyG.cons rfl (fun K hK => ?_) held.AllReadyG.nil
      refine step_append_rows rfl (.tmp 22) (.tmp 24) rfl w1.heap.size v3 qs (by simp [Act.eval, Act.put]) HO3.out hsl.size (some ⟨gl0, 0, none⟩) 1 1 [(⟨⟨2, E, S, X, d, f, l⟩, 0, Am, m, cm⟩ : Y)] (by simp [Act.eval, Act.put]) HRl.out (fun e => by cases e) (fun y hy ad e h0 e' => by
        simp at hy
        subst hy
        have h1 := HOM.out ad e h0
        have h2 := (HO3.out.lt e').1
        have h3 := HZ1.out
        omega) (by have h1 := HNL.out; have h2 := HQL.out; omega) ?_
      intro v6 w6 ho6 hg6 hn6 hat6
      have hs6 := own_below (B := 0) HO3.out hsl hg6
      obtain ⟨A6, c6, rfl, -, -, -⟩ := ho6.rd fM
      have hl6 : (qs ++ [(⟨⟨2, E, S, X, d, f, l⟩, 0, Am, m, cm⟩ : Y)]).length = n + 1 := by rw [List.length_append, HQL.out]; rfl
      rw [hl6] at ho6 ⊢
      have HB6 := Lib.hid (And.intro ho6 hs6)
      have hq6 := HQ1.out _ hs6
      have cc := cell_at hq6 3 _ rfl
      have ff := frozen_of_row _ _ 3 _ _ hq6
      clear ho6 hg6 hn6 hat6 hl6 hq6
      refine hK.out _ _ (fun _ => hs6) (fun hh => ?_)
      have hH6 := hh (by decide)
      clear hK K hh
      refine held.wpAnyG_take (i := 7) (v := ?_) rfl (by kernel_rfl) (by kernel_rfl) (by kernel_rfl) (by kernel_rfl) (fun _ _ _ h => h) (Or.inl ⟨by kernel_rfl, ?_⟩) hH6 ?_
      rotate_left
      · (intro w' hw'; go_simp; first | done | with_reducible rfl)
      refine held.wpAnyG_ready (rs := [8]) (by kernel_rfl) (by simp) ?_
      refine held.AllReadyG.cons rfl (fun K hK => ?_) held.AllReadyG.nil
      go_simp
      refine hK.out _ _ (fun hh => absurd rfl hh) (fun _ => ?_)
      clear hK K hH6
      refine held.wpAnyG_done (by kernel_rfl) ?_ _
      refine NoPanic.normal ?_
      go_simp
      clear cc ff hs6
      obtain ⟨ho6, hb6⟩ := HB6.out
      have hz1 := HZ1.out
      have hq6 := HQ1.out _ hb6
      have hm6 := HM1.out _ hb6
      have hr6 := HR1.out _ hb6
      have hq7 : (w6.setCell ⟨W.heap.size, 3, none⟩ (.slice A6 (n + 1) c6)).heap[W.heap.size]? = some (.cells #[.string S, .int .u32 (E : Nat), .int .u32 (X : Nat), .slice A6 (n + 1) c6] 25 (0, 0)) := by rw [heap_setCell_same _ _ _ _ _ _ hq6]; rfl
      have hq8 : ((w6.setCell ⟨W.heap.size, 3, none⟩ (.slice A6 (n + 1) c6)).setCell ⟨W.heap.size, 2, none⟩ (.int .u32 ((X : Int) + 1))).heap[W.heap.size]? = some (.cells #[.string S, .int .u32 (E : Nat), .int .u32 ((X : Int) + 1), .slice A6 (n + 1) c6] 25 (0, 0)) := by rw [heap_setCell_same _ _ _ _ _ _ hq7]; rfl
      have hm8 : ((w6.setCell ⟨W.heap.size, 3, none⟩ (.slice A6 (n + 1) c6)).setCell ⟨W.heap.size, 2, none⟩ (.int .u32 ((X : Int) + 1))).heap[W.heap.size + 1]? = some (.cells #[.int .u32 (X : Nat), .int .i64 d, .int .i64 f, .slice Am m cm] 30 (0, 0)) := by rw [heap_setCell_other _ _ _ _ (by show _ ≠ W.heap.size; omega), heap_setCell_other _ _ _ _ (by show _ ≠ W.heap.size; omega)]; exact hm6
      have hr8 : ((w6.setCell ⟨W.heap.size, 3, none⟩ (.slice A6 (n + 1) c6)).setCell ⟨W.heap.size, 2, none⟩ (.int .u32 ((X : Int) + 1))).heap[W.heap.size + 1 + 1]? = some (.cells #[.string ⟨#[]⟩, .int .u32 0, .int .u32 0, .slice none 0 0] 25 (0, 0)) := by rw [heap_setCell_other _ _ _ _ (by show _ ≠ W.heap.size; omega), heap_setCell_other _ _ _ _ (by show _ ≠ W.heap.size; omega)]; exact hr6
      have hv : ∀ p, p < W.heap.size + 3 → (Value.slice A6 (n + 1) c6).ownBlock ≠ some p := fun p hp e => by have := (ho6.lt e).1; omega
      have hyy : ∀ y ∈ qs ++ [(⟨⟨2, E, S, X, d, f, l⟩, 0, Am, m, cm⟩ : Y)], ∀ ad, y.A = some ad → 0 < y.m → ad.block < W.heap.size := fun y hy ad e h0 => by
        rcases List.mem_append.1 hy with hy | hy
        · exact HOQ.out y hy ad e h0
        · simp at hy
          subst hy
          exact HOM.out ad e h0
      have ho8 := own_other (u := .int .u32 ((X : Int) + 1)) (j := 2) (own_other (u := .slice A6 (n + 1) c6) (j := 3) ho6 (hv W.heap.size (by omega)) (fun y hy ad e h0 => by have := hyy y hy ad e h0; omega)) (hv W.heap.size (by omega)) (fun y hy ad e h0 => by have := hyy y hy ad e h0; omega)
      have hw8 : Below W.heap.size W ((w6.setCell ⟨W.heap.size, 3, none⟩ (.slice A6 (n + 1) c6)).setCell ⟨W.heap.size, 2, none⟩ (.int .u32 ((X : Int) + 1))) := ((HW1B.out.trans (hb6.mono HW1B.out.size)).setCell (p := ⟨W.heap.size, 3, none⟩) (Nat.le_refl _) _).setCell (p := ⟨W.heap.size, 2, none⟩) (Nat.le_refl _) _
      have e2 := cell_at hq7 2 _ rfl
      have fr2 := frozen_of_row _ _ 2 _ _ hq7
      have HS8 := Lib.hid (And.intro hq8 hm8)
      have HR8 := Lib.hid hr8
      have HO8 := Lib.hid (And.intro ho8 (And.intro hv (And.intro hyy hw8)))
      have kx : IntKind.u32.wrap ((X : Int) + 1) = (X : Int) + 1 := IntWalk.u32_in ((X : Int) + 1) (by have := HXL.out; omega)
      clear ho6 hb6 hz1 hq6 hm6 hr6 hq7 hq8 hm8 hr8 hv hyy ho8 hw8
      go_wp2_with fail
      clear e2 fr2
      generalize (w6.setCell ⟨W.heap.size, 3, none⟩ (.slice A6 (n + 1) c6)).setCell ⟨W.heap.size, 2, none⟩ (.int .u32 ((X : Int) + 1)) = w8 at *
      have hS8 : w8.drew.heap[W.heap.size]? = some (.cells #[.string S, .int .u32 (E : Nat), .int .u32 ((X : Int) + 1), .slice A6 (n + 1) c6] 25 (0, 0)) ∧ w8.drew.heap[W.heap.size + 1]? = some (.cells #[.int .u32 (X : Nat), .int .i64 d, .int .i64 f, .slice Am m cm] 30 (0, 0)) := HS8.out
      have r0 := cell_at HR8.out 0 _ rfl
      have r1 := cell_at HR8.out 1 _ rfl
      have r2 := cell_at HR8.out 2 _ rfl
      have r3 := cell_at HR8.out 3 _ rfl
      have g0 := frozen_of_row _ _ 0 _ _ HR8.out
      have g1 := frozen_of_row _ _ 1 _ _ HR8.out
      have g2 := frozen_of_row _ _ 2 _ _ HR8.out
      have g3 := frozen_of_row _ _ 3 _ _ HR8.out
      refine wp_region_noPanic ?_
      refine wp_region_held_drew (S := fun w' => w'.heap[W.heap.size]? = some (.cells #[.string S, .int .u32 (E : Nat), .int .u32 ((X : Int) + 1), .slice A6 (n + 1) c6] 25 (0, 0)) ∧ w'.heap[W.heap.size + 1]? = some (.cells #[.int .u32 (X : Nat), .int .i64 d, .int .i64 f, .slice Am m cm] 30 (0, 0))) (by kernel_rfl) hS8 (fun hHeld => ?_)
      refine wpAnyH_take (i := 0) (v := ?_) rfl (by kernel_rfl) (by kernel_rfl) (by kernel_rfl) (fun _ _ _ h => h) (Or.inl ⟨by kernel_rfl, ?_⟩) hHeld ?_
      rotate_left
      · (intro w' hw'; have b0 := cell_at hw'.1 0 _ rfl; have b1 := cell_at hw'.1 1 _ rfl; have b2 := cell_at hw'.1 2 _ rfl; have b3 := cell_at hw'.1 3 _ rfl; go_simp; first | done | with_reducible rfl)
      refine wpAnyH_take (i := 1) (v := ?_) rfl (by kernel_rfl) (by kernel_rfl) (by kernel_rfl) (fun _ _ _ h => h) (Or.inl ⟨by kernel_rfl, ?_⟩) hHeld ?_
      rotate_left
      · (intro w' hw'; go_simp; first | done | with_reducible rfl)
      refine wpAnyH_take (i := 2) (v := ?_) rfl (by kernel_rfl) (by kernel_rfl) (by kernel_rfl) (fun _ _ _ h => h) (Or.inl ⟨by kernel_rfl, ?_⟩) hHeld ?_
      rotate_left
      · (intro w' hw'; have m0 := cell_at hw'.2 0 _ rfl; go_simp; first | done | with_reducible rfl)
      refine wpAnyH_ready (rs := [3]) (by kernel_rfl) (by simp) ?_
      refine AllReadyH.cons rfl (fun K hK => ?_) AllReadyH.nil
      go_simp
      obtain ⟨k1, k2, k3⟩ := four HR8.out rfl (.string S) (.int .u32 (E : Nat)) (.int .u32 ((X : Int) + 1)) (.slice A6 (n + 1) c6)
      have hs9 : ((((w8.setCell ⟨W.heap.size + 1 + 1, 0, none⟩ (.string S)).setCell ⟨W.heap.size + 1 + 1, 1, none⟩ (.int .u32 (E : Nat))).setCell ⟨W.heap.size + 1 + 1, 2, none⟩ (.int .u32 ((X : Int) + 1))).setCell ⟨W.heap.size + 1 + 1, 3, none⟩ (.slice A6 (n + 1) c6)).drew.heap[W.heap.size]? = some (.cells #[.string S, .int .u32 (E : Nat), .int .u32 ((X : Int) + 1), .slice A6 (n + 1) c6] 25 (0, 0)) ∧ ((((w8.setCell ⟨W.heap.size + 1 + 1, 0, none⟩ (.string S)).setCell ⟨W.heap.size + 1 + 1, 1, none⟩ (.int .u32 (E : Nat))).setCell ⟨W.heap.size + 1 + 1, 2, none⟩ (.int .u32 ((X : Int) + 1))).setCell ⟨W.heap.size + 1 + 1, 3, none⟩ (.slice A6 (n + 1) c6)).drew.heap[W.heap.size + 1]? = some (.cells #[.int .u32 (X : Nat), .int .i64 d, .int .i64 f, .slice Am m cm] 30 (0, 0)) := And.intro ((k2 W.heap.size (by omega)).trans hHeld.1) ((k2 (W.heap.size + 1) (by omega)).trans hHeld.2)
      have HK9 := Lib.hid (show ((((w8.setCell ⟨W.heap.size + 1 + 1, 0, none⟩ (.string S)).setCell ⟨W.heap.size + 1 + 1, 1, none⟩ (.int .u32 (E : Nat))).setCell ⟨W.heap.size + 1 + 1, 2, none⟩ (.int .u32 ((X : Int) + 1))).setCell ⟨W.heap.size + 1 + 1, 3, none⟩ (.slice A6 (n + 1) c6)).drew.heap[W.heap.size + 1 + 1]? = some (.cells #[.string S, .int .u32 (E : Nat), .int .u32 ((X : Int) + 1), .slice A6 (n + 1) c6] 25 (0, 0)) from k1)
      have HK3 := Lib.hid (show ∀ (B : Nat) (a : World), Below B a w8 → B ≤ W.heap.size + 1 + 1 → Below B a ((((w8.setCell ⟨W.heap.size + 1 + 1, 0, none⟩ (.string S)).setCell ⟨W.heap.size + 1 + 1, 1, none⟩ (.int .u32 (E : Nat))).setCell ⟨W.heap.size + 1 + 1, 2, none⟩ (.int .u32 ((X : Int) + 1))).setCell ⟨W.heap.size + 1 + 1, 3, none⟩ (.slice A6 (n + 1) c6)) from k3)
      clear k1 k2 k3
      refine hK _ _ hs9 (fun hH9 => ?_)
      clear hK K hs9
      refine wpAnyH_take (i := 4) (v := ?_) rfl (by kernel_rfl) (by kernel_rfl) (by kernel_rfl) (fun _ _ _ h => h) (Or.inl ⟨by kernel_rfl, ?_⟩) hH9 ?_
      rotate_left
      · (intro w' hw'; go_simp; first | done | with_reducible rfl)
      refine wpAnyH_take (i := 5) (v := ?_) rfl (by kernel_rfl) (by kernel_rfl) (by kernel_rfl) (fun _ _ _ h => h) (Or.inl ⟨by kernel_rfl, ?_⟩) hH9 ?_
      rotate_left
      · (intro w' hw'; go_simp; first | done | with_reducible rfl)
      refine wpAnyH_done (by kernel_rfl) ?_ _
      refine NoPanic.normal ?_
      go_simp
      go_wp2_with fail
      obtain ⟨ho8, hv, hyy, hw8⟩ := HO8.out
      have hv2 := hv (W.heap.size + 1 + 1) (by omega)
      have hy2 : ∀ y ∈ qs ++ [(⟨⟨2, E, S, X, d, f, l⟩, 0, Am, m, cm⟩ : Y)], ∀ ad, y.A = some ad → 0 < y.m → ad.block ≠ W.heap.size + 1 + 1 := fun y hy ad e h0 => by have := hyy y hy ad e h0; omega
      have ho9 := own_other (u := .slice A6 (n + 1) c6) (j := 3) (own_other (u := .int .u32 ((X : Int) + 1)) (j := 2) (own_other (u := .int .u32 (E : Nat)) (j := 1) (own_other (u := .string S) (j := 0) ho8 hv2 hy2) hv2 hy2) hv2 hy2) hv2 hy2
      have hz1 := HZ1.out
      have ho10 : Own cM 4 w1.heap.size 30 ((((w8.setCell ⟨W.heap.size + 1 + 1, 0, none⟩ (.string S)).setCell ⟨W.heap.size + 1 + 1, 1, none⟩ (.int .u32 (E : Nat))).setCell ⟨W.heap.size + 1 + 1, 2, none⟩ (.int .u32 ((X : Int) + 1))).setCell ⟨W.heap.size + 1 + 1, 3, none⟩ (.slice A6 (n + 1) c6)).drew (.slice A6 (n + 1) c6) (qs ++ [(⟨⟨2, E, S, X, d, f, l⟩, 0, Am, m, cm⟩ : Y)]) := ho9.below (codec.below_draws (Below.refl _ _) 1)
      refine bodyPost_ret (results_cell_tmp_tmp Tryd.results18 _ _ (W.heap.size + 1 + 1) _ _ _ _ rfl HK9.out Tryd.underlying25 rfl (boxSize _ rfl)) rfl ⟨A6, c6, by rw [Int.natCast_add]; rfl, ⟨⟨ho10.1.1, ho10.1.2.imp id fun ⟨g, cap, cur, h1, h2, h3⟩ => ⟨g, cap, cur, h1, by omega, h3⟩⟩, ho10.2⟩, (HK3.out _ _ hw8 (by omega)).trans (codec.below_draws (Below.refl _ _) 1)⟩
    · have hbl : Below we.heap.size we (we.alloc (.cells #[.int .u32 (X : Nat), .int .i64 d, .int .i64 f, .slice Am m cm] 30)) := (Below.refl _ _).alloc (Nat.le_refl _) _
      have hsl := hse.trans (hbl.mono hse.size)
      have HRl := Lib.hid (show Rd cM 4 (we.alloc (.cells #[.int .u32 (X : Nat), .int .i64 d, .int .i64 f, .slice Am m cm] 30)) (some ⟨we.heap.size, 0, none⟩) 1 [(⟨⟨2, E, S, X, d, f, l⟩, 0, Am, m, cm⟩ : Y)] from rd_one (HOC.out _ hse))
      have HLl := Lib.hid (show we.heap.size < (we.alloc (.cells #[.int .u32 (X : Nat), .int .i64 d, .int .i64 f, .slice Am m cm] 30)).heap.size by simp)
      go_simp
      refine hK.out _ _ (fun _ => hsl) (fun hh => ?_)
      clear hK K hh
      generalize gl : we.heap.size = gl0 at *
      generalize we.alloc (.cells #[.int .u32 (X : Nat), .int .i64 d, .int .i64 f, .slice Am m cm] 30) = wl at *
      have HOe := Lib.hid (show Own cM 4 w1.heap.size 30 wl (.slice (some ⟨ge0, 0, none⟩) 0 0) [] from HOe.out.below (by rw [gl]; exact hbl))
      refine held.wpAnyG_ready (rs := [3]) (by kernel_rfl) (by simp) ?_
      refine held.AllReadyG.cons rfl (fun K hK => ?_) held.AllReadyG.nil
      refine step_append_rows rfl (.tmp 19) (.tmp 21) rfl w1.heap.size (.slice (some ⟨ge0, 0, none⟩) 0 0) [] (by simp [Act.eval, Act.put]) HOe.out hsl.size A n c qs (by simp [Act.eval, Act.put]) (HRQ.out _ hsl) HAN.out (fun y hy ad e h0 e' => by
        have h1 := HOQ.out y hy ad e h0
        have h2 : ge0 = ad.block := Option.some.inj e'
        have h3 := HGe.out
        have h4 := HZ1.out
        omega) (by have := HNL.out; simp; omega) ?_
      intro v3 w3 ho3 hg3 hn3 hat3
      rw [List.nil_append] at ho3
      have hs3 := own_below (B := 0) HOe.out hsl hg3
      have HO3 := Lib.hid ho3
      have HRl := Lib.hid (rd_grown HRl.out hg3 (fun ad e _ e' => by
        cases e
        have h1 : gl0 = ge0 := Option.some.inj e'
        have h2 := HGl.out
        omega) (fun y hy ad e h0 e' => by
        simp at hy
        subst hy
        have h1 := HOM.out ad e h0
        have h2 : ad.block = ge0 := Option.some.inj e'
        have h3 := HGe.out
        have h4 := HZ1.out
        omega) (by decide) fM)
      clear ho3 hg3 hn3 hat3
      refine hK.out _ _ (fun _ => hs3) (fun hh => ?_)
      clear hK K hh
      refine held.wpAnyG_ready (rs := [6]) (by kernel_rfl) (by simp) ?_
      refine held.AllReadyG.cons rfl (fun K hK => ?_) held.AllReadyG.nil
      refine step_append_rows rfl (.tmp 22) (.tmp 24) rfl w1.heap.size v3 qs (by simp [Act.eval, Act.put]) HO3.out hs3.size (some ⟨gl0, 0, none⟩) 1 1 [(⟨⟨2, E, S, X, d, f, l⟩, 0, Am, m, cm⟩ : Y)] (by simp [Act.eval, Act.put]) HRl.out (fun e => by cases e) (fun y hy ad e h0 e' => by
        simp at hy
        subst hy
        have h1 := HOM.out ad e h0
        have h2 := (HO3.out.lt e').1
        have h3 := HZ1.out
        omega) (by have h1 := HNL.out; have h2 := HQL.out; omega) ?_
      intro v6 w6 ho6 hg6 hn6 hat6
      have hs6 := own_below (B := 0) HO3.out hs3 hg6
      obtain ⟨A6, c6, rfl, -, -, -⟩ := ho6.rd fM
      have hl6 : (qs ++ [(⟨⟨2, E, S, X, d, f, l⟩, 0, Am, m, cm⟩ : Y)]).length = n + 1 := by rw [List.length_append, HQL.out]; rfl
      rw [hl6] at ho6 ⊢
      have HB6 := Lib.hid (And.intro ho6 hs6)
      have hq6 := HQ1.out _ hs6
      have cc := cell_at hq6 3 _ rfl
      have ff := frozen_of_row _ _ 3 _ _ hq6
      clear ho6 hg6 hn6 hat6 hl6 hq6
      refine hK.out _ _ (fun _ => hs6) (fun hh => ?_)
      have hH6 := hh (by decide)
      clear hK K hh
      refine held.wpAnyG_take (i := 7) (v := ?_) rfl (by kernel_rfl) (by kernel_rfl) (by kernel_rfl) (by kernel_rfl) (fun _ _ _ h => h) (Or.inl ⟨by kernel_rfl, ?_⟩) hH6 ?_
      rotate_left
      · (intro w' hw'; go_simp; first | done | with_reducible rfl)
      refine held.wpAnyG_ready (rs := [8]) (by kernel_rfl) (by simp) ?_
      refine held.AllReadyG.cons rfl (fun K hK => ?_) held.AllReadyG.nil
      go_simp
      refine hK.out _ _ (fun hh => absurd rfl hh) (fun _ => ?_)
      clear hK K hH6
      refine held.wpAnyG_done (by kernel_rfl) ?_ _
      refine NoPanic.normal ?_
      go_simp
      clear cc ff hs6
      obtain ⟨ho6, hb6⟩ := HB6.out
      have hz1 := HZ1.out
      have hq6 := HQ1.out _ hb6
      have hm6 := HM1.out _ hb6
      have hr6 := HR1.out _ hb6
      have hq7 : (w6.setCell ⟨W.heap.size, 3, none⟩ (.slice A6 (n + 1) c6)).heap[W.heap.size]? = some (.cells #[.string S, .int .u32 (E : Nat), .int .u32 (X : Nat), .slice A6 (n + 1) c6] 25 (0, 0)) := by rw [heap_setCell_same _ _ _ _ _ _ hq6]; rfl
      have hq8 : ((w6.setCell ⟨W.heap.size, 3, none⟩ (.slice A6 (n + 1) c6)).setCell ⟨W.heap.size, 2, none⟩ (.int .u32 ((X : Int) + 1))).heap[W.heap.size]? = some (.cells #[.string S, .int .u32 (E : Nat), .int .u32 ((X : Int) + 1), .slice A6 (n + 1) c6] 25 (0, 0)) := by rw [heap_setCell_same _ _ _ _ _ _ hq7]; rfl
      have hm8 : ((w6.setCell ⟨W.heap.size, 3, none⟩ (.slice A6 (n + 1) c6)).setCell ⟨W.heap.size, 2, none⟩ (.int .u32 ((X : Int) + 1))).heap[W.heap.size + 1]? = some (.cells #[.int .u32 (X : Nat), .int .i64 d, .int .i64 f, .slice Am m cm] 30 (0, 0)) := by rw [heap_setCell_other _ _ _ _ (by show _ ≠ W.heap.size; omega), heap_setCell_other _ _ _ _ (by show _ ≠ W.heap.size; omega)]; exact hm6
      have hr8 : ((w6.setCell ⟨W.heap.size, 3, none⟩ (.slice A6 (n + 1) c6)).setCell ⟨W.heap.size, 2, none⟩ (.int .u32 ((X : Int) + 1))).heap[W.heap.size + 1 + 1]? = some (.cells #[.string ⟨#[]⟩, .int .u32 0, .int .u32 0, .slice none 0 0] 25 (0, 0)) := by rw [heap_setCell_other _ _ _ _ (by show _ ≠ W.heap.size; omega), heap_setCell_other _ _ _ _ (by show _ ≠ W.heap.size; omega)]; exact hr6
      have hv : ∀ p, p < W.heap.size + 3 → (Value.slice A6 (n + 1) c6).ownBlock ≠ some p := fun p hp e => by have := (ho6.lt e).1; omega
      have hyy : ∀ y ∈ qs ++ [(⟨⟨2, E, S, X, d, f, l⟩, 0, Am, m, cm⟩ : Y)], ∀ ad, y.A = some ad → 0 < y.m → ad.block < W.heap.size := fun y hy ad e h0 => by
        rcases List.mem_append.1 hy with hy | hy
        · exact HOQ.out y hy ad e h0
        · simp at hy
          subst hy
          exact HOM.out ad e h0
      have ho8 := own_other (u := .int .u32 ((X : Int) + 1)) (j := 2) (own_other (u := .slice A6 (n + 1) c6) (j := 3) ho6 (hv W.heap.size (by omega)) (fun y hy ad e h0 => by have := hyy y hy ad e h0; omega)) (hv W.heap.size (by omega)) (fun y hy ad e h0 => by have := hyy y hy ad e h0; omega)
      have hw8 : Below W.heap.size W ((w6.setCell ⟨W.heap.size, 3, none⟩ (.slice A6 (n + 1) c6)).setCell ⟨W.heap.size, 2, none⟩ (.int .u32 ((X : Int) + 1))) := ((HW1B.out.trans (hb6.mono HW1B.out.size)).setCell (p := ⟨W.heap.size, 3, none⟩) (Nat.le_refl _) _).setCell (p := ⟨W.heap.size, 2, none⟩) (Nat.le_refl _) _
      have e2 := cell_at hq7 2 _ rfl
      have fr2 := frozen_of_row _ _ 2 _ _ hq7
      have HS8 := Lib.hid (And.intro hq8 hm8)
      have HR8 := Lib.hid hr8
      have HO8 := Lib.hid (And.intro ho8 (And.intro hv (And.intro hyy hw8)))
      have kx : IntKind.u32.wrap ((X : Int) + 1) = (X : Int) + 1 := IntWalk.u32_in ((X : Int) + 1) (by have := HXL.out; omega)
      clear ho6 hb6 hz1 hq6 hm6 hr6 hq7 hq8 hm8 hr8 hv hyy ho8 hw8
      go_wp2_with fail
      clear e2 fr2
      generalize (w6.setCell ⟨W.heap.size, 3, none⟩ (.slice A6 (n + 1) c6)).setCell ⟨W.heap.size, 2, none⟩ (.int .u32 ((X : Int) + 1)) = w8 at *
      have hS8 : w8.drew.heap[W.heap.size]? = some (.cells #[.string S, .int .u32 (E : Nat), .int .u32 ((X : Int) + 1), .slice A6 (n + 1) c6] 25 (0, 0)) ∧ w8.drew.heap[W.heap.size + 1]? = some (.cells #[.int .u32 (X : Nat), .int .i64 d, .int .i64 f, .slice Am m cm] 30 (0, 0)) := HS8.out
      have r0 := cell_at HR8.out 0 _ rfl
      have r1 := cell_at HR8.out 1 _ rfl
      have r2 := cell_at HR8.out 2 _ rfl
      have r3 := cell_at HR8.out 3 _ rfl
      have g0 := frozen_of_row _ _ 0 _ _ HR8.out
      have g1 := frozen_of_row _ _ 1 _ _ HR8.out
      have g2 := frozen_of_row _ _ 2 _ _ HR8.out
      have g3 := frozen_of_row _ _ 3 _ _ HR8.out
      refine wp_region_noPanic ?_
      refine wp_region_held_drew (S := fun w' => w'.heap[W.heap.size]? = some (.cells #[.string S, .int .u32 (E : Nat), .int .u32 ((X : Int) + 1), .slice A6 (n + 1) c6] 25 (0, 0)) ∧ w'.heap[W.heap.size + 1]? = some (.cells #[.int .u32 (X : Nat), .int .i64 d, .int .i64 f, .slice Am m cm] 30 (0, 0))) (by kernel_rfl) hS8 (fun hHeld => ?_)
      refine wpAnyH_take (i := 0) (v := ?_) rfl (by kernel_rfl) (by kernel_rfl) (by kernel_rfl) (fun _ _ _ h => h) (Or.inl ⟨by kernel_rfl, ?_⟩) hHeld ?_
      rotate_left
      · (intro w' hw'; have b0 := cell_at hw'.1 0 _ rfl; have b1 := cell_at hw'.1 1 _ rfl; have b2 := cell_at hw'.1 2 _ rfl; have b3 := cell_at hw'.1 3 _ rfl; go_simp; first | done | with_reducible rfl)
      refine wpAnyH_take (i := 1) (v := ?_) rfl (by kernel_rfl) (by kernel_rfl) (by kernel_rfl) (fun _ _ _ h => h) (Or.inl ⟨by kernel_rfl, ?_⟩) hHeld ?_
      rotate_left
      · (intro w' hw'; go_simp; first | done | with_reducible rfl)
      refine wpAnyH_take (i := 2) (v := ?_) rfl (by kernel_rfl) (by kernel_rfl) (by kernel_rfl) (fun _ _ _ h => h) (Or.inl ⟨by kernel_rfl, ?_⟩) hHeld ?_
      rotate_left
      · (intro w' hw'; have m0 := cell_at hw'.2 0 _ rfl; go_simp; first | done | with_reducible rfl)
      refine wpAnyH_ready (rs := [3]) (by kernel_rfl) (by simp) ?_
      refine AllReadyH.cons rfl (fun K hK => ?_) AllReadyH.nil
      go_simp
      obtain ⟨k1, k2, k3⟩ := four HR8.out rfl (.string S) (.int .u32 (E : Nat)) (.int .u32 ((X : Int) + 1)) (.slice A6 (n + 1) c6)
      have hs9 : ((((w8.setCell ⟨W.heap.size + 1 + 1, 0, none⟩ (.string S)).setCell ⟨W.heap.size + 1 + 1, 1, none⟩ (.int .u32 (E : Nat))).setCell ⟨W.heap.size + 1 + 1, 2, none⟩ (.int .u32 ((X : Int) + 1))).setCell ⟨W.heap.size + 1 + 1, 3, none⟩ (.slice A6 (n + 1) c6)).drew.heap[W.heap.size]? = some (.cells #[.string S, .int .u32 (E : Nat), .int .u32 ((X : Int) + 1), .slice A6 (n + 1) c6] 25 (0, 0)) ∧ ((((w8.setCell ⟨W.heap.size + 1 + 1, 0, none⟩ (.string S)).setCell ⟨W.heap.size + 1 + 1, 1, none⟩ (.int .u32 (E : Nat))).setCell ⟨W.heap.size + 1 + 1, 2, none⟩ (.int .u32 ((X : Int) + 1))).setCell ⟨W.heap.size + 1 + 1, 3, none⟩ (.slice A6 (n + 1) c6)).drew.heap[W.heap.size + 1]? = some (.cells #[.int .u32 (X : Nat), .int .i64 d, .int .i64 f, .slice Am m cm] 30 (0, 0)) := And.intro ((k2 W.heap.size (by omega)).trans hHeld.1) ((k2 (W.heap.size + 1) (by omega)).trans hHeld.2)
      have HK9 := Lib.hid (show ((((w8.setCell ⟨W.heap.size + 1 + 1, 0, none⟩ (.string S)).setCell ⟨W.heap.size + 1 + 1, 1, none⟩ (.int .u32 (E : Nat))).setCell ⟨W.heap.size + 1 + 1, 2, none⟩ (.int .u32 ((X : Int) + 1))).setCell ⟨W.heap.size + 1 + 1, 3, none⟩ (.slice A6 (n + 1) c6)).drew.heap[W.heap.size + 1 + 1]? = some (.cells #[.string S, .int .u32 (E : Nat), .int .u32 ((X : Int) + 1), .slice A6 (n + 1) c6] 25 (0, 0)) from k1)
      have HK3 := Lib.hid (show ∀ (B : Nat) (a : World), Below B a w8 → B ≤ W.heap.size + 1 + 1 → Below B a ((((w8.setCell ⟨W.heap.size + 1 + 1, 0, none⟩ (.string S)).setCell ⟨W.heap.size + 1 + 1, 1, none⟩ (.int .u32 (E : Nat))).setCell ⟨W.heap.size + 1 + 1, 2, none⟩ (.int .u32 ((X : Int) + 1))).setCell ⟨W.heap.size + 1 + 1, 3, none⟩ (.slice A6 (n + 1) c6)) from k3)
      clear k1 k2 k3
      refine hK _ _ hs9 (fun hH9 => ?_)
      clear hK K hs9
      refine wpAnyH_take (i := 4) (v := ?_) rfl (by kernel_rfl) (by kernel_rfl) (by kernel_rfl) (fun _ _ _ h => h) (Or.inl ⟨by kernel_rfl, ?_⟩) hH9 ?_
      rotate_left
      · (intro w' hw'; go_simp; first | done | with_reducible rfl)
      refine wpAnyH_take (i := 5) (v := ?_) rfl (by kernel_rfl) (by kernel_rfl) (by kernel_rfl) (fun _ _ _ h => h) (Or.inl ⟨by kernel_rfl, ?_⟩) hH9 ?_
      rotate_left
      · (intro w' hw'; go_simp; first | done | with_reducible rfl)
      refine wpAnyH_done (by kernel_rfl) ?_ _
      refine NoPanic.normal ?_
      go_simp
      go_wp2_with fail
      obtain ⟨ho8, hv, hyy, hw8⟩ := HO8.out
      have hv2 := hv (W.heap.size + 1 + 1) (by omega)
      have hy2 : ∀ y ∈ qs ++ [(⟨⟨2, E, S, X, d, f, l⟩, 0, Am, m, cm⟩ : Y)], ∀ ad, y.A = some ad → 0 < y.m → ad.block ≠ W.heap.size + 1 + 1 := fun y hy ad e h0 => by have := hyy y hy ad e h0; omega
      have ho9 := own_other (u := .slice A6 (n + 1) c6) (j := 3) (own_other (u := .int .u32 ((X : Int) + 1)) (j := 2) (own_other (u := .int .u32 (E : Nat)) (j := 1) (own_other (u := .string S) (j := 0) ho8 hv2 hy2) hv2 hy2) hv2 hy2) hv2 hy2
      have hz1 := HZ1.out
      have ho10 : Own cM 4 w1.heap.size 30 ((((w8.setCell ⟨W.heap.size + 1 + 1, 0, none⟩ (.string S)).setCell ⟨W.heap.size + 1 + 1, 1, none⟩ (.int .u32 (E : Nat))).setCell ⟨W.heap.size + 1 + 1, 2, none⟩ (.int .u32 ((X : Int) + 1))).setCell ⟨W.heap.size + 1 + 1, 3, none⟩ (.slice A6 (n + 1) c6)).drew (.slice A6 (n + 1) c6) (qs ++ [(⟨⟨2, E, S, X, d, f, l⟩, 0, Am, m, cm⟩ : Y)]) := ho9.below (codec.below_draws (Below.refl _ _) 1)
      refine bodyPost_ret (results_cell_tmp_tmp Tryd.results18 _ _ (W.heap.size + 1 + 1) _ _ _ _ rfl HK9.out Tryd.underlying25 rfl (boxSize _ rfl)) rfl ⟨A6, c6, by rw [Int.natCast_add]; rfl, ⟨⟨ho10.1.1, ho10.1.2.imp id fun ⟨g, cap, cur, h1, h2, h3⟩ => ⟨g, cap, cur, h1, by omega, h3⟩⟩, ho10.2⟩, (HK3.out _ _ hw8 (by omega)).trans (codec.below_draws (Below.refl _ _) 1)⟩
  · have hbl : Below w2.heap.size w2 (w2.alloc (.cells #[.int .u32 (X : Nat), .int .i64 d, .int .i64 f, .slice Am m cm] 30)) := (Below.refl _ _).alloc (Nat.le_refl _) _
    have hsl := hHeld0.trans (hbl.mono hHeld0.size)
    have HRl := Lib.hid (show Rd cM 4 (w2.alloc (.cells #[.int .u32 (X : Nat), .int .i64 d, .int .i64 f, .slice Am m cm] 30)) (some ⟨w2.heap.size, 0, none⟩) 1 [(⟨⟨2, E, S, X, d, f, l⟩, 0, Am, m, cm⟩ : Y)] from rd_one (HOC.out _ hHeld0))
    have HLl := Lib.hid (show w2.heap.size < (w2.alloc (.cells #[.int .u32 (X : Nat), .int .i64 d, .int .i64 f, .slice Am m cm] 30)).heap.size by simp)
    go_simp
    refine hK.out _ _ (fun _ => hsl) (fun hh => ?_)
    clear hK K hh
    generalize gl : w2.heap.size = gl0 at *
    generalize w2.alloc (.cells #[.int .u32 (X : Nat), .int .i64 d, .int .i64 f, .slice Am m cm] 30) = wl at *
    refine held.wpAnyG_ready (rs := [0]) (by kernel_rfl) (by simp) ?_
    refine held.AllReadyG.cons rfl (fun K hK => ?_) held.AllReadyG.nil
    have hbe : Below wl.heap.size wl (wl.alloc (.cells #[] 30)) := (Below.refl _ _).alloc (Nat.le_refl _) _
    have hse := hsl.trans (hbe.mono hsl.size)
    have HOe := Lib.hid (show Own cM 4 w1.heap.size 30 (wl.alloc (.cells #[] 30)) (.slice (some ⟨wl.heap.size, 0, none⟩) 0 0) [] from ⟨World.ownsRow_made wl #[] 0 hsl.size (Nat.zero_le _) rfl, by simp⟩)
    have HGe := Lib.hid (show w1.heap.size ≤ wl.heap.size from hsl.size)
    have HGl := Lib.hid (show wl.heap.size < (wl.alloc (.cells #[] 30)).heap.size by simp)
    go_simp
    refine hK.out _ _ (fun _ => hse) (fun hh => ?_)
    clear hK K hh
    generalize ge : wl.heap.size = ge0 at *
    generalize wl.alloc (.cells #[] 30) = we at *
    have HRl := Lib.hid (show Rd cM 4 we (some ⟨gl0, 0, none⟩) 1 [(⟨⟨2, E, S, X, d, f, l⟩, 0, Am, m, cm⟩ : Y)] from HRl.out.below (by rw [ge]; exact hbe))
    refine held.wpAnyG_ready (rs := [3]) (by kernel_rfl) (by simp) ?_
    refine held.AllReadyG.cons rfl (fun K hK => ?_) held.AllReadyG.nil
    refine step_append_rows rfl (.tmp 19) (.tmp 21) rfl w1.heap.size (.slice (some ⟨ge0, 0, none⟩) 0 0) [] (by simp [Act.eval, Act.put]) HOe.out hse.size A n c qs (by simp [Act.eval, Act.put]) (HRQ.out _ hse) HAN.out (fun y hy ad e h0 e' => by
      have h1 := HOQ.out y hy ad e h0
      have h2 : ge0 = ad.block := Option.some.inj e'
      have h3 := HGe.out
      have h4 := HZ1.out
      omega) (by have := HNL.out; simp; omega) ?_
    intro v3 w3 ho3 hg3 hn3 hat3
    rw [List.nil_append] at ho3
    have hs3 := own_below (B := 0) HOe.out hse hg3
    have HO3 := Lib.hid ho3
    have HRl := Lib.hid (rd_grown HRl.out hg3 (fun ad e _ e' => by
      cases e
      have h1 : gl0 = ge0 := Option.some.inj e'
      have h2 := HLl.out
      omega) (fun y hy ad e h0 e' => by
      simp at hy
      subst hy
      have h1 := HOM.out ad e h0
      have h2 : ad.block = ge0 := Option.some.inj e'
      have h3 := HGe.out
      have h4 := HZ1.out
      omega) (by decide) fM)
    clear ho3 hg3 hn3 hat3
    refine hK.out _ _ (fun _ => hs3) (fun hh => ?_)
    clear hK K hh
    refine held.wpAnyG_ready (rs := [6]) (by kernel_rfl) (by simp) ?_
    refine held.AllReadyG.cons rfl (fun K hK => ?_) held.AllReadyG.nil
    refine step_append_rows rfl (.tmp 22) (.tmp 24) rfl w1.heap.size v3 qs (by simp [Act.eval, Act.put]) HO3.out hs3.size (some ⟨gl0, 0, none⟩) 1 1 [(⟨⟨2, E, S, X, d, f, l⟩, 0, Am, m, cm⟩ : Y)] (by simp [Act.eval, Act.put]) HRl.out (fun e => by cases e) (fun y hy ad e h0 e' => by
      simp at hy
      subst hy
      have h1 := HOM.out ad e h0
      have h2 := (HO3.out.lt e').1
      have h3 := HZ1.out
      omega) (by have h1 := HNL.out; have h2 := HQL.out; omega) ?_
    intro v6 w6 ho6 hg6 hn6 hat6
    have hs6 := own_below (B := 0) HO3.out hs3 hg6
    obtain ⟨A6, c6, rfl, -, -, -⟩ := ho6.rd fM
    have hl6 : (qs ++ [(⟨⟨2, E, S, X, d, f, l⟩, 0, Am, m, cm⟩ : Y)]).length = n + 1 := by rw [List.length_append, HQL.out]; rfl
    rw [hl6] at ho6 ⊢
    have HB6 := Lib.hid (And.intro ho6 hs6)
    have hq6 := HQ1.out _ hs6
    have cc := cell_at hq6 3 _ rfl
    have ff := frozen_of_row _ _ 3 _ _ hq6
    clear ho6 hg6 hn6 hat6 hl6 hq6
    refine hK.out _ _ (fun _ => hs6) (fun hh => ?_)
    have hH6 := hh (by decide)
    clear hK K hh
    refine held.wpAnyG_take (i := 7) (v := ?_) rfl (by kernel_rfl) (by kernel_rfl) (by kernel_rfl) (by kernel_rfl) (fun _ _ _ h => h) (Or.inl ⟨by kernel_rfl, ?_⟩) hH6 ?_
    rotate_left
    · (intro w' hw'; go_simp; first | done | with_reducible rfl)
    refine held.wpAnyG_ready (rs := [8]) (by kernel_rfl) (by simp) ?_
    refine held.AllReadyG.cons rfl (fun K hK => ?_) held.AllReadyG.nil
    go_simp
    refine hK.out _ _ (fun hh => absurd rfl hh) (fun _ => ?_)
    clear hK K hH6
    refine held.wpAnyG_done (by kernel_rfl) ?_ _
    refine NoPanic.normal ?_
    go_simp
    clear cc ff hs6
    obtain ⟨ho6, hb6⟩ := HB6.out
    have hz1 := HZ1.out
    have hq6 := HQ1.out _ hb6
    have hm6 := HM1.out _ hb6
    have hr6 := HR1.out _ hb6
    have hq7 : (w6.setCell ⟨W.heap.size, 3, none⟩ (.slice A6 (n + 1) c6)).heap[W.heap.size]? = some (.cells #[.string S, .int .u32 (E : Nat), .int .u32 (X : Nat), .slice A6 (n + 1) c6] 25 (0, 0)) := by rw [heap_setCell_same _ _ _ _ _ _ hq6]; rfl
    have hq8 : ((w6.setCell ⟨W.heap.size, 3, none⟩ (.slice A6 (n + 1) c6)).setCell ⟨W.heap.size, 2, none⟩ (.int .u32 ((X : Int) + 1))).heap[W.heap.size]? = some (.cells #[.string S, .int .u32 (E : Nat), .int .u32 ((X : Int) + 1), .slice A6 (n + 1) c6] 25 (0, 0)) := by rw [heap_setCell_same _ _ _ _ _ _ hq7]; rfl
    have hm8 : ((w6.setCell ⟨W.heap.size, 3, none⟩ (.slice A6 (n + 1) c6)).setCell ⟨W.heap.size, 2, none⟩ (.int .u32 ((X : Int) + 1))).heap[W.heap.size + 1]? = some (.cells #[.int .u32 (X : Nat), .int .i64 d, .int .i64 f, .slice Am m cm] 30 (0, 0)) := by rw [heap_setCell_other _ _ _ _ (by show _ ≠ W.heap.size; omega), heap_setCell_other _ _ _ _ (by show _ ≠ W.heap.size; omega)]; exact hm6
    have hr8 : ((w6.setCell ⟨W.heap.size, 3, none⟩ (.slice A6 (n + 1) c6)).setCell ⟨W.heap.size, 2, none⟩ (.int .u32 ((X : Int) + 1))).heap[W.heap.size + 1 + 1]? = some (.cells #[.string ⟨#[]⟩, .int .u32 0, .int .u32 0, .slice none 0 0] 25 (0, 0)) := by rw [heap_setCell_other _ _ _ _ (by show _ ≠ W.heap.size; omega), heap_setCell_other _ _ _ _ (by show _ ≠ W.heap.size; omega)]; exact hr6
    have hv : ∀ p, p < W.heap.size + 3 → (Value.slice A6 (n + 1) c6).ownBlock ≠ some p := fun p hp e => by have := (ho6.lt e).1; omega
    have hyy : ∀ y ∈ qs ++ [(⟨⟨2, E, S, X, d, f, l⟩, 0, Am, m, cm⟩ : Y)], ∀ ad, y.A = some ad → 0 < y.m → ad.block < W.heap.size := fun y hy ad e h0 => by
      rcases List.mem_append.1 hy with hy | hy
      · exact HOQ.out y hy ad e h0
      · simp at hy
        subst hy
        exact HOM.out ad e h0
    have ho8 := own_other (u := .int .u32 ((X : Int) + 1)) (j := 2) (own_other (u := .slice A6 (n + 1) c6) (j := 3) ho6 (hv W.heap.size (by omega)) (fun y hy ad e h0 => by have := hyy y hy ad e h0; omega)) (hv W.heap.size (by omega)) (fun y hy ad e h0 => by have := hyy y hy ad e h0; omega)
    have hw8 : Below W.heap.size W ((w6.setCell ⟨W.heap.size, 3, none⟩ (.slice A6 (n + 1) c6)).setCell ⟨W.heap.size, 2, none⟩ (.int .u32 ((X : Int) + 1))) := ((HW1B.out.trans (hb6.mono HW1B.out.size)).setCell (p := ⟨W.heap.size, 3, none⟩) (Nat.le_refl _) _).setCell (p := ⟨W.heap.size, 2, none⟩) (Nat.le_refl _) _
    have e2 := cell_at hq7 2 _ rfl
    have fr2 := frozen_of_row _ _ 2 _ _ hq7
    have HS8 := Lib.hid (And.intro hq8 hm8)
    have HR8 := Lib.hid hr8
    have HO8 := Lib.hid (And.intro ho8 (And.intro hv (And.intro hyy hw8)))
    have kx : IntKind.u32.wrap ((X : Int) + 1) = (X : Int) + 1 := IntWalk.u32_in ((X : Int) + 1) (by have := HXL.out; omega)
    clear ho6 hb6 hz1 hq6 hm6 hr6 hq7 hq8 hm8 hr8 hv hyy ho8 hw8
    go_wp2_with fail
    clear e2 fr2
    generalize (w6.setCell ⟨W.heap.size, 3, none⟩ (.slice A6 (n + 1) c6)).setCell ⟨W.heap.size, 2, none⟩ (.int .u32 ((X : Int) + 1)) = w8 at *
    have hS8 : w8.drew.heap[W.heap.size]? = some (.cells #[.string S, .int .u32 (E : Nat), .int .u32 ((X : Int) + 1), .slice A6 (n + 1) c6] 25 (0, 0)) ∧ w8.drew.heap[W.heap.size + 1]? = some (.cells #[.int .u32 (X : Nat), .int .i64 d, .int .i64 f, .slice Am m cm] 30 (0, 0)) := HS8.out
    have r0 := cell_at HR8.out 0 _ rfl
    have r1 := cell_at HR8.out 1 _ rfl
    have r2 := cell_at HR8.out 2 _ rfl
    have r3 := cell_at HR8.out 3 _ rfl
    have g0 := frozen_of_row _ _ 0 _ _ HR8.out
    have g1 := frozen_of_row _ _ 1 _ _ HR8.out
    have g2 := frozen_of_row _ _ 2 _ _ HR8.out
    have g3 := frozen_of_row _ _ 3 _ _ HR8.out
    refine wp_region_noPanic ?_
    refine wp_region_held_drew (S := fun w' => w'.heap[W.heap.size]? = some (.cells #[.string S, .int .u32 (E : Nat), .int .u32 ((X : Int) + 1), .slice A6 (n + 1) c6] 25 (0, 0)) ∧ w'.heap[W.heap.size + 1]? = some (.cells #[.int .u32 (X : Nat), .int .i64 d, .int .i64 f, .slice Am m cm] 30 (0, 0))) (by kernel_rfl) hS8 (fun hHeld => ?_)
    refine wpAnyH_take (i := 0) (v := ?_) rfl (by kernel_rfl) (by kernel_rfl) (by kernel_rfl) (fun _ _ _ h => h) (Or.inl ⟨by kernel_rfl, ?_⟩) hHeld ?_
    rotate_left
    · (intro w' hw'; have b0 := cell_at hw'.1 0 _ rfl; have b1 := cell_at hw'.1 1 _ rfl; have b2 := cell_at hw'.1 2 _ rfl; have b3 := cell_at hw'.1 3 _ rfl; go_simp; first | done | with_reducible rfl)
    refine wpAnyH_take (i := 1) (v := ?_) rfl (by kernel_rfl) (by kernel_rfl) (by kernel_rfl) (fun _ _ _ h => h) (Or.inl ⟨by kernel_rfl, ?_⟩) hHeld ?_
    rotate_left
    · (intro w' hw'; go_simp; first | done | with_reducible rfl)
    refine wpAnyH_take (i := 2) (v := ?_) rfl (by kernel_rfl) (by kernel_rfl) (by kernel_rfl) (fun _ _ _ h => h) (Or.inl ⟨by kernel_rfl, ?_⟩) hHeld ?_
    rotate_left
    · (intro w' hw'; have m0 := cell_at hw'.2 0 _ rfl; go_simp; first | done | with_reducible rfl)
    refine wpAnyH_ready (rs := [3]) (by kernel_rfl) (by simp) ?_
    refine AllReadyH.cons rfl (fun K hK => ?_) AllReadyH.nil
    go_simp
    obtain ⟨k1, k2, k3⟩ := four HR8.out rfl (.string S) (.int .u32 (E : Nat)) (.int .u32 ((X : Int) + 1)) (.slice A6 (n + 1) c6)
    have hs9 : ((((w8.setCell ⟨W.heap.size + 1 + 1, 0, none⟩ (.string S)).setCell ⟨W.heap.size + 1 + 1, 1, none⟩ (.int .u32 (E : Nat))).setCell ⟨W.heap.size + 1 + 1, 2, none⟩ (.int .u32 ((X : Int) + 1))).setCell ⟨W.heap.size + 1 + 1, 3, none⟩ (.slice A6 (n + 1) c6)).drew.heap[W.heap.size]? = some (.cells #[.string S, .int .u32 (E : Nat), .int .u32 ((X : Int) + 1), .slice A6 (n + 1) c6] 25 (0, 0)) ∧ ((((w8.setCell ⟨W.heap.size + 1 + 1, 0, none⟩ (.string S)).setCell ⟨W.heap.size + 1 + 1, 1, none⟩ (.int .u32 (E : Nat))).setCell ⟨W.heap.size + 1 + 1, 2, none⟩ (.int .u32 ((X : Int) + 1))).setCell ⟨W.heap.size + 1 + 1, 3, none⟩ (.slice A6 (n + 1) c6)).drew.heap[W.heap.size + 1]? = some (.cells #[.int .u32 (X : Nat), .int .i64 d, .int .i64 f, .slice Am m cm] 30 (0, 0)) := And.intro ((k2 W.heap.size (by omega)).trans hHeld.1) ((k2 (W.heap.size + 1) (by omega)).trans hHeld.2)
    have HK9 := Lib.hid (show ((((w8.setCell ⟨W.heap.size + 1 + 1, 0, none⟩ (.string S)).setCell ⟨W.heap.size + 1 + 1, 1, none⟩ (.int .u32 (E : Nat))).setCell ⟨W.heap.size + 1 + 1, 2, none⟩ (.int .u32 ((X : Int) + 1))).setCell ⟨W.heap.size + 1 + 1, 3, none⟩ (.slice A6 (n + 1) c6)).drew.heap[W.heap.size + 1 + 1]? = some (.cells #[.string S, .int .u32 (E : Nat), .int .u32 ((X : Int) + 1), .slice A6 (n + 1) c6] 25 (0, 0)) from k1)
    have HK3 := Lib.hid (show ∀ (B : Nat) (a : World), Below B a w8 → B ≤ W.heap.size + 1 + 1 → Below B a ((((w8.setCell ⟨W.heap.size + 1 + 1, 0, none⟩ (.string S)).setCell ⟨W.heap.size + 1 + 1, 1, none⟩ (.int .u32 (E : Nat))).setCell ⟨W.heap.size + 1 + 1, 2, none⟩ (.int .u32 ((X : Int) + 1))).setCell ⟨W.heap.size + 1 + 1, 3, none⟩ (.slice A6 (n + 1) c6)) from k3)
    clear k1 k2 k3
    refine hK _ _ hs9 (fun hH9 => ?_)
    clear hK K hs9
    refine wpAnyH_take (i := 4) (v := ?_) rfl (by kernel_rfl) (by kernel_rfl) (by kernel_rfl) (fun _ _ _ h => h) (Or.inl ⟨by kernel_rfl, ?_⟩) hH9 ?_
    rotate_left
    · (intro w' hw'; go_simp; first | done | with_reducible rfl)
    refine wpAnyH_take (i := 5) (v := ?_) rfl (by kernel_rfl) (by kernel_rfl) (by kernel_rfl) (fun _ _ _ h => h) (Or.inl ⟨by kernel_rfl, ?_⟩) hH9 ?_
    rotate_left
    · (intro w' hw'; go_simp; first | done | with_reducible rfl)
    refine wpAnyH_done (by kernel_rfl) ?_ _
    refine NoPanic.normal ?_
    go_simp
    go_wp2_with fail
    obtain ⟨ho8, hv, hyy, hw8⟩ := HO8.out
    have hv2 := hv (W.heap.size + 1 + 1) (by omega)
    have hy2 : ∀ y ∈ qs ++ [(⟨⟨2, E, S, X, d, f, l⟩, 0, Am, m, cm⟩ : Y)], ∀ ad, y.A = some ad → 0 < y.m → ad.block ≠ W.heap.size + 1 + 1 := fun y hy ad e h0 => by have := hyy y hy ad e h0; omega
    have ho9 := own_other (u := .slice A6 (n + 1) c6) (j := 3) (own_other (u := .int .u32 ((X : Int) + 1)) (j := 2) (own_other (u := .int .u32 (E : Nat)) (j := 1) (own_other (u := .string S) (j := 0) ho8 hv2 hy2) hv2 hy2) hv2 hy2) hv2 hy2
    have hz1 := HZ1.out
    have ho10 : Own cM 4 w1.heap.size 30 ((((w8.setCell ⟨W.heap.size + 1 + 1, 0, none⟩ (.string S)).setCell ⟨W.heap.size + 1 + 1, 1, none⟩ (.int .u32 (E : Nat))).setCell ⟨W.heap.size + 1 + 1, 2, none⟩ (.int .u32 ((X : Int) + 1))).setCell ⟨W.heap.size + 1 + 1, 3, none⟩ (.slice A6 (n + 1) c6)).drew (.slice A6 (n + 1) c6) (qs ++ [(⟨⟨2, E, S, X, d, f, l⟩, 0, Am, m, cm⟩ : Y)]) := ho9.below (codec.below_draws (Below.refl _ _) 1)
    refine bodyPost_ret (results_cell_tmp_tmp Tryd.results18 _ _ (W.heap.size + 1 + 1) _ _ _ _ rfl HK9.out Tryd.underlying25 rfl (boxSize _ rfl)) rfl ⟨A6, c6, by rw [Int.natCast_add]; rfl, ⟨⟨ho10.1.1, ho10.1.2.imp id fun ⟨g, cap, cur, h1, h2, h3⟩ => ⟨g, cap, cur, h1, by omega, h3⟩⟩, ho10.2⟩, (HK3.out _ _ hw8 (by omega)).trans (codec.below_draws (Below.refl _ _) 1)⟩
/-- While messages are copied, as the document says. -/
structure DS (W : World) (FB : Array Value) (S' : ByteArray) (E' X' : Nat) (l : List Nt) (g : List Nat) (A2 : Option Addr) (n2 c2 : Nat) (vc : Value) (w : World) : Prop where
  frm : w.heap[W.heap.size]? = some (.cells FB 25 (0, 0))
  to_ : w.heap[W.heap.size + 1]? = some (.cells #[.string S', .int .u32 (E' : Nat), .int .u32 (X' : Nat), .slice A2 n2 c2] 25 (0, 0))
  res : w.heap[W.heap.size + 2]? = some (.cells #[.string ⟨#[]⟩, .int .u32 0, .int .u32 0, .slice none 0 0] 25 (0, 0))
  rd : ∃ ys, Rd cM 4 w A2 n2 ys ∧ nts ys = l ∧ (∀ y ∈ ys, ∀ ad, y.A = some ad → 0 < y.m → ad.block < W.heap.size)
  nil : A2 = none → c2 = 0
  sep : ∀ ad, A2 = some ad → 0 < n2 → ad.block < W.heap.size ∨ (W.heap.size + 3 ≤ ad.block ∧ vc.ownBlock ≠ some ad.block)
  came : row.Own cU 1 (W.heap.size + 3) 22 w vc g
  bel : Below W.heap.size W w
section
variable {W : World} {FB : Array Value} {S' : ByteArray} {E' X' : Nat} {l : List Nt} {g : List Nat} {A2 : Option Addr} {n2 c2 : Nat} {vc : Value} {w : World}
theorem DS.lt (h : DS W FB S' E' X' l g A2 n2 c2 vc w) : W.heap.size + 2 < w.heap.size := (Array.getElem?_eq_some_iff.1 h.res).1
theorem DS.below {w' : World} (h : DS W FB S' E' X' l g A2 n2 c2 vc w) (hb : Below w.heap.size w w') : DS W FB S' E' X' l g A2 n2 c2 vc w' := by
  have := h.lt
  obtain ⟨ys, h1, h2, h3⟩ := h.rd
  exact ⟨by rw [hb.block _ (by omega)]; exact h.frm, by rw [hb.block _ (by omega)]; exact h.to_, by rw [hb.block _ (by omega)]; exact h.res, ⟨ys, h1.below hb, h2, h3⟩, h.nil, h.sep, h.came.below hb, h.bel.trans (hb.mono (by omega))⟩
/-- The mailbox, stored anew. -/
theorem DS.next {w8 : World} {A6 : Option Addr} {n6 c6 B8 : Nat} {ys : List Y} {y : Y} (h : DS W FB S' E' X' l g A2 n2 c2 vc w) (h2 : nts ys = l) (h3 : ∀ z ∈ ys ++ [y], ∀ ad, z.A = some ad → 0 < z.m → ad.block < W.heap.size) (hb : Below w.heap.size w w8) (ho : Own cM 4 B8 30 w8 (.slice A6 n6 c6) (ys ++ [y])) (hB : w.heap.size ≤ B8) :
    DS W FB S' E' (X' + 1) (l ++ [y.n]) g A6 n6 c6 vc ((((w8.setCell ⟨W.heap.size + 1, 0, none⟩ (.string S')).setCell ⟨W.heap.size + 1, 1, none⟩ (.int .u32 (E' : Nat))).setCell ⟨W.heap.size + 1, 2, none⟩ (.int .u32 ((X' + 1 : Nat) : Nat))).setCell ⟨W.heap.size + 1, 3, none⟩ (.slice A6 n6 c6)) := by
  have hlt := h.lt
  have h8 := h.below hb
  obtain ⟨k1, k2, k3⟩ := four h8.to_ rfl (.string S') (.int .u32 (E' : Nat)) (.int .u32 ((X' + 1 : Nat) : Nat)) (.slice A6 n6 c6)
  have hv : (Value.slice A6 n6 c6).ownBlock ≠ some (W.heap.size + 1) := fun e => by have := (ho.lt e).1; omega
  have hy : ∀ z ∈ ys ++ [y], ∀ ad, z.A = some ad → 0 < z.m → ad.block ≠ W.heap.size + 1 := fun z hz ad e h0 => by have := h3 z hz ad e h0; omega
  have ho9 := own_other (u := .slice A6 n6 c6) (j := 3) (own_other (u := .int .u32 ((X' + 1 : Nat) : Nat)) (j := 2) (own_other (u := .int .u32 (E' : Nat)) (j := 1) (own_other (u := .string S') (j := 0) ho hv hy) hv hy) hv hy) hv hy
  have hvg : vc.ownBlock ≠ some (W.heap.size + 1) := fun e => by have := (h8.came.lt e).1; omega
  have hg9 := row_other (u := .slice A6 n6 c6) (j := 3) (row_other (u := .int .u32 ((X' + 1 : Nat) : Nat)) (j := 2) (row_other (u := .int .u32 (E' : Nat)) (j := 1) (row_other (u := .string S') (j := 0) h8.came hvg) hvg) hvg) hvg
  refine ⟨(k2 _ (by omega)).trans h8.frm, k1, (k2 _ (by omega)).trans h8.res, ⟨ys ++ [y], (own_rd ho9).1, by rw [← h2]; simp [nts], h3⟩, (own_rd ho9).2, fun ad e h0 => ?_, hg9, k3 _ _ h8.bel (by omega)⟩
  obtain ⟨gq, e1, hq⟩ := own_form ho h0
  rw [e1] at e
  cases e
  refine .inr ⟨by show W.heap.size + 3 ≤ gq; omega, fun e' => ?_⟩
  have h5 : vc.ownBlock = some gq := e'
  have := (h.came.lt h5).2
  omega
theorem DS.cames {x : Nat} {v' : Value} {w' : World} (h : DS W FB S' E' X' l g A2 n2 c2 vc w) (ho : row.Own cU 1 (W.heap.size + 3) 22 w' v' (g ++ [x])) (hg : w.grownBy w' vc.ownBlock) (ha : v'.ownBlock = vc.ownBlock ∨ ∃ q, v'.ownBlock = some q ∧ w.heap.size ≤ q) :
    DS W FB S' E' X' l (g ++ [x]) A2 n2 c2 v' w' := by
  obtain ⟨ys, h1, h2, h3⟩ := h.rd
  have hlt := h.lt
  have hne : ∀ j, j < W.heap.size + 3 → some j ≠ vc.ownBlock := fun j hj e => by have := (h.came.lt e.symm).1; omega
  refine ⟨by rw [hg.block _ (by omega) (hne _ (by omega))]; exact h.frm, by rw [hg.block _ (by omega) (hne _ (by omega))]; exact h.to_, by rw [hg.block _ hlt (hne _ (by omega))]; exact h.res, ⟨ys, rd_grown h1 hg (fun ad e h0 e' => ?_) (fun y hy ad e h0 => hne _ (by have := h3 y hy ad e h0; omega)) (by decide) fM, h2, h3⟩, h.nil, fun ad e h0 => ?_, ho, h.bel.trans ⟨hg.os, hg.tape, hg.output, hg.size, fun j hj => hg.block j (by omega) (hne j (by omega))⟩⟩
  · rcases h.sep ad e h0 with h5 | h5
    · exact hne _ (by omega) e'
    · exact h5.2 e'.symm
  · rcases h.sep ad e h0 with h5 | h5
    · exact .inl h5
    · refine .inr ⟨h5.1, fun e' => ?_⟩
      rcases ha with ha | ⟨q, ha, hq⟩
      · exact h5.2 (by rw [← ha]; exact e')
      · rw [ha] at e'
        have h6 := Option.some.inj e'
        obtain ⟨b, o, y, e1, e2, e3, -⟩ := h1.2 0 h0
        rw [e1] at e
        cases e
        have h7 := e3 0 _ rfl
        have h8 := block_lt_of_cell h7
        have h9 : b < w.heap.size := h8
        simp only [] at h6
        omega
end
end Go.Proofs.YtepngemlaiffgaaDoor.mal
