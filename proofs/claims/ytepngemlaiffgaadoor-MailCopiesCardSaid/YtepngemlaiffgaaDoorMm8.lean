/- Expunge, by both. -/
import Derived.Test.YtepngemlaiffgaaDoorMm7
namespace Go.Proofs.YtepngemlaiffgaaDoor.mal
open Go.ChangeShapes Go.WideShapes Go.ChangeAt Go.RowKit
open Go.Proofs.YtepngemlaiffgaaDoor.codec (Bytes vals)
open Go.Proofs.YtepngemlaiffgaaDoor.bod (cell_at Fit boxed named formedB fitsB)
open Go.Proofs.YtepngemlaiffgaaDoor.lg (Nt Y Rd Own Oct cM fM fl fl_at nts nts_at nts_len take_next)
set_option linter.unusedVariables false
set_option maxRecDepth 100000
set_option linter.unusedSimpArgs false

def cU (x : Nat) : List Value := [.int .u32 (x : Nat)]
theorem fU : row.Fm cU 1 := ⟨fun _ => rfl, fun y u hu => by simp [cU] at hu; subst hu; rfl⟩
theorem infoU : (Tryd.prog.info? 22).map (fun i => (i.zero, i.size, i.bytes)) = some (some (.int .u32 0), 1, 4) := by kernel_rfl
/-- Is a message to be deleted? -/
def delF (f : Int) : Bool := decide (f / 8 % 2 = 1)
def outP (al : Bool) (U : List Nat) (t : Nt) : Bool := delF t.f && (al || inB U t.u)
theorem and8 : ∀ m, m < 32 → bits .and .i64 ((m : Nat) : Int) 8 = if m / 8 % 2 = 1 then 8 else 0 := by decide +kernel
theorem and8_yes {f : Int} (h : 0 ≤ f ∧ f < 32) (hd : delF f = true) : bits .and .i64 f 8 = 8 := by
  obtain ⟨m, rfl⟩ := Int.eq_ofNat_of_zero_le h.1
  have := of_decide_eq_true hd
  rw [and8 m (by omega), if_pos (by omega)]
theorem and8_no {f : Int} (h : 0 ≤ f ∧ f < 32) (hd : delF f = false) : bits .and .i64 f 8 = 0 := by
  obtain ⟨m, rfl⟩ := Int.eq_ofNat_of_zero_le h.1
  have := of_decide_eq_false hd
  rw [and8 m (by omega), if_neg (by omega)]
theorem shr_yes {f : Int} (hd : delF f = true) : bits .and .i64 (f / 8) 1 = 1 := by
  have h := flg.bit_and f 3 (b := true) (by unfold flg.bitB; exact hd)
  simpa using h
theorem shr_no {f : Int} (hd : delF f = false) : bits .and .i64 (f / 8) 1 = 0 := by
  have h := flg.bit_and f 3 (b := false) (by unfold flg.bitB; exact hd)
  simpa using h
def gone (p : Nt → Bool) (l : List Nt) : List Nat := (l.filter p).map Nt.u
def left (p : Nt → Bool) (l : List Nt) : List Nt := l.filter fun t => !p t
theorem gone_yes {p : Nt → Bool} {l : List Nt} {t : Nt} (h : p t = true) : gone p (l ++ [t]) = gone p l ++ [t.u] := by simp [gone, h]
theorem gone_no {p : Nt → Bool} {l : List Nt} {t : Nt} (h : p t = false) : gone p (l ++ [t]) = gone p l := by simp [gone, h]
theorem left_yes {p : Nt → Bool} {l : List Nt} {t : Nt} (h : p t = true) : left p (l ++ [t]) = left p l := by simp [left, h]
theorem left_no {p : Nt → Bool} {l : List Nt} {t : Nt} (h : p t = false) : left p (l ++ [t]) = left p l ++ [t] := by simp [left, h]
theorem gone_len (p : Nt → Bool) (l : List Nt) : (gone p l).length ≤ l.length := by
  unfold gone
  rw [List.length_map]
  exact List.length_filter_le _ _
theorem left_len (p : Nt → Bool) (l : List Nt) : (left p l).length ≤ l.length := List.length_filter_le _ _
/-- While messages are parted. -/
structure ES (W : World) (C : Array Value) (qs : List Y) (p : Nt → Bool) (vg vl : Value) (k : Nat) (w : World) : Prop where
  box : w.heap[W.heap.size]? = some (.cells C 25 (0, 0))
  res : w.heap[W.heap.size + 1]? = some (.cells #[.string ⟨#[]⟩, .int .u32 0, .int .u32 0, .slice none 0 0] 25 (0, 0))
  out : row.Own cU 1 (W.heap.size + 2) 22 w vg (gone p ((nts qs).take k))
  stay : ∃ ls, Own cM 4 (W.heap.size + 2) 30 w vl ls ∧ nts ls = left p ((nts qs).take k) ∧ ∀ y ∈ ls, ∀ ad, y.A = some ad → 0 < y.m → ad.block < W.heap.size
  apart : ∀ b, vg.ownBlock = some b → vl.ownBlock ≠ some b
  bel : Below W.heap.size W w
theorem ES.lt {W : World} {C : Array Value} {qs : List Y} {p : Nt → Bool} {vg vl : Value} {k : Nat} {w : World} (h : ES W C qs p vg vl k w) : W.heap.size + 1 < w.heap.size := (Array.getElem?_eq_some_iff.1 h.res).1
theorem ES.below {W : World} {C : Array Value} {qs : List Y} {p : Nt → Bool} {vg vl : Value} {k : Nat} {w w' : World} (h : ES W C qs p vg vl k w) (hb : Below w.heap.size w w') : ES W C qs p vg vl k w' := by
  have := h.lt
  obtain ⟨ls, h1, h2, h3⟩ := h.stay
  exact ⟨by rw [hb.block _ (by omega)]; exact h.box, by rw [hb.block _ (by omega)]; exact h.res, h.out.below hb, ⟨ls, h1.below hb, h2, h3⟩, h.apart, h.bel.trans (hb.mono (by omega))⟩
theorem ES.goes {W : World} {C : Array Value} {qs : List Y} {p : Nt → Bool} {vg vl v' : Value} {k : Nat} {w w' : World} {t : Nt} (h : ES W C qs p vg vl k w) (ht : (nts qs)[k]? = some t) (hp : p t = true) (ho : row.Own cU 1 (W.heap.size + 2) 22 w' v' (gone p ((nts qs).take k) ++ [t.u])) (hg : w.grownBy w' vg.ownBlock) (ha : v'.ownBlock = vg.ownBlock ∨ ∃ g, v'.ownBlock = some g ∧ w.heap.size ≤ g) : ES W C qs p v' vl (k + 1) w' := by
  have hlt := h.lt
  obtain ⟨ls, h1, h2, h3⟩ := h.stay
  have hne : ∀ j, j < W.heap.size + 2 → some j ≠ vg.ownBlock := fun j hj e => by have := (h.out.lt e.symm).1; omega
  refine ⟨by rw [hg.block _ (by omega) (hne _ (by omega))]; exact h.box, by rw [hg.block _ hlt (hne _ (by omega))]; exact h.res, by rw [take_next ht, gone_yes hp]; exact ho, ⟨ls, h1.grown hg (fun b e e' => h.apart b e e') (fun y hy ad e h0 e' => by have := h3 y hy ad e h0; have := (h.out.lt e'.symm).1; omega), by rw [take_next ht, left_yes hp]; exact h2, h3⟩, fun b e e' => ?_, h.bel.trans ⟨hg.os, hg.tape, hg.output, hg.size, fun j hj => hg.block j (by omega) (hne j (by omega))⟩⟩
  rcases ha with ha | ⟨g, ha, hgs⟩
  · exact h.apart b (by rw [← ha]; exact e) e'
  · rw [ha] at e
    have h4 := Option.some.inj e
    have := (h1.lt e').2
    omega
theorem ES.stays {W : World} {C : Array Value} {qs : List Y} {p : Nt → Bool} {vg vl v' : Value} {k : Nat} {w w' : World} {t : Nt} {ls : List Y} {y : Y} (h : ES W C qs p vg vl k w) (h1 : Own cM 4 (W.heap.size + 2) 30 w vl ls) (h2 : nts ls = left p ((nts qs).take k)) (h3 : ∀ y ∈ ls, ∀ ad, y.A = some ad → 0 < y.m → ad.block < W.heap.size) (ht : (nts qs)[k]? = some t) (hp : p t = false) (hy : y.n = t) (hyo : ∀ ad, y.A = some ad → 0 < y.m → ad.block < W.heap.size) (ho : Own cM 4 (W.heap.size + 2) 30 w' v' (ls ++ [y])) (hg : w.grownBy w' vl.ownBlock) (ha : v'.ownBlock = vl.ownBlock ∨ ∃ g, v'.ownBlock = some g ∧ w.heap.size ≤ g) : ES W C qs p vg v' (k + 1) w' := by
  have hlt := h.lt
  have hne : ∀ j, j < W.heap.size + 2 → some j ≠ vl.ownBlock := fun j hj e => by have := (h1.lt e.symm).1; omega
  refine ⟨by rw [hg.block _ (by omega) (hne _ (by omega))]; exact h.box, by rw [hg.block _ hlt (hne _ (by omega))]; exact h.res, by rw [take_next ht, gone_no hp]; exact h.out.grown hg (fun b e e' => h.apart b e' e), ⟨ls ++ [y], ho, ?_, fun z hz ad e h0 => ?_⟩, fun b e e' => ?_, h.bel.trans ⟨hg.os, hg.tape, hg.output, hg.size, fun j hj => hg.block j (by omega) (hne j (by omega))⟩⟩
  · rw [take_next ht, left_no hp, ← h2, ← hy]
    simp [nts]
  · rcases List.mem_append.1 hz with hz | hz
    · exact h3 z hz ad e h0
    · simp at hz
      subst hz
      exact hyo ad e h0
  · rcases ha with ha | ⟨g, ha, hgs⟩
    · exact h.apart b e (by rw [← ha]; exact e')
    · rw [ha] at e'
      have h4 := Option.some.inj e'
      have := (h.out.lt e).2
      omega
theorem row_other {α : Type} {F : α → List Value} {K B : Nat} {E : TypeId} {w : World} {v u : Value} {ys : List α} {p j : Nat} (h : row.Own F K B E w v ys) (hv : v.ownBlock ≠ some p) : row.Own F K B E (w.setCell ⟨p, j, none⟩ u) v ys :=
  h.grown (r := some p) ⟨rfl, rfl, rfl, by simp, fun k _ hne => heap_setCell_other _ _ _ _ (fun e => hne (by rw [e]))⟩ (fun b e => by cases e; exact hv)
/-- Another block is kept. -/
theorem row_kept {w w' : World} {gb n : Nat} {T : TypeId} {f : Nat → Value} {r : Option Nat} (h : w.rowIs gb T n f) (hg : w.grownBy w' r) (hr : r ≠ some gb) : w'.rowIs gb T n f := h.of_block (hg.block gb h.lt (fun e => hr e.symm))
theorem ne_kept {w : World} {v v' : Value} {gb : Nat} (h : v.ownBlock ≠ some gb) (hlt : gb < w.heap.size) (ha : v'.ownBlock = v.ownBlock ∨ ∃ g, v'.ownBlock = some g ∧ w.heap.size ≤ g) : v'.ownBlock ≠ some gb := by
  rcases ha with ha | ⟨g, ha, hg⟩
  · rw [ha]
    exact h
  · rw [ha]
    intro e
    have := Option.some.inj e
    omega
set_option maxHeartbeats 8000000 in
theorem rexpunge_all (W : World) (S : ByteArray) (E X : Nat) (A : Option Addr) (n c : Nat) (qs : List Y) (B : Option Addr) (q dd : Nat) (U : List Nat) (hR : Rd cM 4 W A n qs) (hn : n ≤ 1000000) (hU : Nums W B q U) (hq : q ≤ 1000000) :
    Calls Tryd.prog 22 #[.agg #[.string S, .int .u32 (E : Nat), .int .u32 (X : Nat), .slice A n c], .slice B q dd, .bool true] W fun x w' => ∃ A' n' c' vg ls, x = .returned (.tuple #[.agg #[.string S, .int .u32 (E : Nat), .int .u32 (X : Nat), .slice A' n' c'], vg]) ∧ Own cM 4 W.heap.size 30 w' (.slice A' n' c') ls ∧ nts ls = left (outP true U) (nts qs) ∧ row.Own cU 1 W.heap.size 22 w' vg (gone (outP true U) (nts qs)) ∧ Below W.heap.size W w' := by
  obtain ⟨W1, hW1⟩ : ∃ W1, W1 = (W.alloc (.cells #[.string S, .int .u32 (E : Nat), .int .u32 (X : Nat), .slice A n c] 25)).alloc (.cells #[.string ⟨#[]⟩, .int .u32 0, .int .u32 0, .slice none 0 0] 25) := ⟨_, rfl⟩
  have HBW := Lib.hid (show Below W.heap.size W W1 by rw [hW1]; exact ((Below.refl _ _).alloc (Nat.le_refl _) _).alloc (by simp) _)
  have HZW := Lib.hid (show W1.heap.size = W.heap.size + 2 by rw [hW1]; simp)
  have h1 : W1.heap[W.heap.size]? = some (.cells #[.string S, .int .u32 (E : Nat), .int .u32 (X : Nat), .slice A n c] 25 (0, 0)) := by rw [hW1, heap_alloc_old _ _ (by simp)]; exact heap_alloc_new _ _
  have h2 : W1.heap[W.heap.size + 1]? = some (.cells #[.string ⟨#[]⟩, .int .u32 0, .int .u32 0, .slice none 0 0] 25 (0, 0)) := by rw [hW1]; have := heap_alloc_new (W.alloc (.cells #[.string S, .int .u32 (E : Nat), .int .u32 (X : Nat), .slice A n c] 25)) (.cells #[.string ⟨#[]⟩, .int .u32 0, .int .u32 0, .slice none 0 0] 25); simpa using this
  have HP1 := Lib.hid (fun (w' : World) (h : Below W1.heap.size W1 w') => show w'.heap[W.heap.size]? = some (.cells #[.string S, .int .u32 (E : Nat), .int .u32 (X : Nat), .slice A n c] 25 (0, 0)) from (h.block _ (by rw [HZW.out]; omega)).trans h1)
  have HP2 := Lib.hid (fun (w' : World) (h : Below W1.heap.size W1 w') => show w'.heap[W.heap.size + 1]? = some (.cells #[.string ⟨#[]⟩, .int .u32 0, .int .u32 0, .slice none 0 0] 25 (0, 0)) from (h.block _ (by rw [HZW.out]; omega)).trans h2)
  have HNums := Lib.hid (fun (w' : World) (h : Below W.heap.size W w') => hU.below h)
  have HRQ := Lib.hid (fun (w' : World) (h : Below W.heap.size W w') => hR.below h)
  have HL := Lib.hid (show (nts qs).length = n by rw [nts_len, hR.1])
  have HOQ := Lib.hid (show ∀ y ∈ qs, ∀ ad, y.A = some ad → 0 < y.m → ad.block < W.heap.size from fun y hy ad e h0 => (rd_oct hR hy).1.lt ad e h0)
  have HFl0 := Lib.hid (show ∀ t : Nt, t ∈ nts qs → True from fun _ _ => trivial)
  have c3 := cell_at (h1) 3 _ rfl
  have HES := Lib.hid (show ES W #[.string S, .int .u32 (E : Nat), .int .u32 (X : Nat), .slice A n c] qs (outP true U) (.slice none 0 0) (.slice none 0 0) 0 W1 from ⟨h1, h2, row.Own.nil _ _ _ _ _, ⟨[], Own.nil _ _ _ _ _, rfl, by simp⟩, fun b e => (by cases e), HBW.out⟩)
  have HW1 := Lib.hid hW1
  rw [hW1] at c3
  clear hW1 h1 h2 hR hU
  go_enter Tryd.func22, Tryd.ntmps22
  go_wp2_with fail
  rw [← HW1.out]
  clear c3
  go_loopw [8, 9, 15] (fun vl vg i wr => ∃ k : Nat, k ≤ n ∧ i = .int .i64 k ∧ Hid (ES W #[.string S, .int .u32 (E : Nat), .int .u32 (X : Nat), .slice A n c] qs (outP true U) vg vl k wr)) (fun _ _ i _ => n - (intOf i).toNat)
  case atStart => exact ⟨0, Nat.zero_le _, rfl, HES⟩
  case round =>
    obtain ⟨k, hk, rfl, HS⟩ := hrel
    by_cases hlt : k < n
    · obtain ⟨b, o, y, rfl, hx, d0, d1, d2, d3, hoc⟩ := (HRQ.out wr HS.out.bel).at4 k hlt
      have HX := Lib.hid (nts_at hx)
      have HOB := Lib.hid (fun ad e h0 => HOQ.out y (List.mem_of_getElem? hx) ad e h0)
      have HFl := Lib.hid (HFl0.out y.n (List.mem_of_getElem? (nts_at hx)))
      have hsa := HS.out.below ((Below.refl wr.heap.size wr).alloc (Nat.le_refl _) (.cells #[.int .u32 (y.n.u : Nat), .int .i64 y.n.d, .int .i64 y.n.f, .slice y.A y.m y.c] 30))
      obtain ⟨ls, hl1, hl2, hl3⟩ := hsa.stay
      have HOC := Lib.hid (hoc.below ((Below.refl wr.heap.size wr).alloc (Nat.le_refl _) (.cells #[.int .u32 (y.n.u : Nat), .int .i64 y.n.d, .int .i64 y.n.f, .slice y.A y.m y.c] 30)))
      have HON := Lib.hid (show ∀ ad, y.A = some ad → 0 < y.m → u8.ownBlock ≠ some ad.block from fun ad e h0 e' => by have := (hl1.lt e').1; have := HOB.out ad e h0; omega)
      have HSA := Lib.hid hsa
      have HLO := Lib.hid hl1
      have HLN := Lib.hid hl2
      have HLB := Lib.hid hl3
      have HLL := Lib.hid (show ls.length ≤ 1000000 by
        have h1 := left_len (outP true U) ((nts qs).take k)
        rw [← hl2, nts_len, List.length_take] at h1
        omega)
      have HGL := Lib.hid (show (gone (outP true U) ((nts qs).take k)).length ≤ 1000000 by
        have h1 := gone_len (outP true U) ((nts qs).take k)
        rw [List.length_take] at h1
        omega)
      have hlt' : (k : Int) < (n : Int) := by omega
      have HIn := Lib.hid (in_any (wr.alloc (.cells #[.int .u32 (y.n.u : Nat), .int .i64 y.n.d, .int .i64 y.n.f, .slice y.A y.m y.c] 30)) B q dd U y.n.u (HNums.out _ (hsa.bel)) hq)
      have b3 := cell_at HS.out.box 3 _ rfl
      clear hx hoc hsa hl1 hl2 hl3
      obtain ⟨⟨tk, te, ts, tu, td, tf, to_⟩, pp, A', m', c'⟩ := y
      simp only [] at d0 d1 d2 d3 HX HOB HFl HOC HON HSA HLO HIn
      cases hd : delF tf with
      | false =>
        have qa := shr_no hd
        have HPV := Lib.hid (show outP true U ⟨tk, te, ts, tu, td, tf, to_⟩ = false by unfold outP; rw [hd]; rfl)
        clear hd
        go_wp2_with (first | (go_at_call 42; refine HIn.out.mono ?_; rintro e w5 ⟨rfl, hw5⟩; replace hw5 := hw5.symm; subst hw5) | (at_builtin; refine lg.wpList_append_own fM (by decide) (by decide) (by_ := 48) (by decide) (z := lg.zM) rfl rfl (.tmp 42) (.tmp 44) 23 30 rfl Tryd.underlying23 lg.infoM (W.heap.size + 2) u8 ls rfl HLO.out (by have := HSA.out.lt; omega) (by have := HLL.out; omega) ⟨⟨tk, te, ts, tu, td, tf, to_⟩, pp, A', m', c'⟩ (0, 0) _ (by simp) rfl _ rfl HOC.out HON.out ?_; intro v' w2 ho hgr hat; have HS2 := Lib.hid (HSA.out.stays HLO.out HLN.out HLB.out HX.out HPV.out rfl HOB.out ho hgr hat); clear ho hgr hat))
        go_roundw
        case rel => first | exact ⟨k + 1, by omega, by go_num, HS2⟩ | ((repeat apply Exists.intro); exact ⟨⟨k + 1, by omega, by go_num, HS2⟩, rfl⟩)
        case measure => (show n - ((k : Int) + 1).toNat < n - k; omega)
      | true =>
        have qa := shr_yes hd
        have HPV := Lib.hid (show outP true U ⟨tk, te, ts, tu, td, tf, to_⟩ = true by unfold outP; rw [hd]; rfl)
        clear hd
        go_wp2_with (first | (go_at_call 42; refine HIn.out.mono ?_; rintro e w5 ⟨rfl, hw5⟩; replace hw5 := hw5.symm; subst hw5) | (at_builtin; refine row.wpList_append_own fU (by decide) (by decide) (by_ := 4) (by decide) (z := .int .u32 0) rfl rfl (.tmp 37) (.tmp 40) 42 22 rfl Tryd.underlying42 infoU (W.heap.size + 2) u9 _ rfl HSA.out.out (by have := HSA.out.lt; omega) (by have := HGL.out; omega) tu (0, 0) _ (by simp) rfl _ rfl ?_; intro v' w2 ho hgr hat; have HS2 := Lib.hid (HSA.out.goes HX.out HPV.out ho hgr hat); clear ho hgr hat))
        go_roundw
        case rel => first | exact ⟨k + 1, by omega, by go_num, HS2⟩ | ((repeat apply Exists.intro); exact ⟨⟨k + 1, by omega, by go_num, HS2⟩, rfl⟩)
        case measure => (show n - ((k : Int) + 1).toNat < n - k; omega)
    · obtain rfl : k = n := by omega
      have hS := HS.out
      obtain ⟨ls, hl1, hl2, hl3⟩ := hS.stay
      obtain ⟨A2, c2, rfl, -, -, -⟩ := hl1.rd fM
      have hout := hS.out
      rw [List.take_of_length_le (Nat.le_of_eq HL.out)] at hl2 hout
      have hb3 := hS.box
      have hbx : (wr.setCell ⟨W.heap.size, 3, none⟩ (.slice A2 ls.length c2)).heap[W.heap.size]? = some (.cells #[.string S, .int .u32 (E : Nat), .int .u32 (X : Nat), .slice A2 ls.length c2] 25 (0, 0)) := by rw [heap_setCell_same _ _ _ _ _ _ hb3]; rfl
      have hrs : (wr.setCell ⟨W.heap.size, 3, none⟩ (.slice A2 ls.length c2)).heap[W.heap.size + 1]? = some (.cells #[.string ⟨#[]⟩, .int .u32 0, .int .u32 0, .slice none 0 0] 25 (0, 0)) := by rw [heap_setCell_other _ _ _ _ (by show _ ≠ W.heap.size; omega)]; exact hS.res
      have hol := own_other (u := .slice A2 ls.length c2) (j := 3) hl1 (p := W.heap.size) (fun e => by have := (hl1.lt e).1; omega) (fun y hy ad e h0 => by have := hl3 y hy ad e h0; omega)
      have hog := row_other (u := .slice A2 ls.length c2) (j := 3) (p := W.heap.size) hout (fun e => by have := (hout.lt e).1; omega)
      have hbl : Below W.heap.size W (wr.setCell ⟨W.heap.size, 3, none⟩ (.slice A2 ls.length c2)) := hS.bel.setCell (p := ⟨W.heap.size, 3, none⟩) (Nat.le_refl _) _
      have HEnd := Lib.hid (And.intro hrs (And.intro hol (And.intro hl2 (And.intro hog (And.intro hbl hl3)))))
      have e3 := cell_at hb3 3 _ rfl
      have fr3 := frozen_of_row _ _ 3 _ _ hb3
      have d0 := cell_at hbx 0 _ rfl
      have d1 := cell_at hbx 1 _ rfl
      have d2 := cell_at hbx 2 _ rfl
      have d3 := cell_at hbx 3 _ rfl
      have g0 := frozen_of_row _ _ 0 _ _ (hrs)
      have g1 := frozen_of_row _ _ 1 _ _ (hrs)
      have g2 := frozen_of_row _ _ 2 _ _ (hrs)
      have g3 := frozen_of_row _ _ 3 _ _ (hrs)
      have r0 := cell_at (hrs) 0 _ rfl
      have r1 := cell_at (hrs) 1 _ rfl
      have r2 := cell_at (hrs) 2 _ rfl
      have r3 := cell_at (hrs) 3 _ rfl
      clear hS hl1 hl2 hl3 hout hb3 hbx hrs hol hog hbl HS
      go_wp2_with fail
      obtain ⟨hrs, hol, hl2, hog, hbl, hl3⟩ := HEnd.out
      obtain ⟨k1, k2, k3⟩ := four hrs rfl (.string S) (.int .u32 (E : Nat)) (.int .u32 (X : Nat)) (.slice A2 ls.length c2)
      have hv : (Value.slice A2 ls.length c2).ownBlock ≠ some (W.heap.size + 1) := fun e => by have := (hol.lt e).1; omega
      have hy : ∀ y ∈ ls, ∀ ad, y.A = some ad → 0 < y.m → ad.block ≠ W.heap.size + 1 := fun y hy ad e h0 => by have := hl3 y hy ad e h0; omega
      have ho9 := own_other (u := .slice A2 ls.length c2) (j := 3) (own_other (u := .int .u32 (X : Nat)) (j := 2) (own_other (u := .int .u32 (E : Nat)) (j := 1) (own_other (u := .string S) (j := 0) hol hv hy) hv hy) hv hy) hv hy
      have hvg : u9.ownBlock ≠ some (W.heap.size + 1) := fun e => by have := (hog.lt e).1; omega
      have hg9 := row_other (u := .slice A2 ls.length c2) (j := 3) (row_other (u := .int .u32 (X : Nat)) (j := 2) (row_other (u := .int .u32 (E : Nat)) (j := 1) (row_other (u := .string S) (j := 0) hog hvg) hvg) hvg) hvg
      refine bodyPost_ret (results_cell_tmp Tryd.results22 _ _ (W.heap.size + 1) _ _ _ _ rfl k1 Tryd.underlying25 rfl (boxSize _ rfl)) rfl ⟨A2, ls.length, c2, u9, ls, rfl, ⟨⟨ho9.1.1, ho9.1.2.imp id fun ⟨g, cap, cur, h1, h2, h3⟩ => ⟨g, cap, cur, h1, by omega, h3⟩⟩, ho9.2⟩, hl2, ⟨hg9.1, hg9.2.imp id fun ⟨g, cap, cur, h1, h2, h3⟩ => ⟨g, cap, cur, h1, by omega, h3⟩⟩, k3 _ _ hbl (by omega)⟩
set_option maxHeartbeats 8000000 in
theorem rexpunge_some (W : World) (S : ByteArray) (E X : Nat) (A : Option Addr) (n c : Nat) (qs : List Y) (B : Option Addr) (q dd : Nat) (U : List Nat) (hR : Rd cM 4 W A n qs) (hn : n ≤ 1000000) (hU : Nums W B q U) (hq : q ≤ 1000000) :
    Calls Tryd.prog 22 #[.agg #[.string S, .int .u32 (E : Nat), .int .u32 (X : Nat), .slice A n c], .slice B q dd, .bool false] W fun x w' => ∃ A' n' c' vg ls, x = .returned (.tuple #[.agg #[.string S, .int .u32 (E : Nat), .int .u32 (X : Nat), .slice A' n' c'], vg]) ∧ Own cM 4 W.heap.size 30 w' (.slice A' n' c') ls ∧ nts ls = left (outP false U) (nts qs) ∧ row.Own cU 1 W.heap.size 22 w' vg (gone (outP false U) (nts qs)) ∧ Below W.heap.size W w' := by
  obtain ⟨W1, hW1⟩ : ∃ W1, W1 = (W.alloc (.cells #[.string S, .int .u32 (E : Nat), .int .u32 (X : Nat), .slice A n c] 25)).alloc (.cells #[.string ⟨#[]⟩, .int .u32 0, .int .u32 0, .slice none 0 0] 25) := ⟨_, rfl⟩
  have HBW := Lib.hid (show Below W.heap.size W W1 by rw [hW1]; exact ((Below.refl _ _).alloc (Nat.le_refl _) _).alloc (by simp) _)
  have HZW := Lib.hid (show W1.heap.size = W.heap.size + 2 by rw [hW1]; simp)
  have h1 : W1.heap[W.heap.size]? = some (.cells #[.string S, .int .u32 (E : Nat), .int .u32 (X : Nat), .slice A n c] 25 (0, 0)) := by rw [hW1, heap_alloc_old _ _ (by simp)]; exact heap_alloc_new _ _
  have h2 : W1.heap[W.heap.size + 1]? = some (.cells #[.string ⟨#[]⟩, .int .u32 0, .int .u32 0, .slice none 0 0] 25 (0, 0)) := by rw [hW1]; have := heap_alloc_new (W.alloc (.cells #[.string S, .int .u32 (E : Nat), .int .u32 (X : Nat), .slice A n c] 25)) (.cells #[.string ⟨#[]⟩, .int .u32 0, .int .u32 0, .slice none 0 0] 25); simpa using this
  have HP1 := Lib.hid (fun (w' : World) (h : Below W1.heap.size W1 w') => show w'.heap[W.heap.size]? = some (.cells #[.string S, .int .u32 (E : Nat), .int .u32 (X : Nat), .slice A n c] 25 (0, 0)) from (h.block _ (by rw [HZW.out]; omega)).trans h1)
  have HP2 := Lib.hid (fun (w' : World) (h : Below W1.heap.size W1 w') => show w'.heap[W.heap.size + 1]? = some (.cells #[.string ⟨#[]⟩, .int .u32 0, .int .u32 0, .slice none 0 0] 25 (0, 0)) from (h.block _ (by rw [HZW.out]; omega)).trans h2)
  have HNums := Lib.hid (fun (w' : World) (h : Below W.heap.size W w') => hU.below h)
  have HRQ := Lib.hid (fun (w' : World) (h : Below W.heap.size W w') => hR.below h)
  have HL := Lib.hid (show (nts qs).length = n by rw [nts_len, hR.1])
  have HOQ := Lib.hid (show ∀ y ∈ qs, ∀ ad, y.A = some ad → 0 < y.m → ad.block < W.heap.size from fun y hy ad e h0 => (rd_oct hR hy).1.lt ad e h0)
  have HFl0 := Lib.hid (show ∀ t : Nt, t ∈ nts qs → True from fun _ _ => trivial)
  have c3 := cell_at (h1) 3 _ rfl
  have HES := Lib.hid (show ES W #[.string S, .int .u32 (E : Nat), .int .u32 (X : Nat), .slice A n c] qs (outP false U) (.slice none 0 0) (.slice none 0 0) 0 W1 from ⟨h1, h2, row.Own.nil _ _ _ _ _, ⟨[], Own.nil _ _ _ _ _, rfl, by simp⟩, fun b e => (by cases e), HBW.out⟩)
  have HW1 := Lib.hid hW1
  rw [hW1] at c3
  clear hW1 h1 h2 hR hU
  go_enter Tryd.func22, Tryd.ntmps22
  go_wp2_with fail
  rw [← HW1.out]
  clear c3
  go_loopw [8, 9, 15] (fun vl vg i wr => ∃ k : Nat, k ≤ n ∧ i = .int .i64 k ∧ Hid (ES W #[.string S, .int .u32 (E : Nat), .int .u32 (X : Nat), .slice A n c] qs (outP false U) vg vl k wr)) (fun _ _ i _ => n - (intOf i).toNat)
  case atStart => exact ⟨0, Nat.zero_le _, rfl, HES⟩
  case round =>
    obtain ⟨k, hk, rfl, HS⟩ := hrel
    by_cases hlt : k < n
    · obtain ⟨b, o, y, rfl, hx, d0, d1, d2, d3, hoc⟩ := (HRQ.out wr HS.out.bel).at4 k hlt
      have HX := Lib.hid (nts_at hx)
      have HOB := Lib.hid (fun ad e h0 => HOQ.out y (List.mem_of_getElem? hx) ad e h0)
      have HFl := Lib.hid (HFl0.out y.n (List.mem_of_getElem? (nts_at hx)))
      have hsa := HS.out.below ((Below.refl wr.heap.size wr).alloc (Nat.le_refl _) (.cells #[.int .u32 (y.n.u : Nat), .int .i64 y.n.d, .int .i64 y.n.f, .slice y.A y.m y.c] 30))
      obtain ⟨ls, hl1, hl2, hl3⟩ := hsa.stay
      have HOC := Lib.hid (hoc.below ((Below.refl wr.heap.size wr).alloc (Nat.le_refl _) (.cells #[.int .u32 (y.n.u : Nat), .int .i64 y.n.d, .int .i64 y.n.f, .slice y.A y.m y.c] 30)))
      have HON := Lib.hid (show ∀ ad, y.A = some ad → 0 < y.m → u8.ownBlock ≠ some ad.block from fun ad e h0 e' => by have := (hl1.lt e').1; have := HOB.out ad e h0; omega)
      have HSA := Lib.hid hsa
      have HLO := Lib.hid hl1
      have HLN := Lib.hid hl2
      have HLB := Lib.hid hl3
      have HLL := Lib.hid (show ls.length ≤ 1000000 by
        have h1 := left_len (outP false U) ((nts qs).take k)
        rw [← hl2, nts_len, List.length_take] at h1
        omega)
      have HGL := Lib.hid (show (gone (outP false U) ((nts qs).take k)).length ≤ 1000000 by
        have h1 := gone_len (outP false U) ((nts qs).take k)
        rw [List.length_take] at h1
        omega)
      have hlt' : (k : Int) < (n : Int) := by omega
      have HIn := Lib.hid (in_any (wr.alloc (.cells #[.int .u32 (y.n.u : Nat), .int .i64 y.n.d, .int .i64 y.n.f, .slice y.A y.m y.c] 30)) B q dd U y.n.u (HNums.out _ (hsa.bel)) hq)
      have b3 := cell_at HS.out.box 3 _ rfl
      clear hx hoc hsa hl1 hl2 hl3
      obtain ⟨⟨tk, te, ts, tu, td, tf, to_⟩, pp, A', m', c'⟩ := y
      simp only [] at d0 d1 d2 d3 HX HOB HFl HOC HON HSA HLO HIn
      cases hd : delF tf with
      | false =>
        have qa := shr_no hd
        have HPV := Lib.hid (show outP false U ⟨tk, te, ts, tu, td, tf, to_⟩ = false by unfold outP; rw [hd]; rfl)
        clear hd
        go_wp2_with (first | (go_at_call 42; refine HIn.out.mono ?_; rintro e w5 ⟨rfl, hw5⟩; replace hw5 := hw5.symm; subst hw5) | (at_builtin; refine lg.wpList_append_own fM (by decide) (by decide) (by_ := 48) (by decide) (z := lg.zM) rfl rfl (.tmp 42) (.tmp 44) 23 30 rfl Tryd.underlying23 lg.infoM (W.heap.size + 2) u8 ls rfl HLO.out (by have := HSA.out.lt; omega) (by have := HLL.out; omega) ⟨⟨tk, te, ts, tu, td, tf, to_⟩, pp, A', m', c'⟩ (0, 0) _ (by simp) rfl _ rfl HOC.out HON.out ?_; intro v' w2 ho hgr hat; have HS2 := Lib.hid (HSA.out.stays HLO.out HLN.out HLB.out HX.out HPV.out rfl HOB.out ho hgr hat); clear ho hgr hat))
        go_roundw
        case rel => first | exact ⟨k + 1, by omega, by go_num, HS2⟩ | ((repeat apply Exists.intro); exact ⟨⟨k + 1, by omega, by go_num, HS2⟩, rfl⟩)
        case measure => (show n - ((k : Int) + 1).toNat < n - k; omega)
      | true =>
        have qa := shr_yes hd
        cases hi : inB U tu with
        | false =>
          rw [hi] at HIn
          have HPV := Lib.hid (show outP false U ⟨tk, te, ts, tu, td, tf, to_⟩ = false by unfold outP; rw [hd, hi]; rfl)
          clear hd hi
          go_wp2_with (first | (go_at_call 42; refine HIn.out.mono ?_; rintro e w5 ⟨rfl, hw5⟩; replace hw5 := hw5.symm; subst hw5) | (at_builtin; refine lg.wpList_append_own fM (by decide) (by decide) (by_ := 48) (by decide) (z := lg.zM) rfl rfl (.tmp 42) (.tmp 44) 23 30 rfl Tryd.underlying23 lg.infoM (W.heap.size + 2) u8 ls rfl HLO.out (by have := HSA.out.lt; omega) (by have := HLL.out; omega) ⟨⟨tk, te, ts, tu, td, tf, to_⟩, pp, A', m', c'⟩ (0, 0) _ (by simp) rfl _ rfl HOC.out HON.out ?_; intro v' w2 ho hgr hat; have HS2 := Lib.hid (HSA.out.stays HLO.out HLN.out HLB.out HX.out HPV.out rfl HOB.out ho hgr hat); clear ho hgr hat))
          go_roundw
          case rel => first | exact ⟨k + 1, by omega, by go_num, HS2⟩ | ((repeat apply Exists.intro); exact ⟨⟨k + 1, by omega, by go_num, HS2⟩, rfl⟩)
          case measure => (show n - ((k : Int) + 1).toNat < n - k; omega)
        | true =>
          rw [hi] at HIn
          have HPV := Lib.hid (show outP false U ⟨tk, te, ts, tu, td, tf, to_⟩ = true by unfold outP; rw [hd, hi]; rfl)
          clear hd hi
          go_wp2_with (first | (go_at_call 42; refine HIn.out.mono ?_; rintro e w5 ⟨rfl, hw5⟩; replace hw5 := hw5.symm; subst hw5) | (at_builtin; refine row.wpList_append_own fU (by decide) (by decide) (by_ := 4) (by decide) (z := .int .u32 0) rfl rfl (.tmp 37) (.tmp 40) 42 22 rfl Tryd.underlying42 infoU (W.heap.size + 2) u9 _ rfl HSA.out.out (by have := HSA.out.lt; omega) (by have := HGL.out; omega) tu (0, 0) _ (by simp) rfl _ rfl ?_; intro v' w2 ho hgr hat; have HS2 := Lib.hid (HSA.out.goes HX.out HPV.out ho hgr hat); clear ho hgr hat))
          go_roundw
          case rel => first | exact ⟨k + 1, by omega, by go_num, HS2⟩ | ((repeat apply Exists.intro); exact ⟨⟨k + 1, by omega, by go_num, HS2⟩, rfl⟩)
          case measure => (show n - ((k : Int) + 1).toNat < n - k; omega)
    · obtain rfl : k = n := by omega
      have hS := HS.out
      obtain ⟨ls, hl1, hl2, hl3⟩ := hS.stay
      obtain ⟨A2, c2, rfl, -, -, -⟩ := hl1.rd fM
      have hout := hS.out
      rw [List.take_of_length_le (Nat.le_of_eq HL.out)] at hl2 hout
      have hb3 := hS.box
      have hbx : (wr.setCell ⟨W.heap.size, 3, none⟩ (.slice A2 ls.length c2)).heap[W.heap.size]? = some (.cells #[.string S, .int .u32 (E : Nat), .int .u32 (X : Nat), .slice A2 ls.length c2] 25 (0, 0)) := by rw [heap_setCell_same _ _ _ _ _ _ hb3]; rfl
      have hrs : (wr.setCell ⟨W.heap.size, 3, none⟩ (.slice A2 ls.length c2)).heap[W.heap.size + 1]? = some (.cells #[.string ⟨#[]⟩, .int .u32 0, .int .u32 0, .slice none 0 0] 25 (0, 0)) := by rw [heap_setCell_other _ _ _ _ (by show _ ≠ W.heap.size; omega)]; exact hS.res
      have hol := own_other (u := .slice A2 ls.length c2) (j := 3) hl1 (p := W.heap.size) (fun e => by have := (hl1.lt e).1; omega) (fun y hy ad e h0 => by have := hl3 y hy ad e h0; omega)
      have hog := row_other (u := .slice A2 ls.length c2) (j := 3) (p := W.heap.size) hout (fun e => by have := (hout.lt e).1; omega)
      have hbl : Below W.heap.size W (wr.setCell ⟨W.heap.size, 3, none⟩ (.slice A2 ls.length c2)) := hS.bel.setCell (p := ⟨W.heap.size, 3, none⟩) (Nat.le_refl _) _
      have HEnd := Lib.hid (And.intro hrs (And.intro hol (And.intro hl2 (And.intro hog (And.intro hbl hl3)))))
      have e3 := cell_at hb3 3 _ rfl
      have fr3 := frozen_of_row _ _ 3 _ _ hb3
      have d0 := cell_at hbx 0 _ rfl
      have d1 := cell_at hbx 1 _ rfl
      have d2 := cell_at hbx 2 _ rfl
      have d3 := cell_at hbx 3 _ rfl
      have g0 := frozen_of_row _ _ 0 _ _ (hrs)
      have g1 := frozen_of_row _ _ 1 _ _ (hrs)
      have g2 := frozen_of_row _ _ 2 _ _ (hrs)
      have g3 := frozen_of_row _ _ 3 _ _ (hrs)
      have r0 := cell_at (hrs) 0 _ rfl
      have r1 := cell_at (hrs) 1 _ rfl
      have r2 := cell_at (hrs) 2 _ rfl
      have r3 := cell_at (hrs) 3 _ rfl
      clear hS hl1 hl2 hl3 hout hb3 hbx hrs hol hog hbl HS
      go_wp2_with fail
      obtain ⟨hrs, hol, hl2, hog, hbl, hl3⟩ := HEnd.out
      obtain ⟨k1, k2, k3⟩ := four hrs rfl (.string S) (.int .u32 (E : Nat)) (.int .u32 (X : Nat)) (.slice A2 ls.length c2)
      have hv : (Value.slice A2 ls.length c2).ownBlock ≠ some (W.heap.size + 1) := fun e => by have := (hol.lt e).1; omega
      have hy : ∀ y ∈ ls, ∀ ad, y.A = some ad → 0 < y.m → ad.block ≠ W.heap.size + 1 := fun y hy ad e h0 => by have := hl3 y hy ad e h0; omega
      have ho9 := own_other (u := .slice A2 ls.length c2) (j := 3) (own_other (u := .int .u32 (X : Nat)) (j := 2) (own_other (u := .int .u32 (E : Nat)) (j := 1) (own_other (u := .string S) (j := 0) hol hv hy) hv hy) hv hy) hv hy
      have hvg : u9.ownBlock ≠ some (W.heap.size + 1) := fun e => by have := (hog.lt e).1; omega
      have hg9 := row_other (u := .slice A2 ls.length c2) (j := 3) (row_other (u := .int .u32 (X : Nat)) (j := 2) (row_other (u := .int .u32 (E : Nat)) (j := 1) (row_other (u := .string S) (j := 0) hog hvg) hvg) hvg) hvg
      refine bodyPost_ret (results_cell_tmp Tryd.results22 _ _ (W.heap.size + 1) _ _ _ _ rfl k1 Tryd.underlying25 rfl (boxSize _ rfl)) rfl ⟨A2, ls.length, c2, u9, ls, rfl, ⟨⟨ho9.1.1, ho9.1.2.imp id fun ⟨g, cap, cur, h1, h2, h3⟩ => ⟨g, cap, cur, h1, by omega, h3⟩⟩, ho9.2⟩, hl2, ⟨hg9.1, hg9.2.imp id fun ⟨g, cap, cur, h1, h2, h3⟩ => ⟨g, cap, cur, h1, by omega, h3⟩⟩, k3 _ _ hbl (by omega)⟩
end Go.Proofs.YtepngemlaiffgaaDoor.mal
namespace Go.Proofs.YtepngemlaiffgaaDoor.mal
open Go.ChangeShapes Go.WideShapes Go.ChangeAt Go.RowKit
open Go.Proofs.YtepngemlaiffgaaDoor.codec (Bytes vals)
open Go.Proofs.YtepngemlaiffgaaDoor.bod (cell_at Fit boxed named formedB fitsB)
open Go.Proofs.YtepngemlaiffgaaDoor.lg (Nt Y Rd Own Oct cM fM fl fl_at nts nts_at nts_len take_next)
set_option linter.unusedVariables false
set_option maxRecDepth 100000
set_option linter.unusedSimpArgs false

set_option maxHeartbeats 2000000 in
theorem expunge_wrong (W : World) (S : ByteArray) (E X : Nat) (A : Option Addr) (n c : Nat) (qs : List Y) (B : Option Addr) (q dd : Nat) (U : List Nat) (hR : Rd cM 4 W A n qs) (hn : n ≤ 1000000) (hs : S.size ≤ 100000) (hm : ∀ y ∈ qs, y.m ≤ 1000000) (hr : Fit W) (hU : Nums W B q U) (hq : q ≤ 1000000) (al : Bool) (hw : right S E X (nts qs) = false) :
    Calls Tryd.prog 21 #[.agg #[.string S, .int .u32 (E : Nat), .int .u32 (X : Nat), .slice A n c], .slice B q dd, .bool al] W fun x w' => x = .returned (.tuple #[.agg #[.string ⟨#[]⟩, .int .u32 0, .int .u32 0, .slice none 0 0], .slice none 0 0, .int .i64 1]) ∧ Below W.heap.size W w' := by
  obtain ⟨W1, hW1⟩ : ∃ W1, W1 = (W.alloc (.cells #[.string S, .int .u32 (E : Nat), .int .u32 (X : Nat), .slice A n c] 25)).alloc (.cells #[.string ⟨#[]⟩, .int .u32 0, .int .u32 0, .slice none 0 0] 25) := ⟨_, rfl⟩
  have HBW := Lib.hid (show Below W.heap.size W W1 by rw [hW1]; exact ((Below.refl _ _).alloc (Nat.le_refl _) _).alloc (by simp) _)
  have HZW := Lib.hid (show W1.heap.size = W.heap.size + 2 by rw [hW1]; simp)
  have h1 : W1.heap[W.heap.size]? = some (.cells #[.string S, .int .u32 (E : Nat), .int .u32 (X : Nat), .slice A n c] 25 (0, 0)) := by rw [hW1, heap_alloc_old _ _ (by simp)]; exact heap_alloc_new _ _
  have h2 : W1.heap[W.heap.size + 1]? = some (.cells #[.string ⟨#[]⟩, .int .u32 0, .int .u32 0, .slice none 0 0] 25 (0, 0)) := by rw [hW1]; have := heap_alloc_new (W.alloc (.cells #[.string S, .int .u32 (E : Nat), .int .u32 (X : Nat), .slice A n c] 25)) (.cells #[.string ⟨#[]⟩, .int .u32 0, .int .u32 0, .slice none 0 0] 25); simpa using this
  have HP1 := Lib.hid (fun (w' : World) (h : Below W1.heap.size W1 w') => show w'.heap[W.heap.size]? = some (.cells #[.string S, .int .u32 (E : Nat), .int .u32 (X : Nat), .slice A n c] 25 (0, 0)) from (h.block _ (by rw [HZW.out]; omega)).trans h1)
  have HP2 := Lib.hid (fun (w' : World) (h : Below W1.heap.size W1 w') => show w'.heap[W.heap.size + 1]? = some (.cells #[.string ⟨#[]⟩, .int .u32 0, .int .u32 0, .slice none 0 0] 25 (0, 0)) from (h.block _ (by rw [HZW.out]; omega)).trans h2)
  have HNums := Lib.hid (fun (w' : World) (h : Below W.heap.size W w') => hU.below h)
  have HRQ := Lib.hid (fun (w' : World) (h : Below W.heap.size W w') => hR.below h)
  have HL := Lib.hid (show (nts qs).length = n by rw [nts_len, hR.1])
  have HOQ := Lib.hid (show ∀ y ∈ qs, ∀ ad, y.A = some ad → 0 < y.m → ad.block < W.heap.size from fun y hy ad e h0 => (rd_oct hR hy).1.lt ad e h0)
  have HRt := Lib.hid (right_any W1 S E X A n c qs (hR.below HBW.out) hn hs (hr.below HBW.out))
  have c0 := cell_at (h1) 0 _ rfl
  have c1 := cell_at (h1) 1 _ rfl
  have c2 := cell_at (h1) 2 _ rfl
  have c3 := cell_at (h1) 3 _ rfl
  have HW1 := Lib.hid hW1
  have HRG := Lib.hid hw
  clear hw
  rw [hW1] at c0 c1 c2 c3
  clear hW1 h1 h2 hR hm hr hU
  go_enter Tryd.func21, Tryd.ntmps21
  go_wp2_with fail
  rw [← HW1.out]
  clear c0 c1 c2 c3
  refine HRt.out.mono ?_
  rw [HRG.out]
  rintro x w1 ⟨rfl, hb1⟩
  have HB1 := Lib.hid hb1
  have hz := HP2.out _ hb1
  have HZ := Lib.hid hz
  have r0 := cell_at (hz) 0 _ rfl
  have r1 := cell_at (hz) 1 _ rfl
  have r2 := cell_at (hz) 2 _ rfl
  have r3 := cell_at (hz) 3 _ rfl
  have g0 := frozen_of_row _ _ 0 _ _ (hz)
  have g1 := frozen_of_row _ _ 1 _ _ (hz)
  have g2 := frozen_of_row _ _ 2 _ _ (hz)
  have g3 := frozen_of_row _ _ 3 _ _ (hz)
  clear hb1 hz
  go_wp2_with fail
  obtain ⟨k1, k2, k3⟩ := four HZ.out rfl (.string ⟨#[]⟩) (.int .u32 0) (.int .u32 0) (.slice none 0 0)
  refine bodyPost_ret (results_cell_tmp_tmp Tryd.results21 _ _ (W.heap.size + 1) _ _ _ _ rfl k1 Tryd.underlying25 rfl (boxSize _ rfl)) rfl ⟨rfl, k3 _ _ (HBW.out.trans (HB1.out.mono HBW.out.size)) (by omega)⟩
set_option maxHeartbeats 8000000 in
theorem expunge_all (W : World) (S : ByteArray) (E X : Nat) (A : Option Addr) (n c : Nat) (qs : List Y) (B : Option Addr) (q dd : Nat) (U : List Nat) (hR : Rd cM 4 W A n qs) (hn : n ≤ 1000000) (hs : S.size ≤ 100000) (hm : ∀ y ∈ qs, y.m ≤ 1000000) (hr : Fit W) (hU : Nums W B q U) (hq : q ≤ 1000000) (hw : right S E X (nts qs) = true) :
    Calls Tryd.prog 21 #[.agg #[.string S, .int .u32 (E : Nat), .int .u32 (X : Nat), .slice A n c], .slice B q dd, .bool true] W fun x w' => ∃ A' n' c' vg ls, x = .returned (.tuple #[.agg #[.string S, .int .u32 (E : Nat), .int .u32 (X : Nat), .slice A' n' c'], vg, .int .i64 0]) ∧ Own cM 4 W.heap.size 30 w' (.slice A' n' c') ls ∧ nts ls = left (outP true U) (nts qs) ∧ row.Own cU 1 W.heap.size 22 w' vg (gone (outP true U) (nts qs)) ∧ Below W.heap.size W w' := by
  obtain ⟨W1, hW1⟩ : ∃ W1, W1 = (W.alloc (.cells #[.string S, .int .u32 (E : Nat), .int .u32 (X : Nat), .slice A n c] 25)).alloc (.cells #[.string ⟨#[]⟩, .int .u32 0, .int .u32 0, .slice none 0 0] 25) := ⟨_, rfl⟩
  have HBW := Lib.hid (show Below W.heap.size W W1 by rw [hW1]; exact ((Below.refl _ _).alloc (Nat.le_refl _) _).alloc (by simp) _)
  have HZW := Lib.hid (show W1.heap.size = W.heap.size + 2 by rw [hW1]; simp)
  have h1 : W1.heap[W.heap.size]? = some (.cells #[.string S, .int .u32 (E : Nat), .int .u32 (X : Nat), .slice A n c] 25 (0, 0)) := by rw [hW1, heap_alloc_old _ _ (by simp)]; exact heap_alloc_new _ _
  have h2 : W1.heap[W.heap.size + 1]? = some (.cells #[.string ⟨#[]⟩, .int .u32 0, .int .u32 0, .slice none 0 0] 25 (0, 0)) := by rw [hW1]; have := heap_alloc_new (W.alloc (.cells #[.string S, .int .u32 (E : Nat), .int .u32 (X : Nat), .slice A n c] 25)) (.cells #[.string ⟨#[]⟩, .int .u32 0, .int .u32 0, .slice none 0 0] 25); simpa using this
  have HP1 := Lib.hid (fun (w' : World) (h : Below W1.heap.size W1 w') => show w'.heap[W.heap.size]? = some (.cells #[.string S, .int .u32 (E : Nat), .int .u32 (X : Nat), .slice A n c] 25 (0, 0)) from (h.block _ (by rw [HZW.out]; omega)).trans h1)
  have HP2 := Lib.hid (fun (w' : World) (h : Below W1.heap.size W1 w') => show w'.heap[W.heap.size + 1]? = some (.cells #[.string ⟨#[]⟩, .int .u32 0, .int .u32 0, .slice none 0 0] 25 (0, 0)) from (h.block _ (by rw [HZW.out]; omega)).trans h2)
  have HNums := Lib.hid (fun (w' : World) (h : Below W.heap.size W w') => hU.below h)
  have HRQ := Lib.hid (fun (w' : World) (h : Below W.heap.size W w') => hR.below h)
  have HL := Lib.hid (show (nts qs).length = n by rw [nts_len, hR.1])
  have HOQ := Lib.hid (show ∀ y ∈ qs, ∀ ad, y.A = some ad → 0 < y.m → ad.block < W.heap.size from fun y hy ad e h0 => (rd_oct hR hy).1.lt ad e h0)
  have HRt := Lib.hid (right_any W1 S E X A n c qs (hR.below HBW.out) hn hs (hr.below HBW.out))
  have c0 := cell_at (h1) 0 _ rfl
  have c1 := cell_at (h1) 1 _ rfl
  have c2 := cell_at (h1) 2 _ rfl
  have c3 := cell_at (h1) 3 _ rfl
  have HW1 := Lib.hid hW1
  have HRG := Lib.hid hw
  have HUp := Lib.hid (up_of (right_parts hw).2.2.2.2.1)
  have HFl0 := Lib.hid (show ∀ t : Nt, t ∈ nts qs → 0 ≤ t.f ∧ t.f < 32 from fun t ht => by
    have h := (right_parts hw).2.2.2.2.2 t ht
    unfold fit1 fitsB at h
    simp only [Bool.and_eq_true, decide_eq_true_eq] at h
    exact h.2.2.1)
  have HM := Lib.hid (fun (nt : Nt) (h : nt ∈ nts qs) => show nt.o.length ≤ 1000000 by
    obtain ⟨y, hy, rfl⟩ := List.mem_map.1 h
    have h1 := hm y hy
    have h2 := (rd_oct hR hy).1.1
    omega)
  clear hw
  rw [hW1] at c0 c1 c2 c3
  clear hW1 h1 h2 hR hm hr hU
  go_enter Tryd.func21, Tryd.ntmps21
  go_wp2_with fail
  rw [← HW1.out]
  clear c0 c1 c2 c3
  refine HRt.out.mono ?_
  rw [HRG.out]
  rintro x w1 ⟨rfl, hb1⟩
  have HB1 := Lib.hid hb1
  have HES1 := Lib.hid (show ES W #[.string S, .int .u32 (E : Nat), .int .u32 (X : Nat), .slice A n c] qs (outP true U) (.slice none 0 0) (.slice none 0 0) 0 w1 from ⟨HP1.out _ hb1, HP2.out _ hb1, row.Own.nil _ _ _ _ _, ⟨[], Own.nil _ _ _ _ _, rfl, by simp⟩, fun b e => (by cases e), HBW.out.trans (hb1.mono HBW.out.size)⟩)
  have c0 := cell_at (HP1.out _ hb1) 0 _ rfl
  have c1 := cell_at (HP1.out _ hb1) 1 _ rfl
  have c2 := cell_at (HP1.out _ hb1) 2 _ rfl
  have c3 := cell_at (HP1.out _ hb1) 3 _ rfl
  clear hb1
  go_wp2_with fail
  clear c0 c1 c2 c3
  refine (named_any w1 S E X A n c qs B q dd U (HRQ.out _ HES1.out.bel) hn HUp.out (HNums.out _ HES1.out.bel) hq).mono ?_
  rintro x w2 ⟨gb, rfl, hrow, hgb, hb2⟩
  have HRow := Lib.hid hrow
  have HES := Lib.hid (HES1.out.below hb2)
  have HGb := Lib.hid (show W.heap.size + 2 ≤ gb by have := HES1.out.lt; omega)
  have c3 := cell_at (HES1.out.below hb2).box 3 _ rfl
  clear hrow hgb hb2
  go_wp2_with fail
  clear c3
  go_loopw [10, 11, 24] (fun vg vl i wr => ∃ k : Nat, k ≤ n ∧ i = .int .i64 k ∧ Hid (ES W #[.string S, .int .u32 (E : Nat), .int .u32 (X : Nat), .slice A n c] qs (outP true U) vg vl k wr) ∧ Hid (wr.rowIs gb 4 n (fun j => .bool (isN (nts qs) U j)) ∧ vg.ownBlock ≠ some gb ∧ vl.ownBlock ≠ some gb)) (fun _ _ i _ => n - (intOf i).toNat)
  case atStart => exact ⟨0, Nat.zero_le _, rfl, HES, Lib.hid ⟨HRow.out, (fun e => by cases e), (fun e => by cases e)⟩⟩
  case round =>
    obtain ⟨k, hk, rfl, HS, HRw⟩ := hrel
    by_cases hlt : k < n
    · obtain ⟨b, o, y, rfl, hx, d0, d1, d2, d3, hoc⟩ := (HRQ.out wr HS.out.bel).at4 k hlt
      have HX := Lib.hid (nts_at hx)
      have HOB := Lib.hid (fun ad e h0 => HOQ.out y (List.mem_of_getElem? hx) ad e h0)
      have HFl := Lib.hid (HFl0.out y.n (List.mem_of_getElem? (nts_at hx)))
      have hsa := HS.out.below ((Below.refl wr.heap.size wr).alloc (Nat.le_refl _) (.cells #[.int .u32 (y.n.u : Nat), .int .i64 y.n.d, .int .i64 y.n.f, .slice y.A y.m y.c] 30))
      obtain ⟨ls, hl1, hl2, hl3⟩ := hsa.stay
      have HOC := Lib.hid (hoc.below ((Below.refl wr.heap.size wr).alloc (Nat.le_refl _) (.cells #[.int .u32 (y.n.u : Nat), .int .i64 y.n.d, .int .i64 y.n.f, .slice y.A y.m y.c] 30)))
      have HON := Lib.hid (show ∀ ad, y.A = some ad → 0 < y.m → u11.ownBlock ≠ some ad.block from fun ad e h0 e' => by have := (hl1.lt e').1; have := HOB.out ad e h0; omega)
      have HSA := Lib.hid hsa
      have HLO := Lib.hid hl1
      have HLN := Lib.hid hl2
      have HLB := Lib.hid hl3
      have HLL := Lib.hid (show ls.length ≤ 1000000 by
        have h1 := left_len (outP true U) ((nts qs).take k)
        rw [← hl2, nts_len, List.length_take] at h1
        omega)
      have HGL := Lib.hid (show (gone (outP true U) ((nts qs).take k)).length ≤ 1000000 by
        have h1 := gone_len (outP true U) ((nts qs).take k)
        rw [List.length_take] at h1
        omega)
      have hlt' : (k : Int) < (n : Int) := by omega
      have HIs := Lib.hid (show (wr.alloc (.cells #[.int .u32 (y.n.u : Nat), .int .i64 y.n.d, .int .i64 y.n.f, .slice y.A y.m y.c] 30)).rowIs gb 4 n (fun j => .bool (isN (nts qs) U j)) from HRw.out.1.alloc _)
      have his : (wr.alloc (.cells #[.int .u32 (y.n.u : Nat), .int .i64 y.n.d, .int .i64 y.n.f, .slice y.A y.m y.c] 30)).cell? ⟨gb, k, none⟩ = some (.bool (isN (nts qs) U k)) := HIs.out.cell hlt
      rw [isN_at (nts_at hx)] at his
      have HIlt := Lib.hid HIs.out.lt
      clear hx hoc hsa hl1 hl2 hl3
      obtain ⟨⟨tk, te, ts, tu, td, tf, to_⟩, pp, A', m', c'⟩ := y
      simp only [] at d0 d1 d2 d3 HX HOB HFl HOC HON HSA HLO HIs his HIlt
      cases hd : delF tf with
      | false =>
        have qa := and8_no HFl.out hd
        have HPV := Lib.hid (show outP true U ⟨tk, te, ts, tu, td, tf, to_⟩ = false by unfold outP; rw [hd]; rfl)
        clear hd
        go_wp2_with (first | (at_builtin; refine lg.wpList_append_own fM (by decide) (by decide) (by_ := 48) (by decide) (z := lg.zM) rfl rfl (.tmp 47) (.tmp 49) 23 30 rfl Tryd.underlying23 lg.infoM (W.heap.size + 2) u11 ls rfl HLO.out (by have := HSA.out.lt; omega) (by have := HLL.out; omega) ⟨⟨tk, te, ts, tu, td, tf, to_⟩, pp, A', m', c'⟩ (0, 0) _ (by simp) rfl _ rfl HOC.out HON.out ?_; intro v' w2 ho hgr hat; have HS2 := Lib.hid (HSA.out.stays HLO.out HLN.out HLB.out HX.out HPV.out rfl HOB.out ho hgr hat); have HR2 := Lib.hid (And.intro (row_kept HIs.out hgr HRw.out.2.2) (And.intro HRw.out.2.1 (ne_kept HRw.out.2.2 HIlt.out hat))); clear ho hgr hat))
        go_roundw
        case rel => first | exact ⟨k + 1, by omega, by go_num, HS2, HR2⟩ | ((repeat apply Exists.intro); exact ⟨⟨k + 1, by omega, by go_num, HS2, HR2⟩, rfl⟩)
        case measure => (show n - ((k : Int) + 1).toNat < n - k; omega)
      | true =>
        have qa := and8_yes HFl.out hd
        have HPV := Lib.hid (show outP true U ⟨tk, te, ts, tu, td, tf, to_⟩ = true by unfold outP; rw [hd]; rfl)
        clear hd
        go_wp2_with (first | (at_builtin; refine row.wpList_append_own fU (by decide) (by decide) (by_ := 4) (by decide) (z := .int .u32 0) rfl rfl (.tmp 42) (.tmp 45) 42 22 rfl Tryd.underlying42 infoU (W.heap.size + 2) u10 _ rfl HSA.out.out (by have := HSA.out.lt; omega) (by have := HGL.out; omega) tu (0, 0) _ (by simp) rfl _ rfl ?_; intro v' w2 ho hgr hat; have HS2 := Lib.hid (HSA.out.goes HX.out HPV.out ho hgr hat); have HR2 := Lib.hid (And.intro (row_kept HIs.out hgr HRw.out.2.1) (And.intro (ne_kept HRw.out.2.1 HIlt.out hat) HRw.out.2.2)); clear ho hgr hat))
        go_roundw
        case rel => first | exact ⟨k + 1, by omega, by go_num, HS2, HR2⟩ | ((repeat apply Exists.intro); exact ⟨⟨k + 1, by omega, by go_num, HS2, HR2⟩, rfl⟩)
        case measure => (show n - ((k : Int) + 1).toNat < n - k; omega)
    · obtain rfl : k = n := by omega
      have hS := HS.out
      obtain ⟨ls, hl1, hl2, hl3⟩ := hS.stay
      obtain ⟨A2, c2, rfl, -, -, -⟩ := hl1.rd fM
      have hout := hS.out
      rw [List.take_of_length_le (Nat.le_of_eq HL.out)] at hl2 hout
      have hb3 := hS.box
      have hbx : (wr.setCell ⟨W.heap.size, 3, none⟩ (.slice A2 ls.length c2)).heap[W.heap.size]? = some (.cells #[.string S, .int .u32 (E : Nat), .int .u32 (X : Nat), .slice A2 ls.length c2] 25 (0, 0)) := by rw [heap_setCell_same _ _ _ _ _ _ hb3]; rfl
      have hrs : (wr.setCell ⟨W.heap.size, 3, none⟩ (.slice A2 ls.length c2)).heap[W.heap.size + 1]? = some (.cells #[.string ⟨#[]⟩, .int .u32 0, .int .u32 0, .slice none 0 0] 25 (0, 0)) := by rw [heap_setCell_other _ _ _ _ (by show _ ≠ W.heap.size; omega)]; exact hS.res
      have hol := own_other (u := .slice A2 ls.length c2) (j := 3) hl1 (p := W.heap.size) (fun e => by have := (hl1.lt e).1; omega) (fun y hy ad e h0 => by have := hl3 y hy ad e h0; omega)
      have hog := row_other (u := .slice A2 ls.length c2) (j := 3) (p := W.heap.size) hout (fun e => by have := (hout.lt e).1; omega)
      have hbl : Below W.heap.size W (wr.setCell ⟨W.heap.size, 3, none⟩ (.slice A2 ls.length c2)) := hS.bel.setCell (p := ⟨W.heap.size, 3, none⟩) (Nat.le_refl _) _
      have HEnd := Lib.hid (And.intro hrs (And.intro hol (And.intro hl2 (And.intro hog (And.intro hbl hl3)))))
      have e3 := cell_at hb3 3 _ rfl
      have fr3 := frozen_of_row _ _ 3 _ _ hb3
      have d0 := cell_at hbx 0 _ rfl
      have d1 := cell_at hbx 1 _ rfl
      have d2 := cell_at hbx 2 _ rfl
      have d3 := cell_at hbx 3 _ rfl
      clear hS hl1 hl2 hl3 hout hb3 hbx hrs hol hog hbl HS HRw
      go_wp2_with fail
      clear e3 fr3 d0 d1 d2 d3
      generalize wr.setCell ⟨W.heap.size, 3, none⟩ (.slice A2 ls.length c2) = w6 at *
      have HOM := Lib.hid (show ∀ y ∈ ls, y.m ≤ 1000000 from fun y hy => by
        have h1 : y.n ∈ nts ls := List.mem_map.2 ⟨y, hy, rfl⟩
        rw [HEnd.out.2.2.1] at h1
        have h2 := HM.out y.n (List.mem_filter.1 h1).1
        have h3 := (HEnd.out.2.1.2 y hy).1.1.1
        omega)
      refine (own_any w6 S E X A2 ls.length c2 ls (own_rd HEnd.out.2.1).1 (by
        have h1 := left_len (outP true U) (nts qs)
        rw [← HEnd.out.2.2.1, nts_len, HL.out] at h1
        omega) hs HOM.out).mono ?_
      rintro x w7 ⟨A3, n3, c3, ys3, rfl, ho3, hl3, hf3, hb7⟩
      obtain ⟨hrs, hol, hl2, hog, hbl, -⟩ := HEnd.out
      have hsz : W.heap.size + 1 < w6.heap.size := (Array.getElem?_eq_some_iff.1 hrs).1
      have hr7 : w7.heap[W.heap.size + 1]? = some (.cells #[.string ⟨#[]⟩, .int .u32 0, .int .u32 0, .slice none 0 0] 25 (0, 0)) := by rw [hb7.block _ hsz]; exact hrs
      have hog7 := hog.below hb7
      have HE7 := Lib.hid (And.intro hr7 (And.intro ho3 (And.intro (show nts ys3 = left (outP true U) (nts qs) by rw [hl3, hl2]) (And.intro hog7 (And.intro (hbl.trans (hb7.mono hbl.size)) (And.intro hf3 hsz))))))
      have g0 := frozen_of_row _ _ 0 _ _ (hr7)
      have g1 := frozen_of_row _ _ 1 _ _ (hr7)
      have g2 := frozen_of_row _ _ 2 _ _ (hr7)
      have g3 := frozen_of_row _ _ 3 _ _ (hr7)
      have r0 := cell_at (hr7) 0 _ rfl
      have r1 := cell_at (hr7) 1 _ rfl
      have r2 := cell_at (hr7) 2 _ rfl
      have r3 := cell_at (hr7) 3 _ rfl
      clear ho3 hl3 hf3 hb7 hrs hol hl2 hog hbl hr7 hog7 hsz
      go_wp2_with fail
      obtain ⟨hrs, hol, hl2, hog, hbl, hf3, hsz⟩ := HE7.out
      obtain ⟨k1, k2, k3⟩ := four hrs rfl (.string S) (.int .u32 (E : Nat)) (.int .u32 (X : Nat)) (.slice A3 n3 c3)
      have hv : (Value.slice A3 n3 c3).ownBlock ≠ some (W.heap.size + 1) := fun e => by have := (hol.lt e).1; omega
      have hy : ∀ y ∈ ys3, ∀ ad, y.A = some ad → 0 < y.m → ad.block ≠ W.heap.size + 1 := fun y hy ad e h0 => by have := hf3 y hy ad e; omega
      have ho9 := own_other (u := .slice A3 n3 c3) (j := 3) (own_other (u := .int .u32 (X : Nat)) (j := 2) (own_other (u := .int .u32 (E : Nat)) (j := 1) (own_other (u := .string S) (j := 0) hol hv hy) hv hy) hv hy) hv hy
      have hvg : u10.ownBlock ≠ some (W.heap.size + 1) := fun e => by have := (hog.lt e).1; omega
      have hg9 := row_other (u := .slice A3 n3 c3) (j := 3) (row_other (u := .int .u32 (X : Nat)) (j := 2) (row_other (u := .int .u32 (E : Nat)) (j := 1) (row_other (u := .string S) (j := 0) hog hvg) hvg) hvg) hvg
      refine bodyPost_ret (results_cell_tmp_tmp Tryd.results21 _ _ (W.heap.size + 1) _ _ _ _ rfl k1 Tryd.underlying25 rfl (boxSize _ rfl)) rfl ⟨A3, n3, c3, u10, ys3, rfl, ⟨⟨ho9.1.1, ho9.1.2.imp id fun ⟨g, cap, cur, h1, h2, h3⟩ => ⟨g, cap, cur, h1, by omega, h3⟩⟩, ho9.2⟩, hl2, ⟨hg9.1, hg9.2.imp id fun ⟨g, cap, cur, h1, h2, h3⟩ => ⟨g, cap, cur, h1, by omega, h3⟩⟩, k3 _ _ hbl (by omega)⟩
set_option maxHeartbeats 8000000 in
theorem expunge_some (W : World) (S : ByteArray) (E X : Nat) (A : Option Addr) (n c : Nat) (qs : List Y) (B : Option Addr) (q dd : Nat) (U : List Nat) (hR : Rd cM 4 W A n qs) (hn : n ≤ 1000000) (hs : S.size ≤ 100000) (hm : ∀ y ∈ qs, y.m ≤ 1000000) (hr : Fit W) (hU : Nums W B q U) (hq : q ≤ 1000000) (hw : right S E X (nts qs) = true) :
    Calls Tryd.prog 21 #[.agg #[.string S, .int .u32 (E : Nat), .int .u32 (X : Nat), .slice A n c], .slice B q dd, .bool false] W fun x w' => ∃ A' n' c' vg ls, x = .returned (.tuple #[.agg #[.string S, .int .u32 (E : Nat), .int .u32 (X : Nat), .slice A' n' c'], vg, .int .i64 0]) ∧ Own cM 4 W.heap.size 30 w' (.slice A' n' c') ls ∧ nts ls = left (outP false U) (nts qs) ∧ row.Own cU 1 W.heap.size 22 w' vg (gone (outP false U) (nts qs)) ∧ Below W.heap.size W w' := by
  obtain ⟨W1, hW1⟩ : ∃ W1, W1 = (W.alloc (.cells #[.string S, .int .u32 (E : Nat), .int .u32 (X : Nat), .slice A n c] 25)).alloc (.cells #[.string ⟨#[]⟩, .int .u32 0, .int .u32 0, .slice none 0 0] 25) := ⟨_, rfl⟩
  have HBW := Lib.hid (show Below W.heap.size W W1 by rw [hW1]; exact ((Below.refl _ _).alloc (Nat.le_refl _) _).alloc (by simp) _)
  have HZW := Lib.hid (show W1.heap.size = W.heap.size + 2 by rw [hW1]; simp)
  have h1 : W1.heap[W.heap.size]? = some (.cells #[.string S, .int .u32 (E : Nat), .int .u32 (X : Nat), .slice A n c] 25 (0, 0)) := by rw [hW1, heap_alloc_old _ _ (by simp)]; exact heap_alloc_new _ _
  have h2 : W1.heap[W.heap.size + 1]? = some (.cells #[.string ⟨#[]⟩, .int .u32 0, .int .u32 0, .slice none 0 0] 25 (0, 0)) := by rw [hW1]; have := heap_alloc_new (W.alloc (.cells #[.string S, .int .u32 (E : Nat), .int .u32 (X : Nat), .slice A n c] 25)) (.cells #[.string ⟨#[]⟩, .int .u32 0, .int .u32 0, .slice none 0 0] 25); simpa using this
  have HP1 := Lib.hid (fun (w' : World) (h : Below W1.heap.size W1 w') => show w'.heap[W.heap.size]? = some (.cells #[.string S, .int .u32 (E : Nat), .int .u32 (X : Nat), .slice A n c] 25 (0, 0)) from (h.block _ (by rw [HZW.out]; omega)).trans h1)
  have HP2 := Lib.hid (fun (w' : World) (h : Below W1.heap.size W1 w') => show w'.heap[W.heap.size + 1]? = some (.cells #[.string ⟨#[]⟩, .int .u32 0, .int .u32 0, .slice none 0 0] 25 (0, 0)) from (h.block _ (by rw [HZW.out]; omega)).trans h2)
  have HNums := Lib.hid (fun (w' : World) (h : Below W.heap.size W w') => hU.below h)
  have HRQ := Lib.hid (fun (w' : World) (h : Below W.heap.size W w') => hR.below h)
  have HL := Lib.hid (show (nts qs).length = n by rw [nts_len, hR.1])
  have HOQ := Lib.hid (show ∀ y ∈ qs, ∀ ad, y.A = some ad → 0 < y.m → ad.block < W.heap.size from fun y hy ad e h0 => (rd_oct hR hy).1.lt ad e h0)
  have HRt := Lib.hid (right_any W1 S E X A n c qs (hR.below HBW.out) hn hs (hr.below HBW.out))
  have c0 := cell_at (h1) 0 _ rfl
  have c1 := cell_at (h1) 1 _ rfl
  have c2 := cell_at (h1) 2 _ rfl
  have c3 := cell_at (h1) 3 _ rfl
  have HW1 := Lib.hid hW1
  have HRG := Lib.hid hw
  have HUp := Lib.hid (up_of (right_parts hw).2.2.2.2.1)
  have HFl0 := Lib.hid (show ∀ t : Nt, t ∈ nts qs → 0 ≤ t.f ∧ t.f < 32 from fun t ht => by
    have h := (right_parts hw).2.2.2.2.2 t ht
    unfold fit1 fitsB at h
    simp only [Bool.and_eq_true, decide_eq_true_eq] at h
    exact h.2.2.1)
  have HM := Lib.hid (fun (nt : Nt) (h : nt ∈ nts qs) => show nt.o.length ≤ 1000000 by
    obtain ⟨y, hy, rfl⟩ := List.mem_map.1 h
    have h1 := hm y hy
    have h2 := (rd_oct hR hy).1.1
    omega)
  clear hw
  rw [hW1] at c0 c1 c2 c3
  clear hW1 h1 h2 hR hm hr hU
  go_enter Tryd.func21, Tryd.ntmps21
  go_wp2_with fail
  rw [← HW1.out]
  clear c0 c1 c2 c3
  refine HRt.out.mono ?_
  rw [HRG.out]
  rintro x w1 ⟨rfl, hb1⟩
  have HB1 := Lib.hid hb1
  have HES1 := Lib.hid (show ES W #[.string S, .int .u32 (E : Nat), .int .u32 (X : Nat), .slice A n c] qs (outP false U) (.slice none 0 0) (.slice none 0 0) 0 w1 from ⟨HP1.out _ hb1, HP2.out _ hb1, row.Own.nil _ _ _ _ _, ⟨[], Own.nil _ _ _ _ _, rfl, by simp⟩, fun b e => (by cases e), HBW.out.trans (hb1.mono HBW.out.size)⟩)
  have c0 := cell_at (HP1.out _ hb1) 0 _ rfl
  have c1 := cell_at (HP1.out _ hb1) 1 _ rfl
  have c2 := cell_at (HP1.out _ hb1) 2 _ rfl
  have c3 := cell_at (HP1.out _ hb1) 3 _ rfl
  clear hb1
  go_wp2_with fail
  clear c0 c1 c2 c3
  refine (named_any w1 S E X A n c qs B q dd U (HRQ.out _ HES1.out.bel) hn HUp.out (HNums.out _ HES1.out.bel) hq).mono ?_
  rintro x w2 ⟨gb, rfl, hrow, hgb, hb2⟩
  have HRow := Lib.hid hrow
  have HES := Lib.hid (HES1.out.below hb2)
  have HGb := Lib.hid (show W.heap.size + 2 ≤ gb by have := HES1.out.lt; omega)
  have c3 := cell_at (HES1.out.below hb2).box 3 _ rfl
  clear hrow hgb hb2
  go_wp2_with fail
  clear c3
  go_loopw [10, 11, 24] (fun vg vl i wr => ∃ k : Nat, k ≤ n ∧ i = .int .i64 k ∧ Hid (ES W #[.string S, .int .u32 (E : Nat), .int .u32 (X : Nat), .slice A n c] qs (outP false U) vg vl k wr) ∧ Hid (wr.rowIs gb 4 n (fun j => .bool (isN (nts qs) U j)) ∧ vg.ownBlock ≠ some gb ∧ vl.ownBlock ≠ some gb)) (fun _ _ i _ => n - (intOf i).toNat)
  case atStart => exact ⟨0, Nat.zero_le _, rfl, HES, Lib.hid ⟨HRow.out, (fun e => by cases e), (fun e => by cases e)⟩⟩
  case round =>
    obtain ⟨k, hk, rfl, HS, HRw⟩ := hrel
    by_cases hlt : k < n
    · obtain ⟨b, o, y, rfl, hx, d0, d1, d2, d3, hoc⟩ := (HRQ.out wr HS.out.bel).at4 k hlt
      have HX := Lib.hid (nts_at hx)
      have HOB := Lib.hid (fun ad e h0 => HOQ.out y (List.mem_of_getElem? hx) ad e h0)
      have HFl := Lib.hid (HFl0.out y.n (List.mem_of_getElem? (nts_at hx)))
      have hsa := HS.out.below ((Below.refl wr.heap.size wr).alloc (Nat.le_refl _) (.cells #[.int .u32 (y.n.u : Nat), .int .i64 y.n.d, .int .i64 y.n.f, .slice y.A y.m y.c] 30))
      obtain ⟨ls, hl1, hl2, hl3⟩ := hsa.stay
      have HOC := Lib.hid (hoc.below ((Below.refl wr.heap.size wr).alloc (Nat.le_refl _) (.cells #[.int .u32 (y.n.u : Nat), .int .i64 y.n.d, .int .i64 y.n.f, .slice y.A y.m y.c] 30)))
      have HON := Lib.hid (show ∀ ad, y.A = some ad → 0 < y.m → u11.ownBlock ≠ some ad.block from fun ad e h0 e' => by have := (hl1.lt e').1; have := HOB.out ad e h0; omega)
      have HSA := Lib.hid hsa
      have HLO := Lib.hid hl1
      have HLN := Lib.hid hl2
      have HLB := Lib.hid hl3
      have HLL := Lib.hid (show ls.length ≤ 1000000 by
        have h1 := left_len (outP false U) ((nts qs).take k)
        rw [← hl2, nts_len, List.length_take] at h1
        omega)
      have HGL := Lib.hid (show (gone (outP false U) ((nts qs).take k)).length ≤ 1000000 by
        have h1 := gone_len (outP false U) ((nts qs).take k)
        rw [List.length_take] at h1
        omega)
      have hlt' : (k : Int) < (n : Int) := by omega
      have HIs := Lib.hid (show (wr.alloc (.cells #[.int .u32 (y.n.u : Nat), .int .i64 y.n.d, .int .i64 y.n.f, .slice y.A y.m y.c] 30)).rowIs gb 4 n (fun j => .bool (isN (nts qs) U j)) from HRw.out.1.alloc _)
      have his : (wr.alloc (.cells #[.int .u32 (y.n.u : Nat), .int .i64 y.n.d, .int .i64 y.n.f, .slice y.A y.m y.c] 30)).cell? ⟨gb, k, none⟩ = some (.bool (isN (nts qs) U k)) := HIs.out.cell hlt
      rw [isN_at (nts_at hx)] at his
      have HIlt := Lib.hid HIs.out.lt
      clear hx hoc hsa hl1 hl2 hl3
      obtain ⟨⟨tk, te, ts, tu, td, tf, to_⟩, pp, A', m', c'⟩ := y
      simp only [] at d0 d1 d2 d3 HX HOB HFl HOC HON HSA HLO HIs his HIlt
      cases hd : delF tf with
      | false =>
        have qa := and8_no HFl.out hd
        have HPV := Lib.hid (show outP false U ⟨tk, te, ts, tu, td, tf, to_⟩ = false by unfold outP; rw [hd]; rfl)
        clear hd
        go_wp2_with (first | (at_builtin; refine lg.wpList_append_own fM (by decide) (by decide) (by_ := 48) (by decide) (z := lg.zM) rfl rfl (.tmp 47) (.tmp 49) 23 30 rfl Tryd.underlying23 lg.infoM (W.heap.size + 2) u11 ls rfl HLO.out (by have := HSA.out.lt; omega) (by have := HLL.out; omega) ⟨⟨tk, te, ts, tu, td, tf, to_⟩, pp, A', m', c'⟩ (0, 0) _ (by simp) rfl _ rfl HOC.out HON.out ?_; intro v' w2 ho hgr hat; have HS2 := Lib.hid (HSA.out.stays HLO.out HLN.out HLB.out HX.out HPV.out rfl HOB.out ho hgr hat); have HR2 := Lib.hid (And.intro (row_kept HIs.out hgr HRw.out.2.2) (And.intro HRw.out.2.1 (ne_kept HRw.out.2.2 HIlt.out hat))); clear ho hgr hat))
        go_roundw
        case rel => first | exact ⟨k + 1, by omega, by go_num, HS2, HR2⟩ | ((repeat apply Exists.intro); exact ⟨⟨k + 1, by omega, by go_num, HS2, HR2⟩, rfl⟩)
        case measure => (show n - ((k : Int) + 1).toNat < n - k; omega)
      | true =>
        have qa := and8_yes HFl.out hd
        cases hi : inB U tu with
        | false =>
          rw [hi] at his
          have HPV := Lib.hid (show outP false U ⟨tk, te, ts, tu, td, tf, to_⟩ = false by unfold outP; rw [hd, hi]; rfl)
          clear hd hi
          go_wp2_with (first | (at_builtin; refine lg.wpList_append_own fM (by decide) (by decide) (by_ := 48) (by decide) (z := lg.zM) rfl rfl (.tmp 47) (.tmp 49) 23 30 rfl Tryd.underlying23 lg.infoM (W.heap.size + 2) u11 ls rfl HLO.out (by have := HSA.out.lt; omega) (by have := HLL.out; omega) ⟨⟨tk, te, ts, tu, td, tf, to_⟩, pp, A', m', c'⟩ (0, 0) _ (by simp) rfl _ rfl HOC.out HON.out ?_; intro v' w2 ho hgr hat; have HS2 := Lib.hid (HSA.out.stays HLO.out HLN.out HLB.out HX.out HPV.out rfl HOB.out ho hgr hat); have HR2 := Lib.hid (And.intro (row_kept HIs.out hgr HRw.out.2.2) (And.intro HRw.out.2.1 (ne_kept HRw.out.2.2 HIlt.out hat))); clear ho hgr hat))
          go_roundw
          case rel => first | exact ⟨k + 1, by omega, by go_num, HS2, HR2⟩ | ((repeat apply Exists.intro); exact ⟨⟨k + 1, by omega, by go_num, HS2, HR2⟩, rfl⟩)
          case measure => (show n - ((k : Int) + 1).toNat < n - k; omega)
        | true =>
          rw [hi] at his
          have HPV := Lib.hid (show outP false U ⟨tk, te, ts, tu, td, tf, to_⟩ = true by unfold outP; rw [hd, hi]; rfl)
          clear hd hi
          go_wp2_with (first | (at_builtin; refine row.wpList_append_own fU (by decide) (by decide) (by_ := 4) (by decide) (z := .int .u32 0) rfl rfl (.tmp 42) (.tmp 45) 42 22 rfl Tryd.underlying42 infoU (W.heap.size + 2) u10 _ rfl HSA.out.out (by have := HSA.out.lt; omega) (by have := HGL.out; omega) tu (0, 0) _ (by simp) rfl _ rfl ?_; intro v' w2 ho hgr hat; have HS2 := Lib.hid (HSA.out.goes HX.out HPV.out ho hgr hat); have HR2 := Lib.hid (And.intro (row_kept HIs.out hgr HRw.out.2.1) (And.intro (ne_kept HRw.out.2.1 HIlt.out hat) HRw.out.2.2)); clear ho hgr hat))
          go_roundw
          case rel => first | exact ⟨k + 1, by omega, by go_num, HS2, HR2⟩ | ((repeat apply Exists.intro); exact ⟨⟨k + 1, by omega, by go_num, HS2, HR2⟩, rfl⟩)
          case measure => (show n - ((k : Int) + 1).toNat < n - k; omega)
    · obtain rfl : k = n := by omega
      have hS := HS.out
      obtain ⟨ls, hl1, hl2, hl3⟩ := hS.stay
      obtain ⟨A2, c2, rfl, -, -, -⟩ := hl1.rd fM
      have hout := hS.out
      rw [List.take_of_length_le (Nat.le_of_eq HL.out)] at hl2 hout
      have hb3 := hS.box
      have hbx : (wr.setCell ⟨W.heap.size, 3, none⟩ (.slice A2 ls.length c2)).heap[W.heap.size]? = some (.cells #[.string S, .int .u32 (E : Nat), .int .u32 (X : Nat), .slice A2 ls.length c2] 25 (0, 0)) := by rw [heap_setCell_same _ _ _ _ _ _ hb3]; rfl
      have hrs : (wr.setCell ⟨W.heap.size, 3, none⟩ (.slice A2 ls.length c2)).heap[W.heap.size + 1]? = some (.cells #[.string ⟨#[]⟩, .int .u32 0, .int .u32 0, .slice none 0 0] 25 (0, 0)) := by rw [heap_setCell_other _ _ _ _ (by show _ ≠ W.heap.size; omega)]; exact hS.res
      have hol := own_other (u := .slice A2 ls.length c2) (j := 3) hl1 (p := W.heap.size) (fun e => by have := (hl1.lt e).1; omega) (fun y hy ad e h0 => by have := hl3 y hy ad e h0; omega)
      have hog := row_other (u := .slice A2 ls.length c2) (j := 3) (p := W.heap.size) hout (fun e => by have := (hout.lt e).1; omega)
      have hbl : Below W.heap.size W (wr.setCell ⟨W.heap.size, 3, none⟩ (.slice A2 ls.length c2)) := hS.bel.setCell (p := ⟨W.heap.size, 3, none⟩) (Nat.le_refl _) _
      have HEnd := Lib.hid (And.intro hrs (And.intro hol (And.intro hl2 (And.intro hog (And.intro hbl hl3)))))
      have e3 := cell_at hb3 3 _ rfl
      have fr3 := frozen_of_row _ _ 3 _ _ hb3
      have d0 := cell_at hbx 0 _ rfl
      have d1 := cell_at hbx 1 _ rfl
      have d2 := cell_at hbx 2 _ rfl
      have d3 := cell_at hbx 3 _ rfl
      clear hS hl1 hl2 hl3 hout hb3 hbx hrs hol hog hbl HS HRw
      go_wp2_with fail
      clear e3 fr3 d0 d1 d2 d3
      generalize wr.setCell ⟨W.heap.size, 3, none⟩ (.slice A2 ls.length c2) = w6 at *
      have HOM := Lib.hid (show ∀ y ∈ ls, y.m ≤ 1000000 from fun y hy => by
        have h1 : y.n ∈ nts ls := List.mem_map.2 ⟨y, hy, rfl⟩
        rw [HEnd.out.2.2.1] at h1
        have h2 := HM.out y.n (List.mem_filter.1 h1).1
        have h3 := (HEnd.out.2.1.2 y hy).1.1.1
        omega)
      refine (own_any w6 S E X A2 ls.length c2 ls (own_rd HEnd.out.2.1).1 (by
        have h1 := left_len (outP false U) (nts qs)
        rw [← HEnd.out.2.2.1, nts_len, HL.out] at h1
        omega) hs HOM.out).mono ?_
      rintro x w7 ⟨A3, n3, c3, ys3, rfl, ho3, hl3, hf3, hb7⟩
      obtain ⟨hrs, hol, hl2, hog, hbl, -⟩ := HEnd.out
      have hsz : W.heap.size + 1 < w6.heap.size := (Array.getElem?_eq_some_iff.1 hrs).1
      have hr7 : w7.heap[W.heap.size + 1]? = some (.cells #[.string ⟨#[]⟩, .int .u32 0, .int .u32 0, .slice none 0 0] 25 (0, 0)) := by rw [hb7.block _ hsz]; exact hrs
      have hog7 := hog.below hb7
      have HE7 := Lib.hid (And.intro hr7 (And.intro ho3 (And.intro (show nts ys3 = left (outP false U) (nts qs) by rw [hl3, hl2]) (And.intro hog7 (And.intro (hbl.trans (hb7.mono hbl.size)) (And.intro hf3 hsz))))))
      have g0 := frozen_of_row _ _ 0 _ _ (hr7)
      have g1 := frozen_of_row _ _ 1 _ _ (hr7)
      have g2 := frozen_of_row _ _ 2 _ _ (hr7)
      have g3 := frozen_of_row _ _ 3 _ _ (hr7)
      have r0 := cell_at (hr7) 0 _ rfl
      have r1 := cell_at (hr7) 1 _ rfl
      have r2 := cell_at (hr7) 2 _ rfl
      have r3 := cell_at (hr7) 3 _ rfl
      clear ho3 hl3 hf3 hb7 hrs hol hl2 hog hbl hr7 hog7 hsz
      go_wp2_with fail
      obtain ⟨hrs, hol, hl2, hog, hbl, hf3, hsz⟩ := HE7.out
      obtain ⟨k1, k2, k3⟩ := four hrs rfl (.string S) (.int .u32 (E : Nat)) (.int .u32 (X : Nat)) (.slice A3 n3 c3)
      have hv : (Value.slice A3 n3 c3).ownBlock ≠ some (W.heap.size + 1) := fun e => by have := (hol.lt e).1; omega
      have hy : ∀ y ∈ ys3, ∀ ad, y.A = some ad → 0 < y.m → ad.block ≠ W.heap.size + 1 := fun y hy ad e h0 => by have := hf3 y hy ad e; omega
      have ho9 := own_other (u := .slice A3 n3 c3) (j := 3) (own_other (u := .int .u32 (X : Nat)) (j := 2) (own_other (u := .int .u32 (E : Nat)) (j := 1) (own_other (u := .string S) (j := 0) hol hv hy) hv hy) hv hy) hv hy
      have hvg : u10.ownBlock ≠ some (W.heap.size + 1) := fun e => by have := (hog.lt e).1; omega
      have hg9 := row_other (u := .slice A3 n3 c3) (j := 3) (row_other (u := .int .u32 (X : Nat)) (j := 2) (row_other (u := .int .u32 (E : Nat)) (j := 1) (row_other (u := .string S) (j := 0) hog hvg) hvg) hvg) hvg
      refine bodyPost_ret (results_cell_tmp_tmp Tryd.results21 _ _ (W.heap.size + 1) _ _ _ _ rfl k1 Tryd.underlying25 rfl (boxSize _ rfl)) rfl ⟨A3, n3, c3, u10, ys3, rfl, ⟨⟨ho9.1.1, ho9.1.2.imp id fun ⟨g, cap, cur, h1, h2, h3⟩ => ⟨g, cap, cur, h1, by omega, h3⟩⟩, ho9.2⟩, hl2, ⟨hg9.1, hg9.2.imp id fun ⟨g, cap, cur, h1, h2, h3⟩ => ⟨g, cap, cur, h1, by omega, h3⟩⟩, k3 _ _ hbl (by omega)⟩
end Go.Proofs.YtepngemlaiffgaaDoor.mal
