/- Find. -/
import Derived.Test.YtcepcamedmiinaaGreatDoorMf1
namespace Go.Proofs.YtcepcamedmiinaaGreatDoor.sea
open Go.ChangeShapes Go.WideShapes Go.ChangeAt Go.RowKit
open Go.Proofs.YtcepcamedmiinaaGreatDoor.codec (Bytes vals)
open Go.Proofs.YtcepcamedmiinaaGreatDoor.lg (Y Nt cM Oct nts)
open Go.Proofs.YtcepcamedmiinaaGreatDoor.hd (Sl)
set_option linter.unusedVariables false
set_option maxRecDepth 100000
set_option linter.unusedSimpArgs false

def cI (k : Nat) : List Value := [.int .i64 (k : Nat)]
theorem fI : row.Fm cI 1 := ⟨fun _ => rfl, fun y u hu => by simp [cI] at hu; subst hu; rfl⟩
theorem infoI : (Tryz.prog.info? 3).map (fun i => (i.zero, i.size, i.bytes)) = some (some (.int .i64 0), 1, 8) := by kernel_rfl
/-- A message of a mailbox, as keys are asked about it. -/
def mdOf (qs : List Y) (k : Nat) : Md :=
  match qs[k]? with
  | some y => ⟨y.n.u, y.n.f, y.n.o, k + 1, qs.length, mxU qs⟩
  | none => ⟨0, 0, [], 0, 0, 0⟩
/-- Which are found of the first k. -/
def foundL (f : Md → Bool) (qs : List Y) (k : Nat) : List Nat := (List.range k).filter fun i => f (mdOf qs i)
theorem found_yes {f : Md → Bool} {qs : List Y} {k : Nat} (h : f (mdOf qs k) = true) : foundL f qs (k + 1) = foundL f qs k ++ [k] := by
  unfold foundL
  rw [List.range_succ, List.filter_append, List.filter_cons_of_pos (by simpa using h)]
  rfl
theorem found_no {f : Md → Bool} {qs : List Y} {k : Nat} (h : f (mdOf qs k) = false) : foundL f qs (k + 1) = foundL f qs k := by
  unfold foundL
  rw [List.range_succ, List.filter_append, List.filter_cons_of_neg (by simp [h])]
  simp
theorem found_len (f : Md → Bool) (qs : List Y) (k : Nat) : (foundL f qs k).length ≤ k := by
  unfold foundL
  exact Nat.le_trans (List.length_filter_le _ _) (by simp)
/-- A mailbox that is looked at. -/
def Boxy (w : World) (A : Option Addr) (n : Nat) (qs : List Y) : Prop :=
  lg.Rd cM 4 w A n qs ∧ n ≤ 60000 ∧ ∀ y ∈ qs, y.m ≤ y.c ∧ y.m ≤ 60000
theorem Boxy.below {w w' : World} {A : Option Addr} {n : Nat} {qs : List Y} (h : Boxy w A n qs) (hb : Below w.heap.size w w') : Boxy w' A n qs := ⟨h.1.below hb, h.2⟩
/-- What is found answers. -/
def findP (l : List Tk) (qs : List Y) : List Nat := if isRight lv l = true then foundL (readP lv l).f qs qs.length else []
def FindAns (W : World) (l : List Tk) (qs : List Y) (e : Ending) (w' : World) : Prop :=
  ∃ v, e = .returned v ∧ row.Own cI 1 W.heap.size 3 w' v (findP l qs) ∧ Below W.heap.size W w'
/-- A message that is asked about. -/
theorem ms_new {w : World} {A : Option Addr} {n : Nat} {qs : List Y} (h : Boxy w A n qs) (hE : Env w) {k : Nat} {y : Y} (hy : qs[k]? = some y) (hoc : Oct w y) :
    MS w.heap.size w.heap.size (mdOf qs k) (w.alloc (.cells #[.int .u32 (y.n.u : Nat), .int .i64 y.n.d, .int .i64 y.n.f, .slice y.A y.m y.c, .int .u32 ((k + 1 : Nat) : Int), .int .u32 (qs.length : Nat), .int .u32 (mxU qs : Nat), .slice none 0 0, .slice none 0 0, .map none] 52)) := by
  have hm := h.2.2 y (List.mem_of_getElem? hy)
  have hb : Below w.heap.size w (w.alloc (.cells #[.int .u32 (y.n.u : Nat), .int .i64 y.n.d, .int .i64 y.n.f, .slice y.A y.m y.c, .int .u32 ((k + 1 : Nat) : Int), .int .u32 (qs.length : Nat), .int .u32 (mxU qs : Nat), .slice none 0 0, .slice none 0 0, .map none] 52)) := (Below.refl _ _).alloc (Nat.le_refl _) _
  have e : mdOf qs k = ⟨y.n.u, y.n.f, y.n.o, k + 1, qs.length, mxU qs⟩ := by unfold mdOf; rw [hy]
  rw [e]
  refine ⟨y.n.d, y.A, y.m, y.c, .slice none 0 0, .slice none 0 0, .map none, heap_alloc_new _ _, ⟨(hoc.below hb).1, hm.1, trivial, hoc.2⟩, hm.2, fun a ha h0 => hoc.1.lt a ha h0, Nat.le_refl _, .inl rfl, .inl rfl, .inl rfl, w, hE, Nat.le_refl _, hb⟩
/-- Between two messages. -/
def FS (W : World) (B : Nat) (f : Md → Bool) (qs : List Y) (y : Vk) (q n gU k : Nat) (v : Value) (w : World) : Prop :=
  row.Own cI 1 B 3 w v (foundL f qs k) ∧ B ≤ w.heap.size ∧ W.heap.size ≤ B ∧ Below W.heap.size W w ∧ KeyAt (fun x => x < B) 13 w (fv y) f ∧ w.heap[q]? = some (.cells #[.int .u32 (n : Nat), .int .u32 (gU : Nat)] 48 (0, 0)) ∧ q < B
theorem FS.below {W : World} {B : Nat} {f : Md → Bool} {qs : List Y} {y : Vk} {q n gU k : Nat} {v : Value} {w w' : World} (h : FS W B f qs y q n gU k v w) (hb : Below w.heap.size w w') : FS W B f qs y q n gU k v w' := by
  obtain ⟨h1, h0, hW, h2, h3, h4, h5⟩ := h
  exact ⟨h1.below hb, Nat.le_trans h0 hb.size, hW, h2.trans (hb.mono h2.size), h3.keep (fun x _ hxs => hb.block x hxs) hb.size (fun x hx _ => hx), (hb.block q (Array.getElem?_eq_some_iff.1 h4).1).trans h4, h5⟩
theorem FS.no {W : World} {B : Nat} {f : Md → Bool} {qs : List Y} {y : Vk} {q n gU k : Nat} {v : Value} {w : World} (h : FS W B f qs y q n gU k v w) (hf : f (mdOf qs k) = false) : FS W B f qs y q n gU (k + 1) v w := by
  obtain ⟨h1, h2⟩ := h
  exact ⟨by rw [found_no hf]; exact h1, h2⟩
/-- One is found: what has been found grows. -/
theorem FS.yes {W : World} {B : Nat} {f : Md → Bool} {qs : List Y} {y : Vk} {q n gU k : Nat} {v v' : Value} {w w' : World} (h : FS W B f qs y q n gU k v w) (hf : f (mdOf qs k) = true)
    (ho : row.Own cI 1 B 3 w' v' (foundL f qs k ++ [k])) (hg : w.grownBy w' v.ownBlock) : FS W B f qs y q n gU (k + 1) v' w' := by
  obtain ⟨h1, h0, hW, h2, h3, h4, h5⟩ := h
  have hz := hg.size
  have hne : ∀ x, x < B → some x ≠ v.ownBlock := fun x hx e => by
    have := (h1.lt e.symm).1
    omega
  refine ⟨by rw [found_yes hf]; exact ho, by omega, hW, ⟨by rw [hg.os, h2.os], by rw [hg.tape, h2.tape], by rw [hg.output, h2.output], by have := h2.size; omega, fun x hx => ?_⟩, h3.keep (fun x hx hxs => hg.block x hxs (hne x hx)) hg.size (fun x hx _ => hx), ?_, h5⟩
  · have := h2.size
    rw [hg.block x (by omega) (hne x (by omega)), h2.block x hx]
  · rw [hg.block q (by omega) (hne q h5)]
    exact h4
theorem own_base {B C : Nat} {E : TypeId} {w : World} {v : Value} {ys : List Nat} (h : row.Own cI 1 B E w v ys) (hc : C ≤ B) : row.Own cI 1 C E w v ys := by
  refine ⟨h.1, h.2.imp id fun ⟨g, cap, cur, h1, h2, h3⟩ => ⟨g, cap, cur, h1, by omega, h3⟩⟩
set_option maxHeartbeats 4000000 in
theorem find_any (W : World) (S : ByteArray) (E X : Nat) (A : Option Addr) (n c : Nat) (qs : List Y) (hB : Boxy W A n qs) (R : Option Addr) (m d : Nat) (l : List Tk) (hT : Toks W R m d l) (hE : Env W) :
    Calls Tryz.prog 8 #[.agg #[.string S, .int .u32 E, .int .u32 X, .slice A n c], .slice R m d] W (FindAns W l qs) := by
  obtain ⟨W1, hW1⟩ : ∃ W1, W1 = W.alloc (.cells #[.string S, .int .u32 E, .int .u32 X, .slice A n c] 25) := ⟨_, rfl⟩
  have hb1 : Below W.heap.size W W1 := by rw [hW1]; exact (Below.refl _ _).alloc (Nat.le_refl _) _
  have hX1 : W1.heap[W.heap.size]? = some (.cells #[.string S, .int .u32 E, .int .u32 X, .slice A n c] 25 (0, 0)) := by rw [hW1]; exact heap_alloc_new _ _
  have HRd := Lib.hid (read_any W1 R m d l (hT.below hb1) (hE.below hb1))
  have HBx := Lib.hid hB
  have HE := Lib.hid hE
  have HB1 := Lib.hid hb1
  have HX1 := Lib.hid hX1
  have HW1 := Lib.hid hW1
  have hn6 : n ≤ 60000 := hB.2.1
  have hln : qs.length = n := hB.1.1
  have HLn := Lib.hid hln
  clear hB hT hE hb1 hX1 hW1 hln
  go_enter Tryz.func8, Tryz.ntmps8
  go_upto_region 1 with fail
  rw [← HW1.out]
  go_wp2_with fail
  refine HRd.out.mono ?_
  rintro e w2 ⟨y, rfl, hb2, hk2⟩
  have HB2 := Lib.hid (HB1.out.trans (hb2.mono HB1.out.size))
  have HX2 := Lib.hid ((hb2.block _ (Array.getElem?_eq_some_iff.1 HX1.out).1).trans HX1.out)
  have HK2 := Lib.hid hk2
  have hf : fv y = .func (.func y.fn) #[] y.caps := rfl
  rw [hf]
  clear hb2 hk2 hf
  cases hr : isRight lv l with
  | false =>
    have HFn : Hid (findP l qs = []) := Lib.hid (by unfold findP; rw [hr]; rfl)
    clear hr
    go_wp2
    go_ret
    exact ⟨_, rfl, by rw [HFn.out]; exact row.Own.nil _ _ _ _ _, HB2.out⟩
  | true =>
    have HFn : Hid (findP l qs = foundL (readP lv l).f qs n) := Lib.hid (by unfold findP; rw [hr, HLn.out]; rfl)
    have HK := Lib.hid (HK2.out hr)
    generalize (readP lv l).f = f at *
    clear hr HK2
    go_upto_region 4 with fail
    have hd2 : Below w2.heap.size w2 w2.drew := drew_below w2
    have b0 : w2.drew.cell? ⟨W.heap.size, 0, none⟩ = some (.string S) := sq.cell_at HX2.out 0 _ rfl
    have b1 : w2.drew.cell? ⟨W.heap.size, 1, none⟩ = some (.int .u32 E) := sq.cell_at HX2.out 1 _ rfl
    have b2 : w2.drew.cell? ⟨W.heap.size, 2, none⟩ = some (.int .u32 X) := sq.cell_at HX2.out 2 _ rfl
    have b3 : w2.drew.cell? ⟨W.heap.size, 3, none⟩ = some (.slice A n c) := sq.cell_at HX2.out 3 _ rfl
    have hda : Below w2.heap.size w2 (w2.alloc (.cells #[.int .u32 0, .int .u32 0] 48)).drew := ((Below.refl _ _).alloc (Nat.le_refl _) _).trans (codec.below_draws (Below.refl _ _) 1)
    have hxa := (hda.block _ (Array.getElem?_eq_some_iff.1 HX2.out).1).trans HX2.out
    have a0 := sq.cell_at hxa 0 _ rfl
    have a1 := sq.cell_at hxa 1 _ rfl
    have a2 := sq.cell_at hxa 2 _ rfl
    have a3 := sq.cell_at hxa 3 _ rfl
    have HG1 := Lib.hid (greatest_any w2.drew S E X A n c qs (HBx.out.1.below (HB2.out.trans (hd2.mono HB2.out.size))) (by omega))
    have HG2 := Lib.hid (greatest_any (w2.alloc (.cells #[.int .u32 0, .int .u32 0] 48)).drew S E X A n c qs (HBx.out.1.below (HB2.out.trans (hda.mono HB2.out.size))) (by omega))
    have HD2 := Lib.hid hd2
    have HDa := Lib.hid hda
    have HXa := Lib.hid hxa
    have e32 : IntKind.u32.wrap (n : Int) = (n : Int) := IntWalk.u32_in _ (by omega)
    clear hd2 hda hxa
    obtain ⟨gU, hgU⟩ : ∃ gU, gU = mxU qs := ⟨_, rfl⟩
    rw [← hgU] at HG1 HG2
    have HGU := Lib.hid hgU
    clear hgU
    go_cut [7] from 18 to 24 (fun s7 wx => ∃ q, s7 = .pointer (some ⟨q, 0, none⟩) ∧ Hid (wx.heap[q]? = some (.cells #[.int .u32 (n : Nat), .int .u32 (gU : Nat)] 48 (0, 0)) ∧ Below w2.heap.size w2 wx ∧ w2.heap.size ≤ q))
    case first =>
      go_region_law (first
        | ((try go_simp); go_at_call 14; refine HG1.out.mono ?_; rintro e w3 ⟨rfl, hb3⟩; have hb3' := HD2.out.trans (hb3.mono HD2.out.size); have hx3 := (hb3'.block _ (Array.getElem?_eq_some_iff.1 HX2.out).1).trans HX2.out; have d3 := sq.cell_at hx3 3 _ rfl; have d3a := sq.cell_at ((alloc_keeps w3 (.cells #[.int .u32 0, .int .u32 0] 48) _ (Array.getElem?_eq_some_iff.1 hx3).1).trans hx3) 3 _ rfl; have HB3 := Lib.hid hb3'; clear hb3 hx3 hb3')
        | ((try go_simp); go_at_call 14; refine HG2.out.mono ?_; rintro e w3 ⟨rfl, hb3⟩; have hx4 : w3.heap[w2.heap.size]? = some (.cells #[.int .u32 0, .int .u32 0] 48 (0, 0)) := (hb3.block _ (by simp)).trans (heap_alloc_new _ _); have y0 := sq.cell_at hx4 0 _ rfl; have y1 := sq.cell_at hx4 1 _ rfl; have f0 := frozen_of_row _ _ 0 _ _ hx4; have f1 := frozen_of_row _ _ 1 _ _ hx4; have hb3' := HDa.out.trans (hb3.mono HDa.out.size); have hx3 := (hb3'.block _ (Array.getElem?_eq_some_iff.1 HX2.out).1).trans HX2.out; have d3 := sq.cell_at hx3 3 _ rfl; have HB3 := Lib.hid hb3'; have HX4 := Lib.hid hx4; clear hb3 hx3 hb3' hx4))
      all_goals
        go_wp2_with fail
        go_meet
        first
          | exact ⟨_, rfl, Lib.hid ⟨heap_alloc_new _ _, HB3.out.alloc HB3.out.size _, HB3.out.size⟩⟩
          | exact ⟨_, rfl, Lib.hid ⟨(sq.two HX4.out rfl _ _).1, (sq.two HX4.out rfl _ _).2.2 _ _ HB3.out (Nat.le_refl _), Nat.le_refl _⟩⟩
    case rest =>
      obtain ⟨q, rfl, HQ⟩ := hcut
      have HBx3 := Lib.hid (HB2.out.trans (HQ.out.2.1.mono HB2.out.size))
      have b3x : wc.cell? ⟨W.heap.size, 3, none⟩ = some (.slice A n c) := sq.cell_at ((HQ.out.2.1.block _ (Array.getElem?_eq_some_iff.1 HX2.out).1).trans HX2.out) 3 _ rfl
      have HF0 := Lib.hid (show FS W wc.heap.size f qs y q n gU 0 (.slice none 0 0) wc from ⟨row.Own.nil _ _ _ _ _, Nat.le_refl _, HBx3.out.size, HBx3.out, HK.out.keep (fun x _ hx => HQ.out.2.1.block x hx) HQ.out.2.1.size (fun x _ hx => Nat.lt_of_lt_of_le hx HQ.out.2.1.size), HQ.out.1, (Array.getElem?_eq_some_iff.1 HQ.out.1).1⟩)
      clear b0 b1 b2 b3 a0 a1 a2 a3
      go_upto_region 7 with fail
      clear b3x
      go_loopw [8, 28] (fun v i wr => ∃ k : Nat, k ≤ n ∧ i = .int .i64 k ∧ Hid (FS W wc.heap.size f qs y q n gU k v wr)) (fun _ i _ => n - (intOf i).toNat)
      case atStart => exact ⟨0, Nat.zero_le _, rfl, HF0⟩
      case round =>
        obtain ⟨k, hk, rfl, HS⟩ := hrel
        by_cases hlt : k < n
        · obtain ⟨b, o, ym, rfl, hx, c0, c1, c2, c3, hoc⟩ := msg_at (HBx.out.1.below HS.out.2.2.2.1) k hlt
          have hlt' : (k : Int) < (n : Int) := by omega
          have HX := Lib.hid hx
          have HOc := Lib.hid hoc
          clear hx hoc
          go_upto_region 9 with fail
          obtain ⟨W8, hW8⟩ : ∃ W8, W8 = wr.alloc (.cells #[.int .u32 (ym.n.u : Nat), .int .i64 ym.n.d, .int .i64 ym.n.f, .slice ym.A ym.m ym.c] 39) := ⟨_, rfl⟩
          have h8 : Below wr.heap.size wr W8 := by rw [hW8]; exact (Below.refl _ _).alloc (Nat.le_refl _) _
          have hx8 : W8.heap[wr.heap.size]? = some (.cells #[.int .u32 (ym.n.u : Nat), .int .i64 ym.n.d, .int .i64 ym.n.f, .slice ym.A ym.m ym.c] 39 (0, 0)) := by rw [hW8]; exact heap_alloc_new _ _
          have hq8 := (h8.block q (Array.getElem?_eq_some_iff.1 HS.out.2.2.2.2.2.1).1).trans HS.out.2.2.2.2.2.1
          have t0 := sq.cell_at hx8 0 _ rfl
          have t1 := sq.cell_at hx8 1 _ rfl
          have t2 := sq.cell_at hx8 2 _ rfl
          have t3 := sq.cell_at hx8 3 _ rfl
          have n0 := sq.cell_at hq8 0 _ rfl
          have n1' := sq.cell_at hq8 1 _ rfl
          have hb8 : Below W.heap.size W W8 := HS.out.2.2.2.1.trans (h8.mono HS.out.2.2.2.1.size)
          have hms := ms_new (HBx.out.below hb8) (HE.out.below hb8) HX.out (HOc.out.below h8)
          rw [HLn.out, ← HGU.out] at hms
          obtain ⟨W9, hW9⟩ : ∃ W9, W9 = W8.alloc (.cells #[.int .u32 (ym.n.u : Nat), .int .i64 ym.n.d, .int .i64 ym.n.f, .slice ym.A ym.m ym.c, .int .u32 ((k + 1 : Nat) : Int), .int .u32 (n : Nat), .int .u32 (gU : Nat), .slice none 0 0, .slice none 0 0, .map none] 52) := ⟨_, rfl⟩
          rw [← hW9] at hms
          have h9 : Below W8.heap.size W8 W9 := by rw [hW9]; exact (Below.refl _ _).alloc (Nat.le_refl _) _
          have hk9 : KeyAt (fun x => x < W8.heap.size) 13 W9 (fv ⟨y.fn, y.caps, y.g⟩) f := HS.out.2.2.2.2.1.keep (fun x hx hxs => (h9.block x (Nat.lt_of_lt_of_le hxs h8.size)).trans (h8.block x hxs)) (Nat.le_trans h8.size h9.size) (fun x hx hxs => Nat.lt_of_lt_of_le hxs h8.size)
          have hask := eval_any W8.heap.size W8.heap.size (mdOf qs k) 13 W9 ⟨y.fn, y.caps, y.g⟩ f hk9 hms
          have e1 : ∀ args w, (callFunc y.fn args).run Tryz.prog w = .ok (.enter y.fn args) w := hask.1
          have HAsk := Lib.hid hask.2
          have HW8 := Lib.hid hW8
          have HW9 := Lib.hid hW9
          have HB9 := Lib.hid (And.intro hb8 h9)
          have H8 := Lib.hid h8
          have e33 : IntKind.u32.wrap (k : Int) = (k : Int) := IntWalk.u32_in _ (by omega)
          have e34 : IntKind.u32.wrap ((k : Int) + 1) = ((k + 1 : Nat) : Int) := (IntWalk.u32_in _ (by omega)).trans (by omega)
          clear h8 hx8 hq8 hb8 hms h9 hk9 hask hW8 hW9 c0 c1 c2 c3
          rw [← HW8.out]
          go_wp2_with fail
          rw [show ((k : Int) + 1) = ((k + 1 : Nat) : Int) by omega, ← HW9.out]
          refine HAsk.out.mono ?_
          rintro e w5 ⟨rfl, hM5, hg5⟩
          have hbw : Below wr.heap.size wr w5 := by
            have z8 := H8.out.size
            exact H8.out.trans ((HB9.out.2.mono z8).trans (hg5.bel.mono z8))
          have HS5 := Lib.hid (HS.out.below hbw)
          clear hM5 hg5 hbw t0 t1 t2 t3 n0 n1' e1 e34
          cases hp : f (mdOf qs k) with
          | false =>
            have HS6 := Lib.hid (HS5.out.no hp)
            clear hp
            go_wp2_with fail
            go_roundw
            case rel => first | exact ⟨k + 1, by omega, by go_num, HS6⟩ | ((repeat apply Exists.intro); exact ⟨⟨k + 1, by omega, by go_num, HS6⟩, rfl⟩)
            case measure => (show n - ((k : Int) + 1).toNat < n - k; omega)
          | true =>
            have HY := Lib.hid (fun v' w' ho hg => FS.yes (v' := v') (w' := w') HS5.out hp ho hg)
            have HLen := Lib.hid (show (foundL f qs k).length ≤ 20000000 from by have := found_len f qs k; omega)
            clear hp
            go_wp2_with (at_builtin; refine row.wpList_append_own fI (by decide) (by decide) (by_ := 8) (by decide) (z := .int .i64 0) rfl rfl (.tmp 42) (.tmp 44) 29 3 rfl Tryz.underlying29 infoI wc.heap.size u8 _ rfl HS5.out.1 HS5.out.2.1 HLen.out k (0, 0) w5.heap.size rfl rfl _ rfl ?_; intro v7 w7 ho7 hg7 h7; have HS7 := Lib.hid (HY.out v7 w7 ho7 hg7); clear ho7 hg7 h7)
            go_roundw
            case rel => first | exact ⟨k + 1, by omega, by go_num, HS7⟩ | ((repeat apply Exists.intro); exact ⟨⟨k + 1, by omega, by go_num, HS7⟩, rfl⟩)
            case measure => (show n - ((k : Int) + 1).toNat < n - k; omega)
        · obtain rfl : k = n := by omega
          go_wp2
          go_ret
          exact ⟨_, rfl, by rw [HFn.out]; exact own_base HS.out.1 HS.out.2.2.1, HS.out.2.2.2.1⟩
end Go.Proofs.YtcepcamedmiinaaGreatDoor.sea
