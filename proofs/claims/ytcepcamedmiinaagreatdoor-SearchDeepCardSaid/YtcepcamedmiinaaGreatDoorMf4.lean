/- What is no key finds nothing; a key more finds no more. -/
import Derived.Test.YtcepcamedmiinaaGreatDoorMf3
import Derived.Deep.RegionHeld3
namespace Go.Proofs.YtcepcamedmiinaaGreatDoor.sea
open Go.ChangeShapes Go.WideShapes Go.ChangeAt Go.RowKit
open Go.Proofs.YtcepcamedmiinaaGreatDoor.codec (Bytes vals)
open Go.Proofs.YtcepcamedmiinaaGreatDoor.lg (Y Nt cM Oct nts)
set_option linter.unusedVariables false
set_option maxRecDepth 100000
set_option linter.unusedSimpArgs false

theorem fl_length {α : Type} {F : α → List Value} {K : Nat} (hF : row.Fm F K) : ∀ l : List α, (row.fl F l).length = l.length * K
  | [] => by simp [row.fl]
  | z :: r => by
    have ih := fl_length hF r
    show (F z ++ row.fl F r).length = _
    rw [List.length_append, ih, hF.len, List.length_cons, Nat.add_mul]
    omega
theorem fl_one {α : Type} {F : α → List Value} {K : Nat} (hF : row.Fm F K) (l : List α) : ∀ u ∈ row.fl F l, u.oneCell' = true := fun u hu => by
  obtain ⟨y, _, hy⟩ := List.mem_flatMap.1 hu
  exact hF.one y u hy
theorem run_append_rows (w : World) (ty : TypeId) (B : Nat) (v : Value) (ys : List Tk) (h : row.Own cT 2 B 34 w v ys) (hB : B ≤ w.heap.size) (A : Option Addr) (n c : Nat) (zs : List Tk) (hR : row.Rd cT 2 w A n zs) (hnil : A = none → c = 0) (hn : ys.length + n ≤ 2000000) :
    ∃ v' w', (Builtin.append_ #[26, 26] ty #[v, .slice A n c]).run Tryz.prog w = .ok v' w' ∧ row.Own cT 2 B 34 w' v' (ys ++ zs) ∧ w.grownBy w' v.ownBlock ∧ (v'.ownBlock = v.ownBlock ∨ ∃ g, v'.ownBlock = some g ∧ w.heap.size ≤ g) := by
  obtain ⟨i0, hi, hz0, hz1, hz2⟩ := info_parts infoT
  cases A with
  | none =>
    have hn0 : n = 0 := by
      rcases Nat.eq_zero_or_pos n with h0 | h0
      · exact h0
      · obtain ⟨b, o, y, e, _⟩ := hR.2 0 h0
        cases e
    have hc := hnil rfl
    subst hn0 hc
    obtain rfl : zs = [] := List.eq_nil_of_length_eq_zero hR.1
    refine ⟨v, w, ?_, by simpa using h, World.grownBy.refl w _, .inl rfl⟩
    rcases h.2 with ⟨rfl, h0⟩ | ⟨g, cap, cur, rfl, _, hg, hnc, _⟩
    · simp [Builtin.append_, run_underlying Tryz.underlying26, sizeOf, typeInfo, hi, Builtin.lenOf, Builtin.firstCells, loadCells, loadCellsFrom]
    · simp [Builtin.append_, run_underlying Tryz.underlying26, sizeOf, typeInfo, hi, Builtin.lenOf, Builtin.firstCells, hnc, storeCells, loadCells, loadCellsFrom]
  | some ad =>
    have hfl : (row.fl cT zs).length = n * 2 := by rw [fl_length fT, hR.1]
    obtain ⟨v', w', hr, h1, h2, h3, h4⟩ := run_append_own_at (P := Tryz.prog) w B 26 ty 34 i0 _ 2 24 Tryz.underlying26 hi hz0 hz1 hz2 rfl (by decide) v ys.length (row.fl cT ys) h ad n c (row.fl cT zs) hfl (fun j u hu => by
      have hj : j < n * 2 := by have := (List.getElem?_eq_some_iff.1 hu).1; omega
      obtain ⟨b, o, y, e, hy, hc⟩ := hR.2 (j / 2) (by omega)
      cases e
      have hl4 : j % 2 < (cT y).length := by rw [fT.len]; exact Nat.mod_lt _ (by decide)
      have h5 := row.fl_at fT zs (j / 2) y hy (j % 2) _ (List.getElem?_eq_getElem hl4)
      rw [show j / 2 * 2 + j % 2 = j by omega] at h5
      rw [h5] at hu
      cases hu
      rw [codec.add_none]
      have := hc (j % 2) _ (List.getElem?_eq_getElem hl4)
      rw [Nat.add_assoc, show j / 2 * 2 + j % 2 = j by omega] at this
      exact this) (fl_one fT zs) (by unfold maxLen; omega) (by omega) hB
    refine ⟨v', w', hr, ?_, h2, h4.imp id fun h => ⟨_, h, Nat.le_refl _⟩⟩
    have e : row.fl cT (ys ++ zs) = row.fl cT ys ++ row.fl cT zs := List.flatMap_append
    unfold row.Own
    rw [e, List.length_append, hR.1]
    exact h1

theorem step_append_rows {ops : Array Oper} {o : Oper} {a : Act} {w : World} {K : Act → World → Prop} {Q : Exit → Act → World → Prop} {X : Prop} (hgd : o.guard = none) (s x : Operand)
    (ho : o.op = .call { callee := .builtin .append, args := #[s, x], argTypes := #[26, 26] })
    (B : Nat) (v : Value) (ys : List Tk) (hs : a.eval s = v) (h : row.Own cT 2 B 34 w v ys) (hB : B ≤ w.heap.size) (A : Option Addr) (n c : Nat) (zs : List Tk) (hx : a.eval x = .slice A n c) (hR : row.Rd cT 2 w A n zs) (hnil : A = none → c = 0) (hn : ys.length + n ≤ 2000000)
    (hK : ∀ v' w', row.Own cT 2 B 34 w' v' (ys ++ zs) → w.grownBy w' v.ownBlock → K (a.put o.dst v') w') :
    if Region.wanted o (yielded ops a.tmps) = true then Oper.wp Tryz.prog o a w K Q else X := by
  have hw : Region.wanted o (yielded ops a.tmps) = true := by simp [Region.wanted, hgd]
  rw [if_pos hw]
  obtain ⟨v', w', hr, h1, h2, h3⟩ := run_append_rows w o.type B v ys h hB A n c zs hR hnil hn
  unfold Oper.wp execOp
  simp only [ho, resolve, invoke, builtin, Sem.run_bind, Sem.run_pure, Result.andThen_ok, List.map_toArray, List.map_cons, List.map_nil, hs, hx, hr]
  exact hK v' w' h1 h2
/-- What is left of some numbers where others are gone through. -/
def rem : List Nat → List Nat → List Nat
  | ys, [] => ys
  | [], _ :: _ => []
  | y :: ys, x :: xs => if y = x then rem ys xs else rem (y :: ys) xs
theorem rem_nil : ∀ xs : List Nat, rem [] xs = []
  | [] => rfl
  | _ :: _ => rfl
theorem rem_all : ∀ (xs ys : List Nat), ys.Sublist xs → rem ys xs = []
  | [], ys, h => by
    cases h
    rfl
  | x :: xs, [], h => rfl
  | x :: xs, y :: ys, h => by
    rw [rem]
    split
    · rename_i e
      cases h with
      | cons _ h => exact rem_all xs ys (List.Sublist.trans (List.sublist_cons_self y ys) h)
      | cons_cons _ h => exact rem_all xs ys h
    · rename_i e
      cases h with
      | cons _ h => exact rem_all xs (y :: ys) h
      | cons_cons _ h => exact absurd rfl e
theorem filter_sub {p q : Nat → Bool} (h : ∀ x, p x = true → q x = true) : ∀ l : List Nat, (l.filter p).Sublist (l.filter q)
  | [] => List.Sublist.refl _
  | x :: l => by
    have ih := filter_sub h l
    cases hp : p x with
    | true =>
      rw [List.filter_cons_of_pos hp, List.filter_cons_of_pos (h x hp)]
      exact ih.cons_cons x
    | false =>
      rw [List.filter_cons_of_neg (by rw [hp]; exact Bool.false_ne_true)]
      cases hq : q x with
      | true =>
        rw [List.filter_cons_of_pos hq]
        exact ih.cons x
      | false =>
        rw [List.filter_cons_of_neg (by rw [hq]; exact Bool.false_ne_true)]
        exact ih
/-- A key more finds no more. -/
theorem find_sub (a c : List Tk) (qs : List Y) (h : isRight lv a = true) : (findP (a ++ c) qs).Sublist (findP a qs) := by
  unfold findP
  rw [if_pos h]
  split
  · exact filter_sub (fun i hi => read_more lv a c h (mdOf qs i) hi) _
  · exact List.nil_sublist _
theorem find_none (a : List Tk) (qs : List Y) (h : isRight lv a = false) : findP a qs = [] := by
  unfold findP
  rw [h]
  rfl
theorem int_at {w : World} {A : Option Addr} {n : Nat} {xs : List Nat} (h : row.Rd cI 1 w A n xs) (k : Nat) (hk : k < n) : ∃ b o x, A = some ⟨b, o, none⟩ ∧ xs[k]? = some x ∧ w.cell? ⟨b, o + k, none⟩ = some (.int .i64 (x : Nat)) := by
  obtain ⟨b, o, x, h1, h2, h3⟩ := h.2 k hk
  have := h3 0 _ rfl
  rw [show o + k * 1 + 0 = o + k by omega] at this
  exact ⟨b, o, x, h1, h2, this⟩
theorem rem_hit {xs ys : List Nat} {i k x : Nat} (hx : xs[i]? = some x) (hy : ys[k]? = some x) (h : rem (ys.drop k) (xs.drop i) = []) : rem (ys.drop (k + 1)) (xs.drop (i + 1)) = [] := by
  obtain ⟨h1, h2⟩ := List.getElem?_eq_some_iff.1 hx
  obtain ⟨h3, h4⟩ := List.getElem?_eq_some_iff.1 hy
  rw [List.drop_eq_getElem_cons h1, List.drop_eq_getElem_cons h3, h2, h4, rem, if_pos rfl] at h
  exact h
theorem rem_miss {xs ys : List Nat} {i k x y : Nat} (hx : xs[i]? = some x) (hy : ys[k]? = some y) (hne : y ≠ x) (h : rem (ys.drop k) (xs.drop i) = []) : rem (ys.drop k) (xs.drop (i + 1)) = [] := by
  obtain ⟨h1, h2⟩ := List.getElem?_eq_some_iff.1 hx
  obtain ⟨h3, h4⟩ := List.getElem?_eq_some_iff.1 hy
  rw [List.drop_eq_getElem_cons h1, List.drop_eq_getElem_cons h3, h2, h4, rem, if_neg hne] at h
  rw [List.drop_eq_getElem_cons h3, h4]
  exact h
theorem rem_over {xs ys : List Nat} {i k : Nat} (hk : ys.length ≤ k) : rem (ys.drop k) (xs.drop i) = [] := by
  rw [List.drop_eq_nil_of_le hk]
  exact rem_nil _
theorem rem_end {xs ys : List Nat} {k : Nat} (h : rem (ys.drop k) (xs.drop xs.length) = []) : ys.length ≤ k := by
  rw [List.drop_length] at h
  cases hd : ys.drop k with
  | nil =>
    have := congrArg List.length hd
    rw [List.length_drop] at this
    simp at this
    omega
  | cons y r => rw [hd] at h; cases h
end Go.Proofs.YtcepcamedmiinaaGreatDoor.sea
namespace Go.Proofs.YtcepcamedmiinaaGreatDoor.sea
open Go.ChangeShapes Go.WideShapes Go.ChangeAt Go.RowKit
open Go.Proofs.YtcepcamedmiinaaGreatDoor.codec (Bytes vals)
open Go.Proofs.YtcepcamedmiinaaGreatDoor.lg (Y Nt cM Oct nts)
set_option linter.unusedVariables false
set_option maxRecDepth 100000
set_option linter.unusedSimpArgs false

/-- Tokens that came in, of any number. -/
def TokI (w : World) (R : Option Addr) (m d : Nat) (l : List Tk) : Prop :=
  m ≤ d ∧ (R = none → d = 0) ∧ m ≤ 140737488355328 ∧ row.Rd cT 2 w R m l ∧ ∀ t ∈ l, Big t
theorem TokI.toks {w : World} {R : Option Addr} {m d : Nat} {l : List Tk} (h : TokI w R m d l) (hm : m ≤ 200) : Toks w R m d l := ⟨h.1, h.2.1, hm, h.2.2.2.1, h.2.2.2.2⟩
theorem TokI.below {w w' : World} {R : Option Addr} {m d : Nat} {l : List Tk} (h : TokI w R m d l) (hb : Below w.heap.size w w') : TokI w' R m d l := by
  obtain ⟨h1, h2, h3, h4, h5⟩ := h
  refine ⟨h1, h2, h3, rd_touch h4 (below_touch (fun x => w.heap.size ≤ x) hb) (fun a ha h0 e => ?_), h5⟩
  obtain ⟨b, o, y, k1, k2, k3⟩ := h4.2 0 h0
  rw [k1] at ha
  cases ha
  have := block_lt_of_cell (k3 0 _ rfl)
  have h6 : w.heap.size ≤ b := e
  simp at this
  omega
/-- A mailbox that came in. -/
structure BoxI (w : World) (S : ByteArray) (A : Option Addr) (n : Nat) (qs : List Y) : Prop where
  rd : lg.Rd cM 4 w A n qs
  hn : n ≤ 140737488355328
  hS : S.size ≤ 140737488355328
  hm : ∀ y ∈ qs, y.m ≤ y.c ∧ y.m ≤ 140737488355328
theorem BoxI.few {w : World} {S : ByteArray} {A : Option Addr} {n : Nat} {qs : List Y} (h : BoxI w S A n qs) (hf : mal.fewB S (nts qs) = true) : Boxy w A n qs ∧ S.size ≤ 60000 := by
  obtain ⟨h1, h2, h3⟩ := mal.fewB_size hf
  refine ⟨⟨h.rd, by rw [lg.nts_len, h.rd.1] at h2; exact h2, fun y hy => ⟨(h.hm y hy).1, ?_⟩⟩, h1⟩
  have h4 := h3 y.n (List.mem_map_of_mem hy)
  obtain ⟨k, hk⟩ := List.mem_iff_getElem?.1 hy
  have hk2 := (List.getElem?_eq_some_iff.1 hk).1
  obtain ⟨b, o, y', e1, e2, _, ho⟩ := h.rd.2 k (by have := h.rd.1; omega)
  rw [hk] at e2
  cases e2
  have := ho.1.1
  omega
theorem int_keep {w w' : World} {A : Option Addr} {n : Nat} {xs : List Nat} (h : row.Rd cI 1 w A n xs) (hb : Below w.heap.size w w') : row.Rd cI 1 w' A n xs := by
  refine ⟨h.1, fun k hk => ?_⟩
  obtain ⟨b, o, y, h1, h2, h3⟩ := h.2 k hk
  refine ⟨b, o, y, h1, h2, fun j v hv => ?_⟩
  have h4 := h3 j v hv
  rw [hb.cell (p := ⟨b, o + k * 1 + j, none⟩) (block_lt_of_cell h4)]
  exact h4
set_option maxHeartbeats 4000000 in
theorem none_walk (W : World) (S : ByteArray) (E X : Nat) (A : Option Addr) (n c : Nat) (qs : List Y) (hB : BoxI W S A n qs) (Ra : Option Addr) (ma da : Nat) (la : List Tk) (ha : TokI W Ra ma da la) (Rc : Option Addr) (mc dc : Nat) (lc : List Tk) (hc : TokI W Rc mc dc lc) (hE : Env W) :
    Calls Tryz.prog 3 #[.agg #[.string S, .int .u32 E, .int .u32 X, .slice A n c], .slice Ra ma da, .slice Rc mc dc] W fun e w' => e = .returned (.bool true) ∧ Below W.heap.size W w' := by
  obtain ⟨W1, hW1⟩ : ∃ W1, W1 = W.alloc (.cells #[.string S, .int .u32 E, .int .u32 X, .slice A n c] 25) := ⟨_, rfl⟩
  have hb1 : Below W.heap.size W W1 := by rw [hW1]; exact (Below.refl _ _).alloc (Nat.le_refl _) _
  have hX1 : W1.heap[W.heap.size]? = some (.cells #[.string S, .int .u32 E, .int .u32 X, .slice A n c] 25 (0, 0)) := by rw [hW1]; exact heap_alloc_new _ _
  have HBx := Lib.hid hB
  have HTa := Lib.hid ha
  have HTc := Lib.hid hc
  have HE := Lib.hid hE
  have HAw := Lib.hid (fun (w : World) (h : Below W.heap.size W w) => awake_any w (hE.below h))
  have HB1 := Lib.hid hb1
  have HX := Lib.hid (fun (w : World) (h : Below W1.heap.size W1 w) => (h.block _ (Array.getElem?_eq_some_iff.1 hX1).1).trans hX1)
  have HW1 := Lib.hid hW1
  have hma : ma ≤ 140737488355328 := ha.2.2.1
  have hmc : mc ≤ 140737488355328 := hc.2.2.1
  have HFew := Lib.hid (fun (w : World) (h : Below W.heap.size W w) => mal.few_any w S E X A n c qs (hB.rd.below h) hB.hn hB.hS (fun y hy => (hB.hm y hy).2))
  have HRi := Lib.hid (fun (hs : S.size ≤ 100000) (w : World) (h : Below W.heap.size W w) => mal.rRight_any w S E X A n c qs (hB.rd.below h) hs)
  clear hB ha hc hE hb1 hX1 hW1
  go_enter Tryz.func3, Tryz.ntmps3
  go_upto_region 1 with fail
  rw [← HW1.out]
  go_wp2_with fail
  refine (HAw.out W1 HB1.out).mono ?_
  rintro e w2 ⟨rfl, hb2⟩
  have HL2 := Lib.hid hb2
  have HB2 := Lib.hid (HB1.out.trans (hb2.mono HB1.out.size))
  have x2 := HX.out w2 hb2
  have b0 := sq.cell_at x2 0 _ rfl
  have b1 := sq.cell_at x2 1 _ rfl
  have b2 := sq.cell_at x2 2 _ rfl
  have b3 := sq.cell_at x2 3 _ rfl
  clear hb2 x2
  cases hfew : mal.fewB S (nts qs) with
  | false =>
    have HF := Lib.hid (HFew.out w2 HB2.out)
    rw [hfew] at HF
    clear hfew
    go_wp2_with fail
    refine HF.out.mono ?_
    rintro e w3 ⟨rfl, hb3⟩
    have HB3 := Lib.hid (HB2.out.trans (hb3.mono HB2.out.size))
    have HA3 := Lib.hid (HAw.out w3 HB3.out)
    clear hb3
    go_wp2_with fail
    refine HA3.out.mono ?_
    rintro e w4 ⟨rfl, hb4⟩
    have HB4 := Lib.hid (HB3.out.trans (hb4.mono HB3.out.size))
    clear hb4
    go_wp2
    go_ret
    exact ⟨rfl, HB4.out⟩
  | true =>
    obtain ⟨hbox, hS6⟩ := HBx.out.few hfew
    have HBo := Lib.hid hbox
    have HF := Lib.hid (HFew.out w2 HB2.out)
    rw [hfew] at HF
    have HS6 := Lib.hid hS6
    clear hfew hbox hS6
    go_wp2_with fail
    refine HF.out.mono ?_
    rintro e w3 ⟨rfl, hb3⟩
    have HL3 := Lib.hid (HL2.out.trans (hb3.mono HL2.out.size))
    have HB3 := Lib.hid (HB2.out.trans (hb3.mono HB2.out.size))
    have x3 := HX.out w3 HL3.out
    have d0 := sq.cell_at x3 0 _ rfl
    have d1 := sq.cell_at x3 1 _ rfl
    have d2 := sq.cell_at x3 2 _ rfl
    have d3 := sq.cell_at x3 3 _ rfl
    have HR3 := Lib.hid (HRi.out (by have := HS6.out; omega) w3 HB3.out)
    clear hb3 x3 b0 b1 b2 b3
    generalize mal.right S E X (nts qs) = rr at *
    cases rr with
    | false =>
      go_wp2_with fail
      refine HR3.out.mono ?_
      rintro e w4 ⟨rfl, hb4⟩
      have HB4 := Lib.hid (HB3.out.trans (hb4.mono HB3.out.size))
      have HA4 := Lib.hid (HAw.out w4 HB4.out)
      clear hb4
      go_wp2_with fail
      refine HA4.out.mono ?_
      rintro e w5 ⟨rfl, hb5⟩
      have HB5 := Lib.hid (HB4.out.trans (hb5.mono HB4.out.size))
      clear hb5
      go_wp2
      go_ret
      exact ⟨rfl, HB5.out⟩
    | true =>
      by_cases hlen : ma + mc ≤ 100
      · have q1 : decide ((100 : Int) < (ma : Int) + (mc : Int)) = false := decide_eq_false (by omega)
        go_wp2_with fail
        refine HR3.out.mono ?_
        rintro e w4 ⟨rfl, hb4⟩
        have HB4 := Lib.hid (HB3.out.trans (hb4.mono HB3.out.size))
        have HL4 := Lib.hid (HL3.out.trans (hb4.mono HL3.out.size))
        have x4 := HX.out w4 HL4.out
        have k0 := sq.cell_at x4 0 _ rfl
        have k1 := sq.cell_at x4 1 _ rfl
        have k2 := sq.cell_at x4 2 _ rfl
        have k3 := sq.cell_at x4 3 _ rfl
        have HF4 := Lib.hid (find_any w4 S E X A n c qs (HBo.out.below HB4.out) Ra ma da la ((HTa.out.below HB4.out).toks (by omega)) (HE.out.below HB4.out))
        clear hb4 x4 d0 d1 d2 d3
        go_wp2_with fail
        refine HF4.out.mono ?_
        rintro e w5 ⟨v5, rfl, ho5, hb5⟩
        obtain ⟨Ax, cx, rfl, _, _, hrx⟩ := own_len ho5
        have HRx := Lib.hid hrx
        have HB5 := Lib.hid (HB4.out.trans (hb5.mono HB4.out.size))
        have HL5 := Lib.hid (HL4.out.trans (hb5.mono HL4.out.size))
        clear hb5 ho5 hrx k0 k1 k2 k3
        obtain ⟨xs, hxs⟩ : ∃ xs, xs = findP la qs := ⟨_, rfl⟩
        rw [← hxs] at HRx ⊢
        have HXs := Lib.hid hxs
        clear hxs
        obtain ⟨nx, hnx⟩ : ∃ nx, nx = xs.length := ⟨_, rfl⟩
        rw [← hnx] at HRx ⊢
        have HNx := Lib.hid hnx
        clear hnx
        go_upto_region 4 with fail
        have x5 := HX.out w5 HL5.out
        have hd5 : Below w5.heap.size w5 w5.drew := drew_below w5
        have p0 : w5.drew.cell? ⟨W.heap.size, 0, none⟩ = some (.string S) := sq.cell_at x5 0 _ rfl
        have p1 : w5.drew.cell? ⟨W.heap.size, 1, none⟩ = some (.int .u32 E) := sq.cell_at x5 1 _ rfl
        have p2 : w5.drew.cell? ⟨W.heap.size, 2, none⟩ = some (.int .u32 X) := sq.cell_at x5 2 _ rfl
        have p3 : w5.drew.cell? ⟨W.heap.size, 3, none⟩ = some (.slice A n c) := sq.cell_at x5 3 _ rfl
        have HP := Lib.hid (fun (w : World) (h : Below w5.heap.size w5 w) => HX.out w (HL5.out.trans (h.mono HL5.out.size)))
        have hda : Below w5.heap.size w5 (w5.alloc (.cells #[] 34)).drew := ((Below.refl w5.heap.size w5).alloc (Nat.le_refl _) _).trans (codec.below_draws (Below.refl _ _) 1)
        have xa := HP.out _ hda
        have a0 : (w5.alloc (.cells #[] 34)).cell? ⟨W.heap.size, 0, none⟩ = some (.string S) := sq.cell_at xa 0 _ rfl
        have a1 : (w5.alloc (.cells #[] 34)).cell? ⟨W.heap.size, 1, none⟩ = some (.int .u32 E) := sq.cell_at xa 1 _ rfl
        have a2 : (w5.alloc (.cells #[] 34)).cell? ⟨W.heap.size, 2, none⟩ = some (.int .u32 X) := sq.cell_at xa 2 _ rfl
        have a3 : (w5.alloc (.cells #[] 34)).cell? ⟨W.heap.size, 3, none⟩ = some (.slice A n c) := sq.cell_at xa 3 _ rfl
        have HO0 := Lib.hid (show row.Own cT 2 w5.heap.size 34 (w5.alloc (.cells #[] 34)).drew (.slice (some ⟨w5.heap.size, 0, none⟩) 0 0) [] from World.ownsRow_made w5 #[] 0 (Nat.le_refl _) (Nat.zero_le _) rfl)
        have HDa := Lib.hid hda
        clear x5 hd5 hda xa
        go_cut [8] from 35 to 42 (fun s8 wx => ∃ Ay my cy, s8 = .slice Ay my cy ∧ Hid (row.Rd cI 1 wx Ay my (findP (la ++ lc) qs) ∧ Below w5.heap.size w5 wx))
        case first =>
          go_region_law (first
            | (refine step_append_rows rfl (.tmp 36) (.tmp 37) rfl w5.heap.size (.slice (some ⟨w5.heap.size, 0, none⟩) 0 0) [] (by simp [Act.eval, Act.put]) HO0.out HDa.out.size Ra ma da la (by simp [Act.eval, Act.put]) (HTa.out.below (HB5.out.trans (HDa.out.mono HB5.out.size))).2.2.2.1 HTa.out.2.1 (by simp; omega) ?_; intro v6 w6 ho6 hg6; have hb6 := row.grown_below HDa.out HO0.out hg6; have x6 := HP.out w6 hb6; have f0 := sq.cell_at x6 0 _ rfl; have f1 := sq.cell_at x6 1 _ rfl; have f2 := sq.cell_at x6 2 _ rfl; have f3 := sq.cell_at x6 3 _ rfl; have HO6 := Lib.hid ho6; have HB6 := Lib.hid hb6; clear ho6 hg6 hb6 x6)
            | (refine step_append_rows rfl (.tmp 38) (.tmp 39) rfl w5.heap.size v6 ([] ++ la) (by simp [Act.eval, Act.put]) HO6.out HB6.out.size Rc mc dc lc (by simp [Act.eval, Act.put]) (HTc.out.below (HB5.out.trans (HB6.out.mono HB5.out.size))).2.2.2.1 HTc.out.2.1 (by have := HTa.out.2.2.2.1.1; simp; omega) ?_; intro v7 w7 ho7 hg7; have hb7 := row.grown_below HB6.out HO6.out hg7; have x7 := HP.out w7 hb7; have g0 := sq.cell_at x7 0 _ rfl; have g1 := sq.cell_at x7 1 _ rfl; have g2 := sq.cell_at x7 2 _ rfl; have g3 := sq.cell_at x7 3 _ rfl; have HB7 := Lib.hid hb7; obtain ⟨A7, m7, c7, rfl, ht7⟩ := TS.toks (W := w5) ⟨ho7, hb7⟩ (by have h1 := HTa.out.2.2.2.1.1; have h2 := HTc.out.2.2.2.1.1; simp; omega) (fun t ht => by
                rcases List.mem_append.1 ht with h | h
                · exact HTa.out.2.2.2.2 t (by simpa using h)
                · exact HTc.out.2.2.2.2 t h); have HF7 := Lib.hid (find_any w7 S E X A n c qs (HBo.out.below (HB5.out.trans (HB7.out.mono HB5.out.size))) A7 m7 c7 _ ht7 (HE.out.below (HB5.out.trans (HB7.out.mono HB5.out.size)))); clear ho7 hg7 hb7 x7 ht7)
            | ((try go_simp); go_at_call 8; refine HF7.out.mono ?_; rintro e w8 ⟨v8, rfl, ho8, hb8⟩; obtain ⟨Ay, cy, rfl, _, _, hry⟩ := own_len ho8; have HRy := Lib.hid hry; have HB8 := Lib.hid (HB7.out.trans (hb8.mono HB7.out.size)); clear ho8 hb8 hry))
          all_goals
            go_wp2_with fail
            go_meet
            exact ⟨Ay, _, cy, rfl, Lib.hid ⟨HRy.out, HB8.out⟩⟩
        case rest =>
          obtain ⟨Ay, my, cy, rfl, HY⟩ := hcut
          have HBc := Lib.hid (HB5.out.trans (HY.out.2.mono HB5.out.size))
          have HRa := Lib.hid (right_any wc Ra ma da la ((HTa.out.below HBc.out).toks (by omega)) (HE.out.below HBc.out))
          clear p0 p1 p2 p3 a0 a1 a2 a3
          cases hr : isRight lv la with
          | false =>
            rw [hr] at HRa
            have hz : nx = 0 := by rw [HNx.out, HXs.out, find_none la qs hr]; rfl
            subst hz
            clear hr
            go_wp2_with fail
            refine HRa.out.mono ?_
            rintro e w9 ⟨rfl, hb9⟩
            have HB9 := Lib.hid (HBc.out.trans (hb9.mono HBc.out.size))
            clear hb9
            go_wp2
            go_ret
            exact ⟨by first | rfl | simp, HB9.out⟩
          | true =>
            rw [hr] at HRa
            obtain ⟨ys, hys⟩ : ∃ ys, ys = findP (la ++ lc) qs := ⟨_, rfl⟩
            have HSub := Lib.hid (show rem ys xs = [] from rem_all _ _ (by rw [hys, HXs.out]; exact find_sub la lc qs hr))
            have HYl := Lib.hid (show ys.length ≤ 60000 from by
              have h1 := HBo.out.1.1
              have h2 := HBo.out.2.1
              rw [hys]
              unfold findP
              split
              · have := found_len (readP lv (la ++ lc)).f qs qs.length
                omega
              · exact Nat.zero_le _)
            rw [← hys] at HY
            clear hr hys
            go_wp2_with fail
            refine HRa.out.mono ?_
            rintro e w9 ⟨rfl, hb9⟩
            have HB9 := Lib.hid (HBc.out.trans (hb9.mono HBc.out.size))
            have HX9 := Lib.hid (int_keep HRx.out (HY.out.2.trans (hb9.mono HY.out.2.size)))
            have HY9 := Lib.hid (int_keep HY.out.1 hb9)
            have hmy : my ≤ 60000 := by
              have h1 := HY.out.1.1
              have h2 := HYl.out
              omega
            have hnx6 : nx ≤ 60000 := by
              have h1 := HBo.out.1.1
              have h2 := HBo.out.2.1
              rw [HNx.out, HXs.out]
              unfold findP
              split
              · have := found_len (readP lv la).f qs qs.length
                omega
              · exact Nat.zero_le _
            clear hb9
            go_upto_region 9 with fail
            go_loopw [9, 50] (fun kk ii wr => ∃ k i : Nat, i ≤ nx ∧ k ≤ my ∧ kk = .int .i64 k ∧ ii = .int .i64 i ∧ Hid (Below w9.heap.size w9 wr) ∧ Hid (rem (ys.drop k) (xs.drop i) = [])) (fun _ ii _ => nx - (intOf ii).toNat)
            case atStart => exact ⟨0, 0, Nat.zero_le _, Nat.zero_le _, rfl, rfl, Lib.hid (Below.refl _ _), HSub⟩
            case round =>
              obtain ⟨k, i, hi, hk, rfl, rfl, HBr, HRem⟩ := hrel
              by_cases hlt : i < nx
              · have hlt' : (i : Int) < (nx : Int) := by omega
                have hxx := HX9.out.1
                obtain ⟨bx, ox, x, rfl, hx, cx0⟩ := int_at (int_keep HX9.out HBr.out) i hlt
                have HXi := Lib.hid hx
                clear hx hxx
                by_cases hky : k < my
                · obtain ⟨by_, oy, y, rfl, hy, cy0⟩ := int_at (int_keep HY9.out HBr.out) k hky
                  have HYk := Lib.hid hy
                  clear hy
                  have q1 : decide ((k : Int) < (my : Int)) = true := decide_eq_true (by omega)
                  have q2 : (k : Int) < (my : Int) := by omega
                  by_cases hxy : y = x
                  · subst hxy
                    have HN := Lib.hid (rem_hit HXi.out HYk.out HRem.out)
                    have q3 : ((y : Int) == (y : Int)) = true := beq_self_eq_true _
                    go_upto_region 11 with fail
                    go_quiet (fail)
                    go_wp2
                    go_roundw
                    case rel => first | exact ⟨k + 1, i + 1, by omega, by omega, by go_num, by go_num, Lib.hid (codec.below_draws HBr.out _), HN⟩ | ((repeat apply Exists.intro); exact ⟨⟨k + 1, i + 1, by omega, by omega, by go_num, by go_num, Lib.hid (codec.below_draws HBr.out _), HN⟩, rfl⟩)
                    case measure => (show nx - ((i : Int) + 1).toNat < nx - i; omega)
                  · have q3 : ((y : Int) == (x : Int)) = false := by rw [beq_eq_false_iff_ne]; omega
                    have HN := Lib.hid (rem_miss HXi.out HYk.out hxy HRem.out)
                    go_upto_region 11 with fail
                    go_quiet (fail)
                    go_wp2
                    go_roundw
                    case rel => first | exact ⟨k, i + 1, by omega, by omega, by go_num, by go_num, Lib.hid (codec.below_draws HBr.out _), HN⟩ | ((repeat apply Exists.intro); exact ⟨⟨k, i + 1, by omega, by omega, by go_num, by go_num, Lib.hid (codec.below_draws HBr.out _), HN⟩, rfl⟩)
                    case measure => (show nx - ((i : Int) + 1).toNat < nx - i; omega)
                · have q1 : decide ((k : Int) < (my : Int)) = false := decide_eq_false (by omega)
                  have HN := Lib.hid (rem_over (xs := xs) (ys := ys) (i := i + 1) (k := k) (by rw [HY9.out.1]; omega))
                  go_upto_region 11 with fail
                  go_quiet (fail)
                  go_wp2
                  go_roundw
                  case rel => first | exact ⟨k, i + 1, by omega, by omega, by go_num, by go_num, Lib.hid (codec.below_draws HBr.out _), HN⟩ | ((repeat apply Exists.intro); exact ⟨⟨k, i + 1, by omega, by omega, by go_num, by go_num, Lib.hid (codec.below_draws HBr.out _), HN⟩, rfl⟩)
                  case measure => (show nx - ((i : Int) + 1).toNat < nx - i; omega)
              · obtain rfl : i = nx := by omega
                have hend : k = my := by
                  have h1 := HRem.out
                  have h2 := HX9.out.1
                  rw [← h2] at h1
                  have := rem_end h1
                  rw [HY9.out.1] at this
                  omega
                subst hend
                go_wp2
                go_ret
                exact ⟨by first | rfl | simp, HB9.out.trans (HBr.out.mono HB9.out.size)⟩
      · have q1 : decide ((100 : Int) < (ma : Int) + (mc : Int)) = true := decide_eq_true (by omega)
        go_wp2_with fail
        refine HR3.out.mono ?_
        rintro e w4 ⟨rfl, hb4⟩
        have HB4 := Lib.hid (HB3.out.trans (hb4.mono HB3.out.size))
        have HA4 := Lib.hid (HAw.out w4 HB4.out)
        clear hb4
        go_wp2_with fail
        refine HA4.out.mono ?_
        rintro e w5 ⟨rfl, hb5⟩
        have HB5 := Lib.hid (HB4.out.trans (hb5.mono HB4.out.size))
        clear hb5
        go_wp2
        go_ret
        exact ⟨rfl, HB5.out⟩
end Go.Proofs.YtcepcamedmiinaaGreatDoor.sea
