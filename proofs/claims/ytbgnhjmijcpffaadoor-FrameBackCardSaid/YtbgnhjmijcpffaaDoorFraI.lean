/- What is scanned out of bytes, as plain lists; lists of records in memory. -/
import Derived.Test.YtbgnhjmijcpffaaDoorFraH
import Derived.Stop.BytesEq
import Derived.Maps.AppendAt
namespace Go.Proofs.YtbgnhjmijcpffaaDoor.frm
open Go.ChangeShapes Go.WideShapes Go.ChangeAt Go.RowKit
open Go.Proofs.YtbgnhjmijcpffaaDoor.codec (Bytes vals vals_append vals_length vals_one OutIs More Made New bytesOf byteAt bytesOf_length bytesOf_lt Fits strOf)
set_option linter.unusedVariables false
set_option maxRecDepth 100000
set_option linter.unusedSimpArgs false

/-- A record. -/
structure R where
  at_ : Nat
  kind : Nat
  pay : List Nat
/-- How long the payload is that a head tells of. -/
def payOf (l : List Nat) (i : Nat) : List Nat := (l.drop (i + 44)).take (numOf4 (l.drop i))
def told (l : List Nat) (i : Nat) : List Nat := ((l.drop i).drop 12).take 32
def recOf (l : List Nat) (i : Nat) : R := ⟨i, (l.drop i).getD 3 0, payOf l i⟩
def scanF (l : List Nat) : Nat → Nat → Nat → List R × Nat
  | 0, _, torn => ([], torn)
  | f + 1, i, torn =>
    if i < l.length then
      if rightB (l.drop i) = true then
        if l.length < i + 44 + numOf4 (l.drop i) then ([], i)
        else
          let r := scanF l f (i + 44 + numOf4 (l.drop i)) (i + 44 + numOf4 (l.drop i))
          if dig (payOf l i) = told l i then (recOf l i :: r.1, r.2) else r
      else scanF l f (i + 1) torn
    else ([], torn)
theorem scanF_more (l : List Nat) : ∀ f g i torn, l.length - i ≤ f → l.length - i ≤ g → scanF l f i torn = scanF l g i torn := by
  intro f
  induction f with
  | zero =>
    intro g i torn h1 h2
    cases g with
    | zero => rfl
    | succ g =>
      rw [scanF, scanF, if_neg (by omega)]
  | succ f ih =>
    intro g i torn h1 h2
    cases g with
    | zero => rw [scanF, scanF, if_neg (by omega)]
    | succ g =>
      rw [scanF, scanF]
      by_cases hi : i < l.length
      · rw [if_pos hi, if_pos hi, ih g (i + 1) torn (by omega) (by omega), ih g (i + 44 + numOf4 (l.drop i)) (i + 44 + numOf4 (l.drop i)) (by omega) (by omega)]
      · rw [if_neg hi, if_neg hi]
/-- What is scanned from a place on. -/
def scan (l : List Nat) (i torn : Nat) : List R × Nat := scanF l (l.length - i) i torn
theorem scan_end (l : List Nat) (i torn : Nat) (h : l.length ≤ i) : scan l i torn = ([], torn) := by
  unfold scan
  rw [show l.length - i = 0 by omega, scanF]
theorem scan_skip (l : List Nat) (i torn : Nat) (h : i < l.length) (hr : rightB (l.drop i) = false) : scan l i torn = scan l (i + 1) torn := by
  unfold scan
  rw [show l.length - i = (l.length - (i + 1)) + 1 by omega, scanF, if_pos h, if_neg (by rw [hr]; simp)]
theorem scan_torn (l : List Nat) (i torn : Nat) (h : i < l.length) (hr : rightB (l.drop i) = true) (ht : l.length < i + 44 + numOf4 (l.drop i)) : scan l i torn = ([], i) := by
  unfold scan
  rw [show l.length - i = (l.length - (i + 1)) + 1 by omega, scanF, if_pos h, if_pos hr, if_pos ht]
theorem scan_rec (l : List Nat) (i torn e : Nat) (h : i < l.length) (hr : rightB (l.drop i) = true) (he : e = i + 44 + numOf4 (l.drop i)) (ht : e ≤ l.length) (hd : dig (payOf l i) = told l i) : scan l i torn = (recOf l i :: (scan l e e).1, (scan l e e).2) := by
  subst he
  unfold scan
  rw [show l.length - i = (l.length - (i + 1)) + 1 by omega, scanF, if_pos h, if_pos hr, if_neg (by omega)]
  simp only []
  rw [if_pos hd, scanF_more l (l.length - (i + 1)) (l.length - (i + 44 + numOf4 (l.drop i))) _ _ (by omega) (by omega)]
theorem scan_bad (l : List Nat) (i torn e : Nat) (h : i < l.length) (hr : rightB (l.drop i) = true) (he : e = i + 44 + numOf4 (l.drop i)) (ht : e ≤ l.length) (hd : dig (payOf l i) ≠ told l i) : scan l i torn = scan l e e := by
  subst he
  unfold scan
  rw [show l.length - i = (l.length - (i + 1)) + 1 by omega, scanF, if_pos h, if_pos hr, if_neg (by omega)]
  simp only []
  rw [if_neg hd, scanF_more l (l.length - (i + 1)) (l.length - (i + 44 + numOf4 (l.drop i))) _ _ (by omega) (by omega)]
theorem right_long {l : List Nat} {i : Nat} (hr : rightB (l.drop i) = true) : i + 44 ≤ l.length ∧ numOf4 (l.drop i) ≤ 30000 := by
  unfold rightB at hr
  rw [decide_eq_true_eq] at hr
  have := hr.1
  simp at this
  exact ⟨by omega, hr.2.2.2.2.1⟩
theorem nx_none (l : List Nat) (torn : Nat) : ∀ f i, f + i = l.length → nx l f i = none → scan l i torn = ([], torn) := by
  intro f
  induction f with
  | zero => intro i hi _; exact scan_end l i torn (by omega)
  | succ f ih =>
    intro i hi hn
    rw [nx] at hn
    by_cases hr : rightB (l.drop i) = true
    · rw [if_pos hr] at hn; cases hn
    · rw [if_neg hr] at hn
      rw [scan_skip l i torn (by omega) (by simpa using hr)]
      exact ih (i + 1) (by omega) hn
theorem nx_some (l : List Nat) (torn j : Nat) : ∀ f i, f + i = l.length → nx l f i = some j → scan l i torn = scan l j torn ∧ i ≤ j ∧ j < l.length ∧ rightB (l.drop j) = true := by
  intro f
  induction f with
  | zero => intro i hi hn; cases hn
  | succ f ih =>
    intro i hi hn
    rw [nx] at hn
    by_cases hr : rightB (l.drop i) = true
    · rw [if_pos hr] at hn
      cases hn
      exact ⟨rfl, Nat.le_refl _, by omega, hr⟩
    · rw [if_neg hr] at hn
      obtain ⟨h1, h2, h3, h4⟩ := ih (i + 1) (by omega) hn
      exact ⟨by rw [scan_skip l i torn (by omega) (by simpa using hr), h1], by omega, h3, h4⟩

/-- A record, and where its payload lies. -/
structure X where
  r : R
  A : Option Addr
  n : Nat
  c : Nat
def X.cells (x : X) : List Value := [.int .i64 (x.r.at_ : Nat), .int .i64 (x.r.kind : Nat), .slice x.A x.n x.c]
def cellsX (xs : List X) : List Value := xs.flatMap X.cells
theorem cellsX_length (xs : List X) : (cellsX xs).length = xs.length * 3 := by
  induction xs with
  | nil => rfl
  | cons x xs ih => simp [cellsX, X.cells] at *; omega
theorem cellsX_append (a b : List X) : cellsX (a ++ b) = cellsX a ++ cellsX b := by simp [cellsX]
/-- A list of records, on a row of the call's own. -/
def Recs (B : Nat) (E : TypeId) (w : World) (v : Value) (xs : List X) : Prop :=
  w.ownsRow B E 3 v xs.length (cellsX xs) ∧ ∀ x ∈ xs, Bytes w x.A x.n x.r.pay ∧ ∀ ad, x.A = some ad → 0 < x.n → v.ownBlock ≠ some ad.block
theorem Recs.nil (B : Nat) (E : TypeId) (w : World) : Recs B E w (.slice none 0 0) [] := ⟨⟨rfl, .inl ⟨rfl, rfl⟩⟩, by simp⟩
theorem Recs.below {B : Nat} {E : TypeId} {w w' : World} {v : Value} {xs : List X} (h : Recs B E w v xs) (hb : Below w.heap.size w w') : Recs B E w' v xs :=
  ⟨h.1.kept (row := none) ⟨hb.os, hb.tape, hb.output, hb.size, fun i hi _ => hb.block i hi⟩ (by cases hv : v.ownBlock <;> simp), fun x hx => ⟨(h.2 x hx).1.below (h.2 x hx).1.lt hb, (h.2 x hx).2⟩⟩
theorem Recs.alloc {B : Nat} {E : TypeId} {w : World} {v : Value} {xs : List X} (h : Recs B E w v xs) (o : Obj) : Recs B E (w.alloc o) v xs := h.below ((Below.refl _ _).alloc (Nat.le_refl _) _)
theorem Recs.drewN {B : Nat} {E : TypeId} {w : World} {v : Value} {xs : List X} (h : Recs B E w v xs) (q : Nat) : Recs B E (w.drewN q) v xs := h.below (codec.below_draws (Below.refl _ _) q)
theorem Recs.more {B : Nat} {E : TypeId} {w w' : World} {v v' : Value} {xs : List X} {x : X} (h : Recs B E w v xs) (ho : w'.ownsRow B E 3 v' (xs.length + 1) (cellsX xs ++ x.cells)) (hg : w.grownBy w' v.ownBlock) (hat : v'.ownBlock = v.ownBlock ∨ v'.ownBlock = some w.heap.size)
    (hB : Bytes w x.A x.n x.r.pay) (hA : ∀ ad, x.A = some ad → 0 < x.n → v.ownBlock ≠ some ad.block) : Recs B E w' v' (xs ++ [x]) := by
  have key : ∀ y : X, Bytes w y.A y.n y.r.pay → (∀ ad, y.A = some ad → 0 < y.n → v.ownBlock ≠ some ad.block) → Bytes w' y.A y.n y.r.pay ∧ ∀ ad, y.A = some ad → 0 < y.n → v'.ownBlock ≠ some ad.block := by
    intro y hy hne
    refine ⟨hy.kept fun ad e h0 => hg.block _ (hy.lt ad e h0) (fun e' => hne ad e h0 e'.symm), fun ad e h0 e' => ?_⟩
    rcases hat with ha | ha
    · exact hne ad e h0 (ha ▸ e')
    · rw [ha] at e'
      have h1 := hy.lt ad e h0
      have h2 := Option.some.inj e'
      omega
  refine ⟨?_, fun y hy => ?_⟩
  · rw [cellsX_append, List.length_append]
    simpa [cellsX] using ho
  · rcases List.mem_append.1 hy with hy | hy
    · exact key y (h.2 y hy).1 (h.2 y hy).2
    · simp at hy
      subst hy
      exact key _ hB hA
theorem infoP : (Tryd.prog.info? 61).map (fun i => (i.zero, i.size, i.bytes)) = some (some (.agg #[.int .i64 0, .int .i64 0, .slice none 0 0]), 3, 40) := by kernel_rfl
theorem infoD : (Tryd.prog.info? 40).map (fun i => (i.zero, i.size, i.bytes)) = some (some (.agg #[.int .i64 0, .int .i64 0, .slice none 0 0]), 3, 40) := by kernel_rfl
theorem lit_cells {w : World} (x : X) (t : TypeId) (m : Nat × Nat) {g : Nat} (hg : g = w.heap.size) : ∀ j u, x.cells[j]? = some u → (w.alloc (.cells x.cells.toArray t m)).cell? ((⟨g, 0, none⟩ : Addr).add j) = some u := by
  intro j u hu
  subst hg
  rw [codec.add_none, Nat.zero_add, World.cell?_alloc_mark]
  simpa using hu
/-- A record put behind records of the call's own. -/
theorem run_append_rec (T E : TypeId) (hT : Tryd.prog.underlying T = some (.slice E)) (hE : (Tryd.prog.info? E).map (fun i => (i.zero, i.size, i.bytes)) = some (some (.agg #[.int .i64 0, .int .i64 0, .slice none 0 0]), 3, 40))
    (w : World) (ty : TypeId) (B : Nat) (v : Value) (xs : List X) (h : Recs B E w v xs) (hB : B ≤ w.heap.size) (hn : xs.length ≤ 1000000) (x : X) (m : Nat × Nat) (g : Nat) (hg : g = w.heap.size)
    (hx : Bytes w x.A x.n x.r.pay) (hA : ∀ ad, x.A = some ad → 0 < x.n → v.ownBlock ≠ some ad.block) :
    ∃ v' w', (Builtin.append_ #[T, T] ty #[v, .slice (some ⟨g, 0, none⟩) 1 1]).run Tryd.prog (w.alloc (.cells x.cells.toArray E m)) = .ok v' w' ∧ Recs B E w' v' (xs ++ [x]) ∧ Below B w w' := by
  obtain ⟨i0, hi, hz0, hz1, hz2⟩ := info_parts hE
  have ha := h.alloc (.cells x.cells.toArray E m)
  obtain ⟨v', w', hr, h1, h2, h3, h4⟩ := run_append_own_at (P := Tryd.prog) (w.alloc (.cells x.cells.toArray E m)) B T ty E i0 _ 3 40 hT hi hz0 hz1 hz2 rfl (by decide) v xs.length (cellsX xs) ha.1 ⟨g, 0, none⟩ 1 1 x.cells rfl (lit_cells x E m hg) (by
    intro u hu
    simp [X.cells] at hu
    rcases hu with rfl | rfl | rfl <;> rfl) (by unfold maxLen; omega) (by omega) (by simp; omega)
  refine ⟨v', w', hr, ha.more h1 h2 h4 (hx.alloc _) hA, ((Below.refl B w).alloc hB _).trans ⟨h2.os, h2.tape, h2.output, h2.size, fun k hk => h2.block k (by simp; omega) (fun e => ?_)⟩⟩
  have := (h.1.lt _ e.symm).1
  omega
theorem wpList_append_rec {ops : Array Oper} {rest : List Oper} {o : Oper} {a : Act} {w : World} {Q : Exit → Act → World → Prop} (hgd : o.guard = none) (s y : Operand) (T E : TypeId)
    (ho : o.op = .call { callee := .builtin .append, args := #[s, y], argTypes := #[T, T] }) (hT : Tryd.prog.underlying T = some (.slice E)) (hE : (Tryd.prog.info? E).map (fun i => (i.zero, i.size, i.bytes)) = some (some (.agg #[.int .i64 0, .int .i64 0, .slice none 0 0]), 3, 40))
    (B : Nat) (v : Value) (xs : List X) (hs : a.eval s = v) (h : Recs B E w v xs) (hB : B ≤ w.heap.size) (hn : xs.length ≤ 1000000) (x : X) (m : Nat × Nat) (g : Nat) (hg : g = w.heap.size) (hy : a.eval y = .slice (some ⟨g, 0, none⟩) 1 1)
    (hx : Bytes w x.A x.n x.r.pay) (hA : ∀ ad, x.A = some ad → 0 < x.n → v.ownBlock ≠ some ad.block)
    (hK : ∀ v' w', Recs B E w' v' (xs ++ [x]) → Below B w w' → wpList Tryd.prog ops Q rest (a.put o.dst v') w') : wpList Tryd.prog ops Q (o :: rest) a (w.alloc (.cells x.cells.toArray E m)) := by
  obtain ⟨v', w', hr, h1, h2⟩ := run_append_rec T E hT hE w o.type B v xs h hB hn x m g hg hx hA
  refine wpList_plain hgd fun _ hK' => ?_
  unfold Oper.wp execOp
  simp only [ho, resolve, invoke, builtin, Sem.run_bind, Sem.run_pure, Result.andThen_ok, List.map_toArray, List.map_cons, List.map_nil, hs, hy, hr]
  exact hK' _ _ (hK v' w' h1 h2)
theorem step_append_rec {ops : Array Oper} {o : Oper} {a : Act} {w : World} {K : Act → World → Prop} {Q : Exit → Act → World → Prop} {F : Prop} (hgd : o.guard = none) (s y : Operand) (T E : TypeId)
    (ho : o.op = .call { callee := .builtin .append, args := #[s, y], argTypes := #[T, T] }) (hT : Tryd.prog.underlying T = some (.slice E)) (hE : (Tryd.prog.info? E).map (fun i => (i.zero, i.size, i.bytes)) = some (some (.agg #[.int .i64 0, .int .i64 0, .slice none 0 0]), 3, 40))
    (B : Nat) (v : Value) (xs : List X) (hs : a.eval s = v) (h : Recs B E w v xs) (hB : B ≤ w.heap.size) (hn : xs.length ≤ 1000000) (x : X) (m : Nat × Nat) (g : Nat) (hg : g = w.heap.size) (hy : a.eval y = .slice (some ⟨g, 0, none⟩) 1 1)
    (hx : Bytes w x.A x.n x.r.pay) (hA : ∀ ad, x.A = some ad → 0 < x.n → v.ownBlock ≠ some ad.block)
    (hK : ∀ v' w', Recs B E w' v' (xs ++ [x]) → Below B w w' → K (a.put o.dst v') w') : if Region.wanted o (yielded ops a.tmps) = true then Oper.wp Tryd.prog o a (w.alloc (.cells x.cells.toArray E m)) K Q else F := by
  obtain ⟨v', w', hr, h1, h2⟩ := run_append_rec T E hT hE w o.type B v xs h hB hn x m g hg hx hA
  have hw : Region.wanted o (yielded ops a.tmps) = true := by simp [Region.wanted, hgd]
  rw [if_pos hw]
  unfold Oper.wp execOp
  simp only [ho, resolve, invoke, builtin, Sem.run_bind, Sem.run_pure, Result.andThen_ok, List.map_toArray, List.map_cons, List.map_nil, hs, hy, hr]
  exact hK v' w' h1 h2
theorem sizeof5 (w : World) : (sizeOf 5).run Tryd.prog w = .ok 1 w := by kernel_rfl
theorem eq_bytes (w : World) (a b : List Nat) (ha : a.length = 32) (hb : b.length = 32) (la : ∀ x ∈ a, x < 256) (lb : ∀ x ∈ b, x < 256) : (Op.equalIn 10000 54 (.agg (vals a).toArray) (.agg (vals b).toArray)).run Tryd.prog w = .ok (decide (a = b)) w := by
  have e : ∀ d : List Nat, (∀ x ∈ d, x < 256) → vals d = (d.map UInt8.ofNat).map Extern.Stop.cell := by
    intro d hd
    unfold vals
    rw [List.map_map]
    refine List.map_congr_left fun x hx => ?_
    have := hd x hx
    simp [Extern.Stop.cell, Nat.mod_eq_of_lt this]
  rw [e a la, e b lb, run_equalIn_bytes w 9998 54 5 32 Tryd.underlying54 Tryd.underlying5 sizeof5 _ _ (by simp [ha]) (by simp [hb])]
  congr 1
  rw [Bool.eq_iff_iff, decide_eq_true_eq, beq_iff_eq]
  constructor
  · intro h
    have h2 := codec.strOf_inj (a := a) (b := b) la lb (by unfold codec.strOf; rw [h])
    exact h2
  · rintro rfl
    rfl
end Go.Proofs.YtbgnhjmijcpffaaDoor.frm
