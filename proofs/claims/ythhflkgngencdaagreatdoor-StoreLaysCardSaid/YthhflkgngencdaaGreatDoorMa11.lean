/- What is scanned out of bytes, as plain lists; lists of records in memory. -/
import Derived.Test.YthhflkgngencdaaGreatDoorMa10
import Derived.Stop.BytesEq
import Derived.Maps.AppendAt
import Derived.IntWalk
import Derived.Test.YthhflkgngencdaaGreatDoorMa07
import Derived.Test.YthhflkgngencdaaGreatDoorMa06
import Derived.Deep.RegionWith
import Derived.Deep.RegionHeld3
namespace Go.Proofs.YthhflkgngencdaaGreatDoor.frm
open Go.ChangeShapes Go.WideShapes Go.ChangeAt Go.RowKit
open Go.Proofs.YthhflkgngencdaaGreatDoor.codec (Bytes vals vals_append vals_length vals_one OutIs More Made New bytesOf byteAt bytesOf_length bytesOf_lt Fits strOf)
set_option linter.unusedVariables false
set_option maxRecDepth 100000
set_option linter.unusedSimpArgs false

/-- A record. -/
structure R where
  at_ : Nat
  kind : Nat
  pay : List Nat
/-- How long the payload is that a head tells of. -/
def payOf (l : List Nat) (i : Nat) : List Nat := (l.drop (i + 44)).take (numOf4 (l.drop i))
def told (l : List Nat) (i : Nat) : List Nat := ((l.drop i).drop 12).take 32
def recOf (l : List Nat) (i : Nat) : R := ⟨i, (l.drop i).getD 3 0, payOf l i⟩
def scanF (l : List Nat) : Nat → Nat → Nat → List R × Nat
  | 0, _, torn => ([], torn)
  | f + 1, i, torn =>
    if i < l.length then
      if rightB (l.drop i) = true then
        if l.length < i + 44 + numOf4 (l.drop i) then ([], i)
        else
          let r := scanF l f (i + 44 + numOf4 (l.drop i)) (i + 44 + numOf4 (l.drop i))
          if dig (payOf l i) = told l i then (recOf l i :: r.1, r.2) else r
      else scanF l f (i + 1) torn
    else ([], torn)
theorem scanF_more (l : List Nat) : ∀ f g i torn, l.length - i ≤ f → l.length - i ≤ g → scanF l f i torn = scanF l g i torn := by
  intro f
  induction f with
  | zero =>
    intro g i torn h1 h2
    cases g with
    | zero => rfl
    | succ g =>
      rw [scanF, scanF, if_neg (by omega)]
  | succ f ih =>
    intro g i torn h1 h2
    cases g with
    | zero => rw [scanF, scanF, if_neg (by omega)]
    | succ g =>
      rw [scanF, scanF]
      by_cases hi : i < l.length
      · rw [if_pos hi, if_pos hi, ih g (i + 1) torn (by omega) (by omega), ih g (i + 44 + numOf4 (l.drop i)) (i + 44 + numOf4 (l.drop i)) (by omega) (by omega)]
      · rw [if_neg hi, if_neg hi]
/-- What is scanned from a place on. -/
def scan (l : List Nat) (i torn : Nat) : List R × Nat := scanF l (l.length - i) i torn
theorem scan_end (l : List Nat) (i torn : Nat) (h : l.length ≤ i) : scan l i torn = ([], torn) := by
  unfold scan
  rw [show l.length - i = 0 by omega, scanF]
theorem scan_skip (l : List Nat) (i torn : Nat) (h : i < l.length) (hr : rightB (l.drop i) = false) : scan l i torn = scan l (i + 1) torn := by
  unfold scan
  rw [show l.length - i = (l.length - (i + 1)) + 1 by omega, scanF, if_pos h, if_neg (by rw [hr]; simp)]
theorem scan_torn (l : List Nat) (i torn : Nat) (h : i < l.length) (hr : rightB (l.drop i) = true) (ht : l.length < i + 44 + numOf4 (l.drop i)) : scan l i torn = ([], i) := by
  unfold scan
  rw [show l.length - i = (l.length - (i + 1)) + 1 by omega, scanF, if_pos h, if_pos hr, if_pos ht]
theorem scan_rec (l : List Nat) (i torn e : Nat) (h : i < l.length) (hr : rightB (l.drop i) = true) (he : e = i + 44 + numOf4 (l.drop i)) (ht : e ≤ l.length) (hd : dig (payOf l i) = told l i) : scan l i torn = (recOf l i :: (scan l e e).1, (scan l e e).2) := by
  subst he
  unfold scan
  rw [show l.length - i = (l.length - (i + 1)) + 1 by omega, scanF, if_pos h, if_pos hr, if_neg (by omega)]
  simp only []
  rw [if_pos hd, scanF_more l (l.length - (i + 1)) (l.length - (i + 44 + numOf4 (l.drop i))) _ _ (by omega) (by omega)]
theorem scan_bad (l : List Nat) (i torn e : Nat) (h : i < l.length) (hr : rightB (l.drop i) = true) (he : e = i + 44 + numOf4 (l.drop i)) (ht : e ≤ l.length) (hd : dig (payOf l i) ≠ told l i) : scan l i torn = scan l e e := by
  subst he
  unfold scan
  rw [show l.length - i = (l.length - (i + 1)) + 1 by omega, scanF, if_pos h, if_pos hr, if_neg (by omega)]
  simp only []
  rw [if_neg hd, scanF_more l (l.length - (i + 1)) (l.length - (i + 44 + numOf4 (l.drop i))) _ _ (by omega) (by omega)]
theorem right_long {l : List Nat} {i : Nat} (hr : rightB (l.drop i) = true) : i + 44 ≤ l.length ∧ numOf4 (l.drop i) ≤ 30000 := by
  unfold rightB at hr
  rw [decide_eq_true_eq] at hr
  have := hr.1
  simp at this
  exact ⟨by omega, hr.2.2.2.2.1⟩
theorem nx_none (l : List Nat) (torn : Nat) : ∀ f i, f + i = l.length → nx l f i = none → scan l i torn = ([], torn) := by
  intro f
  induction f with
  | zero => intro i hi _; exact scan_end l i torn (by omega)
  | succ f ih =>
    intro i hi hn
    rw [nx] at hn
    by_cases hr : rightB (l.drop i) = true
    · rw [if_pos hr] at hn; cases hn
    · rw [if_neg hr] at hn
      rw [scan_skip l i torn (by omega) (by simpa using hr)]
      exact ih (i + 1) (by omega) hn
theorem nx_some (l : List Nat) (torn j : Nat) : ∀ f i, f + i = l.length → nx l f i = some j → scan l i torn = scan l j torn ∧ i ≤ j ∧ j < l.length ∧ rightB (l.drop j) = true := by
  intro f
  induction f with
  | zero => intro i hi hn; cases hn
  | succ f ih =>
    intro i hi hn
    rw [nx] at hn
    by_cases hr : rightB (l.drop i) = true
    · rw [if_pos hr] at hn
      cases hn
      exact ⟨rfl, Nat.le_refl _, by omega, hr⟩
    · rw [if_neg hr] at hn
      obtain ⟨h1, h2, h3, h4⟩ := ih (i + 1) (by omega) hn
      exact ⟨by rw [scan_skip l i torn (by omega) (by simpa using hr), h1], by omega, h3, h4⟩

/-- A record, and where its payload lies. -/
structure X where
  r : R
  A : Option Addr
  n : Nat
  c : Nat
def X.cells (x : X) : List Value := [.int .i64 (x.r.at_ : Nat), .int .i64 (x.r.kind : Nat), .slice x.A x.n x.c]
def cellsX (xs : List X) : List Value := xs.flatMap X.cells
theorem cellsX_append (a b : List X) : cellsX (a ++ b) = cellsX a ++ cellsX b := by simp [cellsX]
/-- A list of records, on a row of the call's own. -/
def Recs (B : Nat) (E : TypeId) (w : World) (v : Value) (xs : List X) : Prop :=
  w.ownsRow B E 3 v xs.length (cellsX xs) ∧ ∀ x ∈ xs, Bytes w x.A x.n x.r.pay ∧ ∀ ad, x.A = some ad → 0 < x.n → v.ownBlock ≠ some ad.block
theorem Recs.nil (B : Nat) (E : TypeId) (w : World) : Recs B E w (.slice none 0 0) [] := ⟨⟨rfl, .inl ⟨rfl, rfl⟩⟩, by simp⟩
theorem Recs.below {B : Nat} {E : TypeId} {w w' : World} {v : Value} {xs : List X} (h : Recs B E w v xs) (hb : Below w.heap.size w w') : Recs B E w' v xs :=
  ⟨h.1.kept (row := none) ⟨hb.os, hb.tape, hb.output, hb.size, fun i hi _ => hb.block i hi⟩ (by cases hv : v.ownBlock <;> simp), fun x hx => ⟨(h.2 x hx).1.below (h.2 x hx).1.lt hb, (h.2 x hx).2⟩⟩
theorem Recs.alloc {B : Nat} {E : TypeId} {w : World} {v : Value} {xs : List X} (h : Recs B E w v xs) (o : Obj) : Recs B E (w.alloc o) v xs := h.below ((Below.refl _ _).alloc (Nat.le_refl _) _)
theorem Recs.drewN {B : Nat} {E : TypeId} {w : World} {v : Value} {xs : List X} (h : Recs B E w v xs) (q : Nat) : Recs B E (w.drewN q) v xs := h.below (codec.below_draws (Below.refl _ _) q)
theorem Recs.more {B : Nat} {E : TypeId} {w w' : World} {v v' : Value} {xs : List X} {x : X} (h : Recs B E w v xs) (ho : w'.ownsRow B E 3 v' (xs.length + 1) (cellsX xs ++ x.cells)) (hg : w.grownBy w' v.ownBlock) (hat : v'.ownBlock = v.ownBlock ∨ v'.ownBlock = some w.heap.size)
    (hB : Bytes w x.A x.n x.r.pay) (hA : ∀ ad, x.A = some ad → 0 < x.n → v.ownBlock ≠ some ad.block) : Recs B E w' v' (xs ++ [x]) := by
  have key : ∀ y : X, Bytes w y.A y.n y.r.pay → (∀ ad, y.A = some ad → 0 < y.n → v.ownBlock ≠ some ad.block) → Bytes w' y.A y.n y.r.pay ∧ ∀ ad, y.A = some ad → 0 < y.n → v'.ownBlock ≠ some ad.block := by
    intro y hy hne
    refine ⟨hy.kept fun ad e h0 => hg.block _ (hy.lt ad e h0) (fun e' => hne ad e h0 e'.symm), fun ad e h0 e' => ?_⟩
    rcases hat with ha | ha
    · exact hne ad e h0 (ha ▸ e')
    · rw [ha] at e'
      have h1 := hy.lt ad e h0
      have h2 := Option.some.inj e'
      omega
  refine ⟨?_, fun y hy => ?_⟩
  · rw [cellsX_append, List.length_append]
    simpa [cellsX] using ho
  · rcases List.mem_append.1 hy with hy | hy
    · exact key y (h.2 y hy).1 (h.2 y hy).2
    · simp at hy
      subst hy
      exact key _ hB hA
theorem infoP : (Tryz.prog.info? 282).map (fun i => (i.zero, i.size, i.bytes)) = some (some (.agg #[.int .i64 0, .int .i64 0, .slice none 0 0]), 3, 40) := by kernel_rfl
theorem lit_cells {w : World} (x : X) (t : TypeId) (m : Nat × Nat) {g : Nat} (hg : g = w.heap.size) : ∀ j u, x.cells[j]? = some u → (w.alloc (.cells x.cells.toArray t m)).cell? ((⟨g, 0, none⟩ : Addr).add j) = some u := by
  intro j u hu
  subst hg
  rw [codec.add_none, Nat.zero_add, World.cell?_alloc_mark]
  simpa using hu
/-- A record put behind records of the call's own. -/
theorem run_append_rec (T E : TypeId) (hT : Tryz.prog.underlying T = some (.slice E)) (hE : (Tryz.prog.info? E).map (fun i => (i.zero, i.size, i.bytes)) = some (some (.agg #[.int .i64 0, .int .i64 0, .slice none 0 0]), 3, 40))
    (w : World) (ty : TypeId) (B : Nat) (v : Value) (xs : List X) (h : Recs B E w v xs) (hB : B ≤ w.heap.size) (hn : xs.length ≤ 20000000) (x : X) (m : Nat × Nat) (g : Nat) (hg : g = w.heap.size)
    (hx : Bytes w x.A x.n x.r.pay) (hA : ∀ ad, x.A = some ad → 0 < x.n → v.ownBlock ≠ some ad.block) :
    ∃ v' w', (Builtin.append_ #[T, T] ty #[v, .slice (some ⟨g, 0, none⟩) 1 1]).run Tryz.prog (w.alloc (.cells x.cells.toArray E m)) = .ok v' w' ∧ Recs B E w' v' (xs ++ [x]) ∧ Below B w w' := by
  obtain ⟨i0, hi, hz0, hz1, hz2⟩ := info_parts hE
  have ha := h.alloc (.cells x.cells.toArray E m)
  obtain ⟨v', w', hr, h1, h2, h3, h4⟩ := run_append_own_at (P := Tryz.prog) (w.alloc (.cells x.cells.toArray E m)) B T ty E i0 _ 3 40 hT hi hz0 hz1 hz2 rfl (by decide) v xs.length (cellsX xs) ha.1 ⟨g, 0, none⟩ 1 1 x.cells rfl (lit_cells x E m hg) (by
    intro u hu
    simp [X.cells] at hu
    rcases hu with rfl | rfl | rfl <;> rfl) (by unfold maxLen; omega) (by omega) (by simp; omega)
  refine ⟨v', w', hr, ha.more h1 h2 h4 (hx.alloc _) hA, ((Below.refl B w).alloc hB _).trans ⟨h2.os, h2.tape, h2.output, h2.size, fun k hk => h2.block k (by simp; omega) (fun e => ?_)⟩⟩
  have := (h.1.lt _ e.symm).1
  omega
theorem step_append_rec {ops : Array Oper} {o : Oper} {a : Act} {w : World} {K : Act → World → Prop} {Q : Exit → Act → World → Prop} {F : Prop} (hgd : o.guard = none) (s y : Operand) (T E : TypeId)
    (ho : o.op = .call { callee := .builtin .append, args := #[s, y], argTypes := #[T, T] }) (hT : Tryz.prog.underlying T = some (.slice E)) (hE : (Tryz.prog.info? E).map (fun i => (i.zero, i.size, i.bytes)) = some (some (.agg #[.int .i64 0, .int .i64 0, .slice none 0 0]), 3, 40))
    (B : Nat) (v : Value) (xs : List X) (hs : a.eval s = v) (h : Recs B E w v xs) (hB : B ≤ w.heap.size) (hn : xs.length ≤ 20000000) (x : X) (m : Nat × Nat) (g : Nat) (hg : g = w.heap.size) (hy : a.eval y = .slice (some ⟨g, 0, none⟩) 1 1)
    (hx : Bytes w x.A x.n x.r.pay) (hA : ∀ ad, x.A = some ad → 0 < x.n → v.ownBlock ≠ some ad.block)
    (hK : ∀ v' w', Recs B E w' v' (xs ++ [x]) → Below B w w' → K (a.put o.dst v') w') : if Region.wanted o (yielded ops a.tmps) = true then Oper.wp Tryz.prog o a (w.alloc (.cells x.cells.toArray E m)) K Q else F := by
  obtain ⟨v', w', hr, h1, h2⟩ := run_append_rec T E hT hE w o.type B v xs h hB hn x m g hg hx hA
  have hw : Region.wanted o (yielded ops a.tmps) = true := by simp [Region.wanted, hgd]
  rw [if_pos hw]
  unfold Oper.wp execOp
  simp only [ho, resolve, invoke, builtin, Sem.run_bind, Sem.run_pure, Result.andThen_ok, List.map_toArray, List.map_cons, List.map_nil, hs, hy, hr]
  exact hK v' w' h1 h2
theorem sizeof5 (w : World) : (sizeOf 5).run Tryz.prog w = .ok 1 w := by kernel_rfl
theorem eq_bytes (w : World) (a b : List Nat) (ha : a.length = 32) (hb : b.length = 32) (la : ∀ x ∈ a, x < 256) (lb : ∀ x ∈ b, x < 256) : (Op.equalIn 10000 273 (.agg (vals a).toArray) (.agg (vals b).toArray)).run Tryz.prog w = .ok (decide (a = b)) w := by
  have e : ∀ d : List Nat, (∀ x ∈ d, x < 256) → vals d = (d.map UInt8.ofNat).map Extern.Stop.cell := by
    intro d hd
    unfold vals
    rw [List.map_map]
    refine List.map_congr_left fun x hx => ?_
    have := hd x hx
    simp [Extern.Stop.cell, Nat.mod_eq_of_lt this]
  rw [e a la, e b lb, run_equalIn_bytes w 9998 273 5 32 Tryz.underlying273 Tryz.underlying5 sizeof5 _ _ (by simp [ha]) (by simp [hb])]
  congr 1
  rw [Bool.eq_iff_iff, decide_eq_true_eq, beq_iff_eq]
  constructor
  · intro h
    have h2 := codec.strOf_inj (a := a) (b := b) la lb (by unfold codec.strOf; rw [h])
    exact h2
  · rintro rfl
    rfl
end Go.Proofs.YthhflkgngencdaaGreatDoor.frm
namespace Go.Proofs.YthhflkgngencdaaGreatDoor.frm
open Go.ChangeShapes Go.WideShapes Go.ChangeAt Go.RowKit
open Go.Proofs.YthhflkgngencdaaGreatDoor.codec (Bytes vals vals_append vals_length vals_one OutIs More Made New bytesOf byteAt bytesOf_length bytesOf_lt Fits strOf)
set_option linter.unusedVariables false
set_option maxRecDepth 100000
set_option linter.unusedSimpArgs false

theorem head_of_right {l : List Nat} {i : Nat} (hr : rightB (l.drop i) = true) : headL' (l.drop i) = headC ((l.drop i).getD 3 0) (numOf4 (l.drop i)) (told l i) ∧ (told l i).length = 32 := by
  have h := right_long hr
  exact ⟨by unfold headL' told; rw [if_pos hr], by simp [told]; omega⟩
theorem head_cells {w : World} {D k m : Nat} {d : List Nat} {t : TypeId} {fr : Nat × Nat} (h : w.heap[D]? = some (.cells (headC k m d) t fr)) : w.cell? ⟨D, 0, none⟩ = some (.int .i64 k) ∧ w.cell? ⟨D, 1, none⟩ = some (.int .i64 m) ∧ w.rangeAt D 2 (vals d) := by
  refine ⟨by rw [cell_of_row _ _ _ _ _ _ h]; rfl, by rw [cell_of_row _ _ _ _ _ _ h]; rfl, fun j v hv => ?_⟩
  rw [cell_of_row _ _ _ _ _ _ h]
  unfold headC
  rw [show 2 + j = j + 1 + 1 by omega]
  simpa using hv
theorem range_below {w w' : World} {D o : Nat} {cs : List Value} (h : Below w.heap.size w w') (hD : D < w.heap.size) (hr : w.rangeAt D o cs) : w'.rangeAt D o cs := fun j v hv => by
  have := hr j v hv
  rw [← this]
  exact h.cell (p := ⟨D, o + j, none⟩) hD
/-- What is scanned goes into a list of one's own. -/
def Found (W : World) (E : TypeId) (l : List Nat) (v : Value) (torn : Nat) (w : World) : Prop := ∃ xs : List X, Recs W.heap.size E w v xs ∧ Below W.heap.size W w ∧ scan l 0 0 = (xs.map X.r, torn)
/-- What was found ahead of a place. -/
def Sofar (W : World) (E : TypeId) (l : List Nat) (v : Value) (k t : Nat) (w : World) : Prop := ∃ xs : List X, Recs W.heap.size E w v xs ∧ Below W.heap.size W w ∧ xs.length ≤ k ∧ scan l 0 0 = (xs.map X.r ++ (scan l k t).1, (scan l k t).2)
theorem Sofar.below {W w w' : World} {E : TypeId} {l : List Nat} {v : Value} {k t : Nat} (h : Sofar W E l v k t w) (hb : Below w.heap.size w w') : Sofar W E l v k t w' := by
  obtain ⟨xs, h1, h2, h3, h4⟩ := h
  exact ⟨xs, h1.below hb, h2.trans (hb.mono h2.size), h3, h4⟩
theorem Sofar.bel {W w : World} {E : TypeId} {l : List Nat} {v : Value} {k t : Nat} (h : Sofar W E l v k t w) : Below W.heap.size W w := by
  obtain ⟨xs, h1, h2, h3, h4⟩ := h
  exact h2
theorem Sofar.found {W w : World} {E : TypeId} {l : List Nat} {v : Value} {k t torn : Nat} (h : Sofar W E l v k t w) (hs : scan l k t = ([], torn)) : Found W E l v torn w := by
  obtain ⟨xs, h1, h2, h3, h4⟩ := h
  rw [hs] at h4
  exact ⟨xs, h1, h2, by simpa using h4⟩
theorem Sofar.on {W w : World} {E : TypeId} {l : List Nat} {v : Value} {k t k' t' : Nat} (h : Sofar W E l v k t w) (hk : k ≤ k') (hs : scan l k t = scan l k' t') : Sofar W E l v k' t' w := by
  obtain ⟨xs, h1, h2, h3, h4⟩ := h
  exact ⟨xs, h1, h2, by omega, by rw [← hs]; exact h4⟩
theorem sofar_start (W : World) (E : TypeId) (l : List Nat) : Sofar W E l (.slice none 0 0) 0 0 W := ⟨[], Recs.nil _ _ _, Below.refl _ _, by simp, by simp⟩

theorem pay_bytes {w : World} {b o n i m : Nat} {l : List Nat} {Ap : Addr} (h : Bytes w (some ⟨b, o, none⟩) n l) (hm : m = numOf4 (l.drop i)) (hi : i + 44 + m ≤ n) (hA : 0 < m → Ap = ⟨b, o + (i + 44), none⟩) : Bytes w (some Ap) m (payOf l i) := by
  unfold payOf
  rw [← hm]
  rcases Nat.eq_zero_or_pos m with h0 | h0
  · rw [h0, List.take_zero]
    exact ⟨rfl, by simp, fun h => absurd h (by omega)⟩
  · rw [hA h0]
    exact bytes_take (bytes_drop h (i + 44) (by omega)) m (by omega)
theorem copied_recs {W w5 w6 : World} {E : TypeId} {v : Value} {xs : List X} {A : Option Addr} {m : Nat} {p : List Nat} (h1 : Recs W.heap.size E w5.drew v xs) (h2 : Below W.heap.size W w5) (hp : Bytes w5.drew A m p) (hw : w6 = w5.drew.alloc (.cells (vals p).toArray 5)) :
    Recs W.heap.size E w6 v xs ∧ Bytes w6 (some ⟨w5.drew.heap.size, 0, none⟩) m p ∧ W.heap.size ≤ w6.heap.size ∧ (∀ ad, (some ⟨w5.drew.heap.size, 0, none⟩ : Option Addr) = some ad → 0 < m → v.ownBlock ≠ some ad.block) ∧ Below W.heap.size W w6 := by
  subst hw
  have hb : Below W.heap.size W w5.drew := ⟨h2.os, h2.tape, h2.output, h2.size, h2.block⟩
  refine ⟨h1.alloc _, lit_at w5.drew p hp.2.1 _ _ rfl hp.1, Nat.le_trans hb.size (by simp), fun ad e _ e' => ?_, hb.alloc hb.size _⟩
  cases e
  exact absurd (h1.1.lt _ e').2 (Nat.lt_irrefl _)
theorem cell_new {w5 w6 : World} {D i : Nat} {ob : Obj} (hD : D < w5.heap.size) (hw : w6 = w5.drew.alloc ob) : w6.cell? ⟨D, i, none⟩ = w5.drew.cell? ⟨D, i, none⟩ := by
  subst hw
  exact World.cell?_alloc_lt _ _ _ hD
theorem sofar_rec {W w : World} {E : TypeId} {l : List Nat} {v : Value} {xs : List X} {A : Option Addr} {i k e m c kd : Nat} (hr : Recs W.heap.size E w v (xs ++ [⟨⟨i, kd, payOf l i⟩, A, m, c⟩])) (hb : Below W.heap.size W w) (hx : xs.length ≤ i) (hk : i < e)
    (h4 : scan l 0 0 = (xs.map X.r ++ (scan l i k).1, (scan l i k).2)) (hc : scan l i k = (recOf l i :: (scan l e e).1, (scan l e e).2)) (hkd : kd = (l.drop i).getD 3 0) : Sofar W E l v e e w := by
  subst hkd
  refine ⟨_, hr, hb, by simp; omega, ?_⟩
  rw [h4, hc]
  simp [recOf]
set_option maxHeartbeats 2000000 in
theorem scan_any (W : World) (A : Option Addr) (n c : Nat) (l : List Nat) (hB : Bytes W A n l) (hc : n ≤ c) (hnm : n ≤ 16000000) (hL : sumDoor.Laid W) :
    Calls Tryz.prog 174 #[.slice A n c] W fun e w' => ∃ v torn, e = .returned (.tuple #[v, .int .i64 (torn : Nat)]) ∧ Found W 282 l v torn w' := by
  have HB := Lib.hid hB
  have HL := Lib.hid hL
  have HS := Lib.hid (sofar_start W 282 l)
  have HZ := Lib.hid (sizeL [])
  clear hB hL
  go_enter Tryz.func174, Tryz.ntmps174
  go_wp2
  go_loopw [4, 5] (fun v d wr => ∃ k : Nat, k ≤ n ∧ d = .int .i64 k ∧ Sofar W 282 l v k k wr) (fun _ d _ => n - (intOf d).toNat)
  case atStart => exact ⟨0, Nat.zero_le _, rfl, HS.out⟩
  case round =>
    clear HS
    obtain ⟨k, hk, rfl, hso⟩ := hrel
    have HSo := Lib.hid hso
    clear hso
    by_cases hlt : k < n
    · have HNH := Lib.hid (nextHead_any wr A n c k l (HB.out.below HB.out.lt HSo.out.bel) hc hnm hk)
      cases hnx : nx l (n - k) k with
      | none =>
        have HF := Lib.hid (HSo.out.found (nx_none l k (n - k) k (by rw [HB.out.1]; omega) hnx))
        rw [hnx] at HNH
        clear hnx
        go_wp2_with (first
          | (go_at_call 203; refine (HNH.out _ rfl).mono ?_; rintro e w1 ⟨rfl, hb⟩; have HB1 := Lib.hid hb; clear hb)
          | (refine wpList_store_row rfl 278 (.tmp 7) (.tmp 20) rfl w1.heap.size zeroC rfl rfl 278 zeroC (heap_alloc_new w1 (.cells zeroC 278)) (size57 0 0 (List.replicate 32 0) (by simp)) rfl (all_head 0 0 (List.replicate 32 0)) ?_; rw [World.setRow_alloc_new]; have HB2 := Lib.hid (HB1.out.alloc HB1.out.size (.cells zeroC 278)); generalize w1.alloc (.cells zeroC 278) = w2 at *))
        go_ret2
        obtain ⟨xs, h1, h2, h3⟩ := HF.out
        exact ⟨_, k, rfl, xs, h1.below HB2.out, h2.trans (HB2.out.mono h2.size), h3⟩
      | some i =>
        obtain ⟨hsk, hki, hin, hr⟩ := nx_some l k i (n - k) k (by rw [HB.out.1]; omega) hnx
        obtain ⟨hhd, hdl⟩ := head_of_right hr
        obtain ⟨hlong, hm3⟩ := right_long hr
        rw [HB.out.1] at hin hlong
        rw [hnx] at HNH
        simp only [hhd] at HNH
        clear hnx hhd
        obtain ⟨m, hm⟩ : ∃ m, m = numOf4 (l.drop i) := ⟨_, rfl⟩
        rw [← hm] at HNH hm3
        obtain ⟨kd, hkd⟩ : ∃ kd, kd = (l.drop i).getD 3 0 := ⟨_, rfl⟩
        rw [← hkd] at HNH
        obtain ⟨d, hd⟩ : ∃ d, d = told l i := ⟨_, rfl⟩
        rw [← hd] at HNH hdl
        have HP := Lib.hid (size57 kd m d hdl)
        have HA := Lib.hid (all_head kd m d)
        have HZc := Lib.hid (show zeroC.size = (headC kd m d).size by rw [headC_size _ _ _ hdl]; rfl)
        have HM := Lib.hid hm
        have HKd := Lib.hid hkd
        have HD := Lib.hid hd
        have HDl := Lib.hid hdl
        have HR := Lib.hid hr
        have HSk := Lib.hid hsk
        obtain ⟨b, o, rfl, -⟩ := HB.out.2.2 (by omega)
        clear hm hkd hd hdl hr hsk
        by_cases ht : n < i + 44 + m
        · have HF := Lib.hid ((HSo.out.on hki HSk.out).found (scan_torn l i k (by rw [HB.out.1]; omega) HR.out (by rw [HB.out.1, ← HM.out]; omega)))
          go_wp2_with (first
            | (go_at_call 203; refine (HNH.out _ rfl).mono ?_; rintro e w1 ⟨rfl, hb⟩; have HB1 := Lib.hid hb; clear hb)
            | (refine wpList_store_row rfl 278 (.tmp 7) (.tmp 20) rfl w1.heap.size (headC kd m d) rfl rfl 278 zeroC (heap_alloc_new w1 (.cells zeroC 278)) HP.out HZc.out HA.out ?_; rw [World.setRow_alloc_new]; have HB2 := Lib.hid (HB1.out.alloc HB1.out.size (.cells (headC kd m d) 278)); obtain ⟨c0, c1, -⟩ := head_cells (heap_alloc_new w1 (.cells (headC kd m d) 278)); generalize w1.alloc (.cells (headC kd m d) 278) = w2 at *; generalize w1.heap.size = D at *))
          go_ret2
          obtain ⟨xs, h1, h2, h3⟩ := HF.out
          exact ⟨_, i, rfl, xs, h1.below HB2.out, h2.trans (HB2.out.mono h2.size), h3⟩
        · have ht' : i + 44 + m ≤ n := by omega
          by_cases hci : c = i + 44
          · have HM0 : Hid (m = 0) := show m = 0 by omega
            have HCi := Lib.hid hci
            have h0 : c - (i + 44) = 0 := by omega
            clear hci
            go_wp2_with (first
              | (go_at_call 203; refine (HNH.out _ rfl).mono ?_; rintro e w1 ⟨rfl, hb⟩; have HB1 := Lib.hid hb; clear hb)
              | (refine wpList_store_row rfl 278 (.tmp 7) (.tmp 20) rfl w1.heap.size (headC kd m d) rfl rfl 278 zeroC (heap_alloc_new w1 (.cells zeroC 278)) HP.out HZc.out HA.out ?_; rw [World.setRow_alloc_new]; have HB2 := Lib.hid (HB1.out.alloc HB1.out.size (.cells (headC kd m d) 278)); obtain ⟨c0, c1, cr⟩ := head_cells (heap_alloc_new w1 (.cells (headC kd m d) 278)); have HCr := Lib.hid cr; clear cr; generalize w1.alloc (.cells (headC kd m d) 278) = w2 at *; generalize w1.heap.size = D at *))
            rw [show i + 44 + m - (i + 44) = m by omega]
            have HPB : Hid (∀ w', Below W.heap.size W w' → Bytes w' (some ⟨b, o, none⟩) m (payOf l i)) := fun w' h => pay_bytes (HB.out.below HB.out.lt h) HM.out ht' (fun h => absurd HM0.out (by omega))
            have HCp : Hid (m ≤ c - (i + 44)) := by have := HM0.out; show m ≤ _; omega
            clear HM0 HCi h0
            generalize c - (i + 44) = cp at *
            have hso2 := (HSo.out.on hki HSk.out).below HB2.out
            have HSo2 := Lib.hid hso2
            have HSM := Lib.hid (show ∀ w', Below w2.heap.size w2 w' → Calls Tryz.prog 200 #[.slice (some ⟨b, o, none⟩) m cp] w' fun e w'' => e = .returned (.agg (vals (dig (payOf l i))).toArray) ∧ Below w2.heap.size w2 w'' from fun w' h => (dig_prog w' (some ⟨b, o, none⟩) m cp _ (HPB.out w' (HSo2.out.bel.trans (h.mono HSo2.out.bel.size))) (by omega) HCp.out (HL.out.below HL.out.lt (HSo2.out.bel.trans (h.mono HSo2.out.bel.size)))).mono fun e w'' h2 => ⟨h2.1, h.trans (h2.2.mono h.size)⟩)
            have HEq := Lib.hid (fun w' => eq_bytes w' (dig (payOf l i)) d (dig_length _) HDl.out (dig_lt _) (by rw [HD.out]; exact fun x hx => HB.out.2.1 x (List.mem_of_mem_drop (List.mem_of_mem_drop (List.mem_of_mem_take hx)))))
            have hDl : D < w2.heap.size := block_lt_of_cell c0
            have HDL := Lib.hid hDl
            have h54 := Tryz.underlying273
            have hsz : (Tryz.prog.info? 273).map (·.size) = some (vals d).length := by have := size54 d HDl.out; simpa using this
            obtain ⟨bb, hbb⟩ : ∃ bb, bb = decide (dig (payOf l i) = d) := ⟨_, rfl⟩
            rw [← hbb] at HEq
            have HBB := Lib.hid hbb
            clear hso2 hDl hbb HNH
            obtain ⟨e, he⟩ : ∃ e, e = i + 44 + m := ⟨_, rfl⟩
            have HE := Lib.hid he
            have hen : e ≤ n := by omega
            have ee : ((i : Int) + 44 + (m : Int)) = (e : Nat) := by omega
            rw [ee]
            have hik : k < e := by omega
            have hie : i < e := by omega
            clear he ee ht ht'
            refine wp_region_noPanic ?_
            refine wp_region_held_drew (S := fun w' => Below w2.heap.size w2 w') (by kernel_rfl) (codec.below_draws (Below.refl _ _) 1) (fun hHeld => ?_)
            refine wpAnyH_take (i := 0) (v := .slice (some ⟨b, o, none⟩) m cp) rfl (by kernel_rfl) (by kernel_rfl) (by kernel_rfl) (fun _ _ _ h => h) (Or.inl ⟨by rfl, fun w' _ => by go_simp⟩) hHeld ?_
            refine wpAnyH_take (i := 2) (v := .pointer (some ⟨D, 2, none⟩)) rfl (by kernel_rfl) (by kernel_rfl) (by kernel_rfl) (fun _ _ _ h => h) (Or.inl ⟨by rfl, fun w' _ => by go_simp⟩) hHeld ?_
            refine wpAnyH_take (i := 3) (v := .agg (vals d).toArray) rfl (by kernel_rfl) (by kernel_rfl) (by kernel_rfl) (fun _ _ _ h => h) (yieldsIf_load_mid (by rfl) 273 (.tmp 47) rfl D 2 rfl (vals d) _ (fun _ hw => range_below hw HDL.out HCr.out) h54 rfl hsz) hHeld ?_
            refine wpAnyH_ready (rs := [1]) (by kernel_rfl) (by simp) ?_
            refine AllReadyH.cons rfl (fun K hK => ?_) AllReadyH.nil
            go_simp
            refine (HSM.out _ hHeld).mono ?_
            rintro e5 w5 ⟨rfl, hb5⟩
            go_wp2_with fail
            refine hK.out _ _ hb5 (fun hH5 => ?_)
            clear hK K hHeld
            have hq := HEq.out
            refine wpAnyH_take (i := 4) (v := .bool bb) rfl (by kernel_rfl) (by kernel_rfl) (by kernel_rfl) (fun _ _ _ h => h) (Or.inl ⟨by rfl, fun w' _ => by go_simp⟩) hH5 ?_
            refine wpAnyH_done (by kernel_rfl) ?_ _
            refine NoPanic.normal ?_
            have HSo5 := Lib.hid (HSo2.out.below hH5)
            have d0 : w5.cell? ⟨D, 0, none⟩ = some (.int .i64 kd) := by rw [← c0]; exact hH5.cell (p := ⟨D, 0, none⟩) HDL.out
            clear hq hH5 HSM HEq HSo2 HB2 c0 c1 HCr hb5
            cases bb with
            | false =>
              have hne : dig (payOf l i) ≠ told l i := by
                have := HBB.out
                rw [HD.out] at this
                simpa using this.symm
              have HSo6 := Lib.hid (HSo5.out.on (k' := e) (t' := e) (by omega) (scan_bad l i k e (by rw [HB.out.1]; omega) HR.out (by rw [← HM.out]; exact HE.out) (by rw [HB.out.1]; exact hen) hne))
              clear hne
              go_wp2_with fail
              go_roundw
              case rel => ((repeat apply Exists.intro); exact ⟨⟨e, hen, rfl, HSo6.out⟩, rfl⟩)
              case measure => (show n - e < n - k; omega)
            | true =>
              have heq : dig (payOf l i) = told l i := by
                have := HBB.out
                rw [HD.out] at this
                simpa using this.symm
              have HSc := Lib.hid (scan_rec l i k e (by rw [HB.out.1]; omega) HR.out (by rw [← HM.out]; exact HE.out) (by rw [HB.out.1]; exact hen) heq)
              obtain ⟨xs, r1, r2, r3, r4⟩ := HSo5.out
              have R1 := Lib.hid (show Recs W.heap.size 282 w5.drew u4 xs from r1.drewN 1)
              have R2 := Lib.hid r2
              have R3 := Lib.hid r3
              have R4 := Lib.hid r4
              have HPb := Lib.hid (show Bytes w5.drew _ m (payOf l i) from (HPB.out w5 r2).drewN 1)
              have d1 : w5.drew.cell? ⟨D, 0, none⟩ = some (.int .i64 kd) := d0
              have HDl5 := Lib.hid (block_lt_of_cell d0)
              clear heq r1 r2 r3 r4 HSo5
              go_wp2_with fail
              go_region_law (first
                | (refine step_append_rec rfl (.tmp 50) (.tmp 57) 242 282 rfl Tryz.underlying242 infoP W.heap.size u4 xs (by simp [Act.eval, Act.put]) HX6.out.1 HX6.out.2.2.1 (by have := R3.out; omega) ⟨⟨i, kd, payOf l i⟩, some ⟨G, 0, none⟩, m, m⟩ (0, 0) w6.heap.size rfl (by simp [Act.eval, Act.put]) HX6.out.2.1 HX6.out.2.2.2.1 ?_; intro v7 w7 hR7 hb7; have HR7 := Lib.hid hR7; have HB7 := Lib.hid (HX6.out.2.2.2.2.trans hb7); clear hR7 hb7)
                | (go_simp; go_at_call 204; refine (copied_any _ _ m cp _ HPb.out (by omega)).mono ?_; rintro e6 w6 ⟨rfl, hw6⟩; have HX6 := Lib.hid (copied_recs R1.out R2.out HPb.out hw6); have d6 : w6.cell? ⟨D, 0, none⟩ = some (.int .i64 kd) := (cell_new HDl5.out hw6).trans d1; obtain ⟨G, hG⟩ : ∃ G, G = w5.drew.heap.size := ⟨_, rfl⟩; rw [← hG] at HX6 ⊢; clear hw6 hG))
              all_goals
                have HSo7 : Hid (Sofar W 282 l v7 e e w7) := sofar_rec HR7.out HB7.out R3.out hie R4.out HSc.out HKd.out
                clear d0 d1 d6 HX6 HR7 HB7 R1 R2 R3 R4 HSc HPb HPB
                go_wp2
                go_roundw
                case rel => ((repeat apply Exists.intro); exact ⟨⟨e, hen, rfl, HSo7.out⟩, rfl⟩)
                case measure => (show n - e < n - k; omega)
          · go_wp2_with (first
              | (go_at_call 203; refine (HNH.out _ rfl).mono ?_; rintro e w1 ⟨rfl, hb⟩; have HB1 := Lib.hid hb; clear hb)
              | (refine wpList_store_row rfl 278 (.tmp 7) (.tmp 20) rfl w1.heap.size (headC kd m d) rfl rfl 278 zeroC (heap_alloc_new w1 (.cells zeroC 278)) HP.out HZc.out HA.out ?_; rw [World.setRow_alloc_new]; have HB2 := Lib.hid (HB1.out.alloc HB1.out.size (.cells (headC kd m d) 278)); obtain ⟨c0, c1, cr⟩ := head_cells (heap_alloc_new w1 (.cells (headC kd m d) 278)); have HCr := Lib.hid cr; clear cr; generalize w1.alloc (.cells (headC kd m d) 278) = w2 at *; generalize w1.heap.size = D at *))
            rw [show i + 44 + m - (i + 44) = m by omega]
            have HPB : Hid (∀ w', Below W.heap.size W w' → Bytes w' (some ⟨b, o + (i + 44), none⟩) m (payOf l i)) := fun w' h => pay_bytes (HB.out.below HB.out.lt h) HM.out ht' (fun _ => rfl)
            have HCp : Hid (m ≤ c - (i + 44)) := by show m ≤ _; omega
            clear hci
            generalize c - (i + 44) = cp at *
            have hso2 := (HSo.out.on hki HSk.out).below HB2.out
            have HSo2 := Lib.hid hso2
            have HSM := Lib.hid (show ∀ w', Below w2.heap.size w2 w' → Calls Tryz.prog 200 #[.slice (some ⟨b, o + (i + 44), none⟩) m cp] w' fun e w'' => e = .returned (.agg (vals (dig (payOf l i))).toArray) ∧ Below w2.heap.size w2 w'' from fun w' h => (dig_prog w' (some ⟨b, o + (i + 44), none⟩) m cp _ (HPB.out w' (HSo2.out.bel.trans (h.mono HSo2.out.bel.size))) (by omega) HCp.out (HL.out.below HL.out.lt (HSo2.out.bel.trans (h.mono HSo2.out.bel.size)))).mono fun e w'' h2 => ⟨h2.1, h.trans (h2.2.mono h.size)⟩)
            have HEq := Lib.hid (fun w' => eq_bytes w' (dig (payOf l i)) d (dig_length _) HDl.out (dig_lt _) (by rw [HD.out]; exact fun x hx => HB.out.2.1 x (List.mem_of_mem_drop (List.mem_of_mem_drop (List.mem_of_mem_take hx)))))
            have hDl : D < w2.heap.size := block_lt_of_cell c0
            have HDL := Lib.hid hDl
            have h54 := Tryz.underlying273
            have hsz : (Tryz.prog.info? 273).map (·.size) = some (vals d).length := by have := size54 d HDl.out; simpa using this
            obtain ⟨bb, hbb⟩ : ∃ bb, bb = decide (dig (payOf l i) = d) := ⟨_, rfl⟩
            rw [← hbb] at HEq
            have HBB := Lib.hid hbb
            clear hso2 hDl hbb HNH
            obtain ⟨e, he⟩ : ∃ e, e = i + 44 + m := ⟨_, rfl⟩
            have HE := Lib.hid he
            have hen : e ≤ n := by omega
            have ee : ((i : Int) + 44 + (m : Int)) = (e : Nat) := by omega
            rw [ee]
            have hik : k < e := by omega
            have hie : i < e := by omega
            clear he ee ht ht'
            refine wp_region_noPanic ?_
            refine wp_region_held_drew (S := fun w' => Below w2.heap.size w2 w') (by kernel_rfl) (codec.below_draws (Below.refl _ _) 1) (fun hHeld => ?_)
            refine wpAnyH_take (i := 0) (v := .slice (some ⟨b, o + (i + 44), none⟩) m cp) rfl (by kernel_rfl) (by kernel_rfl) (by kernel_rfl) (fun _ _ _ h => h) (Or.inl ⟨by rfl, fun w' _ => by go_simp⟩) hHeld ?_
            refine wpAnyH_take (i := 2) (v := .pointer (some ⟨D, 2, none⟩)) rfl (by kernel_rfl) (by kernel_rfl) (by kernel_rfl) (fun _ _ _ h => h) (Or.inl ⟨by rfl, fun w' _ => by go_simp⟩) hHeld ?_
            refine wpAnyH_take (i := 3) (v := .agg (vals d).toArray) rfl (by kernel_rfl) (by kernel_rfl) (by kernel_rfl) (fun _ _ _ h => h) (yieldsIf_load_mid (by rfl) 273 (.tmp 47) rfl D 2 rfl (vals d) _ (fun _ hw => range_below hw HDL.out HCr.out) h54 rfl hsz) hHeld ?_
            refine wpAnyH_ready (rs := [1]) (by kernel_rfl) (by simp) ?_
            refine AllReadyH.cons rfl (fun K hK => ?_) AllReadyH.nil
            go_simp
            refine (HSM.out _ hHeld).mono ?_
            rintro e5 w5 ⟨rfl, hb5⟩
            go_wp2_with fail
            refine hK.out _ _ hb5 (fun hH5 => ?_)
            clear hK K hHeld
            have hq := HEq.out
            refine wpAnyH_take (i := 4) (v := .bool bb) rfl (by kernel_rfl) (by kernel_rfl) (by kernel_rfl) (fun _ _ _ h => h) (Or.inl ⟨by rfl, fun w' _ => by go_simp⟩) hH5 ?_
            refine wpAnyH_done (by kernel_rfl) ?_ _
            refine NoPanic.normal ?_
            have HSo5 := Lib.hid (HSo2.out.below hH5)
            have d0 : w5.cell? ⟨D, 0, none⟩ = some (.int .i64 kd) := by rw [← c0]; exact hH5.cell (p := ⟨D, 0, none⟩) HDL.out
            clear hq hH5 HSM HEq HSo2 HB2 c0 c1 HCr hb5
            cases bb with
            | false =>
              have hne : dig (payOf l i) ≠ told l i := by
                have := HBB.out
                rw [HD.out] at this
                simpa using this.symm
              have HSo6 := Lib.hid (HSo5.out.on (k' := e) (t' := e) (by omega) (scan_bad l i k e (by rw [HB.out.1]; omega) HR.out (by rw [← HM.out]; exact HE.out) (by rw [HB.out.1]; exact hen) hne))
              clear hne
              go_wp2_with fail
              go_roundw
              case rel => ((repeat apply Exists.intro); exact ⟨⟨e, hen, rfl, HSo6.out⟩, rfl⟩)
              case measure => (show n - e < n - k; omega)
            | true =>
              have heq : dig (payOf l i) = told l i := by
                have := HBB.out
                rw [HD.out] at this
                simpa using this.symm
              have HSc := Lib.hid (scan_rec l i k e (by rw [HB.out.1]; omega) HR.out (by rw [← HM.out]; exact HE.out) (by rw [HB.out.1]; exact hen) heq)
              obtain ⟨xs, r1, r2, r3, r4⟩ := HSo5.out
              have R1 := Lib.hid (show Recs W.heap.size 282 w5.drew u4 xs from r1.drewN 1)
              have R2 := Lib.hid r2
              have R3 := Lib.hid r3
              have R4 := Lib.hid r4
              have HPb := Lib.hid (show Bytes w5.drew _ m (payOf l i) from (HPB.out w5 r2).drewN 1)
              have d1 : w5.drew.cell? ⟨D, 0, none⟩ = some (.int .i64 kd) := d0
              have HDl5 := Lib.hid (block_lt_of_cell d0)
              clear heq r1 r2 r3 r4 HSo5
              go_wp2_with fail
              go_region_law (first
                | (refine step_append_rec rfl (.tmp 50) (.tmp 57) 242 282 rfl Tryz.underlying242 infoP W.heap.size u4 xs (by simp [Act.eval, Act.put]) HX6.out.1 HX6.out.2.2.1 (by have := R3.out; omega) ⟨⟨i, kd, payOf l i⟩, some ⟨G, 0, none⟩, m, m⟩ (0, 0) w6.heap.size rfl (by simp [Act.eval, Act.put]) HX6.out.2.1 HX6.out.2.2.2.1 ?_; intro v7 w7 hR7 hb7; have HR7 := Lib.hid hR7; have HB7 := Lib.hid (HX6.out.2.2.2.2.trans hb7); clear hR7 hb7)
                | (go_simp; go_at_call 204; refine (copied_any _ _ m cp _ HPb.out (by omega)).mono ?_; rintro e6 w6 ⟨rfl, hw6⟩; have HX6 := Lib.hid (copied_recs R1.out R2.out HPb.out hw6); have d6 : w6.cell? ⟨D, 0, none⟩ = some (.int .i64 kd) := (cell_new HDl5.out hw6).trans d1; obtain ⟨G, hG⟩ : ∃ G, G = w5.drew.heap.size := ⟨_, rfl⟩; rw [← hG] at HX6 ⊢; clear hw6 hG))
              all_goals
                have HSo7 : Hid (Sofar W 282 l v7 e e w7) := sofar_rec HR7.out HB7.out R3.out hie R4.out HSc.out HKd.out
                clear d0 d1 d6 HX6 HR7 HB7 R1 R2 R3 R4 HSc HPb HPB
                go_wp2
                go_roundw
                case rel => ((repeat apply Exists.intro); exact ⟨⟨e, hen, rfl, HSo7.out⟩, rfl⟩)
                case measure => (show n - e < n - k; omega)
    · obtain rfl : k = n := by omega
      have HF := Lib.hid (HSo.out.found (scan_end l k k (by rw [HB.out.1]; omega)))
      go_wp2
      go_ret2
      exact ⟨_, k, rfl, HF.out⟩
end Go.Proofs.YthhflkgngencdaaGreatDoor.frm
namespace Go.Proofs.YthhflkgngencdaaGreatDoor.frm
open Go.ChangeShapes Go.WideShapes Go.ChangeAt Go.RowKit
open Go.Proofs.YthhflkgngencdaaGreatDoor.codec (Bytes vals vals_append vals_length vals_one OutIs More Made New bytesOf byteAt bytesOf_length bytesOf_lt Fits strOf)
set_option linter.unusedVariables false
set_option maxRecDepth 100000
set_option linter.unusedSimpArgs false

def No (W : World) (e : Ending) (w' : World) : Prop := e = .returned (.tuple #[.int .i64 0, .int .i64 0, .bool false]) ∧ Below W.heap.size W w'
theorem bytes_cell {w : World} {b o n : Nat} {l : List Nat} (h : Bytes w (some ⟨b, o, none⟩) n l) (i : Nat) (hi : i < n) : w.cell? ⟨b, o + i, none⟩ = some (.int .u8 (l.getD i 0 : Nat)) := by
  obtain ⟨b, o, e, hc⟩ := h.2.2 (by omega)
  cases e
  exact hc i hi
end Go.Proofs.YthhflkgngencdaaGreatDoor.frm
namespace Go.Proofs.YthhflkgngencdaaGreatDoor.frm
open Go.ChangeShapes Go.WideShapes Go.ChangeAt Go.RowKit
open Go.Proofs.YthhflkgngencdaaGreatDoor.codec (Bytes vals vals_append vals_length vals_one OutIs More Made New bytesOf byteAt bytesOf_length bytesOf_lt Fits strOf)
set_option linter.unusedVariables false
set_option maxRecDepth 100000
set_option linter.unusedSimpArgs false

theorem own_form {w : World} {B N : Nat} {v : Value} {M : List Nat} (h : w.ownsRow B 5 1 v M.length (vals M)) (hne : v ≠ .slice none 0 0) (hb : ∀ x ∈ M, x < 256) (hN : M.length = N) :
    ∃ g cap, v = .slice (some ⟨g, 0, none⟩) N cap ∧ B ≤ g ∧ Bytes w (some ⟨g, 0, none⟩) N M ∧ N ≤ cap := by
  subst hN
  rcases h.2 with ⟨e, _⟩ | ⟨g, cap, cur, e, hB, _, hc, _⟩
  · exact absurd e hne
  · subst e
    exact ⟨g, cap, rfl, hB, codec.own_bytes' h rfl hb, hc⟩

end Go.Proofs.YthhflkgngencdaaGreatDoor.frm
namespace Go.Proofs.YthhflkgngencdaaGreatDoor.frm
open Go.ChangeShapes Go.WideShapes Go.ChangeAt Go.RowKit
open Go.Proofs.YthhflkgngencdaaGreatDoor.codec (Bytes vals vals_append vals_length vals_one OutIs More Made New bytesOf byteAt bytesOf_length bytesOf_lt Fits strOf)
set_option linter.unusedVariables false
set_option maxRecDepth 100000
set_option linter.unusedSimpArgs false

/-- A slice that reads as records. -/
def Reads (w : World) (A : Option Addr) (n : Nat) (xs : List X) : Prop := xs.length = n ∧ ∀ k, k < n → ∃ b o x, A = some ⟨b, o, none⟩ ∧ xs[k]? = some x ∧ w.cell? ⟨b, o + k * 3, none⟩ = some (.int .i64 (x.r.at_ : Nat)) ∧ w.cell? ⟨b, o + k * 3 + 1, none⟩ = some (.int .i64 (x.r.kind : Nat)) ∧ w.cell? ⟨b, o + k * 3 + 2, none⟩ = some (.slice x.A x.n x.c) ∧ Bytes w x.A x.n x.r.pay
theorem Reads.take {w : World} {A : Option Addr} {n : Nat} {xs : List X} (h : Reads w A n xs) (m : Nat) (hm : m ≤ n) : Reads w A m (xs.take m) := by
  refine ⟨by rw [List.length_take, h.1]; omega, fun k hk => ?_⟩
  obtain ⟨b, o, x, h1, h2, h3⟩ := h.2 k (by omega)
  exact ⟨b, o, x, h1, by rw [List.getElem?_take, if_pos hk]; exact h2, h3⟩
theorem Reads.drewN {w : World} {A : Option Addr} {n : Nat} {xs : List X} (h : Reads w A n xs) (q : Nat) : Reads (w.drewN q) A n xs :=
  ⟨h.1, fun k hk => by
    obtain ⟨b, o, x, h1, h2, h3, h4, h5, h6⟩ := h.2 k hk
    exact ⟨b, o, x, h1, h2, h3, h4, h5, h6.drewN q⟩⟩
theorem cellsX_at : ∀ (xs : List X) (k : Nat) (x : X), xs[k]? = some x → (cellsX xs)[k * 3]? = some (.int .i64 (x.r.at_ : Nat)) ∧ (cellsX xs)[k * 3 + 1]? = some (.int .i64 (x.r.kind : Nat)) ∧ (cellsX xs)[k * 3 + 2]? = some (.slice x.A x.n x.c)
  | [], k, x, h => by simp at h
  | y :: ys, 0, x, h => by
    simp at h
    subst h
    exact ⟨rfl, rfl, rfl⟩
  | y :: ys, k + 1, x, h => by
    have := cellsX_at ys k x (by simpa using h)
    have e : ∀ j, (cellsX (y :: ys))[(k + 1) * 3 + j]? = (cellsX ys)[k * 3 + j]? := fun j => by
      rw [show (k + 1) * 3 + j = k * 3 + j + 3 by omega]
      rfl
    exact ⟨by rw [← this.1]; exact e 0, by rw [← this.2.1]; exact e 1, by rw [← this.2.2]; exact e 2⟩
theorem Recs.reads {B : Nat} {E : TypeId} {w : World} {v : Value} {xs : List X} (h : Recs B E w v xs) : ∃ A c, v = .slice A xs.length c ∧ xs.length ≤ c ∧ Reads w A xs.length xs := by
  rcases h.1.2 with ⟨e, h0⟩ | ⟨g, cap, cur, e, hB, hg, hc, _⟩
  · exact ⟨none, 0, by rw [h0]; exact e, by omega, rfl, fun k hk => by omega⟩
  · refine ⟨_, cap, e, hc, rfl, fun k hk => ?_⟩
    have hx : xs[k]? = some xs[k] := List.getElem?_eq_getElem hk
    obtain ⟨c0, c1, c2⟩ := cellsX_at xs k _ hx
    have key : ∀ j u, (cellsX xs)[j]? = some u → w.cell? ⟨g, 0 + j, none⟩ = some u := fun j u hu => by
      have := h.1.cells (g := g) (by rw [e]; rfl) j u hu
      rw [codec.add_none] at this
      exact this
    exact ⟨g, 0, xs[k], rfl, hx, key _ _ c0, by rw [Nat.add_assoc]; exact key _ _ c1, by rw [Nat.add_assoc]; exact key _ _ c2, (h.2 _ (List.getElem_mem hk)).1⟩
theorem scanF_length (l : List Nat) : ∀ f i t, i + (scanF l f i t).1.length ≤ max i l.length := by
  intro f
  induction f with
  | zero => intro i t; rw [scanF]; simp; omega
  | succ f ih =>
    intro i t
    rw [scanF]
    by_cases hi : i < l.length
    · rw [if_pos hi]
      by_cases hr : rightB (l.drop i) = true
      · rw [if_pos hr]
        by_cases ht : l.length < i + 44 + numOf4 (l.drop i)
        · rw [if_pos ht]
          simp
          omega
        · rw [if_neg ht]
          have := ih (i + 44 + numOf4 (l.drop i)) (i + 44 + numOf4 (l.drop i))
          simp only []
          split
          · simp only [List.length_cons]
            omega
          · omega
      · rw [if_neg hr]
        have := ih (i + 1) t
        omega
    · rw [if_neg hi]
      simp
      omega
theorem scan_length (l : List Nat) : (scan l 0 0).1.length ≤ l.length := by
  have := scanF_length l (l.length - 0) 0 0
  unfold scan
  omega
end Go.Proofs.YthhflkgngencdaaGreatDoor.frm
namespace Go.Proofs.YthhflkgngencdaaGreatDoor.bod
open Go.ChangeShapes Go.WideShapes Go.ChangeAt Go.RowKit
open Go.Proofs.YthhflkgngencdaaGreatDoor.codec (Bytes bytesOf bytesOf_length strOf strOf_size numOf)
open Go.Proofs.YthhflkgngencdaaGreatDoor.rd
set_option linter.unusedVariables false
set_option linter.unusedSimpArgs false
set_option maxRecDepth 100000

set_option maxHeartbeats 1000000 in
theorem decode2 (W : World) (A : Option Addr) (n c : Nat) (L : List Nat) (hB : Bytes W A n L) (hn : n ≤ 100000) (hr : Fit W) :
    Calls Tryz.prog 205 #[.int .i64 2, .slice A n c] W fun x w' => ∃ gg mm, mm = (octN L).length ∧ x = .returned (tup (ok2 L) #[.int .i64 2, .int .u32 (epN L), .string (TX (LF L)), .int .u32 (uidN L), .int .i64 (datN L), .int .i64 (flaN L), .slice (some ⟨gg, 0, none⟩) mm mm]) ∧ W.heap.size ≤ gg ∧ Bytes w' (some ⟨gg, 0, none⟩) mm (octN L) ∧ Below W.heap.size W w' := by
  obtain ⟨W1, hW1⟩ : ∃ W1, W1 = W.alloc (.cells zeroN 149) := ⟨_, rfl⟩
  have HBW := Lib.hid (show Below W.heap.size W W1 by rw [hW1]; exact (Below.refl _ _).alloc (Nat.le_refl _) _)
  have HWS := Lib.hid (show W.heap.size < W1.heap.size by rw [hW1]; simp)
  have HRC := Lib.hid (fun (w1 : World) (h : Below W1.heap.size W1 w1) => (boxed (w := W) (o := .cells zeroN 149) (w1 := w1) (by rw [← hW1]; exact h)).1)
  have HFit := Lib.hid (fun (w1 : World) (h : Below W1.heap.size W1 w1) => hr.below (HBW.out.trans (h.mono HBW.out.size)))
  have HNW := Lib.hid (rd_new W1 A n c L (hB.below hB.lt HBW.out) (by omega))
  have hb := hB.2.1
  have HL := Lib.hid hb
  have HEP := Lib.hid (ep_lt hb)
  have HW1 := Lib.hid hW1
  have HOK : Hid (ok2 L = (decide (LO L = some []) && formedB 2 (epN L) (TX (LF L)) (uidN L) (datN L) (flaN L) (octN L).length)) := rfl
  have hTX := tx_size (ltLF hb)
  have hF := fun w A n hr => formed_any w 2 (epN L) (uidN L) (TX (LF L)) (datN L) (flaN L) A n n (by omega) hr
  have HF0 := Lib.hid hF
  have HU := Lib.hid (uid_lt hb)
  have HLT := Lib.hid (ltLT hb)
  clear hW1 hB hn hr hb hF hTX
  go_enter Tryz.func205, Tryz.ntmps205
  go_wp2_with fail
  rw [show (#[.int .i64 0, .int .u32 0, .string ⟨#[]⟩, .int .u32 0, .int .i64 0, .int .i64 0, .slice none 0 0] : Array Value) = zeroN from rfl, ← HW1.out]
  refine HNW.out.mono ?_
  rintro x w1 ⟨q, g, rfl, hR1⟩
  have HR1 := Lib.hid hR1
  clear hR1 HNW
  go_wp2_with fail
  refine (rd_ep HR1.out).mono ?_
  rintro x w2 ⟨rfl, hR2⟩
  have HR2 := Lib.hid hR2
  have he := IntWalk.u32_in (epN L : Nat) (by have := HEP.out; omega)
  clear hR2 HR1
  go_wp2_with fail
  have HD2 := Lib.hid (dc_start HR2.out #[.int .i64 2, .int .u32 (epN L), .string ⟨#[]⟩, .int .u32 0, .int .i64 0, .int .i64 0, .slice none 0 0])
  generalize w2.alloc _ = w2' at *
  generalize w2.heap.size = b at *
  clear he HR2
  refine (dc_uid HD2.out).mono ?_
  rintro x w2a ⟨rfl, hD⟩
  have HDa := Lib.hid hD
  have e2 := HDa.out.cell 3 _ rfl
  have f2 := HDa.out.froz 3
  clear hD HD2
  have he := IntWalk.u32_in (uidN L : Nat) (by have := HU.out; omega)
  go_wp2_with fail
  have HD3 := Lib.hid (HDa.out.set (cs' := #[.int .i64 2, .int .u32 (epN L), .string ⟨#[]⟩, .int .u32 (uidN L), .int .i64 0, .int .i64 0, .slice none 0 0]) 3 (.int .u32 (uidN L)) rfl)
  generalize w2a.setCell ⟨b, 3, none⟩ (.int .u32 (uidN L)) = w3 at *
  clear HDa e2 f2
  clear he
  refine (dc_dat HD3.out).mono ?_
  rintro x w3a ⟨rfl, hD⟩
  have HDa := Lib.hid hD
  have e2 := HDa.out.cell 4 _ rfl
  have f2 := HDa.out.froz 4
  clear hD HD3
  go_wp2_with fail
  have HD4 := Lib.hid (HDa.out.set (cs' := #[.int .i64 2, .int .u32 (epN L), .string ⟨#[]⟩, .int .u32 (uidN L), .int .i64 (datN L), .int .i64 0, .slice none 0 0]) 4 (.int .i64 (datN L)) rfl)
  generalize w3a.setCell ⟨b, 4, none⟩ (.int .i64 (datN L)) = w4 at *
  clear HDa e2 f2
  refine (dc_fla HD4.out).mono ?_
  rintro x w4a ⟨rfl, hD⟩
  have HDa := Lib.hid hD
  have e2 := HDa.out.cell 5 _ rfl
  have f2 := HDa.out.froz 5
  clear hD HD4
  go_wp2_with fail
  have HD5 := Lib.hid (HDa.out.set (cs' := #[.int .i64 2, .int .u32 (epN L), .string ⟨#[]⟩, .int .u32 (uidN L), .int .i64 (datN L), .int .i64 (flaN L), .slice none 0 0]) 5 (.int .i64 (flaN L)) rfl)
  generalize w4a.setCell ⟨b, 5, none⟩ (.int .i64 (flaN L)) = w5 at *
  clear HDa e2 f2
  refine (dc_Text HD5.out).mono ?_
  rintro x w5a ⟨rfl, hD⟩
  have HDa := Lib.hid hD
  have e2 := HDa.out.cell 2 _ rfl
  have f2 := HDa.out.froz 2
  clear hD HD5
  go_wp2_with fail
  have HD6 := Lib.hid (HDa.out.set (cs' := #[.int .i64 2, .int .u32 (epN L), .string (TX (LF L)), .int .u32 (uidN L), .int .i64 (datN L), .int .i64 (flaN L), .slice none 0 0]) 2 (.string (TX (LF L))) rfl)
  generalize w5a.setCell ⟨b, 2, none⟩ (.string (TX (LF L))) = w6 at *
  clear HDa e2 f2
  refine (dc_Left HD6.out).mono ?_
  rintro x w6b ⟨rfl, hw⟩
  subst hw
  go_wp2_with fail
  refine (dc_Raw HD6.out (leftN (LT (LF L))) HLT.out).mono ?_
  rintro x w6c ⟨gg, mm, hmm, rfl, hbg, hWg, hO, hD⟩
  have HDa := Lib.hid (show Dc W1 q g (LO L) b _ w6c from hD)
  have HMM := Lib.hid (show mm = (octN L).length from hmm)
  have HGG := Lib.hid (And.intro hbg hWg)
  have HOa := Lib.hid (show Bytes w6c (some ⟨gg, 0, none⟩) mm (octN L) from hO)
  have e2 := HDa.out.cell 6 _ rfl
  have f2 := HDa.out.froz 6
  clear hD HD6 hmm hbg hWg hO
  go_wp2_with fail
  have HD7 := Lib.hid (HDa.out.set (cs' := #[.int .i64 2, .int .u32 (epN L), .string (TX (LF L)), .int .u32 (uidN L), .int .i64 (datN L), .int .i64 (flaN L), .slice (some ⟨gg, 0, none⟩) mm mm]) 6 (.slice (some ⟨gg, 0, none⟩) mm mm) rfl)
  have HO7 := Lib.hid (octs_set HDa.out HGG.out.1 HOa.out 6 (.slice (some ⟨gg, 0, none⟩) mm mm))
  have HF := Lib.hid (HF0.out · (some ⟨gg, 0, none⟩) mm ·)
  rw [← HMM.out] at HOK
  clear HF0
  generalize w6c.setCell ⟨b, 6, none⟩ (.slice (some ⟨gg, 0, none⟩) mm mm) = w7 at *
  clear HDa e2 f2 HOa
  have HDn := Lib.hid (dc_Done HD7.out)
  have HK := HOK.out
  clear HOK
  generalize decide (LO L = some []) = DD at *
  generalize formedB 2 (epN L) (TX (LF L)) (uidN L) (datN L) (flaN L) mm = FF at *
  generalize htx : TX (LF L) = tx at *
  have Etx := Lib.hid htx
  clear htx
  generalize hui : uidN L = ui at *
  have Eui := Lib.hid hui
  clear hui
  generalize hda : (datN L) = da at *
  have Eda := Lib.hid hda
  clear hda
  generalize hfl : (flaN L) = fl at *
  have Efl := Lib.hid hfl
  clear hfl
  generalize hep : epN L = ep at *
  have Eep := Lib.hid hep
  clear hep
  have HK := Lib.hid HK
  refine HDn.out.mono ?_
  rintro x w9 ⟨rfl, rfl⟩
  clear HDn
  cases DD
  · · clear HF
      have r0 := cell_at (HRC.out _ HD7.out.1.bel) 0 _ rfl
      have s0 := frozen_of_row _ _ 0 _ _ (HRC.out _ HD7.out.1.bel)
      have r1 := cell_at (HRC.out _ HD7.out.1.bel) 1 _ rfl
      have s1 := frozen_of_row _ _ 1 _ _ (HRC.out _ HD7.out.1.bel)
      have r2 := cell_at (HRC.out _ HD7.out.1.bel) 2 _ rfl
      have s2 := frozen_of_row _ _ 2 _ _ (HRC.out _ HD7.out.1.bel)
      have r3 := cell_at (HRC.out _ HD7.out.1.bel) 3 _ rfl
      have s3 := frozen_of_row _ _ 3 _ _ (HRC.out _ HD7.out.1.bel)
      have r4 := cell_at (HRC.out _ HD7.out.1.bel) 4 _ rfl
      have s4 := frozen_of_row _ _ 4 _ _ (HRC.out _ HD7.out.1.bel)
      have r5 := cell_at (HRC.out _ HD7.out.1.bel) 5 _ rfl
      have s5 := frozen_of_row _ _ 5 _ _ (HRC.out _ HD7.out.1.bel)
      have r6 := cell_at (HRC.out _ HD7.out.1.bel) 6 _ rfl
      have s6 := frozen_of_row _ _ 6 _ _ (HRC.out _ HD7.out.1.bel)
      go_wp2_with fail
      have h7 := seven (HRC.out _ HD7.out.1.bel) rfl (.int .i64 0) (.int .u32 0) (.string ⟨#[]⟩) (.int .u32 0) (.int .i64 0) (.int .i64 0) (.slice none 0 0)
      exact bodyPost_ret (results_note Tryz.results205 _ _ W.heap.size _ _ _ _ rfl h7.1 Tryz.underlying149 rfl (noteSize _ rfl)) rfl ⟨gg, mm, HMM.out, by rw [show ok2 L = false from HK.out]; rfl, Nat.le_trans HBW.out.size HGG.out.2, HO7.out.kept fun ad e hn => (by cases e; exact h7.2.1 _ (by have := HGG.out.2; have := HWS.out; show gg ≠ _; omega)), h7.2.2 _ _ (HBW.out.trans (HD7.out.1.bel.mono HBW.out.size)) (Nat.le_refl _)⟩
  · cases FF
    · --A
      have c0 := HD7.out.cell 0 _ rfl
      have c1 := HD7.out.cell 1 _ rfl
      have c2 := HD7.out.cell 2 _ rfl
      have c3 := HD7.out.cell 3 _ rfl
      have c4 := HD7.out.cell 4 _ rfl
      have c5 := HD7.out.cell 5 _ rfl
      have c6 := HD7.out.cell 6 _ rfl
      go_wp2_with (go_at_call 155; refine (HF.out _ (HFit.out _ HD7.out.1.bel)).mono ?_; rintro x w5 ⟨rfl, hb5⟩; have HD5 := Lib.hid (HD7.out.below hb5); have HO5 := Lib.hid (HO7.out.below HO7.out.lt hb5); clear hb5 c0 c1 c2 c3 c4 c5 c6; have r0 := cell_at (HRC.out _ HD5.out.1.bel) 0 _ rfl; have s0 := frozen_of_row _ _ 0 _ _ (HRC.out _ HD5.out.1.bel); have r1 := cell_at (HRC.out _ HD5.out.1.bel) 1 _ rfl; have s1 := frozen_of_row _ _ 1 _ _ (HRC.out _ HD5.out.1.bel); have r2 := cell_at (HRC.out _ HD5.out.1.bel) 2 _ rfl; have s2 := frozen_of_row _ _ 2 _ _ (HRC.out _ HD5.out.1.bel); have r3 := cell_at (HRC.out _ HD5.out.1.bel) 3 _ rfl; have s3 := frozen_of_row _ _ 3 _ _ (HRC.out _ HD5.out.1.bel); have r4 := cell_at (HRC.out _ HD5.out.1.bel) 4 _ rfl; have s4 := frozen_of_row _ _ 4 _ _ (HRC.out _ HD5.out.1.bel); have r5 := cell_at (HRC.out _ HD5.out.1.bel) 5 _ rfl; have s5 := frozen_of_row _ _ 5 _ _ (HRC.out _ HD5.out.1.bel); have r6 := cell_at (HRC.out _ HD5.out.1.bel) 6 _ rfl; have s6 := frozen_of_row _ _ 6 _ _ (HRC.out _ HD5.out.1.bel))
      have h7 := seven (HRC.out _ HD5.out.1.bel) rfl (.int .i64 0) (.int .u32 0) (.string ⟨#[]⟩) (.int .u32 0) (.int .i64 0) (.int .i64 0) (.slice none 0 0)
      exact bodyPost_ret (results_note Tryz.results205 _ _ W.heap.size _ _ _ _ rfl h7.1 Tryz.underlying149 rfl (noteSize _ rfl)) rfl ⟨gg, mm, HMM.out, by rw [show ok2 L = false from HK.out]; rfl, Nat.le_trans HBW.out.size HGG.out.2, HO5.out.kept fun ad e hn => (by cases e; exact h7.2.1 _ (by have := HGG.out.2; have := HWS.out; show gg ≠ _; omega)), h7.2.2 _ _ (HBW.out.trans (HD5.out.1.bel.mono HBW.out.size)) (Nat.le_refl _)⟩
    · --B
      have c0 := HD7.out.cell 0 _ rfl
      have c1 := HD7.out.cell 1 _ rfl
      have c2 := HD7.out.cell 2 _ rfl
      have c3 := HD7.out.cell 3 _ rfl
      have c4 := HD7.out.cell 4 _ rfl
      have c5 := HD7.out.cell 5 _ rfl
      have c6 := HD7.out.cell 6 _ rfl
      go_wp2_with (go_at_call 155; refine (HF.out _ (HFit.out _ HD7.out.1.bel)).mono ?_; rintro x w5 ⟨rfl, hb5⟩; have HD5 := Lib.hid (HD7.out.below hb5); have HO5 := Lib.hid (HO7.out.below HO7.out.lt hb5); clear hb5 c0 c1 c2 c3 c4 c5 c6; have c0 := HD5.out.cell 0 _ rfl; have c1 := HD5.out.cell 1 _ rfl; have c2 := HD5.out.cell 2 _ rfl; have c3 := HD5.out.cell 3 _ rfl; have c4 := HD5.out.cell 4 _ rfl; have c5 := HD5.out.cell 5 _ rfl; have c6 := HD5.out.cell 6 _ rfl; have r0 := cell_at (HRC.out _ HD5.out.1.bel) 0 _ rfl; have s0 := frozen_of_row _ _ 0 _ _ (HRC.out _ HD5.out.1.bel); have r1 := cell_at (HRC.out _ HD5.out.1.bel) 1 _ rfl; have s1 := frozen_of_row _ _ 1 _ _ (HRC.out _ HD5.out.1.bel); have r2 := cell_at (HRC.out _ HD5.out.1.bel) 2 _ rfl; have s2 := frozen_of_row _ _ 2 _ _ (HRC.out _ HD5.out.1.bel); have r3 := cell_at (HRC.out _ HD5.out.1.bel) 3 _ rfl; have s3 := frozen_of_row _ _ 3 _ _ (HRC.out _ HD5.out.1.bel); have r4 := cell_at (HRC.out _ HD5.out.1.bel) 4 _ rfl; have s4 := frozen_of_row _ _ 4 _ _ (HRC.out _ HD5.out.1.bel); have r5 := cell_at (HRC.out _ HD5.out.1.bel) 5 _ rfl; have s5 := frozen_of_row _ _ 5 _ _ (HRC.out _ HD5.out.1.bel); have r6 := cell_at (HRC.out _ HD5.out.1.bel) 6 _ rfl; have s6 := frozen_of_row _ _ 6 _ _ (HRC.out _ HD5.out.1.bel))
      have h7 := seven (HRC.out _ HD5.out.1.bel) rfl (.int .i64 2) (.int .u32 ep) (.string tx) (.int .u32 ui) (.int .i64 da) (.int .i64 fl) (.slice (some ⟨gg, 0, none⟩) mm mm)
      exact bodyPost_ret (results_note Tryz.results205 _ _ W.heap.size _ _ _ _ rfl h7.1 Tryz.underlying149 rfl (noteSize _ rfl)) rfl ⟨gg, mm, HMM.out, by rw [show ok2 L = true from HK.out, Eui.out, Eda.out, Efl.out, Etx.out, Eep.out]; rfl, Nat.le_trans HBW.out.size HGG.out.2, HO5.out.kept fun ad e hn => (by cases e; exact h7.2.1 _ (by have := HGG.out.2; have := HWS.out; show gg ≠ _; omega)), h7.2.2 _ _ (HBW.out.trans (HD5.out.1.bel.mono HBW.out.size)) (Nat.le_refl _)⟩
end Go.Proofs.YthhflkgngencdaaGreatDoor.bod
namespace Go.Proofs.YthhflkgngencdaaGreatDoor.bod
open Go.ChangeShapes Go.WideShapes Go.ChangeAt Go.RowKit
open Go.Proofs.YthhflkgngencdaaGreatDoor.codec (Bytes)
set_option linter.unusedVariables false
set_option linter.unusedSimpArgs false
set_option maxRecDepth 100000

end Go.Proofs.YthhflkgngencdaaGreatDoor.bod
namespace Go.Proofs.YthhflkgngencdaaGreatDoor.bod
open Go.ChangeShapes Go.WideShapes Go.ChangeAt Go.RowKit
open Go.Proofs.YthhflkgngencdaaGreatDoor.codec (Bytes New vals vals_append vals_length vals_one bytesOf bytesOf_lt bytesOf_length byteAt strOf)
set_option linter.unusedVariables false
set_option linter.unusedSimpArgs false
set_option maxRecDepth 100000

/-- Bytes of the call's own. -/
def Mine (W : World) (v : Value) (M : List Nat) (w : World) : Prop := w.ownsRow W.heap.size 5 1 v M.length (vals M) ∧ Below W.heap.size W w
theorem Mine.below {W w w' : World} {v : Value} {M : List Nat} (h : Mine W v M w) (hb : Below w.heap.size w w') : Mine W v M w' :=
  ⟨h.1.kept (row := none) ⟨hb.os, hb.tape, hb.output, hb.size, fun i hi _ => hb.block i hi⟩ (by cases hv : v.ownBlock <;> simp), h.2.trans (hb.mono h.2.size)⟩
theorem Mine.more {W w w' : World} {v v' : Value} {M M' : List Nat} (h : Mine W v M w) (ho : w'.ownsRow W.heap.size 5 1 v' M'.length (vals M')) (hg : w.grownBy w' v.ownBlock) : Mine W v' M' w' :=
  ⟨ho, h.2.trans ⟨hg.os, hg.tape, hg.output, hg.size, fun i hi => hg.block i (Nat.lt_of_lt_of_le hi h.2.size) (fun e => by have := (h.1.lt _ e.symm).1; omega)⟩⟩
theorem Mine.form {W w : World} {v : Value} {M : List Nat} (h : Mine W v M w) (N : Nat) (hN : M.length = N) (h0 : 0 < N) : ∃ g cap, v = .slice (some ⟨g, 0, none⟩) N cap ∧ N ≤ cap ∧ W.heap.size ≤ g := by
  subst hN
  rcases h.1.2 with ⟨_, h1⟩ | ⟨g, cap, cur, e, hb, _, hc, _⟩
  · omega
  · exact ⟨g, cap, e, hc, hb⟩
theorem Mine.bytes {W w : World} {g N cap : Nat} {M : List Nat} (h : Mine W (.slice (some ⟨g, 0, none⟩) N cap) M w) (hN : M.length = N) (hb : ∀ x ∈ M, x < 256) : Bytes w (some ⟨g, 0, none⟩) N M := codec.own_bytes' h.1 hN hb
theorem Mine.drew {W w : World} {v : Value} {M : List Nat} (h : Mine W v M w) : Mine W v M w.drew := h.below (codec.below_draws (Below.refl _ _) 1)
end Go.Proofs.YthhflkgngencdaaGreatDoor.bod
