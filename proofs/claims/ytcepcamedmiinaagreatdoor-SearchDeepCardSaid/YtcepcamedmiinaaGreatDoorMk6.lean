/- When a note is formed, by both. -/
import Derived.Test.YtcepcamedmiinaaGreatDoorMk5
import Derived.Test.YtcepcamedmiinaaGreatDoorMk2
import Derived.Test.YtcepcamedmiinaaGreatDoorMk3
import Derived.Test.YtcepcamedmiinaaGreatDoorMk4
import Derived.Lib.LaidTab
namespace Go.Proofs.YtcepcamedmiinaaGreatDoor.bod
open Go.ChangeShapes Go.WideShapes Go.ChangeAt Go.RowKit
open Go.Proofs.YtcepcamedmiinaaGreatDoor.codec (Bytes)
set_option linter.unusedVariables false
set_option linter.unusedSimpArgs false
set_option maxRecDepth 100000

/-- What the walk asks of the library's own variables. -/
structure Fit (w : World) : Prop where
  room : nam.Room w
  tens : dat.Tens w
theorem Fit.below {w w' : World} (h : Fit w) (hb : Below w.heap.size w w') : Fit w' := ⟨h.room.below hb, Lib.tabBelow_of_tabIs (h.tens w' hb)⟩
theorem rNamed_any (w : World) (s : ByteArray) (hs : s.size ≤ 100000) :
    Calls Tryz.prog 11 #[.string s] w fun e w' => e = .returned (.bool (named s)) ∧ Below w.heap.size w w' := by
  have hN := nam.rNorm_any w s hs
  unfold named
  generalize nam.normS s = t at *
  generalize nam.normOk s = b at *
  have HN := Lib.hid hN
  clear hN
  cases b
  · go_enter Tryz.func11, Tryz.ntmps11
    go_wp2_with (go_at_call 15; refine HN.out.mono ?_; rintro e w1 ⟨rfl, hb⟩)
    go_ret
    exact ⟨rfl, hb.below _⟩
  · by_cases hts : t = s
    · subst hts
      rw [decide_eq_true rfl]
      go_enter Tryz.func11, Tryz.ntmps11
      go_wp2_with (go_at_call 15; refine HN.out.mono ?_; rintro e w1 ⟨rfl, hb⟩)
      go_ret
      exact ⟨rfl, hb.below _⟩
    · rw [decide_eq_false hts]
      have hne := rd.str_ne hts
      clear hts
      go_enter Tryz.func11, Tryz.ntmps11
      go_wp2_with (go_at_call 15; refine HN.out.mono ?_; rintro e w1 ⟨rfl, hb⟩)
      go_ret
      exact ⟨by simpa [ByteArray.toList_eq] using hne, hb.below _⟩
theorem put_five (f : Int) : flg.chgN (flg.five 0) (flg.five f) (flg.kind 0) = flg.five f := rfl
end Go.Proofs.YtcepcamedmiinaaGreatDoor.bod
namespace Go.Proofs.YtcepcamedmiinaaGreatDoor.bod
open Go.ChangeShapes Go.WideShapes Go.ChangeAt Go.RowKit
open Go.Proofs.YtcepcamedmiinaaGreatDoor.codec (Bytes)
set_option linter.unusedVariables false
set_option linter.unusedSimpArgs false
set_option maxRecDepth 100000

theorem cell_at {w : World} {b : Nat} {cs : Array Value} {t : TypeId} {m : Nat × Nat} (h : w.heap[b]? = some (.cells cs t m)) (i : Nat) (v : Value) (hv : cs[i]? = some v) : w.cell? ⟨b, i, none⟩ = some v := by
  simp [World.cell?, h, hv]
end Go.Proofs.YtcepcamedmiinaaGreatDoor.bod
namespace Go.Proofs.YtcepcamedmiinaaGreatDoor.bod
open Go.ChangeShapes Go.WideShapes Go.ChangeAt Go.RowKit
open Go.Proofs.YtcepcamedmiinaaGreatDoor.codec (Bytes)
set_option linter.unusedVariables false
set_option linter.unusedSimpArgs false
set_option maxRecDepth 100000

theorem boxed {w : World} {o : Obj} {w1 : World} (h : Below (w.alloc o).heap.size (w.alloc o) w1) : w1.heap[w.heap.size]? = some o ∧ Below w.heap.size w w1 := by
  have h0 : Below w.heap.size w (w.alloc o) := (Below.refl _ _).alloc (Nat.le_refl _) _
  refine ⟨?_, h0.trans (h.mono h0.size)⟩
  rw [h.block _ (by simp)]
  exact heap_alloc_new w o
theorem formed_one {e u : Nat} {s : ByteArray} {d f : Int} {n : Nat} : formedB 1 e s u d f n = (decide (e ≠ 0) && (named s && (decide (u = 0) && emptyB d f n))) := by unfold formedB; rw [if_pos rfl]
theorem formed_two {e u : Nat} {s : ByteArray} {d f : Int} {n : Nat} : formedB 2 e s u d f n = (decide (e ≠ 0) && (named s && (decide (u ≠ 0) && fitsB d f n))) := by unfold formedB; rw [if_neg (by decide), if_pos rfl]
theorem formed_three {e u : Nat} {s : ByteArray} {d f : Int} {n : Nat} : formedB 3 e s u d f n = (decide (e ≠ 0) && (decide (s.size = 0) && (decide (u ≠ 0) && emptyB d f n))) := by unfold formedB; rw [if_neg (by decide), if_neg (by decide), if_pos rfl]
theorem formed_other {k : Int} {e u : Nat} {s : ByteArray} {d f : Int} {n : Nat} (h1 : k ≠ 1) (h2 : k ≠ 2) (h3 : k ≠ 3) : formedB k e s u d f n = false := by unfold formedB; rw [if_neg h1, if_neg h2, if_neg h3]
end Go.Proofs.YtcepcamedmiinaaGreatDoor.bod
namespace Go.Proofs.YtcepcamedmiinaaGreatDoor.lg
open Go.ChangeShapes Go.WideShapes Go.ChangeAt Go.RowKit
open Go.Proofs.YtcepcamedmiinaaGreatDoor.codec (Bytes)
set_option linter.unusedVariables false
set_option maxRecDepth 100000
set_option linter.unusedSimpArgs false

/-- A note, where its record begins, and where its octets lie. -/
structure Y where
  n : Nt
  p : Nat
  A : Option Addr
  m : Nat
  c : Nat
def cN (y : Y) : List Value := [.int .i64 (y.n.k : Nat), .int .u32 (y.n.e : Nat), .string y.n.s, .int .u32 (y.n.u : Nat), .int .i64 y.n.d, .int .i64 y.n.f, .slice y.A y.m y.c]
def cA (y : Y) : List Value := [.int .i64 (y.n.k : Nat), .int .u32 (y.n.e : Nat), .string y.n.s, .int .u32 (y.n.u : Nat), .int .i64 y.n.d, .int .i64 y.n.f, .slice y.A y.m y.c, .int .i64 (y.p : Nat)]
def cM (y : Y) : List Value := [.int .u32 (y.n.u : Nat), .int .i64 y.n.d, .int .i64 y.n.f, .slice y.A y.m y.c]
def cL (y : Y) : List Value := [.int .u32 (y.n.u : Nat), .int .i64 y.n.d, .int .i64 y.n.f, .slice y.A y.m y.c, .int .u32 (y.n.e : Nat), .int .i64 (y.p : Nat)]
structure Fm (F : Y → List Value) (K : Nat) : Prop where
  len : ∀ y, (F y).length = K
  one : ∀ y, ∀ u ∈ F y, u.oneCell' = true
theorem fN : Fm cN 7 := ⟨fun _ => rfl, fun y u hu => by simp [cN] at hu; rcases hu with rfl | rfl | rfl | rfl | rfl | rfl | rfl <;> rfl⟩
theorem fA : Fm cA 8 := ⟨fun _ => rfl, fun y u hu => by simp [cA] at hu; rcases hu with rfl | rfl | rfl | rfl | rfl | rfl | rfl | rfl <;> rfl⟩
theorem fM : Fm cM 4 := ⟨fun _ => rfl, fun y u hu => by simp [cM] at hu; rcases hu with rfl | rfl | rfl | rfl <;> rfl⟩
theorem fL : Fm cL 6 := ⟨fun _ => rfl, fun y u hu => by simp [cL] at hu; rcases hu with rfl | rfl | rfl | rfl | rfl | rfl <;> rfl⟩
def fl (F : Y → List Value) (ys : List Y) : List Value := ys.flatMap F
theorem fl_snoc (F : Y → List Value) (ys : List Y) (y : Y) : fl F (ys ++ [y]) = fl F ys ++ F y := by simp [fl]
theorem fl_at {F : Y → List Value} {K : Nat} (hF : Fm F K) : ∀ (ys : List Y) (k : Nat) (y : Y), ys[k]? = some y → ∀ j v, (F y)[j]? = some v → (fl F ys)[k * K + j]? = some v
  | [], k, y, h => by simp at h
  | z :: r, 0, y, h => by
    simp at h
    subst h
    intro j v hv
    have hj := (List.getElem?_eq_some_iff.1 hv).1
    rw [Nat.zero_mul, Nat.zero_add, fl, List.flatMap_cons, List.getElem?_append_left hj]
    exact hv
  | z :: r, k + 1, y, h => by
    intro j v hv
    have := fl_at hF r k y (by simpa using h) j v hv
    rw [fl, List.flatMap_cons, List.getElem?_append_right (by rw [hF.len, Nat.add_mul]; omega), hF.len, show (k + 1) * K + j - K = k * K + j by rw [Nat.add_mul]; omega]
    exact this
/-- The octets lie there. -/
def Oct (w : World) (y : Y) : Prop := Bytes w y.A y.m y.n.o ∧ (y.A = none → y.c = 0)
theorem Oct.below {w w' : World} {y : Y} (h : Oct w y) (hb : Below w.heap.size w w') : Oct w' y := ⟨h.1.below h.1.lt hb, h.2⟩
theorem Oct.grown {w w' : World} {y : Y} {row : Option Nat} (h : Oct w y) (hg : w.grownBy w' row) (hne : ∀ ad, y.A = some ad → 0 < y.m → some ad.block ≠ row) : Oct w' y :=
  ⟨h.1.kept fun ad e h0 => hg.block _ (h.1.lt ad e h0) (hne ad e h0), h.2⟩
/-- A row of the call's own. -/
def Own (F : Y → List Value) (K B : Nat) (E : TypeId) (w : World) (v : Value) (ys : List Y) : Prop :=
  w.ownsRow B E K v ys.length (fl F ys) ∧ ∀ y ∈ ys, Oct w y ∧ ∀ ad, y.A = some ad → 0 < y.m → v.ownBlock ≠ some ad.block
theorem Own.nil (F : Y → List Value) (K B : Nat) (E : TypeId) (w : World) : Own F K B E w (.slice none 0 0) [] := ⟨⟨by simp [fl], .inl ⟨rfl, rfl⟩⟩, by simp⟩
theorem Own.grown {F : Y → List Value} {K B : Nat} {E : TypeId} {w w' : World} {v : Value} {ys : List Y} {row : Option Nat} (h : Own F K B E w v ys) (hg : w.grownBy w' row) (hv : ∀ b, row = some b → v.ownBlock ≠ some b) (hne : ∀ y ∈ ys, ∀ ad, y.A = some ad → 0 < y.m → some ad.block ≠ row) : Own F K B E w' v ys := by
  refine ⟨h.1.kept hg ?_, fun y hy => ⟨(h.2 y hy).1.grown hg (hne y hy), (h.2 y hy).2⟩⟩
  cases hr : row with
  | none => cases hb : v.ownBlock <;> simp
  | some b => exact .inr (hv b hr)
theorem Own.below {F : Y → List Value} {K B : Nat} {E : TypeId} {w w' : World} {v : Value} {ys : List Y} (h : Own F K B E w v ys) (hb : Below w.heap.size w w') : Own F K B E w' v ys :=
  h.grown (row := none) ⟨hb.os, hb.tape, hb.output, hb.size, fun i hi _ => hb.block i hi⟩ (fun b e => by cases e) (fun y hy ad e h0 => by simp)
theorem Own.alloc {F : Y → List Value} {K B : Nat} {E : TypeId} {w : World} {v : Value} {ys : List Y} (h : Own F K B E w v ys) (o : Obj) : Own F K B E (w.alloc o) v ys := h.below ((Below.refl _ _).alloc (Nat.le_refl _) _)
theorem Own.lt {F : Y → List Value} {K B : Nat} {E : TypeId} {w : World} {v : Value} {ys : List Y} (h : Own F K B E w v ys) {g : Nat} (e : v.ownBlock = some g) : B ≤ g ∧ g < w.heap.size := h.1.lt g e
theorem lit_at {F : Y → List Value} {w : World} (y : Y) (t : TypeId) (m : Nat × Nat) {g : Nat} (hg : g = w.heap.size) : ∀ j u, (F y)[j]? = some u → (w.alloc (.cells (F y).toArray t m)).cell? ((⟨g, 0, none⟩ : Addr).add j) = some u := by
  intro j u hu
  subst hg
  rw [codec.add_none, Nat.zero_add, World.cell?_alloc_mark]
  simpa using hu
/-- A struct put behind those of the call's own. -/
theorem run_append_own {F : Y → List Value} {K by_ : Nat} {z : Value} (hF : Fm F K) (hK : 0 < K) (hK9 : K ≤ 9) (hby : by_ ≤ 1000) (hz : z.cells.size = K) (T E : TypeId) (hT : Tryz.prog.underlying T = some (.slice E)) (hE : (Tryz.prog.info? E).map (fun i => (i.zero, i.size, i.bytes)) = some (some z, K, by_))
    (w : World) (ty : TypeId) (B : Nat) (v : Value) (ys : List Y) (h : Own F K B E w v ys) (hB : B ≤ w.heap.size) (hn : ys.length ≤ 20000000) (y : Y) (m : Nat × Nat) (g : Nat) (hg : g = w.heap.size)
    (hx : Oct w y) (hA : ∀ ad, y.A = some ad → 0 < y.m → v.ownBlock ≠ some ad.block) :
    ∃ v' w', (Builtin.append_ #[T, T] ty #[v, .slice (some ⟨g, 0, none⟩) 1 1]).run Tryz.prog (w.alloc (.cells (F y).toArray E m)) = .ok v' w' ∧ Own F K B E w' v' (ys ++ [y]) ∧ w.grownBy w' v.ownBlock ∧ (v'.ownBlock = v.ownBlock ∨ ∃ g, v'.ownBlock = some g ∧ w.heap.size ≤ g) := by
  obtain ⟨i0, hi, hz0, hz1, hz2⟩ := info_parts hE
  have ha := h.alloc (.cells (F y).toArray E m)
  have hby2 : (ys.length + 1) * by_ ≤ 20000001 * 1000 := Nat.mul_le_mul (by omega) hby
  obtain ⟨v', w', hr, h1, h2, h3, h4⟩ := run_append_own_at (P := Tryz.prog) (w.alloc (.cells (F y).toArray E m)) B T ty E i0 _ K by_ hT hi hz0 hz1 hz2 hz hK v ys.length (fl F ys) ha.1 ⟨g, 0, none⟩ 1 1 (F y) (by rw [hF.len, Nat.one_mul]) (lit_at y E m hg) (hF.one y) (by unfold maxLen; omega) (by omega) (by simp; omega)
  have hgr : w.grownBy w' v.ownBlock := ⟨h2.os, h2.tape, h2.output, by have := h2.size; simp at this; omega, fun k hk hne => by
    rw [h2.block k (by simp; omega) hne]
    exact Below.heap_alloc _ _ _ hk⟩
  have hat : v'.ownBlock = v.ownBlock ∨ ∃ g, v'.ownBlock = some g ∧ w.heap.size ≤ g := by
    rcases h4 with h4 | h4
    · exact .inl h4
    · exact .inr ⟨_, h4, by simp⟩
  have key : ∀ q : Y, Oct w q → (∀ ad, q.A = some ad → 0 < q.m → v.ownBlock ≠ some ad.block) → Oct w' q ∧ ∀ ad, q.A = some ad → 0 < q.m → v'.ownBlock ≠ some ad.block := by
    intro q hq hne
    refine ⟨hq.grown hgr fun ad e h0 e' => hne ad e h0 e'.symm, fun ad e h0 e' => ?_⟩
    rcases hat with ha | ⟨g', ha, hg'⟩
    · exact hne ad e h0 (ha ▸ e')
    · rw [ha] at e'
      have h1 := hq.1.lt ad e h0
      have h2 := Option.some.inj e'
      omega
  refine ⟨v', w', hr, ⟨?_, fun q hq => ?_⟩, hgr, hat⟩
  · rw [fl_snoc, List.length_append]
    simpa using h1
  · rcases List.mem_append.1 hq with hq | hq
    · exact key q (h.2 q hq).1 (h.2 q hq).2
    · simp at hq
      subst hq
      exact key _ hx hA
theorem wpList_append_own {F : Y → List Value} {K by_ : Nat} {z : Value} (hF : Fm F K) (hK0 : 0 < K) (hK9 : K ≤ 9) (hby : by_ ≤ 1000) (hz : z.cells.size = K) {ops : Array Oper} {rest : List Oper} {o : Oper} {a : Act} {w : World} {Q : Exit → Act → World → Prop} (hgd : o.guard = none) (s q : Operand) (T E : TypeId)
    (ho : o.op = .call { callee := .builtin .append, args := #[s, q], argTypes := #[T, T] }) (hT : Tryz.prog.underlying T = some (.slice E)) (hE : (Tryz.prog.info? E).map (fun i => (i.zero, i.size, i.bytes)) = some (some z, K, by_))
    (B : Nat) (v : Value) (ys : List Y) (hs : a.eval s = v) (h : Own F K B E w v ys) (hB : B ≤ w.heap.size) (hn : ys.length ≤ 20000000) (y : Y) (m : Nat × Nat) (g : Nat) (hg : g = w.heap.size) (hy : a.eval q = .slice (some ⟨g, 0, none⟩) 1 1) (L : Array Value) (hL : L = (F y).toArray)
    (hx : Oct w y) (hA : ∀ ad, y.A = some ad → 0 < y.m → v.ownBlock ≠ some ad.block)
    (hK : ∀ v' w', Own F K B E w' v' (ys ++ [y]) → w.grownBy w' v.ownBlock → (v'.ownBlock = v.ownBlock ∨ ∃ g, v'.ownBlock = some g ∧ w.heap.size ≤ g) → wpList Tryz.prog ops Q rest (a.put o.dst v') w') : wpList Tryz.prog ops Q (o :: rest) a (w.alloc (.cells L E m)) := by
  subst hL
  obtain ⟨v', w', hr, h1, h2, h3⟩ := run_append_own hF hK0 hK9 hby hz T E hT hE w o.type B v ys h hB hn y m g hg hx hA
  refine wpList_plain hgd fun _ hK' => ?_
  unfold Oper.wp execOp
  simp only [ho, resolve, invoke, builtin, Sem.run_bind, Sem.run_pure, Result.andThen_ok, List.map_toArray, List.map_cons, List.map_nil, hs, hy, hr]
  exact hK' _ _ (hK v' w' h1 h2 h3)
/-- What grows a row of the call's own keeps what was before the call. -/
theorem grown_below {W w w' : World} {F : Y → List Value} {K : Nat} {E : TypeId} {v : Value} {ys : List Y} (hb : Below W.heap.size W w) (h : Own F K W.heap.size E w v ys) (hg : w.grownBy w' v.ownBlock) : Below W.heap.size W w' :=
  hb.trans ⟨hg.os, hg.tape, hg.output, hg.size, fun k hk => hg.block k (Nat.lt_of_lt_of_le hk hb.size) (fun e => by
    have := (h.lt e.symm).1
    omega)⟩

/-- A slice that reads so. -/
def Rd (F : Y → List Value) (K : Nat) (w : World) (A : Option Addr) (n : Nat) (ys : List Y) : Prop := ys.length = n ∧ ∀ k, k < n → ∃ b o y, A = some ⟨b, o, none⟩ ∧ ys[k]? = some y ∧ (∀ j v, (F y)[j]? = some v → w.cell? ⟨b, o + k * K + j, none⟩ = some v) ∧ Oct w y
theorem Rd.below {F : Y → List Value} {K : Nat} {w w' : World} {A : Option Addr} {n : Nat} {ys : List Y} (h : Rd F K w A n ys) (hb : Below w.heap.size w w') : Rd F K w' A n ys := by
  refine ⟨h.1, fun k hk => ?_⟩
  obtain ⟨b, o, y, h1, h2, h3, h4⟩ := h.2 k hk
  refine ⟨b, o, y, h1, h2, fun j v hv => ?_, h4.below hb⟩
  have := h3 j v hv
  rw [hb.cell (p := ⟨b, o + k * K + j, none⟩) (block_lt_of_cell this)]
  exact this
theorem Rd.other {F : Y → List Value} {K : Nat} {w w' : World} {A : Option Addr} {n : Nat} {ys : List Y} (h : Rd F K w A n ys) (g : Nat) (hw : ∀ k, k ≠ g → w'.heap[k]? = w.heap[k]?) (hA : ∀ ad, A = some ad → ad.block ≠ g) (hO : ∀ y ∈ ys, ∀ ad, y.A = some ad → 0 < y.m → ad.block ≠ g) : Rd F K w' A n ys := by
  refine ⟨h.1, fun k hk => ?_⟩
  obtain ⟨b, o, y, h1, h2, h3, h4⟩ := h.2 k hk
  refine ⟨b, o, y, h1, h2, fun j v hv => ?_, h4.1.kept fun ad e h0 => hw _ (hO y (List.mem_of_getElem? h2) ad e h0), h4.2⟩
  rw [World.cell?_of_block (w := w) (hw b (hA _ h1))]
  exact h3 j v hv
theorem Rd.take {F : Y → List Value} {K : Nat} {w : World} {A : Option Addr} {n : Nat} {ys : List Y} (h : Rd F K w A n ys) (m : Nat) (hm : m ≤ n) : Rd F K w A m (ys.take m) := by
  refine ⟨by rw [List.length_take, h.1]; omega, fun k hk => ?_⟩
  obtain ⟨b, o, x, h1, h2, h3⟩ := h.2 k (by omega)
  exact ⟨b, o, x, h1, by rw [List.getElem?_take, if_pos hk]; exact h2, h3⟩
theorem Own.rd {F : Y → List Value} {K B : Nat} {E : TypeId} {w : World} {v : Value} {ys : List Y} (hF : Fm F K) (h : Own F K B E w v ys) : ∃ A c, v = .slice A ys.length c ∧ ys.length ≤ c ∧ (A = none → c = 0) ∧ Rd F K w A ys.length ys := by
  rcases h.1.2 with ⟨e, h0⟩ | ⟨g, cap, cur, e, hB, hg, hc, _⟩
  · exact ⟨none, 0, by rw [h0]; exact e, by omega, fun _ => rfl, rfl, fun k hk => by omega⟩
  · refine ⟨_, cap, e, hc, (fun e => by cases e), rfl, fun k hk => ?_⟩
    have hx : ys[k]? = some ys[k] := List.getElem?_eq_getElem hk
    refine ⟨g, 0, ys[k], rfl, hx, fun j u hu => ?_, (h.2 _ (List.getElem_mem hk)).1⟩
    have := h.1.cells (g := g) (by rw [e]; rfl) _ u (fl_at hF ys k _ hx j u hu)
    rw [codec.add_none] at this
    rw [Nat.add_assoc]
    exact this
theorem Rd.empty {F : Y → List Value} {K : Nat} (w : World) : Rd F K w .none 0 [] := ⟨rfl, fun k hk => by omega⟩
theorem Rd.at8 {w : World} {A : Option Addr} {n : Nat} {ys : List Y} (h : Rd cA 8 w A n ys) (k : Nat) (hk : k < n) : ∃ b o y, A = some ⟨b, o, none⟩ ∧ ys[k]? = some y ∧ w.cell? ⟨b, o + k * 8, none⟩ = some (.int .i64 (y.n.k : Nat)) ∧ w.cell? ⟨b, o + k * 8 + 1, none⟩ = some (.int .u32 (y.n.e : Nat)) ∧ w.cell? ⟨b, o + k * 8 + 2, none⟩ = some (.string y.n.s) ∧ w.cell? ⟨b, o + k * 8 + 3, none⟩ = some (.int .u32 (y.n.u : Nat)) ∧ w.cell? ⟨b, o + k * 8 + 4, none⟩ = some (.int .i64 y.n.d) ∧ w.cell? ⟨b, o + k * 8 + 5, none⟩ = some (.int .i64 y.n.f) ∧ w.cell? ⟨b, o + k * 8 + 6, none⟩ = some (.slice y.A y.m y.c) ∧ w.cell? ⟨b, o + k * 8 + 7, none⟩ = some (.int .i64 (y.p : Nat)) ∧ Oct w y := by
  obtain ⟨b, o, y, h1, h2, h3, h4⟩ := h.2 k hk
  exact ⟨b, o, y, h1, h2, h3 0 _ rfl, h3 1 _ rfl, h3 2 _ rfl, h3 3 _ rfl, h3 4 _ rfl, h3 5 _ rfl, h3 6 _ rfl, h3 7 _ rfl, h4⟩
theorem Rd.at7 {w : World} {A : Option Addr} {n : Nat} {ys : List Y} (h : Rd cN 7 w A n ys) (k : Nat) (hk : k < n) : ∃ b o y, A = some ⟨b, o, none⟩ ∧ ys[k]? = some y ∧ w.cell? ⟨b, o + k * 7, none⟩ = some (.int .i64 (y.n.k : Nat)) ∧ w.cell? ⟨b, o + k * 7 + 1, none⟩ = some (.int .u32 (y.n.e : Nat)) ∧ w.cell? ⟨b, o + k * 7 + 2, none⟩ = some (.string y.n.s) ∧ w.cell? ⟨b, o + k * 7 + 3, none⟩ = some (.int .u32 (y.n.u : Nat)) ∧ w.cell? ⟨b, o + k * 7 + 4, none⟩ = some (.int .i64 y.n.d) ∧ w.cell? ⟨b, o + k * 7 + 5, none⟩ = some (.int .i64 y.n.f) ∧ w.cell? ⟨b, o + k * 7 + 6, none⟩ = some (.slice y.A y.m y.c) ∧ Oct w y := by
  obtain ⟨b, o, y, h1, h2, h3, h4⟩ := h.2 k hk
  exact ⟨b, o, y, h1, h2, h3 0 _ rfl, h3 1 _ rfl, h3 2 _ rfl, h3 3 _ rfl, h3 4 _ rfl, h3 5 _ rfl, h3 6 _ rfl, h4⟩
theorem Rd.at4 {w : World} {A : Option Addr} {n : Nat} {ys : List Y} (h : Rd cM 4 w A n ys) (k : Nat) (hk : k < n) : ∃ b o y, A = some ⟨b, o, none⟩ ∧ ys[k]? = some y ∧ w.cell? ⟨b, o + k * 4, none⟩ = some (.int .u32 (y.n.u : Nat)) ∧ w.cell? ⟨b, o + k * 4 + 1, none⟩ = some (.int .i64 y.n.d) ∧ w.cell? ⟨b, o + k * 4 + 2, none⟩ = some (.int .i64 y.n.f) ∧ w.cell? ⟨b, o + k * 4 + 3, none⟩ = some (.slice y.A y.m y.c) ∧ Oct w y := by
  obtain ⟨b, o, y, h1, h2, h3, h4⟩ := h.2 k hk
  exact ⟨b, o, y, h1, h2, h3 0 _ rfl, h3 1 _ rfl, h3 2 _ rfl, h3 3 _ rfl, h4⟩
theorem Rd.at6 {w : World} {A : Option Addr} {n : Nat} {ys : List Y} (h : Rd cL 6 w A n ys) (k : Nat) (hk : k < n) : ∃ b o y, A = some ⟨b, o, none⟩ ∧ ys[k]? = some y ∧ w.cell? ⟨b, o + k * 6, none⟩ = some (.int .u32 (y.n.u : Nat)) ∧ w.cell? ⟨b, o + k * 6 + 1, none⟩ = some (.int .i64 y.n.d) ∧ w.cell? ⟨b, o + k * 6 + 2, none⟩ = some (.int .i64 y.n.f) ∧ w.cell? ⟨b, o + k * 6 + 3, none⟩ = some (.slice y.A y.m y.c) ∧ w.cell? ⟨b, o + k * 6 + 4, none⟩ = some (.int .u32 (y.n.e : Nat)) ∧ w.cell? ⟨b, o + k * 6 + 5, none⟩ = some (.int .i64 (y.p : Nat)) ∧ Oct w y := by
  obtain ⟨b, o, y, h1, h2, h3, h4⟩ := h.2 k hk
  exact ⟨b, o, y, h1, h2, h3 0 _ rfl, h3 1 _ rfl, h3 2 _ rfl, h3 3 _ rfl, h3 4 _ rfl, h3 5 _ rfl, h4⟩
def zN : Value := .agg #[.int .i64 0, .int .u32 0, .string ⟨#[]⟩, .int .u32 0, .int .i64 0, .int .i64 0, .slice none 0 0]
def zA : Value := .agg #[.int .i64 0, .int .u32 0, .string ⟨#[]⟩, .int .u32 0, .int .i64 0, .int .i64 0, .slice none 0 0, .int .i64 0]
def zM : Value := .agg #[.int .u32 0, .int .i64 0, .int .i64 0, .slice none 0 0]
def zL : Value := .agg #[.int .u32 0, .int .i64 0, .int .i64 0, .slice none 0 0, .int .u32 0, .int .i64 0]
theorem infoM : (Tryz.prog.info? 39).map (fun i => (i.zero, i.size, i.bytes)) = some (some zM, 4, 48) := by kernel_rfl
end Go.Proofs.YtcepcamedmiinaaGreatDoor.lg
namespace Go.Proofs.YtcepcamedmiinaaGreatDoor.lg
set_option linter.unusedVariables false
def nts (ys : List Y) : List Nt := ys.map Y.n
theorem nts_at {ys : List Y} {k : Nat} {y : Y} (h : ys[k]? = some y) : (nts ys)[k]? = some y.n := by rw [nts, List.getElem?_map, h]; rfl
theorem nts_len (ys : List Y) : (nts ys).length = ys.length := List.length_map _
end Go.Proofs.YtcepcamedmiinaaGreatDoor.lg
