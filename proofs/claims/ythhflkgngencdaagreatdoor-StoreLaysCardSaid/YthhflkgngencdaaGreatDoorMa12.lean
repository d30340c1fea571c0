/- What Decode answers, in one; the document's bytes of what was read; awake. -/
import Derived.Test.YthhflkgngencdaaGreatDoorMa07
import Derived.Test.YthhflkgngencdaaGreatDoorMa11
import Derived.Maps.OwnSet
import Derived.Maps.OwnOps
import Derived.DeepKeys4
import Derived.WideKeyPair
namespace Go.Proofs.YthhflkgngencdaaGreatDoor.bod
open Go.ChangeShapes Go.WideShapes Go.ChangeAt Go.RowKit
open Go.Proofs.YthhflkgngencdaaGreatDoor.codec (Bytes bytesOf bytesOf_length strOf strOf_size numOf)
open Go.Proofs.YthhflkgngencdaaGreatDoor.rd
set_option linter.unusedVariables false
set_option linter.unusedSimpArgs false
set_option maxRecDepth 100000

/-- A note that a payload of these bytes says. -/
def Said (W : World) (k : Int) (e u : Nat) (s : ByteArray) (d f : Int) (A : Option Addr) (m : Nat) (o L : List Nat) : Prop :=
  (formedB k e s u d f m = true ∧ payL k e s u d f o = L ∧ e < 4294967296 ∧ u < 4294967296) ∧ Bytes W A m o ∧ (A = none → m = 0)
theorem Said.below {W w : World} {k : Int} {e u : Nat} {s : ByteArray} {d f : Int} {A : Option Addr} {m : Nat} {o L : List Nat} (h : Said W k e u s d f A m o L) (hb : Below W.heap.size W w) : Said w k e u s d f A m o L :=
  ⟨h.1, h.2.1.below h.2.1.lt hb, h.2.2⟩
theorem formed_size {k : Int} {e u : Nat} {s : ByteArray} {d f : Int} {n : Nat} (h : formedB k e s u d f n = true) : s.size ≤ 60 ∧ n ≤ 20000 := by
  unfold formedB at h
  split at h
  · simp only [emptyB, Bool.and_eq_true, decide_eq_true_eq] at h
    have := named_size h.2.1
    omega
  · split at h
    · simp only [fitsB, Bool.and_eq_true, decide_eq_true_eq] at h
      have := named_size h.2.1
      omega
    · split at h
      · simp only [emptyB, Bool.and_eq_true, decide_eq_true_eq] at h
        omega
      · cases h
end Go.Proofs.YthhflkgngencdaaGreatDoor.bod
namespace Go.Proofs.YthhflkgngencdaaGreatDoor.lg
open Go.ChangeShapes Go.WideShapes Go.ChangeAt Go.RowKit
open Go.Proofs.YthhflkgngencdaaGreatDoor.codec (Bytes)
set_option linter.unusedVariables false
set_option maxRecDepth 100000
set_option linter.unusedSimpArgs false

/-- A note, where its record begins, and where its octets lie. -/
structure Y where
  n : Nt
  p : Nat
  A : Option Addr
  m : Nat
  c : Nat
def cN (y : Y) : List Value := [.int .i64 (y.n.k : Nat), .int .u32 (y.n.e : Nat), .string y.n.s, .int .u32 (y.n.u : Nat), .int .i64 y.n.d, .int .i64 y.n.f, .slice y.A y.m y.c]
def cA (y : Y) : List Value := [.int .i64 (y.n.k : Nat), .int .u32 (y.n.e : Nat), .string y.n.s, .int .u32 (y.n.u : Nat), .int .i64 y.n.d, .int .i64 y.n.f, .slice y.A y.m y.c, .int .i64 (y.p : Nat)]
def cM (y : Y) : List Value := [.int .u32 (y.n.u : Nat), .int .i64 y.n.d, .int .i64 y.n.f, .slice y.A y.m y.c]
def cL (y : Y) : List Value := [.int .u32 (y.n.u : Nat), .int .i64 y.n.d, .int .i64 y.n.f, .slice y.A y.m y.c, .int .u32 (y.n.e : Nat), .int .i64 (y.p : Nat)]
structure Fm (F : Y → List Value) (K : Nat) : Prop where
  len : ∀ y, (F y).length = K
  one : ∀ y, ∀ u ∈ F y, u.oneCell' = true
theorem fN : Fm cN 7 := ⟨fun _ => rfl, fun y u hu => by simp [cN] at hu; rcases hu with rfl | rfl | rfl | rfl | rfl | rfl | rfl <;> rfl⟩
theorem fA : Fm cA 8 := ⟨fun _ => rfl, fun y u hu => by simp [cA] at hu; rcases hu with rfl | rfl | rfl | rfl | rfl | rfl | rfl | rfl <;> rfl⟩
theorem fL : Fm cL 6 := ⟨fun _ => rfl, fun y u hu => by simp [cL] at hu; rcases hu with rfl | rfl | rfl | rfl | rfl | rfl <;> rfl⟩
def fl (F : Y → List Value) (ys : List Y) : List Value := ys.flatMap F
theorem fl_snoc (F : Y → List Value) (ys : List Y) (y : Y) : fl F (ys ++ [y]) = fl F ys ++ F y := by simp [fl]
theorem fl_at {F : Y → List Value} {K : Nat} (hF : Fm F K) : ∀ (ys : List Y) (k : Nat) (y : Y), ys[k]? = some y → ∀ j v, (F y)[j]? = some v → (fl F ys)[k * K + j]? = some v
  | [], k, y, h => by simp at h
  | z :: r, 0, y, h => by
    simp at h
    subst h
    intro j v hv
    have hj := (List.getElem?_eq_some_iff.1 hv).1
    rw [Nat.zero_mul, Nat.zero_add, fl, List.flatMap_cons, List.getElem?_append_left hj]
    exact hv
  | z :: r, k + 1, y, h => by
    intro j v hv
    have := fl_at hF r k y (by simpa using h) j v hv
    rw [fl, List.flatMap_cons, List.getElem?_append_right (by rw [hF.len, Nat.add_mul]; omega), hF.len, show (k + 1) * K + j - K = k * K + j by rw [Nat.add_mul]; omega]
    exact this
/-- The octets lie there. -/
def Oct (w : World) (y : Y) : Prop := Bytes w y.A y.m y.n.o ∧ (y.A = none → y.c = 0)
theorem Oct.below {w w' : World} {y : Y} (h : Oct w y) (hb : Below w.heap.size w w') : Oct w' y := ⟨h.1.below h.1.lt hb, h.2⟩
theorem Oct.grown {w w' : World} {y : Y} {row : Option Nat} (h : Oct w y) (hg : w.grownBy w' row) (hne : ∀ ad, y.A = some ad → 0 < y.m → some ad.block ≠ row) : Oct w' y :=
  ⟨h.1.kept fun ad e h0 => hg.block _ (h.1.lt ad e h0) (hne ad e h0), h.2⟩
/-- A row of the call's own. -/
def Own (F : Y → List Value) (K B : Nat) (E : TypeId) (w : World) (v : Value) (ys : List Y) : Prop :=
  w.ownsRow B E K v ys.length (fl F ys) ∧ ∀ y ∈ ys, Oct w y ∧ ∀ ad, y.A = some ad → 0 < y.m → v.ownBlock ≠ some ad.block
theorem Own.nil (F : Y → List Value) (K B : Nat) (E : TypeId) (w : World) : Own F K B E w (.slice none 0 0) [] := ⟨⟨by simp [fl], .inl ⟨rfl, rfl⟩⟩, by simp⟩
theorem Own.grown {F : Y → List Value} {K B : Nat} {E : TypeId} {w w' : World} {v : Value} {ys : List Y} {row : Option Nat} (h : Own F K B E w v ys) (hg : w.grownBy w' row) (hv : ∀ b, row = some b → v.ownBlock ≠ some b) (hne : ∀ y ∈ ys, ∀ ad, y.A = some ad → 0 < y.m → some ad.block ≠ row) : Own F K B E w' v ys := by
  refine ⟨h.1.kept hg ?_, fun y hy => ⟨(h.2 y hy).1.grown hg (hne y hy), (h.2 y hy).2⟩⟩
  cases hr : row with
  | none => cases hb : v.ownBlock <;> simp
  | some b => exact .inr (hv b hr)
theorem Own.below {F : Y → List Value} {K B : Nat} {E : TypeId} {w w' : World} {v : Value} {ys : List Y} (h : Own F K B E w v ys) (hb : Below w.heap.size w w') : Own F K B E w' v ys :=
  h.grown (row := none) ⟨hb.os, hb.tape, hb.output, hb.size, fun i hi _ => hb.block i hi⟩ (fun b e => by cases e) (fun y hy ad e h0 => by simp)
theorem Own.alloc {F : Y → List Value} {K B : Nat} {E : TypeId} {w : World} {v : Value} {ys : List Y} (h : Own F K B E w v ys) (o : Obj) : Own F K B E (w.alloc o) v ys := h.below ((Below.refl _ _).alloc (Nat.le_refl _) _)
theorem Own.lt {F : Y → List Value} {K B : Nat} {E : TypeId} {w : World} {v : Value} {ys : List Y} (h : Own F K B E w v ys) {g : Nat} (e : v.ownBlock = some g) : B ≤ g ∧ g < w.heap.size := h.1.lt g e
theorem lit_at {F : Y → List Value} {w : World} (y : Y) (t : TypeId) (m : Nat × Nat) {g : Nat} (hg : g = w.heap.size) : ∀ j u, (F y)[j]? = some u → (w.alloc (.cells (F y).toArray t m)).cell? ((⟨g, 0, none⟩ : Addr).add j) = some u := by
  intro j u hu
  subst hg
  rw [codec.add_none, Nat.zero_add, World.cell?_alloc_mark]
  simpa using hu
/-- A struct put behind those of the call's own. -/
theorem run_append_own {F : Y → List Value} {K by_ : Nat} {z : Value} (hF : Fm F K) (hK : 0 < K) (hK9 : K ≤ 9) (hby : by_ ≤ 1000) (hz : z.cells.size = K) (T E : TypeId) (hT : Tryz.prog.underlying T = some (.slice E)) (hE : (Tryz.prog.info? E).map (fun i => (i.zero, i.size, i.bytes)) = some (some z, K, by_))
    (w : World) (ty : TypeId) (B : Nat) (v : Value) (ys : List Y) (h : Own F K B E w v ys) (hB : B ≤ w.heap.size) (hn : ys.length ≤ 20000000) (y : Y) (m : Nat × Nat) (g : Nat) (hg : g = w.heap.size)
    (hx : Oct w y) (hA : ∀ ad, y.A = some ad → 0 < y.m → v.ownBlock ≠ some ad.block) :
    ∃ v' w', (Builtin.append_ #[T, T] ty #[v, .slice (some ⟨g, 0, none⟩) 1 1]).run Tryz.prog (w.alloc (.cells (F y).toArray E m)) = .ok v' w' ∧ Own F K B E w' v' (ys ++ [y]) ∧ w.grownBy w' v.ownBlock ∧ (v'.ownBlock = v.ownBlock ∨ ∃ g, v'.ownBlock = some g ∧ w.heap.size ≤ g) := by
  obtain ⟨i0, hi, hz0, hz1, hz2⟩ := info_parts hE
  have ha := h.alloc (.cells (F y).toArray E m)
  have hby2 : (ys.length + 1) * by_ ≤ 20000001 * 1000 := Nat.mul_le_mul (by omega) hby
  obtain ⟨v', w', hr, h1, h2, h3, h4⟩ := run_append_own_at (P := Tryz.prog) (w.alloc (.cells (F y).toArray E m)) B T ty E i0 _ K by_ hT hi hz0 hz1 hz2 hz hK v ys.length (fl F ys) ha.1 ⟨g, 0, none⟩ 1 1 (F y) (by rw [hF.len, Nat.one_mul]) (lit_at y E m hg) (hF.one y) (by unfold maxLen; omega) (by omega) (by simp; omega)
  have hgr : w.grownBy w' v.ownBlock := ⟨h2.os, h2.tape, h2.output, by have := h2.size; simp at this; omega, fun k hk hne => by
    rw [h2.block k (by simp; omega) hne]
    exact Below.heap_alloc _ _ _ hk⟩
  have hat : v'.ownBlock = v.ownBlock ∨ ∃ g, v'.ownBlock = some g ∧ w.heap.size ≤ g := by
    rcases h4 with h4 | h4
    · exact .inl h4
    · exact .inr ⟨_, h4, by simp⟩
  have key : ∀ q : Y, Oct w q → (∀ ad, q.A = some ad → 0 < q.m → v.ownBlock ≠ some ad.block) → Oct w' q ∧ ∀ ad, q.A = some ad → 0 < q.m → v'.ownBlock ≠ some ad.block := by
    intro q hq hne
    refine ⟨hq.grown hgr fun ad e h0 e' => hne ad e h0 e'.symm, fun ad e h0 e' => ?_⟩
    rcases hat with ha | ⟨g', ha, hg'⟩
    · exact hne ad e h0 (ha ▸ e')
    · rw [ha] at e'
      have h1 := hq.1.lt ad e h0
      have h2 := Option.some.inj e'
      omega
  refine ⟨v', w', hr, ⟨?_, fun q hq => ?_⟩, hgr, hat⟩
  · rw [fl_snoc, List.length_append]
    simpa using h1
  · rcases List.mem_append.1 hq with hq | hq
    · exact key q (h.2 q hq).1 (h.2 q hq).2
    · simp at hq
      subst hq
      exact key _ hx hA
theorem wpList_append_own {F : Y → List Value} {K by_ : Nat} {z : Value} (hF : Fm F K) (hK0 : 0 < K) (hK9 : K ≤ 9) (hby : by_ ≤ 1000) (hz : z.cells.size = K) {ops : Array Oper} {rest : List Oper} {o : Oper} {a : Act} {w : World} {Q : Exit → Act → World → Prop} (hgd : o.guard = none) (s q : Operand) (T E : TypeId)
    (ho : o.op = .call { callee := .builtin .append, args := #[s, q], argTypes := #[T, T] }) (hT : Tryz.prog.underlying T = some (.slice E)) (hE : (Tryz.prog.info? E).map (fun i => (i.zero, i.size, i.bytes)) = some (some z, K, by_))
    (B : Nat) (v : Value) (ys : List Y) (hs : a.eval s = v) (h : Own F K B E w v ys) (hB : B ≤ w.heap.size) (hn : ys.length ≤ 20000000) (y : Y) (m : Nat × Nat) (g : Nat) (hg : g = w.heap.size) (hy : a.eval q = .slice (some ⟨g, 0, none⟩) 1 1) (L : Array Value) (hL : L = (F y).toArray)
    (hx : Oct w y) (hA : ∀ ad, y.A = some ad → 0 < y.m → v.ownBlock ≠ some ad.block)
    (hK : ∀ v' w', Own F K B E w' v' (ys ++ [y]) → w.grownBy w' v.ownBlock → (v'.ownBlock = v.ownBlock ∨ ∃ g, v'.ownBlock = some g ∧ w.heap.size ≤ g) → wpList Tryz.prog ops Q rest (a.put o.dst v') w') : wpList Tryz.prog ops Q (o :: rest) a (w.alloc (.cells L E m)) := by
  subst hL
  obtain ⟨v', w', hr, h1, h2, h3⟩ := run_append_own hF hK0 hK9 hby hz T E hT hE w o.type B v ys h hB hn y m g hg hx hA
  refine wpList_plain hgd fun _ hK' => ?_
  unfold Oper.wp execOp
  simp only [ho, resolve, invoke, builtin, Sem.run_bind, Sem.run_pure, Result.andThen_ok, List.map_toArray, List.map_cons, List.map_nil, hs, hy, hr]
  exact hK' _ _ (hK v' w' h1 h2 h3)
/-- What grows a row of the call's own keeps what was before the call. -/
theorem grown_below {W w w' : World} {F : Y → List Value} {K : Nat} {E : TypeId} {v : Value} {ys : List Y} (hb : Below W.heap.size W w) (h : Own F K W.heap.size E w v ys) (hg : w.grownBy w' v.ownBlock) : Below W.heap.size W w' :=
  hb.trans ⟨hg.os, hg.tape, hg.output, hg.size, fun k hk => hg.block k (Nat.lt_of_lt_of_le hk hb.size) (fun e => by
    have := (h.lt e.symm).1
    omega)⟩

/-- A slice that reads so. -/
def Rd (F : Y → List Value) (K : Nat) (w : World) (A : Option Addr) (n : Nat) (ys : List Y) : Prop := ys.length = n ∧ ∀ k, k < n → ∃ b o y, A = some ⟨b, o, none⟩ ∧ ys[k]? = some y ∧ (∀ j v, (F y)[j]? = some v → w.cell? ⟨b, o + k * K + j, none⟩ = some v) ∧ Oct w y
theorem Rd.below {F : Y → List Value} {K : Nat} {w w' : World} {A : Option Addr} {n : Nat} {ys : List Y} (h : Rd F K w A n ys) (hb : Below w.heap.size w w') : Rd F K w' A n ys := by
  refine ⟨h.1, fun k hk => ?_⟩
  obtain ⟨b, o, y, h1, h2, h3, h4⟩ := h.2 k hk
  refine ⟨b, o, y, h1, h2, fun j v hv => ?_, h4.below hb⟩
  have := h3 j v hv
  rw [hb.cell (p := ⟨b, o + k * K + j, none⟩) (block_lt_of_cell this)]
  exact this
theorem Rd.other {F : Y → List Value} {K : Nat} {w w' : World} {A : Option Addr} {n : Nat} {ys : List Y} (h : Rd F K w A n ys) (g : Nat) (hw : ∀ k, k ≠ g → w'.heap[k]? = w.heap[k]?) (hA : ∀ ad, A = some ad → ad.block ≠ g) (hO : ∀ y ∈ ys, ∀ ad, y.A = some ad → 0 < y.m → ad.block ≠ g) : Rd F K w' A n ys := by
  refine ⟨h.1, fun k hk => ?_⟩
  obtain ⟨b, o, y, h1, h2, h3, h4⟩ := h.2 k hk
  refine ⟨b, o, y, h1, h2, fun j v hv => ?_, h4.1.kept fun ad e h0 => hw _ (hO y (List.mem_of_getElem? h2) ad e h0), h4.2⟩
  rw [World.cell?_of_block (w := w) (hw b (hA _ h1))]
  exact h3 j v hv
theorem Rd.take {F : Y → List Value} {K : Nat} {w : World} {A : Option Addr} {n : Nat} {ys : List Y} (h : Rd F K w A n ys) (m : Nat) (hm : m ≤ n) : Rd F K w A m (ys.take m) := by
  refine ⟨by rw [List.length_take, h.1]; omega, fun k hk => ?_⟩
  obtain ⟨b, o, x, h1, h2, h3⟩ := h.2 k (by omega)
  exact ⟨b, o, x, h1, by rw [List.getElem?_take, if_pos hk]; exact h2, h3⟩
theorem Own.rd {F : Y → List Value} {K B : Nat} {E : TypeId} {w : World} {v : Value} {ys : List Y} (hF : Fm F K) (h : Own F K B E w v ys) : ∃ A c, v = .slice A ys.length c ∧ ys.length ≤ c ∧ (A = none → c = 0) ∧ Rd F K w A ys.length ys := by
  rcases h.1.2 with ⟨e, h0⟩ | ⟨g, cap, cur, e, hB, hg, hc, _⟩
  · exact ⟨none, 0, by rw [h0]; exact e, by omega, fun _ => rfl, rfl, fun k hk => by omega⟩
  · refine ⟨_, cap, e, hc, (fun e => by cases e), rfl, fun k hk => ?_⟩
    have hx : ys[k]? = some ys[k] := List.getElem?_eq_getElem hk
    refine ⟨g, 0, ys[k], rfl, hx, fun j u hu => ?_, (h.2 _ (List.getElem_mem hk)).1⟩
    have := h.1.cells (g := g) (by rw [e]; rfl) _ u (fl_at hF ys k _ hx j u hu)
    rw [codec.add_none] at this
    rw [Nat.add_assoc]
    exact this
theorem Rd.empty {F : Y → List Value} {K : Nat} (w : World) : Rd F K w .none 0 [] := ⟨rfl, fun k hk => by omega⟩
theorem Rd.at8 {w : World} {A : Option Addr} {n : Nat} {ys : List Y} (h : Rd cA 8 w A n ys) (k : Nat) (hk : k < n) : ∃ b o y, A = some ⟨b, o, none⟩ ∧ ys[k]? = some y ∧ w.cell? ⟨b, o + k * 8, none⟩ = some (.int .i64 (y.n.k : Nat)) ∧ w.cell? ⟨b, o + k * 8 + 1, none⟩ = some (.int .u32 (y.n.e : Nat)) ∧ w.cell? ⟨b, o + k * 8 + 2, none⟩ = some (.string y.n.s) ∧ w.cell? ⟨b, o + k * 8 + 3, none⟩ = some (.int .u32 (y.n.u : Nat)) ∧ w.cell? ⟨b, o + k * 8 + 4, none⟩ = some (.int .i64 y.n.d) ∧ w.cell? ⟨b, o + k * 8 + 5, none⟩ = some (.int .i64 y.n.f) ∧ w.cell? ⟨b, o + k * 8 + 6, none⟩ = some (.slice y.A y.m y.c) ∧ w.cell? ⟨b, o + k * 8 + 7, none⟩ = some (.int .i64 (y.p : Nat)) ∧ Oct w y := by
  obtain ⟨b, o, y, h1, h2, h3, h4⟩ := h.2 k hk
  exact ⟨b, o, y, h1, h2, h3 0 _ rfl, h3 1 _ rfl, h3 2 _ rfl, h3 3 _ rfl, h3 4 _ rfl, h3 5 _ rfl, h3 6 _ rfl, h3 7 _ rfl, h4⟩
theorem Rd.at6 {w : World} {A : Option Addr} {n : Nat} {ys : List Y} (h : Rd cL 6 w A n ys) (k : Nat) (hk : k < n) : ∃ b o y, A = some ⟨b, o, none⟩ ∧ ys[k]? = some y ∧ w.cell? ⟨b, o + k * 6, none⟩ = some (.int .u32 (y.n.u : Nat)) ∧ w.cell? ⟨b, o + k * 6 + 1, none⟩ = some (.int .i64 y.n.d) ∧ w.cell? ⟨b, o + k * 6 + 2, none⟩ = some (.int .i64 y.n.f) ∧ w.cell? ⟨b, o + k * 6 + 3, none⟩ = some (.slice y.A y.m y.c) ∧ w.cell? ⟨b, o + k * 6 + 4, none⟩ = some (.int .u32 (y.n.e : Nat)) ∧ w.cell? ⟨b, o + k * 6 + 5, none⟩ = some (.int .i64 (y.p : Nat)) ∧ Oct w y := by
  obtain ⟨b, o, y, h1, h2, h3, h4⟩ := h.2 k hk
  exact ⟨b, o, y, h1, h2, h3 0 _ rfl, h3 1 _ rfl, h3 2 _ rfl, h3 3 _ rfl, h3 4 _ rfl, h3 5 _ rfl, h4⟩
def zA : Value := .agg #[.int .i64 0, .int .u32 0, .string ⟨#[]⟩, .int .u32 0, .int .i64 0, .int .i64 0, .slice none 0 0, .int .i64 0]
def zL : Value := .agg #[.int .u32 0, .int .i64 0, .int .i64 0, .slice none 0 0, .int .u32 0, .int .i64 0]
theorem infoA : (Tryz.prog.info? 286).map (fun i => (i.zero, i.size, i.bytes)) = some (some zA, 8, 88) := by kernel_rfl
theorem infoL : (Tryz.prog.info? 259).map (fun i => (i.zero, i.size, i.bytes)) = some (some zL, 6, 64) := by kernel_rfl
end Go.Proofs.YthhflkgngencdaaGreatDoor.lg
namespace Go.Proofs.YthhflkgngencdaaGreatDoor.frm
open Go.Proofs.YthhflkgngencdaaGreatDoor.codec (bytesOf byteAt bytesOf_length bytesOf_lt)
set_option linter.unusedVariables false
set_option maxRecDepth 100000
set_option linter.unusedSimpArgs false

theorem drop_app (a b : List Nat) (n : Nat) (h : a.length = n) : (a ++ b).drop n = b := by
  subst h
  simp
theorem take_app (a b : List Nat) (n : Nat) (h : a.length = n) : (a ++ b).take n = a := by
  subst h
  simp
theorem right_frame (k : Nat) (p rest : List Nat) (h1 : 1 ≤ k) (h3 : k ≤ 3) (hp : p.length ≤ 30000) : rightB (frameL k p ++ rest) = true ∧ numOf4 (frameL k p ++ rest) = p.length ∧ (frameL k p ++ rest).getD 3 0 = k := by
  have e : frameL k p ++ rest = first k p.length ++ (bytesOf (crcOf (first k p.length)) 4 ++ (dig p ++ (p ++ rest))) := by
    simp [frameL, headL, List.append_assoc]
  have e2 : first k p.length = [99, 117, 98, k] ++ bytesOf p.length 4 := rfl
  have hn : numOf4 (frameL k p ++ rest) = p.length := by
    unfold numOf4
    rw [e, e2, List.append_assoc, drop_app _ _ 4 rfl, take_app _ _ 4 (by simp [bytesOf])]
    exact codec.numOf_bytes _ 4 (by omega)
  have hk : (frameL k p ++ rest).getD 3 0 = k := by
    rw [e, e2]
    rfl
  refine ⟨?_, hn, hk⟩
  unfold rightB
  rw [decide_eq_true_eq]
  refine ⟨by simp [frameL_length]; omega, ?_, by rw [hk]; exact h1, by rw [hk]; exact h3, ?_, ?_⟩
  · rw [e, e2]
    rfl
  · unfold numOf4 at hn
    rw [hn]
    exact hp
  · rw [e, drop_app _ _ 8 (first_length _ _), take_app _ _ 4 (by simp [bytesOf]), take_app _ _ 8 (first_length _ _)]
    exact codec.numOf_bytes _ 4 (by
      have := crcOf_lt (l := first k p.length) (first_lt (by omega))
      omega)
theorem scan_frame (pre : List Nat) (k : Nat) (p rest : List Nat) (t e : Nat) (l : List Nat) (hl : l = pre ++ (frameL k p ++ rest)) (he : e = pre.length + (44 + p.length)) (h1 : 1 ≤ k) (h3 : k ≤ 3) (hp : p.length ≤ 30000) :
    scan l pre.length t = (⟨pre.length, k, p⟩ :: (scan l e e).1, (scan l e e).2) := by
  obtain ⟨hr, hn, hk⟩ := right_frame k p rest h1 h3 hp
  have hd : l.drop pre.length = frameL k p ++ rest := by rw [hl]; exact drop_app _ _ _ rfl
  have hlen : l.length = pre.length + (44 + p.length) + rest.length := by
    rw [hl]
    simp [frameL_length]
    omega
  have hpay : payOf l pre.length = p := by
    unfold payOf
    rw [hd, hn, ← List.drop_drop, hd, show frameL k p ++ rest = headL k p ++ (p ++ rest) by simp [frameL], drop_app _ _ 44 (headL_length _ _)]
    exact take_app _ _ _ rfl
  have htold : told l pre.length = dig p := by
    unfold told
    rw [hd, show frameL k p ++ rest = (first k p.length ++ bytesOf (crcOf (first k p.length)) 4) ++ (dig p ++ (p ++ rest)) by simp [frameL, headL, List.append_assoc]]
    rw [drop_app _ _ 12 (by simp [first_length, bytesOf])]
    exact take_app _ _ 32 (dig_length _)
  have := scan_rec l pre.length t e (by omega) (by rw [hd]; exact hr) (by rw [hd, hn, he]; omega) (by omega) (by rw [hpay, htold])
  rw [this]
  unfold recOf
  rw [hd, hk, hpay]
/-- Frames one behind the other. -/
def allF (fs : List (Nat × List Nat)) : List Nat := fs.flatMap fun f => frameL f.1 f.2
def recsF : Nat → List (Nat × List Nat) → List R
  | _, [] => []
  | i, f :: fs => ⟨i, f.1, f.2⟩ :: recsF (i + (44 + f.2.length)) fs
def GoodF (fs : List (Nat × List Nat)) : Prop := ∀ f ∈ fs, 1 ≤ f.1 ∧ f.1 ≤ 3 ∧ f.2.length ≤ 30000 ∧ ∀ x ∈ f.2, x < 256
theorem allF_snoc (fs : List (Nat × List Nat)) (f : Nat × List Nat) : allF (fs ++ [f]) = allF fs ++ frameL f.1 f.2 := by simp [allF]
theorem scan_frames (fs : List (Nat × List Nat)) : ∀ (pre rest l : List Nat) (e : Nat), GoodF fs → l = pre ++ (allF fs ++ rest) → e = pre.length + (allF fs).length → scan l pre.length pre.length = (recsF pre.length fs ++ (scan l e e).1, (scan l e e).2) := by
  induction fs with
  | nil =>
    intro pre rest l e _ _ he
    have : e = pre.length := by simpa [allF] using he
    subst this
    simp [recsF]
  | cons f fs ih =>
    intro pre rest l e hg hl he
    have hf := hg f (by simp)
    have h1 := scan_frame pre f.1 f.2 (allF fs ++ rest) pre.length (pre.length + (44 + f.2.length)) l (by rw [hl]; simp [allF]) rfl hf.1 hf.2.1 (by omega)
    have hpl : (pre ++ frameL f.1 f.2).length = pre.length + (44 + f.2.length) := by simp [frameL_length]
    have h2 := ih (pre ++ frameL f.1 f.2) rest l e (fun g hg' => hg g (by simp [hg'])) (by rw [hl]; simp [allF]) (by rw [he, hpl]; simp [allF, frameL_length]; omega)
    rw [hpl] at h2
    rw [h1, h2, recsF]
    simp
/-- What isn't all there isn't there. -/
theorem scan_part (pre : List Nat) (k : Nat) (p : List Nat) (j : Nat) (l : List Nat) (h1 : 1 ≤ k) (h3 : k ≤ 3) (hp : p.length ≤ 30000) (hj : j < 44 + p.length) (hl : l = pre ++ (frameL k p).take j) : scan l pre.length pre.length = ([], pre.length) := by
  have hlen : l.length = pre.length + j := by
    rw [hl]
    simp [frameL_length]
    omega
  by_cases h44 : j < 44
  · refine nx_none l pre.length (l.length - pre.length) pre.length (by omega) ?_
    have : ∀ f i, nx l f i = none ∨ ∃ q, rightB (l.drop q) = true ∧ i ≤ q := by
      intro f
      induction f with
      | zero => intro i; exact .inl rfl
      | succ f ih =>
        intro i
        rw [nx]
        by_cases hr : rightB (l.drop i) = true
        · exact .inr ⟨i, hr, Nat.le_refl _⟩
        · rw [if_neg hr]
          rcases ih (i + 1) with h | ⟨q, h, hq⟩
          · exact .inl h
          · exact .inr ⟨q, h, by omega⟩
    rcases this (l.length - pre.length) pre.length with h | ⟨q, h, hq⟩
    · exact h
    · have := right_long h
      omega
  · have hd : l.drop pre.length = (frameL k p).take j := by rw [hl]; exact drop_app _ _ _ rfl
    have hs : (frameL k p).take j = headL k p ++ p.take (j - 44) := by
      unfold frameL
      rw [List.take_append, headL_length, List.take_of_length_le (by rw [headL_length]; omega)]
    obtain ⟨hr, hn, hk⟩ := right_frame k p [] h1 h3 hp
    have cong : ∀ a b : List Nat, a.length = 44 → rightB (a ++ b) = rightB a ∧ numOf4 (a ++ b) = numOf4 a := by
      intro a b ha
      have t : ∀ n m, n + m ≤ 44 → ((a ++ b).drop n).take m = (a.drop n).take m := fun n m h => by
        rw [List.drop_append, List.take_append]
        have : m - (List.drop n a).length = 0 := by simp; omega
        rw [this]
        simp
      have t0 : ∀ m, m ≤ 44 → (a ++ b).take m = a.take m := fun m h => by
        have := t 0 m (by omega)
        simpa using this
      have g : (a ++ b).getD 3 0 = a.getD 3 0 := by
        simp [List.getD, List.getElem?_append, show 3 < a.length by omega]
      refine ⟨?_, ?_⟩
      · unfold rightB
        rw [t0 3 (by omega), t 4 4 (by omega), t 8 4 (by omega), t0 8 (by omega), g]
        rw [Bool.eq_iff_iff, decide_eq_true_eq, decide_eq_true_eq]
        simp only [List.length_append, ha]
        constructor
        · rintro ⟨_, h⟩; exact ⟨by omega, h⟩
        · rintro ⟨_, h⟩; exact ⟨by omega, h⟩
      · unfold numOf4
        rw [t 4 4 (by omega)]
    have hfull : frameL k p ++ [] = headL k p ++ p := by simp [frameL]
    rw [hfull] at hr hn
    have c1 := cong (headL k p) p (headL_length _ _)
    have c2 := cong (headL k p) (p.take (j - 44)) (headL_length _ _)
    refine scan_torn l pre.length pre.length (by omega) ?_ ?_
    · rw [hd, hs, c2.1, ← c1.1]
      exact hr
    · rw [hd, hs, c2.2, ← c1.2, hn]
      omega
end Go.Proofs.YthhflkgngencdaaGreatDoor.frm
namespace Go.Proofs.YthhflkgngencdaaGreatDoor.lg
open Go.ChangeShapes Go.WideShapes Go.ChangeAt Go.RowKit
open Go.Proofs.YthhflkgngencdaaGreatDoor.codec (Bytes)
open Go.Proofs.YthhflkgngencdaaGreatDoor.frm (R X Reads Recs)
open Go.Proofs.YthhflkgngencdaaGreatDoor.bod (Fit decode1 decode2 decode3 decode0 zeroN tup)
set_option linter.unusedVariables false
set_option maxRecDepth 100000
set_option linter.unusedSimpArgs false

theorem dec_none (W : World) (k : Nat) (A : Option Addr) (n c : Nat) (L : List Nat) (hB : Bytes W A n L) (hn : n ≤ 100000) (hr : Fit W) (h : dec k L = none) :
    Calls Tryz.prog 205 #[.int .i64 (k : Nat), .slice A n c] W fun x w' => x = .returned (.tuple #[.agg #[.int .i64 0, .int .u32 0, .string ⟨#[]⟩, .int .u32 0, .int .i64 0, .int .i64 0, .slice none 0 0], .int .i64 2]) ∧ Below W.heap.size W w' := by
  by_cases h1 : k = 1
  · subst h1
    refine (decode1 W A n c L hB hn hr).mono ?_
    rintro x w' ⟨rfl, hw⟩
    unfold dec at h
    rw [if_pos rfl] at h
    split at h
    · cases h
    · rename_i ho
      rw [Bool.not_eq_true] at ho
      rw [ho]
      exact ⟨rfl, hw⟩
  · by_cases h2 : k = 2
    · subst h2
      refine (decode2 W A n c L hB hn hr).mono ?_
      rintro x w' ⟨gg, mm, hmm, rfl, hg, hO, hw⟩
      unfold dec at h
      rw [if_neg (by decide), if_pos rfl] at h
      split at h
      · cases h
      · rename_i ho
        rw [Bool.not_eq_true] at ho
        rw [ho]
        exact ⟨rfl, hw⟩
    · by_cases h3 : k = 3
      · subst h3
        refine (decode3 W A n c L hB hn hr).mono ?_
        rintro x w' ⟨rfl, hw⟩
        unfold dec at h
        rw [if_neg (by decide), if_neg (by decide), if_pos rfl] at h
        split at h
        · cases h
        · rename_i ho
          rw [Bool.not_eq_true] at ho
          rw [ho]
          exact ⟨rfl, hw⟩
      · refine (decode0 W k (by omega) (by omega) (by omega) A n c L hB hn hr).mono ?_
        rintro x w' ⟨rfl, hw⟩
        exact ⟨rfl, hw⟩
/-- Where the octets of a note that a call made lie. -/
def Newly (W : World) (t : Nt) (A : Option Addr) (m c : Nat) (w' : World) : Prop := Bytes w' A m t.o ∧ (A = none → c = 0) ∧ (∀ ad, A = some ad → W.heap.size ≤ ad.block) ∧ Below W.heap.size W w'
theorem dec_some (W : World) (k : Nat) (A : Option Addr) (n c : Nat) (L : List Nat) (hB : Bytes W A n L) (hn : n ≤ 100000) (hr : Fit W) (t : Nt) (h : dec k L = some t) :
    Calls Tryz.prog 205 #[.int .i64 (k : Nat), .slice A n c] W fun x w' => ∃ A' m c', x = .returned (.tuple #[.agg #[.int .i64 (t.k : Nat), .int .u32 (t.e : Nat), .string t.s, .int .u32 (t.u : Nat), .int .i64 t.d, .int .i64 t.f, .slice A' m c'], .int .i64 0]) ∧ Newly W t A' m c' w' := by
  by_cases h1 : k = 1
  · subst h1
    refine (decode1 W A n c L hB hn hr).mono ?_
    rintro x w' ⟨rfl, hw⟩
    unfold dec at h
    rw [if_pos rfl] at h
    split at h
    · rename_i ho
      cases h
      rw [ho]
      exact ⟨none, 0, 0, rfl, codec.empty_bytes w', fun _ => rfl, (fun ad e => by cases e), hw⟩
    · cases h
  · by_cases h2 : k = 2
    · subst h2
      refine (decode2 W A n c L hB hn hr).mono ?_
      rintro x w' ⟨gg, mm, hmm, rfl, hg, hO, hw⟩
      unfold dec at h
      rw [if_neg (by decide), if_pos rfl] at h
      split at h
      · rename_i ho
        cases h
        rw [ho]
        exact ⟨_, mm, mm, rfl, hO, (fun e => by cases e), (fun ad e => by cases e; exact hg), hw⟩
      · cases h
    · by_cases h3 : k = 3
      · subst h3
        refine (decode3 W A n c L hB hn hr).mono ?_
        rintro x w' ⟨rfl, hw⟩
        unfold dec at h
        rw [if_neg (by decide), if_neg (by decide), if_pos rfl] at h
        split at h
        · rename_i ho
          cases h
          rw [ho]
          exact ⟨none, 0, 0, rfl, codec.empty_bytes w', fun _ => rfl, (fun ad e => by cases e), hw⟩
        · cases h
      · unfold dec at h
        rw [if_neg h1, if_neg h2, if_neg h3] at h
        cases h
def noteOf (r : R) : Option (Nt × Nat) := (dec r.kind r.pay).map fun t => (t, r.at_)
def notesR (rs : List R) : List (Nt × Nat) := rs.filterMap noteOf
theorem notesR_snoc (rs : List R) (r : R) : notesR (rs ++ [r]) = notesR rs ++ (noteOf r).toList := by
  simp only [notesR, List.filterMap_append, List.filterMap_cons, List.filterMap_nil]
  cases noteOf r <;> rfl
def Y.np (y : Y) : Nt × Nat := (y.n, y.p)
/-- The notes of the first records. -/
def NSt (W : World) (E : TypeId) (F : Y → List Value) (K : Nat) (rs : List R) (k : Nat) (v : Value) (w : World) : Prop := ∃ ys, Own F K W.heap.size E w v ys ∧ Below W.heap.size W w ∧ ys.map Y.np = notesR (rs.take k) ∧ ys.length ≤ k ∧ ∀ y ∈ ys, ∀ ad, y.A = some ad → W.heap.size ≤ ad.block
theorem NSt.start (W : World) (E : TypeId) (F : Y → List Value) (K : Nat) (rs : List R) : NSt W E F K rs 0 (.slice none 0 0) W := ⟨[], Own.nil _ _ _ _ _, Below.refl _ _, rfl, Nat.le_refl _, by simp⟩
theorem NSt.below {W : World} {E : TypeId} {F : Y → List Value} {K : Nat} {rs : List R} {k : Nat} {v : Value} {w w' : World} (h : NSt W E F K rs k v w) (hb : Below w.heap.size w w') : NSt W E F K rs k v w' := by
  obtain ⟨ys, h1, h2, h3, h4⟩ := h
  exact ⟨ys, h1.below hb, h2.trans (hb.mono h2.size), h3, h4⟩
theorem NSt.skip {W : World} {E : TypeId} {F : Y → List Value} {K : Nat} {rs : List R} {k : Nat} {v : Value} {w : World} {r : R} (h : NSt W E F K rs k v w) (hr : rs[k]? = some r) (hd : dec r.kind r.pay = none) : NSt W E F K rs (k + 1) v w := by
  obtain ⟨ys, h1, h2, h3, h4⟩ := h
  exact ⟨ys, h1, h2, by rw [take_next hr, notesR_snoc, h3]; simp [noteOf, hd], by omega, h4.2⟩
theorem NSt.more {W : World} {E : TypeId} {F : Y → List Value} {K : Nat} {rs : List R} {k : Nat} {v v' : Value} {w w' : World} {r : R} {t : Nt} {ys : List Y} {A : Option Addr} {m c : Nat} (hr : rs[k]? = some r) (hd : dec r.kind r.pay = some t) (h1 : Own F K W.heap.size E w v ys) (h2 : Below W.heap.size W w) (h3 : ys.map Y.np = notesR (rs.take k)) (h4 : ys.length ≤ k ∧ ∀ y ∈ ys, ∀ ad, y.A = some ad → W.heap.size ≤ ad.block) (hA : ∀ ad, A = some ad → W.heap.size ≤ ad.block) (ho : Own F K W.heap.size E w' v' (ys ++ [⟨t, r.at_, A, m, c⟩])) (hg : w.grownBy w' v.ownBlock) : NSt W E F K rs (k + 1) v' w' :=
  ⟨_, ho, grown_below h2 h1 hg, by rw [List.map_append, h3, take_next hr, notesR_snoc]; simp [noteOf, hd, Y.np], by simp; omega, fun y hy ad e => by
    rcases List.mem_append.1 hy with hy | hy
    · exact h4.2 y hy ad e
    · simp at hy
      subst hy
      exact hA ad e⟩
theorem readsBelow {w w' : World} {A : Option Addr} {n : Nat} {xs : List X} (h : Reads w A n xs) (hb : Below w.heap.size w w') : Reads w' A n xs :=
  ⟨h.1, fun k hk => by
    obtain ⟨b, o, x, h1, h2, h3, h4, h5, h6⟩ := h.2 k hk
    have hlt := block_lt_of_cell h3
    exact ⟨b, o, x, h1, h2, by rw [hb.cell (p := ⟨b, o + k * 3, none⟩) hlt]; exact h3, by rw [hb.cell (p := ⟨b, o + k * 3 + 1, none⟩) hlt]; exact h4, by rw [hb.cell (p := ⟨b, o + k * 3 + 2, none⟩) hlt]; exact h5, h6.below h6.lt hb⟩⟩
set_option maxHeartbeats 2000000 in
theorem notesOf_any (W : World) (A : Option Addr) (n c : Nat) (xs : List X) (hR : Reads W A n xs) (hp : ∀ x ∈ xs, x.r.pay.length ≤ 30000) (hn : n ≤ 16000000) (hr : Fit W) :
    Calls Tryz.prog 175 #[.slice A n c] W fun x w' => ∃ v, x = .returned v ∧ NSt W 286 cA 8 (xs.map X.r) n v w' := by
  have HR := Lib.hid hR
  have HP := Lib.hid hp
  have HF := Lib.hid hr
  have HS0 := Lib.hid (NSt.start W 286 cA 8 (xs.map X.r))
  clear hR hp hr
  go_enter Tryz.func175, Tryz.ntmps175
  go_wp2
  go_loopw [3, 10] (fun v i wr => ∃ k : Nat, k ≤ n ∧ i = .int .i64 k ∧ Hid (NSt W 286 cA 8 (xs.map X.r) k v wr)) (fun _ i _ => n - (intOf i).toNat)
  case atStart => exact ⟨0, Nat.zero_le _, rfl, HS0⟩
  case round =>
    obtain ⟨k, hk, rfl, HS⟩ := hrel
    by_cases hlt : k < n
    · obtain ⟨ys, s1, s2, s3, s4⟩ := HS.out
      obtain ⟨b, o, x, rfl, hx, c0, c1, c2, cB⟩ := (readsBelow HR.out s2).2 k hlt
      have hpl := HP.out x (List.mem_of_getElem? hx)
      have hxr : (xs.map X.r)[k]? = some x.r := by rw [List.getElem?_map, hx]; rfl
      obtain ⟨⟨a, kd, pay⟩, Ax, nx, cx⟩ := x
      simp only [] at c0 c1 c2 cB hpl hxr
      have hnx : nx ≤ 100000 := by have := cB.1; omega
      have HXR := Lib.hid hxr
      have S1 := Lib.hid s1
      have S2 := Lib.hid s2
      have S3 := Lib.hid s3
      have S4 := Lib.hid s4
      have hlt' : (k : Int) < (n : Int) := by omega
      obtain ⟨g0, hg0⟩ : ∃ g0, g0 = wr.alloc (.cells #[.int .i64 (a : Nat), .int .i64 (kd : Nat), .slice Ax nx cx] 282) := ⟨_, rfl⟩
      have HB0 := Lib.hid (show Below wr.heap.size wr g0 by rw [hg0]; exact (Below.refl _ _).alloc (Nat.le_refl _) _)
      have HG0 := Lib.hid hg0
      cases hd : dec kd pay with
      | none =>
        have HD := Lib.hid (dec_none g0 kd Ax nx cx pay (cB.below cB.lt HB0.out) hnx (HF.out.below (s2.trans (HB0.out.mono s2.size))) hd)
        have HSk := Lib.hid (HS.out.skip hxr hd)
        clear hx hxr hd s1 s2 s3 s4 cB hpl hnx hg0 S1 S2 S3 S4 HXR
        go_wp2_with fail
        rw [← HG0.out]
        refine HD.out.mono ?_
        rintro x w1 ⟨rfl, hb1⟩
        have HS1 := Lib.hid (HSk.out.below (HB0.out.trans (hb1.mono HB0.out.size)))
        clear hb1 HD HSk c0 c1 c2
        go_wp2_with fail
        go_roundw
        case rel => first | exact ⟨k + 1, by omega, by go_num, Lib.hid (HS1.out.below ((Below.refl _ _).alloc (Nat.le_refl _) _))⟩ | ((repeat apply Exists.intro); exact ⟨⟨k + 1, by omega, by go_num, Lib.hid (HS1.out.below ((Below.refl _ _).alloc (Nat.le_refl _) _))⟩, rfl⟩)
        case measure => (show n - ((k : Int) + 1).toNat < n - k; omega)
      | some t =>
        have HD := Lib.hid (dec_some g0 kd Ax nx cx pay (cB.below cB.lt HB0.out) hnx (HF.out.below (s2.trans (HB0.out.mono s2.size))) t hd)
        have HX := Lib.hid (fun w1 (h : Below g0.heap.size g0 w1) => show w1.heap[wr.heap.size]? = some (.cells #[.int .i64 (a : Nat), .int .i64 (kd : Nat), .slice Ax nx cx] 282 (0, 0)) from (bod.boxed (w := wr) (by rw [← hg0]; exact h)).1)
        have HDD := Lib.hid hd
        clear hx hxr hd s1 s2 s3 s4 cB hpl hnx hg0
        go_wp2_with fail
        rw [← HG0.out]
        refine HD.out.mono ?_
        rintro x w1 ⟨A', m', c', rfl, hnew⟩
        have HNW := Lib.hid hnew
        have hb1 := HB0.out.trans (hnew.2.2.2.mono HB0.out.size)
        have d0 := bod.cell_at (HX.out _ hnew.2.2.2) 0 _ rfl
        have O1 := Lib.hid (S1.out.below hb1)
        have O2 := Lib.hid (S2.out.trans (hb1.mono S2.out.size))
        have HGT := Lib.hid (show W.heap.size ≤ wr.heap.size ∧ wr.heap.size ≤ g0.heap.size from ⟨S2.out.size, HB0.out.size⟩)
        have HOA := Lib.hid (show ∀ ad, A' = some ad → 0 < m' → u3.ownBlock ≠ some ad.block from fun ad e h0 e' => by
          have h1 := hnew.2.2.1 ad e
          have h2 := (S1.out.lt e').2
          have h3 := HB0.out.size
          omega)
        have hz : wr.heap.size < w1.heap.size := Nat.lt_of_lt_of_le (by rw [HG0.out]; simp) hnew.2.2.2.size
        clear hnew hb1 HD c0 c1 c2 HX S1 S2
        obtain ⟨tk, te, ts, tu, td, tf, to_⟩ := t
        simp only [] at HNW HDD ⊢
        go_wp2_with (at_builtin; refine wpList_append_own fA (by decide) (by decide) (by decide) rfl rfl (.tmp 24) (.tmp 29) 245 286 rfl Tryz.underlying245 infoA W.heap.size u3 ys rfl (O1.out.alloc _) (Nat.le_trans O2.out.size (by simp)) (by have := S4.out.1; omega) ⟨⟨tk, te, ts, tu, td, tf, to_⟩, a, A', m', c'⟩ (0, 0) _ (by simp) rfl _ rfl ⟨HNW.out.1.alloc _, HNW.out.2.1⟩ HOA.out ?_; intro v' w2 ho hg hat; have HS2 := Lib.hid (NSt.more HXR.out HDD.out (O1.out.alloc _) (O2.out.alloc O2.out.size _) S3.out S4.out (fun ad e => Nat.le_trans (Nat.le_trans HGT.out.1 HGT.out.2) (HNW.out.2.2.1 ad e)) ho hg); clear ho hg hat)
        go_roundw
        case rel => first | exact ⟨k + 1, by omega, by go_num, HS2⟩ | ((repeat apply Exists.intro); exact ⟨⟨k + 1, by omega, by go_num, HS2⟩, rfl⟩)
        case measure => (show n - ((k : Int) + 1).toNat < n - k; omega)
    · obtain rfl : k = n := by omega
      go_wp2
      go_ret
      exact ⟨_, rfl, HS.out⟩
end Go.Proofs.YthhflkgngencdaaGreatDoor.lg
namespace Go.Proofs.YthhflkgngencdaaGreatDoor.lg
open Go.ChangeShapes Go.WideShapes Go.ChangeAt Go.RowKit
open Go.Proofs.YthhflkgngencdaaGreatDoor.codec (Bytes)
set_option linter.unusedVariables false
set_option maxRecDepth 100000
set_option linter.unusedSimpArgs false

def nts (ys : List Y) : List Nt := ys.map Y.n
theorem nts_at {ys : List Y} {k : Nat} {y : Y} (h : ys[k]? = some y) : (nts ys)[k]? = some y.n := by rw [nts, List.getElem?_map, h]; rfl
theorem nts_len (ys : List Y) : (nts ys).length = ys.length := List.length_map _
set_option maxHeartbeats 1000000 in
theorem lastName_any (W : World) (A : Option Addr) (n c : Nat) (ys : List Y) (hR : Rd cA 8 W A n ys) (hn : n ≤ 16000000) :
    Calls Tryz.prog 176 #[.slice A n c] W fun x w' => x = .returned (.string (nmL (nts ys))) ∧ Below W.heap.size W w' := by
  have HR := Lib.hid hR
  clear hR
  go_enter Tryz.func176, Tryz.ntmps176
  go_wp2
  go_loopw [3, 8] (fun s i wr => ∃ k : Nat, k ≤ n ∧ i = .int .i64 k ∧ s = .string (nmL ((nts ys).take k)) ∧ Hid (Below W.heap.size W wr)) (fun _ i _ => n - (intOf i).toNat)
  case atStart => exact ⟨0, Nat.zero_le _, rfl, rfl, Lib.hid (Below.refl _ _)⟩
  case round =>
    obtain ⟨k, hk, rfl, rfl, HB⟩ := hrel
    by_cases hlt : k < n
    · obtain ⟨b, o, ⟨⟨tk, te, ts, tu, td, tf, to_⟩, a, A', m', c'⟩, rfl, hx, c0, c1, c2, c3, c4, c5, c6, c7, -⟩ := (HR.out.below HB.out).at8 k hlt
      have HT := Lib.hid (congrArg nmL (take_next (nts_at hx)))
      simp only [nmL_snoc] at c0 c1 c2 c3 c4 c5 c6 c7 HT
      have hlt' : (k : Int) < (n : Int) := by omega
      clear hx
      by_cases h3 : tk = 3
      · subst h3
        have HE : Hid (nmL ((nts ys).take (k + 1)) = nmL ((nts ys).take k)) := by rw [HT.out]; exact Lib.hid (if_pos rfl)
        clear HT
        go_wp2
        go_roundw
        case rel => first | exact ⟨k + 1, by omega, by go_num, by rw [HE.out], Lib.hid (HB.out.alloc HB.out.size _)⟩ | ((repeat apply Exists.intro); exact ⟨⟨k + 1, by omega, by go_num, by rw [HE.out], Lib.hid (HB.out.alloc HB.out.size _)⟩, rfl⟩)
        case measure => (show n - ((k : Int) + 1).toNat < n - k; omega)
      · have HE : Hid (nmL ((nts ys).take (k + 1)) = ts) := by rw [HT.out]; exact Lib.hid (if_neg h3)
        have h3' : ((tk : Int) != 3) = true := by rw [bne_iff_ne]; omega
        clear HT h3
        go_wp2
        go_roundw
        case rel => first | exact ⟨k + 1, by omega, by go_num, by rw [HE.out], Lib.hid (HB.out.alloc HB.out.size _)⟩ | ((repeat apply Exists.intro); exact ⟨⟨k + 1, by omega, by go_num, by rw [HE.out], Lib.hid (HB.out.alloc HB.out.size _)⟩, rfl⟩)
        case measure => (show n - ((k : Int) + 1).toNat < n - k; omega)
    · obtain rfl : k = n := by omega
      have HE : Hid ((nts ys).take k = nts ys) := Lib.hid (List.take_of_length_le (by rw [nts_len, HR.out.1]; omega))
      go_wp2
      go_ret
      exact ⟨by rw [HE.out]; rfl, HB.out⟩
set_option maxHeartbeats 1000000 in
theorem greatestEpoch_any (W : World) (A : Option Addr) (n c : Nat) (ys : List Y) (hR : Rd cA 8 W A n ys) (hn : n ≤ 16000000) :
    Calls Tryz.prog 177 #[.slice A n c] W fun x w' => x = .returned (.int .u32 (epo (nts ys) : Nat)) ∧ Below W.heap.size W w' := by
  have HR := Lib.hid hR
  clear hR
  go_enter Tryz.func177, Tryz.ntmps177
  go_wp2
  go_loopw [3, 8] (fun s i wr => ∃ k : Nat, k ≤ n ∧ i = .int .i64 k ∧ s = .int .u32 (epo ((nts ys).take k) : Nat) ∧ Hid (Below W.heap.size W wr)) (fun _ i _ => n - (intOf i).toNat)
  case atStart => exact ⟨0, Nat.zero_le _, rfl, rfl, Lib.hid (Below.refl _ _)⟩
  case round =>
    obtain ⟨k, hk, rfl, rfl, HB⟩ := hrel
    by_cases hlt : k < n
    · obtain ⟨b, o, ⟨⟨tk, te, ts, tu, td, tf, to_⟩, a, A', m', c'⟩, rfl, hx, c0, c1, c2, c3, c4, c5, c6, c7, -⟩ := (HR.out.below HB.out).at8 k hlt
      have HT := Lib.hid (congrArg epo (take_next (nts_at hx)))
      simp only [epo_snoc] at c0 c1 c2 c3 c4 c5 c6 c7 HT
      have hlt' : (k : Int) < (n : Int) := by omega
      clear hx
      generalize epo ((nts ys).take k) = g at *
      go_wp2
      go_roundw
      case rel => first | exact ⟨k + 1, by omega, by go_num, by rw [HT.out]; congr 1; omega, Lib.hid (HB.out.alloc HB.out.size _)⟩ | ((repeat apply Exists.intro); exact ⟨⟨k + 1, by omega, by go_num, by rw [HT.out]; congr 1; omega, Lib.hid (HB.out.alloc HB.out.size _)⟩, rfl⟩)
      case measure => (show n - ((k : Int) + 1).toNat < n - k; omega)
    · obtain rfl : k = n := by omega
      have HE : Hid ((nts ys).take k = nts ys) := Lib.hid (List.take_of_length_le (by rw [nts_len, HR.out.1]; omega))
      go_wp2
      go_ret
      exact ⟨by rw [HE.out]; rfl, HB.out⟩
set_option maxHeartbeats 1000000 in
theorem nextUID_any (W : World) (A : Option Addr) (n c E : Nat) (ys : List Y) (hR : Rd cA 8 W A n ys) (hn : n ≤ 16000000) (hok : ∀ y ∈ ys, y.n.ok) :
    Calls Tryz.prog 179 #[.slice A n c, .int .u32 E] W fun x w' => x = .returned (.int .u32 (nxt (top E (nts ys)) : Nat)) ∧ Below W.heap.size W w' := by
  have HR := Lib.hid hR
  have HTL := Lib.hid (fun k => top_lt (E := E) (l := (nts ys).take k) (fun t ht => by
    obtain ⟨y, hy, rfl⟩ := List.mem_map.1 (List.mem_of_mem_take ht)
    exact hok y hy))
  clear hR hok
  go_enter Tryz.func179, Tryz.ntmps179
  go_wp2
  go_loopw [5, 10] (fun s i wr => ∃ k : Nat, k ≤ n ∧ i = .int .i64 k ∧ s = .int .u32 (top E ((nts ys).take k) : Nat) ∧ Hid (Below W.heap.size W wr)) (fun _ i _ => n - (intOf i).toNat)
  case atStart => exact ⟨0, Nat.zero_le _, rfl, rfl, Lib.hid (Below.refl _ _)⟩
  case round =>
    obtain ⟨k, hk, rfl, rfl, HB⟩ := hrel
    by_cases hlt : k < n
    · obtain ⟨b, o, ⟨⟨tk, te, ts, tu, td, tf, to_⟩, a, A', m', c'⟩, rfl, hx, c0, c1, c2, c3, c4, c5, c6, c7, -⟩ := (HR.out.below HB.out).at8 k hlt
      have HT := Lib.hid (congrArg (top E) (take_next (nts_at hx)))
      simp only [top_snoc] at c0 c1 c2 c3 c4 c5 c6 c7 HT
      have hlt' : (k : Int) < (n : Int) := by omega
      clear hx
      generalize top E ((nts ys).take k) = g at *
      by_cases h3 : te = E
      · have HE : Hid (top E ((nts ys).take (k + 1)) = max g tu) := by rw [HT.out]; exact Lib.hid (if_pos h3)
        have h3' : ((te : Int) == (E : Int)) = true := by rw [beq_iff_eq]; omega
        clear HT h3
        go_wp2
        go_roundw
        case rel => first | exact ⟨k + 1, by omega, by go_num, by rw [HE.out]; congr 1; omega, Lib.hid (HB.out.alloc HB.out.size _)⟩ | ((repeat apply Exists.intro); exact ⟨⟨k + 1, by omega, by go_num, by rw [HE.out]; congr 1; omega, Lib.hid (HB.out.alloc HB.out.size _)⟩, rfl⟩)
        case measure => (show n - ((k : Int) + 1).toNat < n - k; omega)
      · have HE : Hid (top E ((nts ys).take (k + 1)) = g) := by rw [HT.out]; exact Lib.hid (if_neg h3)
        have h3' : ((te : Int) == (E : Int)) = false := by rw [beq_eq_false_iff_ne]; omega
        clear HT h3
        go_wp2
        go_roundw
        case rel => first | exact ⟨k + 1, by omega, by go_num, by rw [HE.out], Lib.hid (HB.out.alloc HB.out.size _)⟩ | ((repeat apply Exists.intro); exact ⟨⟨k + 1, by omega, by go_num, by rw [HE.out], Lib.hid (HB.out.alloc HB.out.size _)⟩, rfl⟩)
        case measure => (show n - ((k : Int) + 1).toNat < n - k; omega)
    · obtain rfl : k = n := by omega
      have HE : Hid ((nts ys).take k = nts ys) := Lib.hid (List.take_of_length_le (by rw [nts_len, HR.out.1]; omega))
      have hg := HTL.out k
      rw [HE.out] at hg ⊢
      have HNX : Hid ((nxt (top E (nts ys)) : Nat) = (min ((top E (nts ys) : Nat) : Int) 4294967294 + 1 : Int)) := Lib.hid (by unfold nxt; omega)
      obtain ⟨g, hge⟩ : ∃ g, g = top E (nts ys) := ⟨_, rfl⟩
      rw [← hge] at hg HNX ⊢
      have HG := Lib.hid hge
      clear hge
      go_wp2
      go_ret
      exact ⟨by rw [← HG.out, HNX.out]; rfl, HB.out⟩
set_option maxHeartbeats 1000000 in
theorem isClean_any (W : World) (A : Option Addr) (n c E : Nat) (ys : List Y) (hR : Rd cL 6 W A n ys) (hn : n ≤ 16000000) :
    Calls Tryz.prog 180 #[.slice A n c, .int .u32 E] W fun x w' => x = .returned (.bool (cl E (nts ys)).2) ∧ Below W.heap.size W w' := by
  have HR := Lib.hid hR
  clear hR
  go_enter Tryz.func180, Tryz.ntmps180
  go_wp2
  go_loopw [5, 11] (fun s i wr => ∃ k lu : Nat, k ≤ n ∧ i = .int .i64 k ∧ s = .int .u32 lu ∧ Hid (cl E ((nts ys).take k) = (lu, true)) ∧ Hid (Below W.heap.size W wr)) (fun _ i _ => n - (intOf i).toNat)
  case atStart => exact ⟨0, 0, Nat.zero_le _, rfl, rfl, Lib.hid rfl, Lib.hid (Below.refl _ _)⟩
  case round =>
    obtain ⟨k, lu, hk, rfl, rfl, HC, HB⟩ := hrel
    by_cases hlt : k < n
    · obtain ⟨b, o, ⟨⟨tk, te, ts, tu, td, tf, to_⟩, a, A', m', c'⟩, rfl, hx, c0, c1, c2, c3, c4, c5, -⟩ := (HR.out.below HB.out).at6 k hlt
      have HT := Lib.hid ((congrArg (cl E) (take_next (nts_at hx))).trans (cl_snoc E _ _))
      rw [HC.out] at HT
      simp only [stp, Bool.true_and] at c0 c1 c2 c3 c4 c5 HT
      have hlt' : (k : Int) < (n : Int) := by omega
      clear hx
      have stop : ∀ (h : ¬ (te = E ∧ lu < tu ∧ tu < 4294967295)), Hid ((cl E (nts ys)).2 = false) := fun h => Lib.hid (cl_stop (i := k + 1) (by rw [HT.out]; exact decide_eq_false h))
      by_cases h1 : te = E
      · have h1' : ((te : Int) != (E : Int)) = false := by rw [bne_eq_false_iff_eq]; omega
        by_cases h2 : lu < tu
        · have h2' : decide (tu ≤ lu) = false := by rw [decide_eq_false_iff_not]; omega
          by_cases h4 : tu < 4294967295
          · have h4' : decide ((4294967295 : Int) ≤ (tu : Int)) = false := by rw [decide_eq_false_iff_not]; omega
            have HE : Hid (cl E ((nts ys).take (k + 1)) = (tu, true)) := by rw [HT.out]; exact Lib.hid (by rw [decide_eq_true ⟨h1, h2, h4⟩])
            clear HT stop h1 h2 h4 HC
            go_wp2
            go_roundw
            case rel => first | exact ⟨k + 1, tu, by omega, by go_num, rfl, HE, Lib.hid (HB.out.alloc HB.out.size _)⟩ | ((repeat apply Exists.intro); exact ⟨⟨k + 1, tu, by omega, by go_num, rfl, HE, Lib.hid (HB.out.alloc HB.out.size _)⟩, rfl⟩)
            case measure => (show n - ((k : Int) + 1).toNat < n - k; omega)
          · have h4' : decide ((4294967295 : Int) ≤ (tu : Int)) = true := by rw [decide_eq_true_iff]; omega
            have HE := stop (fun h => h4 h.2.2)
            clear HT stop h1 h2 h4 HC
            go_wp2
            go_ret
            exact ⟨by rw [HE.out]; rfl, HB.out.alloc HB.out.size _⟩
        · have h2' : decide (tu ≤ lu) = true := by rw [decide_eq_true_iff]; omega
          have HE := stop (fun h => h2 h.2.1)
          clear HT stop h1 h2 HC
          go_wp2
          go_ret
          exact ⟨by rw [HE.out]; rfl, HB.out.alloc HB.out.size _⟩
      · have h1' : ((te : Int) != (E : Int)) = true := by rw [bne_iff_ne]; omega
        have HE := stop (fun h => h1 h.1)
        clear HT stop h1 HC
        go_wp2
        go_ret
        exact ⟨by rw [HE.out]; rfl, HB.out.alloc HB.out.size _⟩
    · obtain rfl : k = n := by omega
      have HE : Hid ((cl E (nts ys)).2 = true) := by
        have h := HC.out
        rw [List.take_of_length_le (by rw [nts_len, HR.out.1]; omega)] at h
        exact Lib.hid (by rw [h])
      clear HC
      go_wp2
      go_ret
      exact ⟨by rw [HE.out]; rfl, HB.out⟩
end Go.Proofs.YthhflkgngencdaaGreatDoor.lg
namespace Go.Proofs.YthhflkgngencdaaGreatDoor.lg
open Go.ChangeShapes Go.WideShapes Go.ChangeAt Go.RowKit
open Go.Proofs.YthhflkgngencdaaGreatDoor.codec (Bytes)
open Go.Maps (Keyed IsMap)
set_option linter.unusedVariables false
set_option maxRecDepth 100000
set_option linter.unusedSimpArgs false

theorem laidOutP : laidOutB Tryz.prog = true := by kernel_rfl
theorem rowId : (290 : TypeId) < Tryz.prog.types.size := of_decide_eq_true (by kernel_rfl)
theorem wideId : (match Tryz.prog.underlying 290 with | some (.array _ _) | some (.struct _) => true | _ => false) = true := by kernel_rfl
theorem law : Keyed Tryz.prog 290 := Keyed.of_law (deep_law_laid laidOutP (m := 2) (by omega) rowId (by kernel_rfl) wideId)
theorem keyTypeId : Tryz.prog.keyType 290 = true := by kernel_rfl
theorem cellsId : Tryz.prog.cellsOf 290 = 2 := by kernel_rfl
theorem cellsU32 : Tryz.prog.cellsOf 39 = 1 := by kernel_rfl
theorem sizeT : ∃ m, Tryz.prog.types.size = m + 2 := ⟨_, (by kernel_rfl : Tryz.prog.types.size = (Tryz.prog.types.size - 2) + 2)⟩
theorem zero3 (w : World) : (zeroValue 3).run Tryz.prog w = .ok (.int .i64 0) w := by kernel_rfl
def KL (e u : Nat) : Lit := .string (keyBytes [.int .u32 (e : Nat), .int .u32 (u : Nat)])
theorem wf32 {n : Nat} (h : n < 4294967296) : (Lit.int .u32 (n : Nat)).wf = true := by
  simp [Lit.wf, IntKind.min, IntKind.max, IntKind.signed, IntKind.bits]
  omega
theorem keyOf_id {e u : Nat} (he : e < 4294967296) (hu : u < 4294967296) : keyOf Tryz.prog 290 (.agg #[.int .u32 (e : Nat), .int .u32 (u : Nat)]) = some (KL e u) := by
  obtain ⟨m, hm⟩ := sizeT
  have we := wf32 he
  have wu := wf32 hu
  unfold keyOf
  simp only [Tryz.underlying290]
  rw [if_pos (by simp [keyTypeId, Value.formed, Tryz.underlying290, cellsId]), hm]
  unfold Program.keyLits
  simp only [Tryz.underlying290, Value.cells]
  rw [if_pos (by simp [cellsId])]
  simp [Program.keyLits, cellsU32, Tryz.underlying39, we, wu, KL]
theorem KL_ne {e u e' u' : Nat} (he : e < 4294967296) (hu : u < 4294967296) (he' : e' < 4294967296) (hu' : u' < 4294967296) (h : ¬ (e = e' ∧ u = u')) : KL e u ≠ KL e' u' := by
  intro hk
  have h1 := law.inj (keyOf_id he hu) (hk ▸ keyOf_id he' hu')
  simp at h1
  omega
/-- What the map holds. -/
def GM (D : DataW Unit) (l : List (Nt × Nat)) : Prop := IsMap D ∧ ∀ e u : Nat, e < 4294967296 → u < 4294967296 → Maps.has D (KL e u) = (lastG l e u).isSome ∧ ∀ p, lastG l e u = some p → D.atKey (KL e u) (.lit (.int .i64 0)) = .lit (.int .i64 (p : Nat))
theorem GM.start : GM (.map []) [] := ⟨Maps.isMap_empty, fun e u _ _ => ⟨rfl, fun p h => by cases h⟩⟩
theorem GM.same {D : DataW Unit} {l : List (Nt × Nat)} {x : Nt × Nat} (h : GM D l) (h3 : x.1.k ≠ 3) : GM D (l ++ [x]) := by
  refine ⟨h.1, fun e u he hu => ?_⟩
  rw [lastG_snoc, if_neg (fun h => h3 h.1)]
  exact h.2 e u he hu
theorem GM.put {D : DataW Unit} {l : List (Nt × Nat)} {x : Nt × Nat} (h : GM D l) (h3 : x.1.k = 3) (he : x.1.e < 4294967296) (hu : x.1.u < 4294967296) : GM (D.put (KL x.1.e x.1.u) (.lit (.int .i64 (x.2 : Nat)))) (l ++ [x]) := by
  have hk := law.key (keyOf_id he hu)
  refine ⟨h.1.put _ _, fun e u he' hu' => ?_⟩
  rw [lastG_snoc]
  by_cases hc : x.1.e = e ∧ x.1.u = u
  · obtain ⟨rfl, rfl⟩ := hc
    rw [if_pos ⟨h3, rfl, rfl⟩, Maps.has_put_same h.1 hk, Maps.atKey_put_same h.1 hk]
    exact ⟨rfl, fun p hp => by cases hp; rfl⟩
  · have hne := KL_ne he' hu' he hu (fun hh => hc ⟨hh.1.symm, hh.2.symm⟩)
    rw [if_neg (fun hh => hc hh.2), Maps.has_put_other hne, Maps.atKey_put_other hne]
    exact h.2 e u he' hu'
def GSt (W : World) (mb : Nat) (l : List (Nt × Nat)) (k : Nat) (w : World) : Prop := ∃ D : DataW Unit, w.ownsMap Tryz.prog 290 (plainElem Tryz.prog 3) mb k D ∧ GM D (l.take k) ∧ Below W.heap.size W w ∧ W.heap.size ≤ mb
theorem GSt.alloc {W : World} {mb : Nat} {l : List (Nt × Nat)} {k : Nat} {w : World} (h : GSt W mb l k w) (o : Obj) : GSt W mb l k (w.alloc o) := by
  obtain ⟨D, h1, h2, h3, h4⟩ := h
  exact ⟨D, h1.alloc o, h2, h3.alloc h3.size o, h4⟩
theorem GSt.skip {W : World} {mb : Nat} {l : List (Nt × Nat)} {k : Nat} {w : World} {x : Nt × Nat} (h : GSt W mb l k w) (hx : l[k]? = some x) (h3 : x.1.k ≠ 3) : GSt W mb l (k + 1) w := by
  obtain ⟨D, h1, h2, h3', h4⟩ := h
  exact ⟨D, h1.mono (Nat.le_succ _), by rw [take_next hx]; exact h2.same h3, h3', h4⟩
theorem nps_at {ys : List Y} {k : Nat} {y : Y} (h : ys[k]? = some y) : (ys.map Y.np)[k]? = some (y.n, y.p) := by rw [List.getElem?_map, h]; rfl
set_option maxHeartbeats 1000000 in
theorem lastGone_any (W : World) (A : Option Addr) (n c : Nat) (ys : List Y) (hR : Rd cA 8 W A n ys) (hn : n ≤ 16000000) (hok : ∀ y ∈ ys, y.n.ok ∧ y.p ≤ 16000000) :
    Calls Tryz.prog 206 #[.slice A n c] W fun x w' => ∃ mb, x = .returned (.map (some mb)) ∧ GSt W mb (ys.map Y.np) n w' := by
  have HR := Lib.hid hR
  have HO := Lib.hid hok
  have HS0 : Hid (GSt W W.heap.size (ys.map Y.np) 0 (W.alloc (.map #[] 0))) := Lib.hid ⟨_, World.ownsMap_made _ _ _ _, GM.start, (Below.refl _ _).alloc (Nat.le_refl _) _, Nat.le_refl _⟩
  clear hR hok
  have hmm := @run_makeMap Tryz.prog
  go_enter Tryz.func206, Tryz.ntmps206
  go_wp2
  clear hmm
  go_loopw [9] (fun i wr => ∃ k : Nat, k ≤ n ∧ i = .int .i64 k ∧ Hid (GSt W W.heap.size (ys.map Y.np) k wr)) (fun i _ => n - (intOf i).toNat)
  case atStart => exact ⟨0, Nat.zero_le _, rfl, HS0⟩
  case round =>
    obtain ⟨k, hk, rfl, HS⟩ := hrel
    by_cases hlt : k < n
    · obtain ⟨D, g1, g2, g3, g4⟩ := HS.out
      obtain ⟨b, o, ⟨⟨tk, te, ts, tu, td, tf, to_⟩, a, A', m', c'⟩, rfl, hx, c0, c1, c2, c3, c4, c5, c6, c7, -⟩ := (HR.out.below g3).at8 k hlt
      have hyo := HO.out _ (List.mem_of_getElem? hx)
      have HX := Lib.hid (nps_at hx)
      simp only [] at c0 c1 c2 c3 c4 c5 c6 c7 hyo HX
      have hlt' : (k : Int) < (n : Int) := by omega
      have hE : te < 4294967296 := hyo.1.2.1
      have hU : tu < 4294967296 := hyo.1.2.2
      have hP := hyo.2
      clear hx hyo
      by_cases h3 : tk = 3
      · subst h3
        have G1 := Lib.hid g1
        have G2 := Lib.hid g2
        have G3 := Lib.hid g3
        clear g1 g2 g3 g4
        have HKY := Lib.hid (keyOf_id hE hU)
        have HGP : Hid (GM (D.put (KL te tu) (.lit (.int .i64 (a : Nat)))) ((ys.map Y.np).take (k + 1))) := Lib.hid (by rw [take_next HX.out]; exact GM.put (x := (⟨3, te, ts, tu, td, tf, to_⟩, a)) G2.out rfl hE hU)
        have HP := Lib.hid hP
        clear hE hU hP
        go_wp2_with (at_mapUpdate; refine wpList_mapUpdate_own _ rfl _ _ _ 287 rfl 290 3 law Tryz.underlying287 (plainElem Tryz.prog 3) W.heap.size k D rfl (G1.out.alloc _) (by unfold maxLen; omega) _ _ _ rfl rfl HKY.out _ [] (plainElem_int Tryz.underlying3 (WalkArith.wf_i64 (by have := HP.out; omega))) ?_; intro w1 hown1 hgrow1; have HS1 : Hid (GSt W W.heap.size (ys.map Y.np) (k + 1) w1) := Lib.hid ⟨_, hown1, HGP.out, (G3.out.alloc G3.out.size _).trans ⟨hgrow1.os, hgrow1.tape, hgrow1.output, hgrow1.size, fun i hi => hgrow1.block i (by have := G3.out.size; simp; omega) (fun e => by have := Option.some.inj e; omega)⟩, Nat.le_refl _⟩; clear hown1 hgrow1)
        go_roundw
        case rel => first | exact ⟨k + 1, by omega, by go_num, HS1⟩ | ((repeat apply Exists.intro); exact ⟨⟨k + 1, by omega, by go_num, HS1⟩, rfl⟩)
        case measure => (show n - ((k : Int) + 1).toNat < n - k; omega)
      · have h3' : ((tk : Int) == 3) = false := by rw [beq_eq_false_iff_ne]; omega
        have HSk := Lib.hid (HS.out.skip HX.out h3)
        clear h3 g1 g2 g3 g4 hE hU hP
        go_wp2
        go_roundw
        case rel => first | exact ⟨k + 1, by omega, by go_num, Lib.hid (HSk.out.alloc _)⟩ | ((repeat apply Exists.intro); exact ⟨⟨k + 1, by omega, by go_num, Lib.hid (HSk.out.alloc _)⟩, rfl⟩)
        case measure => (show n - ((k : Int) + 1).toNat < n - k; omega)
    · obtain rfl : k = n := by omega
      go_wp2
      go_ret
      exact ⟨_, rfl, HS.out⟩
end Go.Proofs.YthhflkgngencdaaGreatDoor.lg
