/- What the small parts of package codec answer. -/
import Derived.Test.YtbhpgghbpibalaaGreatDoorRows
import Derived.WalkKit
import Derived.ProofKit
import Derived.OpenShut
import Derived.ShutString
import Derived.ChangeOld
import Derived.Below
import Derived.Outline
import Derived.WalkSpells
import Derived.Lib.Hide
import Derived.Deep.QuietTactic
import Derived.BigQuiet
import Derived.Deep.OwnRows
import Derived.Deep.WholeRow
import Derived.StillTailTactics
import Derived.Lib.SlBytesConst
import Derived.Laws.CopyOwn
import Derived.Laws.AppendOwnNone
import Derived.Maps.AppendAt
import Derived.Deep.RegionLaw
import Derived.Deep.Heap
import Derived.Test.YtbhpgghbpibalaaGreatDoorMa0
import Derived.Laws.BytesArg
import Derived.Lib.ConvBytes
import Derived.Test.YtbhpgghbpibalaaGreatDoorMs
import Derived.Deep.DeepCutAuto
import Derived.Deep.CutBlock
import Derived.Deep.RegionHeld3
import Derived.Shelf.Vars
import Derived.Lib.SmallJoins
namespace Go.Proofs.YtbhpgghbpibalaaGreatDoor.codec
open Go.ChangeShapes Go.WideShapes Go.ChangeAt Go.RowKit
set_option linter.unusedVariables false
set_option maxRecDepth 100000
set_option linter.unusedSimpArgs false

theorem below_draws {B : Nat} {a w : World} (h : Below B a w) (n : Nat) : Below B a (w.drewN n) := ⟨h.os, h.tape, h.output, h.size, h.block⟩
/-- The slice reads as these bytes. -/
def Bytes (w : World) (A : Option Addr) (n : Nat) (l : List Nat) : Prop :=
  l.length = n ∧ (∀ b ∈ l, b < 256) ∧ (0 < n → ∃ b o, A = some ⟨b, o, none⟩ ∧ ∀ i, i < n → w.cell? ⟨b, o + i, none⟩ = some (.int .u8 (l.getD i 0 : Nat)))
theorem getD_lt256 {l : List Nat} (h : ∀ x ∈ l, x < 256) (i : Nat) : l.getD i 0 < 256 := by
  by_cases hi : i < l.length
  · have : l.getD i 0 = l[i] := by simp [List.getD, hi]
    rw [this]
    exact h _ (List.getElem_mem hi)
  · have : l.getD i 0 = 0 := by simp [List.getD, List.getElem?_eq_none (Nat.le_of_not_lt hi)]
    omega

theorem info5 : (Tryz.prog.info? 5).map (fun i => (i.zero, i.size, i.bytes)) = some (some (.int .u8 0), 1, 1) := by kernel_rfl
def vals (l : List Nat) : List Value := l.map fun x => Value.int .u8 (x : Nat)
theorem vals_append (l m : List Nat) : vals (l ++ m) = vals l ++ vals m := by simp [vals]
theorem vals_length (l : List Nat) : (vals l).length = l.length := by simp [vals]
theorem vals_one (l : List Nat) : ∀ u ∈ vals l, u.oneCell' = true := by
  intro v hv
  obtain ⟨x, _, rfl⟩ := List.mem_map.1 hv
  rfl
theorem add_none (b o j : Nat) : (Addr.mk b o none).add j = ⟨b, o + j, none⟩ := by unfold Addr.add; split <;> simp_all
/-- The cells of bytes. -/
theorem Bytes.cells {w : World} {A : Option Addr} {n : Nat} {l : List Nat} (h : Bytes w A n l) (hn : 0 < n) : ∃ ad, A = some ad ∧ ∀ j v, (vals l)[j]? = some v → w.cell? (ad.add j) = some v := by
  obtain ⟨b, o, rfl, hc⟩ := h.2.2 hn
  refine ⟨_, rfl, fun j v hv => ?_⟩
  have hj : j < l.length := by
    have := (List.getElem?_eq_some_iff.1 hv).1
    simpa [vals] using this
  rw [add_none, hc j (by have := h.1; omega), ← hv]
  simp [vals, List.getD, hj]
theorem Bytes.lt {w : World} {A : Option Addr} {n : Nat} {l : List Nat} (h : Bytes w A n l) : ∀ ad, A = some ad → 0 < n → ad.block < w.heap.size := by
  rintro ad rfl hn
  obtain ⟨b, o, e, hc⟩ := h.2.2 hn
  cases e
  exact block_lt_of_cell (hc 0 hn)
/-- Bytes stay, where their block does. -/
theorem Bytes.kept {w w' : World} {A : Option Addr} {n : Nat} {l : List Nat} (h : Bytes w A n l) (hA : ∀ ad, A = some ad → 0 < n → w'.heap[ad.block]? = w.heap[ad.block]?) : Bytes w' A n l := by
  obtain ⟨h1, h2, h3⟩ := h
  refine ⟨h1, h2, fun hn => ?_⟩
  obtain ⟨b, o, rfl, hc⟩ := h3 hn
  refine ⟨b, o, rfl, fun i hi => ?_⟩
  have hk : w'.heap[b]? = w.heap[b]? := hA ⟨b, o, none⟩ rfl hn
  rw [← hc i hi]
  simp [World.cell?, hk]
theorem Bytes.below {w w' : World} {A : Option Addr} {n B : Nat} {l : List Nat} (h : Bytes w A n l) (hA : ∀ ad, A = some ad → 0 < n → ad.block < B) (hb : Below B w w') : Bytes w' A n l :=
  h.kept fun ad e hn => hb.block _ (hA ad e hn)
theorem Bytes.alloc {w : World} {A : Option Addr} {n : Nat} {l : List Nat} (h : Bytes w A n l) (o : Obj) : Bytes (w.alloc o) A n l :=
  h.kept fun ad e hn => heap_alloc_old w o (h.lt ad e hn)
theorem Bytes.drewN {w : World} {A : Option Addr} {n : Nat} {l : List Nat} (h : Bytes w A n l) (q : Nat) : Bytes (w.drewN q) A n l :=
  h.kept fun ad e hn => rfl

/-- Bytes copied into a row that was made for them. -/
theorem wpList_copied {w : World} {ops : Array Oper} {rest : List Oper} {o : Oper} {a : Act} {Q : Exit → Act → World → Prop} (hgd : o.guard = none) (d s : Operand)
    (ho : o.op = .call { callee := .builtin .copy, args := #[d, s], argTypes := #[22, 22] }) (A : Option Addr) (n c : Nat) (l : List Nat) (h : Bytes w A n l)
    (hd : a.eval d = .slice (some ⟨w.heap.size, 0, none⟩) n n) (hs : a.eval s = .slice A n c)
    (hK : wpList Tryz.prog ops Q rest (a.put o.dst (goInt n)) (w.alloc (.cells (vals l).toArray 5))) : wpList Tryz.prog ops Q (o :: rest) a (w.alloc (.cells (madeCells #[Value.int .u8 0] n) 5)) := by
  have hl := h.1
  rcases Nat.eq_zero_or_pos n with h0 | h0
  · subst h0
    obtain rfl : l = [] := List.eq_nil_of_length_eq_zero hl
    refine wpList_copy_nothing hgd d s 22 22 ho 5 Tryz.underlying22 (by kernel_rfl) _ _ _ _ _ _ hd hs (by simp) ?_
    have e : madeCells #[Value.int .u8 0] 0 = (vals []).toArray := by simp [madeCells, vals]
    rw [e]
    exact hK
  · obtain ⟨ad, rfl, hc⟩ := h.cells h0
    have hsz : (madeCells #[Value.int .u8 0] n).size = n := by simp [madeCells]
    refine wpList_copy_own hgd d s 22 22 ho 5 Tryz.underlying22 (by kernel_rfl) w.heap.size 0 n n ad n c hd hs (madeCells #[Value.int .u8 0] n) 5 (heap_alloc_new w _) (vals l) (by simp [vals, hl]) ?_ (by simp [vals, hl, hsz]) (vals_one l) ?_
    · intro j v hv
      have := hc j v hv
      have hb : (ad.add j).block < w.heap.size := World.block_lt_of_cell? w _ this
      rw [World.cell?_of_block (w := w) (heap_alloc_old w _ hb)]
      exact this
    · have e : ((madeCells #[Value.int .u8 0] n).toList.take 0 ++ (vals l ++ (madeCells #[Value.int .u8 0] n).toList.drop (0 + (vals l).length))).toArray = (vals l).toArray := by
        rw [List.take_zero, List.nil_append, Nat.zero_add, List.drop_eq_nil_of_le (by simp [vals, hl, hsz]), List.append_nil]
      rw [e, World.setRow_alloc_new, vals_length, hl]
      exact hK

/-- Only these blocks may have changed. -/
def Touch (F : Nat → Prop) (w w' : World) : Prop := w'.os = w.os ∧ w'.tape = w.tape ∧ w'.output = w.output ∧ w.heap.size ≤ w'.heap.size ∧ ∀ k, k < w.heap.size → ¬ F k → w'.heap[k]? = w.heap[k]?
theorem Touch.trans {F : Nat → Prop} {a b c : World} (h : Touch F a b) (k : Touch (fun i => F i ∨ a.heap.size ≤ i) b c) : Touch F a c :=
  ⟨k.1.trans h.1, k.2.1.trans h.2.1, k.2.2.1.trans h.2.2.1, Nat.le_trans h.2.2.2.1 k.2.2.2.1, fun i hi hF => (k.2.2.2.2 i (Nat.lt_of_lt_of_le hi h.2.2.2.1) (fun hh => by rcases hh with h | h; exact hF h; omega)).trans (h.2.2.2.2 i hi hF)⟩
theorem Touch.mono {F G : Nat → Prop} {a b : World} (h : Touch F a b) (k : ∀ i, i < a.heap.size → F i → G i) : Touch G a b :=
  ⟨h.1, h.2.1, h.2.2.1, h.2.2.2.1, fun i hi hG => h.2.2.2.2 i hi (fun hF => hG (k i hi hF))⟩
theorem Touch.refl (F : Nat → Prop) (w : World) : Touch F w w := ⟨rfl, rfl, rfl, Nat.le_refl _, fun _ _ _ => rfl⟩
theorem Touch.alloc {F : Nat → Prop} {a b : World} (h : Touch F a b) (o : Obj) : Touch F a (b.alloc o) :=
  ⟨h.1, h.2.1, h.2.2.1, by have := h.2.2.2.1; simp; omega, fun i hi hF => (heap_alloc_old b o (Nat.lt_of_lt_of_le hi h.2.2.2.1)).trans (h.2.2.2.2 i hi hF)⟩
theorem Touch.drewN {F : Nat → Prop} {a b : World} (h : Touch F a b) (q : Nat) : Touch F a (b.drewN q) := h
theorem Touch.setCell {F : Nat → Prop} {a b : World} (h : Touch F a b) (ad : Addr) (hF : a.heap.size ≤ ad.block ∨ F ad.block) (v : Value) : Touch F a (b.setCell ad v) :=
  ⟨h.1, h.2.1, h.2.2.1, by have := h.2.2.2.1; simp; omega, fun i hi hi' => (heap_setCell_other _ _ _ _ (fun e => by subst e; rcases hF with h | h; omega; exact hi' h)).trans (h.2.2.2.2 i hi hi')⟩
theorem Touch.below {F : Nat → Prop} {a b c : World} (h : Touch F a b) (hb : Below b.heap.size b c) : Touch F a c :=
  h.trans ⟨hb.os, hb.tape, hb.output, hb.size, fun k hk _ => hb.block k hk⟩
theorem Touch.toBelow {F : Nat → Prop} {a b : World} (h : Touch F a b) (B : Nat) (hB : B ≤ a.heap.size) (hF : ∀ i, i < B → ¬ F i) : Below B a b := ⟨h.1, h.2.1, h.2.2.1, h.2.2.2.1, fun i hi => h.2.2.2.2 i (by omega) (hF i hi)⟩
theorem Bytes.touch {F : Nat → Prop} {w w' : World} {A : Option Addr} {n : Nat} {l : List Nat} (h : Bytes w A n l) (hA : ∀ ad, A = some ad → 0 < n → ¬ F ad.block) (hb : Touch F w w') : Bytes w' A n l :=
  h.kept fun ad e hn => hb.2.2.2.2 _ (h.lt ad e hn) (hA ad e hn)

/-- Bytes, nil or not, put behind bytes of one's own. -/
theorem run_append_bytes (w : World) (ty : TypeId) (base : Nat) (v : Value) (M : List Nat) (hown : w.ownsRow base 5 1 v M.length (vals M)) (hbase : base ≤ w.heap.size)
    (A : Option Addr) (m c : Nat) (L : List Nat) (hB : Bytes w A m L) (hnil : A = none → c = 0) (hbound : M.length + m ≤ 1000000000) :
    ∃ v' w', (Builtin.append_ #[22, 22] ty #[v, .slice A m c]).run Tryz.prog w = .ok v' w' ∧ w'.ownsRow base 5 1 v' (M ++ L).length (vals (M ++ L)) ∧ w.grownBy w' v.ownBlock ∧ (v' = .slice none 0 0 ↔ v = .slice none 0 0 ∧ m = 0) ∧ (v'.ownBlock = v.ownBlock ∨ v'.ownBlock = some w.heap.size) := by
  obtain ⟨i0, hi, hz0, hz1, hz2⟩ := info_parts info5
  have hl := hB.1
  cases A with
  | none =>
    have hm : m = 0 := by
      rcases Nat.eq_zero_or_pos m with h0 | h0
      · exact h0
      · obtain ⟨b, o', e, _⟩ := hB.2.2 h0
        cases e
    have hc := hnil rfl
    subst hm hc
    obtain rfl : L = [] := List.eq_nil_of_length_eq_zero hl
    refine ⟨v, w, ?_, by simpa using hown, World.grownBy.refl w _, by simp, .inl rfl⟩
    rcases hown.2 with ⟨rfl, h0⟩ | ⟨g, cap, cur, rfl, _, hg, hnc, _⟩
    · simp [Builtin.append_, run_underlying Tryz.underlying22, sizeOf, typeInfo, hi, Builtin.lenOf, Builtin.firstCells, loadCells, loadCellsFrom]
    · simp [Builtin.append_, run_underlying Tryz.underlying22, sizeOf, typeInfo, hi, Builtin.lenOf, Builtin.firstCells, hnc, storeCells, loadCells, loadCellsFrom]
  | some ad =>
    obtain ⟨v', w', hr, h1, h2, h3, h4⟩ := run_append_own_at (P := Tryz.prog) w base 22 ty 5 i0 (.int .u8 0) 1 1 Tryz.underlying22 hi hz0 hz1 hz2 rfl (by decide) v M.length (vals M) hown ad m c (vals L) (by simp [vals, hl]) (fun j u hu => by
      have hj : j < L.length := by
        have := (List.getElem?_eq_some_iff.1 hu).1
        simpa [vals] using this
      obtain ⟨b, o', e, hc⟩ := hB.2.2 (by omega)
      cases e
      rw [add_none, hc j (by omega), ← hu]
      simp [vals, List.getD, hj]) (vals_one L) (by unfold maxLen; omega) (by omega) hbase
    refine ⟨v', w', hr, ?_, h2, h3, h4⟩
    rw [List.length_append, hl, vals_append]
    exact h1
theorem wp_append_bytes {o : Oper} {a : Act} {w : World} {K : Act → World → Prop} {Q : Exit → Act → World → Prop} (s x : Operand)
    (ho : o.op = .call { callee := .builtin .append, args := #[s, x], argTypes := #[22, 22] })
    (base : Nat) (v : Value) (M : List Nat) (hs : a.eval s = v) (hown : w.ownsRow base 5 1 v M.length (vals M)) (hbase : base ≤ w.heap.size)
    (A : Option Addr) (m c : Nat) (L : List Nat) (hx : a.eval x = .slice A m c) (hB : Bytes w A m L) (hnil : A = none → c = 0) (hbound : M.length + m ≤ 1000000000)
    (h : ∀ v' w', w'.ownsRow base 5 1 v' (M ++ L).length (vals (M ++ L)) → w.grownBy w' v.ownBlock → (v' = .slice none 0 0 ↔ v = .slice none 0 0 ∧ m = 0) → (v'.ownBlock = v.ownBlock ∨ v'.ownBlock = some w.heap.size) → K (a.put o.dst v') w') : o.wp Tryz.prog a w K Q := by
  obtain ⟨v', w', hr, h1, h2, h3, h4⟩ := run_append_bytes w o.type base v M hown hbase A m c L hB hnil hbound
  unfold Oper.wp execOp
  simp only [ho, resolve, invoke, builtin, Sem.run_bind, Sem.run_pure, Result.andThen_ok, List.map_toArray, List.map_cons, List.map_nil, hs, hx, hr]
  exact h v' w' h1 h2 h3 h4
theorem wpList_append_bytes {ops : Array Oper} {rest : List Oper} {o : Oper} {a : Act} {w : World} {Q : Exit → Act → World → Prop} (hgd : o.guard = none) (s x : Operand)
    (ho : o.op = .call { callee := .builtin .append, args := #[s, x], argTypes := #[22, 22] })
    (base : Nat) (v : Value) (M : List Nat) (hs : a.eval s = v) (hown : w.ownsRow base 5 1 v M.length (vals M)) (hbase : base ≤ w.heap.size)
    (A : Option Addr) (m c : Nat) (L : List Nat) (hx : a.eval x = .slice A m c) (hB : Bytes w A m L) (hnil : A = none → c = 0) (hbound : M.length + m ≤ 1000000000)
    (h : ∀ v' w', w'.ownsRow base 5 1 v' (M ++ L).length (vals (M ++ L)) → w.grownBy w' v.ownBlock → (v' = .slice none 0 0 ↔ v = .slice none 0 0 ∧ m = 0) → (v'.ownBlock = v.ownBlock ∨ v'.ownBlock = some w.heap.size) → wpList Tryz.prog ops Q rest (a.put o.dst v') w') : wpList Tryz.prog ops Q (o :: rest) a w :=
  wpList_plain hgd fun _ hK => wp_append_bytes s x ho base v M hs hown hbase A m c L hx hB hnil hbound fun v' w' h1 h2 h3 h4 => hK _ _ (h v' w' h1 h2 h3 h4)
theorem step_append_bytes {ops : Array Oper} {o : Oper} {a : Act} {w : World} {K : Act → World → Prop} {Q : Exit → Act → World → Prop} {E : Prop} (hgd : o.guard = none) (s x : Operand)
    (ho : o.op = .call { callee := .builtin .append, args := #[s, x], argTypes := #[22, 22] })
    (base : Nat) (v : Value) (M : List Nat) (hs : a.eval s = v) (hown : w.ownsRow base 5 1 v M.length (vals M)) (hbase : base ≤ w.heap.size)
    (A : Option Addr) (m c : Nat) (L : List Nat) (hx : a.eval x = .slice A m c) (hB : Bytes w A m L) (hnil : A = none → c = 0) (hbound : M.length + m ≤ 1000000000)
    (h : ∀ v' w', w'.ownsRow base 5 1 v' (M ++ L).length (vals (M ++ L)) → w.grownBy w' v.ownBlock → (v' = .slice none 0 0 ↔ v = .slice none 0 0 ∧ m = 0) → (v'.ownBlock = v.ownBlock ∨ v'.ownBlock = some w.heap.size) → K (a.put o.dst v') w') :
    if Region.wanted o (yielded ops a.tmps) = true then Oper.wp Tryz.prog o a w K Q else E := by
  have hw : Region.wanted o (yielded ops a.tmps) = true := by simp [Region.wanted, hgd]
  rw [if_pos hw]
  exact wp_append_bytes s x ho base v M hs hown hbase A m c L hx hB hnil hbound h

end Go.Proofs.YtbhpgghbpibalaaGreatDoor.codec
namespace Go.Proofs.YtbhpgghbpibalaaGreatDoor.row
open Go.ChangeShapes Go.WideShapes Go.ChangeAt Go.RowKit
set_option linter.unusedVariables false
set_option maxRecDepth 100000
set_option linter.unusedSimpArgs false

structure Fm {α : Type} (F : α → List Value) (K : Nat) : Prop where
  len : ∀ y, (F y).length = K
  one : ∀ y, ∀ u ∈ F y, u.oneCell' = true
def fl {α : Type} (F : α → List Value) (ys : List α) : List Value := ys.flatMap F
theorem fl_snoc {α : Type} (F : α → List Value) (ys : List α) (y : α) : fl F (ys ++ [y]) = fl F ys ++ F y := by simp [fl]
theorem fl_at {α : Type} {F : α → List Value} {K : Nat} (hF : Fm F K) : ∀ (ys : List α) (k : Nat) (y : α), ys[k]? = some y → ∀ j v, (F y)[j]? = some v → (fl F ys)[k * K + j]? = some v
  | [], k, y, h => by simp at h
  | z :: r, 0, y, h => by
    simp at h
    subst h
    intro j v hv
    have hj := (List.getElem?_eq_some_iff.1 hv).1
    rw [Nat.zero_mul, Nat.zero_add, fl, List.flatMap_cons, List.getElem?_append_left hj]
    exact hv
  | z :: r, k + 1, y, h => by
    intro j v hv
    have := fl_at hF r k y (by simpa using h) j v hv
    rw [fl, List.flatMap_cons, List.getElem?_append_right (by rw [hF.len, Nat.add_mul]; omega), hF.len, show (k + 1) * K + j - K = k * K + j by rw [Nat.add_mul]; omega]
    exact this
/-- A row of the call's own. -/
def Own {α : Type} (F : α → List Value) (K B : Nat) (E : TypeId) (w : World) (v : Value) (ys : List α) : Prop :=
  w.ownsRow B E K v ys.length (fl F ys)
theorem Own.nil {α : Type} (F : α → List Value) (K B : Nat) (E : TypeId) (w : World) : Own F K B E w (.slice none 0 0) [] := ⟨by simp [fl], .inl ⟨rfl, rfl⟩⟩
theorem Own.grown {α : Type} {F : α → List Value} {K B : Nat} {E : TypeId} {w w' : World} {v : Value} {ys : List α} {r : Option Nat} (h : Own F K B E w v ys) (hg : w.grownBy w' r) (hv : ∀ b, r = some b → v.ownBlock ≠ some b) : Own F K B E w' v ys := by
  refine World.ownsRow.kept h hg ?_
  cases hr : r with
  | none => cases hb : v.ownBlock <;> simp
  | some b => exact .inr (hv b hr)
theorem Own.below {α : Type} {F : α → List Value} {K B : Nat} {E : TypeId} {w w' : World} {v : Value} {ys : List α} (h : Own F K B E w v ys) (hb : Below w.heap.size w w') : Own F K B E w' v ys :=
  h.grown (r := none) ⟨hb.os, hb.tape, hb.output, hb.size, fun i hi _ => hb.block i hi⟩ (fun b e => by cases e)
theorem Own.alloc {α : Type} {F : α → List Value} {K B : Nat} {E : TypeId} {w : World} {v : Value} {ys : List α} (h : Own F K B E w v ys) (o : Obj) : Own F K B E (w.alloc o) v ys := h.below ((Below.refl _ _).alloc (Nat.le_refl _) _)
theorem Own.lt {α : Type} {F : α → List Value} {K B : Nat} {E : TypeId} {w : World} {v : Value} {ys : List α} (h : Own F K B E w v ys) {g : Nat} (e : v.ownBlock = some g) : B ≤ g ∧ g < w.heap.size := World.ownsRow.lt h g e
/-- What touches other blocks alone keeps the row. -/
theorem Own.touch {α : Type} {F : α → List Value} {K B : Nat} {E : TypeId} {G : Nat → Prop} {w w' : World} {v : Value} {ys : List α} (h : Own F K B E w v ys) (ht : codec.Touch G w w') (hv : ∀ g, v.ownBlock = some g → ¬ G g) : Own F K B E w' v ys := by
  refine ⟨h.1, h.2.imp id fun ⟨g, cap, cur, h1, h2, h3, h4⟩ => ⟨g, cap, cur, h1, h2, ?_, h4⟩⟩
  have hlt := (h.lt (g := g) (by rw [h1]; rfl)).2
  rw [ht.2.2.2.2 g hlt (hv g (by rw [h1]; rfl))]
  exact h3
theorem lit_at {α : Type} {F : α → List Value} {w : World} (y : α) (t : TypeId) (m : Nat × Nat) {g : Nat} (hg : g = w.heap.size) : ∀ j u, (F y)[j]? = some u → (w.alloc (.cells (F y).toArray t m)).cell? ((⟨g, 0, none⟩ : Addr).add j) = some u := by
  intro j u hu
  subst hg
  rw [codec.add_none, Nat.zero_add, World.cell?_alloc_mark]
  simpa using hu
/-- A struct put behind those of the call's own. -/
theorem run_append_own {α : Type} {F : α → List Value} {K by_ : Nat} {z : Value} (hF : Fm F K) (hK : 0 < K) (hK9 : K ≤ 9) (hby : by_ ≤ 1000) (hz : z.cells.size = K) (T E : TypeId) (hT : Tryz.prog.underlying T = some (.slice E)) (hE : (Tryz.prog.info? E).map (fun i => (i.zero, i.size, i.bytes)) = some (some z, K, by_))
    (w : World) (ty : TypeId) (B : Nat) (v : Value) (ys : List α) (h : Own F K B E w v ys) (hB : B ≤ w.heap.size) (hn : ys.length ≤ 20000000) (y : α) (m : Nat × Nat) (g : Nat) (hg : g = w.heap.size) :
    ∃ v' w', (Builtin.append_ #[T, T] ty #[v, .slice (some ⟨g, 0, none⟩) 1 1]).run Tryz.prog (w.alloc (.cells (F y).toArray E m)) = .ok v' w' ∧ Own F K B E w' v' (ys ++ [y]) ∧ w.grownBy w' v.ownBlock ∧ (v'.ownBlock = v.ownBlock ∨ ∃ g, v'.ownBlock = some g ∧ w.heap.size ≤ g) := by
  obtain ⟨i0, hi, hz0, hz1, hz2⟩ := info_parts hE
  have ha := h.alloc (.cells (F y).toArray E m)
  have hby2 : (ys.length + 1) * by_ ≤ 20000001 * 1000 := Nat.mul_le_mul (by omega) hby
  obtain ⟨v', w', hr, h1, h2, h3, h4⟩ := run_append_own_at (P := Tryz.prog) (w.alloc (.cells (F y).toArray E m)) B T ty E i0 _ K by_ hT hi hz0 hz1 hz2 hz hK v ys.length (fl F ys) ha ⟨g, 0, none⟩ 1 1 (F y) (by rw [hF.len, Nat.one_mul]) (lit_at y E m hg) (hF.one y) (by unfold maxLen; omega) (by omega) (by simp; omega)
  have hgr : w.grownBy w' v.ownBlock := ⟨h2.os, h2.tape, h2.output, by have := h2.size; simp at this; omega, fun k hk hne => by
    rw [h2.block k (by simp; omega) hne]
    exact Below.heap_alloc _ _ _ hk⟩
  have hat : v'.ownBlock = v.ownBlock ∨ ∃ g, v'.ownBlock = some g ∧ w.heap.size ≤ g := by
    rcases h4 with h4 | h4
    · exact .inl h4
    · exact .inr ⟨_, h4, by simp⟩
  refine ⟨v', w', hr, ?_, hgr, hat⟩
  unfold Own
  rw [fl_snoc, List.length_append]
  simpa using h1
theorem wpList_append_own {α : Type} {F : α → List Value} {K by_ : Nat} {z : Value} (hF : Fm F K) (hK0 : 0 < K) (hK9 : K ≤ 9) (hby : by_ ≤ 1000) (hz : z.cells.size = K) {ops : Array Oper} {rest : List Oper} {o : Oper} {a : Act} {w : World} {Q : Exit → Act → World → Prop} (hgd : o.guard = none) (s q : Operand) (T E : TypeId)
    (ho : o.op = .call { callee := .builtin .append, args := #[s, q], argTypes := #[T, T] }) (hT : Tryz.prog.underlying T = some (.slice E)) (hE : (Tryz.prog.info? E).map (fun i => (i.zero, i.size, i.bytes)) = some (some z, K, by_))
    (B : Nat) (v : Value) (ys : List α) (hs : a.eval s = v) (h : Own F K B E w v ys) (hB : B ≤ w.heap.size) (hn : ys.length ≤ 20000000) (y : α) (m : Nat × Nat) (g : Nat) (hg : g = w.heap.size) (hy : a.eval q = .slice (some ⟨g, 0, none⟩) 1 1) (L : Array Value) (hL : L = (F y).toArray)
    (hK : ∀ v' w', Own F K B E w' v' (ys ++ [y]) → w.grownBy w' v.ownBlock → (v'.ownBlock = v.ownBlock ∨ ∃ g, v'.ownBlock = some g ∧ w.heap.size ≤ g) → wpList Tryz.prog ops Q rest (a.put o.dst v') w') : wpList Tryz.prog ops Q (o :: rest) a (w.alloc (.cells L E m)) := by
  subst hL
  obtain ⟨v', w', hr, h1, h2, h3⟩ := run_append_own hF hK0 hK9 hby hz T E hT hE w o.type B v ys h hB hn y m g hg
  refine wpList_plain hgd fun _ hK' => ?_
  unfold Oper.wp execOp
  simp only [ho, resolve, invoke, builtin, Sem.run_bind, Sem.run_pure, Result.andThen_ok, List.map_toArray, List.map_cons, List.map_nil, hs, hy, hr]
  exact hK' _ _ (hK v' w' h1 h2 h3)
/-- What grows a row of the call's own keeps what was before the call. -/
theorem grown_below {α : Type} {W w w' : World} {F : α → List Value} {K : Nat} {E : TypeId} {v : Value} {ys : List α} (hb : Below W.heap.size W w) (h : Own F K W.heap.size E w v ys) (hg : w.grownBy w' v.ownBlock) : Below W.heap.size W w' :=
  hb.trans ⟨hg.os, hg.tape, hg.output, hg.size, fun k hk => hg.block k (Nat.lt_of_lt_of_le hk hb.size) (fun e => by
    have := (h.lt e.symm).1
    omega)⟩

/-- A slice that reads so. -/
def Rd {α : Type} (F : α → List Value) (K : Nat) (w : World) (A : Option Addr) (n : Nat) (ys : List α) : Prop := ys.length = n ∧ ∀ k, k < n → ∃ b o y, A = some ⟨b, o, none⟩ ∧ ys[k]? = some y ∧ (∀ j v, (F y)[j]? = some v → w.cell? ⟨b, o + k * K + j, none⟩ = some v)
theorem Rd.below {α : Type} {F : α → List Value} {K : Nat} {w w' : World} {A : Option Addr} {n : Nat} {ys : List α} (h : Rd F K w A n ys) (hb : Below w.heap.size w w') : Rd F K w' A n ys := by
  refine ⟨h.1, fun k hk => ?_⟩
  obtain ⟨b, o, y, h1, h2, h3⟩ := h.2 k hk
  refine ⟨b, o, y, h1, h2, fun j v hv => ?_⟩
  have := h3 j v hv
  rw [hb.cell (p := ⟨b, o + k * K + j, none⟩) (block_lt_of_cell this)]
  exact this
theorem Rd.take {α : Type} {F : α → List Value} {K : Nat} {w : World} {A : Option Addr} {n : Nat} {ys : List α} (h : Rd F K w A n ys) (m : Nat) (hm : m ≤ n) : Rd F K w A m (ys.take m) := by
  refine ⟨by rw [List.length_take, h.1]; omega, fun k hk => ?_⟩
  obtain ⟨b, o, x, h1, h2, h3⟩ := h.2 k (by omega)
  exact ⟨b, o, x, h1, by rw [List.getElem?_take, if_pos hk]; exact h2, h3⟩
theorem Own.rd {α : Type} {F : α → List Value} {K B : Nat} {E : TypeId} {w : World} {v : Value} {ys : List α} (hF : Fm F K) (h : Own F K B E w v ys) : ∃ A c, v = .slice A ys.length c ∧ ys.length ≤ c ∧ (A = none → c = 0) ∧ Rd F K w A ys.length ys := by
  rcases h.2 with ⟨e, h0⟩ | ⟨g, cap, cur, e, hB, hg, hc, _⟩
  · exact ⟨none, 0, by rw [h0]; exact e, by omega, fun _ => rfl, rfl, fun k hk => by omega⟩
  · refine ⟨_, cap, e, hc, (fun e => by cases e), rfl, fun k hk => ?_⟩
    have hx : ys[k]? = some ys[k] := List.getElem?_eq_getElem hk
    refine ⟨g, 0, ys[k], rfl, hx, fun j u hu => ?_⟩
    have := World.ownsRow.cells h (g := g) (by rw [e]; rfl) _ u (fl_at hF ys k _ hx j u hu)
    rw [codec.add_none] at this
    rw [Nat.add_assoc]
    exact this
theorem boxed {w : World} {o : Obj} {w1 : World} (h : Below (w.alloc o).heap.size (w.alloc o) w1) : w1.heap[w.heap.size]? = some o ∧ Below w.heap.size w w1 := by
  have h0 : Below w.heap.size w (w.alloc o) := (Below.refl _ _).alloc (Nat.le_refl _) _
  refine ⟨?_, h0.trans (h.mono h0.size)⟩
  rw [h.block _ (by simp)]
  exact heap_alloc_new w o
theorem Rd.empty {α : Type} {F : α → List Value} {K : Nat} (w : World) : Rd F K w .none 0 [] := ⟨rfl, fun k hk => by omega⟩
theorem Rd.length {α : Type} {F : α → List Value} {K : Nat} {w : World} {A : Option Addr} {n : Nat} {ys : List α} (h : Rd F K w A n ys) : ys.length = n := h.1
end Go.Proofs.YtbhpgghbpibalaaGreatDoor.row
namespace Go.Proofs.YtbhpgghbpibalaaGreatDoor.lx
open Go.ChangeShapes Go.WideShapes Go.ChangeAt Go.RowKit
open Go.Proofs.YtbhpgghbpibalaaGreatDoor.codec (Bytes vals)
open Go.Proofs.YtbhpgghbpibalaaGreatDoor.row
set_option linter.unusedVariables false
set_option maxRecDepth 100000
set_option linter.unusedSimpArgs false

def strOf (l : List Nat) : ByteArray := ⟨(l.map UInt8.ofNat).toArray⟩
theorem strOfNums_nat (l : List Nat) : strOfNums (l.map Int.ofNat) = strOf l := by
  simp only [strOfNums, strOf, List.map_map]
  rfl
theorem strOf_size (a : List Nat) : (strOf a).size = a.length := by simp [strOf, ByteArray.size]
theorem no_bytes (w : World) (src e : TypeId) (hs : Tryz.prog.underlying src = some (.slice e)) (he : Tryz.prog.underlying e = some (.int .u8)) (p : Option Addr) (c : Nat) (dst : TypeId) (hd : Tryz.prog.underlying dst = some .string) :
    (convert src dst (.slice p 0 c)).run Tryz.prog w = .ok (.string ⟨#[]⟩) w := by
  rw [run_convert_bytes_string w src dst e _ 0 c hs he hd]
  cases p <;> simp [Conv.bytesToString, loadCells]
  all_goals rfl
/-- Bytes as a text. -/
theorem Bytes.text {w : World} {A : Option Addr} {n : Nat} {l : List Nat} (h : Bytes w A n l) (c : Nat) : (convert 22 9 (.slice A n c)).run Tryz.prog w = .ok (.string (strOf l)) w := by
  rcases Nat.eq_zero_or_pos n with h0 | h0
  · subst h0
    obtain rfl : l = [] := List.eq_nil_of_length_eq_zero h.1
    rw [no_bytes w 22 5 Tryz.underlying22 Tryz.underlying5 A c 9 Tryz.underlying9]
    rfl
  · obtain ⟨b, o, rfl, hc⟩ := h.2.2 h0
    have hl := h.1
    rw [run_convert_bytes_arg (P := Tryz.prog) w 22 5 Tryz.underlying22 Tryz.underlying5 b o n c (l.map Int.ofNat) (by simpa using hl) (fun i hi => by
      rw [hc i hi]
      have hi' : i < l.length := by omega
      simp [List.getD, hi']) 9 Tryz.underlying9, strOfNums_nat]
theorem strOf_inj {a b : List Nat} (ha : ∀ x ∈ a, x < 256) (hb : ∀ x ∈ b, x < 256) (h : strOf a = strOf b) : a = b := by
  unfold strOf at h
  have h1 : a.map UInt8.ofNat = b.map UInt8.ofNat := by
    have := congrArg ByteArray.data h
    simpa using this
  have h2 := congrArg (List.map UInt8.toNat) h1
  simp only [List.map_map] at h2
  have e : ∀ l : List Nat, (∀ x ∈ l, x < 256) → l.map (UInt8.toNat ∘ UInt8.ofNat) = l := by
    intro l hl
    calc l.map (UInt8.toNat ∘ UInt8.ofNat) = l.map id := List.map_congr_left (fun x hx => by simp [Nat.mod_eq_of_lt (hl x hx)])
      _ = l := by simp
  rwa [e a ha, e b hb] at h2
def byt (s : ByteArray) (i : Nat) : Nat := (s.data[i]!).toNat
theorem byt_at (s : ByteArray) (i : Nat) (h : i < s.size) : (s[i]'h).toNat = byt s i := by
  unfold byt
  congr 1
  exact (getElem!_pos s.data i h).symm
theorem byt_lt (s : ByteArray) (i : Nat) : byt s i < 256 := UInt8.toNat_lt _
theorem byt_strOf {l : List Nat} (hl : ∀ x ∈ l, x < 256) {i b : Nat} (h : l[i]? = some b) : byt (strOf l) i = b := by
  obtain ⟨h1, h2⟩ := List.getElem?_eq_some_iff.1 h
  have h3 := hl b (h2 ▸ List.getElem_mem h1)
  unfold byt strOf
  simp [h1, h2]
  omega
/-- A slice that came in, or a part of one. -/
def Sl (w : World) (A : Option Addr) (n c : Nat) (l : List Nat) : Prop := Bytes w A n l ∧ n ≤ c ∧ True ∧ (A = none → c = 0)
theorem Sl.below {w w' : World} {A : Option Addr} {n c : Nat} {l : List Nat} (h : Sl w A n c l) (hb : Below w.heap.size w w') : Sl w' A n c l := ⟨h.1.below h.1.lt hb, h.2⟩
theorem Bytes.part {w : World} {A : Option Addr} {n : Nat} {l : List Nat} (h : Bytes w A n l) (k : Nat) (hk : k ≤ n) : Bytes w A k (l.take k) := by
  obtain ⟨h1, h2, h3⟩ := h
  refine ⟨by rw [List.length_take]; omega, fun b hb => h2 b (List.mem_of_mem_take hb), fun h0 => ?_⟩
  obtain ⟨b, o, e, hc⟩ := h3 (by omega)
  refine ⟨b, o, e, fun i hi => ?_⟩
  rw [hc i (by omega)]
  simp [List.getD, List.getElem?_take, hi]
theorem Bytes.rest {w : World} {A : Option Addr} {n : Nat} {l : List Nat} (h : Bytes w A n l) (k : Nat) (hk : k ≤ n) (A' : Option Addr) (hA : ∀ b o, A = some ⟨b, o, none⟩ → k < n → A' = some ⟨b, o + k, none⟩) : Bytes w A' (n - k) (l.drop k) := by
  obtain ⟨h1, h2, h3⟩ := h
  refine ⟨by rw [List.length_drop]; omega, fun b hb => h2 b (List.mem_of_mem_drop hb), fun h0 => ?_⟩
  obtain ⟨b, o, e, hc⟩ := h3 (by omega)
  refine ⟨b, o + k, hA b o e (by omega), fun i hi => ?_⟩
  rw [Nat.add_assoc, hc (k + i) (by omega)]
  simp [List.getD]
theorem Sl.part {w : World} {A : Option Addr} {n c : Nat} {l : List Nat} (h : Sl w A n c l) (k : Nat) (hk : k ≤ n) : Sl w A k c (l.take k) := ⟨Bytes.part h.1 k hk, by have := h.2.1; omega, h.2.2⟩
theorem Sl.rest {w : World} {A : Option Addr} {n c : Nat} {l : List Nat} (h : Sl w A n c l) (k : Nat) (hk : k ≤ n) : Sl w (if c = k then A else A.map fun x => x.add k) (n - k) (c - k) (l.drop k) := by
  refine ⟨Bytes.rest h.1 k hk _ ?_, by have := h.2.1; omega, trivial, fun e => ?_⟩
  · rintro b o rfl hlt
    rw [if_neg (by have := h.2.1; omega)]
    simp [codec.add_none]
  · split at e
    · omega
    · cases A with
      | none => have := h.2.2.2 rfl; omega
      | some a => simp at e
theorem Sl.none (w : World) : Sl w .none 0 0 [] := ⟨⟨rfl, by simp, fun h => absurd h (Nat.lt_irrefl 0)⟩, Nat.le_refl _, trivial, fun _ => rfl⟩
/-- A library's variable holds some number. -/
def Room (w : World) : Prop := ∃ m, w.cell? ⟨0, 0, none⟩ = some (.int .i64 m)
theorem Room.below {w w' : World} (h : Room w) (hb : Below w.heap.size w w') : Room w' := by
  obtain ⟨m, hm⟩ := h
  exact ⟨m, (hb.cell (p := ⟨0, 0, none⟩) (block_lt_of_cell hm)).trans hm⟩
/-- Where a byte stands first, or else the end. -/
def ix (s : Nat) : List Nat → Nat
  | [] => 0
  | b :: r => if b = s then 0 else ix s r + 1
theorem ix_le (s : Nat) : ∀ l : List Nat, ix s l ≤ l.length
  | [] => Nat.le_refl _
  | b :: r => by
    have := ix_le s r
    rw [ix, List.length_cons]
    split <;> omega
def octs (l : List Nat) : List UInt8 := l.map UInt8.ofNat
theorem octs_of (l : List Nat) : Lib.bytesOf (l.map Int.ofNat) = octs l := by
  simp only [Lib.bytesOf, octs, List.map_map]
  rfl
theorem oct_inj {a b : Nat} (ha : a < 256) (hb : b < 256) (h : UInt8.ofNat a = UInt8.ofNat b) : a = b := by
  have := congrArg UInt8.toNat h
  simp [Nat.mod_eq_of_lt ha, Nat.mod_eq_of_lt hb] at this
  omega
theorem index_ix (s : Nat) (hs : s < 256) : ∀ l : List Nat, (∀ x ∈ l, x < 256) → Lib.index (octs l) [UInt8.ofNat s] = if ix s l < l.length then (ix s l : Int) else -1
  | [], _ => by simp [octs, Lib.index]
  | b :: r, hl => by
    have ih := index_ix s hs r (fun x hx => hl x (List.mem_cons_of_mem _ hx))
    have hb : b < 256 := hl b List.mem_cons_self
    rw [show octs (b :: r) = UInt8.ofNat b :: octs r from rfl, Lib.index]
    by_cases h : b = s
    · subst h
      simp [List.isPrefixOf, ix]
    · have hp : ([UInt8.ofNat s] : List UInt8).isPrefixOf (UInt8.ofNat b :: octs r) = false := by
        simp [List.isPrefixOf]
        exact fun e => h (oct_inj hs hb e).symm
      rw [hp, ih, ix, if_neg h, List.length_cons]
      by_cases h2 : ix s r < r.length
      · have hne : (((ix s r : Nat) : Int) == -1) = false := by rw [beq_eq_false_iff_ne]; omega
        simp [h2, hne]
      · simp [h2]
theorem Bytes.into {w : World} {A : Option Addr} {n : Nat} {l : List Nat} (h : Bytes w A n l) : Lib.BytesIn w A n (l.map Int.ofNat) := fun h0 => by
  obtain ⟨b, o, e, hc⟩ := h.2.2 h0
  refine ⟨b, o, e, fun i hi => ?_⟩
  have hi' : i < l.length := by have := h.1; omega
  rw [hc i hi]
  simp [List.getD, hi']
theorem nums_byte {l : List Nat} (h : ∀ x ∈ l, x < 256) : ∀ x ∈ l.map Int.ofNat, 0 ≤ x ∧ x < 256 := by
  intro x hx
  obtain ⟨y, hy, rfl⟩ := List.mem_map.1 hx
  have := h y hy
  exact ⟨Int.natCast_nonneg _, by show (y : Int) < 256; omega⟩
theorem sep_in {w : World} {g s : Nat} (hg : w.cell? ⟨g, 0, none⟩ = some (.int .u8 (s : Nat))) (hs : s < 256) : Bytes w (some ⟨g, 0, none⟩) 1 [s] :=
  ⟨rfl, by simpa using hs, fun _ => ⟨g, 0, rfl, fun i hi => by
    obtain rfl : i = 0 := by omega
    exact hg⟩⟩
theorem byte_at {w : World} {b o n k : Nat} {l : List Nat} (h : Bytes w (some ⟨b, o, none⟩) n l) (hk : k < n) : ∃ x : Nat, l[k]? = some x ∧ x < 256 ∧ w.cell? ⟨b, o + k, none⟩ = some (.int .u8 (x : Nat)) := by
  obtain ⟨h1, h2, h3⟩ := h
  obtain ⟨b', o', e, hc⟩ := h3 (by omega)
  cases e
  have hkl : k < l.length := by omega
  refine ⟨l[k], List.getElem?_eq_getElem hkl, h2 _ (List.getElem_mem hkl), ?_⟩
  rw [hc k hk]
  simp [List.getD, hkl]
theorem strOf_take (l : List Nat) (m : Nat) : (strOf l).extract 0 m = strOf (l.take m) := by
  apply ByteArray.ext
  rw [ByteArray.data_extract]
  unfold strOf
  simp [List.map_take]
theorem own_len {α : Type} {F : α → List Value} {K B : Nat} {E : TypeId} {w : World} {A : Option Addr} {m c : Nat} {ys : List α} (h : Own F K B E w (.slice A m c) ys) : ys.length = m := by
  rcases h.2 with ⟨e, h0⟩ | ⟨g, cap, cur, e, hB, _⟩
  · simp at e
    omega
  · simp at e
    omega
theorem own_form {α : Type} {F : α → List Value} {K B : Nat} {E : TypeId} {w : World} {v : Value} {ys : List α} (h : Own F K B E w v ys) (hm : 0 < ys.length) : ∃ g c, v = .slice (some ⟨g, 0, none⟩) ys.length c ∧ B ≤ g ∧ g < w.heap.size := by
  rcases h.2 with ⟨e, h0⟩ | ⟨g, cap, cur, e, hB, hg, _⟩
  · omega
  · exact ⟨g, cap, e, hB, (Array.getElem?_eq_some_iff.1 hg).1⟩
theorem cell_at {w : World} {b : Nat} {cs : Array Value} {t : TypeId} {m : Nat × Nat} (h : w.heap[b]? = some (.cells cs t m)) (i : Nat) (v : Value) (hv : cs[i]? = some v) : w.cell? ⟨b, i, none⟩ = some v := by
  simp [World.cell?, h, hv]
/-- What then lies in a part that is stored whole. -/
theorem two {w : World} {g : Nat} {t : TypeId} {cs : Array Value} (h : w.heap[g]? = some (.cells cs t (0, 0))) (hs : cs.size = 2) (v0 v1 : Value) :
    ((w.setCell ⟨g, 0, none⟩ v0).setCell ⟨g, 1, none⟩ v1).heap[g]? = some (.cells #[v0, v1] t (0, 0)) ∧
    (∀ k, k ≠ g → ((w.setCell ⟨g, 0, none⟩ v0).setCell ⟨g, 1, none⟩ v1).heap[k]? = w.heap[k]?) ∧
    ∀ (B : Nat) (a : World), Below B a w → B ≤ g → Below B a ((w.setCell ⟨g, 0, none⟩ v0).setCell ⟨g, 1, none⟩ v1) := by
  refine ⟨?_, fun k hk => by rw [heap_setCell_other _ _ _ _ hk, heap_setCell_other _ _ _ _ hk], fun B a hb hg => (hb.setCell (p := ⟨g, 0, none⟩) hg _).setCell (p := ⟨g, 1, none⟩) hg _⟩
  rw [heap_setCell_same _ g 1 _ t _ (heap_setCell_same _ g 0 _ t _ h)]
  obtain ⟨l⟩ := cs
  have hl : l.length = 2 := hs
  match l, hl with
  | [a0, a1], _ => rfl
theorem results_cell_tmp {P : Program} {fn : Func} {p q : Tmp} {ty : TypeId} (h : fn.results = #[.cell p ty, .tmp q]) (tmps : Array Value) (w : World) (g : Nat) (t : TypeId) (cs : Array Value) (fr : Nat × Nat) (d : TypeDesc)
    (hp : tmps.getD p undef = .pointer (some ⟨g, 0, none⟩)) (hg : w.heap[g]? = some (.cells cs t fr))
    (hu : P.underlying ty = some d) (hd : (match d with | .struct _ | .array _ _ => true | _ => false) = true) (hi : (P.info? ty).map (·.size) = some cs.size) :
    (results fn tmps).run P w = .ok (.tuple #[.agg cs, tmps.getD q undef]) w := by
  have hp' : tmps[p]?.getD undef = .pointer (some ⟨g, 0, none⟩) := by simpa using hp
  simp [results, h, hp', asAddr, run_loadVar_row w g t ty cs fr d hg hu hd hi]
end Go.Proofs.YtbhpgghbpibalaaGreatDoor.lx
namespace Go.Proofs.YtbhpgghbpibalaaGreatDoor.lx
open Go.ChangeShapes Go.WideShapes Go.ChangeAt Go.RowKit
open Go.Proofs.YtbhpgghbpibalaaGreatDoor.codec (Bytes vals)
open Go.Proofs.YtbhpgghbpibalaaGreatDoor.row
set_option linter.unusedVariables false
set_option maxRecDepth 100000
set_option linter.unusedSimpArgs false

def blk : Option Addr → List Nat
  | none => []
  | some ad => [ad.block]
theorem blk_rest (A : Option Addr) (c k : Nat) : ∀ i ∈ blk (if c = k then A else A.map fun x => x.add k), i ∈ blk A := by
  intro i hi
  split at hi
  · exact hi
  · cases A with
    | none => exact hi
    | some ad =>
      simp [blk, Addr.add] at hi ⊢
      split at hi <;> exact hi
theorem ix_at {s : Nat} : ∀ {l : List Nat}, ix s l < l.length → l[ix s l]? = some s ∧ ∀ x ∈ l.take (ix s l), x ≠ s
  | [], h => by simp at h
  | b :: r, h => by
    rw [ix] at h ⊢
    by_cases hb : b = s
    · rw [if_pos hb] at h ⊢
      simp [hb]
    · rw [if_neg hb] at h ⊢
      have := ix_at (s := s) (l := r) (by rw [List.length_cons] at h; omega)
      refine ⟨by simpa using this.1, ?_⟩
      rw [List.take_succ_cons]
      intro x hx
      rcases List.mem_cons.1 hx with rfl | hx
      · exact hb
      · exact this.2 x hx
theorem ix_none {s : Nat} : ∀ {l : List Nat}, ¬ ix s l < l.length → ∀ x ∈ l, x ≠ s
  | [], _ => by simp
  | b :: r, h => by
    rw [ix] at h
    by_cases hb : b = s
    · rw [if_pos hb] at h
      simp at h
    · rw [if_neg hb, List.length_cons] at h
      intro x hx
      rcases List.mem_cons.1 hx with rfl | hx
      · exact hb
      · exact ix_none (by omega) x hx
theorem indexByte_ix (s : Nat) (hs : s < 256) (l : List Nat) (hl : ∀ x ∈ l, x < 256) : Lib.indexByte (octs l) (UInt8.ofNat s) = if ix s l < l.length then (ix s l : Int) else -1 := by
  rw [← Lib.index_one, index_ix s hs l hl]
theorem ixb_any (w : World) (A : Option Addr) (n c s : Nat) (l : List Nat) (hS : Sl w A n c l) (hs : s < 256) :
    Calls Tryz.prog 39 #[.slice A n c, .int .u8 (s : Nat)] w fun e w' => e = .returned (.int .i64 (if ix s l < n then (ix s l : Int) else -1)) ∧ w' = w := by
  have hlen := hS.1.1
  cases A with
  | none =>
    obtain rfl := hS.2.2.2 rfl
    obtain rfl : n = 0 := by have := hS.2.1; omega
    refine (Tryz.bytes_IndexByte_nil (s : Nat) w).mono ?_
    rintro e w' ⟨rfl, rfl⟩
    exact ⟨by simp, rfl⟩
  | some a =>
    refine (Tryz.bytes_IndexByte_at a n c (l.map Int.ofNat) (s : Nat) w (by rw [List.length_map]; exact hlen) (fun i hi => ?_)).mono ?_
    · obtain ⟨b, o, e, hc⟩ := hS.1.2.2 (by omega)
      cases e
      have hi' : i < l.length := by omega
      rw [codec.add_none, hc i hi]
      simp [List.getD, hi']
    · rintro e w' ⟨rfl, rfl⟩
      refine ⟨?_, rfl⟩
      rw [octs_of, show ((s : Nat) : Int).toNat.toUInt8 = UInt8.ofNat s from rfl, indexByte_ix s hs l hS.1.2.1, hlen]
/-- Where the first piece ends. -/
def cutN (l : List Nat) : Nat := if ix 10 l < l.length then ix 10 l + 1 else l.length
theorem cutN_le (l : List Nat) : cutN l ≤ l.length := by unfold cutN; split <;> omega
theorem cutN_pos {l : List Nat} (h : 0 < l.length) : 0 < cutN l := by unfold cutN; split <;> omega
/-- A piece is bytes none of which is a line feed, and one. -/
theorem cut_piece {l : List Nat} (h : 0 < l.length) : ∃ q x, l.take (cutN l) = q ++ [x] ∧ ∀ y ∈ q, y ≠ 10 := by
  unfold cutN
  split
  · rename_i hi
    obtain ⟨h1, h2⟩ := ix_at hi
    exact ⟨_, 10, by rw [List.take_add_one, h1]; rfl, h2⟩
  · rename_i hi
    rw [List.take_length]
    have hn : l ≠ [] := List.length_pos_iff.1 h
    refine ⟨l.dropLast, l.getLast hn, (List.dropLast_concat_getLast hn).symm, fun y hy => ix_none hi y (List.dropLast_subset l hy)⟩
end Go.Proofs.YtbhpgghbpibalaaGreatDoor.lx
namespace Go.Proofs.YtbhpgghbpibalaaGreatDoor.lx
open Go.ChangeShapes Go.WideShapes Go.ChangeAt Go.RowKit
open Go.Proofs.YtbhpgghbpibalaaGreatDoor.codec (Bytes vals)
open Go.Proofs.YtbhpgghbpibalaaGreatDoor.row
set_option linter.unusedVariables false
set_option maxRecDepth 100000
set_option linter.unusedSimpArgs false

theorem lenL_short {r : List Nat} (h : ¬ (2 ≤ r.length ∧ r.length ≤ 7)) : lenL r = none := by
  unfold lenL
  rw [if_neg (fun hh => h ⟨hh.1, hh.2.1⟩)]
theorem lenL_end {r : List Nat} {m x : Nat} (hm : r.length = m + 1) (hx : r[m]? = some x) (h : x ≠ 125) : lenL r = none := by
  unfold lenL
  rw [if_neg (fun hh => h (by
    have := hh.2.2.1
    rw [List.getLast?_eq_getElem?, hm, Nat.add_sub_cancel, hx] at this
    simpa using this))]
theorem lenL_bad {r : List Nat} {m k x : Nat} (hm : r.length = m + 1) (hx : r[k]? = some x) (hk : k < m) (h : isDig x = false) : lenL r = none := by
  unfold lenL
  rw [if_neg (fun hh => by
    have h1 : r.dropLast[k]? = some x := by rw [List.getElem?_dropLast, if_pos (by omega)]; exact hx
    have := List.all_eq_true.1 hh.2.2.2 x (List.mem_of_getElem? h1)
    rw [h] at this
    cases this)]
theorem lenL_is {r : List Nat} {m x : Nat} (hm : r.length = m + 1) (hx : r[m]? = some x) (h : x = 125) (h1 : 1 ≤ m) (h6 : m ≤ 6) (hd : ∀ x ∈ r.take m, isDig x = true) : lenL r = some (valL (r.take m)) := by
  unfold lenL
  rw [show r.dropLast = r.take m by rw [List.dropLast_eq_take, hm]; rfl]
  rw [if_pos ⟨by omega, by omega, by rw [List.getLast?_eq_getElem?, hm, Nat.add_sub_cancel, hx, h], by simpa using hd⟩]
def lenV (l : List Nat) : Value := .tuple #[.int .i64 ((lenL l).getD 0 : Nat), .bool (lenL l).isSome]
set_option maxHeartbeats 1000000 in
theorem litLen_any (w : World) (A : Option Addr) (n c : Nat) (l : List Nat) (hB : Bytes w A n l) (hnc : n ≤ c) (hn : n ≤ 1000000000) :
    Calls Tryz.prog 46 #[.slice A n c] w fun e w' => e = .returned (lenV l) ∧ w' = w := by
  have hlen := hB.1
  by_cases h2 : 2 ≤ n ∧ n ≤ 7
  · obtain ⟨m, rfl⟩ : ∃ m, n = m + 1 := ⟨n - 1, by omega⟩
    obtain ⟨b, o, rfl, -⟩ := hB.2.2 (by omega)
    have q1 : decide ((m : Int) < 1) = false := decide_eq_false (by omega)
    have q2 : decide ((6 : Int) < (m : Int)) = false := decide_eq_false (by omega)
    have e1 : IntKind.i64.wrap ((m : Int) + 1 - 1) = (m : Int) := (IntWalk.i64_in _ (by omega)).trans (by omega)
    obtain ⟨x, hx, hx2, hxc⟩ := byte_at hB (show m < m + 1 by omega)
    have l1 : (m : Int) < ((m : Int) + 1) := by omega
    by_cases h125 : x = 125
    · have q3 : ((x : Int) != 125) = false := by rw [bne_eq_false_iff_eq]; omega
      have HX := Lib.hid (And.intro hlen (And.intro hx h125))
      have H2 := Lib.hid h2
      have HB := Lib.hid hB
      clear hx h125 hx2 hlen hB h2
      go_enter Tryz.func46, Tryz.ntmps46
      go_wp2
      clear q1 q2 q3 hxc e1
      go_loop [5, 28] (fun x i => ∃ k v : Nat, k ≤ m ∧ i = .int .i64 k ∧ x = .int .i64 v ∧ Hid (v = valL (l.take k)) ∧ Hid (∀ y ∈ l.take k, isDig y = true)) (fun _ i => m - (intOf i).toNat)
      case atStart => exact ⟨0, 0, Nat.zero_le _, rfl, rfl, Lib.hid rfl, Lib.hid (by simp)⟩
      case round =>
        obtain ⟨k, v, hk, rfl, rfl, HV, HD⟩ := hrel
        by_cases hkl : k < m
        · have hkl2 : (k : Int) < (m : Int) := by omega
          obtain ⟨y, hy, hy2, hyc⟩ := byte_at HB.out (show k < m + 1 by omega)
          by_cases hd : isDig y = true
          · have hd2 := isDig_iff.1 hd
            have HV2 := Lib.hid (show 10 * v + (y - 48) = valL (l.take (k + 1)) by rw [List.take_add_one, hy]; show _ = valL (l.take k ++ [y]); rw [valL_snoc, HV.out])
            have HD2 := Lib.hid (show ∀ z ∈ l.take (k + 1), isDig z = true by
              intro z hz
              rw [List.take_add_one, hy] at hz
              rcases List.mem_append.1 hz with hz | hz
              · exact HD.out z hz
              · simp at hz; rw [hz]; exact hd)
            have hvb : v < 1000000 := by
              have h1 := valL_lt (l.take k) HD.out
              have h2 : (10 : Nat) ^ (l.take k).length ≤ 10 ^ 6 := Nat.pow_le_pow_right (by decide) (by rw [List.length_take]; have := H2.out; omega)
              rw [← HV.out] at h1
              omega
            obtain ⟨d, hd3⟩ : ∃ d, d = y - 48 := ⟨_, rfl⟩
            obtain ⟨z, hz⟩ : ∃ z, z = 10 * v := ⟨_, rfl⟩
            obtain ⟨x1, hx1⟩ : ∃ x1, x1 = z + d := ⟨_, rfl⟩
            have q1 : decide ((y : Int) < 48) = false := decide_eq_false (by omega)
            have q2 : decide ((57 : Int) < y) = false := decide_eq_false (by omega)
            have q3 : IntKind.u8.wrap ((y : Int) - 48) = (d : Int) := (IntWalk.u8_in _ (by omega)).trans (by omega)
            have q4 : IntKind.i64.wrap (d : Int) = (d : Int) := IntWalk.i64_in _ (by omega)
            have q5 : IntKind.i64.wrap (10 * (v : Int)) = (z : Int) := (IntWalk.i64_in _ (by omega)).trans (by omega)
            have q6 : IntKind.i64.wrap ((z : Int) + (d : Int)) = (x1 : Int) := (IntWalk.i64_in _ (by omega)).trans (by omega)
            have HV3 := Lib.hid (show x1 = valL (l.take (k + 1)) by rw [← HV2.out, hx1, hz, hd3])
            clear hd hd2 hvb hd3 hz hx1 hy hy2
            go_wp2
            clear q1 q2 q3 q4 q5 q6 hyc
            go_round
            case rel => first | exact ⟨k + 1, x1, by omega, by go_num, rfl, HV3, HD2⟩ | ((repeat apply Exists.intro); exact ⟨⟨k + 1, x1, by omega, by go_num, rfl, HV3, HD2⟩, rfl⟩)
            case measure => (show m - ((k : Int) + 1).toNat < m - k; omega)
          · have HN := Lib.hid (lenL_bad HX.out.1 hy hkl (by simpa using hd))
            have hd2 : ¬ (48 ≤ y ∧ y ≤ 57) := fun h => hd (isDig_iff.2 h)
            clear hd hy hy2
            go_wp2
            all_goals first
              | (exfalso; omega)
              | (go_ret2; unfold lenV; rw [HN.out]; exact ⟨rfl, rfl⟩)
        · obtain rfl : k = m := by omega
          have HE := Lib.hid (lenL_is HX.out.1 HX.out.2.1 HX.out.2.2 (by have := H2.out; omega) (by have := H2.out; omega) HD.out)
          go_wp2
          go_ret2
          unfold lenV
          rw [HE.out, ← HV.out]
          exact ⟨rfl, rfl⟩
    · have HN := Lib.hid (lenL_end hlen hx h125)
      have q3 : ((x : Int) != 125) = true := by rw [bne_iff_ne]; omega
      clear hx h125 hx2 hlen hB h2
      go_enter Tryz.func46, Tryz.ntmps46
      go_wp2
      go_ret2
      unfold lenV
      rw [HN.out]
      exact ⟨rfl, rfl⟩
  · have HN := Lib.hid (lenL_short (r := l) (by rw [hlen]; exact h2))
    obtain ⟨i, hi⟩ : ∃ i : Int, i = (n : Int) - 1 := ⟨_, rfl⟩
    have e1 : IntKind.i64.wrap ((n : Int) - 1) = i := (IntWalk.i64_in _ (by omega)).trans (by omega)
    by_cases h1 : n < 2
    · have q1 : decide (i < 1) = true := decide_eq_true (by omega)
      clear hi h2 h1 hlen hB hn hnc
      go_enter Tryz.func46, Tryz.ntmps46
      go_wp2
      go_ret2
      unfold lenV
      rw [HN.out]
      exact ⟨rfl, rfl⟩
    · have q1 : decide (i < 1) = false := decide_eq_false (by omega)
      have q2 : decide (6 < i) = true := decide_eq_true (by omega)
      clear hi h2 h1 hlen hB hn hnc
      go_enter Tryz.func46, Tryz.ntmps46
      go_wp2
      go_ret2
      unfold lenV
      rw [HN.out]
      exact ⟨rfl, rfl⟩
/-- Where a byte stands last. -/
def LastAt (s : Nat) (l : List Nat) (i : Int) : Prop := (i = -1 ∧ ∀ x ∈ l, x ≠ s) ∨ ∃ k : Nat, i = (k : Int) ∧ k < l.length ∧ l[k]? = some s ∧ ∀ x ∈ l.drop (k + 1), x ≠ s
def litV (l : List Nat) : Value := .tuple #[.int .i64 ((litL l).getD 0 : Nat), .bool (litL l).isSome]
theorem last_behind {l : List Nat} {k s : Nat} (h1 : l[k]? = some s) (h2 : ∀ x ∈ l.drop (k + 1), x ≠ s) : behind s l = some (l.drop (k + 1)) := by
  obtain ⟨g1, g2⟩ := List.getElem?_eq_some_iff.1 h1
  have e : l = l.take k ++ s :: l.drop (k + 1) := by
    have h3 := List.drop_eq_getElem_cons g1
    rw [g2] at h3
    rw [← h3, List.take_append_drop]
  have h4 := behind_at h2 (l.take k)
  rw [← e] at h4
  exact h4
end Go.Proofs.YtbhpgghbpibalaaGreatDoor.lx
namespace Go.Proofs.YtbhpgghbpibalaaGreatDoor.lx
open Go.ChangeShapes Go.WideShapes Go.ChangeAt Go.RowKit
open Go.Proofs.YtbhpgghbpibalaaGreatDoor.codec (Bytes vals)
open Go.Proofs.YtbhpgghbpibalaaGreatDoor.row
set_option linter.unusedVariables false
set_option maxRecDepth 100000
set_option linter.unusedSimpArgs false

theorem own_split {w : World} {v : Value} {n : Nat} {xs : List Value} (h : w.ownsRow 0 5 1 v n xs) : ∃ A c, v = .slice A n c := by
  rcases h.2 with ⟨e, h0⟩ | ⟨g, cap, cur, e, _⟩
  · exact ⟨none, 0, by rw [h0]; exact e⟩
  · exact ⟨_, cap, e⟩
end Go.Proofs.YtbhpgghbpibalaaGreatDoor.lx
namespace Go.Proofs.YtbhpgghbpibalaaGreatDoor.lx
open Go.ChangeShapes Go.WideShapes Go.ChangeAt Go.RowKit
open Go.Proofs.YtbhpgghbpibalaaGreatDoor.codec (Bytes vals)
open Go.Proofs.YtbhpgghbpibalaaGreatDoor.row
set_option linter.unusedVariables false
set_option maxRecDepth 100000
set_option linter.unusedSimpArgs false

theorem forget {P : Program} {c : Code} {a : Act} {w : World} {Q : Exit → Act → World → Prop} (R : World → Prop) (hR : R w) (h : ∀ w1, R w1 → Code.wp P c Q a w1) : Code.wp P c Q a w := h w hR
end Go.Proofs.YtbhpgghbpibalaaGreatDoor.lx
namespace Go.Proofs.YtbhpgghbpibalaaGreatDoor.lx
open Go.ChangeShapes Go.WideShapes Go.ChangeAt Go.RowKit
open Go.Proofs.YtbhpgghbpibalaaGreatDoor.codec (Bytes vals)
open Go.Proofs.YtbhpgghbpibalaaGreatDoor.row
set_option linter.unusedVariables false
set_option maxRecDepth 100000
set_option linter.unusedSimpArgs false

/-- A chunk to which these came. -/
def Rel (done cur came : List Nat) (line : Nat) : Prop :=
  (cur.length ≤ 2002 → came = done ++ cur ∧ line = cur.length) ∧ (2002 < cur.length → 2002 < line ∧ line ≤ 1000000000 ∧ came = (done ++ cur).take 100)
def cells5 (P : Value) (n line : Nat) (ret : Bool) (left : Nat) : Array Value := #[P, .int .i64 (n : Nat), .int .i64 (line : Nat), .bool ret, .int .i64 (left : Nat)]
theorem rel_long {done cur came : List Nat} {line : Nat} (h : Rel done cur came line) : decide (2002 < line) = decide (2002 < cur.length) := by
  by_cases hc : 2002 < cur.length
  · rw [decide_eq_true hc, decide_eq_true (h.2 hc).1]
  · have := (h.1 (by omega)).2
    rw [this]
theorem cells5_of {P' : Value} {n line : Nat} {ret : Bool} {left m : Nat} {P : Value} {cs' : Array Value} (hz : cs'.size = (cells5 P n line ret left).size) (h0 : cs'[0]? = some P') (h1 : cs'[1]? = some (.int .i64 (m : Nat))) (hj : ∀ j, 2 ≤ j → cs'[j]? = (cells5 P n line ret left)[j]?) : cs' = cells5 P' m line ret left := by
  apply Array.ext_getElem?
  intro i
  match i with
  | 0 => exact h0
  | 1 => exact h1
  | i + 2 => rw [hj (i + 2) (by omega)]; rfl
end Go.Proofs.YtbhpgghbpibalaaGreatDoor.lx
namespace Go.Proofs.YtbhpgghbpibalaaGreatDoor.lx
open Go.ChangeShapes Go.WideShapes Go.ChangeAt Go.RowKit
open Go.Proofs.YtbhpgghbpibalaaGreatDoor.codec (Bytes vals)
open Go.Proofs.YtbhpgghbpibalaaGreatDoor.row
set_option linter.unusedVariables false
set_option maxRecDepth 100000
set_option linter.unusedSimpArgs false

theorem last_snoc {cur q : List Nat} {m : Nat} (hq : q.length = m + 1) : (cur ++ q).getLast? = q[m]? := by
  have hne : q ≠ [] := by intro e; rw [e] at hq; simp at hq
  rw [List.getLast?_eq_getElem?, List.length_append, hq, List.getElem?_append_right (by omega)]
  congr 1
  omega
end Go.Proofs.YtbhpgghbpibalaaGreatDoor.lx
namespace Go.Proofs.YtbhpgghbpibalaaGreatDoor.lx
open Go.ChangeShapes Go.WideShapes Go.ChangeAt Go.RowKit
open Go.Proofs.YtbhpgghbpibalaaGreatDoor.codec (Bytes vals)
open Go.Proofs.YtbhpgghbpibalaaGreatDoor.row
set_option linter.unusedVariables false
set_option maxRecDepth 100000
set_option linter.unusedSimpArgs false

def unit (k : Nat) (A : Option Addr) (n c : Nat) : Value := .agg #[.int .i64 (k : Nat), .slice A n c]
theorem five {w : World} {g : Nat} {t : TypeId} {cs : Array Value} (h : w.heap[g]? = some (.cells cs t (0, 0))) (hs : cs.size = 5) (v0 v1 v2 v3 v4 : Value) :
    (((((w.setCell ⟨g, 0, none⟩ v0).setCell ⟨g, 1, none⟩ v1).setCell ⟨g, 2, none⟩ v2).setCell ⟨g, 3, none⟩ v3).setCell ⟨g, 4, none⟩ v4).heap[g]? = some (.cells #[v0, v1, v2, v3, v4] t (0, 0)) ∧
    codec.Touch (fun i => i = g) w (((((w.setCell ⟨g, 0, none⟩ v0).setCell ⟨g, 1, none⟩ v1).setCell ⟨g, 2, none⟩ v2).setCell ⟨g, 3, none⟩ v3).setCell ⟨g, 4, none⟩ v4) := by
  refine ⟨?_, (((((codec.Touch.refl (fun i => i = g) w).setCell ⟨g, 0, none⟩ (.inr rfl) _).setCell ⟨g, 1, none⟩ (.inr rfl) _).setCell ⟨g, 2, none⟩ (.inr rfl) _).setCell ⟨g, 3, none⟩ (.inr rfl) _).setCell ⟨g, 4, none⟩ (.inr rfl) _⟩
  rw [heap_setCell_same _ g 4 _ t _ (heap_setCell_same _ g 3 _ t _ (heap_setCell_same _ g 2 _ t _ (heap_setCell_same _ g 1 _ t _ (heap_setCell_same _ g 0 _ t _ h))))]
  obtain ⟨l⟩ := cs
  have hl : l.length = 5 := hs
  match l, hl with
  | [a0, a1, a2, a3, a4], _ => rfl
end Go.Proofs.YtbhpgghbpibalaaGreatDoor.lx
namespace Go.Proofs.YtbhpgghbpibalaaGreatDoor.lx
open Go.ChangeShapes Go.WideShapes Go.ChangeAt Go.RowKit
open Go.Proofs.YtbhpgghbpibalaaGreatDoor.codec (Bytes vals)
open Go.Proofs.YtbhpgghbpibalaaGreatDoor.row
set_option linter.unusedVariables false
set_option maxRecDepth 100000
set_option linter.unusedSimpArgs false

end Go.Proofs.YtbhpgghbpibalaaGreatDoor.lx
namespace Go.Proofs.YtbhpgghbpibalaaGreatDoor.lx
open Go.ChangeShapes Go.WideShapes Go.ChangeAt Go.RowKit
open Go.Proofs.YtbhpgghbpibalaaGreatDoor.codec (Bytes vals)
open Go.Proofs.YtbhpgghbpibalaaGreatDoor.row
set_option linter.unusedVariables false
set_option maxRecDepth 100000
set_option linter.unusedSimpArgs false

theorem below_touch (G : Nat → Prop) {w w1 : World} (hb : Below w.heap.size w w1) : codec.Touch G w w1 := ⟨hb.os, hb.tape, hb.output, hb.size, fun i hi _ => hb.block i hi⟩
structure Un where
  k : Nat
  A : Option Addr
  n : Nat
  c : Nat
def cU (y : Un) : List Value := [.int .i64 (y.k : Nat), .slice y.A y.n y.c]
theorem fU : Fm cU 2 := ⟨fun _ => rfl, fun y u hu => by simp [cU] at hu; rcases hu with rfl | rfl <;> rfl⟩
theorem Sl.kept {w w' : World} {A : Option Addr} {n c : Nat} {l : List Nat} (h : Sl w A n c l) (hk : ∀ i ∈ blk A, w'.heap[i]? = w.heap[i]?) : Sl w' A n c l := ⟨h.1.kept fun ad e h0 => hk ad.block (by rw [e]; simp [blk]), h.2⟩
theorem close_left (d l : List Nat) : (close d l).1.left ≤ 20000 := by
  unfold close s0
  split
  · simp
  · split
    · simp
    · split
      · simp
      · simp; omega
theorem close_cur (d l : List Nat) : (close d l).1.cur = [] := by
  unfold close s0
  split
  · rfl
  · split
    · rfl
    · split <;> rfl
def sliceLen : Value → Nat
  | .slice _ n _ => n
  | _ => 0
theorem own_slice {α : Type} {F : α → List Value} {K B : Nat} {E : TypeId} {w : World} {v : Value} {ys : List α} (h : Own F K B E w v ys) : ∃ A c, v = .slice A ys.length c := by
  rcases h.2 with ⟨e, h0⟩ | ⟨g, cap, cur, e, hB, hg, hc, _⟩
  · exact ⟨none, 0, by rw [h0]; exact e⟩
  · exact ⟨_, cap, e⟩
/-- A line has ended. -/
theorem line_of {s : St} {q : List Nat} {x : Nat} (he : x = 10 ∧ (s.cur ++ q).getLast? = some 13) : s.cur ++ (q ++ [x]) = (s.cur ++ q).dropLast ++ [13, 10] := by
  obtain ⟨rfl, h⟩ := he
  obtain ⟨l, hl⟩ := List.getLast?_eq_some_iff.1 h
  rw [← List.append_assoc, hl, List.dropLast_concat]
  simp
end Go.Proofs.YtbhpgghbpibalaaGreatDoor.lx
namespace Go.Proofs.YtbhpgghbpibalaaGreatDoor.lx
open Go.ChangeShapes Go.WideShapes Go.ChangeAt Go.RowKit
open Go.Proofs.YtbhpgghbpibalaaGreatDoor.codec (Bytes vals)
open Go.Proofs.YtbhpgghbpibalaaGreatDoor.row
set_option linter.unusedVariables false
set_option maxRecDepth 100000
set_option linter.unusedSimpArgs false

theorem Room.of_shape {w : World} (h : w.ShapedOpen Tryz.prog) : Room w :=
  cell_of_shapedOpen_int (t := 3) (zero := #[.int .i64 0]) h (of_decide_eq_true (by kernel_rfl)) (by kernel_rfl) rfl (by kernel_rfl) (by kernel_rfl) Tryz.underlying3
def strLen : Value → Nat
  | .string s => s.size
  | _ => 0
def lit : List Nat := [65, 49, 32, 78, 79, 79, 80, 13, 10]
theorem lit_run : (run s0 lit).2 = [(1, [65, 49, 32, 78, 79, 79, 80])] := by decide +kernel
/-- A unit of a row, in its cells. -/
theorem unit_at {w : World} {A : Option Addr} {n : Nat} {ys : List Un} (h : Rd cU 2 w A n ys) (k : Nat) (hk : k < n) : ∃ b o y, A = some ⟨b, o, none⟩ ∧ ys[k]? = some y ∧ w.cell? ⟨b, o + k * 2, none⟩ = some (.int .i64 (y.k : Nat)) ∧ w.cell? ⟨b, o + k * 2 + 1, none⟩ = some (.slice y.A y.n y.c) := by
  obtain ⟨b, o, y, h1, h2, h3⟩ := h.2 k hk
  exact ⟨b, o, y, h1, h2, h3 0 _ rfl, h3 1 _ rfl⟩
theorem lit_lies {w : World} {g : Nat} (hx : w.heap[g]? = some (.cells #[.int .u8 65, .int .u8 49, .int .u8 32, .int .u8 78, .int .u8 79, .int .u8 79, .int .u8 80, .int .u8 13, .int .u8 10] 5 (9, 10))) : Sl w (some ⟨g, 0, none⟩) 9 9 lit := by
  refine ⟨⟨rfl, by decide, fun _ => ⟨g, 0, rfl, fun i hi => ?_⟩⟩, Nat.le_refl _, trivial, fun e => by cases e⟩
  have hc : ∀ (i : Nat) (v : Value), (#[.int .u8 65, .int .u8 49, .int .u8 32, .int .u8 78, .int .u8 79, .int .u8 79, .int .u8 80, .int .u8 13, .int .u8 10] : Array Value)[i]? = some v → w.cell? ⟨g, i, none⟩ = some v := fun i v hv => by simp [World.cell?, hx, hv]
  rw [Nat.zero_add]
  refine hc i _ ?_
  match i, hi with
  | 0, _ => rfl
  | 1, _ => rfl
  | 2, _ => rfl
  | 3, _ => rfl
  | 4, _ => rfl
  | 5, _ => rfl
  | 6, _ => rfl
  | 7, _ => rfl
  | 8, _ => rfl
end Go.Proofs.YtbhpgghbpibalaaGreatDoor.lx
namespace Go.Proofs.YtbhpgghbpibalaaGreatDoor.lx
open Go.ChangeShapes Go.WideShapes Go.ChangeAt Go.RowKit
open Go.Proofs.YtbhpgghbpibalaaGreatDoor.codec (Bytes vals)
open Go.Proofs.YtbhpgghbpibalaaGreatDoor.row
set_option linter.unusedVariables false
set_option maxRecDepth 100000
set_option linter.unusedSimpArgs false

theorem fl_length {α : Type} {F : α → List Value} {K : Nat} (hF : Fm F K) (l : List α) : (fl F l).length = l.length * K := by
  induction l with
  | nil => simp [fl]
  | cons z r ih => show (F z ++ fl F r).length = _; rw [List.length_append, ih, hF.len, List.length_cons, Nat.add_mul]; omega
theorem fl_one {α : Type} {F : α → List Value} {K : Nat} (hF : Fm F K) (l : List α) : ∀ u ∈ fl F l, u.oneCell' = true := fun u hu => by
  obtain ⟨y, _, hy⟩ := List.mem_flatMap.1 hu
  exact hF.one y u hy
theorem run_count : ∀ (l : List Nat) (s : St), (run s l).2.length ≤ l.length
  | [], s => by simp [run]
  | x :: r, s => by
    have h := run_count r (step s x).1
    have h2 : (step s x).2.length ≤ 1 := by
      unfold step
      split
      · simp
      · split <;> simp
    rw [run, List.length_append, List.length_cons]
    omega
end Go.Proofs.YtbhpgghbpibalaaGreatDoor.lx
namespace Go.Proofs.YtbhpgghbpibalaaGreatDoor.lx
open Go.ChangeShapes Go.WideShapes Go.ChangeAt Go.RowKit
open Go.Proofs.YtbhpgghbpibalaaGreatDoor.codec (Bytes vals)
open Go.Proofs.YtbhpgghbpibalaaGreatDoor.row
set_option linter.unusedVariables false
set_option maxRecDepth 100000
set_option linter.unusedSimpArgs false

theorem strOf_rest (l : List Nat) (a b : Nat) (hb : l.length ≤ b) : (strOf l).extract a b = strOf (l.drop a) := by
  apply ByteArray.ext
  rw [ByteArray.data_extract]
  apply Array.toList_inj.1
  rw [Array.toList_extract, List.extract_eq_take_drop]
  show ((l.map UInt8.ofNat).drop a).take (b - a) = (l.drop a).map UInt8.ofNat
  rw [List.map_drop, List.take_of_length_le (by rw [List.length_drop, List.length_map]; omega)]
theorem strOf_append (a b : List Nat) : strOf a ++ strOf b = strOf (a ++ b) := by
  apply ByteArray.ext
  rw [ByteArray.data_append]
  simp [strOf]
theorem foldl_val (ds : List Nat) (v : Nat) : ds.foldl (fun n c => 10 * n + (c - 48)) v = v * 10 ^ ds.length + valL ds := by
  unfold valL
  induction ds generalizing v with
  | nil => simp
  | cons x r ih =>
    rw [List.foldl_cons, List.foldl_cons, ih, ih (10 * 0 + (x - 48)), List.length_cons, Nat.pow_succ]
    rw [Nat.add_mul, Nat.mul_zero, Nat.zero_add, Nat.mul_comm 10 v, Nat.mul_assoc v 10, Nat.mul_comm 10]
    omega
theorem valL_cons (x : Nat) (ds : List Nat) : valL (x :: ds) = valL ds + 10 ^ ds.length * (x - 48) := by
  show (x :: ds).foldl (fun n c => 10 * n + (c - 48)) 0 = _
  rw [List.foldl_cons, foldl_val, Nat.mul_zero, Nat.zero_add, Nat.mul_comm]
  omega
def wantsZ (l : List Nat) : Int := match litL l with
  | some n => (n : Int)
  | none => -1
/-- The last cnt bytes ahead of the end. -/
def tl (l : List Nat) (m cnt : Nat) : List Nat := (l.take m).drop (m - cnt)
theorem tl_length {l : List Nat} {m cnt : Nat} (hm : m ≤ l.length) (hc : cnt ≤ m) : (tl l m cnt).length = cnt := by
  unfold tl
  rw [List.length_drop, List.length_take]
  omega
theorem tl_next {l : List Nat} {m cnt y : Nat} (hm : m ≤ l.length) (hc : cnt < m) (hy : l[m - 1 - cnt]? = some y) : tl l m (cnt + 1) = y :: tl l m cnt := by
  unfold tl
  have h1 : (l.take m)[m - (cnt + 1)]? = some y := by
    rw [List.getElem?_take, if_pos (by omega), show m - (cnt + 1) = m - 1 - cnt by omega]
    exact hy
  obtain ⟨g1, g2⟩ := List.getElem?_eq_some_iff.1 h1
  rw [List.drop_eq_getElem_cons g1, g2, show m - (cnt + 1) + 1 = m - cnt by omega]
theorem tl_form {l : List Nat} {m cnt : Nat} (hl : l.length = m + 1) (hx : l[m]? = some 125) (hc : cnt ≤ m) : l = l.take (m - cnt) ++ tl l m cnt ++ [125] := by
  have h1 : l.take (m - cnt) ++ tl l m cnt = l.take m := by
    have h2 := List.take_append_drop (m - cnt) (l.take m)
    rw [List.take_take, show min (m - cnt) m = m - cnt by omega] at h2
    exact h2
  rw [h1]
  have h3 := List.take_append_drop m l
  obtain ⟨g1, g2⟩ := List.getElem?_eq_some_iff.1 hx
  rw [List.drop_eq_getElem_cons g1, g2, List.drop_of_length_le (by omega)] at h3
  exact h3.symm
theorem pre_last {l : List Nat} {m cnt y : Nat} (hc : cnt < m) (hy : l[m - 1 - cnt]? = some y) : l.take (m - cnt) = l.take (m - cnt - 1) ++ [y] := by
  have h : m - cnt = (m - 1 - cnt) + 1 := by omega
  rw [h, List.take_add_one, hy]
  simp
theorem wants_head {l : List Nat} {m cnt : Nat} (hl : l.length = m + 1) (hx : l[m]? = some 125) (hc : cnt = m) (hd : ∀ x ∈ tl l m cnt, isDig x = true) : litL l = none := by
  rw [tl_form hl hx (Nat.le_of_eq hc)]
  refine litL_none hd (.inl ?_)
  rw [hc, Nat.sub_self]
  rfl
theorem wants_bad {l : List Nat} {m cnt y : Nat} (hl : l.length = m + 1) (hx : l[m]? = some 125) (hc : cnt < m) (hd : ∀ x ∈ tl l m cnt, isDig x = true) (hy : l[m - 1 - cnt]? = some y)
    (h : (isDig y = false ∧ (y ≠ 123 ∨ cnt = 0)) ∨ 7 ≤ cnt) : litL l = none := by
  rw [tl_form hl hx (Nat.le_of_lt hc)]
  refine litL_none hd (.inr ?_)
  rw [tl_length (by omega) (Nat.le_of_lt hc)]
  rcases h with ⟨h1, h2⟩ | h
  · exact .inl ⟨_, y, pre_last hc hy, h1, h2⟩
  · exact .inr h
theorem wants_good {l : List Nat} {m cnt : Nat} (hl : l.length = m + 1) (hx : l[m]? = some 125) (hc : cnt < m) (hd : ∀ x ∈ tl l m cnt, isDig x = true) (hy : l[m - 1 - cnt]? = some 123) (h1 : 1 ≤ cnt) (h6 : cnt ≤ 6) : litL l = some (valL (tl l m cnt)) := by
  have hlen := tl_length (l := l) (m := m) (cnt := cnt) (by omega) (Nat.le_of_lt hc)
  have h2 := litL_at (l.take (m - cnt - 1)) (tl l m cnt) (by omega) (by omega) hd
  have h3 := tl_form hl hx (Nat.le_of_lt hc)
  rw [pre_last hc hy] at h3
  have h4 : l = l.take (m - cnt - 1) ++ 123 :: (tl l m cnt ++ [125]) := by
    rw [List.append_assoc, List.append_assoc] at h3
    exact h3
  rw [← h4] at h2
  exact h2
end Go.Proofs.YtbhpgghbpibalaaGreatDoor.lx
namespace Go.Proofs.YtbhpgghbpibalaaGreatDoor.lx
open Go.ChangeShapes Go.WideShapes Go.ChangeAt Go.RowKit
open Go.Proofs.YtbhpgghbpibalaaGreatDoor.codec (Bytes vals)
open Go.Proofs.YtbhpgghbpibalaaGreatDoor.row
set_option linter.unusedVariables false
set_option maxRecDepth 100000
set_option linter.unusedSimpArgs false

theorem str_lies (w : World) (l : List Nat) (hl : ∀ x ∈ l, x < 256) : Sl (Lib.bytesWorld w 5 (strOf l)) (some ⟨w.heap.size, 0, none⟩) (strOf l).size (grownCap w (strOf l).size 0 5) l ∧ Below w.heap.size w (Lib.bytesWorld w 5 (strOf l)) ∧ (Lib.bytesWorld w 5 (strOf l)).heap.size = w.heap.size + 1 := by
  refine ⟨⟨⟨(strOf_size l).symm, hl, fun _ => ⟨_, 0, rfl, fun i hi => ?_⟩⟩, ?_, trivial, fun e => by cases e⟩, ⟨rfl, rfl, rfl, by rw [Lib.bytesWorld_size]; omega, fun k hk => Lib.bytesWorld_at_old w 5 _ k hk⟩, Lib.bytesWorld_size _ _ _⟩
  · rw [Nat.zero_add, Lib.bytesWorld_cell w 5 _ i hi]
    rw [strOf_size] at hi
    have hx := hl (l.getD i 0) (by simp [List.getD, hi])
    simp [strOf, List.getD, hi] at hx ⊢
    omega
  · exact grownCap_ge w (strOf l).size 0 5
/-- No line's end stands ahead of here. -/
def NoEnd (rl : List Nat) (e : Nat) : Prop := ∀ i, i < e → rl[i]? = some 13 → rl[i + 1]? ≠ some 10
theorem none_left {dl rl : List Nat} {e : Nat} (h : NoEnd rl e) (he : rl.length ≤ e + 1) : run ⟨dl, [], 0⟩ rl = (⟨dl, rl, 0⟩, []) := by
  have := run_stays rl dl [] (fun i h1 h2 => by
    rw [List.nil_append] at h1 h2
    have hi := (List.getElem?_eq_some_iff.1 h2).1
    exact absurd h2 (h i (by omega) h1))
  simpa using this
theorem split_at {rl : List Nat} {e : Nat} (h1 : rl[e]? = some 13) (h2 : rl[e + 1]? = some 10) : rl = rl.take e ++ 13 :: 10 :: rl.drop (e + 2) := by
  obtain ⟨g1, g2⟩ := List.getElem?_eq_some_iff.1 h1
  obtain ⟨g3, g4⟩ := List.getElem?_eq_some_iff.1 h2
  have h3 := List.take_append_drop e rl
  rw [List.drop_eq_getElem_cons g1, g2, List.drop_eq_getElem_cons g3, g4] at h3
  exact h3.symm
theorem line_run {dl rl : List Nat} {e : Nat} (h : NoEnd rl e) (h1 : rl[e]? = some 13) (h2 : rl[e + 1]? = some 10) :
    run ⟨dl, [], 0⟩ rl = ((run (close dl (rl.take e)).1 (rl.drop (e + 2))).1, (close dl (rl.take e)).2 :: (run (close dl (rl.take e)).1 (rl.drop (e + 2))).2) := by
  have he := (List.getElem?_eq_some_iff.1 h1).1
  have hlen : (rl.take e).length = e := by rw [List.length_take]; omega
  have := run_line (rl.take e) dl (rl.drop (e + 2)) (fun i hi hj => by
    have hie : i < e := by
      have := (List.getElem?_eq_some_iff.1 hi).1
      omega
    rw [List.getElem?_take, if_pos hie] at hi
    by_cases hn : i + 1 < e
    · rw [List.getElem?_append_left (by omega), List.getElem?_take, if_pos hn] at hj
      exact h i hie hi hj
    · rw [List.getElem?_append_right (by omega), hlen, show i + 1 - e = 0 by omega] at hj
      simp at hj)
  rw [← split_at h1 h2] at this
  exact this
theorem asked_end {l dl line rest : List Nat} {us : List U} {n : Nat} (hrun : run s0 l = ((run (close dl line).1 rest).1, us ++ (close dl line).2 :: (run (close dl line).1 rest).2)) (hcl : close dl line = (⟨dl ++ line ++ [13, 10], [], n⟩, (4, []))) (hn : rest.length < n) :
    (run s0 l).2 = us ++ [((4, []) : U)] ∧ 0 < (run s0 l).1.left := by
  rw [hcl] at hrun
  simp only at hrun
  rw [run_lit rest (dl ++ line ++ [13, 10]) [] n (by omega)] at hrun
  rw [hrun]
  refine ⟨rfl, ?_⟩
  show 0 < n - rest.length
  omega
end Go.Proofs.YtbhpgghbpibalaaGreatDoor.lx
