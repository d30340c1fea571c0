/- What the small parts of package codec answer. -/
import Derived.Test.YtkbldbcgclnfeaaDoorRows
import Derived.WalkKit
import Derived.ProofKit
import Derived.OpenShut
import Derived.ShutString
import Derived.ChangeOld
import Derived.Below
import Derived.Outline
import Derived.WalkSpells
import Derived.Lib.Hide
import Derived.Deep.QuietTactic
import Derived.BigQuiet
import Derived.Deep.OwnRows
import Derived.Deep.WholeRow
import Derived.StillTailTactics
import Derived.Lib.SlBytesConst
import Derived.Laws.CopyOwn
import Derived.Laws.AppendOwnNone
import Derived.Maps.AppendAt
import Derived.Deep.RegionLaw
import Derived.Deep.Heap
namespace Go.Proofs.YtkbldbcgclnfeaaDoor.codec
open Go.ChangeShapes Go.WideShapes Go.ChangeAt Go.RowKit
set_option linter.unusedVariables false
set_option maxRecDepth 100000
set_option linter.unusedSimpArgs false

theorem below_draws {B : Nat} {a w : World} (h : Below B a w) (n : Nat) : Below B a (w.drewN n) := ⟨h.os, h.tape, h.output, h.size, h.block⟩
/-- The slice reads as these bytes. -/
def Bytes (w : World) (A : Option Addr) (n : Nat) (l : List Nat) : Prop :=
  l.length = n ∧ (∀ b ∈ l, b < 256) ∧ (0 < n → ∃ b o, A = some ⟨b, o, none⟩ ∧ ∀ i, i < n → w.cell? ⟨b, o + i, none⟩ = some (.int .u8 (l.getD i 0 : Nat)))
theorem getD_lt256 {l : List Nat} (h : ∀ x ∈ l, x < 256) (i : Nat) : l.getD i 0 < 256 := by
  by_cases hi : i < l.length
  · have : l.getD i 0 = l[i] := by simp [List.getD, hi]
    rw [this]
    exact h _ (List.getElem_mem hi)
  · have : l.getD i 0 = 0 := by simp [List.getD, List.getElem?_eq_none (Nat.le_of_not_lt hi)]
    omega

theorem info5 : (Tryd.prog.info? 5).map (fun i => (i.zero, i.size, i.bytes)) = some (some (.int .u8 0), 1, 1) := by kernel_rfl
def vals (l : List Nat) : List Value := l.map fun x => Value.int .u8 (x : Nat)
theorem vals_append (l m : List Nat) : vals (l ++ m) = vals l ++ vals m := by simp [vals]
theorem vals_length (l : List Nat) : (vals l).length = l.length := by simp [vals]
theorem vals_one (l : List Nat) : ∀ u ∈ vals l, u.oneCell' = true := by
  intro v hv
  obtain ⟨x, _, rfl⟩ := List.mem_map.1 hv
  rfl
theorem add_none (b o j : Nat) : (Addr.mk b o none).add j = ⟨b, o + j, none⟩ := by unfold Addr.add; split <;> simp_all
/-- The cells of bytes. -/
theorem Bytes.cells {w : World} {A : Option Addr} {n : Nat} {l : List Nat} (h : Bytes w A n l) (hn : 0 < n) : ∃ ad, A = some ad ∧ ∀ j v, (vals l)[j]? = some v → w.cell? (ad.add j) = some v := by
  obtain ⟨b, o, rfl, hc⟩ := h.2.2 hn
  refine ⟨_, rfl, fun j v hv => ?_⟩
  have hj : j < l.length := by
    have := (List.getElem?_eq_some_iff.1 hv).1
    simpa [vals] using this
  rw [add_none, hc j (by have := h.1; omega), ← hv]
  simp [vals, List.getD, hj]
theorem Bytes.lt {w : World} {A : Option Addr} {n : Nat} {l : List Nat} (h : Bytes w A n l) : ∀ ad, A = some ad → 0 < n → ad.block < w.heap.size := by
  rintro ad rfl hn
  obtain ⟨b, o, e, hc⟩ := h.2.2 hn
  cases e
  exact block_lt_of_cell (hc 0 hn)
/-- Bytes stay, where their block does. -/
theorem Bytes.kept {w w' : World} {A : Option Addr} {n : Nat} {l : List Nat} (h : Bytes w A n l) (hA : ∀ ad, A = some ad → 0 < n → w'.heap[ad.block]? = w.heap[ad.block]?) : Bytes w' A n l := by
  obtain ⟨h1, h2, h3⟩ := h
  refine ⟨h1, h2, fun hn => ?_⟩
  obtain ⟨b, o, rfl, hc⟩ := h3 hn
  refine ⟨b, o, rfl, fun i hi => ?_⟩
  have hk : w'.heap[b]? = w.heap[b]? := hA ⟨b, o, none⟩ rfl hn
  rw [← hc i hi]
  simp [World.cell?, hk]
theorem Bytes.below {w w' : World} {A : Option Addr} {n B : Nat} {l : List Nat} (h : Bytes w A n l) (hA : ∀ ad, A = some ad → 0 < n → ad.block < B) (hb : Below B w w') : Bytes w' A n l :=
  h.kept fun ad e hn => hb.block _ (hA ad e hn)
theorem Bytes.alloc {w : World} {A : Option Addr} {n : Nat} {l : List Nat} (h : Bytes w A n l) (o : Obj) : Bytes (w.alloc o) A n l :=
  h.kept fun ad e hn => heap_alloc_old w o (h.lt ad e hn)
theorem Bytes.drewN {w : World} {A : Option Addr} {n : Nat} {l : List Nat} (h : Bytes w A n l) (q : Nat) : Bytes (w.drewN q) A n l :=
  h.kept fun ad e hn => rfl

/-- Bytes copied into a row that was made for them. -/
theorem wpList_copied {w : World} {ops : Array Oper} {rest : List Oper} {o : Oper} {a : Act} {Q : Exit → Act → World → Prop} (hgd : o.guard = none) (d s : Operand)
    (ho : o.op = .call { callee := .builtin .copy, args := #[d, s], argTypes := #[27, 27] }) (A : Option Addr) (n c : Nat) (l : List Nat) (h : Bytes w A n l)
    (hd : a.eval d = .slice (some ⟨w.heap.size, 0, none⟩) n n) (hs : a.eval s = .slice A n c)
    (hK : wpList Tryd.prog ops Q rest (a.put o.dst (goInt n)) (w.alloc (.cells (vals l).toArray 5))) : wpList Tryd.prog ops Q (o :: rest) a (w.alloc (.cells (madeCells #[Value.int .u8 0] n) 5)) := by
  have hl := h.1
  rcases Nat.eq_zero_or_pos n with h0 | h0
  · subst h0
    obtain rfl : l = [] := List.eq_nil_of_length_eq_zero hl
    refine wpList_copy_nothing hgd d s 27 27 ho 5 Tryd.underlying27 (by kernel_rfl) _ _ _ _ _ _ hd hs (by simp) ?_
    have e : madeCells #[Value.int .u8 0] 0 = (vals []).toArray := by simp [madeCells, vals]
    rw [e]
    exact hK
  · obtain ⟨ad, rfl, hc⟩ := h.cells h0
    have hsz : (madeCells #[Value.int .u8 0] n).size = n := by simp [madeCells]
    refine wpList_copy_own hgd d s 27 27 ho 5 Tryd.underlying27 (by kernel_rfl) w.heap.size 0 n n ad n c hd hs (madeCells #[Value.int .u8 0] n) 5 (heap_alloc_new w _) (vals l) (by simp [vals, hl]) ?_ (by simp [vals, hl, hsz]) (vals_one l) ?_
    · intro j v hv
      have := hc j v hv
      have hb : (ad.add j).block < w.heap.size := World.block_lt_of_cell? w _ this
      rw [World.cell?_of_block (w := w) (heap_alloc_old w _ hb)]
      exact this
    · have e : ((madeCells #[Value.int .u8 0] n).toList.take 0 ++ (vals l ++ (madeCells #[Value.int .u8 0] n).toList.drop (0 + (vals l).length))).toArray = (vals l).toArray := by
        rw [List.take_zero, List.nil_append, Nat.zero_add, List.drop_eq_nil_of_le (by simp [vals, hl, hsz]), List.append_nil]
      rw [e, World.setRow_alloc_new, vals_length, hl]
      exact hK

/-- Only these blocks may have changed. -/
def Touch (F : Nat → Prop) (w w' : World) : Prop := w'.os = w.os ∧ w'.tape = w.tape ∧ w'.output = w.output ∧ w.heap.size ≤ w'.heap.size ∧ ∀ k, k < w.heap.size → ¬ F k → w'.heap[k]? = w.heap[k]?
theorem Touch.trans {F : Nat → Prop} {a b c : World} (h : Touch F a b) (k : Touch (fun i => F i ∨ a.heap.size ≤ i) b c) : Touch F a c :=
  ⟨k.1.trans h.1, k.2.1.trans h.2.1, k.2.2.1.trans h.2.2.1, Nat.le_trans h.2.2.2.1 k.2.2.2.1, fun i hi hF => (k.2.2.2.2 i (Nat.lt_of_lt_of_le hi h.2.2.2.1) (fun hh => by rcases hh with h | h; exact hF h; omega)).trans (h.2.2.2.2 i hi hF)⟩
theorem Touch.mono {F G : Nat → Prop} {a b : World} (h : Touch F a b) (k : ∀ i, i < a.heap.size → F i → G i) : Touch G a b :=
  ⟨h.1, h.2.1, h.2.2.1, h.2.2.2.1, fun i hi hG => h.2.2.2.2 i hi (fun hF => hG (k i hi hF))⟩
theorem Touch.refl (F : Nat → Prop) (w : World) : Touch F w w := ⟨rfl, rfl, rfl, Nat.le_refl _, fun _ _ _ => rfl⟩
theorem Touch.alloc {F : Nat → Prop} {a b : World} (h : Touch F a b) (o : Obj) : Touch F a (b.alloc o) :=
  ⟨h.1, h.2.1, h.2.2.1, by have := h.2.2.2.1; simp; omega, fun i hi hF => (heap_alloc_old b o (Nat.lt_of_lt_of_le hi h.2.2.2.1)).trans (h.2.2.2.2 i hi hF)⟩
theorem Touch.drewN {F : Nat → Prop} {a b : World} (h : Touch F a b) (q : Nat) : Touch F a (b.drewN q) := h
theorem Touch.setCell {F : Nat → Prop} {a b : World} (h : Touch F a b) (ad : Addr) (hF : a.heap.size ≤ ad.block ∨ F ad.block) (v : Value) : Touch F a (b.setCell ad v) :=
  ⟨h.1, h.2.1, h.2.2.1, by have := h.2.2.2.1; simp; omega, fun i hi hi' => (heap_setCell_other _ _ _ _ (fun e => by subst e; rcases hF with h | h; omega; exact hi' h)).trans (h.2.2.2.2 i hi hi')⟩
theorem Touch.below {F : Nat → Prop} {a b c : World} (h : Touch F a b) (hb : Below b.heap.size b c) : Touch F a c :=
  h.trans ⟨hb.os, hb.tape, hb.output, hb.size, fun k hk _ => hb.block k hk⟩
theorem Touch.toBelow {F : Nat → Prop} {a b : World} (h : Touch F a b) (B : Nat) (hB : B ≤ a.heap.size) (hF : ∀ i, i < B → ¬ F i) : Below B a b := ⟨h.1, h.2.1, h.2.2.1, h.2.2.2.1, fun i hi => h.2.2.2.2 i (by omega) (hF i hi)⟩
theorem Bytes.touch {F : Nat → Prop} {w w' : World} {A : Option Addr} {n : Nat} {l : List Nat} (h : Bytes w A n l) (hA : ∀ ad, A = some ad → 0 < n → ¬ F ad.block) (hb : Touch F w w') : Bytes w' A n l :=
  h.kept fun ad e hn => hb.2.2.2.2 _ (h.lt ad e hn) (hA ad e hn)

/-- Bytes, nil or not, put behind bytes of one's own. -/
theorem run_append_bytes (w : World) (ty : TypeId) (base : Nat) (v : Value) (M : List Nat) (hown : w.ownsRow base 5 1 v M.length (vals M)) (hbase : base ≤ w.heap.size)
    (A : Option Addr) (m c : Nat) (L : List Nat) (hB : Bytes w A m L) (hnil : A = none → c = 0) (hbound : M.length + m ≤ 1000000000) :
    ∃ v' w', (Builtin.append_ #[27, 27] ty #[v, .slice A m c]).run Tryd.prog w = .ok v' w' ∧ w'.ownsRow base 5 1 v' (M ++ L).length (vals (M ++ L)) ∧ w.grownBy w' v.ownBlock ∧ (v' = .slice none 0 0 ↔ v = .slice none 0 0 ∧ m = 0) ∧ (v'.ownBlock = v.ownBlock ∨ v'.ownBlock = some w.heap.size) := by
  obtain ⟨i0, hi, hz0, hz1, hz2⟩ := info_parts info5
  have hl := hB.1
  cases A with
  | none =>
    have hm : m = 0 := by
      rcases Nat.eq_zero_or_pos m with h0 | h0
      · exact h0
      · obtain ⟨b, o', e, _⟩ := hB.2.2 h0
        cases e
    have hc := hnil rfl
    subst hm hc
    obtain rfl : L = [] := List.eq_nil_of_length_eq_zero hl
    refine ⟨v, w, ?_, by simpa using hown, World.grownBy.refl w _, by simp, .inl rfl⟩
    rcases hown.2 with ⟨rfl, h0⟩ | ⟨g, cap, cur, rfl, _, hg, hnc, _⟩
    · simp [Builtin.append_, run_underlying Tryd.underlying27, sizeOf, typeInfo, hi, Builtin.lenOf, Builtin.firstCells, loadCells, loadCellsFrom]
    · simp [Builtin.append_, run_underlying Tryd.underlying27, sizeOf, typeInfo, hi, Builtin.lenOf, Builtin.firstCells, hnc, storeCells, loadCells, loadCellsFrom]
  | some ad =>
    obtain ⟨v', w', hr, h1, h2, h3, h4⟩ := run_append_own_at (P := Tryd.prog) w base 27 ty 5 i0 (.int .u8 0) 1 1 Tryd.underlying27 hi hz0 hz1 hz2 rfl (by decide) v M.length (vals M) hown ad m c (vals L) (by simp [vals, hl]) (fun j u hu => by
      have hj : j < L.length := by
        have := (List.getElem?_eq_some_iff.1 hu).1
        simpa [vals] using this
      obtain ⟨b, o', e, hc⟩ := hB.2.2 (by omega)
      cases e
      rw [add_none, hc j (by omega), ← hu]
      simp [vals, List.getD, hj]) (vals_one L) (by unfold maxLen; omega) (by omega) hbase
    refine ⟨v', w', hr, ?_, h2, h3, h4⟩
    rw [List.length_append, hl, vals_append]
    exact h1
theorem wp_append_bytes {o : Oper} {a : Act} {w : World} {K : Act → World → Prop} {Q : Exit → Act → World → Prop} (s x : Operand)
    (ho : o.op = .call { callee := .builtin .append, args := #[s, x], argTypes := #[27, 27] })
    (base : Nat) (v : Value) (M : List Nat) (hs : a.eval s = v) (hown : w.ownsRow base 5 1 v M.length (vals M)) (hbase : base ≤ w.heap.size)
    (A : Option Addr) (m c : Nat) (L : List Nat) (hx : a.eval x = .slice A m c) (hB : Bytes w A m L) (hnil : A = none → c = 0) (hbound : M.length + m ≤ 1000000000)
    (h : ∀ v' w', w'.ownsRow base 5 1 v' (M ++ L).length (vals (M ++ L)) → w.grownBy w' v.ownBlock → (v' = .slice none 0 0 ↔ v = .slice none 0 0 ∧ m = 0) → (v'.ownBlock = v.ownBlock ∨ v'.ownBlock = some w.heap.size) → K (a.put o.dst v') w') : o.wp Tryd.prog a w K Q := by
  obtain ⟨v', w', hr, h1, h2, h3, h4⟩ := run_append_bytes w o.type base v M hown hbase A m c L hB hnil hbound
  unfold Oper.wp execOp
  simp only [ho, resolve, invoke, builtin, Sem.run_bind, Sem.run_pure, Result.andThen_ok, List.map_toArray, List.map_cons, List.map_nil, hs, hx, hr]
  exact h v' w' h1 h2 h3 h4
theorem wpList_append_bytes {ops : Array Oper} {rest : List Oper} {o : Oper} {a : Act} {w : World} {Q : Exit → Act → World → Prop} (hgd : o.guard = none) (s x : Operand)
    (ho : o.op = .call { callee := .builtin .append, args := #[s, x], argTypes := #[27, 27] })
    (base : Nat) (v : Value) (M : List Nat) (hs : a.eval s = v) (hown : w.ownsRow base 5 1 v M.length (vals M)) (hbase : base ≤ w.heap.size)
    (A : Option Addr) (m c : Nat) (L : List Nat) (hx : a.eval x = .slice A m c) (hB : Bytes w A m L) (hnil : A = none → c = 0) (hbound : M.length + m ≤ 1000000000)
    (h : ∀ v' w', w'.ownsRow base 5 1 v' (M ++ L).length (vals (M ++ L)) → w.grownBy w' v.ownBlock → (v' = .slice none 0 0 ↔ v = .slice none 0 0 ∧ m = 0) → (v'.ownBlock = v.ownBlock ∨ v'.ownBlock = some w.heap.size) → wpList Tryd.prog ops Q rest (a.put o.dst v') w') : wpList Tryd.prog ops Q (o :: rest) a w :=
  wpList_plain hgd fun _ hK => wp_append_bytes s x ho base v M hs hown hbase A m c L hx hB hnil hbound fun v' w' h1 h2 h3 h4 => hK _ _ (h v' w' h1 h2 h3 h4)
theorem step_append_bytes {ops : Array Oper} {o : Oper} {a : Act} {w : World} {K : Act → World → Prop} {Q : Exit → Act → World → Prop} {E : Prop} (hgd : o.guard = none) (s x : Operand)
    (ho : o.op = .call { callee := .builtin .append, args := #[s, x], argTypes := #[27, 27] })
    (base : Nat) (v : Value) (M : List Nat) (hs : a.eval s = v) (hown : w.ownsRow base 5 1 v M.length (vals M)) (hbase : base ≤ w.heap.size)
    (A : Option Addr) (m c : Nat) (L : List Nat) (hx : a.eval x = .slice A m c) (hB : Bytes w A m L) (hnil : A = none → c = 0) (hbound : M.length + m ≤ 1000000000)
    (h : ∀ v' w', w'.ownsRow base 5 1 v' (M ++ L).length (vals (M ++ L)) → w.grownBy w' v.ownBlock → (v' = .slice none 0 0 ↔ v = .slice none 0 0 ∧ m = 0) → (v'.ownBlock = v.ownBlock ∨ v'.ownBlock = some w.heap.size) → K (a.put o.dst v') w') :
    if Region.wanted o (yielded ops a.tmps) = true then Oper.wp Tryd.prog o a w K Q else E := by
  have hw : Region.wanted o (yielded ops a.tmps) = true := by simp [Region.wanted, hgd]
  rw [if_pos hw]
  exact wp_append_bytes s x ho base v M hs hown hbase A m c L hx hB hnil hbound h

end Go.Proofs.YtkbldbcgclnfeaaDoor.codec
