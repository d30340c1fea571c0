/- What the small parts of package codec answer. -/
import Derived.Test.YtepngemlaiffgaaDoorRows
import Derived.WalkKit
import Derived.ProofKit
import Derived.OpenShut
import Derived.ShutString
import Derived.ChangeOld
import Derived.Below
import Derived.Outline
import Derived.WalkSpells
import Derived.Lib.Hide
import Derived.Deep.QuietTactic
import Derived.BigQuiet
import Derived.Deep.OwnRows
import Derived.Deep.WholeRow
import Derived.StillTailTactics
import Derived.Lib.SlBytesConst
import Derived.Laws.CopyOwn
import Derived.Laws.AppendOwnNone
import Derived.Maps.AppendAt
import Derived.Deep.RegionLaw
import Derived.Deep.Heap
import Derived.Laws.BytesArg
import Derived.Shelf.Bytes.SlSmallAll
import Derived.Lib.ConvBytes
import Derived.Laws.BitsAllLaws
import Derived.Lib.AppendStr
import Derived.Lib.SplitLaws
import Derived.Lib.IndexBytes
import Derived.Lib.LastIndexByte
import Derived.Lib.Fold
import Derived.Lib.Strings
namespace Go.Proofs.YtepngemlaiffgaaDoor.codec
open Go.ChangeShapes Go.WideShapes Go.ChangeAt Go.RowKit
set_option linter.unusedVariables false
set_option maxRecDepth 100000
set_option linter.unusedSimpArgs false

theorem below_draws {B : Nat} {a w : World} (h : Below B a w) (n : Nat) : Below B a (w.drewN n) := ⟨h.os, h.tape, h.output, h.size, h.block⟩
/-- The slice reads as these bytes. -/
def Bytes (w : World) (A : Option Addr) (n : Nat) (l : List Nat) : Prop :=
  l.length = n ∧ (∀ b ∈ l, b < 256) ∧ (0 < n → ∃ b o, A = some ⟨b, o, none⟩ ∧ ∀ i, i < n → w.cell? ⟨b, o + i, none⟩ = some (.int .u8 (l.getD i 0 : Nat)))
theorem getD_lt256 {l : List Nat} (h : ∀ x ∈ l, x < 256) (i : Nat) : l.getD i 0 < 256 := by
  by_cases hi : i < l.length
  · have : l.getD i 0 = l[i] := by simp [List.getD, hi]
    rw [this]
    exact h _ (List.getElem_mem hi)
  · have : l.getD i 0 = 0 := by simp [List.getD, List.getElem?_eq_none (Nat.le_of_not_lt hi)]
    omega

theorem info5 : (Tryd.prog.info? 5).map (fun i => (i.zero, i.size, i.bytes)) = some (some (.int .u8 0), 1, 1) := by kernel_rfl
def vals (l : List Nat) : List Value := l.map fun x => Value.int .u8 (x : Nat)
theorem vals_append (l m : List Nat) : vals (l ++ m) = vals l ++ vals m := by simp [vals]
theorem vals_length (l : List Nat) : (vals l).length = l.length := by simp [vals]
theorem vals_one (l : List Nat) : ∀ u ∈ vals l, u.oneCell' = true := by
  intro v hv
  obtain ⟨x, _, rfl⟩ := List.mem_map.1 hv
  rfl
theorem add_none (b o j : Nat) : (Addr.mk b o none).add j = ⟨b, o + j, none⟩ := by unfold Addr.add; split <;> simp_all
/-- The cells of bytes. -/
theorem Bytes.cells {w : World} {A : Option Addr} {n : Nat} {l : List Nat} (h : Bytes w A n l) (hn : 0 < n) : ∃ ad, A = some ad ∧ ∀ j v, (vals l)[j]? = some v → w.cell? (ad.add j) = some v := by
  obtain ⟨b, o, rfl, hc⟩ := h.2.2 hn
  refine ⟨_, rfl, fun j v hv => ?_⟩
  have hj : j < l.length := by
    have := (List.getElem?_eq_some_iff.1 hv).1
    simpa [vals] using this
  rw [add_none, hc j (by have := h.1; omega), ← hv]
  simp [vals, List.getD, hj]
theorem Bytes.lt {w : World} {A : Option Addr} {n : Nat} {l : List Nat} (h : Bytes w A n l) : ∀ ad, A = some ad → 0 < n → ad.block < w.heap.size := by
  rintro ad rfl hn
  obtain ⟨b, o, e, hc⟩ := h.2.2 hn
  cases e
  exact block_lt_of_cell (hc 0 hn)
/-- Bytes stay, where their block does. -/
theorem Bytes.kept {w w' : World} {A : Option Addr} {n : Nat} {l : List Nat} (h : Bytes w A n l) (hA : ∀ ad, A = some ad → 0 < n → w'.heap[ad.block]? = w.heap[ad.block]?) : Bytes w' A n l := by
  obtain ⟨h1, h2, h3⟩ := h
  refine ⟨h1, h2, fun hn => ?_⟩
  obtain ⟨b, o, rfl, hc⟩ := h3 hn
  refine ⟨b, o, rfl, fun i hi => ?_⟩
  have hk : w'.heap[b]? = w.heap[b]? := hA ⟨b, o, none⟩ rfl hn
  rw [← hc i hi]
  simp [World.cell?, hk]
theorem Bytes.below {w w' : World} {A : Option Addr} {n B : Nat} {l : List Nat} (h : Bytes w A n l) (hA : ∀ ad, A = some ad → 0 < n → ad.block < B) (hb : Below B w w') : Bytes w' A n l :=
  h.kept fun ad e hn => hb.block _ (hA ad e hn)
theorem Bytes.alloc {w : World} {A : Option Addr} {n : Nat} {l : List Nat} (h : Bytes w A n l) (o : Obj) : Bytes (w.alloc o) A n l :=
  h.kept fun ad e hn => heap_alloc_old w o (h.lt ad e hn)
theorem Bytes.drewN {w : World} {A : Option Addr} {n : Nat} {l : List Nat} (h : Bytes w A n l) (q : Nat) : Bytes (w.drewN q) A n l :=
  h.kept fun ad e hn => rfl

/-- Bytes copied into a row that was made for them. -/
theorem wpList_copied {w : World} {ops : Array Oper} {rest : List Oper} {o : Oper} {a : Act} {Q : Exit → Act → World → Prop} (hgd : o.guard = none) (d s : Operand)
    (ho : o.op = .call { callee := .builtin .copy, args := #[d, s], argTypes := #[28, 28] }) (A : Option Addr) (n c : Nat) (l : List Nat) (h : Bytes w A n l)
    (hd : a.eval d = .slice (some ⟨w.heap.size, 0, none⟩) n n) (hs : a.eval s = .slice A n c)
    (hK : wpList Tryd.prog ops Q rest (a.put o.dst (goInt n)) (w.alloc (.cells (vals l).toArray 5))) : wpList Tryd.prog ops Q (o :: rest) a (w.alloc (.cells (madeCells #[Value.int .u8 0] n) 5)) := by
  have hl := h.1
  rcases Nat.eq_zero_or_pos n with h0 | h0
  · subst h0
    obtain rfl : l = [] := List.eq_nil_of_length_eq_zero hl
    refine wpList_copy_nothing hgd d s 28 28 ho 5 Tryd.underlying28 (by kernel_rfl) _ _ _ _ _ _ hd hs (by simp) ?_
    have e : madeCells #[Value.int .u8 0] 0 = (vals []).toArray := by simp [madeCells, vals]
    rw [e]
    exact hK
  · obtain ⟨ad, rfl, hc⟩ := h.cells h0
    have hsz : (madeCells #[Value.int .u8 0] n).size = n := by simp [madeCells]
    refine wpList_copy_own hgd d s 28 28 ho 5 Tryd.underlying28 (by kernel_rfl) w.heap.size 0 n n ad n c hd hs (madeCells #[Value.int .u8 0] n) 5 (heap_alloc_new w _) (vals l) (by simp [vals, hl]) ?_ (by simp [vals, hl, hsz]) (vals_one l) ?_
    · intro j v hv
      have := hc j v hv
      have hb : (ad.add j).block < w.heap.size := World.block_lt_of_cell? w _ this
      rw [World.cell?_of_block (w := w) (heap_alloc_old w _ hb)]
      exact this
    · have e : ((madeCells #[Value.int .u8 0] n).toList.take 0 ++ (vals l ++ (madeCells #[Value.int .u8 0] n).toList.drop (0 + (vals l).length))).toArray = (vals l).toArray := by
        rw [List.take_zero, List.nil_append, Nat.zero_add, List.drop_eq_nil_of_le (by simp [vals, hl, hsz]), List.append_nil]
      rw [e, World.setRow_alloc_new, vals_length, hl]
      exact hK

/-- Only these blocks may have changed. -/
def Touch (F : Nat → Prop) (w w' : World) : Prop := w'.os = w.os ∧ w'.tape = w.tape ∧ w'.output = w.output ∧ w.heap.size ≤ w'.heap.size ∧ ∀ k, k < w.heap.size → ¬ F k → w'.heap[k]? = w.heap[k]?
theorem Touch.trans {F : Nat → Prop} {a b c : World} (h : Touch F a b) (k : Touch (fun i => F i ∨ a.heap.size ≤ i) b c) : Touch F a c :=
  ⟨k.1.trans h.1, k.2.1.trans h.2.1, k.2.2.1.trans h.2.2.1, Nat.le_trans h.2.2.2.1 k.2.2.2.1, fun i hi hF => (k.2.2.2.2 i (Nat.lt_of_lt_of_le hi h.2.2.2.1) (fun hh => by rcases hh with h | h; exact hF h; omega)).trans (h.2.2.2.2 i hi hF)⟩
theorem Touch.mono {F G : Nat → Prop} {a b : World} (h : Touch F a b) (k : ∀ i, i < a.heap.size → F i → G i) : Touch G a b :=
  ⟨h.1, h.2.1, h.2.2.1, h.2.2.2.1, fun i hi hG => h.2.2.2.2 i hi (fun hF => hG (k i hi hF))⟩
theorem Touch.refl (F : Nat → Prop) (w : World) : Touch F w w := ⟨rfl, rfl, rfl, Nat.le_refl _, fun _ _ _ => rfl⟩
theorem Touch.alloc {F : Nat → Prop} {a b : World} (h : Touch F a b) (o : Obj) : Touch F a (b.alloc o) :=
  ⟨h.1, h.2.1, h.2.2.1, by have := h.2.2.2.1; simp; omega, fun i hi hF => (heap_alloc_old b o (Nat.lt_of_lt_of_le hi h.2.2.2.1)).trans (h.2.2.2.2 i hi hF)⟩
theorem Touch.drewN {F : Nat → Prop} {a b : World} (h : Touch F a b) (q : Nat) : Touch F a (b.drewN q) := h
theorem Touch.setCell {F : Nat → Prop} {a b : World} (h : Touch F a b) (ad : Addr) (hF : a.heap.size ≤ ad.block ∨ F ad.block) (v : Value) : Touch F a (b.setCell ad v) :=
  ⟨h.1, h.2.1, h.2.2.1, by have := h.2.2.2.1; simp; omega, fun i hi hi' => (heap_setCell_other _ _ _ _ (fun e => by subst e; rcases hF with h | h; omega; exact hi' h)).trans (h.2.2.2.2 i hi hi')⟩
theorem Touch.below {F : Nat → Prop} {a b c : World} (h : Touch F a b) (hb : Below b.heap.size b c) : Touch F a c :=
  h.trans ⟨hb.os, hb.tape, hb.output, hb.size, fun k hk _ => hb.block k hk⟩
theorem Touch.toBelow {F : Nat → Prop} {a b : World} (h : Touch F a b) (B : Nat) (hB : B ≤ a.heap.size) (hF : ∀ i, i < B → ¬ F i) : Below B a b := ⟨h.1, h.2.1, h.2.2.1, h.2.2.2.1, fun i hi => h.2.2.2.2 i (by omega) (hF i hi)⟩
theorem Bytes.touch {F : Nat → Prop} {w w' : World} {A : Option Addr} {n : Nat} {l : List Nat} (h : Bytes w A n l) (hA : ∀ ad, A = some ad → 0 < n → ¬ F ad.block) (hb : Touch F w w') : Bytes w' A n l :=
  h.kept fun ad e hn => hb.2.2.2.2 _ (h.lt ad e hn) (hA ad e hn)

/-- Bytes, nil or not, put behind bytes of one's own. -/
theorem run_append_bytes (w : World) (ty : TypeId) (base : Nat) (v : Value) (M : List Nat) (hown : w.ownsRow base 5 1 v M.length (vals M)) (hbase : base ≤ w.heap.size)
    (A : Option Addr) (m c : Nat) (L : List Nat) (hB : Bytes w A m L) (hnil : A = none → c = 0) (hbound : M.length + m ≤ 1000000000) :
    ∃ v' w', (Builtin.append_ #[28, 28] ty #[v, .slice A m c]).run Tryd.prog w = .ok v' w' ∧ w'.ownsRow base 5 1 v' (M ++ L).length (vals (M ++ L)) ∧ w.grownBy w' v.ownBlock ∧ (v' = .slice none 0 0 ↔ v = .slice none 0 0 ∧ m = 0) ∧ (v'.ownBlock = v.ownBlock ∨ v'.ownBlock = some w.heap.size) := by
  obtain ⟨i0, hi, hz0, hz1, hz2⟩ := info_parts info5
  have hl := hB.1
  cases A with
  | none =>
    have hm : m = 0 := by
      rcases Nat.eq_zero_or_pos m with h0 | h0
      · exact h0
      · obtain ⟨b, o', e, _⟩ := hB.2.2 h0
        cases e
    have hc := hnil rfl
    subst hm hc
    obtain rfl : L = [] := List.eq_nil_of_length_eq_zero hl
    refine ⟨v, w, ?_, by simpa using hown, World.grownBy.refl w _, by simp, .inl rfl⟩
    rcases hown.2 with ⟨rfl, h0⟩ | ⟨g, cap, cur, rfl, _, hg, hnc, _⟩
    · simp [Builtin.append_, run_underlying Tryd.underlying28, sizeOf, typeInfo, hi, Builtin.lenOf, Builtin.firstCells, loadCells, loadCellsFrom]
    · simp [Builtin.append_, run_underlying Tryd.underlying28, sizeOf, typeInfo, hi, Builtin.lenOf, Builtin.firstCells, hnc, storeCells, loadCells, loadCellsFrom]
  | some ad =>
    obtain ⟨v', w', hr, h1, h2, h3, h4⟩ := run_append_own_at (P := Tryd.prog) w base 28 ty 5 i0 (.int .u8 0) 1 1 Tryd.underlying28 hi hz0 hz1 hz2 rfl (by decide) v M.length (vals M) hown ad m c (vals L) (by simp [vals, hl]) (fun j u hu => by
      have hj : j < L.length := by
        have := (List.getElem?_eq_some_iff.1 hu).1
        simpa [vals] using this
      obtain ⟨b, o', e, hc⟩ := hB.2.2 (by omega)
      cases e
      rw [add_none, hc j (by omega), ← hu]
      simp [vals, List.getD, hj]) (vals_one L) (by unfold maxLen; omega) (by omega) hbase
    refine ⟨v', w', hr, ?_, h2, h3, h4⟩
    rw [List.length_append, hl, vals_append]
    exact h1
theorem wp_append_bytes {o : Oper} {a : Act} {w : World} {K : Act → World → Prop} {Q : Exit → Act → World → Prop} (s x : Operand)
    (ho : o.op = .call { callee := .builtin .append, args := #[s, x], argTypes := #[28, 28] })
    (base : Nat) (v : Value) (M : List Nat) (hs : a.eval s = v) (hown : w.ownsRow base 5 1 v M.length (vals M)) (hbase : base ≤ w.heap.size)
    (A : Option Addr) (m c : Nat) (L : List Nat) (hx : a.eval x = .slice A m c) (hB : Bytes w A m L) (hnil : A = none → c = 0) (hbound : M.length + m ≤ 1000000000)
    (h : ∀ v' w', w'.ownsRow base 5 1 v' (M ++ L).length (vals (M ++ L)) → w.grownBy w' v.ownBlock → (v' = .slice none 0 0 ↔ v = .slice none 0 0 ∧ m = 0) → (v'.ownBlock = v.ownBlock ∨ v'.ownBlock = some w.heap.size) → K (a.put o.dst v') w') : o.wp Tryd.prog a w K Q := by
  obtain ⟨v', w', hr, h1, h2, h3, h4⟩ := run_append_bytes w o.type base v M hown hbase A m c L hB hnil hbound
  unfold Oper.wp execOp
  simp only [ho, resolve, invoke, builtin, Sem.run_bind, Sem.run_pure, Result.andThen_ok, List.map_toArray, List.map_cons, List.map_nil, hs, hx, hr]
  exact h v' w' h1 h2 h3 h4
theorem wpList_append_bytes {ops : Array Oper} {rest : List Oper} {o : Oper} {a : Act} {w : World} {Q : Exit → Act → World → Prop} (hgd : o.guard = none) (s x : Operand)
    (ho : o.op = .call { callee := .builtin .append, args := #[s, x], argTypes := #[28, 28] })
    (base : Nat) (v : Value) (M : List Nat) (hs : a.eval s = v) (hown : w.ownsRow base 5 1 v M.length (vals M)) (hbase : base ≤ w.heap.size)
    (A : Option Addr) (m c : Nat) (L : List Nat) (hx : a.eval x = .slice A m c) (hB : Bytes w A m L) (hnil : A = none → c = 0) (hbound : M.length + m ≤ 1000000000)
    (h : ∀ v' w', w'.ownsRow base 5 1 v' (M ++ L).length (vals (M ++ L)) → w.grownBy w' v.ownBlock → (v' = .slice none 0 0 ↔ v = .slice none 0 0 ∧ m = 0) → (v'.ownBlock = v.ownBlock ∨ v'.ownBlock = some w.heap.size) → wpList Tryd.prog ops Q rest (a.put o.dst v') w') : wpList Tryd.prog ops Q (o :: rest) a w :=
  wpList_plain hgd fun _ hK => wp_append_bytes s x ho base v M hs hown hbase A m c L hx hB hnil hbound fun v' w' h1 h2 h3 h4 => hK _ _ (h v' w' h1 h2 h3 h4)
theorem step_append_bytes {ops : Array Oper} {o : Oper} {a : Act} {w : World} {K : Act → World → Prop} {Q : Exit → Act → World → Prop} {E : Prop} (hgd : o.guard = none) (s x : Operand)
    (ho : o.op = .call { callee := .builtin .append, args := #[s, x], argTypes := #[28, 28] })
    (base : Nat) (v : Value) (M : List Nat) (hs : a.eval s = v) (hown : w.ownsRow base 5 1 v M.length (vals M)) (hbase : base ≤ w.heap.size)
    (A : Option Addr) (m c : Nat) (L : List Nat) (hx : a.eval x = .slice A m c) (hB : Bytes w A m L) (hnil : A = none → c = 0) (hbound : M.length + m ≤ 1000000000)
    (h : ∀ v' w', w'.ownsRow base 5 1 v' (M ++ L).length (vals (M ++ L)) → w.grownBy w' v.ownBlock → (v' = .slice none 0 0 ↔ v = .slice none 0 0 ∧ m = 0) → (v'.ownBlock = v.ownBlock ∨ v'.ownBlock = some w.heap.size) → K (a.put o.dst v') w') :
    if Region.wanted o (yielded ops a.tmps) = true then Oper.wp Tryd.prog o a w K Q else E := by
  have hw : Region.wanted o (yielded ops a.tmps) = true := by simp [Region.wanted, hgd]
  rw [if_pos hw]
  exact wp_append_bytes s x ho base v M hs hown hbase A m c L hx hB hnil hbound h

end Go.Proofs.YtepngemlaiffgaaDoor.codec
namespace Go.Proofs.YtepngemlaiffgaaDoor.codec
open Go.ChangeShapes Go.WideShapes Go.ChangeAt Go.RowKit
set_option linter.unusedVariables false
set_option maxRecDepth 100000
set_option linter.unusedSimpArgs false

theorem forget {P : Program} {c : Code} {a : Act} {w : World} {Q : Exit → Act → World → Prop} (R : World → Prop) (hR : R w) (h : ∀ w1, R w1 → Code.wp P c Q a w1) : Code.wp P c Q a w := h w hR

end Go.Proofs.YtepngemlaiffgaaDoor.codec
namespace Go.Proofs.YtepngemlaiffgaaDoor.codec
open Go.ChangeShapes Go.WideShapes Go.ChangeAt Go.RowKit
set_option linter.unusedVariables false
set_option maxRecDepth 100000
set_option linter.unusedSimpArgs false

def byteAt (v n j : Nat) : Nat := v / 256 ^ (n - 1 - j) % 256
def bytesOf (v n : Nat) : List Nat := (List.range n).map (byteAt v n)
theorem bytesOf_length (v n : Nat) : (bytesOf v n).length = n := by simp [bytesOf]
theorem bytesOf_lt (v n : Nat) : ∀ b ∈ bytesOf v n, b < 256 := by
  intro b hb
  obtain ⟨j, _, rfl⟩ := List.mem_map.1 hb
  exact Nat.mod_lt _ (by omega)
theorem pow_le7 {n : Nat} (h7 : n ≤ 7) : 2 ^ (8 * n) ≤ 72057594037927936 := Nat.pow_le_pow_right (n := 2) (by omega) (show 8 * n ≤ 56 by omega)
theorem wrap_pow {n : Nat} (h7 : n ≤ 7) : wrap64 (2 ^ (8 * n)) = ((2 ^ (8 * n) : Nat) : Int) := by
  have h := pow_le7 h7
  have e : ((2 : Int) ^ (8 * n)) = ((2 ^ (8 * n) : Nat) : Int) := by simp
  rw [e]
  generalize 2 ^ (8 * n) = m at *
  exact IntWalk.wrap64_in _ (by omega)
theorem p256 (n : Nat) : 256 ^ n = 2 ^ (8 * n) := by rw [Nat.pow_mul]
theorem fits_true {v n : Nat} (h7 : n ≤ 7) (hv : v < 256 ^ n) : decide ((v : Int) < wrap64 (2 ^ (8 * n))) = true := by
  rw [wrap_pow h7, decide_eq_true_eq]
  rw [p256] at hv
  exact_mod_cast hv
theorem fits_false {v n : Nat} (h7 : n ≤ 7) (hv : ¬ v < 256 ^ n) : decide ((v : Int) < wrap64 (2 ^ (8 * n))) = false := by
  rw [wrap_pow h7, decide_eq_false_iff_not]
  rw [p256] at hv
  exact_mod_cast hv

theorem bytes_row {w : World} {g t v n N : Nat} {f : Nat → Value} (h : w.rowIs g t N f) (hn : n ≤ N) (hf : ∀ j, j < n → f j = .int .u8 (byteAt v n j : Nat)) : Bytes w (some ⟨g, 0, none⟩) n (bytesOf v n) := by
  refine ⟨bytesOf_length v n, bytesOf_lt v n, fun _ => ⟨g, 0, rfl, fun i hi => ?_⟩⟩
  rw [Nat.zero_add, h.cell (by omega), hf i hi]
  simp [bytesOf, List.getD, hi]
theorem byteAt_i (v n k : Nat) : ((v : Int) / 2 ^ (8 * (n - 1 - k)) % 256) = ((byteAt v n k : Nat) : Int) := by
  unfold byteAt
  rw [p256]
  simp
/-- A number that fits. -/
def Fits (v n : Int) : Prop := 1 ≤ n ∧ n ≤ 7 ∧ 0 ≤ v ∧ v < 256 ^ n.toNat
theorem own_bytes {w : World} {g k cap : Nat} {l : List Nat} (h : w.ownsRow 0 5 1 (.slice (some ⟨g, 0, none⟩) k cap) l.length (vals l)) (hk : l.length = k) (hb : ∀ x ∈ l, x < 256) : Bytes w (some ⟨g, 0, none⟩) k l := by
  refine ⟨hk, hb, fun _ => ⟨g, 0, rfl, fun i hi => ?_⟩⟩
  have := h.cells (g := g) rfl i (.int .u8 (l.getD i 0 : Nat)) (by
    have hi' : i < l.length := by omega
    simp [vals, List.getD, hi'])
  rw [add_none] at this
  exact this
/-- New bytes of one's own. -/
def Made (w : World) (l : List Nat) (v : Value) (w' : World) : Prop := ∃ g, v = .slice (some ⟨g, 0, none⟩) l.length l.length ∧ w.heap.size ≤ g ∧ Below w.heap.size w w' ∧ w'.heap[g]? = some (.cells (vals l).toArray 5 (0, 0)) ∧ ∀ x ∈ l, x < 256
end Go.Proofs.YtepngemlaiffgaaDoor.codec
namespace Go.Proofs.YtepngemlaiffgaaDoor.codec
open Go.ChangeShapes Go.WideShapes Go.ChangeAt Go.RowKit
set_option linter.unusedVariables false
set_option maxRecDepth 100000
set_option linter.unusedSimpArgs false

def strOf (l : List Nat) : ByteArray := ⟨(l.map UInt8.ofNat).toArray⟩
theorem strOfNums_nat (l : List Nat) : strOfNums (l.map Int.ofNat) = strOf l := by
  simp only [strOfNums, strOf, List.map_map]
  rfl
theorem strOf_size (a : List Nat) : (strOf a).size = a.length := by simp [strOf, ByteArray.size]
/-- Bytes as a text. -/
theorem Bytes.text {w : World} {A : Option Addr} {n : Nat} {l : List Nat} (h : Bytes w A n l) (c : Nat) : (convert 28 9 (.slice A n c)).run Tryd.prog w = .ok (.string (strOf l)) w := by
  rcases Nat.eq_zero_or_pos n with h0 | h0
  · subst h0
    obtain rfl : l = [] := List.eq_nil_of_length_eq_zero h.1
    rw [run_convert_bytes_zero w 28 5 Tryd.underlying28 Tryd.underlying5 A c 9 Tryd.underlying9]
    rfl
  · obtain ⟨b, o, rfl, hc⟩ := h.2.2 h0
    have hl := h.1
    rw [run_convert_bytes_arg (P := Tryd.prog) w 28 5 Tryd.underlying28 Tryd.underlying5 b o n c (l.map Int.ofNat) (by simpa using hl) (fun i hi => by
      rw [hc i hi]
      have hi' : i < l.length := by omega
      simp [List.getD, hi']) 9 Tryd.underlying9, strOfNums_nat]
theorem strOf_inj {a b : List Nat} (ha : ∀ x ∈ a, x < 256) (hb : ∀ x ∈ b, x < 256) (h : strOf a = strOf b) : a = b := by
  unfold strOf at h
  have h1 : a.map UInt8.ofNat = b.map UInt8.ofNat := by
    have := congrArg ByteArray.data h
    simpa using this
  have h2 := congrArg (List.map UInt8.toNat) h1
  simp only [List.map_map] at h2
  have e : ∀ l : List Nat, (∀ x ∈ l, x < 256) → l.map (UInt8.toNat ∘ UInt8.ofNat) = l := by
    intro l hl
    calc l.map (UInt8.toNat ∘ UInt8.ofNat) = l.map id := List.map_congr_left (fun x hx => by simp [Nat.mod_eq_of_lt (hl x hx)])
      _ = l := by simp
  rwa [e a ha, e b hb] at h2
theorem Made.bytes {w w' : World} {l : List Nat} {v : Value} (h : Made w l v w') : ∃ g, v = .slice (some ⟨g, 0, none⟩) l.length l.length ∧ w.heap.size ≤ g ∧ Below w.heap.size w w' ∧ Bytes w' (some ⟨g, 0, none⟩) l.length l := by
  obtain ⟨g, rfl, h1, h2, h3, h4⟩ := h
  refine ⟨g, rfl, h1, h2, rfl, h4, fun _ => ⟨g, 0, rfl, fun i hi => ?_⟩⟩
  simp [World.cell?, h3, vals, List.getD, hi]
end Go.Proofs.YtepngemlaiffgaaDoor.codec
namespace Go.Proofs.YtepngemlaiffgaaDoor.codec
open Go.ChangeShapes Go.WideShapes Go.ChangeAt Go.RowKit
set_option linter.unusedVariables false
set_option maxRecDepth 100000
set_option linter.unusedSimpArgs false

/-- The number that bytes are, the greatest first. -/
def numFrom (v : Nat) (l : List Nat) : Nat := l.foldl (fun v b => v * 256 + b) v
def numOf (l : List Nat) : Nat := numFrom 0 l
theorem numOf_take (l : List Nat) (k : Nat) (hk : k < l.length) : numOf (l.take (k + 1)) = numOf (l.take k) * 256 + l.getD k 0 := by
  have : l.take (k + 1) = l.take k ++ [l.getD k 0] := by
    rw [List.take_add_one]
    simp [List.getD, hk]
  rw [this]
  simp [numOf, numFrom]
theorem numOf_lt (l : List Nat) (h : ∀ b ∈ l, b < 256) (k : Nat) : numOf (l.take k) < 256 ^ k := by
  induction k with
  | zero => simp [numOf, numFrom]
  | succ k ih =>
    by_cases hk : k < l.length
    · rw [numOf_take l k hk, Nat.pow_succ]
      have := getD_lt256 h k
      omega
    · rw [List.take_of_length_le (by omega)] at ih ⊢
      exact Nat.lt_of_lt_of_le ih (Nat.pow_le_pow_right (by omega) (by omega))
theorem or_add (v c : Nat) (hc : c < 256) : (v * 256) ||| c = v * 256 + c := by
  have := Nat.two_pow_add_eq_or_of_lt (i := 8) (b := c) (by omega) v
  rw [Nat.mul_comm] at this
  exact this.symm
theorem i64_or_nat (a b : Nat) (ha : a < 4611686018427387904) (hb : b < 4611686018427387904) : bits .or .i64 (a : Int) (b : Int) = ((a ||| b : Nat) : Int) := by
  have hx : a ||| b < 4611686018427387904 := Nat.or_lt_two_pow (n := 62) (by omega) (by omega)
  show IntKind.i64.wrap ((BitVec.ofInt 64 (a : Int) ||| BitVec.ofInt 64 (b : Int)).toNat : Int) = _
  rw [BitVec.toNat_or, ofInt_u64 a (by omega), ofInt_u64 b (by omega), IntKind.wrap_i64]
  generalize a ||| b = m at *
  omega
theorem shl_or (v c : Nat) (hv : v < 281474976710656) (hc : c < 256) : bits .or .i64 ((v : Int) * 256) (c : Int) = ((v * 256 + c : Nat) : Int) := by
  have := i64_or_nat (v * 256) c (by omega) (by omega)
  rw [or_add v c hc] at this
  simpa using this

theorem empty_bytes (w : World) : Bytes w none 0 [] := ⟨rfl, by simp, fun h => absurd h (by omega)⟩
/-- What is read behind the call: new bytes. -/
def Gives (l : List Nat) (e : Ending) (w' : World) : Prop := ∃ g' , e = .returned (.slice (some ⟨g', 0, none⟩) l.length l.length) ∧ Bytes w' (some ⟨g', 0, none⟩) l.length l
theorem alloc_bytes (w : World) (l : List Nat) (hl : ∀ b ∈ l, b < 256) : Bytes (w.alloc (.cells (vals l).toArray 5)) (some ⟨w.heap.size, 0, none⟩) l.length l := by
  refine ⟨rfl, hl, fun _ => ⟨_, 0, rfl, fun i hi => ?_⟩⟩
  rw [Nat.zero_add, cell_of_row _ _ i _ 5 (0, 0) (heap_alloc_new w _)]
  simp [vals, List.getD, hi]
end Go.Proofs.YtepngemlaiffgaaDoor.codec
namespace Go.Proofs.YtepngemlaiffgaaDoor.codec
open Go.ChangeShapes Go.WideShapes Go.ChangeAt Go.RowKit
set_option linter.unusedVariables false
set_option maxRecDepth 100000
set_option linter.unusedSimpArgs false

def bytesTo (v n k j : Nat) : Nat := if n ≤ j + k ∧ j < n then byteAt v n j else 0
theorem bytesTo_all (v n i : Nat) (h : i < n) : bytesTo v n n i = byteAt v n i := by
  unfold bytesTo
  rw [if_pos (by omega)]
theorem bytes_step {wr : World} {g t v n k m : Nat} {x : Int} (hm : m + k + 1 = n) (hk : k < n) (hx : x = (byteAt v n m : Nat)) (h : wr.rowIs g t n (fun j => .int .u8 (bytesTo v n k j : Nat))) :
    (wr.setCell ⟨g, m, none⟩ (.int .u8 x)).rowIs g t n (fun j => .int .u8 (bytesTo v n (k + 1) j : Nat)) := by
  refine (h.set _ _).congr fun j hj => ?_
  by_cases e : j = m
  · subst e
    simp only [if_true, hx, bytesTo]
    rw [if_pos (by omega)]
  · simp only [if_neg e, bytesTo]
    have : (n ≤ j + (k + 1) ∧ j < n) ↔ (n ≤ j + k ∧ j < n) := by omega
    simp only [this]
theorem strCells_of (l : List Nat) (h : ∀ x ∈ l, x < 256) : Lib.strCells (strOf l) = vals l := by
  unfold Lib.strCells strOf vals
  simp only [List.toList_toArray, List.map_map]
  refine List.map_congr_left fun x hx => ?_
  simp [Nat.mod_eq_of_lt (h x hx)]
theorem row_owns {w : World} {g n : Nat} {v : Nat} (B : Nat) (hB : B ≤ g) (hn : n ≤ maxLen) (h : w.rowIs g 5 n (fun j => .int .u8 (byteAt v n j : Nat))) : w.ownsRow B 5 1 (.slice (some ⟨g, 0, none⟩) n n) n (vals (bytesOf v n)) := by
  obtain ⟨c, h1, h2, h3⟩ := h
  refine ⟨by simp [vals, bytesOf], .inr ⟨g, n, c, rfl, hB, h1, Nat.le_refl _, hn, by omega, ?_⟩⟩
  refine List.ext_getElem? fun i => ?_
  by_cases hi : i < n
  · rw [List.getElem?_take, if_pos (by omega)]
    have := h3 i hi
    simp [vals, bytesOf, hi]
    simpa using this
  · rw [List.getElem?_eq_none (by simp; omega), List.getElem?_eq_none (by simp [vals, bytesOf]; omega)]
/-- Bytes that the call made, somewhere. -/
def New (w : World) (l : List Nat) (v : Value) (w' : World) : Prop := ∃ g cap, v = .slice (some ⟨g, 0, none⟩) l.length cap ∧ w.heap.size ≤ g ∧ Below w.heap.size w w' ∧ Bytes w' (some ⟨g, 0, none⟩) l.length l
theorem own_bytes' {w : World} {B g k cap : Nat} {l : List Nat} (h : w.ownsRow B 5 1 (.slice (some ⟨g, 0, none⟩) k cap) l.length (vals l)) (hk : l.length = k) (hb : ∀ x ∈ l, x < 256) : Bytes w (some ⟨g, 0, none⟩) k l := by
  refine ⟨hk, hb, fun _ => ⟨g, 0, rfl, fun i hi => ?_⟩⟩
  have := h.cells (g := g) rfl i (.int .u8 (l.getD i 0 : Nat)) (by
    have hi' : i < l.length := by omega
    simp [vals, List.getD, hi'])
  rw [add_none] at this
  exact this
theorem all_lt {a b : List Nat} (ha : ∀ x ∈ a, x < 256) (hb : ∀ x ∈ b, x < 256) : ∀ x ∈ a ++ b, x < 256 := by
  intro x hx
  rcases List.mem_append.1 hx with h | h
  · exact ha x h
  · exact hb x h
theorem numOf_bytes (v n : Nat) (hv : v < 256 ^ n) : numOf (bytesOf v n) = v := by
  have key : ∀ k, k ≤ n → numOf ((bytesOf v n).take k) = v / 256 ^ (n - k) := by
    intro k
    induction k with
    | zero =>
      intro _
      simp [numOf, numFrom]
      exact (Nat.div_eq_of_lt hv).symm
    | succ k ih =>
      intro hk
      rw [numOf_take _ k (by simp [bytesOf]; omega), ih (by omega)]
      have e : (bytesOf v n).getD k 0 = byteAt v n k := by simp [bytesOf, List.getD, show k < n by omega]
      rw [e]
      unfold byteAt
      have e2 : n - k = (n - (k + 1)) + 1 := by omega
      have e3 : n - 1 - k = n - (k + 1) := by omega
      rw [e2, e3, Nat.pow_succ, ← Nat.div_div_eq_div_mul]
      omega
  have := key n (Nat.le_refl _)
  rw [List.take_of_length_le (by simp [bytesOf]), Nat.sub_self] at this
  simpa using this
end Go.Proofs.YtepngemlaiffgaaDoor.codec
namespace Go.Proofs.YtepngemlaiffgaaDoor.codec
open Go.ChangeShapes Go.WideShapes Go.ChangeAt Go.RowKit
set_option linter.unusedVariables false
set_option maxRecDepth 100000
set_option linter.unusedSimpArgs false

end Go.Proofs.YtepngemlaiffgaaDoor.codec
namespace Go.Proofs.YtepngemlaiffgaaDoor.rd
open Go.ChangeShapes Go.WideShapes Go.ChangeAt Go.RowKit
open Go.Proofs.YtepngemlaiffgaaDoor.codec (Bytes vals vals_append vals_length vals_one bytesOf byteAt bytesOf_length bytesOf_lt strOf numOf)
set_option linter.unusedVariables false
set_option maxRecDepth 100000
set_option linter.unusedSimpArgs false

/-- What the next k bytes are. -/
def got (k : Nat) : Option (List Nat) → List Nat
  | some l => if k ≤ l.length then l.take k else []
  | none => []
/-- What is left behind them. -/
def rest (k : Nat) : Option (List Nat) → Option (List Nat)
  | some l => if k ≤ l.length then some (l.drop k) else none
  | none => none
/-- What is left is bytes. -/
theorem rest_lt {L : Option (List Nat)} (k : Nat) (hl : ∀ l, L = some l → ∀ b ∈ l, b < 256) : ∀ l, rest k L = some l → ∀ b ∈ l, b < 256 := by
  intro l hr b hb
  cases L with
  | none => simp [rest] at hr
  | some m =>
    simp only [rest] at hr
    split at hr
    · cases hr
      exact hl m rfl b (List.mem_of_mem_drop hb)
    · simp at hr
theorem str_ne {T S : ByteArray} (h : T ≠ S) : (T.toList == S.data.toList) = false := by
  rw [beq_eq_false_iff_ne, ByteArray.toList_eq]
  intro e
  apply h
  obtain ⟨⟨t⟩⟩ := T
  obtain ⟨⟨u⟩⟩ := S
  simp at e
  rw [e]
theorem bytes_take {w : World} {A : Option Addr} {n : Nat} {l : List Nat} (h : Bytes w A n l) (k : Nat) (hk : k ≤ n) : Bytes w A k (l.take k) := by
  refine ⟨by rw [List.length_take, h.1]; omega, fun b hb => h.2.1 b (List.mem_of_mem_take hb), fun h0 => ?_⟩
  obtain ⟨b, o, rfl, hc⟩ := h.2.2 (by omega)
  refine ⟨b, o, rfl, fun i hi => ?_⟩
  rw [hc i (by omega)]
  simp [List.getD, hi]
theorem bytes_drop {w : World} {b o : Nat} {n : Nat} {l : List Nat} (h : Bytes w (some ⟨b, o, none⟩) n l) (k : Nat) (hk : k < n) : Bytes w (some ⟨b, o + k, none⟩) (n - k) (l.drop k) := by
  refine ⟨by rw [List.length_drop, h.1], fun x hx => h.2.1 x (List.mem_of_mem_drop hx), fun h0 => ?_⟩
  obtain ⟨b, o, e, hc⟩ := h.2.2 (by omega)
  cases e
  refine ⟨_, _, rfl, fun i hi => ?_⟩
  rw [Nat.add_assoc, hc (k + i) (by omega)]
  simp [List.getD]
end Go.Proofs.YtepngemlaiffgaaDoor.rd
namespace Go.Proofs.YtepngemlaiffgaaDoor.codec
open Go.ChangeShapes Go.WideShapes Go.ChangeAt Go.RowKit
set_option linter.unusedVariables false
set_option maxRecDepth 100000
set_option linter.unusedSimpArgs false

theorem text_new {w w1 w2 : World} {l : List Nat} {v : Value} {S : Nat} (hl : ∀ x ∈ l, x < 256) (hb : Below w.heap.size w w1) (hS : S = w.heap.size) (ho : w2.ownsRow w.heap.size 5 1 v (2 + (strOf l).size) (vals (bytesOf l.length 2) ++ Lib.strCells (strOf l)))
    (hg : w1.grownBy w2 (some S)) (hn : v = .slice none 0 0 ↔ Value.slice (some ⟨S, 0, none⟩) 2 2 = .slice none 0 0 ∧ (strOf l).size = 0) : New w (bytesOf l.length 2 ++ l) v w2 := by
  rw [strOf_size, strCells_of l hl, ← vals_append] at ho
  have hln : (bytesOf l.length 2 ++ l).length = 2 + l.length := by simp [bytesOf]
  have hkk : Below w.heap.size w w2 := hb.trans ⟨hg.os, hg.tape, hg.output, hg.size, fun k hk => hg.block k (Nat.lt_of_lt_of_le hk hb.size) (fun e => by have := Option.some.inj e; omega)⟩
  rcases ho.2 with ⟨e, _⟩ | ⟨g, cap, cur, e, hbg, _⟩
  · exact absurd (hn.1 e).1 (by simp)
  · subst e
    rw [← hln] at ho ⊢
    exact ⟨g, cap, rfl, hbg, hkk, own_bytes' ho rfl (all_lt (bytesOf_lt _ _) hl)⟩
theorem str_bytes (w : World) (l : List Nat) (hl : ∀ x ∈ l, x < 256) : Bytes (Lib.bytesWorld w 5 (strOf l)) (some ⟨w.heap.size, 0, none⟩) l.length l ∧ Below w.heap.size w (Lib.bytesWorld w 5 (strOf l)) := by
  refine ⟨⟨rfl, hl, fun _ => ⟨_, 0, rfl, fun i hi => ?_⟩⟩, rfl, rfl, rfl, by rw [Lib.bytesWorld_size]; omega, fun k hk => Lib.bytesWorld_at_old w 5 _ k hk⟩
  rw [Nat.zero_add, Lib.bytesWorld_cell w 5 _ i (by rw [strOf_size]; exact hi)]
  have hx := hl (l.getD i 0) (by simp [List.getD, hi])
  simp [strOf, List.getD, hi] at hx ⊢
  omega
end Go.Proofs.YtepngemlaiffgaaDoor.codec
namespace Go.Proofs.YtepngemlaiffgaaDoor.rd
open Go.ChangeShapes Go.WideShapes Go.ChangeAt Go.RowKit
open Go.Proofs.YtepngemlaiffgaaDoor.codec (Bytes vals bytesOf strOf numOf)
set_option maxRecDepth 100000

def leftN : Option (List Nat) → Nat
  | some l => l.length
  | none => 0
end Go.Proofs.YtepngemlaiffgaaDoor.rd
namespace Go.Proofs.YtepngemlaiffgaaDoor.nam
open Go.Lib

/-- Byte i of s. -/
def byt (s : ByteArray) (i : Nat) : Nat := (s.data[i]!).toNat
theorem byt_at (s : ByteArray) (i : Nat) (h : i < s.size) : (s[i]'h).toNat = byt s i := by
  unfold byt
  rw [getElem!_pos s.data i (by simpa using h)]; rfl
theorem byt_lt (s : ByteArray) (i : Nat) : byt s i < 256 := UInt8.toNat_lt _
theorem byt_list (s : ByteArray) (i : Nat) (h : i < s.size) : ∃ h', (s.data.toList[i]'h').toNat = byt s i := by
  have h' : i < s.data.toList.length := by rw [← size_eq]; exact h
  refine ⟨h', ?_⟩
  unfold byt
  rw [getElem!_pos s.data i (by simpa using h)]
  simp
theorem byt_some (s : ByteArray) (i : Nat) (h : i < s.size) : ∃ c : UInt8, s.data.toList[i]? = some c ∧ c.toNat = byt s i := by
  obtain ⟨h', e⟩ := byt_list s i h
  exact ⟨_, List.getElem?_eq_getElem h', e⟩

/-- May the byte stand in a part of a name? -/
def nameB (c : Nat) : Bool := decide (c = 46 ∨ c = 95 ∨ c = 45 ∨ (97 ≤ c ∧ c ≤ 122) ∨ (65 ≤ c ∧ c ≤ 90) ∨ (48 ≤ c ∧ c ≤ 57))
theorem nameB_stroke : nameB 47 = false := by decide
/-- Is it a part? -/
def partL (l : List UInt8) : Bool := !l.isEmpty && l.all fun c => nameB c.toNat
/-- The parts of what comes, each ends in a stroke or with it; `p`: a stroke stands ahead. -/
def runL : Bool → List UInt8 → Option Bool
  | p, [] => some p
  | p, c :: r => if c.toNat = 47 then (if p then none else runL true r) else if nameB c.toNat then runL false r else none
theorem runL_append : ∀ (p : Bool) (a b : List UInt8), runL p (a ++ b) = (runL p a).bind fun q => runL q b
  | p, [], b => by simp [runL]
  | p, c :: r, b => by
    simp only [List.cons_append, runL]
    split
    · split
      · rfl
      · exact runL_append true r b
    · split
      · exact runL_append false r b
      · rfl
theorem runL_take (p : Bool) (l : List UInt8) (k : Nat) (h : runL p (l.take k) = none) : runL p l = none := by
  rw [← List.take_append_drop k l, runL_append, h]; rfl
theorem runL_plain (p : Bool) : ∀ (a : List UInt8), (∀ c ∈ a, c.toNat ≠ 47) → runL p a = if a.all (fun c => nameB c.toNat) then some (a.isEmpty && p) else none
  | [], _ => by simp [runL]
  | c :: r, h => by
    have hc : c.toNat ≠ 47 := h c (by simp)
    have ih := runL_plain false r fun x hx => h x (by simp [hx])
    simp only [runL, if_neg hc, List.all_cons]
    by_cases hn : nameB c.toNat = true
    · simp [hn, ih]
    · simp [hn]
def goodL (l : List UInt8) : Bool := runL true l == some false

theorem partL_plain (a : List UInt8) (h : ∀ c ∈ a, c.toNat ≠ 47) : partL a = (runL true a == some false) := by
  rw [runL_plain true a h]
  unfold partL
  cases a.all (fun c => nameB c.toNat) <;> cases a <;> simp
theorem partL_false (a : List UInt8) (c : UInt8) (hc : c ∈ a) (hn : nameB c.toNat = false) : partL a = false := by
  unfold partL
  have : (a.all fun c => nameB c.toNat) = false := by
    rw [List.all_eq_false]
    exact ⟨c, hc, by simp [hn]⟩
  rw [this, Bool.and_false]

theorem split_good : ∀ (k : Nat) (s : List UInt8), count s [47] = k → (splitK [47] 0 k s).all partL = goodL s
  | 0, s, h => by
    have hi : index s [47] = -1 := by
      rcases Int.lt_or_eq_of_le (index_ge s [47]) with h1 | h1
      · obtain ⟨i, hi⟩ := Int.eq_ofNat_of_zero_le (show 0 ≤ index s [47] by omega)
        have := count_hit (s := s) (sub := [47]) (by simp) hi
        omega
      · exact h1.symm
    rw [index_one] at hi
    have hn : ∀ c ∈ s, c.toNat ≠ 47 := fun c hc e => by
      obtain ⟨k, hk⟩ := List.mem_iff_getElem?.1 hc
      refine indexByte_none hi k ?_
      rw [hk]
      exact congrArg some (UInt8.toNat_inj.1 (by simpa using e))
    simp only [splitK, List.all_cons, List.all_nil, Bool.and_true]
    rw [partL_plain s hn]
    rfl
  | k + 1, s, h => by
    have hm : index s [47] ≠ -1 := fun e => by rw [count_miss e] at h; omega
    have hge := index_ge s [47]
    obtain ⟨i, hi⟩ := Int.eq_ofNat_of_zero_le (show 0 ≤ index s [47] by omega)
    have hc := count_hit (s := s) (sub := [47]) (by simp) hi
    have hi' := hi
    rw [index_one] at hi'
    obtain ⟨h1, h2⟩ := indexByte_some hi'
    have hlt : i < s.length := (List.getElem?_eq_some_iff.1 h1).1
    have hge' : ¬ (index s [47] == -1) = true := by simpa using hm
    have et : (index s [47]).toNat = i := by omega
    rw [splitK, if_neg hge', et]
    simp only [Nat.add_zero, List.length_cons, List.length_nil, Nat.zero_add, List.all_cons]
    simp only [List.length_cons, List.length_nil, Nat.zero_add] at hc
    rw [split_good k (s.drop (i + 1)) (by omega)]
    have hn : ∀ c ∈ s.take i, c.toNat ≠ 47 := fun c hc e => by
      obtain ⟨k, hk⟩ := List.mem_iff_getElem?.1 hc
      have hkl : k < i := by
        have := (List.getElem?_eq_some_iff.1 hk).1
        rw [List.length_take] at this
        omega
      rw [List.getElem?_take, if_pos hkl] at hk
      refine h2 k hkl ?_
      rw [hk]
      exact congrArg some (UInt8.toNat_inj.1 (by simpa using e))
    have e1 : s = s.take i ++ 47 :: s.drop (i + 1) := by
      have : s[i] = 47 := by
        have := List.getElem?_eq_some_iff.1 h1
        exact this.2
      rw [← this, List.getElem_cons_drop, List.take_append_drop]
    unfold goodL
    rw [partL_plain _ hn]
    conv => rhs; rw [e1, runL_append]
    cases hr : runL true (s.take i) with
    | none => simp
    | some q => cases q <;> simp [runL]

theorem split_goodB (s : ByteArray) : (splitB ⟨#[47]⟩ 0 (countB s ⟨#[47]⟩) s).all (fun t => partL t.data.toList) = goodL s.data.toList := by
  have h := split_good _ s.data.toList rfl
  have e := splitB_data ⟨#[47]⟩ 0 (countB s ⟨#[47]⟩) s
  have e2 : (splitB ⟨#[47]⟩ 0 (countB s ⟨#[47]⟩) s).all (fun t => partL t.data.toList) = ((splitB ⟨#[47]⟩ 0 (countB s ⟨#[47]⟩) s).map (·.data.toList)).all partL := by
    rw [List.all_map]; rfl
  rw [e2, e]
  exact h

theorem splitB_size (sep : ByteArray) : ∀ (k : Nat) (s : ByteArray), ∀ t ∈ splitB sep 0 k s, t.size ≤ s.size
  | 0, s, t, h => by
    rw [splitB_zero] at h
    simp at h
    subst h
    exact Nat.le_refl _
  | k + 1, s, t, h => by
    unfold splitB at h
    split at h
    · simp at h
      subst h
      exact Nat.le_refl _
    · rcases List.mem_cons.1 h with rfl | h
      · rw [ByteArray.size_extract]; omega
      · have := splitB_size sep k _ t h
        rw [ByteArray.size_extract] at this
        omega

/-- A small letter for a great one. -/
def low (c : Nat) : Nat := if 65 ≤ c ∧ c ≤ 90 then c + 32 else c
def alike (s t : ByteArray) : Bool := decide (s.size = t.size) && (List.range s.size).all fun i => low (byt s i) == low (byt t i)
theorem alike_false (s t : ByteArray) (i : Nat) (h : i < s.size) (hne : (low (byt s i) == low (byt t i)) = false) : alike s t = false := by
  unfold alike
  have : ((List.range s.size).all fun i => low (byt s i) == low (byt t i)) = false := by
    rw [List.all_eq_false]
    exact ⟨i, List.mem_range.2 h, by simp [hne]⟩
  rw [this, Bool.and_false]
theorem alike_true (s t : ByteArray) (h : s.size = t.size) (he : ∀ i, i < s.size → (low (byt s i) == low (byt t i)) = true) : alike s t = true := by
  unfold alike
  simp only [h, decide_true, Bool.true_and, List.all_eq_true, List.mem_range]
  intro i hi
  exact he i (by omega)
theorem alike_size (s t : ByteArray) (h : s.size ≠ t.size) : alike s t = false := by
  unfold alike
  simp [h]

def inbox : ByteArray := ⟨#[105, 110, 98, 111, 120]⟩
def INBOX : ByteArray := ⟨#[73, 78, 66, 79, 88]⟩
theorem fold_low (x y : UInt8) : foldEq x y = (low x.toNat == low y.toNat) := by
  have hx := UInt8.toNat_lt x
  have hy := UInt8.toNat_lt y
  rw [Bool.eq_iff_iff]
  unfold foldEq low
  simp only [decide_eq_true_eq, beq_iff_eq]
  split <;> split <;> omega
theorem equalFold_map : ∀ (s t : List UInt8), equalFold s t = (s.map (fun c => low c.toNat) == t.map (fun c => low c.toNat))
  | [], [] => rfl
  | [], _ :: _ => rfl
  | _ :: _, [] => rfl
  | x :: s, y :: t => by
    rw [equalFold, equalFold_map s t, fold_low]
    simp
theorem alike_map (s t : ByteArray) : alike s t = (s.data.toList.map (fun c => low c.toNat) == t.data.toList.map (fun c => low c.toNat)) := by
  have hs := size_eq s
  have ht := size_eq t
  rw [Bool.eq_iff_iff]
  unfold alike
  simp only [Bool.and_eq_true, decide_eq_true_eq, List.all_eq_true, List.mem_range, beq_iff_eq]
  constructor
  · rintro ⟨h1, h2⟩
    apply List.ext_getElem
    · simp only [List.length_map]; omega
    · intro i hi hi'
      simp only [List.length_map] at hi hi'
      have h3 := h2 i (by omega)
      obtain ⟨a, ea⟩ := byt_list s i (by omega)
      obtain ⟨b, eb⟩ := byt_list t i (by omega)
      simp only [List.getElem_map, ea, eb]
      exact h3
  · intro h
    have hl : s.size = t.size := by
      have := congrArg List.length h
      simp only [List.length_map] at this
      omega
    refine ⟨hl, fun i hi => ?_⟩
    obtain ⟨a, ea⟩ := byt_list s i hi
    obtain ⟨b, eb⟩ := byt_list t i (by omega)
    have := congrArg (fun l : List Nat => l[i]?) h
    simp only [List.getElem?_map, List.getElem?_eq_getElem a, List.getElem?_eq_getElem b, Option.map_some, Option.some.injEq, ea, eb] at this
    exact this
theorem fold_inbox (s : ByteArray) : equalFold s.data.toList INBOX.data.toList = alike s inbox := by
  rw [equalFold_map, alike_map]
  have : INBOX.data.toList.map (fun c => low c.toNat) = inbox.data.toList.map (fun c => low c.toNat) := by decide
  rw [this]

/-- Is it a name? -/
def normOk (s : ByteArray) : Bool := decide (s.size ≤ 60) && goodL s.data.toList
def normS (s : ByteArray) : ByteArray := if normOk s then (if alike s inbox then INBOX else s) else ⟨#[]⟩
theorem goodL_ascii (l : List UInt8) (p : Bool) (h : runL p l ≠ none) : ∀ c ∈ l, c.toNat < 128 := by
  induction l generalizing p with
  | nil => simp
  | cons c r ih =>
    intro x hx
    simp only [runL] at h
    rcases List.mem_cons.1 hx with rfl | hx'
    · by_cases h1 : x.toNat = 47
      · omega
      · rw [if_neg h1] at h
        cases hn : nameB x.toNat
        · rw [hn] at h; simp at h
        · unfold nameB at hn
          simp only [decide_eq_true_eq] at hn
          omega
    · by_cases h1 : c.toNat = 47
      · rw [if_pos h1] at h
        cases p
        · exact ih true (by simpa using h) x hx'
        · simp at h
      · rw [if_neg h1] at h
        cases hn : nameB c.toNat
        · rw [hn] at h; simp at h
        · rw [hn] at h
          exact ih false (by simpa using h) x hx'
theorem normOk_ascii (s : ByteArray) (h : normOk s = true) : ∀ (j : Nat) b, s.data.toList[j]? = some b → b.toNat < 128 := by
  intro j b hb
  unfold normOk goodL at h
  simp only [Bool.and_eq_true, beq_iff_eq] at h
  exact goodL_ascii _ true (by rw [h.2]; simp) b (List.mem_of_getElem? hb)
theorem INBOX_ascii : ∀ (j : Nat) b, INBOX.data.toList[j]? = some b → b.toNat < 128 := by
  intro j b hb
  have : ∀ c ∈ INBOX.data.toList, c.toNat < 128 := by decide
  exact this b (List.mem_of_getElem? hb)
theorem normOk_INBOX : normOk INBOX = true := by decide
theorem alike_INBOX : alike INBOX inbox = true := by decide
theorem normOk_inbox : normOk inbox = true := by decide
theorem alike_inbox : alike inbox inbox = true := by decide
theorem norm_again (s : ByteArray) (h : normOk s = true) : normOk (normS s) = true ∧ normS (normS s) = normS s := by
  have e : normS s = if alike s inbox then INBOX else s := by unfold normS; rw [if_pos h]
  by_cases ha : alike s inbox = true
  · rw [if_pos ha] at e
    rw [e]
    refine ⟨normOk_INBOX, ?_⟩
    unfold normS
    rw [if_pos normOk_INBOX, if_pos alike_INBOX]
  · rw [if_neg ha] at e
    rw [e]
    exact ⟨h, e⟩

/-! ### One byte more -/
theorem take_succ_byt (s : ByteArray) (k : Nat) (h : k < s.size) : ∃ c : UInt8, c.toNat = byt s k ∧ s.data.toList.take (k + 1) = s.data.toList.take k ++ [c] := by
  obtain ⟨c, hc, e⟩ := byt_some s k h
  refine ⟨c, e, ?_⟩
  rw [List.take_add_one, hc]
  rfl
theorem run_stroke_stroke (s : ByteArray) (k : Nat) (h : k < s.size) (hr : runL true (s.data.toList.take k) = some true) (hb : byt s k = 47) : goodL s.data.toList = false := by
  obtain ⟨c, e, et⟩ := take_succ_byt s k h
  have : runL true (s.data.toList.take (k + 1)) = none := by
    rw [et, runL_append, hr]
    simp [runL, e, hb]
  unfold goodL
  rw [runL_take true _ (k + 1) this]; rfl
theorem run_bad (s : ByteArray) (k : Nat) (h : k < s.size) (q : Bool) (hr : runL true (s.data.toList.take k) = some q) (hb : byt s k ≠ 47) (hn : nameB (byt s k) = false) : goodL s.data.toList = false := by
  obtain ⟨c, e, et⟩ := take_succ_byt s k h
  have : runL true (s.data.toList.take (k + 1)) = none := by
    rw [et, runL_append, hr]
    simp [runL, e, hb, hn]
  unfold goodL
  rw [runL_take true _ (k + 1) this]; rfl
theorem run_stroke (s : ByteArray) (k : Nat) (h : k < s.size) (hr : runL true (s.data.toList.take k) = some false) (hb : byt s k = 47) : runL true (s.data.toList.take (k + 1)) = some true := by
  obtain ⟨c, e, et⟩ := take_succ_byt s k h
  rw [et, runL_append, hr]
  simp [runL, e, hb]
theorem run_good (s : ByteArray) (k : Nat) (h : k < s.size) (q : Bool) (hr : runL true (s.data.toList.take k) = some q) (hb : byt s k ≠ 47) (hn : nameB (byt s k) = true) : runL true (s.data.toList.take (k + 1)) = some false := by
  obtain ⟨c, e, et⟩ := take_succ_byt s k h
  rw [et, runL_append, hr]
  simp [runL, e, hb, hn]
theorem run_end (s : ByteArray) (q : Bool) (hr : runL true (s.data.toList.take s.size) = some q) : goodL s.data.toList = !q := by
  have : s.data.toList.take s.size = s.data.toList := by rw [size_eq, List.take_length]
  rw [this] at hr
  unfold goodL
  rw [hr]
  cases q <;> rfl
theorem part_bad (s : ByteArray) (k : Nat) (h : k < s.size) (hn : nameB (byt s k) = false) : partL s.data.toList = false := by
  obtain ⟨c, hc, e⟩ := byt_some s k h
  exact partL_false _ c (List.mem_of_getElem? hc) (by rw [e]; exact hn)
theorem part_end (s : ByteArray) (h : ∀ k, k < s.size → nameB (byt s k) = true) : partL s.data.toList = decide (s.size ≠ 0) := by
  have hall : (s.data.toList.all fun c => nameB c.toNat) = true := by
    rw [List.all_eq_true]
    intro c hc
    obtain ⟨k, hk⟩ := List.mem_iff_getElem?.1 hc
    have hlt : k < s.size := by rw [size_eq]; exact (List.getElem?_eq_some_iff.1 hk).1
    obtain ⟨c', hc', e⟩ := byt_some s k hlt
    rw [hk] at hc'
    cases hc'
    rw [e]
    exact h k hlt
  unfold partL
  rw [hall, Bool.and_true, size_eq]
  cases s.data.toList <;> simp

/-! ### What stands ahead of the last stroke -/
def upN (s : ByteArray) : Nat := (lastIndexByte s 47).toNat
def upS (s : ByteArray) : ByteArray := s.extract 0 (upN s)
theorem extract_zero (s : ByteArray) : s.extract 0 0 = ⟨#[]⟩ := by
  apply ByteArray.ext
  simp
theorem upN_le (s : ByteArray) : upN s ≤ s.size := by
  unfold upN
  rcases lastIndexByte_spec s 47 with ⟨h, _⟩ | ⟨i, hi, h, _⟩ <;> rw [h] <;> simp <;> omega
end Go.Proofs.YtepngemlaiffgaaDoor.nam
namespace Go.Proofs.YtepngemlaiffgaaDoor.bod
open Go.Proofs.YtepngemlaiffgaaDoor.codec (bytesOf byteAt bytesOf_length bytesOf_lt strOf numOf numFrom numOf_take numOf_lt numOf_bytes strOf_size)
open Go.Proofs.YtepngemlaiffgaaDoor.rd
set_option linter.unusedVariables false
set_option linter.unusedSimpArgs false

/-- Is it a name, as it should be? -/
def named (s : ByteArray) : Bool := nam.normOk s && decide (nam.normS s = s)
def fitsB (d f : Int) (n : Nat) : Bool := decide (0 ≤ d ∧ d ≤ 253402300799) && (decide (0 ≤ f ∧ f < 32) && decide (n ≤ 20000))
def emptyB (d f : Int) (n : Nat) : Bool := decide (d = 0) && (decide (f = 0) && decide (n = 0))
/-- May a note be? -/
def formedB (k : Int) (e : Nat) (s : ByteArray) (u : Nat) (d f : Int) (n : Nat) : Bool :=
  if k = 1 then decide (e ≠ 0) && (named s && (decide (u = 0) && emptyB d f n))
  else if k = 2 then decide (e ≠ 0) && (named s && (decide (u ≠ 0) && fitsB d f n))
  else if k = 3 then decide (e ≠ 0) && (decide (s.size = 0) && (decide (u ≠ 0) && emptyB d f n))
  else false
def nums (s : ByteArray) : List Nat := s.data.toList.map UInt8.toNat
theorem nums_length (s : ByteArray) : (nums s).length = s.size := by
  unfold nums
  rw [List.length_map, Array.length_toList]
  rfl
theorem nums_lt (s : ByteArray) : ∀ x ∈ nums s, x < 256 := by
  intro x hx
  obtain ⟨c, _, rfl⟩ := List.mem_map.1 hx
  exact c.toNat_lt
theorem strOf_nums (s : ByteArray) : strOf (nums s) = s := by
  unfold strOf nums
  rw [List.map_map, show UInt8.ofNat ∘ UInt8.toNat = id from funext fun c => by simp, List.map_id]
theorem nums_strOf {l : List Nat} (h : ∀ x ∈ l, x < 256) : nums (strOf l) = l := by
  unfold strOf nums
  simp only [List.map_map]
  conv => rhs; rw [← List.map_id l]
  refine List.map_congr_left fun x hx => ?_
  simp [Nat.mod_eq_of_lt (h x hx)]
/-- A text behind its length. -/
def txt (s : ByteArray) : List Nat := bytesOf s.size 2 ++ nums s
/-- The payload of a note. -/
def payL (k : Int) (e : Nat) (s : ByteArray) (u : Nat) (d f : Int) (o : List Nat) : List Nat :=
  if k = 1 then bytesOf e 4 ++ txt s
  else if k = 2 then bytesOf e 4 ++ (bytesOf u 4 ++ (bytesOf d.toNat 6 ++ (bytesOf f.toNat 1 ++ (txt s ++ o))))
  else bytesOf e 4 ++ bytesOf u 4
theorem byteAt_next (v x n j : Nat) (hx : x < 256) (hj : j < n) : byteAt (v * 256 + x) (n + 1) j = byteAt v n j := by
  unfold byteAt
  rw [show n + 1 - 1 - j = (n - 1 - j) + 1 by omega, Nat.pow_succ, Nat.mul_comm (256 ^ _) 256, ← Nat.div_div_eq_div_mul, show (v * 256 + x) / 256 = v by omega]
theorem bytesOf_next (v x n : Nat) (hx : x < 256) : bytesOf (v * 256 + x) (n + 1) = bytesOf v n ++ [x] := by
  unfold bytesOf
  rw [List.range_succ, List.map_append, List.map_singleton]
  congr 1
  · exact List.map_congr_left fun j hj => byteAt_next v x n j hx (List.mem_range.1 hj)
  · unfold byteAt
    rw [show n + 1 - 1 - n = 0 by omega]
    simp
    omega
theorem bytesOf_take {l : List Nat} (h : ∀ b ∈ l, b < 256) : ∀ k, k ≤ l.length → bytesOf (numOf (l.take k)) k = l.take k
  | 0, _ => by simp [bytesOf]
  | k + 1, hk => by
    have hx : l.getD k 0 < 256 := by
      have hk' : k < l.length := hk
      simp only [List.getD_eq_getElem?_getD, List.getElem?_eq_getElem hk', Option.getD_some]
      exact h _ (List.getElem_mem _)
    rw [numOf_take l k hk, bytesOf_next _ _ _ hx, bytesOf_take h k (Nat.le_of_lt hk)]
    have hk' : k < l.length := hk
    rw [List.take_add_one, List.getElem?_eq_getElem hk', List.getD_eq_getElem?_getD, List.getElem?_eq_getElem hk']
    rfl
theorem bytesOf_num {l : List Nat} (h : ∀ b ∈ l, b < 256) {n : Nat} (hn : l.length = n) : bytesOf (numOf l) n = l := by
  have := bytesOf_take h n (by omega)
  rw [List.take_of_length_le (by omega)] at this
  exact this
theorem num_lt {l : List Nat} (h : ∀ b ∈ l, b < 256) {n : Nat} (hn : l.length ≤ n) : numOf l < 256 ^ n := by
  have := numOf_lt l h l.length
  rw [List.take_length] at this
  exact Nat.lt_of_lt_of_le this (Nat.pow_le_pow_right (by decide) hn)
theorem got_len (k : Nat) (L : Option (List Nat)) : (got k L).length ≤ k := by
  cases L with
  | none => simp [got]
  | some l => simp only [got]; split <;> simp; omega
theorem got_lt {k : Nat} {L : Option (List Nat)} (h : ∀ l, L = some l → ∀ b ∈ l, b < 256) : ∀ b ∈ got k L, b < 256 := by
  intro b hb
  cases L with
  | none => simp [got] at hb
  | some l =>
    simp only [got] at hb
    split at hb
    · exact h l rfl b (List.mem_of_mem_take hb)
    · simp at hb
theorem got_num {k : Nat} {L : Option (List Nat)} (h : ∀ l, L = some l → ∀ b ∈ l, b < 256) : numOf (got k L) < 256 ^ k := num_lt (got_lt h) (got_len k L)
/-- What was read, if something is left. -/
theorem unread {k : Nat} {L : Option (List Nat)} {l' : List Nat} (h : rest k L = some l') : L = some (got k L ++ l') ∧ (got k L).length = k := by
  cases L with
  | none => simp [rest] at h
  | some l =>
    simp only [rest] at h
    split at h
    · rename_i hk
      obtain rfl := Option.some.inj h
      simp only [got, if_pos hk, List.take_append_drop, List.length_take, Nat.min_eq_left hk]
      exact ⟨trivial, trivial⟩
    · cases h
theorem got_app {a b : List Nat} {k : Nat} (h : a.length = k) : got k (some (a ++ b)) = a := by
  subst h
  simp [got]
theorem rest_app {a b : List Nat} {k : Nat} (h : a.length = k) : rest k (some (a ++ b)) = some b := by
  subst h
  simp [rest]
/-- Where the reader stands. -/
def LA (L : List Nat) : Option (List Nat) := rest 4 (some L)
def LT (L : Option (List Nat)) : Option (List Nat) := rest (numOf (got 2 L)) (rest 2 L)
def TX (L : Option (List Nat)) : ByteArray := strOf (got (numOf (got 2 L)) (rest 2 L))
def LU (L : List Nat) := rest 4 (LA L)
def LD (L : List Nat) := rest 6 (LU L)
def LF (L : List Nat) := rest 1 (LD L)
def LO (L : List Nat) := rest (leftN (LT (LF L))) (LT (LF L))
/-- What a payload says. -/
def epN (L : List Nat) : Nat := numOf (got 4 (some L))
def uidN (L : List Nat) : Nat := numOf (got 4 (LA L))
def datN (L : List Nat) : Nat := numOf (got 6 (LU L))
def flaN (L : List Nat) : Nat := numOf (got 1 (LD L))
def octN (L : List Nat) : List Nat := got (leftN (LT (LF L))) (LT (LF L))
def ok1 (L : List Nat) : Bool := decide (LT (LA L) = some []) && formedB 1 (epN L) (TX (LA L)) 0 0 0 0
def ok2 (L : List Nat) : Bool := decide (LO L = some []) && formedB 2 (epN L) (TX (LF L)) (uidN L) (datN L) (flaN L) (octN L).length
def ok3 (L : List Nat) : Bool := decide (LU L = some []) && formedB 3 (epN L) ByteArray.empty (uidN L) 0 0 0

variable {L : List Nat} (hb : ∀ b ∈ L, b < 256)
include hb
theorem ltA : ∀ l, some L = some l → ∀ b ∈ l, b < 256 := fun l e => by cases e; exact hb
theorem ltLA : ∀ l, LA L = some l → ∀ b ∈ l, b < 256 := rest_lt 4 (ltA hb)
theorem ltLU : ∀ l, LU L = some l → ∀ b ∈ l, b < 256 := rest_lt 4 (ltLA hb)
theorem ltLD : ∀ l, LD L = some l → ∀ b ∈ l, b < 256 := rest_lt 6 (ltLU hb)
theorem ltLF : ∀ l, LF L = some l → ∀ b ∈ l, b < 256 := rest_lt 1 (ltLD hb)
theorem ltLT : ∀ l, LT (LF L) = some l → ∀ b ∈ l, b < 256 := rest_lt _ (rest_lt 2 (ltLF hb))
theorem ep_lt : epN L < 4294967296 := got_num (ltA hb)
theorem uid_lt : uidN L < 4294967296 := got_num (ltLA hb)
theorem dat_lt : datN L < 281474976710656 := got_num (ltLU hb)
theorem fla_lt : flaN L < 256 := got_num (ltLD hb)
omit hb
theorem text_read {M : Option (List Nat)} (hM : ∀ l, M = some l → ∀ b ∈ l, b < 256) {l : List Nat} (h : LT M = some l) : M = some (txt (TX M) ++ l) := by
  obtain ⟨e1, n1⟩ := unread h
  obtain ⟨e2, n2⟩ := unread e1
  have h2 := rest_lt 2 hM
  have g2 := got_lt (k := numOf (got 2 M)) h2
  have hs : (TX M).size = numOf (got 2 M) := by
    unfold TX
    rw [strOf_size, n1]
  have hn : nums (TX M) = got (numOf (got 2 M)) (rest 2 M) := nums_strOf g2
  unfold txt
  rw [hs, hn, bytesOf_num (got_lt hM) n2, List.append_assoc]
  exact e2
include hb
theorem says1 (h : ok1 L = true) : formedB 1 (epN L) (TX (LA L)) 0 0 0 0 = true ∧ payL 1 (epN L) (TX (LA L)) 0 0 0 [] = L := by
  simp only [ok1, Bool.and_eq_true, decide_eq_true_eq] at h
  refine ⟨h.2, ?_⟩
  have e1 := text_read (ltLA hb) h.1
  obtain ⟨e2, n2⟩ := unread e1
  have e3 := bytesOf_num (got_lt (k := 4) (ltA hb)) n2
  have e4 := Option.some.inj e2
  simp only [payL, if_true]
  unfold epN
  rw [e3]
  simpa using e4.symm
theorem says2 (h : ok2 L = true) : formedB 2 (epN L) (TX (LF L)) (uidN L) (datN L) (flaN L) (octN L).length = true ∧ payL 2 (epN L) (TX (LF L)) (uidN L) (datN L) (flaN L) (octN L) = L := by
  simp only [ok2, Bool.and_eq_true, decide_eq_true_eq] at h
  refine ⟨h.2, ?_⟩
  obtain ⟨e0, _⟩ := unread h.1
  have e1 := text_read (ltLF hb) e0
  obtain ⟨e2, n2⟩ := unread e1
  obtain ⟨e3, n3⟩ := unread e2
  obtain ⟨e4, n4⟩ := unread e3
  obtain ⟨e5, n5⟩ := unread e4
  have f2 := bytesOf_num (got_lt (k := 1) (ltLD hb)) n2
  have f3 := bytesOf_num (got_lt (k := 6) (ltLU hb)) n3
  have f4 := bytesOf_num (got_lt (k := 4) (ltLA hb)) n4
  have f5 := bytesOf_num (got_lt (k := 4) (ltA hb)) n5
  have e := Option.some.inj e5
  simp only [payL, if_neg (show ¬ (2 : Int) = 1 by decide), if_true, Int.toNat_natCast]
  unfold epN uidN datN flaN octN
  rw [f2, f3, f4, f5]
  simpa using e.symm
theorem says3 (h : ok3 L = true) : formedB 3 (epN L) ByteArray.empty (uidN L) 0 0 0 = true ∧ payL 3 (epN L) ByteArray.empty (uidN L) 0 0 [] = L := by
  simp only [ok3, Bool.and_eq_true, decide_eq_true_eq] at h
  refine ⟨h.2, ?_⟩
  obtain ⟨e4, n4⟩ := unread h.1
  obtain ⟨e5, n5⟩ := unread e4
  have f4 := bytesOf_num (got_lt (k := 4) (ltLA hb)) n4
  have f5 := bytesOf_num (got_lt (k := 4) (ltA hb)) n5
  have e := Option.some.inj e5
  simp only [payL, if_neg (show ¬ (3 : Int) = 1 by decide), if_neg (show ¬ (3 : Int) = 2 by decide)]
  unfold epN uidN
  rw [f4, f5]
  simpa using e.symm
omit hb
theorem named_size {s : ByteArray} (h : named s = true) : s.size ≤ 60 := by
  simp only [named, nam.normOk, Bool.and_eq_true, decide_eq_true_eq] at h
  exact h.1.1
theorem text_back {s : ByteArray} (hs : s.size ≤ 60) (l : List Nat) : TX (some (txt s ++ l)) = s ∧ LT (some (txt s ++ l)) = some l := by
  have h1 : got 2 (some (txt s ++ l)) = bytesOf s.size 2 := by
    unfold txt
    rw [List.append_assoc]
    exact got_app (bytesOf_length _ _)
  have h2 : rest 2 (some (txt s ++ l)) = some (nums s ++ l) := by
    unfold txt
    rw [List.append_assoc]
    exact rest_app (bytesOf_length _ _)
  have h3 : numOf (bytesOf s.size 2) = s.size := numOf_bytes _ _ (by omega)
  unfold TX LT
  rw [h1, h2, h3, got_app (nums_length s), rest_app (nums_length s), strOf_nums]
  exact ⟨rfl, rfl⟩
theorem back1 {e u : Nat} {s : ByteArray} {d f : Int} {o : List Nat} (he : e < 4294967296) (h : formedB 1 e s u d f o.length = true) :
    ok1 (payL 1 e s u d f o) = true ∧ epN (payL 1 e s u d f o) = e ∧ TX (LA (payL 1 e s u d f o)) = s ∧ u = 0 ∧ d = 0 ∧ f = 0 ∧ o = [] := by
  have h0 := h
  simp only [formedB, emptyB, if_true, Bool.and_eq_true, decide_eq_true_eq] at h
  obtain ⟨h1, h2, rfl, rfl, rfl, h6⟩ := h
  obtain rfl := List.eq_nil_of_length_eq_zero h6
  have hA : LA (payL 1 e s 0 0 0 []) = some (txt s ++ []) := by
    simp only [payL, if_true, List.append_nil]
    exact rest_app (bytesOf_length _ _)
  have hE : epN (payL 1 e s 0 0 0 []) = e := by
    simp only [payL, if_true, epN]
    rw [got_app (bytesOf_length _ _)]
    exact numOf_bytes _ _ (by omega)
  obtain ⟨t1, t2⟩ := text_back (named_size h2) []
  refine ⟨?_, hE, by rw [hA, t1], rfl, rfl, rfl, rfl⟩
  simp only [ok1, hA, t2, hE, t1, decide_true, Bool.true_and]
  exact h0
theorem back2 {e u : Nat} {s : ByteArray} {d f : Int} {o : List Nat} (he : e < 4294967296) (hu : u < 4294967296) (h : formedB 2 e s u d f o.length = true) :
    ok2 (payL 2 e s u d f o) = true ∧ epN (payL 2 e s u d f o) = e ∧ TX (LF (payL 2 e s u d f o)) = s ∧ uidN (payL 2 e s u d f o) = u ∧ (datN (payL 2 e s u d f o) : Int) = d ∧ (flaN (payL 2 e s u d f o) : Int) = f ∧ octN (payL 2 e s u d f o) = o := by
  have h0 := h
  simp only [formedB, fitsB, if_neg (show ¬ (2 : Int) = 1 by decide), if_true, Bool.and_eq_true, decide_eq_true_eq] at h
  obtain ⟨h1, h2, h3, ⟨h4, h5⟩, ⟨h6, h7⟩, h8⟩ := h
  obtain ⟨d, rfl⟩ := Int.eq_ofNat_of_zero_le h4
  obtain ⟨f, rfl⟩ := Int.eq_ofNat_of_zero_le h6
  have hP : payL 2 e s u d f o = bytesOf e 4 ++ (bytesOf u 4 ++ (bytesOf d 6 ++ (bytesOf f 1 ++ (txt s ++ o)))) := by
    simp only [payL, if_neg (show ¬ (2 : Int) = 1 by decide), if_true, Int.toNat_natCast]
  rw [hP]
  have hA : LA (bytesOf e 4 ++ (bytesOf u 4 ++ (bytesOf d 6 ++ (bytesOf f 1 ++ (txt s ++ o))))) = some (bytesOf u 4 ++ (bytesOf d 6 ++ (bytesOf f 1 ++ (txt s ++ o)))) := rest_app (bytesOf_length _ _)
  have hU : LU (bytesOf e 4 ++ (bytesOf u 4 ++ (bytesOf d 6 ++ (bytesOf f 1 ++ (txt s ++ o))))) = some (bytesOf d 6 ++ (bytesOf f 1 ++ (txt s ++ o))) := by unfold LU; rw [hA]; exact rest_app (bytesOf_length _ _)
  have hD : LD (bytesOf e 4 ++ (bytesOf u 4 ++ (bytesOf d 6 ++ (bytesOf f 1 ++ (txt s ++ o))))) = some (bytesOf f 1 ++ (txt s ++ o)) := by unfold LD; rw [hU]; exact rest_app (bytesOf_length _ _)
  have hF : LF (bytesOf e 4 ++ (bytesOf u 4 ++ (bytesOf d 6 ++ (bytesOf f 1 ++ (txt s ++ o))))) = some (txt s ++ o) := by unfold LF; rw [hD]; exact rest_app (bytesOf_length _ _)
  obtain ⟨t1, t2⟩ := text_back (named_size h2) o
  have e1 : epN (bytesOf e 4 ++ (bytesOf u 4 ++ (bytesOf d 6 ++ (bytesOf f 1 ++ (txt s ++ o))))) = e := by
    unfold epN; rw [got_app (bytesOf_length _ _)]; exact numOf_bytes _ _ (by omega)
  have e2 : uidN (bytesOf e 4 ++ (bytesOf u 4 ++ (bytesOf d 6 ++ (bytesOf f 1 ++ (txt s ++ o))))) = u := by
    unfold uidN; rw [hA, got_app (bytesOf_length _ _)]; exact numOf_bytes _ _ (by omega)
  have e3 : datN (bytesOf e 4 ++ (bytesOf u 4 ++ (bytesOf d 6 ++ (bytesOf f 1 ++ (txt s ++ o))))) = d := by
    unfold datN; rw [hU, got_app (bytesOf_length _ _)]; exact numOf_bytes _ _ (by omega)
  have e4 : flaN (bytesOf e 4 ++ (bytesOf u 4 ++ (bytesOf d 6 ++ (bytesOf f 1 ++ (txt s ++ o))))) = f := by
    unfold flaN; rw [hD, got_app (bytesOf_length _ _)]; exact numOf_bytes _ _ (by omega)
  have e5 : octN (bytesOf e 4 ++ (bytesOf u 4 ++ (bytesOf d 6 ++ (bytesOf f 1 ++ (txt s ++ o))))) = o := by
    unfold octN; rw [hF, t2]; simp [got, leftN]
  have e6 : LO (bytesOf e 4 ++ (bytesOf u 4 ++ (bytesOf d 6 ++ (bytesOf f 1 ++ (txt s ++ o))))) = some [] := by
    unfold LO; rw [hF, t2]; simp [rest, leftN]
  refine ⟨?_, e1, by rw [hF, t1], e2, by rw [e3], by rw [e4], e5⟩
  unfold ok2
  rw [e1, e2, e3, e4, e5, e6, hF, t1]
  simp only [decide_true, Bool.true_and]
  exact h0
theorem back3 {e u : Nat} {s : ByteArray} {d f : Int} {o : List Nat} (he : e < 4294967296) (hu : u < 4294967296) (h : formedB 3 e s u d f o.length = true) :
    ok3 (payL 3 e s u d f o) = true ∧ epN (payL 3 e s u d f o) = e ∧ uidN (payL 3 e s u d f o) = u ∧ s = ByteArray.empty ∧ d = 0 ∧ f = 0 ∧ o = [] := by
  have h0 := h
  simp only [formedB, emptyB, if_neg (show ¬ (3 : Int) = 1 by decide), if_neg (show ¬ (3 : Int) = 2 by decide), if_true, Bool.and_eq_true, decide_eq_true_eq] at h
  obtain ⟨h1, h2, h3, rfl, rfl, h6⟩ := h
  obtain rfl := List.eq_nil_of_length_eq_zero h6
  obtain rfl : s = ByteArray.empty := by
    cases s with
    | mk a => exact congrArg ByteArray.mk (Array.eq_empty_of_size_eq_zero h2)
  have hP : payL 3 e ByteArray.empty u 0 0 [] = bytesOf e 4 ++ (bytesOf u 4 ++ []) := by
    simp only [payL, if_neg (show ¬ (3 : Int) = 1 by decide), if_neg (show ¬ (3 : Int) = 2 by decide), List.append_nil]
  rw [hP]
  have hA : LA (bytesOf e 4 ++ (bytesOf u 4 ++ [])) = some (bytesOf u 4 ++ []) := rest_app (bytesOf_length _ _)
  have hU : LU (bytesOf e 4 ++ (bytesOf u 4 ++ [])) = some [] := by unfold LU; rw [hA]; exact rest_app (bytesOf_length _ _)
  have e1 : epN (bytesOf e 4 ++ (bytesOf u 4 ++ [])) = e := by
    unfold epN; rw [got_app (bytesOf_length _ _)]; exact numOf_bytes _ _ (by omega)
  have e2 : uidN (bytesOf e 4 ++ (bytesOf u 4 ++ [])) = u := by
    unfold uidN; rw [hA, got_app (bytesOf_length _ _)]; exact numOf_bytes _ _ (by omega)
  refine ⟨?_, e1, e2, rfl, rfl, rfl, rfl⟩
  unfold ok3
  rw [e1, e2, hU]
  simp only [decide_true, Bool.true_and]
  exact h0
theorem payL_lt {k : Int} {e u : Nat} {s : ByteArray} {d f : Int} {o : List Nat} (ho : ∀ b ∈ o, b < 256) : ∀ b ∈ payL k e s u d f o, b < 256 := by
  have ht : ∀ b ∈ txt s, b < 256 := codec.all_lt (bytesOf_lt _ _) (nums_lt s)
  unfold payL
  split
  · exact codec.all_lt (bytesOf_lt _ _) ht
  · split
    · exact codec.all_lt (bytesOf_lt _ _) (codec.all_lt (bytesOf_lt _ _) (codec.all_lt (bytesOf_lt _ _) (codec.all_lt (bytesOf_lt _ _) (codec.all_lt ht ho))))
    · exact codec.all_lt (bytesOf_lt _ _) (bytesOf_lt _ _)
theorem txt_length (s : ByteArray) : (txt s).length = 2 + s.size := by simp [txt, bytesOf_length, nums_length]
theorem payL_length {k : Int} {e u : Nat} {s : ByteArray} {d f : Int} {o : List Nat} (h : formedB k e s u d f o.length = true) : (payL k e s u d f o).length ≤ 20077 := by
  unfold formedB at h
  unfold payL
  split at h
  · rename_i hk
    simp only [Bool.and_eq_true] at h
    have := named_size h.2.1
    rw [if_pos hk, List.length_append, bytesOf_length, txt_length]
    omega
  · rename_i hk
    rw [if_neg hk]
    split at h
    · rename_i hk2
      simp only [fitsB, Bool.and_eq_true, decide_eq_true_eq] at h
      have := named_size h.2.1
      rw [if_pos hk2]
      simp only [List.length_append, bytesOf_length, txt_length]
      omega
    · rename_i hk2
      rw [if_neg hk2]
      simp [bytesOf_length]
end Go.Proofs.YtepngemlaiffgaaDoor.bod
namespace Go.Proofs.YtepngemlaiffgaaDoor.row
open Go.ChangeShapes Go.WideShapes Go.ChangeAt Go.RowKit
set_option linter.unusedVariables false
set_option maxRecDepth 100000
set_option linter.unusedSimpArgs false

structure Fm {α : Type} (F : α → List Value) (K : Nat) : Prop where
  len : ∀ y, (F y).length = K
  one : ∀ y, ∀ u ∈ F y, u.oneCell' = true
def fl {α : Type} (F : α → List Value) (ys : List α) : List Value := ys.flatMap F
theorem fl_snoc {α : Type} (F : α → List Value) (ys : List α) (y : α) : fl F (ys ++ [y]) = fl F ys ++ F y := by simp [fl]
theorem fl_at {α : Type} {F : α → List Value} {K : Nat} (hF : Fm F K) : ∀ (ys : List α) (k : Nat) (y : α), ys[k]? = some y → ∀ j v, (F y)[j]? = some v → (fl F ys)[k * K + j]? = some v
  | [], k, y, h => by simp at h
  | z :: r, 0, y, h => by
    simp at h
    subst h
    intro j v hv
    have hj := (List.getElem?_eq_some_iff.1 hv).1
    rw [Nat.zero_mul, Nat.zero_add, fl, List.flatMap_cons, List.getElem?_append_left hj]
    exact hv
  | z :: r, k + 1, y, h => by
    intro j v hv
    have := fl_at hF r k y (by simpa using h) j v hv
    rw [fl, List.flatMap_cons, List.getElem?_append_right (by rw [hF.len, Nat.add_mul]; omega), hF.len, show (k + 1) * K + j - K = k * K + j by rw [Nat.add_mul]; omega]
    exact this
/-- A row of the call's own. -/
def Own {α : Type} (F : α → List Value) (K B : Nat) (E : TypeId) (w : World) (v : Value) (ys : List α) : Prop :=
  w.ownsRow B E K v ys.length (fl F ys)
theorem Own.nil {α : Type} (F : α → List Value) (K B : Nat) (E : TypeId) (w : World) : Own F K B E w (.slice none 0 0) [] := ⟨by simp [fl], .inl ⟨rfl, rfl⟩⟩
theorem Own.grown {α : Type} {F : α → List Value} {K B : Nat} {E : TypeId} {w w' : World} {v : Value} {ys : List α} {r : Option Nat} (h : Own F K B E w v ys) (hg : w.grownBy w' r) (hv : ∀ b, r = some b → v.ownBlock ≠ some b) : Own F K B E w' v ys := by
  refine World.ownsRow.kept h hg ?_
  cases hr : r with
  | none => cases hb : v.ownBlock <;> simp
  | some b => exact .inr (hv b hr)
theorem Own.below {α : Type} {F : α → List Value} {K B : Nat} {E : TypeId} {w w' : World} {v : Value} {ys : List α} (h : Own F K B E w v ys) (hb : Below w.heap.size w w') : Own F K B E w' v ys :=
  h.grown (r := none) ⟨hb.os, hb.tape, hb.output, hb.size, fun i hi _ => hb.block i hi⟩ (fun b e => by cases e)
theorem Own.alloc {α : Type} {F : α → List Value} {K B : Nat} {E : TypeId} {w : World} {v : Value} {ys : List α} (h : Own F K B E w v ys) (o : Obj) : Own F K B E (w.alloc o) v ys := h.below ((Below.refl _ _).alloc (Nat.le_refl _) _)
theorem Own.lt {α : Type} {F : α → List Value} {K B : Nat} {E : TypeId} {w : World} {v : Value} {ys : List α} (h : Own F K B E w v ys) {g : Nat} (e : v.ownBlock = some g) : B ≤ g ∧ g < w.heap.size := World.ownsRow.lt h g e
/-- What touches other blocks alone keeps the row. -/
theorem Own.touch {α : Type} {F : α → List Value} {K B : Nat} {E : TypeId} {G : Nat → Prop} {w w' : World} {v : Value} {ys : List α} (h : Own F K B E w v ys) (ht : codec.Touch G w w') (hv : ∀ g, v.ownBlock = some g → ¬ G g) : Own F K B E w' v ys := by
  refine ⟨h.1, h.2.imp id fun ⟨g, cap, cur, h1, h2, h3, h4⟩ => ⟨g, cap, cur, h1, h2, ?_, h4⟩⟩
  have hlt := (h.lt (g := g) (by rw [h1]; rfl)).2
  rw [ht.2.2.2.2 g hlt (hv g (by rw [h1]; rfl))]
  exact h3
theorem lit_at {α : Type} {F : α → List Value} {w : World} (y : α) (t : TypeId) (m : Nat × Nat) {g : Nat} (hg : g = w.heap.size) : ∀ j u, (F y)[j]? = some u → (w.alloc (.cells (F y).toArray t m)).cell? ((⟨g, 0, none⟩ : Addr).add j) = some u := by
  intro j u hu
  subst hg
  rw [codec.add_none, Nat.zero_add, World.cell?_alloc_mark]
  simpa using hu
/-- A struct put behind those of the call's own. -/
theorem run_append_own {α : Type} {F : α → List Value} {K by_ : Nat} {z : Value} (hF : Fm F K) (hK : 0 < K) (hK9 : K ≤ 9) (hby : by_ ≤ 1000) (hz : z.cells.size = K) (T E : TypeId) (hT : Tryd.prog.underlying T = some (.slice E)) (hE : (Tryd.prog.info? E).map (fun i => (i.zero, i.size, i.bytes)) = some (some z, K, by_))
    (w : World) (ty : TypeId) (B : Nat) (v : Value) (ys : List α) (h : Own F K B E w v ys) (hB : B ≤ w.heap.size) (hn : ys.length ≤ 20000000) (y : α) (m : Nat × Nat) (g : Nat) (hg : g = w.heap.size) :
    ∃ v' w', (Builtin.append_ #[T, T] ty #[v, .slice (some ⟨g, 0, none⟩) 1 1]).run Tryd.prog (w.alloc (.cells (F y).toArray E m)) = .ok v' w' ∧ Own F K B E w' v' (ys ++ [y]) ∧ w.grownBy w' v.ownBlock ∧ (v'.ownBlock = v.ownBlock ∨ ∃ g, v'.ownBlock = some g ∧ w.heap.size ≤ g) := by
  obtain ⟨i0, hi, hz0, hz1, hz2⟩ := info_parts hE
  have ha := h.alloc (.cells (F y).toArray E m)
  have hby2 : (ys.length + 1) * by_ ≤ 20000001 * 1000 := Nat.mul_le_mul (by omega) hby
  obtain ⟨v', w', hr, h1, h2, h3, h4⟩ := run_append_own_at (P := Tryd.prog) (w.alloc (.cells (F y).toArray E m)) B T ty E i0 _ K by_ hT hi hz0 hz1 hz2 hz hK v ys.length (fl F ys) ha ⟨g, 0, none⟩ 1 1 (F y) (by rw [hF.len, Nat.one_mul]) (lit_at y E m hg) (hF.one y) (by unfold maxLen; omega) (by omega) (by simp; omega)
  have hgr : w.grownBy w' v.ownBlock := ⟨h2.os, h2.tape, h2.output, by have := h2.size; simp at this; omega, fun k hk hne => by
    rw [h2.block k (by simp; omega) hne]
    exact Below.heap_alloc _ _ _ hk⟩
  have hat : v'.ownBlock = v.ownBlock ∨ ∃ g, v'.ownBlock = some g ∧ w.heap.size ≤ g := by
    rcases h4 with h4 | h4
    · exact .inl h4
    · exact .inr ⟨_, h4, by simp⟩
  refine ⟨v', w', hr, ?_, hgr, hat⟩
  unfold Own
  rw [fl_snoc, List.length_append]
  simpa using h1
theorem wpList_append_own {α : Type} {F : α → List Value} {K by_ : Nat} {z : Value} (hF : Fm F K) (hK0 : 0 < K) (hK9 : K ≤ 9) (hby : by_ ≤ 1000) (hz : z.cells.size = K) {ops : Array Oper} {rest : List Oper} {o : Oper} {a : Act} {w : World} {Q : Exit → Act → World → Prop} (hgd : o.guard = none) (s q : Operand) (T E : TypeId)
    (ho : o.op = .call { callee := .builtin .append, args := #[s, q], argTypes := #[T, T] }) (hT : Tryd.prog.underlying T = some (.slice E)) (hE : (Tryd.prog.info? E).map (fun i => (i.zero, i.size, i.bytes)) = some (some z, K, by_))
    (B : Nat) (v : Value) (ys : List α) (hs : a.eval s = v) (h : Own F K B E w v ys) (hB : B ≤ w.heap.size) (hn : ys.length ≤ 20000000) (y : α) (m : Nat × Nat) (g : Nat) (hg : g = w.heap.size) (hy : a.eval q = .slice (some ⟨g, 0, none⟩) 1 1) (L : Array Value) (hL : L = (F y).toArray)
    (hK : ∀ v' w', Own F K B E w' v' (ys ++ [y]) → w.grownBy w' v.ownBlock → (v'.ownBlock = v.ownBlock ∨ ∃ g, v'.ownBlock = some g ∧ w.heap.size ≤ g) → wpList Tryd.prog ops Q rest (a.put o.dst v') w') : wpList Tryd.prog ops Q (o :: rest) a (w.alloc (.cells L E m)) := by
  subst hL
  obtain ⟨v', w', hr, h1, h2, h3⟩ := run_append_own hF hK0 hK9 hby hz T E hT hE w o.type B v ys h hB hn y m g hg
  refine wpList_plain hgd fun _ hK' => ?_
  unfold Oper.wp execOp
  simp only [ho, resolve, invoke, builtin, Sem.run_bind, Sem.run_pure, Result.andThen_ok, List.map_toArray, List.map_cons, List.map_nil, hs, hy, hr]
  exact hK' _ _ (hK v' w' h1 h2 h3)
/-- What grows a row of the call's own keeps what was before the call. -/
theorem grown_below {α : Type} {W w w' : World} {F : α → List Value} {K : Nat} {E : TypeId} {v : Value} {ys : List α} (hb : Below W.heap.size W w) (h : Own F K W.heap.size E w v ys) (hg : w.grownBy w' v.ownBlock) : Below W.heap.size W w' :=
  hb.trans ⟨hg.os, hg.tape, hg.output, hg.size, fun k hk => hg.block k (Nat.lt_of_lt_of_le hk hb.size) (fun e => by
    have := (h.lt e.symm).1
    omega)⟩

/-- A slice that reads so. -/
def Rd {α : Type} (F : α → List Value) (K : Nat) (w : World) (A : Option Addr) (n : Nat) (ys : List α) : Prop := ys.length = n ∧ ∀ k, k < n → ∃ b o y, A = some ⟨b, o, none⟩ ∧ ys[k]? = some y ∧ (∀ j v, (F y)[j]? = some v → w.cell? ⟨b, o + k * K + j, none⟩ = some v)
theorem Rd.below {α : Type} {F : α → List Value} {K : Nat} {w w' : World} {A : Option Addr} {n : Nat} {ys : List α} (h : Rd F K w A n ys) (hb : Below w.heap.size w w') : Rd F K w' A n ys := by
  refine ⟨h.1, fun k hk => ?_⟩
  obtain ⟨b, o, y, h1, h2, h3⟩ := h.2 k hk
  refine ⟨b, o, y, h1, h2, fun j v hv => ?_⟩
  have := h3 j v hv
  rw [hb.cell (p := ⟨b, o + k * K + j, none⟩) (block_lt_of_cell this)]
  exact this
theorem Rd.take {α : Type} {F : α → List Value} {K : Nat} {w : World} {A : Option Addr} {n : Nat} {ys : List α} (h : Rd F K w A n ys) (m : Nat) (hm : m ≤ n) : Rd F K w A m (ys.take m) := by
  refine ⟨by rw [List.length_take, h.1]; omega, fun k hk => ?_⟩
  obtain ⟨b, o, x, h1, h2, h3⟩ := h.2 k (by omega)
  exact ⟨b, o, x, h1, by rw [List.getElem?_take, if_pos hk]; exact h2, h3⟩
theorem Own.rd {α : Type} {F : α → List Value} {K B : Nat} {E : TypeId} {w : World} {v : Value} {ys : List α} (hF : Fm F K) (h : Own F K B E w v ys) : ∃ A c, v = .slice A ys.length c ∧ ys.length ≤ c ∧ (A = none → c = 0) ∧ Rd F K w A ys.length ys := by
  rcases h.2 with ⟨e, h0⟩ | ⟨g, cap, cur, e, hB, hg, hc, _⟩
  · exact ⟨none, 0, by rw [h0]; exact e, by omega, fun _ => rfl, rfl, fun k hk => by omega⟩
  · refine ⟨_, cap, e, hc, (fun e => by cases e), rfl, fun k hk => ?_⟩
    have hx : ys[k]? = some ys[k] := List.getElem?_eq_getElem hk
    refine ⟨g, 0, ys[k], rfl, hx, fun j u hu => ?_⟩
    have := World.ownsRow.cells h (g := g) (by rw [e]; rfl) _ u (fl_at hF ys k _ hx j u hu)
    rw [codec.add_none] at this
    rw [Nat.add_assoc]
    exact this
theorem boxed {w : World} {o : Obj} {w1 : World} (h : Below (w.alloc o).heap.size (w.alloc o) w1) : w1.heap[w.heap.size]? = some o ∧ Below w.heap.size w w1 := by
  have h0 : Below w.heap.size w (w.alloc o) := (Below.refl _ _).alloc (Nat.le_refl _) _
  refine ⟨?_, h0.trans (h.mono h0.size)⟩
  rw [h.block _ (by simp)]
  exact heap_alloc_new w o
theorem Rd.empty {α : Type} {F : α → List Value} {K : Nat} (w : World) : Rd F K w .none 0 [] := ⟨rfl, fun k hk => by omega⟩
theorem Rd.length {α : Type} {F : α → List Value} {K : Nat} {w : World} {A : Option Addr} {n : Nat} {ys : List α} (h : Rd F K w A n ys) : ys.length = n := h.1
end Go.Proofs.YtepngemlaiffgaaDoor.row
