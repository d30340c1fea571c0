/- What the small parts of package codec answer. -/
import Derived.Test.YthhflkgngencdaaGreatDoorRows
import Derived.WalkKit
import Derived.ProofKit
import Derived.OpenShut
import Derived.ShutString
import Derived.ChangeOld
import Derived.Below
import Derived.Outline
import Derived.WalkSpells
import Derived.Lib.Hide
import Derived.Deep.QuietTactic
import Derived.BigQuiet
import Derived.Deep.OwnRows
import Derived.Deep.WholeRow
import Derived.StillTailTactics
import Derived.Lib.SlBytesConst
import Derived.Laws.CopyOwn
import Derived.Laws.AppendOwnNone
import Derived.Maps.AppendAt
import Derived.Deep.RegionLaw
import Derived.Deep.Heap
import Derived.Lib.AppendZeros
namespace Go.Proofs.YthhflkgngencdaaGreatDoor.codec
open Go.ChangeShapes Go.WideShapes Go.ChangeAt Go.RowKit
set_option linter.unusedVariables false
set_option maxRecDepth 100000
set_option linter.unusedSimpArgs false

theorem below_draws {B : Nat} {a w : World} (h : Below B a w) (n : Nat) : Below B a (w.drewN n) := ⟨h.os, h.tape, h.output, h.size, h.block⟩
/-- The slice reads as these bytes. -/
def Bytes (w : World) (A : Option Addr) (n : Nat) (l : List Nat) : Prop :=
  l.length = n ∧ (∀ b ∈ l, b < 256) ∧ (0 < n → ∃ b o, A = some ⟨b, o, none⟩ ∧ ∀ i, i < n → w.cell? ⟨b, o + i, none⟩ = some (.int .u8 (l.getD i 0 : Nat)))
theorem getD_lt256 {l : List Nat} (h : ∀ x ∈ l, x < 256) (i : Nat) : l.getD i 0 < 256 := by
  by_cases hi : i < l.length
  · have : l.getD i 0 = l[i] := by simp [List.getD, hi]
    rw [this]
    exact h _ (List.getElem_mem hi)
  · have : l.getD i 0 = 0 := by simp [List.getD, List.getElem?_eq_none (Nat.le_of_not_lt hi)]
    omega

set_option maxHeartbeats 400000 in
theorem isSize_any (w : World) (n : Int) :
    Calls Tryz.prog 138 #[.int .i64 n] w fun e w' => e = .returned (.bool (decide (1 ≤ n ∧ n ≤ 7))) ∧ w = w' := by
  by_cases h1 : 1 ≤ n
  · by_cases h7 : n ≤ 7
    · have : decide (1 ≤ n ∧ n ≤ 7) = true := by simp [h1, h7]
      rw [this]
      go_enter Tryz.func138, Tryz.ntmps138
      go_wp2
      go_ret
      exact ⟨rfl, rfl⟩
    · have : decide (1 ≤ n ∧ n ≤ 7) = false := by simp [h7]
      rw [this]
      go_enter Tryz.func138, Tryz.ntmps138
      go_wp2
      go_ret
      exact ⟨rfl, rfl⟩
  · have : decide (1 ≤ n ∧ n ≤ 7) = false := by simp [h1]
    rw [this]
    go_enter Tryz.func138, Tryz.ntmps138
    go_wp2
    go_ret
    exact ⟨rfl, rfl⟩

set_option maxHeartbeats 400000 in
theorem takes_true (w : World) (p : Nat) (hc : w.cell? ⟨p, 2, none⟩ = some (.bool false)) : Calls Tryz.prog 137 #[.pointer (some ⟨p, 0, none⟩), .bool true] w fun e w' => e = .returned (.bool true) ∧ w = w' := by
  go_enter Tryz.func137, Tryz.ntmps137
  go_wp2
  go_ret
  exact ⟨rfl, rfl⟩

theorem info5 : (Tryz.prog.info? 5).map (fun i => (i.zero, i.size, i.bytes)) = some (some (.int .u8 0), 1, 1) := by kernel_rfl
def vals (l : List Nat) : List Value := l.map fun x => Value.int .u8 (x : Nat)
theorem vals_append (l m : List Nat) : vals (l ++ m) = vals l ++ vals m := by simp [vals]
theorem vals_length (l : List Nat) : (vals l).length = l.length := by simp [vals]
theorem vals_one (l : List Nat) : ∀ u ∈ vals l, u.oneCell' = true := by
  intro v hv
  obtain ⟨x, _, rfl⟩ := List.mem_map.1 hv
  rfl
theorem add_none (b o j : Nat) : (Addr.mk b o none).add j = ⟨b, o + j, none⟩ := by unfold Addr.add; split <;> simp_all
/-- The cells of bytes. -/
theorem Bytes.cells {w : World} {A : Option Addr} {n : Nat} {l : List Nat} (h : Bytes w A n l) (hn : 0 < n) : ∃ ad, A = some ad ∧ ∀ j v, (vals l)[j]? = some v → w.cell? (ad.add j) = some v := by
  obtain ⟨b, o, rfl, hc⟩ := h.2.2 hn
  refine ⟨_, rfl, fun j v hv => ?_⟩
  have hj : j < l.length := by
    have := (List.getElem?_eq_some_iff.1 hv).1
    simpa [vals] using this
  rw [add_none, hc j (by have := h.1; omega), ← hv]
  simp [vals, List.getD, hj]
theorem Bytes.lt {w : World} {A : Option Addr} {n : Nat} {l : List Nat} (h : Bytes w A n l) : ∀ ad, A = some ad → 0 < n → ad.block < w.heap.size := by
  rintro ad rfl hn
  obtain ⟨b, o, e, hc⟩ := h.2.2 hn
  cases e
  exact block_lt_of_cell (hc 0 hn)
/-- Bytes stay, where their block does. -/
theorem Bytes.kept {w w' : World} {A : Option Addr} {n : Nat} {l : List Nat} (h : Bytes w A n l) (hA : ∀ ad, A = some ad → 0 < n → w'.heap[ad.block]? = w.heap[ad.block]?) : Bytes w' A n l := by
  obtain ⟨h1, h2, h3⟩ := h
  refine ⟨h1, h2, fun hn => ?_⟩
  obtain ⟨b, o, rfl, hc⟩ := h3 hn
  refine ⟨b, o, rfl, fun i hi => ?_⟩
  have hk : w'.heap[b]? = w.heap[b]? := hA ⟨b, o, none⟩ rfl hn
  rw [← hc i hi]
  simp [World.cell?, hk]
theorem Bytes.below {w w' : World} {A : Option Addr} {n B : Nat} {l : List Nat} (h : Bytes w A n l) (hA : ∀ ad, A = some ad → 0 < n → ad.block < B) (hb : Below B w w') : Bytes w' A n l :=
  h.kept fun ad e hn => hb.block _ (hA ad e hn)
theorem Bytes.alloc {w : World} {A : Option Addr} {n : Nat} {l : List Nat} (h : Bytes w A n l) (o : Obj) : Bytes (w.alloc o) A n l :=
  h.kept fun ad e hn => heap_alloc_old w o (h.lt ad e hn)
theorem Bytes.drewN {w : World} {A : Option Addr} {n : Nat} {l : List Nat} (h : Bytes w A n l) (q : Nat) : Bytes (w.drewN q) A n l :=
  h.kept fun ad e hn => rfl

/-- Bytes copied into a row that was made for them. -/
theorem wpList_copied {w : World} {ops : Array Oper} {rest : List Oper} {o : Oper} {a : Act} {Q : Exit → Act → World → Prop} (hgd : o.guard = none) (d s : Operand)
    (ho : o.op = .call { callee := .builtin .copy, args := #[d, s], argTypes := #[40, 40] }) (A : Option Addr) (n c : Nat) (l : List Nat) (h : Bytes w A n l)
    (hd : a.eval d = .slice (some ⟨w.heap.size, 0, none⟩) n n) (hs : a.eval s = .slice A n c)
    (hK : wpList Tryz.prog ops Q rest (a.put o.dst (goInt n)) (w.alloc (.cells (vals l).toArray 5))) : wpList Tryz.prog ops Q (o :: rest) a (w.alloc (.cells (madeCells #[Value.int .u8 0] n) 5)) := by
  have hl := h.1
  rcases Nat.eq_zero_or_pos n with h0 | h0
  · subst h0
    obtain rfl : l = [] := List.eq_nil_of_length_eq_zero hl
    refine wpList_copy_nothing hgd d s 40 40 ho 5 Tryz.underlying40 (by kernel_rfl) _ _ _ _ _ _ hd hs (by simp) ?_
    have e : madeCells #[Value.int .u8 0] 0 = (vals []).toArray := by simp [madeCells, vals]
    rw [e]
    exact hK
  · obtain ⟨ad, rfl, hc⟩ := h.cells h0
    have hsz : (madeCells #[Value.int .u8 0] n).size = n := by simp [madeCells]
    refine wpList_copy_own hgd d s 40 40 ho 5 Tryz.underlying40 (by kernel_rfl) w.heap.size 0 n n ad n c hd hs (madeCells #[Value.int .u8 0] n) 5 (heap_alloc_new w _) (vals l) (by simp [vals, hl]) ?_ (by simp [vals, hl, hsz]) (vals_one l) ?_
    · intro j v hv
      have := hc j v hv
      have hb : (ad.add j).block < w.heap.size := World.block_lt_of_cell? w _ this
      rw [World.cell?_of_block (w := w) (heap_alloc_old w _ hb)]
      exact this
    · have e : ((madeCells #[Value.int .u8 0] n).toList.take 0 ++ (vals l ++ (madeCells #[Value.int .u8 0] n).toList.drop (0 + (vals l).length))).toArray = (vals l).toArray := by
        rw [List.take_zero, List.nil_append, Nat.zero_add, List.drop_eq_nil_of_le (by simp [vals, hl, hsz]), List.append_nil]
      rw [e, World.setRow_alloc_new, vals_length, hl]
      exact hK

set_option maxHeartbeats 400000 in
theorem copied_any (w : World) (A : Option Addr) (n c : Nat) (l : List Nat) (h : Bytes w A n l) (hn : n ≤ 10000000) :
    Calls Tryz.prog 184 #[.slice A n c] w fun e w' => e = .returned (.slice (some ⟨w.heap.size, 0, none⟩) n n) ∧ w' = w.alloc (.cells (vals l).toArray 5) := by
  have hmk := run_make_row' (P := Tryz.prog) 40 5 (.int .u8 0) 1 Tryz.underlying40 info5 rfl .i64 .i64 n (by omega) (by omega)
  have HB := Lib.hid h
  clear h
  go_enter Tryz.func184, Tryz.ntmps184
  go_wp2_with (refine wpList_copied rfl (.tmp 7) (.tmp 8) rfl A n c l HB.out rfl rfl ?_)
  go_ret
  exact ⟨rfl, rfl⟩

theorem written_empty (w : World) (p : Nat) (hc : w.cell? ⟨p, 0, none⟩ = some (.pointer none)) : Calls Tryz.prog 185 #[.pointer (some ⟨p, 0, none⟩)] w fun e w' => e = .returned (.slice none 0 0) ∧ w = w' := by
  go_enter Tryz.func185, Tryz.ntmps185
  go_wp2
  go_ret
  exact ⟨rfl, rfl⟩

theorem written_full (w : World) (p s n c : Nat) (A : Option Addr) (hc : w.cell? ⟨p, 0, none⟩ = some (.pointer (some ⟨s, 0, none⟩))) (hn : w.cell? ⟨p, 0 + 1, none⟩ = some (.int .i64 n)) (hs : w.cell? ⟨s, 0, none⟩ = some (.slice A n c)) (hnc : n ≤ c) :
    Calls Tryz.prog 185 #[.pointer (some ⟨p, 0, none⟩)] w fun e w' => e = .returned (.slice A n c) ∧ ∃ q, w' = w.drewN q := by
  go_enter Tryz.func185, Tryz.ntmps185
  go_wp2
  go_quiet (fail)
  go_wp2
  go_ret
  exact ⟨rfl, _, rfl⟩


/-- Only these blocks may have changed. -/
def Touch (F : Nat → Prop) (w w' : World) : Prop := w'.os = w.os ∧ w'.tape = w.tape ∧ w'.output = w.output ∧ w.heap.size ≤ w'.heap.size ∧ ∀ k, k < w.heap.size → ¬ F k → w'.heap[k]? = w.heap[k]?
theorem Touch.trans {F : Nat → Prop} {a b c : World} (h : Touch F a b) (k : Touch (fun i => F i ∨ a.heap.size ≤ i) b c) : Touch F a c :=
  ⟨k.1.trans h.1, k.2.1.trans h.2.1, k.2.2.1.trans h.2.2.1, Nat.le_trans h.2.2.2.1 k.2.2.2.1, fun i hi hF => (k.2.2.2.2 i (Nat.lt_of_lt_of_le hi h.2.2.2.1) (fun hh => by rcases hh with h | h; exact hF h; omega)).trans (h.2.2.2.2 i hi hF)⟩
theorem Touch.mono {F G : Nat → Prop} {a b : World} (h : Touch F a b) (k : ∀ i, i < a.heap.size → F i → G i) : Touch G a b :=
  ⟨h.1, h.2.1, h.2.2.1, h.2.2.2.1, fun i hi hG => h.2.2.2.2 i hi (fun hF => hG (k i hi hF))⟩
theorem Touch.refl (F : Nat → Prop) (w : World) : Touch F w w := ⟨rfl, rfl, rfl, Nat.le_refl _, fun _ _ _ => rfl⟩
theorem Touch.alloc {F : Nat → Prop} {a b : World} (h : Touch F a b) (o : Obj) : Touch F a (b.alloc o) :=
  ⟨h.1, h.2.1, h.2.2.1, by have := h.2.2.2.1; simp; omega, fun i hi hF => (heap_alloc_old b o (Nat.lt_of_lt_of_le hi h.2.2.2.1)).trans (h.2.2.2.2 i hi hF)⟩
theorem Touch.drewN {F : Nat → Prop} {a b : World} (h : Touch F a b) (q : Nat) : Touch F a (b.drewN q) := h
theorem Touch.setCell {F : Nat → Prop} {a b : World} (h : Touch F a b) (ad : Addr) (hF : a.heap.size ≤ ad.block ∨ F ad.block) (v : Value) : Touch F a (b.setCell ad v) :=
  ⟨h.1, h.2.1, h.2.2.1, by have := h.2.2.2.1; simp; omega, fun i hi hi' => (heap_setCell_other _ _ _ _ (fun e => by subst e; rcases hF with h | h; omega; exact hi' h)).trans (h.2.2.2.2 i hi hi')⟩
theorem Touch.below {F : Nat → Prop} {a b c : World} (h : Touch F a b) (hb : Below b.heap.size b c) : Touch F a c :=
  h.trans ⟨hb.os, hb.tape, hb.output, hb.size, fun k hk _ => hb.block k hk⟩
theorem Touch.toBelow {F : Nat → Prop} {a b : World} (h : Touch F a b) (B : Nat) (hB : B ≤ a.heap.size) (hF : ∀ i, i < B → ¬ F i) : Below B a b := ⟨h.1, h.2.1, h.2.2.1, h.2.2.2.1, fun i hi => h.2.2.2.2 i (by omega) (hF i hi)⟩
theorem Bytes.touch {F : Nat → Prop} {w w' : World} {A : Option Addr} {n : Nat} {l : List Nat} (h : Bytes w A n l) (hA : ∀ ad, A = some ad → 0 < n → ¬ F ad.block) (hb : Touch F w w') : Bytes w' A n l :=
  h.kept fun ad e hn => hb.2.2.2.2 _ (h.lt ad e hn) (hA ad e hn)

/-- An Out that has a sheet, and these bytes. -/
def Full (w : World) (p s g cap : Nat) (l : List Nat) : Prop :=
  w.heap[p]? = some (.cells #[.pointer (some ⟨s, 0, none⟩), .int .i64 (l.length : Nat), .bool false] 154 (0, 0)) ∧
  w.heap[s]? = some (.cells #[.slice (some ⟨g, 0, none⟩) l.length cap] 254 (0, 0)) ∧
  w.ownsRow 0 5 1 (.slice (some ⟨g, 0, none⟩) l.length cap) l.length (vals l) ∧ p ≠ s ∧ p ≠ g ∧ s ≠ g ∧ ∀ b ∈ l, b < 256
theorem Full.facts {w : World} {p s g cap : Nat} {l : List Nat} (h : Full w p s g cap l) :
    w.cell? ⟨p, 0, none⟩ = some (.pointer (some ⟨s, 0, none⟩)) ∧ w.cell? ⟨p, 0 + 1, none⟩ = some (.int .i64 (l.length : Nat)) ∧ w.cell? ⟨p, 2, none⟩ = some (.bool false) ∧ w.cell? ⟨s, 0, none⟩ = some (.slice (some ⟨g, 0, none⟩) l.length cap) ∧
    w.frozen? ⟨p, 0, none⟩ = false ∧ w.frozen? ⟨p, 0 + 1, none⟩ = false ∧ w.frozen? ⟨s, 0, none⟩ = false ∧ p < w.heap.size ∧ s < w.heap.size ∧ g < w.heap.size ∧ l.length ≤ cap := by
  obtain ⟨h1, h2, h3, h4⟩ := h
  refine ⟨by simp [World.cell?, h1], by simp [World.cell?, h1], by simp [World.cell?, h1], by simp [World.cell?, h2], by simp [World.frozen?, h1], by simp [World.frozen?, h1], by simp [World.frozen?, h2], (Array.getElem?_eq_some_iff.1 h1).1, (Array.getElem?_eq_some_iff.1 h2).1, (h3.lt g rfl).2, ?_⟩
  rcases h3.2 with ⟨e, _⟩ | ⟨g, cap, cur, e, _, _, hc, _⟩
  · cases e
  · cases e
    exact hc
/-- Bytes, nil or not, put behind bytes of one's own. -/
theorem run_append_bytes (w : World) (ty : TypeId) (base : Nat) (v : Value) (M : List Nat) (hown : w.ownsRow base 5 1 v M.length (vals M)) (hbase : base ≤ w.heap.size)
    (A : Option Addr) (m c : Nat) (L : List Nat) (hB : Bytes w A m L) (hnil : A = none → c = 0) (hbound : M.length + m ≤ 1000000000) :
    ∃ v' w', (Builtin.append_ #[40, 40] ty #[v, .slice A m c]).run Tryz.prog w = .ok v' w' ∧ w'.ownsRow base 5 1 v' (M ++ L).length (vals (M ++ L)) ∧ w.grownBy w' v.ownBlock ∧ (v' = .slice none 0 0 ↔ v = .slice none 0 0 ∧ m = 0) ∧ (v'.ownBlock = v.ownBlock ∨ v'.ownBlock = some w.heap.size) := by
  obtain ⟨i0, hi, hz0, hz1, hz2⟩ := info_parts info5
  have hl := hB.1
  cases A with
  | none =>
    have hm : m = 0 := by
      rcases Nat.eq_zero_or_pos m with h0 | h0
      · exact h0
      · obtain ⟨b, o', e, _⟩ := hB.2.2 h0
        cases e
    have hc := hnil rfl
    subst hm hc
    obtain rfl : L = [] := List.eq_nil_of_length_eq_zero hl
    refine ⟨v, w, ?_, by simpa using hown, World.grownBy.refl w _, by simp, .inl rfl⟩
    rcases hown.2 with ⟨rfl, h0⟩ | ⟨g, cap, cur, rfl, _, hg, hnc, _⟩
    · simp [Builtin.append_, run_underlying Tryz.underlying40, sizeOf, typeInfo, hi, Builtin.lenOf, Builtin.firstCells, loadCells, loadCellsFrom]
    · simp [Builtin.append_, run_underlying Tryz.underlying40, sizeOf, typeInfo, hi, Builtin.lenOf, Builtin.firstCells, hnc, storeCells, loadCells, loadCellsFrom]
  | some ad =>
    obtain ⟨v', w', hr, h1, h2, h3, h4⟩ := run_append_own_at (P := Tryz.prog) w base 40 ty 5 i0 (.int .u8 0) 1 1 Tryz.underlying40 hi hz0 hz1 hz2 rfl (by decide) v M.length (vals M) hown ad m c (vals L) (by simp [vals, hl]) (fun j u hu => by
      have hj : j < L.length := by
        have := (List.getElem?_eq_some_iff.1 hu).1
        simpa [vals] using this
      obtain ⟨b, o', e, hc⟩ := hB.2.2 (by omega)
      cases e
      rw [add_none, hc j (by omega), ← hu]
      simp [vals, List.getD, hj]) (vals_one L) (by unfold maxLen; omega) (by omega) hbase
    refine ⟨v', w', hr, ?_, h2, h3, h4⟩
    rw [List.length_append, hl, vals_append]
    exact h1
theorem wp_append_bytes {o : Oper} {a : Act} {w : World} {K : Act → World → Prop} {Q : Exit → Act → World → Prop} (s x : Operand)
    (ho : o.op = .call { callee := .builtin .append, args := #[s, x], argTypes := #[40, 40] })
    (base : Nat) (v : Value) (M : List Nat) (hs : a.eval s = v) (hown : w.ownsRow base 5 1 v M.length (vals M)) (hbase : base ≤ w.heap.size)
    (A : Option Addr) (m c : Nat) (L : List Nat) (hx : a.eval x = .slice A m c) (hB : Bytes w A m L) (hnil : A = none → c = 0) (hbound : M.length + m ≤ 1000000000)
    (h : ∀ v' w', w'.ownsRow base 5 1 v' (M ++ L).length (vals (M ++ L)) → w.grownBy w' v.ownBlock → (v' = .slice none 0 0 ↔ v = .slice none 0 0 ∧ m = 0) → (v'.ownBlock = v.ownBlock ∨ v'.ownBlock = some w.heap.size) → K (a.put o.dst v') w') : o.wp Tryz.prog a w K Q := by
  obtain ⟨v', w', hr, h1, h2, h3, h4⟩ := run_append_bytes w o.type base v M hown hbase A m c L hB hnil hbound
  unfold Oper.wp execOp
  simp only [ho, resolve, invoke, builtin, Sem.run_bind, Sem.run_pure, Result.andThen_ok, List.map_toArray, List.map_cons, List.map_nil, hs, hx, hr]
  exact h v' w' h1 h2 h3 h4
theorem wpList_append_bytes {ops : Array Oper} {rest : List Oper} {o : Oper} {a : Act} {w : World} {Q : Exit → Act → World → Prop} (hgd : o.guard = none) (s x : Operand)
    (ho : o.op = .call { callee := .builtin .append, args := #[s, x], argTypes := #[40, 40] })
    (base : Nat) (v : Value) (M : List Nat) (hs : a.eval s = v) (hown : w.ownsRow base 5 1 v M.length (vals M)) (hbase : base ≤ w.heap.size)
    (A : Option Addr) (m c : Nat) (L : List Nat) (hx : a.eval x = .slice A m c) (hB : Bytes w A m L) (hnil : A = none → c = 0) (hbound : M.length + m ≤ 1000000000)
    (h : ∀ v' w', w'.ownsRow base 5 1 v' (M ++ L).length (vals (M ++ L)) → w.grownBy w' v.ownBlock → (v' = .slice none 0 0 ↔ v = .slice none 0 0 ∧ m = 0) → (v'.ownBlock = v.ownBlock ∨ v'.ownBlock = some w.heap.size) → wpList Tryz.prog ops Q rest (a.put o.dst v') w') : wpList Tryz.prog ops Q (o :: rest) a w :=
  wpList_plain hgd fun _ hK => wp_append_bytes s x ho base v M hs hown hbase A m c L hx hB hnil hbound fun v' w' h1 h2 h3 h4 => hK _ _ (h v' w' h1 h2 h3 h4)
theorem step_append_bytes {ops : Array Oper} {o : Oper} {a : Act} {w : World} {K : Act → World → Prop} {Q : Exit → Act → World → Prop} {E : Prop} (hgd : o.guard = none) (s x : Operand)
    (ho : o.op = .call { callee := .builtin .append, args := #[s, x], argTypes := #[40, 40] })
    (base : Nat) (v : Value) (M : List Nat) (hs : a.eval s = v) (hown : w.ownsRow base 5 1 v M.length (vals M)) (hbase : base ≤ w.heap.size)
    (A : Option Addr) (m c : Nat) (L : List Nat) (hx : a.eval x = .slice A m c) (hB : Bytes w A m L) (hnil : A = none → c = 0) (hbound : M.length + m ≤ 1000000000)
    (h : ∀ v' w', w'.ownsRow base 5 1 v' (M ++ L).length (vals (M ++ L)) → w.grownBy w' v.ownBlock → (v' = .slice none 0 0 ↔ v = .slice none 0 0 ∧ m = 0) → (v'.ownBlock = v.ownBlock ∨ v'.ownBlock = some w.heap.size) → K (a.put o.dst v') w') :
    if Region.wanted o (yielded ops a.tmps) = true then Oper.wp Tryz.prog o a w K Q else E := by
  have hw : Region.wanted o (yielded ops a.tmps) = true := by simp [Region.wanted, hgd]
  rw [if_pos hw]
  exact wp_append_bytes s x ho base v M hs hown hbase A m c L hx hB hnil hbound h

/-- What an append behind the bytes of an Out leaves. -/
theorem Full.grow {w w1 : World} {p s g cap : Nat} {l m : List Nat} {v' : Value} {n : Nat} (h : Full w p s g cap l) (ho : w1.ownsRow 0 5 1 v' (l ++ m).length (vals (l ++ m))) (hg : w.grownBy w1 (some g))
    (hn : v' = .slice none 0 0 ↔ Value.slice (some ⟨g, 0, none⟩) l.length cap = .slice none 0 0 ∧ n = 0) (hat : v'.ownBlock = some g ∨ v'.ownBlock = some w.heap.size) :
    ∃ g' cap', v' = .slice (some ⟨g', 0, none⟩) (l ++ m).length cap' ∧ (g' = g ∨ g' = w.heap.size) ∧
    w1.heap[p]? = some (.cells #[.pointer (some ⟨s, 0, none⟩), .int .i64 (l.length : Nat), .bool false] 154 (0, 0)) ∧ w1.heap[s]? = some (.cells #[.slice (some ⟨g, 0, none⟩) l.length cap] 254 (0, 0)) := by
  obtain ⟨_, _, _, _, _, _, _, hlp, hls, hlg, _⟩ := h.facts
  obtain ⟨h1, h2, h3, h4, h5, h6, _⟩ := h
  rcases ho.2 with ⟨e, _⟩ | ⟨g', cap', cur, e, _⟩
  · exact absurd (hn.1 e).1 (by simp)
  · subst e
    refine ⟨g', cap', rfl, ?_, ?_, ?_⟩
    · simpa [Value.ownBlock] using hat
    · rw [hg.block p hlp (by simpa using h5)]; exact h1
    · rw [hg.block s hls (by simpa using h6)]; exact h2

theorem own_facts {w : World} {p s : Nat} {x y z v : Value} (h1 : w.heap[p]? = some (.cells #[x, y, z] 154 (0, 0))) (h2 : w.heap[s]? = some (.cells #[v] 254 (0, 0))) :
    w.cell? ⟨p, 0, none⟩ = some x ∧ w.cell? ⟨p, 0 + 1, none⟩ = some y ∧ w.cell? ⟨s, 0, none⟩ = some v ∧ w.frozen? ⟨p, 0, none⟩ = false ∧ w.frozen? ⟨p, 0 + 1, none⟩ = false ∧ w.frozen? ⟨s, 0, none⟩ = false :=
  ⟨by simp [World.cell?, h1], by simp [World.cell?, h1], by simp [World.cell?, h2], by simp [World.frozen?, h1], by simp [World.frozen?, h1], by simp [World.frozen?, h2]⟩
theorem put_end {w w1 : World} {p s g g' cap cap' : Nat} {l m : List Nat} (h : Full w p s g cap l) (ho : w1.ownsRow 0 5 1 (.slice (some ⟨g', 0, none⟩) (l ++ m).length cap') (l ++ m).length (vals (l ++ m))) (hg : w.grownBy w1 (some g))
    (hT : w1.heap[p]? = some (.cells #[.pointer (some ⟨s, 0, none⟩), .int .i64 (l.length : Nat), .bool false] 154 (0, 0)) ∧ w1.heap[s]? = some (.cells #[.slice (some ⟨g, 0, none⟩) l.length cap] 254 (0, 0))) (hG : g' = g ∨ g' = w.heap.size) (hm : ∀ b ∈ m, b < 256) :
    Full ((w1.setCell ⟨s, 0, none⟩ (.slice (some ⟨g', 0, none⟩) (l.length + m.length) cap')).setCell ⟨p, 1, none⟩ (.int .i64 ((l.length : Int) + (m.length : Int)))) p s g' cap' (l ++ m) ∧
    Touch (fun i => i = p ∨ i = s ∨ i = g) w ((w1.setCell ⟨s, 0, none⟩ (.slice (some ⟨g', 0, none⟩) (l.length + m.length) cap')).setCell ⟨p, 1, none⟩ (.int .i64 ((l.length : Int) + (m.length : Int)))) ∧ (g' = g ∨ w.heap.size ≤ g') := by
  obtain ⟨_, _, _, _, _, _, _, hlp, hls, hlg, _⟩ := h.facts
  obtain ⟨h1, h2, h3, h4, h5, h6, h7⟩ := h
  have hp' : p ≠ g' := by rcases hG with rfl | rfl; exact h5; omega
  have hs' : s ≠ g' := by rcases hG with rfl | rfl; exact h6; omega
  have hlen : ((l ++ m).length : Int) = (l.length : Int) + (m.length : Int) := by simp
  refine ⟨⟨?_, ?_, ?_, h4, hp', hs', ?_⟩, ?_, ?_⟩
  · rw [heap_setCell_same _ p 1 #[.pointer (some ⟨s, 0, none⟩), .int .i64 (l.length : Nat), .bool false] 154 _ (by rw [heap_setCell_other _ _ _ _ h4]; exact hT.1)]
    simp
  · rw [heap_setCell_other _ _ _ _ (Ne.symm h4), heap_setCell_same _ s 0 _ 254 _ hT.2]
    simp
  · have hk1 : w1.grownBy (w1.setCell ⟨s, 0, none⟩ (.slice (some ⟨g', 0, none⟩) (l.length + m.length) cap')) (some s) := ⟨rfl, rfl, rfl, by simp, fun k _ hk => heap_setCell_other _ _ _ _ (by simpa using hk)⟩
    have hk2 : (w1.setCell ⟨s, 0, none⟩ (.slice (some ⟨g', 0, none⟩) (l.length + m.length) cap')).grownBy ((w1.setCell ⟨s, 0, none⟩ (.slice (some ⟨g', 0, none⟩) (l.length + m.length) cap')).setCell ⟨p, 1, none⟩ (.int .i64 ((l.length : Int) + (m.length : Int)))) (some p) := ⟨rfl, rfl, rfl, by simp, fun k _ hk => heap_setCell_other _ _ _ _ (by simpa using hk)⟩
    exact (ho.kept hk1 (by right; simpa [Value.ownBlock] using Ne.symm hs')).kept hk2 (by right; simpa [Value.ownBlock] using Ne.symm hp')
  · intro b hb
    rcases List.mem_append.1 hb with h | h
    · exact h7 b h
    · exact hm b h
  · have ht : Touch (fun i => i = p ∨ i = s ∨ i = g) w w1 := ⟨hg.os, hg.tape, hg.output, hg.size, fun k hk hn => hg.block k hk (fun e => hn (.inr (.inr (Option.some.inj e))))⟩
    exact (ht.setCell ⟨s, 0, none⟩ (.inr (.inr (.inl rfl))) _).setCell ⟨p, 1, none⟩ (.inr (.inl rfl)) _
  · rcases hG with h | h
    · exact .inl h
    · exact .inr (by omega)
end Go.Proofs.YthhflkgngencdaaGreatDoor.codec
namespace Go.Proofs.YthhflkgngencdaaGreatDoor.row
open Go.ChangeShapes Go.WideShapes Go.ChangeAt Go.RowKit
set_option linter.unusedVariables false
set_option maxRecDepth 100000
set_option linter.unusedSimpArgs false

structure Fm {α : Type} (F : α → List Value) (K : Nat) : Prop where
  len : ∀ y, (F y).length = K
  one : ∀ y, ∀ u ∈ F y, u.oneCell' = true
def fl {α : Type} (F : α → List Value) (ys : List α) : List Value := ys.flatMap F
theorem fl_snoc {α : Type} (F : α → List Value) (ys : List α) (y : α) : fl F (ys ++ [y]) = fl F ys ++ F y := by simp [fl]
theorem fl_at {α : Type} {F : α → List Value} {K : Nat} (hF : Fm F K) : ∀ (ys : List α) (k : Nat) (y : α), ys[k]? = some y → ∀ j v, (F y)[j]? = some v → (fl F ys)[k * K + j]? = some v
  | [], k, y, h => by simp at h
  | z :: r, 0, y, h => by
    simp at h
    subst h
    intro j v hv
    have hj := (List.getElem?_eq_some_iff.1 hv).1
    rw [Nat.zero_mul, Nat.zero_add, fl, List.flatMap_cons, List.getElem?_append_left hj]
    exact hv
  | z :: r, k + 1, y, h => by
    intro j v hv
    have := fl_at hF r k y (by simpa using h) j v hv
    rw [fl, List.flatMap_cons, List.getElem?_append_right (by rw [hF.len, Nat.add_mul]; omega), hF.len, show (k + 1) * K + j - K = k * K + j by rw [Nat.add_mul]; omega]
    exact this
/-- A row of the call's own. -/
def Own {α : Type} (F : α → List Value) (K B : Nat) (E : TypeId) (w : World) (v : Value) (ys : List α) : Prop :=
  w.ownsRow B E K v ys.length (fl F ys)
theorem Own.nil {α : Type} (F : α → List Value) (K B : Nat) (E : TypeId) (w : World) : Own F K B E w (.slice none 0 0) [] := ⟨by simp [fl], .inl ⟨rfl, rfl⟩⟩
theorem Own.grown {α : Type} {F : α → List Value} {K B : Nat} {E : TypeId} {w w' : World} {v : Value} {ys : List α} {r : Option Nat} (h : Own F K B E w v ys) (hg : w.grownBy w' r) (hv : ∀ b, r = some b → v.ownBlock ≠ some b) : Own F K B E w' v ys := by
  refine World.ownsRow.kept h hg ?_
  cases hr : r with
  | none => cases hb : v.ownBlock <;> simp
  | some b => exact .inr (hv b hr)
theorem Own.below {α : Type} {F : α → List Value} {K B : Nat} {E : TypeId} {w w' : World} {v : Value} {ys : List α} (h : Own F K B E w v ys) (hb : Below w.heap.size w w') : Own F K B E w' v ys :=
  h.grown (r := none) ⟨hb.os, hb.tape, hb.output, hb.size, fun i hi _ => hb.block i hi⟩ (fun b e => by cases e)
theorem Own.alloc {α : Type} {F : α → List Value} {K B : Nat} {E : TypeId} {w : World} {v : Value} {ys : List α} (h : Own F K B E w v ys) (o : Obj) : Own F K B E (w.alloc o) v ys := h.below ((Below.refl _ _).alloc (Nat.le_refl _) _)
theorem Own.lt {α : Type} {F : α → List Value} {K B : Nat} {E : TypeId} {w : World} {v : Value} {ys : List α} (h : Own F K B E w v ys) {g : Nat} (e : v.ownBlock = some g) : B ≤ g ∧ g < w.heap.size := World.ownsRow.lt h g e
/-- What touches other blocks alone keeps the row. -/
theorem Own.touch {α : Type} {F : α → List Value} {K B : Nat} {E : TypeId} {G : Nat → Prop} {w w' : World} {v : Value} {ys : List α} (h : Own F K B E w v ys) (ht : codec.Touch G w w') (hv : ∀ g, v.ownBlock = some g → ¬ G g) : Own F K B E w' v ys := by
  refine ⟨h.1, h.2.imp id fun ⟨g, cap, cur, h1, h2, h3, h4⟩ => ⟨g, cap, cur, h1, h2, ?_, h4⟩⟩
  have hlt := (h.lt (g := g) (by rw [h1]; rfl)).2
  rw [ht.2.2.2.2 g hlt (hv g (by rw [h1]; rfl))]
  exact h3
theorem lit_at {α : Type} {F : α → List Value} {w : World} (y : α) (t : TypeId) (m : Nat × Nat) {g : Nat} (hg : g = w.heap.size) : ∀ j u, (F y)[j]? = some u → (w.alloc (.cells (F y).toArray t m)).cell? ((⟨g, 0, none⟩ : Addr).add j) = some u := by
  intro j u hu
  subst hg
  rw [codec.add_none, Nat.zero_add, World.cell?_alloc_mark]
  simpa using hu
/-- A struct put behind those of the call's own. -/
theorem run_append_own {α : Type} {F : α → List Value} {K by_ : Nat} {z : Value} (hF : Fm F K) (hK : 0 < K) (hK9 : K ≤ 9) (hby : by_ ≤ 1000) (hz : z.cells.size = K) (T E : TypeId) (hT : Tryz.prog.underlying T = some (.slice E)) (hE : (Tryz.prog.info? E).map (fun i => (i.zero, i.size, i.bytes)) = some (some z, K, by_))
    (w : World) (ty : TypeId) (B : Nat) (v : Value) (ys : List α) (h : Own F K B E w v ys) (hB : B ≤ w.heap.size) (hn : ys.length ≤ 20000000) (y : α) (m : Nat × Nat) (g : Nat) (hg : g = w.heap.size) :
    ∃ v' w', (Builtin.append_ #[T, T] ty #[v, .slice (some ⟨g, 0, none⟩) 1 1]).run Tryz.prog (w.alloc (.cells (F y).toArray E m)) = .ok v' w' ∧ Own F K B E w' v' (ys ++ [y]) ∧ w.grownBy w' v.ownBlock ∧ (v'.ownBlock = v.ownBlock ∨ ∃ g, v'.ownBlock = some g ∧ w.heap.size ≤ g) := by
  obtain ⟨i0, hi, hz0, hz1, hz2⟩ := info_parts hE
  have ha := h.alloc (.cells (F y).toArray E m)
  have hby2 : (ys.length + 1) * by_ ≤ 20000001 * 1000 := Nat.mul_le_mul (by omega) hby
  obtain ⟨v', w', hr, h1, h2, h3, h4⟩ := run_append_own_at (P := Tryz.prog) (w.alloc (.cells (F y).toArray E m)) B T ty E i0 _ K by_ hT hi hz0 hz1 hz2 hz hK v ys.length (fl F ys) ha ⟨g, 0, none⟩ 1 1 (F y) (by rw [hF.len, Nat.one_mul]) (lit_at y E m hg) (hF.one y) (by unfold maxLen; omega) (by omega) (by simp; omega)
  have hgr : w.grownBy w' v.ownBlock := ⟨h2.os, h2.tape, h2.output, by have := h2.size; simp at this; omega, fun k hk hne => by
    rw [h2.block k (by simp; omega) hne]
    exact Below.heap_alloc _ _ _ hk⟩
  have hat : v'.ownBlock = v.ownBlock ∨ ∃ g, v'.ownBlock = some g ∧ w.heap.size ≤ g := by
    rcases h4 with h4 | h4
    · exact .inl h4
    · exact .inr ⟨_, h4, by simp⟩
  refine ⟨v', w', hr, ?_, hgr, hat⟩
  unfold Own
  rw [fl_snoc, List.length_append]
  simpa using h1
theorem wpList_append_own {α : Type} {F : α → List Value} {K by_ : Nat} {z : Value} (hF : Fm F K) (hK0 : 0 < K) (hK9 : K ≤ 9) (hby : by_ ≤ 1000) (hz : z.cells.size = K) {ops : Array Oper} {rest : List Oper} {o : Oper} {a : Act} {w : World} {Q : Exit → Act → World → Prop} (hgd : o.guard = none) (s q : Operand) (T E : TypeId)
    (ho : o.op = .call { callee := .builtin .append, args := #[s, q], argTypes := #[T, T] }) (hT : Tryz.prog.underlying T = some (.slice E)) (hE : (Tryz.prog.info? E).map (fun i => (i.zero, i.size, i.bytes)) = some (some z, K, by_))
    (B : Nat) (v : Value) (ys : List α) (hs : a.eval s = v) (h : Own F K B E w v ys) (hB : B ≤ w.heap.size) (hn : ys.length ≤ 20000000) (y : α) (m : Nat × Nat) (g : Nat) (hg : g = w.heap.size) (hy : a.eval q = .slice (some ⟨g, 0, none⟩) 1 1) (L : Array Value) (hL : L = (F y).toArray)
    (hK : ∀ v' w', Own F K B E w' v' (ys ++ [y]) → w.grownBy w' v.ownBlock → (v'.ownBlock = v.ownBlock ∨ ∃ g, v'.ownBlock = some g ∧ w.heap.size ≤ g) → wpList Tryz.prog ops Q rest (a.put o.dst v') w') : wpList Tryz.prog ops Q (o :: rest) a (w.alloc (.cells L E m)) := by
  subst hL
  obtain ⟨v', w', hr, h1, h2, h3⟩ := run_append_own hF hK0 hK9 hby hz T E hT hE w o.type B v ys h hB hn y m g hg
  refine wpList_plain hgd fun _ hK' => ?_
  unfold Oper.wp execOp
  simp only [ho, resolve, invoke, builtin, Sem.run_bind, Sem.run_pure, Result.andThen_ok, List.map_toArray, List.map_cons, List.map_nil, hs, hy, hr]
  exact hK' _ _ (hK v' w' h1 h2 h3)
/-- What grows a row of the call's own keeps what was before the call. -/
theorem grown_below {α : Type} {W w w' : World} {F : α → List Value} {K : Nat} {E : TypeId} {v : Value} {ys : List α} (hb : Below W.heap.size W w) (h : Own F K W.heap.size E w v ys) (hg : w.grownBy w' v.ownBlock) : Below W.heap.size W w' :=
  hb.trans ⟨hg.os, hg.tape, hg.output, hg.size, fun k hk => hg.block k (Nat.lt_of_lt_of_le hk hb.size) (fun e => by
    have := (h.lt e.symm).1
    omega)⟩

/-- A slice that reads so. -/
def Rd {α : Type} (F : α → List Value) (K : Nat) (w : World) (A : Option Addr) (n : Nat) (ys : List α) : Prop := ys.length = n ∧ ∀ k, k < n → ∃ b o y, A = some ⟨b, o, none⟩ ∧ ys[k]? = some y ∧ (∀ j v, (F y)[j]? = some v → w.cell? ⟨b, o + k * K + j, none⟩ = some v)
theorem Rd.below {α : Type} {F : α → List Value} {K : Nat} {w w' : World} {A : Option Addr} {n : Nat} {ys : List α} (h : Rd F K w A n ys) (hb : Below w.heap.size w w') : Rd F K w' A n ys := by
  refine ⟨h.1, fun k hk => ?_⟩
  obtain ⟨b, o, y, h1, h2, h3⟩ := h.2 k hk
  refine ⟨b, o, y, h1, h2, fun j v hv => ?_⟩
  have := h3 j v hv
  rw [hb.cell (p := ⟨b, o + k * K + j, none⟩) (block_lt_of_cell this)]
  exact this
theorem Rd.take {α : Type} {F : α → List Value} {K : Nat} {w : World} {A : Option Addr} {n : Nat} {ys : List α} (h : Rd F K w A n ys) (m : Nat) (hm : m ≤ n) : Rd F K w A m (ys.take m) := by
  refine ⟨by rw [List.length_take, h.1]; omega, fun k hk => ?_⟩
  obtain ⟨b, o, x, h1, h2, h3⟩ := h.2 k (by omega)
  exact ⟨b, o, x, h1, by rw [List.getElem?_take, if_pos hk]; exact h2, h3⟩
theorem Own.rd {α : Type} {F : α → List Value} {K B : Nat} {E : TypeId} {w : World} {v : Value} {ys : List α} (hF : Fm F K) (h : Own F K B E w v ys) : ∃ A c, v = .slice A ys.length c ∧ ys.length ≤ c ∧ (A = none → c = 0) ∧ Rd F K w A ys.length ys := by
  rcases h.2 with ⟨e, h0⟩ | ⟨g, cap, cur, e, hB, hg, hc, _⟩
  · exact ⟨none, 0, by rw [h0]; exact e, by omega, fun _ => rfl, rfl, fun k hk => by omega⟩
  · refine ⟨_, cap, e, hc, (fun e => by cases e), rfl, fun k hk => ?_⟩
    have hx : ys[k]? = some ys[k] := List.getElem?_eq_getElem hk
    refine ⟨g, 0, ys[k], rfl, hx, fun j u hu => ?_⟩
    have := World.ownsRow.cells h (g := g) (by rw [e]; rfl) _ u (fl_at hF ys k _ hx j u hu)
    rw [codec.add_none] at this
    rw [Nat.add_assoc]
    exact this
theorem boxed {w : World} {o : Obj} {w1 : World} (h : Below (w.alloc o).heap.size (w.alloc o) w1) : w1.heap[w.heap.size]? = some o ∧ Below w.heap.size w w1 := by
  have h0 : Below w.heap.size w (w.alloc o) := (Below.refl _ _).alloc (Nat.le_refl _) _
  refine ⟨?_, h0.trans (h.mono h0.size)⟩
  rw [h.block _ (by simp)]
  exact heap_alloc_new w o
theorem Rd.empty {α : Type} {F : α → List Value} {K : Nat} (w : World) : Rd F K w .none 0 [] := ⟨rfl, fun k hk => by omega⟩
theorem Rd.length {α : Type} {F : α → List Value} {K : Nat} {w : World} {A : Option Addr} {n : Nat} {ys : List α} (h : Rd F K w A n ys) : ys.length = n := h.1
end Go.Proofs.YthhflkgngencdaaGreatDoor.row
namespace Go.Proofs.YthhflkgngencdaaGreatDoor.sto
open Go.ChangeShapes Go.WideShapes Go.ChangeAt Go.RowKit
set_option linter.unusedVariables false
set_option maxRecDepth 100000
set_option linter.unusedSimpArgs false

/-- A number below 16, in digits. -/
def dig (k : Nat) : ByteArray := if k < 10 then ⟨#[UInt8.ofNat (48 + k)]⟩ else ⟨#[49, UInt8.ofNat (38 + k)]⟩
theorem upto16 {P : Nat → Prop} (h0 : P 0) (h1 : P 1) (h2 : P 2) (h3 : P 3) (h4 : P 4) (h5 : P 5) (h6 : P 6) (h7 : P 7) (h8 : P 8) (h9 : P 9) (h10 : P 10) (h11 : P 11) (h12 : P 12) (h13 : P 13) (h14 : P 14) (h15 : P 15) : ∀ k, k < 16 → P k := by
  intro k hk
  rcases (by omega : k = 0 ∨ k = 1 ∨ k = 2 ∨ k = 3 ∨ k = 4 ∨ k = 5 ∨ k = 6 ∨ k = 7 ∨ k = 8 ∨ k = 9 ∨ k = 10 ∨ k = 11 ∨ k = 12 ∨ k = 13 ∨ k = 14 ∨ k = 15) with rfl | rfl | rfl | rfl | rfl | rfl | rfl | rfl | rfl | rfl | rfl | rfl | rfl | rfl | rfl | rfl <;> assumption
theorem small_any (w : World) : ∀ k, k < 16 → Calls Tryz.prog 209 #[.int .i64 (k : Nat)] w fun e w' => e = .returned (.string (dig k)) ∧ w' = w := by
  refine upto16 ?_ ?_ ?_ ?_ ?_ ?_ ?_ ?_ ?_ ?_ ?_ ?_ ?_ ?_ ?_ ?_
  all_goals
    go_enter Tryz.func209, Tryz.ntmps209
    go_wp2
    go_ret
    exact ⟨rfl, rfl⟩
theorem format_any (w : World) (k : Nat) (hk : k < 16) : Calls Tryz.prog 188 #[.int .i64 (k : Nat), .int .i64 10] w fun e w' => e = .returned (.string (dig k)) ∧ w' = w := by
  have H := Lib.hid (small_any w k hk)
  have h1 : (k : Int) < 100 := by omega
  clear hk
  go_enter Tryz.func188, Tryz.ntmps188
  go_wp2_with (go_at_call 209; refine H.out.mono ?_; rintro e w1 ⟨rfl, rfl⟩)
  go_ret
  exact ⟨rfl, rfl⟩
theorem itoaI_any (w : World) (k : Nat) (hk : k < 16) : Calls Tryz.prog 143 #[.int .i64 (k : Nat)] w fun e w' => e = .returned (.string (dig k)) ∧ w' = w := by
  have H := Lib.hid (format_any w k hk)
  clear hk
  go_enter Tryz.func143, Tryz.ntmps143
  go_wp2_with (go_at_call 188; refine H.out.mono ?_; rintro e w1 ⟨rfl, rfl⟩)
  go_ret
  exact ⟨rfl, rfl⟩
theorem itoa_any (w : World) (k : Nat) (hk : k < 16) : Calls Tryz.prog 97 #[.int .i64 (k : Nat)] w fun e w' => e = .returned (.string (dig k)) ∧ w' = w := by
  have H := Lib.hid (itoaI_any w k hk)
  clear hk
  go_enter Tryz.func97, Tryz.ntmps97
  go_wp2_with (go_at_call 143; refine H.out.mono ?_; rintro e w1 ⟨rfl, rfl⟩)
  go_ret
  exact ⟨rfl, rfl⟩
theorem dig_size : ∀ k, k < 16 → (dig k).size ≤ 2 := by
  refine upto16 ?_ ?_ ?_ ?_ ?_ ?_ ?_ ?_ ?_ ?_ ?_ ?_ ?_ ?_ ?_ ?_ <;> decide
def logN (k : Nat) : ByteArray := ⟨#[108, 111, 103, 46]⟩ ++ dig k
def idxN (k : Nat) : ByteArray := ⟨#[105, 100, 120, 46]⟩ ++ dig k
def flgN (k : Nat) : ByteArray := ⟨#[102, 108, 103, 46]⟩ ++ dig k
/-- The names as keys. -/
def lgK (k : Nat) : List UInt8 := (logN k).data.toList
def ixK (k : Nat) : List UInt8 := (idxN k).data.toList
def fgK (k : Nat) : List UInt8 := (flgN k).data.toList
def nwK : List UInt8 := [110, 101, 119]
def trK : List UInt8 := [116, 114, 101, 101]
theorem logName_any (w : World) (k : Nat) (hk : k < 16) : Calls Tryz.prog 96 #[.int .i64 (k : Nat)] w fun e w' => e = .returned (.string (logN k)) ∧ w' = w := by
  have H := Lib.hid (itoa_any w k hk)
  have hd : ¬ 9223372036854775807 < 4 + (dig k).size := by have := dig_size k hk; omega
  clear hk
  go_enter Tryz.func96, Tryz.ntmps96
  go_wp2_with (go_at_call 97; refine H.out.mono ?_; rintro e w1 ⟨rfl, rfl⟩)
  go_ret
  exact ⟨rfl, rfl⟩
theorem indexName_any (w : World) (k : Nat) (hk : k < 16) : Calls Tryz.prog 55 #[.int .i64 (k : Nat)] w fun e w' => e = .returned (.string (idxN k)) ∧ w' = w := by
  have H := Lib.hid (itoa_any w k hk)
  have hd : ¬ 9223372036854775807 < 4 + (dig k).size := by have := dig_size k hk; omega
  clear hk
  go_enter Tryz.func55, Tryz.ntmps55
  go_wp2_with (go_at_call 97; refine H.out.mono ?_; rintro e w1 ⟨rfl, rfl⟩)
  go_ret
  exact ⟨rfl, rfl⟩
theorem flagsName_any (w : World) (k : Nat) (hk : k < 16) : Calls Tryz.prog 56 #[.int .i64 (k : Nat)] w fun e w' => e = .returned (.string (flgN k)) ∧ w' = w := by
  have H := Lib.hid (itoa_any w k hk)
  have hd : ¬ 9223372036854775807 < 4 + (dig k).size := by have := dig_size k hk; omega
  clear hk
  go_enter Tryz.func56, Tryz.ntmps56
  go_wp2_with (go_at_call 97; refine H.out.mono ?_; rintro e w1 ⟨rfl, rfl⟩)
  go_ret
  exact ⟨rfl, rfl⟩
theorem name_size : ∀ k, k < 16 → (logN k).size ≤ 40 ∧ (idxN k).size ≤ 40 ∧ (flgN k).size ≤ 40 := by
  refine upto16 ?_ ?_ ?_ ?_ ?_ ?_ ?_ ?_ ?_ ?_ ?_ ?_ ?_ ?_ ?_ ?_ <;> decide
end Go.Proofs.YthhflkgngencdaaGreatDoor.sto
namespace Go.Proofs.YthhflkgngencdaaGreatDoor.sto
open Go.ChangeShapes Go.WideShapes Go.ChangeAt Go.RowKit
open Go.Proofs.YthhflkgngencdaaGreatDoor.codec (Bytes vals vals_append vals_length vals_one)
open Go.Proofs.YthhflkgngencdaaGreatDoor.row
set_option linter.unusedVariables false
set_option maxRecDepth 100000
set_option linter.unusedSimpArgs false

/-- A piece: where it lies, and what it is. -/
structure Pc where
  A : Option Addr
  n : Nat
  c : Nat
  l : List Nat
def cP (p : Pc) : List Value := [.slice p.A p.n p.c]
/-- A piece lies so. -/
def Lies (w : World) (p : Pc) : Prop := Bytes w p.A p.n p.l ∧ p.n ≤ p.c ∧ (p.A = none → p.c = 0)
theorem Lies.below {w w' : World} {p : Pc} (h : Lies w p) (hb : Below w.heap.size w w') : Lies w' p := ⟨h.1.below h.1.lt hb, h.2⟩
def all (ps : List Pc) : List Nat := ps.flatMap Pc.l
def tot (ps : List Pc) (k : Nat) : Nat := (all (ps.take k)).length
theorem all_next {ps : List Pc} {k : Nat} {p : Pc} (h : ps[k]? = some p) : all (ps.take (k + 1)) = all (ps.take k) ++ p.l := by
  rw [List.take_add_one, h]
  simp [all]
theorem tot_next {ps : List Pc} {k : Nat} {p : Pc} (h : ps[k]? = some p) : tot ps (k + 1) = tot ps k + p.l.length := by
  unfold tot
  rw [all_next h, List.length_append]
theorem tot_le (ps : List Pc) (k : Nat) : tot ps k ≤ (all ps).length := by
  have e : all ps = all (ps.take k) ++ all (ps.drop k) := by
    unfold all
    rw [← List.flatMap_append, List.take_append_drop]
  rw [e, List.length_append]
  exact Nat.le_add_right _ _
theorem wpList_grow_zeros {ops : Array Oper} {rest : List Oper} {o : Oper} {a : Act} {w : World} {Q : Exit → Act → World → Prop} (hgd : o.guard = none) (s x : Operand)
    (ho : o.op = .call { callee := .builtin .append, args := #[s, x], argTypes := #[40, 3] }) (n : Nat) (h0 : 0 < n) (hn : n ≤ 100000000)
    (hs : a.eval s = .slice none 0 0) (hx : a.eval x = .int .i64 n)
    (hK : ∀ g cap w', Below w.heap.size w w' → w'.ownsRow w.heap.size 5 1 (.slice (some ⟨g, 0, none⟩) 0 cap) 0 [] → wpList Tryz.prog ops Q rest (a.put o.dst (.slice (some ⟨g, 0, none⟩) n cap)) w') : wpList Tryz.prog ops Q (o :: rest) a w := by
  obtain ⟨i0, hi, hz0, hz1, hz2⟩ := info_parts codec.info5
  have hr := Lib.run_append_nil_zeros (P := Tryz.prog) w 40 3 o.type 5 i0 (.int .u8 0) .i64 .i64 Tryz.underlying40 Tryz.underlying3 hi hz0 n h0 (by rw [hz1]; decide) (by omega) (by rw [hz2]; omega)
  have hge := grownCap_ge w n 0 5
  have hle := grownCap_le_maxLen w n 0 5 (by unfold maxLen; omega)
  refine wpList_plain hgd fun _ hK' => ?_
  unfold Oper.wp execOp
  simp only [ho, resolve, invoke, builtin, Sem.run_bind, Sem.run_pure, Result.andThen_ok, List.map_toArray, List.map_cons, List.map_nil, hs, hx, hr]
  refine hK' _ _ (hK _ _ _ ((codec.below_draws (Below.refl _ _) 1).alloc (Nat.le_refl _) _) ?_)
  have hm := World.ownsRow_made (base := w.heap.size) (e := 5) (size := 1) w.drew (Builtin.zeroCells (Value.int .u8 0).cells n ++ Builtin.zeroCells (Value.int .u8 0).cells (grownCap w n 0 5 - n)) (grownCap w n 0 5) (Nat.le_refl _) hle (by
    rw [Array.size_append, size_zeroCells, size_zeroCells]
    show n * 1 + (grownCap w n 0 5 - n) * 1 = grownCap w n 0 5 * 1
    omega)
  exact hm
set_option maxHeartbeats 1000000 in
theorem grow_nil (W : World) (n : Nat) (hn : n ≤ 100000000) :
    Calls Tryz.prog 142 #[.slice none 0 0, .int .i64 (n : Nat)] W fun e w' => ∃ v, e = .returned v ∧ w'.ownsRow W.heap.size 5 1 v 0 [] ∧ Below W.heap.size W w' := by
  rcases Nat.eq_zero_or_pos n with h0 | h0
  · subst h0
    go_enter Tryz.func142, Tryz.ntmps142
    go_wp2
    go_ret
    exact ⟨_, rfl, World.ownsRow_nil _ _ _ _, Below.refl _ _⟩
  · have h1 : ¬ ((n : Int) < 0) := by omega
    have h2 : (0 : Int) < (n : Int) := by omega
    go_enter Tryz.func142, Tryz.ntmps142
    go_wp2_with (at_builtin; refine wpList_grow_zeros rfl (.tmp 20) (.tmp 21) rfl n h0 hn rfl rfl ?_; intro g cap w1 hb ho; have HB := Lib.hid hb; have HO := Lib.hid ho; clear hb ho)
    go_ret
    exact ⟨_, rfl, HO.out, HB.out⟩
set_option maxHeartbeats 2000000 in
theorem concat_any (W : World) (A : Option Addr) (n c : Nat) (ps : List Pc) (hR : Rd cP 1 W A n ps) (hL : ∀ p ∈ ps, Lies W p) (hn : n ≤ 1000000) (ht : (all ps).length ≤ 100000000) :
    Calls Tryz.prog 95 #[.slice A n c] W fun e w' => ∃ v, e = .returned v ∧ w'.ownsRow W.heap.size 5 1 v (all ps).length (vals (all ps)) ∧ Below W.heap.size W w' := by
  have HR := Lib.hid hR
  have HL := Lib.hid hL
  have HT := Lib.hid ht
  have HLe := Lib.hid (tot_le ps)
  have HEnd : Hid (tot ps n = (all ps).length ∧ all (ps.take n) = all ps) := Lib.hid (by unfold tot; rw [List.take_of_length_le (by rw [hR.1]; exact Nat.le_refl _)]; exact ⟨rfl, rfl⟩)
  clear hR hL ht
  go_enter Tryz.func95, Tryz.ntmps95
  go_wp2_with fail
  go_loopw [3, 11] (fun s i wr => ∃ k : Nat, k ≤ n ∧ i = .int .i64 k ∧ s = .int .i64 (tot ps k : Nat) ∧ W = wr) (fun _ i _ => n - (intOf i).toNat)
  case atStart => exact ⟨0, Nat.zero_le _, rfl, by simp [tot, all], rfl⟩
  case round =>
    obtain ⟨k, hk, rfl, rfl, rfl⟩ := hrel
    by_cases hlt : k < n
    · obtain ⟨b, o, p, rfl, hp, hc⟩ := HR.out.2 k hlt
      have c0 := hc 0 _ rfl
      simp only [Nat.mul_one, Nat.add_zero] at c0
      have hl := (HL.out p (List.mem_of_getElem? hp)).1.1
      have HN := tot_next hp
      have hle := HLe.out (k + 1)
      have hT := HT.out
      rw [hl] at HN
      have HN2 : Hid ((tot ps k : Int) + (p.n : Int) = ((tot ps (k + 1) : Nat) : Int)) := Lib.hid (by rw [HN]; push_cast; rfl)
      have hb1 : tot ps k + p.n ≤ 100000000 := by omega
      clear HN hle hT hc hp hl
      generalize tot ps k = t at *
      have hneg : ¬ ((t : Int) + (p.n : Int) < 0) := by omega
      go_wp2_with fail
      go_roundw
      case rel => first | exact ⟨k + 1, by omega, by go_num, by rw [← HN2.out], trivial⟩ | ((repeat apply Exists.intro); exact ⟨⟨k + 1, by omega, by go_num, by rw [← HN2.out], trivial⟩, rfl⟩)
      case measure => (show n - ((k : Int) + 1).toNat < n - k; omega)
    · obtain rfl : k = n := by omega
      have hT := HT.out
      rw [HEnd.out.1]
      generalize hq : (all ps).length = q at *
      have HQ := Lib.hid hq
      have HG := Lib.hid (grow_nil W q hT)
      clear hT hq
      go_wp2_with (go_at_call 142; refine HG.out.mono ?_; rintro e w1 ⟨v, rfl, ho, hb⟩; have HO := Lib.hid ho; have HB := Lib.hid hb; clear ho hb)
      generalize hm : k = m at *
      go_loopw [6, 27] (fun v i wr => ∃ k : Nat, k ≤ m ∧ i = .int .i64 k ∧ Hid (Below W.heap.size W wr ∧ wr.ownsRow W.heap.size 5 1 v (all (ps.take k)).length (vals (all (ps.take k))))) (fun _ i _ => m - (intOf i).toNat)
      case atStart => exact ⟨0, Nat.zero_le _, rfl, Lib.hid ⟨HB.out, by simpa [all, vals] using HO.out⟩⟩
      case round =>
        obtain ⟨k, hk, rfl, HS⟩ := hrel
        by_cases hlt : k < m
        · obtain ⟨b, o, p, rfl, hp, hc⟩ := (HR.out.below HS.out.1).2 k hlt
          have c0 := hc 0 _ rfl
          simp only [Nat.mul_one, Nat.add_zero] at c0
          have hly := (HL.out p (List.mem_of_getElem? hp)).below HS.out.1
          have HLy := Lib.hid hly
          have HO1 := Lib.hid HS.out.2
          have HB1 := Lib.hid HS.out.1
          have HNx := Lib.hid (all_next hp)
          have HLn : Hid ((all (ps.take k)).length + p.n ≤ 1000000000) := Lib.hid (by
            have h1 := HLe.out (k + 1)
            have h2 := HT.out
            rw [tot_next hp, hly.1.1] at h1
            unfold tot at h1
            omega)
          generalize all (ps.take k) = M at *
          clear hc hp hly HS
          go_wp2_with (at_builtin; refine codec.wpList_append_bytes rfl (.tmp 31) (.tmp 32) rfl W.heap.size _ M rfl HO1.out HB1.out.size p.A p.n p.c p.l rfl HLy.out.1 HLy.out.2.2 HLn.out ?_; intro v1 w2 ho hg _ _; have HS2 := Lib.hid (show Below W.heap.size W w2 ∧ w2.ownsRow W.heap.size 5 1 v1 (all (ps.take (k + 1))).length (vals (all (ps.take (k + 1)))) from ⟨HB1.out.trans ⟨hg.os, hg.tape, hg.output, hg.size, fun j hj => hg.block j (Nat.lt_of_lt_of_le hj HB1.out.size) (fun e => by have := (World.ownsRow.lt HO1.out _ e.symm).1; omega)⟩, by rw [HNx.out]; exact ho⟩); clear ho hg)
          go_roundw
          case rel => first | exact ⟨k + 1, by omega, by go_num, HS2⟩ | ((repeat apply Exists.intro); exact ⟨⟨k + 1, by omega, by go_num, HS2⟩, rfl⟩)
          case measure => (show m - ((k : Int) + 1).toNat < m - k; omega)
        · obtain rfl : k = m := by omega
          have hS := HS.out
          rw [HEnd.out.2] at hS
          have HS3 := Lib.hid hS
          clear hS
          go_wp2_with fail
          go_ret
          exact ⟨_, rfl, HS3.out.2, HS3.out.1⟩
end Go.Proofs.YthhflkgngencdaaGreatDoor.sto
namespace Go.Proofs.YthhflkgngencdaaGreatDoor.codec
open Go.ChangeShapes Go.WideShapes Go.ChangeAt Go.RowKit
set_option linter.unusedVariables false
set_option maxRecDepth 100000
set_option linter.unusedSimpArgs false

set_option maxHeartbeats 1000000 in
theorem put_full (w : World) (p s g cap : Nat) (l : List Nat) (A : Option Addr) (n c : Nat) (m : List Nat) (h : Full w p s g cap l) (hB : Bytes w A n m) (hn : l.length + n ≤ 10000000) (hA : A = none → c = 0) :
    Calls Tryz.prog 139 #[.pointer (some ⟨p, 0, none⟩), .slice A n c] w fun e w' => e = .returned (.tuple #[]) ∧ ∃ g' cap', Full w' p s g' cap' (l ++ m) ∧ Touch (fun i => i = p ∨ i = s ∨ i = g) w w' ∧ (g' = g ∨ w.heap.size ≤ g') := by
  obtain ⟨hc0, hc1, _, hs0, hf0, hf1, hfs, hlp, hls, hlg, hcap⟩ := h.facts
  have hps := h.2.2.2.1
  have HF := Lib.hid h
  have HB := Lib.hid hB
  have HN := Lib.hid hA
  obtain ⟨k, hk⟩ : ∃ k, k = l.length := ⟨_, rfl⟩
  have HK := Lib.hid hk
  rw [← hk] at hc1 hs0 hcap hn
  clear h hB hk hA
  go_enter Tryz.func139, Tryz.ntmps139
  go_wp2
  go_quiet (fail)
  go_wp2
  go_region_law (refine step_append_bytes rfl (.tmp 42) (.tmp 43) rfl 0 (.slice (some ⟨g, 0, none⟩) k cap) l (by simp [Act.eval, Act.put]) (by rw [HK.out]; exact HF.out.2.2.1) (Nat.zero_le _) A n c m (by simp [Act.eval, Act.put]) (HB.out.drewN _) HN.out (by rw [← HK.out]; omega) ?_; intro v' w1 ho hg hnn hat; obtain ⟨g', cap', rfl, hG, hP1, hS1⟩ := Full.grow (n := n) HF.out ho ⟨hg.os, hg.tape, hg.output, hg.size, hg.block⟩ (by rw [← HK.out]; exact hnn) (by simpa [Value.ownBlock] using hat); obtain ⟨d0, d1, d2, e0, e1, e2⟩ := own_facts hP1 hS1; have HO := Lib.hid ho; have HG := Lib.hid hg; have HT := Lib.hid (And.intro hP1 hS1); clear ho hg hnn hat hP1 hS1)
  all_goals go_wp2
  all_goals
    go_end0
    refine ⟨rfl, g', cap', ?_⟩
  all_goals
    have hgr : w.grownBy w1 (some g) := ⟨HG.out.os, HG.out.tape, HG.out.output, HG.out.size, HG.out.block⟩
    exact put_end HF.out HO.out hgr HT.out hG HB.out.2.1

/-- An Out that has nothing yet. -/
def Fresh (w : World) (p : Nat) : Prop := w.heap[p]? = some (.cells #[.pointer none, .int .i64 0, .bool false] 154 (0, 0))
theorem fresh_full {w : World} {p : Nat} (h : Fresh w p) : ∀ w1, w1 = (((w.setCell ⟨p, 0, none⟩ (.pointer (some ⟨w.heap.size + 1, 0, none⟩))).alloc (.cells (vals []).toArray 5)).alloc (.cells #[.slice (some ⟨w.heap.size, 0, none⟩) 0 0] 254)) → Full w1 p (w.heap.size + 1) w.heap.size 0 [] ∧ Touch (fun i => i = p) w w1 ∧ w1.heap.size = w.heap.size + 2 := by
  have hlt : p < w.heap.size := (Array.getElem?_eq_some_iff.1 h).1
  rintro w1 rfl
  have hs : (w.setCell ⟨p, 0, none⟩ (.pointer (some ⟨w.heap.size + 1, 0, none⟩))).heap.size = w.heap.size := by simp
  have h0 : (w.setCell ⟨p, 0, none⟩ (.pointer (some ⟨w.heap.size + 1, 0, none⟩))).heap[p]? = some (.cells #[.pointer (some ⟨w.heap.size + 1, 0, none⟩), .int .i64 0, .bool false] 154 (0, 0)) := by
    rw [heap_setCell_same _ p 0 _ 154 _ h]
    simp
  have ht := (Touch.refl (fun i => i = p) w).setCell ⟨p, 0, none⟩ (.inr rfl) (.pointer (some ⟨w.heap.size + 1, 0, none⟩))
  generalize w.setCell ⟨p, 0, none⟩ (.pointer (some ⟨w.heap.size + 1, 0, none⟩)) = v at *
  have h2 : ((v.alloc (.cells (vals []).toArray 5)).alloc (.cells #[.slice (some ⟨w.heap.size, 0, none⟩) 0 0] 254)).heap[w.heap.size]? = some (.cells (vals []).toArray 5 (0, 0)) := by
    rw [heap_alloc_old _ _ (by simp [hs]), ← hs]
    exact heap_alloc_new v _
  have h3 : ((v.alloc (.cells (vals []).toArray 5)).alloc (.cells #[.slice (some ⟨w.heap.size, 0, none⟩) 0 0] 254)).heap[w.heap.size + 1]? = some (.cells #[.slice (some ⟨w.heap.size, 0, none⟩) 0 0] 254 (0, 0)) := by
    have := heap_alloc_new (v.alloc (.cells (vals []).toArray 5)) (.cells #[.slice (some ⟨w.heap.size, 0, none⟩) 0 0] 254)
    simpa [hs] using this
  refine ⟨⟨?_, ?_, ?_, by omega, by omega, by omega, by simp⟩, ?_, by simp [hs]⟩
  · rw [heap_alloc_old _ _ (by simp [hs]; omega), heap_alloc_old _ _ (by simp [hs]; omega)]
    exact h0
  · exact h3
  · exact ⟨by simp [vals], .inr ⟨w.heap.size, 0, (vals []).toArray, rfl, Nat.zero_le _, h2, Nat.le_refl _, Nat.zero_le _, by simp [vals], by simp [vals]⟩⟩
  · exact (ht.alloc _).alloc _

theorem forget {P : Program} {c : Code} {a : Act} {w : World} {Q : Exit → Act → World → Prop} (R : World → Prop) (hR : R w) (h : ∀ w1, R w1 → Code.wp P c Q a w1) : Code.wp P c Q a w := h w hR

set_option maxHeartbeats 1000000 in
theorem put_fresh (w : World) (p : Nat) (A : Option Addr) (n c : Nat) (m : List Nat) (h : Fresh w p) (hB : Bytes w A n m) (hn : n ≤ 10000000) (hA : A = none → c = 0) (hAp : ∀ ad, A = some ad → 0 < n → ad.block ≠ p) :
    Calls Tryz.prog 139 #[.pointer (some ⟨p, 0, none⟩), .slice A n c] w fun e w' => e = .returned (.tuple #[]) ∧ ∃ s g' cap', Full w' p s g' cap' m ∧ Touch (fun i => i = p) w w' ∧ w.heap.size ≤ s ∧ w.heap.size ≤ g' := by
  have hc0 : w.cell? ⟨p, 0, none⟩ = some (.pointer none) := by simp [World.cell?, show w.heap[p]? = _ from h]
  have hf : w.frozen? ⟨p, 0, none⟩ = false := by simp [World.frozen?, show w.heap[p]? = _ from h]
  have hlt : p < w.heap.size := (Array.getElem?_eq_some_iff.1 h).1
  have HB := Lib.hid hB
  have HN := Lib.hid hA
  have HA := Lib.hid hAp
  have HF := Lib.hid h
  clear hB hA h hAp
  go_enter Tryz.func139, Tryz.ntmps139
  go_wp2
  go_quiet (fail)
  have d0 : (w.drewN nq).cell? ⟨p, 0, none⟩ = some (.pointer none) := hc0
  have d1 : (w.drewN nq).frozen? ⟨p, 0, none⟩ = false := hf
  have d2 : p < (w.drewN nq).heap.size := hlt
  have HF1 : Hid (Fresh (w.drewN nq) p) := HF.out
  have HB1 := Lib.hid (HB.out.drewN nq)
  have HT0 := Lib.hid ((Touch.refl (fun i => i = p) w).drewN nq)
  have HS : Hid ((w.drewN nq).heap.size = w.heap.size) := rfl
  generalize w.drewN nq = w2 at *
  clear hc0 hf hlt HF HB
  go_wp2_with (first | (go_at_call 185; refine (written_empty _ _ (by simp [d0])).mono ?_; rintro e w1 ⟨rfl, rfl⟩) | (go_at_call 184; refine (copied_any _ none 0 0 [] ⟨rfl, by simp, fun h => absurd h (by omega)⟩ (by omega)).mono ?_; rintro e w1 ⟨rfl, rfl⟩))
  refine forget (fun w3 => Full w3 p (w2.heap.size + 1) w2.heap.size 0 [] ∧ Touch (fun i => i = p) w2 w3 ∧ w3.heap.size = w2.heap.size + 2) (fresh_full HF1.out _ rfl) ?_
  rintro w3 ⟨hF3, hT3, hs3⟩
  have HB3 := Lib.hid (HB1.out.touch HA.out hT3)
  have HT3 := Lib.hid hT3
  obtain ⟨hc0, hc1, _, hs0, hf0, hf1, hfs, hlp, hls, hlg, hcap⟩ := hF3.facts
  have HF := Lib.hid hF3
  have hps := hF3.2.2.2.1
  have HS3 := Lib.hid hs3
  clear HB1 hF3 hT3 d0 d1 d2 HF1 hs3
  simp only [List.length_nil] at hc1 hs0
  obtain ⟨S, hS⟩ : ∃ S, S = w2.heap.size + 1 := ⟨_, rfl⟩
  obtain ⟨G, hG⟩ : ∃ G, G = w2.heap.size := ⟨_, rfl⟩
  rw [← hS, ← hG] at HF
  rw [← hS] at hc0 hs0 hfs hps hls
  rw [← hG] at hs0 hlg
  have HE := Lib.hid (And.intro hS hG)
  clear hS hG
  go_region_law (refine step_append_bytes rfl (.tmp 42) (.tmp 43) rfl 0 (.slice (some ⟨G, 0, none⟩) 0 0) [] (by simp [Act.eval, Act.put]) HF.out.2.2.1 (Nat.zero_le _) A n c m (by simp [Act.eval, Act.put]) (HB3.out.drewN 1) HN.out (by simp; omega) ?_; intro v' w4 ho hg hnn hat; obtain ⟨g', cap', rfl, hG, hP1, hS1⟩ := Full.grow (n := n) HF.out ho ⟨hg.os, hg.tape, hg.output, hg.size, hg.block⟩ hnn (by simpa [Value.ownBlock] using hat); obtain ⟨d0, d1, d2, e0, e1, e2⟩ := own_facts hP1 hS1; have HO := Lib.hid ho; have HG := Lib.hid hg; have HT := Lib.hid (And.intro hP1 hS1); clear ho hg hnn hat hP1 hS1)
  all_goals go_wp2
  all_goals
    go_end0
    have hE := HE.out
    have hS0 := HS.out
    have hS3 := HS3.out
    have hgr : w3.grownBy w4 (some G) := ⟨HG.out.os, HG.out.tape, HG.out.output, HG.out.size, HG.out.block⟩
    obtain ⟨f1, f2, f3⟩ := put_end HF.out HO.out hgr HT.out hG HB3.out.2.1
    simp only [List.length_nil, Nat.zero_add, List.nil_append, Int.zero_add, Int.natCast_zero] at f1 f2
    refine ⟨rfl, S, g', cap', f1, ?_, by omega, by omega⟩
    refine HT0.out.trans ((HT3.out.trans (f2.mono fun i _ h => ?_)).mono fun i _ h => .inl h)
    rcases h with h | h | h
    · exact .inl h
    · exact .inr (by omega)
    · exact .inr (by omega)

/-- An Out that has these bytes, on these blocks. -/
def OutIs (w : World) (p : Nat) (l : List Nat) (F : List Nat) : Prop := (Fresh w p ∧ l = [] ∧ F = [p]) ∨ ∃ s g cap, Full w p s g cap l ∧ F = [p, s, g]
theorem OutIs.lt {w : World} {p : Nat} {l F : List Nat} (h : OutIs w p l F) : ∀ k ∈ F, k < w.heap.size := by
  rcases h with ⟨h, rfl, rfl⟩ | ⟨s, g, cap, h, rfl⟩
  · intro k hk
    simp at hk
    subst hk
    exact (Array.getElem?_eq_some_iff.1 h).1
  · obtain ⟨_, _, _, _, _, _, _, h1, h2, h3, _⟩ := h.facts
    intro k hk
    simp at hk
    rcases hk with rfl | rfl | rfl <;> assumption
theorem OutIs.own {w : World} {p : Nat} {l F : List Nat} (h : OutIs w p l F) : p ∈ F := by
  rcases h with ⟨h, rfl, rfl⟩ | ⟨s, g, cap, h, rfl⟩ <;> simp
theorem OutIs.kept {w w' : World} {p : Nat} {l F : List Nat} (h : OutIs w p l F) (hk : ∀ k ∈ F, w'.heap[k]? = w.heap[k]?) : OutIs w' p l F := by
  rcases h with ⟨h, rfl, rfl⟩ | ⟨s, g, cap, h, rfl⟩
  · exact .inl ⟨(hk p (by simp)).trans h, rfl, rfl⟩
  · refine .inr ⟨s, g, cap, ⟨(hk p (by simp)).trans h.1, (hk s (by simp)).trans h.2.1, ?_, h.2.2.2⟩, rfl⟩
    obtain ⟨h1, h2⟩ := h.2.2.1
    refine ⟨h1, ?_⟩
    rcases h2 with ⟨e, _⟩ | ⟨g', cap', cur, e, hb, hg, rest⟩
    · cases e
    · cases e
      exact .inr ⟨g, cap, cur, rfl, hb, (hk g (by simp)).trans hg, rest⟩
theorem OutIs.touch {G : Nat → Prop} {w w' : World} {p : Nat} {l F : List Nat} (h : OutIs w p l F) (ht : Touch G w w') (hG : ∀ k ∈ F, ¬ G k) : OutIs w' p l F :=
  h.kept fun k hk => ht.2.2.2.2 k (h.lt k hk) (hG k hk)
theorem OutIs.below {w w' : World} {p : Nat} {l F : List Nat} (h : OutIs w p l F) (hb : Below w.heap.size w w') : OutIs w' p l F :=
  h.kept fun k hk => hb.block k (h.lt k hk)
theorem OutIs.head {w : World} {p : Nat} {l F : List Nat} (h : OutIs w p l F) : ∃ x y, w.heap[p]? = some (.cells #[x, y, .bool false] 154 (0, 0)) := by
  rcases h with ⟨h, rfl, rfl⟩ | ⟨s, g, cap, h, rfl⟩
  · exact ⟨_, _, h⟩
  · exact ⟨_, _, h.1⟩
theorem OutIs.good {w : World} {p : Nat} {l F : List Nat} (h : OutIs w p l F) : w.cell? ⟨p, 2, none⟩ = some (.bool false) := by
  obtain ⟨x, y, h⟩ := h.head
  simp [World.cell?, h]
theorem OutIs.small {w : World} {p : Nat} {l F : List Nat} (h : OutIs w p l F) : ∀ b ∈ l, b < 256 := by
  rcases h with ⟨h, rfl, rfl⟩ | ⟨s, g, cap, h, rfl⟩
  · simp
  · exact h.2.2.2.2.2.2

/-- The Out has more bytes now, on its own blocks and new ones; nothing else has changed. -/
def More (w : World) (p : Nat) (l F : List Nat) (w' : World) : Prop := ∃ F', OutIs w' p l F' ∧ Touch (fun k => k ∈ F) w w' ∧ ∀ k ∈ F', k ∈ F ∨ w.heap.size ≤ k
theorem put_any (w : World) (p : Nat) (l F : List Nat) (A : Option Addr) (n c : Nat) (m : List Nat) (h : OutIs w p l F) (hB : Bytes w A n m) (hn : l.length + n ≤ 10000000) (hA : A = none → c = 0) (hAp : ∀ ad, A = some ad → 0 < n → ad.block ∉ F) :
    Calls Tryz.prog 139 #[.pointer (some ⟨p, 0, none⟩), .slice A n c] w fun e w' => e = .returned (.tuple #[]) ∧ More w p (l ++ m) F w' := by
  rcases h with ⟨h, rfl, rfl⟩ | ⟨s, g, cap, h, rfl⟩
  · refine (put_fresh w p A n c m h hB (by simp at hn; omega) hA (fun ad e h0 => by simpa using hAp ad e h0)).mono ?_
    rintro e w' ⟨rfl, s, g', cap', h1, h2, h3, h4⟩
    refine ⟨rfl, [p, s, g'], .inr ⟨s, g', cap', h1, rfl⟩, h2.mono fun i _ h => by simp [h], ?_⟩
    intro k hk
    simp at hk ⊢
    rcases hk with rfl | rfl | rfl
    · exact .inl rfl
    · exact .inr h3
    · exact .inr h4
  · refine (put_full w p s g cap l A n c m h hB hn hA).mono ?_
    rintro e w' ⟨rfl, g', cap', h1, h2, h3⟩
    refine ⟨rfl, [p, s, g'], .inr ⟨s, g', cap', h1, rfl⟩, h2.mono fun i _ h => by simpa using h, ?_⟩
    intro k hk
    simp at hk ⊢
    rcases hk with rfl | rfl | rfl
    · exact .inl (.inl rfl)
    · exact .inl (.inr (.inl rfl))
    · rcases h3 with rfl | h3
      · exact .inl (.inr (.inr rfl))
      · exact .inr h3
/-- A spoilt Out. -/
def Spoilt (w : World) (p : Nat) : Prop := w.heap[p]? = some (.cells #[.pointer none, .int .i64 0, .bool true] 154 (0, 0))
theorem Spoilt.bad {w : World} {p : Nat} (h : Spoilt w p) : w.cell? ⟨p, 2, none⟩ = some (.bool true) := by simp [World.cell?, show w.heap[p]? = _ from h]
end Go.Proofs.YthhflkgngencdaaGreatDoor.codec
