/- What the small parts of package codec answer. -/
import Derived.Test.YtklmbiekpilkhaaGreatDoorRows
import Derived.WalkKit
import Derived.ProofKit
import Derived.OpenShut
import Derived.ShutString
import Derived.ChangeOld
import Derived.Below
import Derived.Outline
import Derived.WalkSpells
import Derived.Lib.Hide
import Derived.Deep.QuietTactic
import Derived.BigQuiet
import Derived.Deep.OwnRows
import Derived.Deep.WholeRow
import Derived.StillTailTactics
import Derived.Lib.SlBytesConst
import Derived.Laws.CopyOwn
import Derived.Laws.AppendOwnNone
import Derived.Maps.AppendAt
import Derived.Deep.RegionLaw
import Derived.Deep.Heap
import Derived.Laws.BytesArg
import Derived.Shelf.Bytes.SlSmallAll
import Derived.Lib.ConvBytes
import Derived.Laws.BitsAllLaws
import Derived.Lib.AppendStr
import Derived.Lib.SplitLaws
import Derived.Lib.IndexBytes
import Derived.Lib.LastIndexByte
import Derived.Lib.Fold
import Derived.Lib.Strings
namespace Go.Proofs.YtklmbiekpilkhaaGreatDoor.codec
open Go.ChangeShapes Go.WideShapes Go.ChangeAt Go.RowKit
set_option linter.unusedVariables false
set_option maxRecDepth 100000
set_option linter.unusedSimpArgs false

theorem below_draws {B : Nat} {a w : World} (h : Below B a w) (n : Nat) : Below B a (w.drewN n) := ⟨h.os, h.tape, h.output, h.size, h.block⟩
/-- The slice reads as these bytes. -/
def Bytes (w : World) (A : Option Addr) (n : Nat) (l : List Nat) : Prop :=
  l.length = n ∧ (∀ b ∈ l, b < 256) ∧ (0 < n → ∃ b o, A = some ⟨b, o, none⟩ ∧ ∀ i, i < n → w.cell? ⟨b, o + i, none⟩ = some (.int .u8 (l.getD i 0 : Nat)))
theorem getD_lt256 {l : List Nat} (h : ∀ x ∈ l, x < 256) (i : Nat) : l.getD i 0 < 256 := by
  by_cases hi : i < l.length
  · have : l.getD i 0 = l[i] := by simp [List.getD, hi]
    rw [this]
    exact h _ (List.getElem_mem hi)
  · have : l.getD i 0 = 0 := by simp [List.getD, List.getElem?_eq_none (Nat.le_of_not_lt hi)]
    omega

set_option maxHeartbeats 400000 in
theorem isSize_any (w : World) (n : Int) :
    Calls Tryz.prog 40 #[.int .i64 n] w fun e w' => e = .returned (.bool (decide (1 ≤ n ∧ n ≤ 7))) ∧ w = w' := by
  by_cases h1 : 1 ≤ n
  · by_cases h7 : n ≤ 7
    · have : decide (1 ≤ n ∧ n ≤ 7) = true := by simp [h1, h7]
      rw [this]
      go_enter Tryz.func40, Tryz.ntmps40
      go_wp2
      go_ret
      exact ⟨rfl, rfl⟩
    · have : decide (1 ≤ n ∧ n ≤ 7) = false := by simp [h7]
      rw [this]
      go_enter Tryz.func40, Tryz.ntmps40
      go_wp2
      go_ret
      exact ⟨rfl, rfl⟩
  · have : decide (1 ≤ n ∧ n ≤ 7) = false := by simp [h1]
    rw [this]
    go_enter Tryz.func40, Tryz.ntmps40
    go_wp2
    go_ret
    exact ⟨rfl, rfl⟩

set_option maxHeartbeats 400000 in
theorem takes_nil (w : World) (f : Bool) : Calls Tryz.prog 51 #[.pointer none, .bool f] w fun e w' => e = .returned (.bool false) ∧ w = w' := by
  go_enter Tryz.func51, Tryz.ntmps51
  go_wp2
  go_ret
  exact ⟨rfl, rfl⟩

set_option maxHeartbeats 400000 in
theorem takes_spoilt (w : World) (p : Nat) (f : Bool) (hc : w.cell? ⟨p, 2, none⟩ = some (.bool true)) : Calls Tryz.prog 51 #[.pointer (some ⟨p, 0, none⟩), .bool f] w fun e w' => e = .returned (.bool false) ∧ w = w' := by
  go_enter Tryz.func51, Tryz.ntmps51
  go_wp2
  go_ret
  exact ⟨rfl, rfl⟩

set_option maxHeartbeats 400000 in
theorem takes_true (w : World) (p : Nat) (hc : w.cell? ⟨p, 2, none⟩ = some (.bool false)) : Calls Tryz.prog 51 #[.pointer (some ⟨p, 0, none⟩), .bool true] w fun e w' => e = .returned (.bool true) ∧ w = w' := by
  go_enter Tryz.func51, Tryz.ntmps51
  go_wp2
  go_ret
  exact ⟨rfl, rfl⟩

theorem size27 : (Tryz.prog.info? 79).map (·.size) = some 3 := by kernel_rfl
set_option maxHeartbeats 400000 in
theorem takes_false (w : World) (p : Nat) (x y : Value) (hp : w.heap[p]? = some (.cells #[x, y, .bool false] 79 (0, 0))) : Calls Tryz.prog 51 #[.pointer (some ⟨p, 0, none⟩), .bool false] w fun e w' => e = .returned (.bool false) ∧ w' = w.setRow p #[.pointer none, .int .i64 0, .bool true] := by
  have hc : w.cell? ⟨p, 2, none⟩ = some (.bool false) := by simp [World.cell?, hp]
  have HP := Lib.hid hp
  have HS := Lib.hid size27
  go_enter Tryz.func51, Tryz.ntmps51
  go_wp2_with (refine wpList_store_row rfl 79 (.tmp 17) (.tmp 16) rfl p #[.pointer none, .int .i64 0, .bool true] rfl rfl 79 #[x, y, .bool false] HP.out HS.out rfl (by simp [Value.oneCell']) ?_)
  go_ret
  exact ⟨rfl, rfl⟩

theorem info5 : (Tryz.prog.info? 5).map (fun i => (i.zero, i.size, i.bytes)) = some (some (.int .u8 0), 1, 1) := by kernel_rfl
def vals (l : List Nat) : List Value := l.map fun x => Value.int .u8 (x : Nat)
theorem vals_append (l m : List Nat) : vals (l ++ m) = vals l ++ vals m := by simp [vals]
theorem vals_length (l : List Nat) : (vals l).length = l.length := by simp [vals]
theorem vals_one (l : List Nat) : ∀ u ∈ vals l, u.oneCell' = true := by
  intro v hv
  obtain ⟨x, _, rfl⟩ := List.mem_map.1 hv
  rfl
theorem add_none (b o j : Nat) : (Addr.mk b o none).add j = ⟨b, o + j, none⟩ := by unfold Addr.add; split <;> simp_all
/-- The cells of bytes. -/
theorem Bytes.cells {w : World} {A : Option Addr} {n : Nat} {l : List Nat} (h : Bytes w A n l) (hn : 0 < n) : ∃ ad, A = some ad ∧ ∀ j v, (vals l)[j]? = some v → w.cell? (ad.add j) = some v := by
  obtain ⟨b, o, rfl, hc⟩ := h.2.2 hn
  refine ⟨_, rfl, fun j v hv => ?_⟩
  have hj : j < l.length := by
    have := (List.getElem?_eq_some_iff.1 hv).1
    simpa [vals] using this
  rw [add_none, hc j (by have := h.1; omega), ← hv]
  simp [vals, List.getD, hj]
theorem Bytes.lt {w : World} {A : Option Addr} {n : Nat} {l : List Nat} (h : Bytes w A n l) : ∀ ad, A = some ad → 0 < n → ad.block < w.heap.size := by
  rintro ad rfl hn
  obtain ⟨b, o, e, hc⟩ := h.2.2 hn
  cases e
  exact block_lt_of_cell (hc 0 hn)
/-- Bytes stay, where their block does. -/
theorem Bytes.kept {w w' : World} {A : Option Addr} {n : Nat} {l : List Nat} (h : Bytes w A n l) (hA : ∀ ad, A = some ad → 0 < n → w'.heap[ad.block]? = w.heap[ad.block]?) : Bytes w' A n l := by
  obtain ⟨h1, h2, h3⟩ := h
  refine ⟨h1, h2, fun hn => ?_⟩
  obtain ⟨b, o, rfl, hc⟩ := h3 hn
  refine ⟨b, o, rfl, fun i hi => ?_⟩
  have hk : w'.heap[b]? = w.heap[b]? := hA ⟨b, o, none⟩ rfl hn
  rw [← hc i hi]
  simp [World.cell?, hk]
theorem Bytes.below {w w' : World} {A : Option Addr} {n B : Nat} {l : List Nat} (h : Bytes w A n l) (hA : ∀ ad, A = some ad → 0 < n → ad.block < B) (hb : Below B w w') : Bytes w' A n l :=
  h.kept fun ad e hn => hb.block _ (hA ad e hn)
theorem Bytes.alloc {w : World} {A : Option Addr} {n : Nat} {l : List Nat} (h : Bytes w A n l) (o : Obj) : Bytes (w.alloc o) A n l :=
  h.kept fun ad e hn => heap_alloc_old w o (h.lt ad e hn)
theorem Bytes.drewN {w : World} {A : Option Addr} {n : Nat} {l : List Nat} (h : Bytes w A n l) (q : Nat) : Bytes (w.drewN q) A n l :=
  h.kept fun ad e hn => rfl

/-- Bytes copied into a row that was made for them. -/
theorem wpList_copied {w : World} {ops : Array Oper} {rest : List Oper} {o : Oper} {a : Act} {Q : Exit → Act → World → Prop} (hgd : o.guard = none) (d s : Operand)
    (ho : o.op = .call { callee := .builtin .copy, args := #[d, s], argTypes := #[22, 22] }) (A : Option Addr) (n c : Nat) (l : List Nat) (h : Bytes w A n l)
    (hd : a.eval d = .slice (some ⟨w.heap.size, 0, none⟩) n n) (hs : a.eval s = .slice A n c)
    (hK : wpList Tryz.prog ops Q rest (a.put o.dst (goInt n)) (w.alloc (.cells (vals l).toArray 5))) : wpList Tryz.prog ops Q (o :: rest) a (w.alloc (.cells (madeCells #[Value.int .u8 0] n) 5)) := by
  have hl := h.1
  rcases Nat.eq_zero_or_pos n with h0 | h0
  · subst h0
    obtain rfl : l = [] := List.eq_nil_of_length_eq_zero hl
    refine wpList_copy_nothing hgd d s 22 22 ho 5 Tryz.underlying22 (by kernel_rfl) _ _ _ _ _ _ hd hs (by simp) ?_
    have e : madeCells #[Value.int .u8 0] 0 = (vals []).toArray := by simp [madeCells, vals]
    rw [e]
    exact hK
  · obtain ⟨ad, rfl, hc⟩ := h.cells h0
    have hsz : (madeCells #[Value.int .u8 0] n).size = n := by simp [madeCells]
    refine wpList_copy_own hgd d s 22 22 ho 5 Tryz.underlying22 (by kernel_rfl) w.heap.size 0 n n ad n c hd hs (madeCells #[Value.int .u8 0] n) 5 (heap_alloc_new w _) (vals l) (by simp [vals, hl]) ?_ (by simp [vals, hl, hsz]) (vals_one l) ?_
    · intro j v hv
      have := hc j v hv
      have hb : (ad.add j).block < w.heap.size := World.block_lt_of_cell? w _ this
      rw [World.cell?_of_block (w := w) (heap_alloc_old w _ hb)]
      exact this
    · have e : ((madeCells #[Value.int .u8 0] n).toList.take 0 ++ (vals l ++ (madeCells #[Value.int .u8 0] n).toList.drop (0 + (vals l).length))).toArray = (vals l).toArray := by
        rw [List.take_zero, List.nil_append, Nat.zero_add, List.drop_eq_nil_of_le (by simp [vals, hl, hsz]), List.append_nil]
      rw [e, World.setRow_alloc_new, vals_length, hl]
      exact hK

set_option maxHeartbeats 400000 in
theorem copied_any (w : World) (A : Option Addr) (n c : Nat) (l : List Nat) (h : Bytes w A n l) (hn : n ≤ 10000000) :
    Calls Tryz.prog 67 #[.slice A n c] w fun e w' => e = .returned (.slice (some ⟨w.heap.size, 0, none⟩) n n) ∧ w' = w.alloc (.cells (vals l).toArray 5) := by
  have hmk := run_make_row' (P := Tryz.prog) 22 5 (.int .u8 0) 1 Tryz.underlying22 info5 rfl .i64 .i64 n (by omega) (by omega)
  have HB := Lib.hid h
  clear h
  go_enter Tryz.func67, Tryz.ntmps67
  go_wp2_with (refine wpList_copied rfl (.tmp 7) (.tmp 8) rfl A n c l HB.out rfl rfl ?_)
  go_ret
  exact ⟨rfl, rfl⟩

theorem written_empty (w : World) (p : Nat) (hc : w.cell? ⟨p, 0, none⟩ = some (.pointer none)) : Calls Tryz.prog 84 #[.pointer (some ⟨p, 0, none⟩)] w fun e w' => e = .returned (.slice none 0 0) ∧ w = w' := by
  go_enter Tryz.func84, Tryz.ntmps84
  go_wp2
  go_ret
  exact ⟨rfl, rfl⟩

theorem written_full (w : World) (p s n c : Nat) (A : Option Addr) (hc : w.cell? ⟨p, 0, none⟩ = some (.pointer (some ⟨s, 0, none⟩))) (hn : w.cell? ⟨p, 0 + 1, none⟩ = some (.int .i64 n)) (hs : w.cell? ⟨s, 0, none⟩ = some (.slice A n c)) (hnc : n ≤ c) :
    Calls Tryz.prog 84 #[.pointer (some ⟨p, 0, none⟩)] w fun e w' => e = .returned (.slice A n c) ∧ ∃ q, w' = w.drewN q := by
  go_enter Tryz.func84, Tryz.ntmps84
  go_wp2
  go_quiet (fail)
  go_wp2
  go_ret
  exact ⟨rfl, _, rfl⟩


/-- Only these blocks may have changed. -/
def Touch (F : Nat → Prop) (w w' : World) : Prop := w'.os = w.os ∧ w'.tape = w.tape ∧ w'.output = w.output ∧ w.heap.size ≤ w'.heap.size ∧ ∀ k, k < w.heap.size → ¬ F k → w'.heap[k]? = w.heap[k]?
theorem Touch.trans {F : Nat → Prop} {a b c : World} (h : Touch F a b) (k : Touch (fun i => F i ∨ a.heap.size ≤ i) b c) : Touch F a c :=
  ⟨k.1.trans h.1, k.2.1.trans h.2.1, k.2.2.1.trans h.2.2.1, Nat.le_trans h.2.2.2.1 k.2.2.2.1, fun i hi hF => (k.2.2.2.2 i (Nat.lt_of_lt_of_le hi h.2.2.2.1) (fun hh => by rcases hh with h | h; exact hF h; omega)).trans (h.2.2.2.2 i hi hF)⟩
theorem Touch.mono {F G : Nat → Prop} {a b : World} (h : Touch F a b) (k : ∀ i, i < a.heap.size → F i → G i) : Touch G a b :=
  ⟨h.1, h.2.1, h.2.2.1, h.2.2.2.1, fun i hi hG => h.2.2.2.2 i hi (fun hF => hG (k i hi hF))⟩
theorem Touch.refl (F : Nat → Prop) (w : World) : Touch F w w := ⟨rfl, rfl, rfl, Nat.le_refl _, fun _ _ _ => rfl⟩
theorem Touch.alloc {F : Nat → Prop} {a b : World} (h : Touch F a b) (o : Obj) : Touch F a (b.alloc o) :=
  ⟨h.1, h.2.1, h.2.2.1, by have := h.2.2.2.1; simp; omega, fun i hi hF => (heap_alloc_old b o (Nat.lt_of_lt_of_le hi h.2.2.2.1)).trans (h.2.2.2.2 i hi hF)⟩
theorem Touch.drewN {F : Nat → Prop} {a b : World} (h : Touch F a b) (q : Nat) : Touch F a (b.drewN q) := h
theorem Touch.setCell {F : Nat → Prop} {a b : World} (h : Touch F a b) (ad : Addr) (hF : a.heap.size ≤ ad.block ∨ F ad.block) (v : Value) : Touch F a (b.setCell ad v) :=
  ⟨h.1, h.2.1, h.2.2.1, by have := h.2.2.2.1; simp; omega, fun i hi hi' => (heap_setCell_other _ _ _ _ (fun e => by subst e; rcases hF with h | h; omega; exact hi' h)).trans (h.2.2.2.2 i hi hi')⟩
theorem Touch.below {F : Nat → Prop} {a b c : World} (h : Touch F a b) (hb : Below b.heap.size b c) : Touch F a c :=
  h.trans ⟨hb.os, hb.tape, hb.output, hb.size, fun k hk _ => hb.block k hk⟩
theorem Touch.toBelow {F : Nat → Prop} {a b : World} (h : Touch F a b) (B : Nat) (hB : B ≤ a.heap.size) (hF : ∀ i, i < B → ¬ F i) : Below B a b := ⟨h.1, h.2.1, h.2.2.1, h.2.2.2.1, fun i hi => h.2.2.2.2 i (by omega) (hF i hi)⟩
theorem Bytes.touch {F : Nat → Prop} {w w' : World} {A : Option Addr} {n : Nat} {l : List Nat} (h : Bytes w A n l) (hA : ∀ ad, A = some ad → 0 < n → ¬ F ad.block) (hb : Touch F w w') : Bytes w' A n l :=
  h.kept fun ad e hn => hb.2.2.2.2 _ (h.lt ad e hn) (hA ad e hn)

/-- An Out that has a sheet, and these bytes. -/
def Full (w : World) (p s g cap : Nat) (l : List Nat) : Prop :=
  w.heap[p]? = some (.cells #[.pointer (some ⟨s, 0, none⟩), .int .i64 (l.length : Nat), .bool false] 79 (0, 0)) ∧
  w.heap[s]? = some (.cells #[.slice (some ⟨g, 0, none⟩) l.length cap] 163 (0, 0)) ∧
  w.ownsRow 0 5 1 (.slice (some ⟨g, 0, none⟩) l.length cap) l.length (vals l) ∧ p ≠ s ∧ p ≠ g ∧ s ≠ g ∧ ∀ b ∈ l, b < 256
theorem Full.facts {w : World} {p s g cap : Nat} {l : List Nat} (h : Full w p s g cap l) :
    w.cell? ⟨p, 0, none⟩ = some (.pointer (some ⟨s, 0, none⟩)) ∧ w.cell? ⟨p, 0 + 1, none⟩ = some (.int .i64 (l.length : Nat)) ∧ w.cell? ⟨p, 2, none⟩ = some (.bool false) ∧ w.cell? ⟨s, 0, none⟩ = some (.slice (some ⟨g, 0, none⟩) l.length cap) ∧
    w.frozen? ⟨p, 0, none⟩ = false ∧ w.frozen? ⟨p, 0 + 1, none⟩ = false ∧ w.frozen? ⟨s, 0, none⟩ = false ∧ p < w.heap.size ∧ s < w.heap.size ∧ g < w.heap.size ∧ l.length ≤ cap := by
  obtain ⟨h1, h2, h3, h4⟩ := h
  refine ⟨by simp [World.cell?, h1], by simp [World.cell?, h1], by simp [World.cell?, h1], by simp [World.cell?, h2], by simp [World.frozen?, h1], by simp [World.frozen?, h1], by simp [World.frozen?, h2], (Array.getElem?_eq_some_iff.1 h1).1, (Array.getElem?_eq_some_iff.1 h2).1, (h3.lt g rfl).2, ?_⟩
  rcases h3.2 with ⟨e, _⟩ | ⟨g, cap, cur, e, _, _, hc, _⟩
  · cases e
  · cases e
    exact hc
/-- Bytes, nil or not, put behind bytes of one's own. -/
theorem run_append_bytes (w : World) (ty : TypeId) (base : Nat) (v : Value) (M : List Nat) (hown : w.ownsRow base 5 1 v M.length (vals M)) (hbase : base ≤ w.heap.size)
    (A : Option Addr) (m c : Nat) (L : List Nat) (hB : Bytes w A m L) (hnil : A = none → c = 0) (hbound : M.length + m ≤ 1000000000) :
    ∃ v' w', (Builtin.append_ #[22, 22] ty #[v, .slice A m c]).run Tryz.prog w = .ok v' w' ∧ w'.ownsRow base 5 1 v' (M ++ L).length (vals (M ++ L)) ∧ w.grownBy w' v.ownBlock ∧ (v' = .slice none 0 0 ↔ v = .slice none 0 0 ∧ m = 0) ∧ (v'.ownBlock = v.ownBlock ∨ v'.ownBlock = some w.heap.size) := by
  obtain ⟨i0, hi, hz0, hz1, hz2⟩ := info_parts info5
  have hl := hB.1
  cases A with
  | none =>
    have hm : m = 0 := by
      rcases Nat.eq_zero_or_pos m with h0 | h0
      · exact h0
      · obtain ⟨b, o', e, _⟩ := hB.2.2 h0
        cases e
    have hc := hnil rfl
    subst hm hc
    obtain rfl : L = [] := List.eq_nil_of_length_eq_zero hl
    refine ⟨v, w, ?_, by simpa using hown, World.grownBy.refl w _, by simp, .inl rfl⟩
    rcases hown.2 with ⟨rfl, h0⟩ | ⟨g, cap, cur, rfl, _, hg, hnc, _⟩
    · simp [Builtin.append_, run_underlying Tryz.underlying22, sizeOf, typeInfo, hi, Builtin.lenOf, Builtin.firstCells, loadCells, loadCellsFrom]
    · simp [Builtin.append_, run_underlying Tryz.underlying22, sizeOf, typeInfo, hi, Builtin.lenOf, Builtin.firstCells, hnc, storeCells, loadCells, loadCellsFrom]
  | some ad =>
    obtain ⟨v', w', hr, h1, h2, h3, h4⟩ := run_append_own_at (P := Tryz.prog) w base 22 ty 5 i0 (.int .u8 0) 1 1 Tryz.underlying22 hi hz0 hz1 hz2 rfl (by decide) v M.length (vals M) hown ad m c (vals L) (by simp [vals, hl]) (fun j u hu => by
      have hj : j < L.length := by
        have := (List.getElem?_eq_some_iff.1 hu).1
        simpa [vals] using this
      obtain ⟨b, o', e, hc⟩ := hB.2.2 (by omega)
      cases e
      rw [add_none, hc j (by omega), ← hu]
      simp [vals, List.getD, hj]) (vals_one L) (by unfold maxLen; omega) (by omega) hbase
    refine ⟨v', w', hr, ?_, h2, h3, h4⟩
    rw [List.length_append, hl, vals_append]
    exact h1
theorem wp_append_bytes {o : Oper} {a : Act} {w : World} {K : Act → World → Prop} {Q : Exit → Act → World → Prop} (s x : Operand)
    (ho : o.op = .call { callee := .builtin .append, args := #[s, x], argTypes := #[22, 22] })
    (base : Nat) (v : Value) (M : List Nat) (hs : a.eval s = v) (hown : w.ownsRow base 5 1 v M.length (vals M)) (hbase : base ≤ w.heap.size)
    (A : Option Addr) (m c : Nat) (L : List Nat) (hx : a.eval x = .slice A m c) (hB : Bytes w A m L) (hnil : A = none → c = 0) (hbound : M.length + m ≤ 1000000000)
    (h : ∀ v' w', w'.ownsRow base 5 1 v' (M ++ L).length (vals (M ++ L)) → w.grownBy w' v.ownBlock → (v' = .slice none 0 0 ↔ v = .slice none 0 0 ∧ m = 0) → (v'.ownBlock = v.ownBlock ∨ v'.ownBlock = some w.heap.size) → K (a.put o.dst v') w') : o.wp Tryz.prog a w K Q := by
  obtain ⟨v', w', hr, h1, h2, h3, h4⟩ := run_append_bytes w o.type base v M hown hbase A m c L hB hnil hbound
  unfold Oper.wp execOp
  simp only [ho, resolve, invoke, builtin, Sem.run_bind, Sem.run_pure, Result.andThen_ok, List.map_toArray, List.map_cons, List.map_nil, hs, hx, hr]
  exact h v' w' h1 h2 h3 h4
theorem wpList_append_bytes {ops : Array Oper} {rest : List Oper} {o : Oper} {a : Act} {w : World} {Q : Exit → Act → World → Prop} (hgd : o.guard = none) (s x : Operand)
    (ho : o.op = .call { callee := .builtin .append, args := #[s, x], argTypes := #[22, 22] })
    (base : Nat) (v : Value) (M : List Nat) (hs : a.eval s = v) (hown : w.ownsRow base 5 1 v M.length (vals M)) (hbase : base ≤ w.heap.size)
    (A : Option Addr) (m c : Nat) (L : List Nat) (hx : a.eval x = .slice A m c) (hB : Bytes w A m L) (hnil : A = none → c = 0) (hbound : M.length + m ≤ 1000000000)
    (h : ∀ v' w', w'.ownsRow base 5 1 v' (M ++ L).length (vals (M ++ L)) → w.grownBy w' v.ownBlock → (v' = .slice none 0 0 ↔ v = .slice none 0 0 ∧ m = 0) → (v'.ownBlock = v.ownBlock ∨ v'.ownBlock = some w.heap.size) → wpList Tryz.prog ops Q rest (a.put o.dst v') w') : wpList Tryz.prog ops Q (o :: rest) a w :=
  wpList_plain hgd fun _ hK => wp_append_bytes s x ho base v M hs hown hbase A m c L hx hB hnil hbound fun v' w' h1 h2 h3 h4 => hK _ _ (h v' w' h1 h2 h3 h4)
theorem step_append_bytes {ops : Array Oper} {o : Oper} {a : Act} {w : World} {K : Act → World → Prop} {Q : Exit → Act → World → Prop} {E : Prop} (hgd : o.guard = none) (s x : Operand)
    (ho : o.op = .call { callee := .builtin .append, args := #[s, x], argTypes := #[22, 22] })
    (base : Nat) (v : Value) (M : List Nat) (hs : a.eval s = v) (hown : w.ownsRow base 5 1 v M.length (vals M)) (hbase : base ≤ w.heap.size)
    (A : Option Addr) (m c : Nat) (L : List Nat) (hx : a.eval x = .slice A m c) (hB : Bytes w A m L) (hnil : A = none → c = 0) (hbound : M.length + m ≤ 1000000000)
    (h : ∀ v' w', w'.ownsRow base 5 1 v' (M ++ L).length (vals (M ++ L)) → w.grownBy w' v.ownBlock → (v' = .slice none 0 0 ↔ v = .slice none 0 0 ∧ m = 0) → (v'.ownBlock = v.ownBlock ∨ v'.ownBlock = some w.heap.size) → K (a.put o.dst v') w') :
    if Region.wanted o (yielded ops a.tmps) = true then Oper.wp Tryz.prog o a w K Q else E := by
  have hw : Region.wanted o (yielded ops a.tmps) = true := by simp [Region.wanted, hgd]
  rw [if_pos hw]
  exact wp_append_bytes s x ho base v M hs hown hbase A m c L hx hB hnil hbound h

/-- What an append behind the bytes of an Out leaves. -/
theorem Full.grow {w w1 : World} {p s g cap : Nat} {l m : List Nat} {v' : Value} {n : Nat} (h : Full w p s g cap l) (ho : w1.ownsRow 0 5 1 v' (l ++ m).length (vals (l ++ m))) (hg : w.grownBy w1 (some g))
    (hn : v' = .slice none 0 0 ↔ Value.slice (some ⟨g, 0, none⟩) l.length cap = .slice none 0 0 ∧ n = 0) (hat : v'.ownBlock = some g ∨ v'.ownBlock = some w.heap.size) :
    ∃ g' cap', v' = .slice (some ⟨g', 0, none⟩) (l ++ m).length cap' ∧ (g' = g ∨ g' = w.heap.size) ∧
    w1.heap[p]? = some (.cells #[.pointer (some ⟨s, 0, none⟩), .int .i64 (l.length : Nat), .bool false] 79 (0, 0)) ∧ w1.heap[s]? = some (.cells #[.slice (some ⟨g, 0, none⟩) l.length cap] 163 (0, 0)) := by
  obtain ⟨_, _, _, _, _, _, _, hlp, hls, hlg, _⟩ := h.facts
  obtain ⟨h1, h2, h3, h4, h5, h6, _⟩ := h
  rcases ho.2 with ⟨e, _⟩ | ⟨g', cap', cur, e, _⟩
  · exact absurd (hn.1 e).1 (by simp)
  · subst e
    refine ⟨g', cap', rfl, ?_, ?_, ?_⟩
    · simpa [Value.ownBlock] using hat
    · rw [hg.block p hlp (by simpa using h5)]; exact h1
    · rw [hg.block s hls (by simpa using h6)]; exact h2

theorem own_facts {w : World} {p s : Nat} {x y z v : Value} (h1 : w.heap[p]? = some (.cells #[x, y, z] 79 (0, 0))) (h2 : w.heap[s]? = some (.cells #[v] 163 (0, 0))) :
    w.cell? ⟨p, 0, none⟩ = some x ∧ w.cell? ⟨p, 0 + 1, none⟩ = some y ∧ w.cell? ⟨s, 0, none⟩ = some v ∧ w.frozen? ⟨p, 0, none⟩ = false ∧ w.frozen? ⟨p, 0 + 1, none⟩ = false ∧ w.frozen? ⟨s, 0, none⟩ = false :=
  ⟨by simp [World.cell?, h1], by simp [World.cell?, h1], by simp [World.cell?, h2], by simp [World.frozen?, h1], by simp [World.frozen?, h1], by simp [World.frozen?, h2]⟩
theorem put_end {w w1 : World} {p s g g' cap cap' : Nat} {l m : List Nat} (h : Full w p s g cap l) (ho : w1.ownsRow 0 5 1 (.slice (some ⟨g', 0, none⟩) (l ++ m).length cap') (l ++ m).length (vals (l ++ m))) (hg : w.grownBy w1 (some g))
    (hT : w1.heap[p]? = some (.cells #[.pointer (some ⟨s, 0, none⟩), .int .i64 (l.length : Nat), .bool false] 79 (0, 0)) ∧ w1.heap[s]? = some (.cells #[.slice (some ⟨g, 0, none⟩) l.length cap] 163 (0, 0))) (hG : g' = g ∨ g' = w.heap.size) (hm : ∀ b ∈ m, b < 256) :
    Full ((w1.setCell ⟨s, 0, none⟩ (.slice (some ⟨g', 0, none⟩) (l.length + m.length) cap')).setCell ⟨p, 1, none⟩ (.int .i64 ((l.length : Int) + (m.length : Int)))) p s g' cap' (l ++ m) ∧
    Touch (fun i => i = p ∨ i = s ∨ i = g) w ((w1.setCell ⟨s, 0, none⟩ (.slice (some ⟨g', 0, none⟩) (l.length + m.length) cap')).setCell ⟨p, 1, none⟩ (.int .i64 ((l.length : Int) + (m.length : Int)))) ∧ (g' = g ∨ w.heap.size ≤ g') := by
  obtain ⟨_, _, _, _, _, _, _, hlp, hls, hlg, _⟩ := h.facts
  obtain ⟨h1, h2, h3, h4, h5, h6, h7⟩ := h
  have hp' : p ≠ g' := by rcases hG with rfl | rfl; exact h5; omega
  have hs' : s ≠ g' := by rcases hG with rfl | rfl; exact h6; omega
  have hlen : ((l ++ m).length : Int) = (l.length : Int) + (m.length : Int) := by simp
  refine ⟨⟨?_, ?_, ?_, h4, hp', hs', ?_⟩, ?_, ?_⟩
  · rw [heap_setCell_same _ p 1 #[.pointer (some ⟨s, 0, none⟩), .int .i64 (l.length : Nat), .bool false] 79 _ (by rw [heap_setCell_other _ _ _ _ h4]; exact hT.1)]
    simp
  · rw [heap_setCell_other _ _ _ _ (Ne.symm h4), heap_setCell_same _ s 0 _ 163 _ hT.2]
    simp
  · have hk1 : w1.grownBy (w1.setCell ⟨s, 0, none⟩ (.slice (some ⟨g', 0, none⟩) (l.length + m.length) cap')) (some s) := ⟨rfl, rfl, rfl, by simp, fun k _ hk => heap_setCell_other _ _ _ _ (by simpa using hk)⟩
    have hk2 : (w1.setCell ⟨s, 0, none⟩ (.slice (some ⟨g', 0, none⟩) (l.length + m.length) cap')).grownBy ((w1.setCell ⟨s, 0, none⟩ (.slice (some ⟨g', 0, none⟩) (l.length + m.length) cap')).setCell ⟨p, 1, none⟩ (.int .i64 ((l.length : Int) + (m.length : Int)))) (some p) := ⟨rfl, rfl, rfl, by simp, fun k _ hk => heap_setCell_other _ _ _ _ (by simpa using hk)⟩
    exact (ho.kept hk1 (by right; simpa [Value.ownBlock] using Ne.symm hs')).kept hk2 (by right; simpa [Value.ownBlock] using Ne.symm hp')
  · intro b hb
    rcases List.mem_append.1 hb with h | h
    · exact h7 b h
    · exact hm b h
  · have ht : Touch (fun i => i = p ∨ i = s ∨ i = g) w w1 := ⟨hg.os, hg.tape, hg.output, hg.size, fun k hk hn => hg.block k hk (fun e => hn (.inr (.inr (Option.some.inj e))))⟩
    exact (ht.setCell ⟨s, 0, none⟩ (.inr (.inr (.inl rfl))) _).setCell ⟨p, 1, none⟩ (.inr (.inl rfl)) _
  · rcases hG with h | h
    · exact .inl h
    · exact .inr (by omega)
end Go.Proofs.YtklmbiekpilkhaaGreatDoor.codec
namespace Go.Proofs.YtklmbiekpilkhaaGreatDoor.codec
open Go.ChangeShapes Go.WideShapes Go.ChangeAt Go.RowKit
set_option linter.unusedVariables false
set_option maxRecDepth 100000
set_option linter.unusedSimpArgs false

set_option maxHeartbeats 1000000 in
theorem put_full (w : World) (p s g cap : Nat) (l : List Nat) (A : Option Addr) (n c : Nat) (m : List Nat) (h : Full w p s g cap l) (hB : Bytes w A n m) (hn : l.length + n ≤ 10000000) (hA : A = none → c = 0) :
    Calls Tryz.prog 52 #[.pointer (some ⟨p, 0, none⟩), .slice A n c] w fun e w' => e = .returned (.tuple #[]) ∧ ∃ g' cap', Full w' p s g' cap' (l ++ m) ∧ Touch (fun i => i = p ∨ i = s ∨ i = g) w w' ∧ (g' = g ∨ w.heap.size ≤ g') := by
  obtain ⟨hc0, hc1, _, hs0, hf0, hf1, hfs, hlp, hls, hlg, hcap⟩ := h.facts
  have hps := h.2.2.2.1
  have HF := Lib.hid h
  have HB := Lib.hid hB
  have HN := Lib.hid hA
  obtain ⟨k, hk⟩ : ∃ k, k = l.length := ⟨_, rfl⟩
  have HK := Lib.hid hk
  rw [← hk] at hc1 hs0 hcap hn
  clear h hB hk hA
  go_enter Tryz.func52, Tryz.ntmps52
  go_wp2
  go_quiet (fail)
  go_wp2
  go_region_law (refine step_append_bytes rfl (.tmp 42) (.tmp 43) rfl 0 (.slice (some ⟨g, 0, none⟩) k cap) l (by simp [Act.eval, Act.put]) (by rw [HK.out]; exact HF.out.2.2.1) (Nat.zero_le _) A n c m (by simp [Act.eval, Act.put]) (HB.out.drewN _) HN.out (by rw [← HK.out]; omega) ?_; intro v' w1 ho hg hnn hat; obtain ⟨g', cap', rfl, hG, hP1, hS1⟩ := Full.grow (n := n) HF.out ho ⟨hg.os, hg.tape, hg.output, hg.size, hg.block⟩ (by rw [← HK.out]; exact hnn) (by simpa [Value.ownBlock] using hat); obtain ⟨d0, d1, d2, e0, e1, e2⟩ := own_facts hP1 hS1; have HO := Lib.hid ho; have HG := Lib.hid hg; have HT := Lib.hid (And.intro hP1 hS1); clear ho hg hnn hat hP1 hS1)
  all_goals go_wp2
  all_goals
    go_end0
    refine ⟨rfl, g', cap', ?_⟩
  all_goals
    have hgr : w.grownBy w1 (some g) := ⟨HG.out.os, HG.out.tape, HG.out.output, HG.out.size, HG.out.block⟩
    exact put_end HF.out HO.out hgr HT.out hG HB.out.2.1

/-- An Out that has nothing yet. -/
def Fresh (w : World) (p : Nat) : Prop := w.heap[p]? = some (.cells #[.pointer none, .int .i64 0, .bool false] 79 (0, 0))
theorem fresh_full {w : World} {p : Nat} (h : Fresh w p) : ∀ w1, w1 = (((w.setCell ⟨p, 0, none⟩ (.pointer (some ⟨w.heap.size + 1, 0, none⟩))).alloc (.cells (vals []).toArray 5)).alloc (.cells #[.slice (some ⟨w.heap.size, 0, none⟩) 0 0] 163)) → Full w1 p (w.heap.size + 1) w.heap.size 0 [] ∧ Touch (fun i => i = p) w w1 ∧ w1.heap.size = w.heap.size + 2 := by
  have hlt : p < w.heap.size := (Array.getElem?_eq_some_iff.1 h).1
  rintro w1 rfl
  have hs : (w.setCell ⟨p, 0, none⟩ (.pointer (some ⟨w.heap.size + 1, 0, none⟩))).heap.size = w.heap.size := by simp
  have h0 : (w.setCell ⟨p, 0, none⟩ (.pointer (some ⟨w.heap.size + 1, 0, none⟩))).heap[p]? = some (.cells #[.pointer (some ⟨w.heap.size + 1, 0, none⟩), .int .i64 0, .bool false] 79 (0, 0)) := by
    rw [heap_setCell_same _ p 0 _ 79 _ h]
    simp
  have ht := (Touch.refl (fun i => i = p) w).setCell ⟨p, 0, none⟩ (.inr rfl) (.pointer (some ⟨w.heap.size + 1, 0, none⟩))
  generalize w.setCell ⟨p, 0, none⟩ (.pointer (some ⟨w.heap.size + 1, 0, none⟩)) = v at *
  have h2 : ((v.alloc (.cells (vals []).toArray 5)).alloc (.cells #[.slice (some ⟨w.heap.size, 0, none⟩) 0 0] 163)).heap[w.heap.size]? = some (.cells (vals []).toArray 5 (0, 0)) := by
    rw [heap_alloc_old _ _ (by simp [hs]), ← hs]
    exact heap_alloc_new v _
  have h3 : ((v.alloc (.cells (vals []).toArray 5)).alloc (.cells #[.slice (some ⟨w.heap.size, 0, none⟩) 0 0] 163)).heap[w.heap.size + 1]? = some (.cells #[.slice (some ⟨w.heap.size, 0, none⟩) 0 0] 163 (0, 0)) := by
    have := heap_alloc_new (v.alloc (.cells (vals []).toArray 5)) (.cells #[.slice (some ⟨w.heap.size, 0, none⟩) 0 0] 163)
    simpa [hs] using this
  refine ⟨⟨?_, ?_, ?_, by omega, by omega, by omega, by simp⟩, ?_, by simp [hs]⟩
  · rw [heap_alloc_old _ _ (by simp [hs]; omega), heap_alloc_old _ _ (by simp [hs]; omega)]
    exact h0
  · exact h3
  · exact ⟨by simp [vals], .inr ⟨w.heap.size, 0, (vals []).toArray, rfl, Nat.zero_le _, h2, Nat.le_refl _, Nat.zero_le _, by simp [vals], by simp [vals]⟩⟩
  · exact (ht.alloc _).alloc _

theorem forget {P : Program} {c : Code} {a : Act} {w : World} {Q : Exit → Act → World → Prop} (R : World → Prop) (hR : R w) (h : ∀ w1, R w1 → Code.wp P c Q a w1) : Code.wp P c Q a w := h w hR

set_option maxHeartbeats 1000000 in
theorem put_fresh (w : World) (p : Nat) (A : Option Addr) (n c : Nat) (m : List Nat) (h : Fresh w p) (hB : Bytes w A n m) (hn : n ≤ 10000000) (hA : A = none → c = 0) (hAp : ∀ ad, A = some ad → 0 < n → ad.block ≠ p) :
    Calls Tryz.prog 52 #[.pointer (some ⟨p, 0, none⟩), .slice A n c] w fun e w' => e = .returned (.tuple #[]) ∧ ∃ s g' cap', Full w' p s g' cap' m ∧ Touch (fun i => i = p) w w' ∧ w.heap.size ≤ s ∧ w.heap.size ≤ g' := by
  have hc0 : w.cell? ⟨p, 0, none⟩ = some (.pointer none) := by simp [World.cell?, show w.heap[p]? = _ from h]
  have hf : w.frozen? ⟨p, 0, none⟩ = false := by simp [World.frozen?, show w.heap[p]? = _ from h]
  have hlt : p < w.heap.size := (Array.getElem?_eq_some_iff.1 h).1
  have HB := Lib.hid hB
  have HN := Lib.hid hA
  have HA := Lib.hid hAp
  have HF := Lib.hid h
  clear hB hA h hAp
  go_enter Tryz.func52, Tryz.ntmps52
  go_wp2
  go_quiet (fail)
  have d0 : (w.drewN nq).cell? ⟨p, 0, none⟩ = some (.pointer none) := hc0
  have d1 : (w.drewN nq).frozen? ⟨p, 0, none⟩ = false := hf
  have d2 : p < (w.drewN nq).heap.size := hlt
  have HF1 : Hid (Fresh (w.drewN nq) p) := HF.out
  have HB1 := Lib.hid (HB.out.drewN nq)
  have HT0 := Lib.hid ((Touch.refl (fun i => i = p) w).drewN nq)
  have HS : Hid ((w.drewN nq).heap.size = w.heap.size) := rfl
  generalize w.drewN nq = w2 at *
  clear hc0 hf hlt HF HB
  go_wp2_with (first | (go_at_call 84; refine (written_empty _ _ (by simp [d0])).mono ?_; rintro e w1 ⟨rfl, rfl⟩) | (go_at_call 67; refine (copied_any _ none 0 0 [] ⟨rfl, by simp, fun h => absurd h (by omega)⟩ (by omega)).mono ?_; rintro e w1 ⟨rfl, rfl⟩))
  refine forget (fun w3 => Full w3 p (w2.heap.size + 1) w2.heap.size 0 [] ∧ Touch (fun i => i = p) w2 w3 ∧ w3.heap.size = w2.heap.size + 2) (fresh_full HF1.out _ rfl) ?_
  rintro w3 ⟨hF3, hT3, hs3⟩
  have HB3 := Lib.hid (HB1.out.touch HA.out hT3)
  have HT3 := Lib.hid hT3
  obtain ⟨hc0, hc1, _, hs0, hf0, hf1, hfs, hlp, hls, hlg, hcap⟩ := hF3.facts
  have HF := Lib.hid hF3
  have hps := hF3.2.2.2.1
  have HS3 := Lib.hid hs3
  clear HB1 hF3 hT3 d0 d1 d2 HF1 hs3
  simp only [List.length_nil] at hc1 hs0
  obtain ⟨S, hS⟩ : ∃ S, S = w2.heap.size + 1 := ⟨_, rfl⟩
  obtain ⟨G, hG⟩ : ∃ G, G = w2.heap.size := ⟨_, rfl⟩
  rw [← hS, ← hG] at HF
  rw [← hS] at hc0 hs0 hfs hps hls
  rw [← hG] at hs0 hlg
  have HE := Lib.hid (And.intro hS hG)
  clear hS hG
  go_region_law (refine step_append_bytes rfl (.tmp 42) (.tmp 43) rfl 0 (.slice (some ⟨G, 0, none⟩) 0 0) [] (by simp [Act.eval, Act.put]) HF.out.2.2.1 (Nat.zero_le _) A n c m (by simp [Act.eval, Act.put]) (HB3.out.drewN 1) HN.out (by simp; omega) ?_; intro v' w4 ho hg hnn hat; obtain ⟨g', cap', rfl, hG, hP1, hS1⟩ := Full.grow (n := n) HF.out ho ⟨hg.os, hg.tape, hg.output, hg.size, hg.block⟩ hnn (by simpa [Value.ownBlock] using hat); obtain ⟨d0, d1, d2, e0, e1, e2⟩ := own_facts hP1 hS1; have HO := Lib.hid ho; have HG := Lib.hid hg; have HT := Lib.hid (And.intro hP1 hS1); clear ho hg hnn hat hP1 hS1)
  all_goals go_wp2
  all_goals
    go_end0
    have hE := HE.out
    have hS0 := HS.out
    have hS3 := HS3.out
    have hgr : w3.grownBy w4 (some G) := ⟨HG.out.os, HG.out.tape, HG.out.output, HG.out.size, HG.out.block⟩
    obtain ⟨f1, f2, f3⟩ := put_end HF.out HO.out hgr HT.out hG HB3.out.2.1
    simp only [List.length_nil, Nat.zero_add, List.nil_append, Int.zero_add, Int.natCast_zero] at f1 f2
    refine ⟨rfl, S, g', cap', f1, ?_, by omega, by omega⟩
    refine HT0.out.trans ((HT3.out.trans (f2.mono fun i _ h => ?_)).mono fun i _ h => .inl h)
    rcases h with h | h | h
    · exact .inl h
    · exact .inr (by omega)
    · exact .inr (by omega)

/-- An Out that has these bytes, on these blocks. -/
def OutIs (w : World) (p : Nat) (l : List Nat) (F : List Nat) : Prop := (Fresh w p ∧ l = [] ∧ F = [p]) ∨ ∃ s g cap, Full w p s g cap l ∧ F = [p, s, g]
theorem OutIs.lt {w : World} {p : Nat} {l F : List Nat} (h : OutIs w p l F) : ∀ k ∈ F, k < w.heap.size := by
  rcases h with ⟨h, rfl, rfl⟩ | ⟨s, g, cap, h, rfl⟩
  · intro k hk
    simp at hk
    subst hk
    exact (Array.getElem?_eq_some_iff.1 h).1
  · obtain ⟨_, _, _, _, _, _, _, h1, h2, h3, _⟩ := h.facts
    intro k hk
    simp at hk
    rcases hk with rfl | rfl | rfl <;> assumption
theorem OutIs.own {w : World} {p : Nat} {l F : List Nat} (h : OutIs w p l F) : p ∈ F := by
  rcases h with ⟨h, rfl, rfl⟩ | ⟨s, g, cap, h, rfl⟩ <;> simp
theorem OutIs.kept {w w' : World} {p : Nat} {l F : List Nat} (h : OutIs w p l F) (hk : ∀ k ∈ F, w'.heap[k]? = w.heap[k]?) : OutIs w' p l F := by
  rcases h with ⟨h, rfl, rfl⟩ | ⟨s, g, cap, h, rfl⟩
  · exact .inl ⟨(hk p (by simp)).trans h, rfl, rfl⟩
  · refine .inr ⟨s, g, cap, ⟨(hk p (by simp)).trans h.1, (hk s (by simp)).trans h.2.1, ?_, h.2.2.2⟩, rfl⟩
    obtain ⟨h1, h2⟩ := h.2.2.1
    refine ⟨h1, ?_⟩
    rcases h2 with ⟨e, _⟩ | ⟨g', cap', cur, e, hb, hg, rest⟩
    · cases e
    · cases e
      exact .inr ⟨g, cap, cur, rfl, hb, (hk g (by simp)).trans hg, rest⟩
theorem OutIs.touch {G : Nat → Prop} {w w' : World} {p : Nat} {l F : List Nat} (h : OutIs w p l F) (ht : Touch G w w') (hG : ∀ k ∈ F, ¬ G k) : OutIs w' p l F :=
  h.kept fun k hk => ht.2.2.2.2 k (h.lt k hk) (hG k hk)
theorem OutIs.below {w w' : World} {p : Nat} {l F : List Nat} (h : OutIs w p l F) (hb : Below w.heap.size w w') : OutIs w' p l F :=
  h.kept fun k hk => hb.block k (h.lt k hk)
theorem OutIs.head {w : World} {p : Nat} {l F : List Nat} (h : OutIs w p l F) : ∃ x y, w.heap[p]? = some (.cells #[x, y, .bool false] 79 (0, 0)) := by
  rcases h with ⟨h, rfl, rfl⟩ | ⟨s, g, cap, h, rfl⟩
  · exact ⟨_, _, h⟩
  · exact ⟨_, _, h.1⟩
theorem OutIs.good {w : World} {p : Nat} {l F : List Nat} (h : OutIs w p l F) : w.cell? ⟨p, 2, none⟩ = some (.bool false) := by
  obtain ⟨x, y, h⟩ := h.head
  simp [World.cell?, h]
theorem OutIs.small {w : World} {p : Nat} {l F : List Nat} (h : OutIs w p l F) : ∀ b ∈ l, b < 256 := by
  rcases h with ⟨h, rfl, rfl⟩ | ⟨s, g, cap, h, rfl⟩
  · simp
  · exact h.2.2.2.2.2.2

/-- The Out has more bytes now, on its own blocks and new ones; nothing else has changed. -/
def More (w : World) (p : Nat) (l F : List Nat) (w' : World) : Prop := ∃ F', OutIs w' p l F' ∧ Touch (fun k => k ∈ F) w w' ∧ ∀ k ∈ F', k ∈ F ∨ w.heap.size ≤ k
theorem put_any (w : World) (p : Nat) (l F : List Nat) (A : Option Addr) (n c : Nat) (m : List Nat) (h : OutIs w p l F) (hB : Bytes w A n m) (hn : l.length + n ≤ 10000000) (hA : A = none → c = 0) (hAp : ∀ ad, A = some ad → 0 < n → ad.block ∉ F) :
    Calls Tryz.prog 52 #[.pointer (some ⟨p, 0, none⟩), .slice A n c] w fun e w' => e = .returned (.tuple #[]) ∧ More w p (l ++ m) F w' := by
  rcases h with ⟨h, rfl, rfl⟩ | ⟨s, g, cap, h, rfl⟩
  · refine (put_fresh w p A n c m h hB (by simp at hn; omega) hA (fun ad e h0 => by simpa using hAp ad e h0)).mono ?_
    rintro e w' ⟨rfl, s, g', cap', h1, h2, h3, h4⟩
    refine ⟨rfl, [p, s, g'], .inr ⟨s, g', cap', h1, rfl⟩, h2.mono fun i _ h => by simp [h], ?_⟩
    intro k hk
    simp at hk ⊢
    rcases hk with rfl | rfl | rfl
    · exact .inl rfl
    · exact .inr h3
    · exact .inr h4
  · refine (put_full w p s g cap l A n c m h hB hn hA).mono ?_
    rintro e w' ⟨rfl, g', cap', h1, h2, h3⟩
    refine ⟨rfl, [p, s, g'], .inr ⟨s, g', cap', h1, rfl⟩, h2.mono fun i _ h => by simpa using h, ?_⟩
    intro k hk
    simp at hk ⊢
    rcases hk with rfl | rfl | rfl
    · exact .inl (.inl rfl)
    · exact .inl (.inr (.inl rfl))
    · rcases h3 with rfl | h3
      · exact .inl (.inr (.inr rfl))
      · exact .inr h3
/-- A spoilt Out. -/
def Spoilt (w : World) (p : Nat) : Prop := w.heap[p]? = some (.cells #[.pointer none, .int .i64 0, .bool true] 79 (0, 0))
theorem Spoilt.bad {w : World} {p : Nat} (h : Spoilt w p) : w.cell? ⟨p, 2, none⟩ = some (.bool true) := by simp [World.cell?, show w.heap[p]? = _ from h]
theorem spoil {w : World} {p : Nat} {x y z : Value} (h : w.heap[p]? = some (.cells #[x, y, z] 79 (0, 0))) : Spoilt (w.setRow p #[.pointer none, .int .i64 0, .bool true]) p ∧ Touch (fun k => k = p) w (w.setRow p #[.pointer none, .int .i64 0, .bool true]) :=
  ⟨setRow_heap w p _ _ 79 _ h, rfl, rfl, rfl, by simp [World.setRow], fun k _ hk => setRow_other w p k _ hk⟩
end Go.Proofs.YtklmbiekpilkhaaGreatDoor.codec
namespace Go.Proofs.YtklmbiekpilkhaaGreatDoor.codec
open Go.ChangeShapes Go.WideShapes Go.ChangeAt Go.RowKit
set_option linter.unusedVariables false
set_option maxRecDepth 100000
set_option linter.unusedSimpArgs false

def byteAt (v n j : Nat) : Nat := v / 256 ^ (n - 1 - j) % 256
def bytesOf (v n : Nat) : List Nat := (List.range n).map (byteAt v n)
theorem bytesOf_length (v n : Nat) : (bytesOf v n).length = n := by simp [bytesOf]
theorem bytesOf_lt (v n : Nat) : ∀ b ∈ bytesOf v n, b < 256 := by
  intro b hb
  obtain ⟨j, _, rfl⟩ := List.mem_map.1 hb
  exact Nat.mod_lt _ (by omega)
theorem pow_le7 {n : Nat} (h7 : n ≤ 7) : 2 ^ (8 * n) ≤ 72057594037927936 := Nat.pow_le_pow_right (n := 2) (by omega) (show 8 * n ≤ 56 by omega)
theorem wrap_pow {n : Nat} (h7 : n ≤ 7) : wrap64 (2 ^ (8 * n)) = ((2 ^ (8 * n) : Nat) : Int) := by
  have h := pow_le7 h7
  have e : ((2 : Int) ^ (8 * n)) = ((2 ^ (8 * n) : Nat) : Int) := by simp
  rw [e]
  generalize 2 ^ (8 * n) = m at *
  exact IntWalk.wrap64_in _ (by omega)
theorem p256 (n : Nat) : 256 ^ n = 2 ^ (8 * n) := by rw [Nat.pow_mul]
theorem fits_true {v n : Nat} (h7 : n ≤ 7) (hv : v < 256 ^ n) : decide ((v : Int) < wrap64 (2 ^ (8 * n))) = true := by
  rw [wrap_pow h7, decide_eq_true_eq]
  rw [p256] at hv
  exact_mod_cast hv
theorem fits_false {v n : Nat} (h7 : n ≤ 7) (hv : ¬ v < 256 ^ n) : decide ((v : Int) < wrap64 (2 ^ (8 * n))) = false := by
  rw [wrap_pow h7, decide_eq_false_iff_not]
  rw [p256] at hv
  exact_mod_cast hv

theorem slice53 (w : World) (g n : Nat) (h7 : n ≤ 7) : (Instr.sliceAt 124 (Value.pointer (some ⟨g, 0, none⟩)) none (some (Value.int .i64 (n : Nat))) none).run Tryz.prog w = .ok (.slice (some ⟨g, 0, none⟩) n 7) w := by
  have ha : Tryz.prog.arrayLen 124 = 7 := by kernel_rfl
  have hs : (sizeOf (Tryz.prog.elem 124)).run Tryz.prog w = .ok 1 w := by kernel_rfl
  rw [run_sliceAt_array_h (P := Tryz.prog) w 124 ⟨g, 0, none⟩ (by kernel_rfl) .i64 (n : Nat) (by omega) (by rw [ha]; omega), hs, ha]
  simp [slicedAt, add_none]
theorem bytes_row {w : World} {g t v n N : Nat} {f : Nat → Value} (h : w.rowIs g t N f) (hn : n ≤ N) (hf : ∀ j, j < n → f j = .int .u8 (byteAt v n j : Nat)) : Bytes w (some ⟨g, 0, none⟩) n (bytesOf v n) := by
  refine ⟨bytesOf_length v n, bytesOf_lt v n, fun _ => ⟨g, 0, rfl, fun i hi => ?_⟩⟩
  rw [Nat.zero_add, h.cell (by omega), hf i hi]
  simp [bytesOf, List.getD, hi]
theorem byteAt_i (v n k : Nat) : ((v : Int) / 2 ^ (8 * (n - 1 - k)) % 256) = ((byteAt v n k : Nat) : Int) := by
  unfold byteAt
  rw [p256]
  simp
theorem More.from {w w1 w' : World} {p : Nat} {l F : List Nat} (hb : Below w.heap.size w w1) (hF : ∀ k ∈ F, k < w.heap.size) (h : More w1 p l F w') : More w p l F w' := by
  obtain ⟨F', h1, h2, h3⟩ := h
  refine ⟨F', h1, ?_, fun k hk => ?_⟩
  · have h0 : Touch (fun k => k ∈ F) w w1 := ⟨hb.os, hb.tape, hb.output, hb.size, fun k hk _ => hb.block k hk⟩
    exact h0.trans (h2.mono fun i _ h => .inl h)
  · rcases h3 k hk with h | h
    · exact .inl h
    · exact .inr (Nat.le_trans hb.size h)

set_option maxHeartbeats 1000000 in
theorem outN_fits (w : World) (p v n : Nat) (l F : List Nat) (h : OutIs w p l F) (hl : l.length ≤ 9000000) (h1 : 1 ≤ n) (h7 : n ≤ 7) (hv : v < 256 ^ n) :
    Calls Tryz.prog 25 #[.pointer (some ⟨p, 0, none⟩), .int .i64 v, .int .i64 n] w fun e w' => e = .returned (.tuple #[]) ∧ More w p (l ++ bytesOf v n) F w' := by
  have hd : decide ((1 : Int) ≤ (n : Nat) ∧ ((n : Nat) : Int) ≤ 7) = true := by simp; omega
  have hd2 := fits_true h7 hv
  have HV := Lib.hid hv
  have HO := Lib.hid h
  clear hv h
  go_enter Tryz.func25, Tryz.ntmps25
  go_wp2_with (first | (go_at_call 40; refine (isSize_any _ _).mono ?_; rw [hd]; rintro e w1 ⟨rfl, rfl⟩) | (go_at_call 51; refine (takes_true _ _ HO.out.good).mono ?_; rintro e w1 ⟨rfl, rfl⟩))
  go_loopw [25] (fun i wr => ∃ k : Nat, k ≤ n ∧ i = .int .i64 k ∧ wr.rowIs w.heap.size 124 7 (fun j => .int .u8 (if j < k then byteAt v n j else 0 : Nat)) ∧ Below w.heap.size w wr) (fun i _ => n - (intOf i).toNat)
  case atStart =>
    refine ⟨0, by omega, rfl, ?_, (Below.refl _ _).alloc (Nat.le_refl _) _⟩
    refine World.rowIs_alloc w _ 124 _ (fun i hi => ?_)
    simp at hi
    have hi' : i = 0 ∨ i = 1 ∨ i = 2 ∨ i = 3 ∨ i = 4 ∨ i = 5 ∨ i = 6 := by omega
    rcases hi' with rfl | rfl | rfl | rfl | rfl | rfl | rfl <;> rfl
  case round =>
    obtain ⟨k, hk, rfl, hrow, hb⟩ := hrel
    by_cases hlt : k < n
    · have d0 := hrow.cell (i := k) (by omega)
      have d1 := hrow.frozen k
      have HRow := Lib.hid hrow
      have HBl := Lib.hid hb
      clear hrow hb
      go_wp2
      go_roundw
      case rel =>
        refine ⟨k + 1, by omega, rfl, ?_, HBl.out.setCell (p := ⟨w.heap.size, k, none⟩) (Nat.le_refl _) _⟩
        rw [byteAt_i]
        refine (HRow.out.set k _).congr (fun j hj => ?_)
        by_cases hjk : j = k
        · subst hjk
          simp
        · simp only [hjk, if_false]
          have : (j < k + 1) = (j < k) := by simp; omega
          simp only [this]
      case measure => simp [intOf]; omega
    · obtain rfl : k = n := by omega
      have HBy := Lib.hid (bytes_row (v := v) (n := k) hrow h7 (fun j hj => by simp [hj]))
      have HBl := Lib.hid hb
      have hsl := fun w' => slice53 w' w.heap.size k h7
      clear hrow hb
      go_wp2_with (go_at_call 52; refine (put_any _ p l F _ k 7 _ (HO.out.below HBl.out) HBy.out (by omega) (fun e => by cases e) (fun ad e _ hF => by cases e; exact absurd (HO.out.lt _ hF) (Nat.lt_irrefl _))).mono ?_; rintro e w1 ⟨rfl, hm⟩)
      go_end0
      exact ⟨rfl, hm.from HBl.out HO.out.lt⟩

/-- A number that fits. -/
def Fits (v n : Int) : Prop := 1 ≤ n ∧ n ≤ 7 ∧ 0 ≤ v ∧ v < 256 ^ n.toNat
set_option maxHeartbeats 1000000 in
theorem outN_stop (w : World) (a : Option Addr) (v n : Int) (R : World → Prop) (hT : ∀ b, (b = true → Fits v n) → Calls Tryz.prog 51 #[.pointer a, .bool b] w fun e w' => e = .returned (.bool false) ∧ R w') :
    Calls Tryz.prog 25 #[.pointer a, .int .i64 v, .int .i64 n] w fun e w' => e = .returned (.tuple #[]) ∧ R w' := by
  by_cases hn : 1 ≤ n ∧ n ≤ 7
  · have hd : decide (1 ≤ n ∧ n ≤ 7) = true := by simp [hn]
    by_cases h0 : 0 ≤ v
    · have h1 := hn.1
      have h7 := hn.2
      obtain ⟨m, rfl⟩ := Int.eq_ofNat_of_zero_le (show 0 ≤ n by omega)
      obtain ⟨u, rfl⟩ := Int.eq_ofNat_of_zero_le h0
      by_cases hv : u < 256 ^ m
      · have hf : Fits (u : Nat) (m : Nat) := ⟨hn.1, hn.2, h0, by simpa using (by exact_mod_cast hv : ((u : Nat) : Int) < ((256 ^ m : Nat) : Int))⟩
        have HT := Lib.hid (hT true (fun _ => hf))
        have hd2 := fits_true (n := m) (v := u) (by omega) hv
        clear hT hf hv hn
        go_enter Tryz.func25, Tryz.ntmps25
        go_wp2_with (first | (go_at_call 40; refine (isSize_any _ _).mono ?_; rw [hd]; rintro e w1 ⟨rfl, rfl⟩) | (go_at_call 51; refine HT.out.mono ?_; rintro e w1 ⟨rfl, hR⟩; have HR := Lib.hid hR; clear hR))
        refine bodyPost_ret (results_none rfl _ _ _) rfl ?_
        exact ⟨rfl, HR.out⟩
      · have HT := Lib.hid (hT false (fun h => by cases h))
        have hd2 := fits_false (n := m) (v := u) (by omega) hv
        clear hT hv hn
        go_enter Tryz.func25, Tryz.ntmps25
        go_wp2_with (first | (go_at_call 40; refine (isSize_any _ _).mono ?_; rw [hd]; rintro e w1 ⟨rfl, rfl⟩) | (go_at_call 51; refine HT.out.mono ?_; rintro e w1 ⟨rfl, hR⟩; have HR := Lib.hid hR; clear hR))
        refine bodyPost_ret (results_none rfl _ _ _) rfl ?_
        exact ⟨rfl, HR.out⟩
    · have HT := Lib.hid (hT false (fun h => by cases h))
      have hlt : v < 0 := by omega
      clear hT h0
      go_enter Tryz.func25, Tryz.ntmps25
      go_wp2_with (first | (go_at_call 40; refine (isSize_any _ _).mono ?_; rw [hd]; rintro e w1 ⟨rfl, rfl⟩) | (go_at_call 51; refine HT.out.mono ?_; rintro e w1 ⟨rfl, hR⟩; have HR := Lib.hid hR; clear hR))
      refine bodyPost_ret (results_none rfl _ _ _) rfl ?_
      exact ⟨rfl, HR.out⟩
  · have hd : decide (1 ≤ n ∧ n ≤ 7) = false := by simpa using hn
    have HT := Lib.hid (hT false (fun h => by cases h))
    clear hT
    go_enter Tryz.func25, Tryz.ntmps25
    go_wp2_with (first | (go_at_call 40; refine (isSize_any _ _).mono ?_; rw [hd]; rintro e w1 ⟨rfl, rfl⟩) | (go_at_call 51; refine HT.out.mono ?_; rintro e w1 ⟨rfl, hR⟩; have HR := Lib.hid hR; clear hR))
    refine bodyPost_ret (results_none rfl _ _ _) rfl ?_
    exact ⟨rfl, HR.out⟩
/-- It is spoilt now. -/
def Lost (w : World) (p : Nat) (w' : World) : Prop := Spoilt w' p ∧ Touch (fun k => k = p) w w'
theorem outN_spoils (w : World) (p : Nat) (l F : List Nat) (v n : Int) (h : OutIs w p l F) (hf : ¬ Fits v n) :
    Calls Tryz.prog 25 #[.pointer (some ⟨p, 0, none⟩), .int .i64 v, .int .i64 n] w fun e w' => e = .returned (.tuple #[]) ∧ Lost w p w' := by
  refine outN_stop w _ v n _ (fun b hb => ?_)
  cases b with
  | true => exact absurd (hb rfl) hf
  | false =>
    obtain ⟨x, y, hp⟩ := h.head
    refine (takes_false w p x y hp).mono ?_
    rintro e w' ⟨rfl, rfl⟩
    exact ⟨rfl, spoil hp⟩
theorem outN_spoilt (w : World) (p : Nat) (v n : Int) (h : Spoilt w p) :
    Calls Tryz.prog 25 #[.pointer (some ⟨p, 0, none⟩), .int .i64 v, .int .i64 n] w fun e w' => e = .returned (.tuple #[]) ∧ w = w' :=
  outN_stop w _ v n _ (fun b hb => takes_spoilt w p b h.bad)
theorem outN_nil (w : World) (v n : Int) :
    Calls Tryz.prog 25 #[.pointer none, .int .i64 v, .int .i64 n] w fun e w' => e = .returned (.tuple #[]) ∧ w = w' :=
  outN_stop w _ v n _ (fun b hb => takes_nil w b)

set_option maxHeartbeats 400000 in
theorem raw_good (w : World) (p : Nat) (l F : List Nat) (A : Option Addr) (n c : Nat) (m : List Nat) (h : OutIs w p l F) (hB : Bytes w A n m) (hn : l.length + n ≤ 10000000) (hA : A = none → c = 0) (hAp : ∀ ad, A = some ad → 0 < n → ad.block ∉ F) :
    Calls Tryz.prog 85 #[.pointer (some ⟨p, 0, none⟩), .slice A n c] w fun e w' => e = .returned (.tuple #[]) ∧ More w p (l ++ m) F w' := by
  have HP := Lib.hid (put_any w p l F A n c m h hB hn hA hAp)
  have HG := Lib.hid h.good
  clear h hB hA hAp
  go_enter Tryz.func85, Tryz.ntmps85
  go_wp2_with (first | (go_at_call 51; refine (takes_true _ _ HG.out).mono ?_; rintro e w1 ⟨rfl, rfl⟩) | (go_at_call 52; refine HP.out.mono ?_; rintro e w1 ⟨rfl, hR⟩; have HR := Lib.hid hR; clear hR))
  go_end0
  exact ⟨rfl, HR.out⟩
theorem raw_stop (w : World) (a : Option Addr) (x : Value) (hT : Calls Tryz.prog 51 #[.pointer a, .bool true] w fun e w' => e = .returned (.bool false) ∧ w = w') :
    Calls Tryz.prog 85 #[.pointer a, x] w fun e w' => e = .returned (.tuple #[]) ∧ w = w' := by
  go_enter Tryz.func85, Tryz.ntmps85
  go_wp2_with (first | (go_at_call 51; refine hT.mono ?_; rintro e w1 ⟨rfl, rfl⟩))
  go_end0
  exact ⟨rfl, rfl⟩
theorem end_stop (w : World) (a : Option Addr) (hT : Calls Tryz.prog 51 #[.pointer a, .bool true] w fun e w' => e = .returned (.bool false) ∧ w = w') :
    Calls Tryz.prog 53 #[.pointer a] w fun e w' => e = .returned (.tuple #[.slice none 0 0, .int .i64 1]) ∧ w = w' := by
  go_enter Tryz.func53, Tryz.ntmps53
  go_wp2_with (first | (go_at_call 51; refine hT.mono ?_; rintro e w1 ⟨rfl, rfl⟩))
  go_ret2
  exact ⟨rfl, rfl⟩
theorem own_bytes {w : World} {g k cap : Nat} {l : List Nat} (h : w.ownsRow 0 5 1 (.slice (some ⟨g, 0, none⟩) k cap) l.length (vals l)) (hk : l.length = k) (hb : ∀ x ∈ l, x < 256) : Bytes w (some ⟨g, 0, none⟩) k l := by
  refine ⟨hk, hb, fun _ => ⟨g, 0, rfl, fun i hi => ?_⟩⟩
  have := h.cells (g := g) rfl i (.int .u8 (l.getD i 0 : Nat)) (by
    have hi' : i < l.length := by omega
    simp [vals, List.getD, hi'])
  rw [add_none] at this
  exact this
/-- New bytes of one's own. -/
def Made (w : World) (l : List Nat) (v : Value) (w' : World) : Prop := ∃ g, v = .slice (some ⟨g, 0, none⟩) l.length l.length ∧ w.heap.size ≤ g ∧ Below w.heap.size w w' ∧ w'.heap[g]? = some (.cells (vals l).toArray 5 (0, 0)) ∧ ∀ x ∈ l, x < 256
set_option maxHeartbeats 400000 in
theorem end_good (w : World) (p : Nat) (l F : List Nat) (h : OutIs w p l F) (hl : l.length ≤ 10000000) :
    Calls Tryz.prog 53 #[.pointer (some ⟨p, 0, none⟩)] w fun e w' => ∃ v, e = .returned (.tuple #[v, .int .i64 0]) ∧ Made w l v w' := by
  have HG := Lib.hid h.good
  rcases h with ⟨h, rfl, rfl⟩ | ⟨s, g, cap, h, rfl⟩
  · have hc0 : w.cell? ⟨p, 0, none⟩ = some (.pointer none) := by simp [World.cell?, show w.heap[p]? = _ from h]
    clear h
    go_enter Tryz.func53, Tryz.ntmps53
    go_wp2_with (first | (go_at_call 51; refine (takes_true _ _ HG.out).mono ?_; rintro e w1 ⟨rfl, rfl⟩) | (go_at_call 84; refine (written_empty _ _ hc0).mono ?_; rintro e w1 ⟨rfl, rfl⟩) | (go_at_call 67; refine (copied_any _ none 0 0 [] ⟨rfl, by simp, fun h => absurd h (by omega)⟩ (by omega)).mono ?_; rintro e w1 ⟨rfl, rfl⟩))
    go_ret2
    exact ⟨_, rfl, w.heap.size, rfl, Nat.le_refl _, (Below.refl _ _).alloc (Nat.le_refl _) _, heap_alloc_new w _, by simp⟩
  · obtain ⟨hc0, hc1, _, hs0, hf0, hf1, hfs, hlp, hls, hlg, hcap⟩ := h.facts
    have HB := Lib.hid (own_bytes h.2.2.1 rfl h.2.2.2.2.2.2)
    have HX := Lib.hid h.2.2.2.2.2.2
    clear h
    go_enter Tryz.func53, Tryz.ntmps53
    go_wp2_with (first | (go_at_call 51; refine (takes_true _ _ HG.out).mono ?_; rintro e w1 ⟨rfl, rfl⟩) | (go_at_call 84; refine (written_full _ _ _ _ _ _ hc0 hc1 hs0 hcap).mono ?_; rintro e w1 ⟨rfl, q, rfl⟩) | (go_at_call 67; refine (copied_any _ _ _ _ l (HB.out.drewN _) hl).mono ?_; rintro e w1 ⟨rfl, rfl⟩))
    go_ret2
    exact ⟨_, rfl, w.heap.size, rfl, Nat.le_refl _, (below_draws (Below.refl _ _) q).alloc (Nat.le_refl _) _, heap_alloc_new (w.drewN q) _, HX.out⟩
end Go.Proofs.YtklmbiekpilkhaaGreatDoor.codec
namespace Go.Proofs.YtklmbiekpilkhaaGreatDoor.codec
open Go.ChangeShapes Go.WideShapes Go.ChangeAt Go.RowKit
set_option linter.unusedVariables false
set_option maxRecDepth 100000
set_option linter.unusedSimpArgs false

def strOf (l : List Nat) : ByteArray := ⟨(l.map UInt8.ofNat).toArray⟩
theorem strOfNums_nat (l : List Nat) : strOfNums (l.map Int.ofNat) = strOf l := by
  simp only [strOfNums, strOf, List.map_map]
  rfl
theorem strOf_size (a : List Nat) : (strOf a).size = a.length := by simp [strOf, ByteArray.size]
/-- Bytes as a text. -/
theorem Bytes.text {w : World} {A : Option Addr} {n : Nat} {l : List Nat} (h : Bytes w A n l) (c : Nat) : (convert 22 9 (.slice A n c)).run Tryz.prog w = .ok (.string (strOf l)) w := by
  rcases Nat.eq_zero_or_pos n with h0 | h0
  · subst h0
    obtain rfl : l = [] := List.eq_nil_of_length_eq_zero h.1
    rw [run_convert_bytes_zero w 22 5 Tryz.underlying22 Tryz.underlying5 A c 9 Tryz.underlying9]
    rfl
  · obtain ⟨b, o, rfl, hc⟩ := h.2.2 h0
    have hl := h.1
    rw [run_convert_bytes_arg (P := Tryz.prog) w 22 5 Tryz.underlying22 Tryz.underlying5 b o n c (l.map Int.ofNat) (by simpa using hl) (fun i hi => by
      rw [hc i hi]
      have hi' : i < l.length := by omega
      simp [List.getD, hi']) 9 Tryz.underlying9, strOfNums_nat]
theorem strOf_inj {a b : List Nat} (ha : ∀ x ∈ a, x < 256) (hb : ∀ x ∈ b, x < 256) (h : strOf a = strOf b) : a = b := by
  unfold strOf at h
  have h1 : a.map UInt8.ofNat = b.map UInt8.ofNat := by
    have := congrArg ByteArray.data h
    simpa using this
  have h2 := congrArg (List.map UInt8.toNat) h1
  simp only [List.map_map] at h2
  have e : ∀ l : List Nat, (∀ x ∈ l, x < 256) → l.map (UInt8.toNat ∘ UInt8.ofNat) = l := by
    intro l hl
    calc l.map (UInt8.toNat ∘ UInt8.ofNat) = l.map id := List.map_congr_left (fun x hx => by simp [Nat.mod_eq_of_lt (hl x hx)])
      _ = l := by simp
  rwa [e a ha, e b hb] at h2
theorem Made.bytes {w w' : World} {l : List Nat} {v : Value} (h : Made w l v w') : ∃ g, v = .slice (some ⟨g, 0, none⟩) l.length l.length ∧ w.heap.size ≤ g ∧ Below w.heap.size w w' ∧ Bytes w' (some ⟨g, 0, none⟩) l.length l := by
  obtain ⟨g, rfl, h1, h2, h3, h4⟩ := h
  refine ⟨g, rfl, h1, h2, rfl, h4, fun _ => ⟨g, 0, rfl, fun i hi => ?_⟩⟩
  simp [World.cell?, h3, vals, List.getD, hi]
theorem outN_good (w : World) (p : Nat) (l F : List Nat) (v n : Int) (h : OutIs w p l F) (hl : l.length ≤ 9000000) (hf : Fits v n) :
    Calls Tryz.prog 25 #[.pointer (some ⟨p, 0, none⟩), .int .i64 v, .int .i64 n] w fun e w' => e = .returned (.tuple #[]) ∧ More w p (l ++ bytesOf v.toNat n.toNat) F w' := by
  obtain ⟨h1, h7, h0, hv⟩ := hf
  obtain ⟨m, rfl⟩ := Int.eq_ofNat_of_zero_le (show 0 ≤ n by omega)
  obtain ⟨u, rfl⟩ := Int.eq_ofNat_of_zero_le h0
  exact outN_fits w p u m l F h hl (by omega) (by omega) (by
    have : ((u : Nat) : Int) < ((256 ^ m : Nat) : Int) := by simpa using hv
    exact_mod_cast this)
theorem fresh_new (w : World) : OutIs (w.alloc (.cells #[.pointer none, .int .i64 0, .bool false] 79)) w.heap.size [] [w.heap.size] := .inl ⟨heap_alloc_new w _, rfl, rfl⟩


end Go.Proofs.YtklmbiekpilkhaaGreatDoor.codec
namespace Go.Proofs.YtklmbiekpilkhaaGreatDoor.codec
open Go.ChangeShapes Go.WideShapes Go.ChangeAt Go.RowKit
set_option linter.unusedVariables false
set_option maxRecDepth 100000
set_option linter.unusedSimpArgs false

/-- An In that has these bytes left. -/
def InIs (w : World) (q g o c : Nat) (l : List Nat) : Prop :=
  w.heap[q]? = some (.cells #[.slice (some ⟨g, o, none⟩) l.length c, .bool false] 111 (0, 0)) ∧ Bytes w (some ⟨g, o, none⟩) l.length l ∧ l.length ≤ c ∧ q ≠ g
def BadIn (w : World) (q : Nat) : Prop := w.heap[q]? = some (.cells #[.slice none 0 0, .bool true] 111 (0, 0))
theorem InIs.facts {w : World} {q g o c : Nat} {l : List Nat} (h : InIs w q g o c l) :
    w.cell? ⟨q, 0, none⟩ = some (.slice (some ⟨g, o, none⟩) l.length c) ∧ w.cell? ⟨q, 0 + 1, none⟩ = some (.bool false) ∧ w.frozen? ⟨q, 0, none⟩ = false ∧ q < w.heap.size := by
  have h := h.1
  exact ⟨by simp [World.cell?, h], by simp [World.cell?, h], by simp [World.frozen?, h], (Array.getElem?_eq_some_iff.1 h).1⟩
theorem BadIn.facts {w : World} {q : Nat} (h : BadIn w q) : w.cell? ⟨q, 0, none⟩ = some (.slice none 0 0) ∧ w.cell? ⟨q, 0 + 1, none⟩ = some (.bool true) ∧ q < w.heap.size := by
  unfold BadIn at h
  exact ⟨by simp [World.cell?, h], by simp [World.cell?, h], (Array.getElem?_eq_some_iff.1 h).1⟩
theorem InIs.kept {w w' : World} {q g o c : Nat} {l : List Nat} (h : InIs w q g o c l) (hq : w'.heap[q]? = w.heap[q]?) (hg : w'.heap[g]? = w.heap[g]?) : InIs w' q g o c l :=
  ⟨hq.trans h.1, h.2.1.kept (fun ad e _ => by cases e; exact hg), h.2.2⟩
theorem size57 : (Tryz.prog.info? 111).map (·.size) = some 2 := by kernel_rfl
/-- An In went on. -/
theorem InIs.next {w : World} {q g o c k : Nat} {l : List Nat} (h : InIs w q g o c l) (hk : k ≤ l.length) (o' : Nat) (ho : c ≠ k → o' = o + k) :
    InIs (w.setCell ⟨q, 0, none⟩ (.slice (some ⟨g, o', none⟩) (l.length - k) (c - k))) q g o' (c - k) (l.drop k) ∧ Touch (fun i => i = q) w (w.setCell ⟨q, 0, none⟩ (.slice (some ⟨g, o', none⟩) (l.length - k) (c - k))) := by
  obtain ⟨h1, h2, h3, h4⟩ := h
  have ht := (Touch.refl (fun i => i = q) w).setCell ⟨q, 0, none⟩ (.inr rfl) (.slice (some ⟨g, o', none⟩) (l.length - k) (c - k))
  refine ⟨⟨?_, ?_, by simp; omega, h4⟩, ht⟩
  · rw [heap_setCell_same _ q 0 _ 111 _ h1]
    simp
  · refine ⟨rfl, fun b hb => h2.2.1 b (List.mem_of_mem_drop hb), fun hn => ⟨g, o', rfl, fun i hi => ?_⟩⟩
    simp at hn hi
    have := ho (by omega)
    subst this
    obtain ⟨b, oo, e, hc⟩ := h2.2.2 (by omega)
    cases e
    have := hc (k + i) (by omega)
    have e2 : (l.drop k).getD i 0 = l.getD (k + i) 0 := by simp [List.getD]
    rw [e2, ← this, Nat.add_assoc]
    simp [World.cell?, heap_setCell_other w ⟨q, 0, none⟩ g _ (Ne.symm h4)]

theorem next_good (w : World) (q g o c k : Nat) (l : List Nat) (h : InIs w q g o c l) (hk : k ≤ l.length) (hc : c ≤ 10000000) :
    Calls Tryz.prog 39 #[.pointer (some ⟨q, 0, none⟩), .int .i64 k, .bool true] w fun e w' => e = .returned (.slice (some ⟨g, o, none⟩) k c) ∧ ∃ o' c', InIs w' q g o' c' (l.drop k) ∧ Touch (fun i => i = q) w w' ∧ c' ≤ c := by
  obtain ⟨h0, h1, hf, hlt⟩ := h.facts
  have hlc := h.2.2.1
  have HI := Lib.hid h
  obtain ⟨n, hn⟩ : ∃ n, n = l.length := ⟨_, rfl⟩
  have HN := Lib.hid hn
  rw [← hn] at h0 hk hlc
  clear h hn
  go_enter Tryz.func39, Tryz.ntmps39
  go_wp2
  · have hh : c = k := h
    go_ret
    have := HI.out.next (k := k) (by have := HN.out; omega) o (fun e => absurd hh e)
    rw [← HN.out, hh, Nat.sub_self] at this
    exact ⟨rfl, o, _, this.1, this.2, Nat.zero_le _⟩
  · have hh : ¬ c = k := h
    go_ret
    have := HI.out.next (k := k) (by have := HN.out; omega) (o + k) (fun e => rfl)
    rw [← HN.out] at this
    exact ⟨rfl, o + k, _, this.1, this.2, Nat.sub_le _ _⟩
theorem next_fails (w : World) (q g o c : Nat) (k : Int) (b : Bool) (l : List Nat) (h : InIs w q g o c l) (hk : b = true → (l.length : Int) < k) :
    Calls Tryz.prog 39 #[.pointer (some ⟨q, 0, none⟩), .int .i64 k, .bool b] w fun e w' => e = .returned (.slice none 0 0) ∧ BadIn w' q ∧ Touch (fun i => i = q) w w' := by
  obtain ⟨h0, h1, hf, hlt⟩ := h.facts
  have HI := Lib.hid h.1
  have HS := Lib.hid size57
  have hR : BadIn (w.setRow q #[.slice none 0 0, .bool true]) q ∧ Touch (fun i => i = q) w (w.setRow q #[.slice none 0 0, .bool true]) :=
    ⟨setRow_heap w q _ _ 111 _ h.1, rfl, rfl, rfl, by simp [World.setRow], fun k _ hk => setRow_other w q k _ hk⟩
  have HR := Lib.hid hR
  clear h hR
  cases b with
  | true =>
    have hk' := hk rfl
    clear hk
    go_enter Tryz.func39, Tryz.ntmps39
    go_wp2_with (refine wpList_store_row rfl 111 (.tmp 29) (.tmp 28) rfl q #[.slice none 0 0, .bool true] rfl rfl 111 #[.slice (some ⟨g, o, none⟩) l.length c, .bool false] HI.out HS.out rfl (by simp [Value.oneCell']) ?_)
    go_ret
    exact ⟨rfl, HR.out⟩
  | false =>
    clear hk
    go_enter Tryz.func39, Tryz.ntmps39
    go_wp2_with (refine wpList_store_row rfl 111 (.tmp 29) (.tmp 28) rfl q #[.slice none 0 0, .bool true] rfl rfl 111 #[.slice (some ⟨g, o, none⟩) l.length c, .bool false] HI.out HS.out rfl (by simp [Value.oneCell']) ?_)
    go_ret
    exact ⟨rfl, HR.out⟩
theorem next_bad (w : World) (q : Nat) (k : Int) (b : Bool) (h : BadIn w q) :
    Calls Tryz.prog 39 #[.pointer (some ⟨q, 0, none⟩), .int .i64 k, .bool b] w fun e w' => e = .returned (.slice none 0 0) ∧ w = w' := by
  obtain ⟨h0, h1, hlt⟩ := h.facts
  clear h
  go_enter Tryz.func39, Tryz.ntmps39
  go_wp2
  go_ret
  exact ⟨rfl, rfl⟩
theorem newIn_any (w : World) (A : Option Addr) (n c : Nat) (l : List Nat) (h : Bytes w A n l) (hn : n ≤ 10000000) :
    Calls Tryz.prog 38 #[.slice A n c] w fun e w' => e = .returned (.pointer (some ⟨w.heap.size + 1, 0, none⟩)) ∧ InIs w' (w.heap.size + 1) w.heap.size 0 n l ∧ Below w.heap.size w w' := by
  have HB := Lib.hid h
  clear h
  go_enter Tryz.func38, Tryz.ntmps38
  go_wp2_with (go_at_call 67; refine (copied_any _ _ _ _ l HB.out hn).mono ?_; rintro e w1 ⟨rfl, rfl⟩)
  go_ret
  have hl := HB.out.1
  have h1 : ((w.alloc (.cells (vals l).toArray 5)).alloc (.cells #[.slice (some ⟨w.heap.size, 0, none⟩) n n, .bool false] 111)).heap[w.heap.size + 1]? = some (.cells #[.slice (some ⟨w.heap.size, 0, none⟩) n n, .bool false] 111 (0, 0)) := by
    have := heap_alloc_new (w.alloc (.cells (vals l).toArray 5)) (.cells #[.slice (some ⟨w.heap.size, 0, none⟩) n n, .bool false] 111)
    simpa using this
  have h2 : ((w.alloc (.cells (vals l).toArray 5)).alloc (.cells #[.slice (some ⟨w.heap.size, 0, none⟩) n n, .bool false] 111)).heap[w.heap.size]? = some (.cells (vals l).toArray 5 (0, 0)) := by
    rw [heap_alloc_old _ _ (by simp)]
    exact heap_alloc_new w _
  refine ⟨rfl, ⟨by rw [h1, hl], ⟨rfl, HB.out.2.1, fun _ => ⟨_, 0, rfl, fun i hi => ?_⟩⟩, by omega, by omega⟩, ((Below.refl _ _).alloc (Nat.le_refl _) _).alloc (by simp) _⟩
  rw [Nat.zero_add, cell_of_row _ _ i _ 5 (0, 0) h2]
  simp [vals, List.getD, hi]

/-- The number that bytes are, the greatest first. -/
def numFrom (v : Nat) (l : List Nat) : Nat := l.foldl (fun v b => v * 256 + b) v
def numOf (l : List Nat) : Nat := numFrom 0 l
theorem numOf_take (l : List Nat) (k : Nat) (hk : k < l.length) : numOf (l.take (k + 1)) = numOf (l.take k) * 256 + l.getD k 0 := by
  have : l.take (k + 1) = l.take k ++ [l.getD k 0] := by
    rw [List.take_add_one]
    simp [List.getD, hk]
  rw [this]
  simp [numOf, numFrom]
theorem numOf_lt (l : List Nat) (h : ∀ b ∈ l, b < 256) (k : Nat) : numOf (l.take k) < 256 ^ k := by
  induction k with
  | zero => simp [numOf, numFrom]
  | succ k ih =>
    by_cases hk : k < l.length
    · rw [numOf_take l k hk, Nat.pow_succ]
      have := getD_lt256 h k
      omega
    · rw [List.take_of_length_le (by omega)] at ih ⊢
      exact Nat.lt_of_lt_of_le ih (Nat.pow_le_pow_right (by omega) (by omega))
theorem or_add (v c : Nat) (hc : c < 256) : (v * 256) ||| c = v * 256 + c := by
  have := Nat.two_pow_add_eq_or_of_lt (i := 8) (b := c) (by omega) v
  rw [Nat.mul_comm] at this
  exact this.symm
theorem i64_or_nat (a b : Nat) (ha : a < 4611686018427387904) (hb : b < 4611686018427387904) : bits .or .i64 (a : Int) (b : Int) = ((a ||| b : Nat) : Int) := by
  have hx : a ||| b < 4611686018427387904 := Nat.or_lt_two_pow (n := 62) (by omega) (by omega)
  show IntKind.i64.wrap ((BitVec.ofInt 64 (a : Int) ||| BitVec.ofInt 64 (b : Int)).toNat : Int) = _
  rw [BitVec.toNat_or, ofInt_u64 a (by omega), ofInt_u64 b (by omega), IntKind.wrap_i64]
  generalize a ||| b = m at *
  omega
theorem shl_or (v c : Nat) (hv : v < 281474976710656) (hc : c < 256) : bits .or .i64 ((v : Int) * 256) (c : Int) = ((v * 256 + c : Nat) : Int) := by
  have := i64_or_nat (v * 256) c (by omega) (by omega)
  rw [or_add v c hc] at this
  simpa using this

set_option maxHeartbeats 1000000 in
theorem inN_loop (w : World) (a : Option Addr) (c n : Nat) (l : List Nat) (s : Int) (b : Bool) (A : Option Addr) (R : World → Prop) (hs : decide (1 ≤ s ∧ s ≤ 7) = b) (hB : ∀ w', R w' → Bytes w' A n l) (hn : n ≤ 7)
    (hN : Calls Tryz.prog 39 #[.pointer a, .int .i64 s, .bool b] w fun e w' => e = .returned (.slice A n c) ∧ R w') :
    Calls Tryz.prog 18 #[.pointer a, .int .i64 s] w fun e w' => e = .returned (.int .i64 (numOf l : Nat)) ∧ R w' := by
  have HN := Lib.hid hN
  have HBR := Lib.hid hB
  clear hN hB
  go_enter Tryz.func18, Tryz.ntmps18
  go_wp2_with (first | (go_at_call 40; refine (isSize_any _ _).mono ?_; rw [hs]; rintro e w2 ⟨rfl, rfl⟩) | (go_at_call 39; refine HN.out.mono ?_; rintro e w2 ⟨rfl, hR⟩; have HR := Lib.hid hR; clear hR))
  have HB := Lib.hid (HBR.out _ HR.out)
  go_loopw [5, 14] (fun v i wr => ∃ k x : Nat, k ≤ n ∧ i = .int .i64 k ∧ x = numOf (l.take k) ∧ v = .int .i64 x ∧ wr = w2) (fun _ i _ => n - (intOf i).toNat)
  case atStart => exact ⟨0, 0, by omega, rfl, by simp [numOf, numFrom], rfl, rfl⟩
  case round =>
    obtain ⟨k, x, hk, rfl, hx, rfl, rfl⟩ := hrel
    have hx' : x < 256 ^ k := by rw [hx]; exact numOf_lt l HB.out.2.1 k
    by_cases hlt : k < n
    · obtain ⟨b', o', rfl, hc⟩ := HB.out.2.2 (by omega)
      obtain ⟨y, hy, hy2, hcell⟩ : ∃ y, y = l.getD k 0 ∧ y < 256 ∧ wr.cell? ⟨b', o' + k, none⟩ = some (.int .u8 (y : Nat)) := ⟨_, rfl, getD_lt256 HB.out.2.1 k, hc k hlt⟩
      have hx6 : x < 281474976710656 := Nat.lt_of_lt_of_le hx' (Nat.le_trans (Nat.pow_le_pow_right (by omega) (show k ≤ 6 by omega)) (by decide))
      have HS := Lib.hid (shl_or x y hx6 hy2)
      have HX := Lib.hid hx
      have HY := Lib.hid hy
      clear hx hx' hy hc
      go_wp2
      go_roundw
      case rel =>
        refine ⟨k + 1, x * 256 + y, by omega, rfl, ?_, by rw [HS.out], trivial⟩
        rw [numOf_take l k (by have := HB.out.1; omega), ← HX.out, ← HY.out]
      case measure => simp [intOf]; omega
    · obtain rfl : k = n := by omega
      have HX := Lib.hid hx
      clear hx hx'
      go_wp2
      go_ret
      refine ⟨?_, HR.out⟩
      have := HX.out
      rw [List.take_of_length_le (by have := HB.out.1; omega)] at this
      rw [← this]
      rfl
/-- The In has these bytes left, or is bad; only its own block has changed. -/
def Went (w : World) (q g c : Nat) (l : List Nat) (w' : World) : Prop := ∃ o' c', InIs w' q g o' c' l ∧ Touch (fun i => i = q) w w' ∧ c' ≤ c
def Gone (w : World) (q : Nat) (w' : World) : Prop := BadIn w' q ∧ Touch (fun i => i = q) w w'
theorem taken {w w' : World} {q g o c k : Nat} {l : List Nat} (h : InIs w q g o c l) (hk : k ≤ l.length) (ht : Touch (fun i => i = q) w w') : Bytes w' (some ⟨g, o, none⟩) k (l.take k) := by
  refine ⟨by simp; omega, fun b hb => h.2.1.2.1 b (List.mem_of_mem_take hb), fun hn => ⟨g, o, rfl, fun i hi => ?_⟩⟩
  obtain ⟨b, oo, e, hc⟩ := h.2.1.2.2 (by omega)
  cases e
  have := hc i (by omega)
  have e2 : (l.take k).getD i 0 = l.getD i 0 := by simp [List.getD, List.getElem?_take, hi]
  have hlt : g < w.heap.size := block_lt_of_cell this
  rw [e2, ← this]
  simp [World.cell?, ht.2.2.2.2 g hlt (Ne.symm h.2.2.2)]
theorem empty_bytes (w : World) : Bytes w none 0 [] := ⟨rfl, by simp, fun h => absurd h (by omega)⟩
theorem inN_good (w : World) (q g o c : Nat) (s : Int) (l : List Nat) (h : InIs w q g o c l) (h1 : 1 ≤ s) (h7 : s ≤ 7) (hs : s ≤ l.length) (hc : c ≤ 10000000) :
    Calls Tryz.prog 18 #[.pointer (some ⟨q, 0, none⟩), .int .i64 s] w fun e w' => e = .returned (.int .i64 (numOf (l.take s.toNat) : Nat)) ∧ Went w q g c (l.drop s.toNat) w' := by
  obtain ⟨k, rfl⟩ := Int.eq_ofNat_of_zero_le (show 0 ≤ s by omega)
  refine inN_loop w _ c k (l.take k) k true (some ⟨g, o, none⟩) _ (by simp; omega) (fun w' ⟨o', c', h1, h2, h3⟩ => taken h (by omega) h2) (by omega) ?_
  exact next_good w q g o c k l h (by omega) hc
theorem inN_fails (w : World) (q g o c : Nat) (s : Int) (l : List Nat) (h : InIs w q g o c l) (hs : ¬ (1 ≤ s ∧ s ≤ 7 ∧ s ≤ l.length)) :
    Calls Tryz.prog 18 #[.pointer (some ⟨q, 0, none⟩), .int .i64 s] w fun e w' => e = .returned (.int .i64 0) ∧ Gone w q w' := by
  refine inN_loop w _ 0 0 [] s (decide (1 ≤ s ∧ s ≤ 7)) none _ rfl (fun w' _ => empty_bytes w') (by omega) ?_
  exact next_fails w q g o c s _ l h (fun hb => by simp at hb; omega)
theorem inN_bad (w : World) (q : Nat) (s : Int) (h : BadIn w q) :
    Calls Tryz.prog 18 #[.pointer (some ⟨q, 0, none⟩), .int .i64 s] w fun e w' => e = .returned (.int .i64 0) ∧ w = w' := by
  refine inN_loop w _ 0 0 [] s (decide (1 ≤ s ∧ s ≤ 7)) none _ rfl (fun w' _ => empty_bytes w') (by omega) ?_
  exact next_bad w q s _ h

/-- A copy of bytes, behind which R still holds. -/
theorem raw_any (w : World) (a : Option Addr) (c n : Nat) (l : List Nat) (s : Int) (A : Option Addr) (R : World → Prop) (hB : ∀ w', R w' → Bytes w' A n l) (hn : n ≤ 10000000)
    (hN : Calls Tryz.prog 39 #[.pointer a, .int .i64 s, .bool (decide (0 ≤ s))] w fun e w' => e = .returned (.slice A n c) ∧ R w') :
    Calls Tryz.prog 62 #[.pointer a, .int .i64 s] w fun e w' => ∃ w1, e = .returned (.slice (some ⟨w1.heap.size, 0, none⟩) n n) ∧ R w1 ∧ w' = w1.alloc (.cells (vals l).toArray 5) := by
  have HN := Lib.hid hN
  have HBR := Lib.hid hB
  clear hN hB
  by_cases h0 : 0 ≤ s
  · have hd : decide (0 ≤ s) = true := by simp [h0]
    rw [hd] at HN
    go_enter Tryz.func62, Tryz.ntmps62
    go_wp2_with (first | (go_at_call 39; refine HN.out.mono ?_; rintro e w2 ⟨rfl, hR⟩; have HR := Lib.hid hR; clear hR) | (go_at_call 67; refine (copied_any _ _ _ _ l (HBR.out _ HR.out) hn).mono ?_; rintro e w1 ⟨rfl, rfl⟩))
    go_ret
    exact ⟨w2, rfl, HR.out, rfl⟩
  · have hd : decide (0 ≤ s) = false := by simp [h0]
    rw [hd] at HN
    go_enter Tryz.func62, Tryz.ntmps62
    go_wp2_with (first | (go_at_call 39; refine HN.out.mono ?_; rintro e w2 ⟨rfl, hR⟩; have HR := Lib.hid hR; clear hR) | (go_at_call 67; refine (copied_any _ _ _ _ l (HBR.out _ HR.out) hn).mono ?_; rintro e w1 ⟨rfl, rfl⟩))
    go_ret
    exact ⟨w2, rfl, HR.out, rfl⟩
theorem InIs.alloc {w : World} {q g o c : Nat} {l : List Nat} (h : InIs w q g o c l) (hg : g < w.heap.size) (ob : Obj) : InIs (w.alloc ob) q g o c l :=
  h.kept (heap_alloc_old w ob h.facts.2.2.2) (heap_alloc_old w ob hg)
/-- What is read behind the call: new bytes. -/
def Gives (l : List Nat) (e : Ending) (w' : World) : Prop := ∃ g' , e = .returned (.slice (some ⟨g', 0, none⟩) l.length l.length) ∧ Bytes w' (some ⟨g', 0, none⟩) l.length l
theorem alloc_bytes (w : World) (l : List Nat) (hl : ∀ b ∈ l, b < 256) : Bytes (w.alloc (.cells (vals l).toArray 5)) (some ⟨w.heap.size, 0, none⟩) l.length l := by
  refine ⟨rfl, hl, fun _ => ⟨_, 0, rfl, fun i hi => ?_⟩⟩
  rw [Nat.zero_add, cell_of_row _ _ i _ 5 (0, 0) (heap_alloc_new w _)]
  simp [vals, List.getD, hi]
theorem inRaw_good (w : World) (q g o c : Nat) (s : Int) (l : List Nat) (h : InIs w q g o c l) (hgl : g < w.heap.size) (h0 : 0 ≤ s) (hs : s ≤ l.length) (hc : c ≤ 10000000) :
    Calls Tryz.prog 62 #[.pointer (some ⟨q, 0, none⟩), .int .i64 s] w fun e w' => Gives (l.take s.toNat) e w' ∧ Went w q g c (l.drop s.toNat) w' := by
  obtain ⟨k, rfl⟩ := Int.eq_ofNat_of_zero_le h0
  have hlk : (l.take k).length = k := by simp; omega
  have hcl := h.2.2.1
  refine (raw_any w _ c k (l.take k) k (some ⟨g, o, none⟩) (Went w q g c (l.drop k)) (fun w' ⟨o', c', h1, h2, h3⟩ => taken h (by omega) h2) (by omega) ?_).mono ?_
  · have hd : decide ((0 : Int) ≤ (k : Nat)) = true := by simp
    rw [hd]
    exact next_good w q g o c k l h (by omega) hc
  · rintro e w' ⟨w1, rfl, ⟨o', c', h1, h2, h3⟩, rfl⟩
    refine ⟨⟨_, by rw [Int.toNat_natCast, hlk], ?_⟩, o', c', h1.alloc (by have := h2.2.2.2.1; omega) _, h2.alloc _, h3⟩
    rw [Int.toNat_natCast]
    exact alloc_bytes w1 (l.take k) (fun b hb => h.2.1.2.1 b (List.mem_of_mem_take hb))
theorem inRaw_fails (w : World) (q g o c : Nat) (s : Int) (l : List Nat) (h : InIs w q g o c l) (hs : ¬ (0 ≤ s ∧ s ≤ l.length)) :
    Calls Tryz.prog 62 #[.pointer (some ⟨q, 0, none⟩), .int .i64 s] w fun e w' => Gives [] e w' ∧ Gone w q w' := by
  refine (raw_any w _ 0 0 [] s none (Gone w q) (fun w' _ => empty_bytes w') (by omega) (next_fails w q g o c s _ l h (fun hb => by simp at hb; omega))).mono ?_
  rintro e w' ⟨w1, rfl, ⟨h1, h2⟩, rfl⟩
  exact ⟨⟨_, rfl, alloc_bytes w1 [] (by simp)⟩, (heap_alloc_old w1 _ h1.facts.2.2).trans h1, h2.alloc _⟩
theorem inRaw_bad (w : World) (q : Nat) (s : Int) (h : BadIn w q) :
    Calls Tryz.prog 62 #[.pointer (some ⟨q, 0, none⟩), .int .i64 s] w fun e w' => Gives [] e w' ∧ Gone w q w' := by
  refine (raw_any w _ 0 0 [] s none (fun w' => w = w') (fun w' _ => empty_bytes w') (by omega) (next_bad w q s _ h)).mono ?_
  rintro e w' ⟨w1, rfl, rfl, rfl⟩
  exact ⟨⟨_, rfl, alloc_bytes w [] (by simp)⟩, (heap_alloc_old w _ h.facts.2.2).trans h, (Touch.refl _ w).alloc _⟩
end Go.Proofs.YtklmbiekpilkhaaGreatDoor.codec
namespace Go.Proofs.YtklmbiekpilkhaaGreatDoor.codec
open Go.ChangeShapes Go.WideShapes Go.ChangeAt Go.RowKit
set_option linter.unusedVariables false
set_option maxRecDepth 100000
set_option linter.unusedSimpArgs false

def bytesTo (v n k j : Nat) : Nat := if n ≤ j + k ∧ j < n then byteAt v n j else 0
theorem bytesTo_all (v n i : Nat) (h : i < n) : bytesTo v n n i = byteAt v n i := by
  unfold bytesTo
  rw [if_pos (by omega)]
theorem bytes_step {wr : World} {g t v n k m : Nat} {x : Int} (hm : m + k + 1 = n) (hk : k < n) (hx : x = (byteAt v n m : Nat)) (h : wr.rowIs g t n (fun j => .int .u8 (bytesTo v n k j : Nat))) :
    (wr.setCell ⟨g, m, none⟩ (.int .u8 x)).rowIs g t n (fun j => .int .u8 (bytesTo v n (k + 1) j : Nat)) := by
  refine (h.set _ _).congr fun j hj => ?_
  by_cases e : j = m
  · subst e
    simp only [if_true, hx, bytesTo]
    rw [if_pos (by omega)]
  · simp only [if_neg e, bytesTo]
    have : (n ≤ j + (k + 1) ∧ j < n) ↔ (n ≤ j + k ∧ j < n) := by omega
    simp only [this]
set_option maxHeartbeats 1000000 in
theorem refBytes_any (w : World) (v n : Nat) (hv : v < 18446744073709551616) (h1 : 1 ≤ n) (hn : n ≤ 100) :
    Calls Tryz.prog 94 #[.int .u64 v, .int .i64 n] w fun e w' => e = .returned (.slice (some ⟨w.heap.size, 0, none⟩) n n) ∧ w'.rowIs w.heap.size 5 n (fun j => .int .u8 (byteAt v n j : Nat)) ∧ Below w.heap.size w w' := by
  have hmk := run_make_row' (P := Tryz.prog) 22 5 (.int .u8 0) 1 Tryz.underlying22 info5 rfl .i64 .i64 n (by omega) (by omega)
  go_enter Tryz.func94, Tryz.ntmps94
  go_wp2
  go_loopw [0, 6] (fun x i wr => ∃ k : Nat, k ≤ n ∧ i = .int .i64 ((n : Int) - 1 - (k : Int)) ∧ x = .int .u64 (v / 256 ^ k : Nat) ∧ wr.rowIs w.heap.size 5 n (fun j => .int .u8 (bytesTo v n k j : Nat)) ∧ Below w.heap.size w wr) (fun _ i _ => (intOf i + 1).toNat)
  case atStart =>
    refine ⟨0, by omega, by simp, by simp, (World.rowIs_made w (.int .u8 0) n 5).congr (fun i hi => ?_), (Below.refl _ _).alloc (Nat.le_refl _) _⟩
    unfold bytesTo
    rw [if_neg (by omega)]
    rfl
  case round =>
    obtain ⟨k, hk, rfl, rfl, hr, hbel⟩ := hrel
    by_cases hlt : k < n
    · obtain ⟨j, hj⟩ : ∃ j, j + k + 1 = n := ⟨n - 1 - k, by omega⟩
      have ej : ((n : Int) - 1 - (k : Int)) = (j : Nat) := by omega
      have hc := hr.cell (i := j) (by omega)
      have hf := hr.frozen j
      have HR := Lib.hid hr
      have HBel := Lib.hid hbel
      have HV : Hid (v / 256 ^ (k + 1) = v / 256 ^ k / 256) := by rw [Nat.pow_succ, ← Nat.div_div_eq_div_mul]; exact rfl
      have hX : v / 256 ^ k < 18446744073709551616 := Nat.lt_of_le_of_lt (Nat.div_le_self _ _) hv
      have HX : Hid (byteAt v n j = v / 256 ^ k % 256) := by unfold byteAt; rw [show n - 1 - j = k by omega]; exact rfl
      have HJ := Lib.hid ej
      rw [ej]
      clear hr hbel ej
      generalize v / 256 ^ k = X at *
      go_wp2
      go_roundw
      case rel => exact ⟨k + 1, by omega, by congr 1; have := HJ.out; omega, by rw [HV.out]; simp, bytes_step (by omega) (by omega) (by rw [HX.out]; simp) HR.out, HBel.out.setCell (Nat.le_refl _) _⟩
      case measure => simp [intOf]
    · obtain rfl : k = n := by omega
      have HR := Lib.hid (hr.congr (g := fun j => .int .u8 (byteAt v k j : Nat)) (fun i hi => by rw [bytesTo_all v k i hi]))
      have HBel := Lib.hid hbel
      have ej : ((k : Int) - 1 - (k : Int)) = -1 := by omega
      rw [ej]
      clear hr hbel ej
      go_wp2
      go_ret
      exact ⟨rfl, HR.out, HBel.out⟩
theorem strCells_of (l : List Nat) (h : ∀ x ∈ l, x < 256) : Lib.strCells (strOf l) = vals l := by
  unfold Lib.strCells strOf vals
  simp only [List.toList_toArray, List.map_map]
  refine List.map_congr_left fun x hx => ?_
  simp [Nat.mod_eq_of_lt (h x hx)]
theorem row_owns {w : World} {g n : Nat} {v : Nat} (B : Nat) (hB : B ≤ g) (hn : n ≤ maxLen) (h : w.rowIs g 5 n (fun j => .int .u8 (byteAt v n j : Nat))) : w.ownsRow B 5 1 (.slice (some ⟨g, 0, none⟩) n n) n (vals (bytesOf v n)) := by
  obtain ⟨c, h1, h2, h3⟩ := h
  refine ⟨by simp [vals, bytesOf], .inr ⟨g, n, c, rfl, hB, h1, Nat.le_refl _, hn, by omega, ?_⟩⟩
  refine List.ext_getElem? fun i => ?_
  by_cases hi : i < n
  · rw [List.getElem?_take, if_pos (by omega)]
    have := h3 i hi
    simp [vals, bytesOf, hi]
    simpa using this
  · rw [List.getElem?_eq_none (by simp; omega), List.getElem?_eq_none (by simp [vals, bytesOf]; omega)]
/-- Bytes that the call made, somewhere. -/
def New (w : World) (l : List Nat) (v : Value) (w' : World) : Prop := ∃ g cap, v = .slice (some ⟨g, 0, none⟩) l.length cap ∧ w.heap.size ≤ g ∧ Below w.heap.size w w' ∧ Bytes w' (some ⟨g, 0, none⟩) l.length l
theorem own_bytes' {w : World} {B g k cap : Nat} {l : List Nat} (h : w.ownsRow B 5 1 (.slice (some ⟨g, 0, none⟩) k cap) l.length (vals l)) (hk : l.length = k) (hb : ∀ x ∈ l, x < 256) : Bytes w (some ⟨g, 0, none⟩) k l := by
  refine ⟨hk, hb, fun _ => ⟨g, 0, rfl, fun i hi => ?_⟩⟩
  have := h.cells (g := g) rfl i (.int .u8 (l.getD i 0 : Nat)) (by
    have hi' : i < l.length := by omega
    simp [vals, List.getD, hi'])
  rw [add_none] at this
  exact this
theorem all_lt {a b : List Nat} (ha : ∀ x ∈ a, x < 256) (hb : ∀ x ∈ b, x < 256) : ∀ x ∈ a ++ b, x < 256 := by
  intro x hx
  rcases List.mem_append.1 hx with h | h
  · exact ha x h
  · exact hb x h
theorem more_two {w w1 w2 w3 : World} {p : Nat} {l2 F F1 : List Nat} (t1 : Touch (fun k => k ∈ F) w w1) (s1 : ∀ k ∈ F1, k ∈ F ∨ w.heap.size ≤ k) (hb : Below w1.heap.size w1 w2) (h2 : More w2 p l2 F1 w3) : More w p l2 F w3 := by
  obtain ⟨F2, o2, t2, s2⟩ := h2
  refine ⟨F2, o2, ?_, fun k hk => ?_⟩
  · have t12 := t1.below hb
    exact t12.trans (t2.mono fun i _ h => s1 i h)
  · rcases s2 k hk with h | h
    · exact s1 k h
    · exact .inr (Nat.le_trans t1.2.2.2.1 (Nat.le_trans hb.size h))
theorem numOf_bytes (v n : Nat) (hv : v < 256 ^ n) : numOf (bytesOf v n) = v := by
  have key : ∀ k, k ≤ n → numOf ((bytesOf v n).take k) = v / 256 ^ (n - k) := by
    intro k
    induction k with
    | zero =>
      intro _
      simp [numOf, numFrom]
      exact (Nat.div_eq_of_lt hv).symm
    | succ k ih =>
      intro hk
      rw [numOf_take _ k (by simp [bytesOf]; omega), ih (by omega)]
      have e : (bytesOf v n).getD k 0 = byteAt v n k := by simp [bytesOf, List.getD, show k < n by omega]
      rw [e]
      unfold byteAt
      have e2 : n - k = (n - (k + 1)) + 1 := by omega
      have e3 : n - 1 - k = n - (k + 1) := by omega
      rw [e2, e3, Nat.pow_succ, ← Nat.div_div_eq_div_mul]
      omega
  have := key n (Nat.le_refl _)
  rw [List.take_of_length_le (by simp [bytesOf]), Nat.sub_self] at this
  simpa using this
end Go.Proofs.YtklmbiekpilkhaaGreatDoor.codec
namespace Go.Proofs.YtklmbiekpilkhaaGreatDoor.codec
open Go.ChangeShapes Go.WideShapes Go.ChangeAt Go.RowKit
set_option linter.unusedVariables false
set_option maxRecDepth 100000
set_option linter.unusedSimpArgs false

set_option maxHeartbeats 1000000 in
theorem number_any (w : World) (A : Option Addr) (n c : Nat) (l : List Nat) (h : Bytes w A n l) (hn : n ≤ 7) :
    Calls Tryz.prog 92 #[.slice A n c] w fun e w' => e = .returned (.int .u64 (numOf l : Nat)) ∧ w = w' := by
  have HB := Lib.hid h
  clear h
  go_enter Tryz.func92, Tryz.ntmps92
  go_wp2
  go_loopw [3, 7] (fun v i wr => ∃ k x : Nat, k ≤ n ∧ i = .int .i64 k ∧ x = numOf (l.take k) ∧ v = .int .u64 x ∧ wr = w) (fun _ i _ => n - (intOf i).toNat)
  case atStart => exact ⟨0, 0, by omega, rfl, by simp [numOf, numFrom], rfl, rfl⟩
  case round =>
    obtain ⟨k, x, hk, rfl, hx, rfl, rfl⟩ := hrel
    have hx' : x < 256 ^ k := by rw [hx]; exact numOf_lt l HB.out.2.1 k
    by_cases hlt : k < n
    · obtain ⟨b', o', rfl, hc⟩ := HB.out.2.2 (by omega)
      obtain ⟨y, hy, hy2, hcell⟩ : ∃ y, y = l.getD k 0 ∧ y < 256 ∧ wr.cell? ⟨b', o' + k, none⟩ = some (.int .u8 (y : Nat)) := ⟨_, rfl, getD_lt256 HB.out.2.1 k, hc k hlt⟩
      have hx6 : x < 281474976710656 := Nat.lt_of_lt_of_le hx' (Nat.le_trans (Nat.pow_le_pow_right (by omega) (show k ≤ 6 by omega)) (by decide))
      have HX := Lib.hid hx
      have HY := Lib.hid hy
      clear hx hx' hy hc
      go_wp2
      go_roundw
      case rel =>
        refine ⟨k + 1, x * 256 + y, by omega, rfl, ?_, by simp, trivial⟩
        rw [numOf_take l k (by have := HB.out.1; omega), ← HX.out, ← HY.out]
      case measure => simp [intOf]; omega
    · obtain rfl : k = n := by omega
      have HX := Lib.hid hx
      clear hx hx'
      go_wp2
      go_ret
      refine ⟨?_, rfl⟩
      have := HX.out
      rw [List.take_of_length_le (by have := HB.out.1; omega)] at this
      rw [← this]
      rfl
end Go.Proofs.YtklmbiekpilkhaaGreatDoor.codec
namespace Go.Proofs.YtklmbiekpilkhaaGreatDoor.rd
open Go.ChangeShapes Go.WideShapes Go.ChangeAt Go.RowKit
open Go.Proofs.YtklmbiekpilkhaaGreatDoor.codec (Bytes vals vals_append vals_length vals_one bytesOf byteAt bytesOf_length bytesOf_lt strOf InIs BadIn numOf)
set_option linter.unusedVariables false
set_option maxRecDepth 100000
set_option linter.unusedSimpArgs false

/-- What the next k bytes are. -/
def got (k : Nat) : Option (List Nat) → List Nat
  | some l => if k ≤ l.length then l.take k else []
  | none => []
/-- What is left behind them. -/
def rest (k : Nat) : Option (List Nat) → Option (List Nat)
  | some l => if k ≤ l.length then some (l.drop k) else none
  | none => none
/-- An In at q over bytes at g, that has L left, or is bad; all else is as it was in W. -/
def Rd (W : World) (q g : Nat) (L : Option (List Nat)) (w : World) : Prop :=
  (match L with | some l => ∃ o c, InIs w q g o c l ∧ c ≤ 10000000 | none => BadIn w q) ∧ W.heap.size ≤ q ∧ q < w.heap.size ∧ g < w.heap.size ∧ Below W.heap.size W w
theorem Rd.bel {W w : World} {q g : Nat} {L : Option (List Nat)} (h : Rd W q g L w) : Below W.heap.size W w := h.2.2.2.2
theorem Rd.at_ {W w : World} {q g : Nat} {L : Option (List Nat)} (h : Rd W q g L w) : ∃ v b, w.heap[q]? = some (.cells #[v, .bool b] 111 (0, 0)) ∧ ∃ A n c, v = .slice A n c := by
  cases L with
  | none => exact ⟨_, _, h.1, _, _, _, rfl⟩
  | some l =>
    obtain ⟨⟨o, c, hi, -⟩, -⟩ := h
    exact ⟨_, _, hi.1, _, _, _, rfl⟩
theorem Rd.below {W w w' : World} {q g : Nat} {L : Option (List Nat)} (h : Rd W q g L w) (hb : Below w.heap.size w w') : Rd W q g L w' := by
  obtain ⟨h1, h2, h3, h4, h5⟩ := h
  refine ⟨?_, h2, Nat.lt_of_lt_of_le h3 hb.size, Nat.lt_of_lt_of_le h4 hb.size, h5.trans (hb.mono h5.size)⟩
  cases L with
  | none => exact (hb.block q h3).trans h1
  | some l =>
    obtain ⟨o, c, hi, hc⟩ := h1
    exact ⟨o, c, hi.kept (hb.block q h3) (hb.block g h4), hc⟩
theorem Rd.alloc {W w : World} {q g : Nat} {L : Option (List Nat)} (h : Rd W q g L w) (o : Obj) : Rd W q g L (w.alloc o) := h.below ((Below.refl _ _).alloc (Nat.le_refl _) _)
theorem Rd.drewN {W w : World} {q g : Nat} {L : Option (List Nat)} (h : Rd W q g L w) (n : Nat) : Rd W q g L (w.drewN n) := h.below (codec.below_draws (Below.refl _ _) n)
theorem rd_new (W : World) (A : Option Addr) (n c : Nat) (l : List Nat) (h : Bytes W A n l) (hn : n ≤ 10000000) :
    Calls Tryz.prog 38 #[.slice A n c] W fun e w' => ∃ q g, e = .returned (.pointer (some ⟨q, 0, none⟩)) ∧ Rd W q g (some l) w' :=
  (codec.newIn_any W A n c l h hn).mono fun _ w' ⟨he, hi, hb⟩ => ⟨_, _, he, ⟨_, _, hi, hn⟩, by omega, hi.facts.2.2.2, by have := hi.facts.2.2.2; omega, hb⟩
/-- Bytes that lie elsewhere stay. -/
theorem keep {W w w' : World} {q g a n : Nat} {L : Option (List Nat)} {o : Nat} {l : List Nat} (h : Rd W q g L w) (hB : Bytes w (some ⟨a, o, none⟩) n l) (ht : codec.Touch (fun i => i = q) w w') : Bytes w' (some ⟨a, o, none⟩) n l := by
  refine hB.touch (fun ad e hn hq => ?_) ht
  cases e
  obtain ⟨v, b, hv, A, k, c, rfl⟩ := h.at_
  obtain ⟨b', o', e, hc⟩ := hB.2.2 hn
  cases e
  have hc0 := hc 0 hn
  have hq' : a = q := hq
  subst hq'
  simp only [World.cell?, hv, Nat.add_zero] at hc0
  rcases o with _ | _ | o
  · simp at hc0
  · simp at hc0
  · simp at hc0
theorem rd_next {W w : World} {q g : Nat} {L : Option (List Nat)} (h : Rd W q g L w) (k : Nat) :
    ∃ A n c, n = (got k L).length ∧ n ≤ 10000000 ∧ (∀ w', Rd W q g (rest k L) w' ∧ codec.Touch (fun i => i = q) w w' → Bytes w' A n (got k L)) ∧
      Calls Tryz.prog 39 #[.pointer (some ⟨q, 0, none⟩), .int .i64 k, .bool true] w fun e w' => e = .returned (.slice A n c) ∧ Rd W q g (rest k L) w' ∧ codec.Touch (fun i => i = q) w w' := by
  obtain ⟨h1, h2, h3, h4, h5⟩ := h
  have hT : ∀ {w'}, codec.Touch (fun i => i = q) w w' → q < w'.heap.size ∧ g < w'.heap.size ∧ Below W.heap.size W w' := fun ht =>
    ⟨Nat.lt_of_lt_of_le h3 ht.2.2.2.1, Nat.lt_of_lt_of_le h4 ht.2.2.2.1, h5.trans (ht.toBelow _ h5.size (fun i hi e => by omega))⟩
  cases L with
  | none =>
    refine ⟨none, 0, 0, rfl, by omega, fun w' _ => codec.empty_bytes w', (codec.next_bad w q k true h1).mono ?_⟩
    rintro e w' ⟨rfl, rfl⟩
    exact ⟨rfl, ⟨h1, h2, h3, h4, h5⟩, codec.Touch.refl _ _⟩
  | some l =>
    obtain ⟨o, c, hi, hc⟩ := h1
    by_cases hk : k ≤ l.length
    · have hg : got k (some l) = l.take k := by simp [got, hk]
      have hr : rest k (some l) = some (l.drop k) := by simp [rest, hk]
      rw [hg, hr]
      have hcl := hi.2.2.1
      refine ⟨some ⟨g, o, none⟩, k, c, by simp; omega, by omega, fun w' hw => codec.taken hi hk hw.2, (codec.next_good w q g o c k l hi hk hc).mono ?_⟩
      rintro e w' ⟨rfl, o', c', hi', ht, hc'⟩
      obtain ⟨t1, t2, t3⟩ := hT ht
      exact ⟨rfl, ⟨⟨o', c', hi', by omega⟩, h2, t1, t2, t3⟩, ht⟩
    · have hg : got k (some l) = [] := by simp [got, hk]
      have hr : rest k (some l) = none := by simp [rest, hk]
      rw [hg, hr]
      refine ⟨none, 0, 0, rfl, by omega, fun w' _ => codec.empty_bytes w', (codec.next_fails w q g o c k true l hi (fun _ => by omega)).mono ?_⟩
      rintro e w' ⟨rfl, hb, ht⟩
      obtain ⟨t1, t2, t3⟩ := hT ht
      exact ⟨rfl, ⟨hb, h2, t1, t2, t3⟩, ht⟩
theorem rd_N {W w : World} {q g : Nat} {L : Option (List Nat)} (h : Rd W q g L w) (s : Nat) (h1 : 1 ≤ s) (h7 : s ≤ 7) :
    Calls Tryz.prog 18 #[.pointer (some ⟨q, 0, none⟩), .int .i64 s] w fun e w' => e = .returned (.int .i64 (numOf (got s L) : Nat)) ∧ Rd W q g (rest s L) w' ∧ codec.Touch (fun i => i = q) w w' := by
  obtain ⟨A, n, c, hn, hn2, hB, hC⟩ := rd_next h s
  refine codec.inN_loop w _ c n (got s L) s true A _ (by simp; omega) hB ?_ hC
  rw [hn]
  cases L with
  | none => simp [got]
  | some l =>
    simp only [got]
    split
    · simp; omega
    · simp
theorem rd_Raw {W w : World} {q g : Nat} {L : Option (List Nat)} (h : Rd W q g L w) (s : Nat) (hl : ∀ l, L = some l → ∀ b ∈ l, b < 256) :
    Calls Tryz.prog 62 #[.pointer (some ⟨q, 0, none⟩), .int .i64 s] w fun e w' => ∃ g' m, m = (got s L).length ∧ e = .returned (.slice (some ⟨g', 0, none⟩) m m) ∧ w.heap.size ≤ g' ∧ Bytes w' (some ⟨g', 0, none⟩) m (got s L) ∧ Rd W q g (rest s L) w' ∧ codec.Touch (fun i => i = q) w w' := by
  obtain ⟨A, n, c, hn, hn2, hB, hC⟩ := rd_next h s
  refine (codec.raw_any w _ c n (got s L) s A _ hB hn2 (by rw [show decide ((0 : Int) ≤ (s : Nat)) = true by simp]; exact hC)).mono ?_
  rintro e w' ⟨w1, rfl, ⟨hR, ht⟩, rfl⟩
  have hsm : ∀ b ∈ got s L, b < 256 := by
    intro b hb
    cases L with
    | none => simp [got] at hb
    | some l =>
      simp only [got] at hb
      split at hb
      · exact hl l rfl b (List.mem_of_mem_take hb)
      · simp at hb
  refine ⟨_, n, hn, rfl, ht.2.2.2.1, ?_, hR.alloc _, ht.alloc _⟩
  rw [hn]
  exact codec.alloc_bytes w1 _ hsm
set_option maxHeartbeats 400000 in
theorem rd_Done {W w : World} {q g : Nat} {L : Option (List Nat)} (h : Rd W q g L w) :
    Calls Tryz.prog 20 #[.pointer (some ⟨q, 0, none⟩)] w fun e w' => e = .returned (.bool (decide (L = some []))) ∧ w = w' := by
  cases L with
  | none =>
    obtain ⟨h0, h1, hlt⟩ := h.1.facts
    clear h
    go_enter Tryz.func20, Tryz.ntmps20
    go_wp2_with fail
    go_ret
    exact ⟨rfl, rfl⟩
  | some l =>
    obtain ⟨o, c, hi, hc⟩ := h.1
    obtain ⟨h0, h1, hf, hlt⟩ := hi.facts
    clear h hi
    by_cases hn : l.length = 0
    · obtain rfl := List.eq_nil_of_length_eq_zero hn
      have hd : decide (some ([] : List Nat) = some []) = true := by simp
      rw [hd]
      simp at h0
      go_enter Tryz.func20, Tryz.ntmps20
      go_wp2_with fail
      go_ret
      exact ⟨rfl, rfl⟩
    · have hd : decide (some l = some []) = false := by
        cases l with
        | nil => simp at hn
        | cons a b => simp
      rw [hd]
      generalize l.length = m at *
      have hmz : ((m : Int) == 0) = false := by simp; omega
      go_enter Tryz.func20, Tryz.ntmps20
      go_wp2_with fail
      go_ret
      exact ⟨rfl, rfl⟩
/-- What is left is bytes. -/
theorem rest_lt {L : Option (List Nat)} (k : Nat) (hl : ∀ l, L = some l → ∀ b ∈ l, b < 256) : ∀ l, rest k L = some l → ∀ b ∈ l, b < 256 := by
  intro l hr b hb
  cases L with
  | none => simp [rest] at hr
  | some m =>
    simp only [rest] at hr
    split at hr
    · cases hr
      exact hl m rfl b (List.mem_of_mem_drop hb)
    · simp at hr
theorem str_ne {T S : ByteArray} (h : T ≠ S) : (T.toList == S.data.toList) = false := by
  rw [beq_eq_false_iff_ne, ByteArray.toList_eq]
  intro e
  apply h
  obtain ⟨⟨t⟩⟩ := T
  obtain ⟨⟨u⟩⟩ := S
  simp at e
  rw [e]
theorem bytes_take {w : World} {A : Option Addr} {n : Nat} {l : List Nat} (h : Bytes w A n l) (k : Nat) (hk : k ≤ n) : Bytes w A k (l.take k) := by
  refine ⟨by rw [List.length_take, h.1]; omega, fun b hb => h.2.1 b (List.mem_of_mem_take hb), fun h0 => ?_⟩
  obtain ⟨b, o, rfl, hc⟩ := h.2.2 (by omega)
  refine ⟨b, o, rfl, fun i hi => ?_⟩
  rw [hc i (by omega)]
  simp [List.getD, hi]
theorem bytes_drop {w : World} {b o : Nat} {n : Nat} {l : List Nat} (h : Bytes w (some ⟨b, o, none⟩) n l) (k : Nat) (hk : k < n) : Bytes w (some ⟨b, o + k, none⟩) (n - k) (l.drop k) := by
  refine ⟨by rw [List.length_drop, h.1], fun x hx => h.2.1 x (List.mem_of_mem_drop hx), fun h0 => ?_⟩
  obtain ⟨b, o, e, hc⟩ := h.2.2 (by omega)
  cases e
  refine ⟨_, _, rfl, fun i hi => ?_⟩
  rw [Nat.add_assoc, hc (k + i) (by omega)]
  simp [List.getD]
end Go.Proofs.YtklmbiekpilkhaaGreatDoor.rd
namespace Go.Proofs.YtklmbiekpilkhaaGreatDoor.codec
open Go.ChangeShapes Go.WideShapes Go.ChangeAt Go.RowKit
set_option linter.unusedVariables false
set_option maxRecDepth 100000
set_option linter.unusedSimpArgs false

theorem text_new {w w1 w2 : World} {l : List Nat} {v : Value} {S : Nat} (hl : ∀ x ∈ l, x < 256) (hb : Below w.heap.size w w1) (hS : S = w.heap.size) (ho : w2.ownsRow w.heap.size 5 1 v (2 + (strOf l).size) (vals (bytesOf l.length 2) ++ Lib.strCells (strOf l)))
    (hg : w1.grownBy w2 (some S)) (hn : v = .slice none 0 0 ↔ Value.slice (some ⟨S, 0, none⟩) 2 2 = .slice none 0 0 ∧ (strOf l).size = 0) : New w (bytesOf l.length 2 ++ l) v w2 := by
  rw [strOf_size, strCells_of l hl, ← vals_append] at ho
  have hln : (bytesOf l.length 2 ++ l).length = 2 + l.length := by simp [bytesOf]
  have hkk : Below w.heap.size w w2 := hb.trans ⟨hg.os, hg.tape, hg.output, hg.size, fun k hk => hg.block k (Nat.lt_of_lt_of_le hk hb.size) (fun e => by have := Option.some.inj e; omega)⟩
  rcases ho.2 with ⟨e, _⟩ | ⟨g, cap, cur, e, hbg, _⟩
  · exact absurd (hn.1 e).1 (by simp)
  · subst e
    rw [← hln] at ho ⊢
    exact ⟨g, cap, rfl, hbg, hkk, own_bytes' ho rfl (all_lt (bytesOf_lt _ _) hl)⟩
theorem str_bytes (w : World) (l : List Nat) (hl : ∀ x ∈ l, x < 256) : Bytes (Lib.bytesWorld w 5 (strOf l)) (some ⟨w.heap.size, 0, none⟩) l.length l ∧ Below w.heap.size w (Lib.bytesWorld w 5 (strOf l)) := by
  refine ⟨⟨rfl, hl, fun _ => ⟨_, 0, rfl, fun i hi => ?_⟩⟩, rfl, rfl, rfl, by rw [Lib.bytesWorld_size]; omega, fun k hk => Lib.bytesWorld_at_old w 5 _ k hk⟩
  rw [Nat.zero_add, Lib.bytesWorld_cell w 5 _ i (by rw [strOf_size]; exact hi)]
  have hx := hl (l.getD i 0) (by simp [List.getD, hi])
  simp [strOf, List.getD, hi] at hx ⊢
  omega
set_option maxHeartbeats 1000000 in
theorem outText_good (w : World) (p : Nat) (M F l : List Nat) (h : OutIs w p M F) (hM : M.length ≤ 5000000) (hl : ∀ x ∈ l, x < 256) (hn : l.length ≤ 65535) :
    Calls Tryz.prog 24 #[.pointer (some ⟨p, 0, none⟩), .string (strOf l)] w fun e w' => e = .returned (.tuple #[]) ∧ More w p (M ++ (bytesOf l.length 2 ++ l)) F w' := by
  have HN := Lib.hid (outN_good w p M F (l.length : Nat) 2 h (by omega) ⟨by decide, by decide, by omega, by simp; omega⟩)
  have hcv := fun w' => Lib.run_convert_string_bytes (P := Tryz.prog) w' 9 22 5 (strOf l) Tryz.underlying9 Tryz.underlying22 Tryz.underlying5
  have hsz := strOf_size l
  have HL := Lib.hid hl
  generalize hs : strOf l = s at *
  have HS := Lib.hid hs
  clear h hl hs
  go_enter Tryz.func24, Tryz.ntmps24
  go_wp2_with fail
  refine HN.out.mono ?_
  rintro e w1 ⟨rfl, hm⟩
  rw [Int.toNat_natCast, show Int.toNat 2 = 2 from rfl] at hm
  obtain ⟨F1, o1, t1, s1⟩ := hm
  have HG := Lib.hid o1.good
  have HT1 := Lib.hid (And.intro t1 s1)
  have HSB := Lib.hid (str_bytes w1 l HL.out)
  rw [HS.out] at HSB
  have HP := Lib.hid (fun (F1 : List Nat) (c : Nat) (h : OutIs (Lib.bytesWorld w1 5 s) p (M ++ bytesOf l.length 2) F1) (hk : ∀ k ∈ F1, k < w1.heap.size) => put_any (Lib.bytesWorld w1 5 s) p _ F1 (some ⟨w1.heap.size, 0, none⟩) l.length c l h HSB.out.1 (by simp [bytesOf]; omega) (fun e => by cases e) (fun ad e _ hF => by cases e; exact absurd (hk _ hF) (Nat.lt_irrefl _)))
  have HF1 := Lib.hid (And.intro (o1.below HSB.out.2) o1.lt)
  clear o1 t1 s1
  go_wp2_with (first | (go_at_call 51; refine (takes_true _ _ HG.out).mono ?_; rintro e w2 ⟨rfl, rfl⟩) | (go_at_call 52; refine (HP.out F1 _ HF1.out.1 HF1.out.2).mono ?_; rintro e w3 ⟨rfl, hm3⟩; have HM3 := Lib.hid hm3; clear hm3))
  go_end0
  refine ⟨rfl, ?_⟩
  have hm3 := HM3.out
  rw [List.append_assoc] at hm3
  exact more_two HT1.out.1 HT1.out.2 HSB.out.2 hm3
end Go.Proofs.YtklmbiekpilkhaaGreatDoor.codec
namespace Go.Proofs.YtklmbiekpilkhaaGreatDoor.rd
open Go.ChangeShapes Go.WideShapes Go.ChangeAt Go.RowKit
open Go.Proofs.YtklmbiekpilkhaaGreatDoor.codec (Bytes vals bytesOf strOf InIs BadIn numOf)
set_option maxRecDepth 100000

theorem rd_Text {W w : World} {q g : Nat} {L : Option (List Nat)} (h : Rd W q g L w) :
    Calls Tryz.prog 17 #[.pointer (some ⟨q, 0, none⟩)] w fun e w' => e = .returned (.string (strOf (got (numOf (got 2 L)) (rest 2 L)))) ∧ Rd W q g (rest (numOf (got 2 L)) (rest 2 L)) w' ∧ ∃ w1, codec.Touch (fun i => i = q) w w1 ∧ codec.Touch (fun i => i = q) w1 w' := by
  have HN := Lib.hid (rd_N h 2 (by decide) (by decide))
  have hnx := fun w1 (h1 : Rd W q g (rest 2 L) w1) => rd_next h1 (numOf (got 2 L))
  have hcv := fun (A : Option Addr) (n c : Nat) (l : List Nat) (w' : World) (hB : Bytes w' A n l) => hB.text c
  generalize numOf (got 2 L) = k at *
  generalize rest 2 L = L1 at *
  generalize got k L1 = S at *
  generalize rest k L1 = L2 at *
  have HX := Lib.hid hnx; have HC := Lib.hid hcv
  clear h hnx hcv
  go_enter Tryz.func17, Tryz.ntmps17
  go_wp2_with (go_at_call 18; refine HN.out.mono ?_; rintro e w1 ⟨rfl, hR1, ht1⟩; have HR1 := Lib.hid hR1; have HT1 := Lib.hid ht1; clear hR1 ht1)
  obtain ⟨A, n, c, hn, hn2, hB, hC⟩ := HX.out w1 HR1.out
  refine hC.mono ?_
  rintro e w2 ⟨rfl, hR2⟩
  have hcv := HC.out A n c S w2 (hB w2 hR2)
  have HR2 := Lib.hid hR2
  clear hC hR2 hB hn hn2
  go_wp2
  go_ret
  exact ⟨rfl, HR2.out.1, w1, HT1.out, HR2.out.2⟩
def leftN : Option (List Nat) → Nat
  | some l => l.length
  | none => 0
theorem rd_Left {W w : World} {q g : Nat} {L : Option (List Nat)} (h : Rd W q g L w) :
    Calls Tryz.prog 63 #[.pointer (some ⟨q, 0, none⟩)] w fun e w' => e = .returned (.int .i64 (leftN L : Nat)) ∧ w = w' := by
  cases L with
  | none =>
    obtain ⟨h0, h1, hlt⟩ := h.1.facts
    clear h
    go_enter Tryz.func63, Tryz.ntmps63
    go_wp2
    go_ret
    exact ⟨rfl, rfl⟩
  | some l =>
    obtain ⟨o, c, hi, hc⟩ := h.1
    obtain ⟨h0, h1, hf, hlt⟩ := hi.facts
    clear h hi
    go_enter Tryz.func63, Tryz.ntmps63
    go_wp2
    go_ret
    exact ⟨rfl, rfl⟩
end Go.Proofs.YtklmbiekpilkhaaGreatDoor.rd
namespace Go.Proofs.YtklmbiekpilkhaaGreatDoor.nam
open Go.Lib

/-- Byte i of s. -/
def byt (s : ByteArray) (i : Nat) : Nat := (s.data[i]!).toNat
theorem byt_at (s : ByteArray) (i : Nat) (h : i < s.size) : (s[i]'h).toNat = byt s i := by
  unfold byt
  rw [getElem!_pos s.data i (by simpa using h)]; rfl
theorem byt_lt (s : ByteArray) (i : Nat) : byt s i < 256 := UInt8.toNat_lt _
theorem byt_list (s : ByteArray) (i : Nat) (h : i < s.size) : ∃ h', (s.data.toList[i]'h').toNat = byt s i := by
  have h' : i < s.data.toList.length := by rw [← size_eq]; exact h
  refine ⟨h', ?_⟩
  unfold byt
  rw [getElem!_pos s.data i (by simpa using h)]
  simp
theorem byt_some (s : ByteArray) (i : Nat) (h : i < s.size) : ∃ c : UInt8, s.data.toList[i]? = some c ∧ c.toNat = byt s i := by
  obtain ⟨h', e⟩ := byt_list s i h
  exact ⟨_, List.getElem?_eq_getElem h', e⟩

/-- May the byte stand in a part of a name? -/
def nameB (c : Nat) : Bool := decide (c = 46 ∨ c = 95 ∨ c = 45 ∨ (97 ≤ c ∧ c ≤ 122) ∨ (65 ≤ c ∧ c ≤ 90) ∨ (48 ≤ c ∧ c ≤ 57))
theorem nameB_stroke : nameB 47 = false := by decide
/-- Is it a part? -/
def partL (l : List UInt8) : Bool := !l.isEmpty && l.all fun c => nameB c.toNat
/-- The parts of what comes, each ends in a stroke or with it; `p`: a stroke stands ahead. -/
def runL : Bool → List UInt8 → Option Bool
  | p, [] => some p
  | p, c :: r => if c.toNat = 47 then (if p then none else runL true r) else if nameB c.toNat then runL false r else none
theorem runL_append : ∀ (p : Bool) (a b : List UInt8), runL p (a ++ b) = (runL p a).bind fun q => runL q b
  | p, [], b => by simp [runL]
  | p, c :: r, b => by
    simp only [List.cons_append, runL]
    split
    · split
      · rfl
      · exact runL_append true r b
    · split
      · exact runL_append false r b
      · rfl
theorem runL_take (p : Bool) (l : List UInt8) (k : Nat) (h : runL p (l.take k) = none) : runL p l = none := by
  rw [← List.take_append_drop k l, runL_append, h]; rfl
theorem runL_plain (p : Bool) : ∀ (a : List UInt8), (∀ c ∈ a, c.toNat ≠ 47) → runL p a = if a.all (fun c => nameB c.toNat) then some (a.isEmpty && p) else none
  | [], _ => by simp [runL]
  | c :: r, h => by
    have hc : c.toNat ≠ 47 := h c (by simp)
    have ih := runL_plain false r fun x hx => h x (by simp [hx])
    simp only [runL, if_neg hc, List.all_cons]
    by_cases hn : nameB c.toNat = true
    · simp [hn, ih]
    · simp [hn]
def goodL (l : List UInt8) : Bool := runL true l == some false

theorem partL_plain (a : List UInt8) (h : ∀ c ∈ a, c.toNat ≠ 47) : partL a = (runL true a == some false) := by
  rw [runL_plain true a h]
  unfold partL
  cases a.all (fun c => nameB c.toNat) <;> cases a <;> simp
theorem partL_false (a : List UInt8) (c : UInt8) (hc : c ∈ a) (hn : nameB c.toNat = false) : partL a = false := by
  unfold partL
  have : (a.all fun c => nameB c.toNat) = false := by
    rw [List.all_eq_false]
    exact ⟨c, hc, by simp [hn]⟩
  rw [this, Bool.and_false]

theorem split_good : ∀ (k : Nat) (s : List UInt8), count s [47] = k → (splitK [47] 0 k s).all partL = goodL s
  | 0, s, h => by
    have hi : index s [47] = -1 := by
      rcases Int.lt_or_eq_of_le (index_ge s [47]) with h1 | h1
      · obtain ⟨i, hi⟩ := Int.eq_ofNat_of_zero_le (show 0 ≤ index s [47] by omega)
        have := count_hit (s := s) (sub := [47]) (by simp) hi
        omega
      · exact h1.symm
    rw [index_one] at hi
    have hn : ∀ c ∈ s, c.toNat ≠ 47 := fun c hc e => by
      obtain ⟨k, hk⟩ := List.mem_iff_getElem?.1 hc
      refine indexByte_none hi k ?_
      rw [hk]
      exact congrArg some (UInt8.toNat_inj.1 (by simpa using e))
    simp only [splitK, List.all_cons, List.all_nil, Bool.and_true]
    rw [partL_plain s hn]
    rfl
  | k + 1, s, h => by
    have hm : index s [47] ≠ -1 := fun e => by rw [count_miss e] at h; omega
    have hge := index_ge s [47]
    obtain ⟨i, hi⟩ := Int.eq_ofNat_of_zero_le (show 0 ≤ index s [47] by omega)
    have hc := count_hit (s := s) (sub := [47]) (by simp) hi
    have hi' := hi
    rw [index_one] at hi'
    obtain ⟨h1, h2⟩ := indexByte_some hi'
    have hlt : i < s.length := (List.getElem?_eq_some_iff.1 h1).1
    have hge' : ¬ (index s [47] == -1) = true := by simpa using hm
    have et : (index s [47]).toNat = i := by omega
    rw [splitK, if_neg hge', et]
    simp only [Nat.add_zero, List.length_cons, List.length_nil, Nat.zero_add, List.all_cons]
    simp only [List.length_cons, List.length_nil, Nat.zero_add] at hc
    rw [split_good k (s.drop (i + 1)) (by omega)]
    have hn : ∀ c ∈ s.take i, c.toNat ≠ 47 := fun c hc e => by
      obtain ⟨k, hk⟩ := List.mem_iff_getElem?.1 hc
      have hkl : k < i := by
        have := (List.getElem?_eq_some_iff.1 hk).1
        rw [List.length_take] at this
        omega
      rw [List.getElem?_take, if_pos hkl] at hk
      refine h2 k hkl ?_
      rw [hk]
      exact congrArg some (UInt8.toNat_inj.1 (by simpa using e))
    have e1 : s = s.take i ++ 47 :: s.drop (i + 1) := by
      have : s[i] = 47 := by
        have := List.getElem?_eq_some_iff.1 h1
        exact this.2
      rw [← this, List.getElem_cons_drop, List.take_append_drop]
    unfold goodL
    rw [partL_plain _ hn]
    conv => rhs; rw [e1, runL_append]
    cases hr : runL true (s.take i) with
    | none => simp
    | some q => cases q <;> simp [runL]

theorem split_goodB (s : ByteArray) : (splitB ⟨#[47]⟩ 0 (countB s ⟨#[47]⟩) s).all (fun t => partL t.data.toList) = goodL s.data.toList := by
  have h := split_good _ s.data.toList rfl
  have e := splitB_data ⟨#[47]⟩ 0 (countB s ⟨#[47]⟩) s
  have e2 : (splitB ⟨#[47]⟩ 0 (countB s ⟨#[47]⟩) s).all (fun t => partL t.data.toList) = ((splitB ⟨#[47]⟩ 0 (countB s ⟨#[47]⟩) s).map (·.data.toList)).all partL := by
    rw [List.all_map]; rfl
  rw [e2, e]
  exact h

theorem splitB_size (sep : ByteArray) : ∀ (k : Nat) (s : ByteArray), ∀ t ∈ splitB sep 0 k s, t.size ≤ s.size
  | 0, s, t, h => by
    rw [splitB_zero] at h
    simp at h
    subst h
    exact Nat.le_refl _
  | k + 1, s, t, h => by
    unfold splitB at h
    split at h
    · simp at h
      subst h
      exact Nat.le_refl _
    · rcases List.mem_cons.1 h with rfl | h
      · rw [ByteArray.size_extract]; omega
      · have := splitB_size sep k _ t h
        rw [ByteArray.size_extract] at this
        omega

/-- A small letter for a great one. -/
def low (c : Nat) : Nat := if 65 ≤ c ∧ c ≤ 90 then c + 32 else c
def alike (s t : ByteArray) : Bool := decide (s.size = t.size) && (List.range s.size).all fun i => low (byt s i) == low (byt t i)
theorem alike_false (s t : ByteArray) (i : Nat) (h : i < s.size) (hne : (low (byt s i) == low (byt t i)) = false) : alike s t = false := by
  unfold alike
  have : ((List.range s.size).all fun i => low (byt s i) == low (byt t i)) = false := by
    rw [List.all_eq_false]
    exact ⟨i, List.mem_range.2 h, by simp [hne]⟩
  rw [this, Bool.and_false]
theorem alike_true (s t : ByteArray) (h : s.size = t.size) (he : ∀ i, i < s.size → (low (byt s i) == low (byt t i)) = true) : alike s t = true := by
  unfold alike
  simp only [h, decide_true, Bool.true_and, List.all_eq_true, List.mem_range]
  intro i hi
  exact he i (by omega)
theorem alike_size (s t : ByteArray) (h : s.size ≠ t.size) : alike s t = false := by
  unfold alike
  simp [h]

def inbox : ByteArray := ⟨#[105, 110, 98, 111, 120]⟩
def INBOX : ByteArray := ⟨#[73, 78, 66, 79, 88]⟩
theorem fold_low (x y : UInt8) : foldEq x y = (low x.toNat == low y.toNat) := by
  have hx := UInt8.toNat_lt x
  have hy := UInt8.toNat_lt y
  rw [Bool.eq_iff_iff]
  unfold foldEq low
  simp only [decide_eq_true_eq, beq_iff_eq]
  split <;> split <;> omega
theorem equalFold_map : ∀ (s t : List UInt8), equalFold s t = (s.map (fun c => low c.toNat) == t.map (fun c => low c.toNat))
  | [], [] => rfl
  | [], _ :: _ => rfl
  | _ :: _, [] => rfl
  | x :: s, y :: t => by
    rw [equalFold, equalFold_map s t, fold_low]
    simp
theorem alike_map (s t : ByteArray) : alike s t = (s.data.toList.map (fun c => low c.toNat) == t.data.toList.map (fun c => low c.toNat)) := by
  have hs := size_eq s
  have ht := size_eq t
  rw [Bool.eq_iff_iff]
  unfold alike
  simp only [Bool.and_eq_true, decide_eq_true_eq, List.all_eq_true, List.mem_range, beq_iff_eq]
  constructor
  · rintro ⟨h1, h2⟩
    apply List.ext_getElem
    · simp only [List.length_map]; omega
    · intro i hi hi'
      simp only [List.length_map] at hi hi'
      have h3 := h2 i (by omega)
      obtain ⟨a, ea⟩ := byt_list s i (by omega)
      obtain ⟨b, eb⟩ := byt_list t i (by omega)
      simp only [List.getElem_map, ea, eb]
      exact h3
  · intro h
    have hl : s.size = t.size := by
      have := congrArg List.length h
      simp only [List.length_map] at this
      omega
    refine ⟨hl, fun i hi => ?_⟩
    obtain ⟨a, ea⟩ := byt_list s i hi
    obtain ⟨b, eb⟩ := byt_list t i (by omega)
    have := congrArg (fun l : List Nat => l[i]?) h
    simp only [List.getElem?_map, List.getElem?_eq_getElem a, List.getElem?_eq_getElem b, Option.map_some, Option.some.injEq, ea, eb] at this
    exact this
theorem fold_inbox (s : ByteArray) : equalFold s.data.toList INBOX.data.toList = alike s inbox := by
  rw [equalFold_map, alike_map]
  have : INBOX.data.toList.map (fun c => low c.toNat) = inbox.data.toList.map (fun c => low c.toNat) := by decide
  rw [this]

/-- Is it a name? -/
def normOk (s : ByteArray) : Bool := decide (s.size ≤ 60) && goodL s.data.toList
def normS (s : ByteArray) : ByteArray := if normOk s then (if alike s inbox then INBOX else s) else ⟨#[]⟩
theorem goodL_ascii (l : List UInt8) (p : Bool) (h : runL p l ≠ none) : ∀ c ∈ l, c.toNat < 128 := by
  induction l generalizing p with
  | nil => simp
  | cons c r ih =>
    intro x hx
    simp only [runL] at h
    rcases List.mem_cons.1 hx with rfl | hx'
    · by_cases h1 : x.toNat = 47
      · omega
      · rw [if_neg h1] at h
        cases hn : nameB x.toNat
        · rw [hn] at h; simp at h
        · unfold nameB at hn
          simp only [decide_eq_true_eq] at hn
          omega
    · by_cases h1 : c.toNat = 47
      · rw [if_pos h1] at h
        cases p
        · exact ih true (by simpa using h) x hx'
        · simp at h
      · rw [if_neg h1] at h
        cases hn : nameB c.toNat
        · rw [hn] at h; simp at h
        · rw [hn] at h
          exact ih false (by simpa using h) x hx'
theorem normOk_ascii (s : ByteArray) (h : normOk s = true) : ∀ (j : Nat) b, s.data.toList[j]? = some b → b.toNat < 128 := by
  intro j b hb
  unfold normOk goodL at h
  simp only [Bool.and_eq_true, beq_iff_eq] at h
  exact goodL_ascii _ true (by rw [h.2]; simp) b (List.mem_of_getElem? hb)
theorem INBOX_ascii : ∀ (j : Nat) b, INBOX.data.toList[j]? = some b → b.toNat < 128 := by
  intro j b hb
  have : ∀ c ∈ INBOX.data.toList, c.toNat < 128 := by decide
  exact this b (List.mem_of_getElem? hb)
theorem normOk_INBOX : normOk INBOX = true := by decide
theorem alike_INBOX : alike INBOX inbox = true := by decide
theorem normOk_inbox : normOk inbox = true := by decide
theorem alike_inbox : alike inbox inbox = true := by decide
theorem norm_again (s : ByteArray) (h : normOk s = true) : normOk (normS s) = true ∧ normS (normS s) = normS s := by
  have e : normS s = if alike s inbox then INBOX else s := by unfold normS; rw [if_pos h]
  by_cases ha : alike s inbox = true
  · rw [if_pos ha] at e
    rw [e]
    refine ⟨normOk_INBOX, ?_⟩
    unfold normS
    rw [if_pos normOk_INBOX, if_pos alike_INBOX]
  · rw [if_neg ha] at e
    rw [e]
    exact ⟨h, e⟩

/-! ### One byte more -/
theorem take_succ_byt (s : ByteArray) (k : Nat) (h : k < s.size) : ∃ c : UInt8, c.toNat = byt s k ∧ s.data.toList.take (k + 1) = s.data.toList.take k ++ [c] := by
  obtain ⟨c, hc, e⟩ := byt_some s k h
  refine ⟨c, e, ?_⟩
  rw [List.take_add_one, hc]
  rfl
theorem run_stroke_stroke (s : ByteArray) (k : Nat) (h : k < s.size) (hr : runL true (s.data.toList.take k) = some true) (hb : byt s k = 47) : goodL s.data.toList = false := by
  obtain ⟨c, e, et⟩ := take_succ_byt s k h
  have : runL true (s.data.toList.take (k + 1)) = none := by
    rw [et, runL_append, hr]
    simp [runL, e, hb]
  unfold goodL
  rw [runL_take true _ (k + 1) this]; rfl
theorem run_bad (s : ByteArray) (k : Nat) (h : k < s.size) (q : Bool) (hr : runL true (s.data.toList.take k) = some q) (hb : byt s k ≠ 47) (hn : nameB (byt s k) = false) : goodL s.data.toList = false := by
  obtain ⟨c, e, et⟩ := take_succ_byt s k h
  have : runL true (s.data.toList.take (k + 1)) = none := by
    rw [et, runL_append, hr]
    simp [runL, e, hb, hn]
  unfold goodL
  rw [runL_take true _ (k + 1) this]; rfl
theorem run_stroke (s : ByteArray) (k : Nat) (h : k < s.size) (hr : runL true (s.data.toList.take k) = some false) (hb : byt s k = 47) : runL true (s.data.toList.take (k + 1)) = some true := by
  obtain ⟨c, e, et⟩ := take_succ_byt s k h
  rw [et, runL_append, hr]
  simp [runL, e, hb]
theorem run_good (s : ByteArray) (k : Nat) (h : k < s.size) (q : Bool) (hr : runL true (s.data.toList.take k) = some q) (hb : byt s k ≠ 47) (hn : nameB (byt s k) = true) : runL true (s.data.toList.take (k + 1)) = some false := by
  obtain ⟨c, e, et⟩ := take_succ_byt s k h
  rw [et, runL_append, hr]
  simp [runL, e, hb, hn]
theorem run_end (s : ByteArray) (q : Bool) (hr : runL true (s.data.toList.take s.size) = some q) : goodL s.data.toList = !q := by
  have : s.data.toList.take s.size = s.data.toList := by rw [size_eq, List.take_length]
  rw [this] at hr
  unfold goodL
  rw [hr]
  cases q <;> rfl
theorem part_bad (s : ByteArray) (k : Nat) (h : k < s.size) (hn : nameB (byt s k) = false) : partL s.data.toList = false := by
  obtain ⟨c, hc, e⟩ := byt_some s k h
  exact partL_false _ c (List.mem_of_getElem? hc) (by rw [e]; exact hn)
theorem part_end (s : ByteArray) (h : ∀ k, k < s.size → nameB (byt s k) = true) : partL s.data.toList = decide (s.size ≠ 0) := by
  have hall : (s.data.toList.all fun c => nameB c.toNat) = true := by
    rw [List.all_eq_true]
    intro c hc
    obtain ⟨k, hk⟩ := List.mem_iff_getElem?.1 hc
    have hlt : k < s.size := by rw [size_eq]; exact (List.getElem?_eq_some_iff.1 hk).1
    obtain ⟨c', hc', e⟩ := byt_some s k hlt
    rw [hk] at hc'
    cases hc'
    rw [e]
    exact h k hlt
  unfold partL
  rw [hall, Bool.and_true, size_eq]
  cases s.data.toList <;> simp

/-! ### What stands ahead of the last stroke -/
def upN (s : ByteArray) : Nat := (lastIndexByte s 47).toNat
def upS (s : ByteArray) : ByteArray := s.extract 0 (upN s)
theorem extract_zero (s : ByteArray) : s.extract 0 0 = ⟨#[]⟩ := by
  apply ByteArray.ext
  simp
theorem upN_le (s : ByteArray) : upN s ≤ s.size := by
  unfold upN
  rcases lastIndexByte_spec s 47 with ⟨h, _⟩ | ⟨i, hi, h, _⟩ <;> rw [h] <;> simp <;> omega
end Go.Proofs.YtklmbiekpilkhaaGreatDoor.nam
namespace Go.Proofs.YtklmbiekpilkhaaGreatDoor.bod
open Go.Proofs.YtklmbiekpilkhaaGreatDoor.codec (bytesOf byteAt bytesOf_length bytesOf_lt strOf numOf numFrom numOf_take numOf_lt numOf_bytes strOf_size)
open Go.Proofs.YtklmbiekpilkhaaGreatDoor.rd
set_option linter.unusedVariables false
set_option linter.unusedSimpArgs false

/-- Is it a name, as it should be? -/
def named (s : ByteArray) : Bool := nam.normOk s && decide (nam.normS s = s)
def fitsB (d f : Int) (n : Nat) : Bool := decide (0 ≤ d ∧ d ≤ 253402300799) && (decide (0 ≤ f ∧ f < 32) && decide (n ≤ 20000))
def emptyB (d f : Int) (n : Nat) : Bool := decide (d = 0) && (decide (f = 0) && decide (n = 0))
/-- May a note be? -/
def formedB (k : Int) (e : Nat) (s : ByteArray) (u : Nat) (d f : Int) (n : Nat) : Bool :=
  if k = 1 then decide (e ≠ 0) && (named s && (decide (u = 0) && emptyB d f n))
  else if k = 2 then decide (e ≠ 0) && (named s && (decide (u ≠ 0) && fitsB d f n))
  else if k = 3 then decide (e ≠ 0) && (decide (s.size = 0) && (decide (u ≠ 0) && emptyB d f n))
  else false
def nums (s : ByteArray) : List Nat := s.data.toList.map UInt8.toNat
theorem nums_length (s : ByteArray) : (nums s).length = s.size := by
  unfold nums
  rw [List.length_map, Array.length_toList]
  rfl
theorem nums_lt (s : ByteArray) : ∀ x ∈ nums s, x < 256 := by
  intro x hx
  obtain ⟨c, _, rfl⟩ := List.mem_map.1 hx
  exact c.toNat_lt
theorem strOf_nums (s : ByteArray) : strOf (nums s) = s := by
  unfold strOf nums
  rw [List.map_map, show UInt8.ofNat ∘ UInt8.toNat = id from funext fun c => by simp, List.map_id]
theorem nums_strOf {l : List Nat} (h : ∀ x ∈ l, x < 256) : nums (strOf l) = l := by
  unfold strOf nums
  simp only [List.map_map]
  conv => rhs; rw [← List.map_id l]
  refine List.map_congr_left fun x hx => ?_
  simp [Nat.mod_eq_of_lt (h x hx)]
/-- A text behind its length. -/
def txt (s : ByteArray) : List Nat := bytesOf s.size 2 ++ nums s
/-- The payload of a note. -/
def payL (k : Int) (e : Nat) (s : ByteArray) (u : Nat) (d f : Int) (o : List Nat) : List Nat :=
  if k = 1 then bytesOf e 4 ++ txt s
  else if k = 2 then bytesOf e 4 ++ (bytesOf u 4 ++ (bytesOf d.toNat 6 ++ (bytesOf f.toNat 1 ++ (txt s ++ o))))
  else bytesOf e 4 ++ bytesOf u 4
theorem byteAt_next (v x n j : Nat) (hx : x < 256) (hj : j < n) : byteAt (v * 256 + x) (n + 1) j = byteAt v n j := by
  unfold byteAt
  rw [show n + 1 - 1 - j = (n - 1 - j) + 1 by omega, Nat.pow_succ, Nat.mul_comm (256 ^ _) 256, ← Nat.div_div_eq_div_mul, show (v * 256 + x) / 256 = v by omega]
theorem bytesOf_next (v x n : Nat) (hx : x < 256) : bytesOf (v * 256 + x) (n + 1) = bytesOf v n ++ [x] := by
  unfold bytesOf
  rw [List.range_succ, List.map_append, List.map_singleton]
  congr 1
  · exact List.map_congr_left fun j hj => byteAt_next v x n j hx (List.mem_range.1 hj)
  · unfold byteAt
    rw [show n + 1 - 1 - n = 0 by omega]
    simp
    omega
theorem bytesOf_take {l : List Nat} (h : ∀ b ∈ l, b < 256) : ∀ k, k ≤ l.length → bytesOf (numOf (l.take k)) k = l.take k
  | 0, _ => by simp [bytesOf]
  | k + 1, hk => by
    have hx : l.getD k 0 < 256 := by
      have hk' : k < l.length := hk
      simp only [List.getD_eq_getElem?_getD, List.getElem?_eq_getElem hk', Option.getD_some]
      exact h _ (List.getElem_mem _)
    rw [numOf_take l k hk, bytesOf_next _ _ _ hx, bytesOf_take h k (Nat.le_of_lt hk)]
    have hk' : k < l.length := hk
    rw [List.take_add_one, List.getElem?_eq_getElem hk', List.getD_eq_getElem?_getD, List.getElem?_eq_getElem hk']
    rfl
theorem bytesOf_num {l : List Nat} (h : ∀ b ∈ l, b < 256) {n : Nat} (hn : l.length = n) : bytesOf (numOf l) n = l := by
  have := bytesOf_take h n (by omega)
  rw [List.take_of_length_le (by omega)] at this
  exact this
theorem num_lt {l : List Nat} (h : ∀ b ∈ l, b < 256) {n : Nat} (hn : l.length ≤ n) : numOf l < 256 ^ n := by
  have := numOf_lt l h l.length
  rw [List.take_length] at this
  exact Nat.lt_of_lt_of_le this (Nat.pow_le_pow_right (by decide) hn)
theorem got_len (k : Nat) (L : Option (List Nat)) : (got k L).length ≤ k := by
  cases L with
  | none => simp [got]
  | some l => simp only [got]; split <;> simp; omega
theorem got_lt {k : Nat} {L : Option (List Nat)} (h : ∀ l, L = some l → ∀ b ∈ l, b < 256) : ∀ b ∈ got k L, b < 256 := by
  intro b hb
  cases L with
  | none => simp [got] at hb
  | some l =>
    simp only [got] at hb
    split at hb
    · exact h l rfl b (List.mem_of_mem_take hb)
    · simp at hb
theorem got_num {k : Nat} {L : Option (List Nat)} (h : ∀ l, L = some l → ∀ b ∈ l, b < 256) : numOf (got k L) < 256 ^ k := num_lt (got_lt h) (got_len k L)
/-- What was read, if something is left. -/
theorem unread {k : Nat} {L : Option (List Nat)} {l' : List Nat} (h : rest k L = some l') : L = some (got k L ++ l') ∧ (got k L).length = k := by
  cases L with
  | none => simp [rest] at h
  | some l =>
    simp only [rest] at h
    split at h
    · rename_i hk
      obtain rfl := Option.some.inj h
      simp only [got, if_pos hk, List.take_append_drop, List.length_take, Nat.min_eq_left hk]
      exact ⟨trivial, trivial⟩
    · cases h
theorem got_app {a b : List Nat} {k : Nat} (h : a.length = k) : got k (some (a ++ b)) = a := by
  subst h
  simp [got]
theorem rest_app {a b : List Nat} {k : Nat} (h : a.length = k) : rest k (some (a ++ b)) = some b := by
  subst h
  simp [rest]
/-- Where the reader stands. -/
def LA (L : List Nat) : Option (List Nat) := rest 4 (some L)
def LT (L : Option (List Nat)) : Option (List Nat) := rest (numOf (got 2 L)) (rest 2 L)
def TX (L : Option (List Nat)) : ByteArray := strOf (got (numOf (got 2 L)) (rest 2 L))
def LU (L : List Nat) := rest 4 (LA L)
def LD (L : List Nat) := rest 6 (LU L)
def LF (L : List Nat) := rest 1 (LD L)
def LO (L : List Nat) := rest (leftN (LT (LF L))) (LT (LF L))
/-- What a payload says. -/
def epN (L : List Nat) : Nat := numOf (got 4 (some L))
def uidN (L : List Nat) : Nat := numOf (got 4 (LA L))
def datN (L : List Nat) : Nat := numOf (got 6 (LU L))
def flaN (L : List Nat) : Nat := numOf (got 1 (LD L))
def octN (L : List Nat) : List Nat := got (leftN (LT (LF L))) (LT (LF L))
def ok1 (L : List Nat) : Bool := decide (LT (LA L) = some []) && formedB 1 (epN L) (TX (LA L)) 0 0 0 0
def ok2 (L : List Nat) : Bool := decide (LO L = some []) && formedB 2 (epN L) (TX (LF L)) (uidN L) (datN L) (flaN L) (octN L).length
def ok3 (L : List Nat) : Bool := decide (LU L = some []) && formedB 3 (epN L) ByteArray.empty (uidN L) 0 0 0

variable {L : List Nat} (hb : ∀ b ∈ L, b < 256)
include hb
theorem ltA : ∀ l, some L = some l → ∀ b ∈ l, b < 256 := fun l e => by cases e; exact hb
theorem ltLA : ∀ l, LA L = some l → ∀ b ∈ l, b < 256 := rest_lt 4 (ltA hb)
theorem ltLU : ∀ l, LU L = some l → ∀ b ∈ l, b < 256 := rest_lt 4 (ltLA hb)
theorem ltLD : ∀ l, LD L = some l → ∀ b ∈ l, b < 256 := rest_lt 6 (ltLU hb)
theorem ltLF : ∀ l, LF L = some l → ∀ b ∈ l, b < 256 := rest_lt 1 (ltLD hb)
theorem ltLT : ∀ l, LT (LF L) = some l → ∀ b ∈ l, b < 256 := rest_lt _ (rest_lt 2 (ltLF hb))
theorem ep_lt : epN L < 4294967296 := got_num (ltA hb)
theorem uid_lt : uidN L < 4294967296 := got_num (ltLA hb)
theorem dat_lt : datN L < 281474976710656 := got_num (ltLU hb)
theorem fla_lt : flaN L < 256 := got_num (ltLD hb)
omit hb
theorem text_read {M : Option (List Nat)} (hM : ∀ l, M = some l → ∀ b ∈ l, b < 256) {l : List Nat} (h : LT M = some l) : M = some (txt (TX M) ++ l) := by
  obtain ⟨e1, n1⟩ := unread h
  obtain ⟨e2, n2⟩ := unread e1
  have h2 := rest_lt 2 hM
  have g2 := got_lt (k := numOf (got 2 M)) h2
  have hs : (TX M).size = numOf (got 2 M) := by
    unfold TX
    rw [strOf_size, n1]
  have hn : nums (TX M) = got (numOf (got 2 M)) (rest 2 M) := nums_strOf g2
  unfold txt
  rw [hs, hn, bytesOf_num (got_lt hM) n2, List.append_assoc]
  exact e2
include hb
theorem says1 (h : ok1 L = true) : formedB 1 (epN L) (TX (LA L)) 0 0 0 0 = true ∧ payL 1 (epN L) (TX (LA L)) 0 0 0 [] = L := by
  simp only [ok1, Bool.and_eq_true, decide_eq_true_eq] at h
  refine ⟨h.2, ?_⟩
  have e1 := text_read (ltLA hb) h.1
  obtain ⟨e2, n2⟩ := unread e1
  have e3 := bytesOf_num (got_lt (k := 4) (ltA hb)) n2
  have e4 := Option.some.inj e2
  simp only [payL, if_true]
  unfold epN
  rw [e3]
  simpa using e4.symm
theorem says2 (h : ok2 L = true) : formedB 2 (epN L) (TX (LF L)) (uidN L) (datN L) (flaN L) (octN L).length = true ∧ payL 2 (epN L) (TX (LF L)) (uidN L) (datN L) (flaN L) (octN L) = L := by
  simp only [ok2, Bool.and_eq_true, decide_eq_true_eq] at h
  refine ⟨h.2, ?_⟩
  obtain ⟨e0, _⟩ := unread h.1
  have e1 := text_read (ltLF hb) e0
  obtain ⟨e2, n2⟩ := unread e1
  obtain ⟨e3, n3⟩ := unread e2
  obtain ⟨e4, n4⟩ := unread e3
  obtain ⟨e5, n5⟩ := unread e4
  have f2 := bytesOf_num (got_lt (k := 1) (ltLD hb)) n2
  have f3 := bytesOf_num (got_lt (k := 6) (ltLU hb)) n3
  have f4 := bytesOf_num (got_lt (k := 4) (ltLA hb)) n4
  have f5 := bytesOf_num (got_lt (k := 4) (ltA hb)) n5
  have e := Option.some.inj e5
  simp only [payL, if_neg (show ¬ (2 : Int) = 1 by decide), if_true, Int.toNat_natCast]
  unfold epN uidN datN flaN octN
  rw [f2, f3, f4, f5]
  simpa using e.symm
theorem says3 (h : ok3 L = true) : formedB 3 (epN L) ByteArray.empty (uidN L) 0 0 0 = true ∧ payL 3 (epN L) ByteArray.empty (uidN L) 0 0 [] = L := by
  simp only [ok3, Bool.and_eq_true, decide_eq_true_eq] at h
  refine ⟨h.2, ?_⟩
  obtain ⟨e4, n4⟩ := unread h.1
  obtain ⟨e5, n5⟩ := unread e4
  have f4 := bytesOf_num (got_lt (k := 4) (ltLA hb)) n4
  have f5 := bytesOf_num (got_lt (k := 4) (ltA hb)) n5
  have e := Option.some.inj e5
  simp only [payL, if_neg (show ¬ (3 : Int) = 1 by decide), if_neg (show ¬ (3 : Int) = 2 by decide)]
  unfold epN uidN
  rw [f4, f5]
  simpa using e.symm
omit hb
theorem named_size {s : ByteArray} (h : named s = true) : s.size ≤ 60 := by
  simp only [named, nam.normOk, Bool.and_eq_true, decide_eq_true_eq] at h
  exact h.1.1
theorem text_back {s : ByteArray} (hs : s.size ≤ 60) (l : List Nat) : TX (some (txt s ++ l)) = s ∧ LT (some (txt s ++ l)) = some l := by
  have h1 : got 2 (some (txt s ++ l)) = bytesOf s.size 2 := by
    unfold txt
    rw [List.append_assoc]
    exact got_app (bytesOf_length _ _)
  have h2 : rest 2 (some (txt s ++ l)) = some (nums s ++ l) := by
    unfold txt
    rw [List.append_assoc]
    exact rest_app (bytesOf_length _ _)
  have h3 : numOf (bytesOf s.size 2) = s.size := numOf_bytes _ _ (by omega)
  unfold TX LT
  rw [h1, h2, h3, got_app (nums_length s), rest_app (nums_length s), strOf_nums]
  exact ⟨rfl, rfl⟩
theorem back1 {e u : Nat} {s : ByteArray} {d f : Int} {o : List Nat} (he : e < 4294967296) (h : formedB 1 e s u d f o.length = true) :
    ok1 (payL 1 e s u d f o) = true ∧ epN (payL 1 e s u d f o) = e ∧ TX (LA (payL 1 e s u d f o)) = s ∧ u = 0 ∧ d = 0 ∧ f = 0 ∧ o = [] := by
  have h0 := h
  simp only [formedB, emptyB, if_true, Bool.and_eq_true, decide_eq_true_eq] at h
  obtain ⟨h1, h2, rfl, rfl, rfl, h6⟩ := h
  obtain rfl := List.eq_nil_of_length_eq_zero h6
  have hA : LA (payL 1 e s 0 0 0 []) = some (txt s ++ []) := by
    simp only [payL, if_true, List.append_nil]
    exact rest_app (bytesOf_length _ _)
  have hE : epN (payL 1 e s 0 0 0 []) = e := by
    simp only [payL, if_true, epN]
    rw [got_app (bytesOf_length _ _)]
    exact numOf_bytes _ _ (by omega)
  obtain ⟨t1, t2⟩ := text_back (named_size h2) []
  refine ⟨?_, hE, by rw [hA, t1], rfl, rfl, rfl, rfl⟩
  simp only [ok1, hA, t2, hE, t1, decide_true, Bool.true_and]
  exact h0
theorem back2 {e u : Nat} {s : ByteArray} {d f : Int} {o : List Nat} (he : e < 4294967296) (hu : u < 4294967296) (h : formedB 2 e s u d f o.length = true) :
    ok2 (payL 2 e s u d f o) = true ∧ epN (payL 2 e s u d f o) = e ∧ TX (LF (payL 2 e s u d f o)) = s ∧ uidN (payL 2 e s u d f o) = u ∧ (datN (payL 2 e s u d f o) : Int) = d ∧ (flaN (payL 2 e s u d f o) : Int) = f ∧ octN (payL 2 e s u d f o) = o := by
  have h0 := h
  simp only [formedB, fitsB, if_neg (show ¬ (2 : Int) = 1 by decide), if_true, Bool.and_eq_true, decide_eq_true_eq] at h
  obtain ⟨h1, h2, h3, ⟨h4, h5⟩, ⟨h6, h7⟩, h8⟩ := h
  obtain ⟨d, rfl⟩ := Int.eq_ofNat_of_zero_le h4
  obtain ⟨f, rfl⟩ := Int.eq_ofNat_of_zero_le h6
  have hP : payL 2 e s u d f o = bytesOf e 4 ++ (bytesOf u 4 ++ (bytesOf d 6 ++ (bytesOf f 1 ++ (txt s ++ o)))) := by
    simp only [payL, if_neg (show ¬ (2 : Int) = 1 by decide), if_true, Int.toNat_natCast]
  rw [hP]
  have hA : LA (bytesOf e 4 ++ (bytesOf u 4 ++ (bytesOf d 6 ++ (bytesOf f 1 ++ (txt s ++ o))))) = some (bytesOf u 4 ++ (bytesOf d 6 ++ (bytesOf f 1 ++ (txt s ++ o)))) := rest_app (bytesOf_length _ _)
  have hU : LU (bytesOf e 4 ++ (bytesOf u 4 ++ (bytesOf d 6 ++ (bytesOf f 1 ++ (txt s ++ o))))) = some (bytesOf d 6 ++ (bytesOf f 1 ++ (txt s ++ o))) := by unfold LU; rw [hA]; exact rest_app (bytesOf_length _ _)
  have hD : LD (bytesOf e 4 ++ (bytesOf u 4 ++ (bytesOf d 6 ++ (bytesOf f 1 ++ (txt s ++ o))))) = some (bytesOf f 1 ++ (txt s ++ o)) := by unfold LD; rw [hU]; exact rest_app (bytesOf_length _ _)
  have hF : LF (bytesOf e 4 ++ (bytesOf u 4 ++ (bytesOf d 6 ++ (bytesOf f 1 ++ (txt s ++ o))))) = some (txt s ++ o) := by unfold LF; rw [hD]; exact rest_app (bytesOf_length _ _)
  obtain ⟨t1, t2⟩ := text_back (named_size h2) o
  have e1 : epN (bytesOf e 4 ++ (bytesOf u 4 ++ (bytesOf d 6 ++ (bytesOf f 1 ++ (txt s ++ o))))) = e := by
    unfold epN; rw [got_app (bytesOf_length _ _)]; exact numOf_bytes _ _ (by omega)
  have e2 : uidN (bytesOf e 4 ++ (bytesOf u 4 ++ (bytesOf d 6 ++ (bytesOf f 1 ++ (txt s ++ o))))) = u := by
    unfold uidN; rw [hA, got_app (bytesOf_length _ _)]; exact numOf_bytes _ _ (by omega)
  have e3 : datN (bytesOf e 4 ++ (bytesOf u 4 ++ (bytesOf d 6 ++ (bytesOf f 1 ++ (txt s ++ o))))) = d := by
    unfold datN; rw [hU, got_app (bytesOf_length _ _)]; exact numOf_bytes _ _ (by omega)
  have e4 : flaN (bytesOf e 4 ++ (bytesOf u 4 ++ (bytesOf d 6 ++ (bytesOf f 1 ++ (txt s ++ o))))) = f := by
    unfold flaN; rw [hD, got_app (bytesOf_length _ _)]; exact numOf_bytes _ _ (by omega)
  have e5 : octN (bytesOf e 4 ++ (bytesOf u 4 ++ (bytesOf d 6 ++ (bytesOf f 1 ++ (txt s ++ o))))) = o := by
    unfold octN; rw [hF, t2]; simp [got, leftN]
  have e6 : LO (bytesOf e 4 ++ (bytesOf u 4 ++ (bytesOf d 6 ++ (bytesOf f 1 ++ (txt s ++ o))))) = some [] := by
    unfold LO; rw [hF, t2]; simp [rest, leftN]
  refine ⟨?_, e1, by rw [hF, t1], e2, by rw [e3], by rw [e4], e5⟩
  unfold ok2
  rw [e1, e2, e3, e4, e5, e6, hF, t1]
  simp only [decide_true, Bool.true_and]
  exact h0
theorem back3 {e u : Nat} {s : ByteArray} {d f : Int} {o : List Nat} (he : e < 4294967296) (hu : u < 4294967296) (h : formedB 3 e s u d f o.length = true) :
    ok3 (payL 3 e s u d f o) = true ∧ epN (payL 3 e s u d f o) = e ∧ uidN (payL 3 e s u d f o) = u ∧ s = ByteArray.empty ∧ d = 0 ∧ f = 0 ∧ o = [] := by
  have h0 := h
  simp only [formedB, emptyB, if_neg (show ¬ (3 : Int) = 1 by decide), if_neg (show ¬ (3 : Int) = 2 by decide), if_true, Bool.and_eq_true, decide_eq_true_eq] at h
  obtain ⟨h1, h2, h3, rfl, rfl, h6⟩ := h
  obtain rfl := List.eq_nil_of_length_eq_zero h6
  obtain rfl : s = ByteArray.empty := by
    cases s with
    | mk a => exact congrArg ByteArray.mk (Array.eq_empty_of_size_eq_zero h2)
  have hP : payL 3 e ByteArray.empty u 0 0 [] = bytesOf e 4 ++ (bytesOf u 4 ++ []) := by
    simp only [payL, if_neg (show ¬ (3 : Int) = 1 by decide), if_neg (show ¬ (3 : Int) = 2 by decide), List.append_nil]
  rw [hP]
  have hA : LA (bytesOf e 4 ++ (bytesOf u 4 ++ [])) = some (bytesOf u 4 ++ []) := rest_app (bytesOf_length _ _)
  have hU : LU (bytesOf e 4 ++ (bytesOf u 4 ++ [])) = some [] := by unfold LU; rw [hA]; exact rest_app (bytesOf_length _ _)
  have e1 : epN (bytesOf e 4 ++ (bytesOf u 4 ++ [])) = e := by
    unfold epN; rw [got_app (bytesOf_length _ _)]; exact numOf_bytes _ _ (by omega)
  have e2 : uidN (bytesOf e 4 ++ (bytesOf u 4 ++ [])) = u := by
    unfold uidN; rw [hA, got_app (bytesOf_length _ _)]; exact numOf_bytes _ _ (by omega)
  refine ⟨?_, e1, e2, rfl, rfl, rfl, rfl⟩
  unfold ok3
  rw [e1, e2, hU]
  simp only [decide_true, Bool.true_and]
  exact h0
theorem payL_lt {k : Int} {e u : Nat} {s : ByteArray} {d f : Int} {o : List Nat} (ho : ∀ b ∈ o, b < 256) : ∀ b ∈ payL k e s u d f o, b < 256 := by
  have ht : ∀ b ∈ txt s, b < 256 := codec.all_lt (bytesOf_lt _ _) (nums_lt s)
  unfold payL
  split
  · exact codec.all_lt (bytesOf_lt _ _) ht
  · split
    · exact codec.all_lt (bytesOf_lt _ _) (codec.all_lt (bytesOf_lt _ _) (codec.all_lt (bytesOf_lt _ _) (codec.all_lt (bytesOf_lt _ _) (codec.all_lt ht ho))))
    · exact codec.all_lt (bytesOf_lt _ _) (bytesOf_lt _ _)
theorem txt_length (s : ByteArray) : (txt s).length = 2 + s.size := by simp [txt, bytesOf_length, nums_length]
theorem payL_length {k : Int} {e u : Nat} {s : ByteArray} {d f : Int} {o : List Nat} (h : formedB k e s u d f o.length = true) : (payL k e s u d f o).length ≤ 20077 := by
  unfold formedB at h
  unfold payL
  split at h
  · rename_i hk
    simp only [Bool.and_eq_true] at h
    have := named_size h.2.1
    rw [if_pos hk, List.length_append, bytesOf_length, txt_length]
    omega
  · rename_i hk
    rw [if_neg hk]
    split at h
    · rename_i hk2
      simp only [fitsB, Bool.and_eq_true, decide_eq_true_eq] at h
      have := named_size h.2.1
      rw [if_pos hk2]
      simp only [List.length_append, bytesOf_length, txt_length]
      omega
    · rename_i hk2
      rw [if_neg hk2]
      simp [bytesOf_length]
end Go.Proofs.YtklmbiekpilkhaaGreatDoor.bod
namespace Go.Proofs.YtklmbiekpilkhaaGreatDoor.row
open Go.ChangeShapes Go.WideShapes Go.ChangeAt Go.RowKit
set_option linter.unusedVariables false
set_option maxRecDepth 100000
set_option linter.unusedSimpArgs false

structure Fm {α : Type} (F : α → List Value) (K : Nat) : Prop where
  len : ∀ y, (F y).length = K
  one : ∀ y, ∀ u ∈ F y, u.oneCell' = true
def fl {α : Type} (F : α → List Value) (ys : List α) : List Value := ys.flatMap F
theorem fl_snoc {α : Type} (F : α → List Value) (ys : List α) (y : α) : fl F (ys ++ [y]) = fl F ys ++ F y := by simp [fl]
theorem fl_at {α : Type} {F : α → List Value} {K : Nat} (hF : Fm F K) : ∀ (ys : List α) (k : Nat) (y : α), ys[k]? = some y → ∀ j v, (F y)[j]? = some v → (fl F ys)[k * K + j]? = some v
  | [], k, y, h => by simp at h
  | z :: r, 0, y, h => by
    simp at h
    subst h
    intro j v hv
    have hj := (List.getElem?_eq_some_iff.1 hv).1
    rw [Nat.zero_mul, Nat.zero_add, fl, List.flatMap_cons, List.getElem?_append_left hj]
    exact hv
  | z :: r, k + 1, y, h => by
    intro j v hv
    have := fl_at hF r k y (by simpa using h) j v hv
    rw [fl, List.flatMap_cons, List.getElem?_append_right (by rw [hF.len, Nat.add_mul]; omega), hF.len, show (k + 1) * K + j - K = k * K + j by rw [Nat.add_mul]; omega]
    exact this
/-- A row of the call's own. -/
def Own {α : Type} (F : α → List Value) (K B : Nat) (E : TypeId) (w : World) (v : Value) (ys : List α) : Prop :=
  w.ownsRow B E K v ys.length (fl F ys)
theorem Own.nil {α : Type} (F : α → List Value) (K B : Nat) (E : TypeId) (w : World) : Own F K B E w (.slice none 0 0) [] := ⟨by simp [fl], .inl ⟨rfl, rfl⟩⟩
theorem Own.grown {α : Type} {F : α → List Value} {K B : Nat} {E : TypeId} {w w' : World} {v : Value} {ys : List α} {r : Option Nat} (h : Own F K B E w v ys) (hg : w.grownBy w' r) (hv : ∀ b, r = some b → v.ownBlock ≠ some b) : Own F K B E w' v ys := by
  refine World.ownsRow.kept h hg ?_
  cases hr : r with
  | none => cases hb : v.ownBlock <;> simp
  | some b => exact .inr (hv b hr)
theorem Own.below {α : Type} {F : α → List Value} {K B : Nat} {E : TypeId} {w w' : World} {v : Value} {ys : List α} (h : Own F K B E w v ys) (hb : Below w.heap.size w w') : Own F K B E w' v ys :=
  h.grown (r := none) ⟨hb.os, hb.tape, hb.output, hb.size, fun i hi _ => hb.block i hi⟩ (fun b e => by cases e)
theorem Own.alloc {α : Type} {F : α → List Value} {K B : Nat} {E : TypeId} {w : World} {v : Value} {ys : List α} (h : Own F K B E w v ys) (o : Obj) : Own F K B E (w.alloc o) v ys := h.below ((Below.refl _ _).alloc (Nat.le_refl _) _)
theorem Own.lt {α : Type} {F : α → List Value} {K B : Nat} {E : TypeId} {w : World} {v : Value} {ys : List α} (h : Own F K B E w v ys) {g : Nat} (e : v.ownBlock = some g) : B ≤ g ∧ g < w.heap.size := World.ownsRow.lt h g e
/-- What touches other blocks alone keeps the row. -/
theorem Own.touch {α : Type} {F : α → List Value} {K B : Nat} {E : TypeId} {G : Nat → Prop} {w w' : World} {v : Value} {ys : List α} (h : Own F K B E w v ys) (ht : codec.Touch G w w') (hv : ∀ g, v.ownBlock = some g → ¬ G g) : Own F K B E w' v ys := by
  refine ⟨h.1, h.2.imp id fun ⟨g, cap, cur, h1, h2, h3, h4⟩ => ⟨g, cap, cur, h1, h2, ?_, h4⟩⟩
  have hlt := (h.lt (g := g) (by rw [h1]; rfl)).2
  rw [ht.2.2.2.2 g hlt (hv g (by rw [h1]; rfl))]
  exact h3
theorem lit_at {α : Type} {F : α → List Value} {w : World} (y : α) (t : TypeId) (m : Nat × Nat) {g : Nat} (hg : g = w.heap.size) : ∀ j u, (F y)[j]? = some u → (w.alloc (.cells (F y).toArray t m)).cell? ((⟨g, 0, none⟩ : Addr).add j) = some u := by
  intro j u hu
  subst hg
  rw [codec.add_none, Nat.zero_add, World.cell?_alloc_mark]
  simpa using hu
/-- A struct put behind those of the call's own. -/
theorem run_append_own {α : Type} {F : α → List Value} {K by_ : Nat} {z : Value} (hF : Fm F K) (hK : 0 < K) (hK9 : K ≤ 9) (hby : by_ ≤ 1000) (hz : z.cells.size = K) (T E : TypeId) (hT : Tryz.prog.underlying T = some (.slice E)) (hE : (Tryz.prog.info? E).map (fun i => (i.zero, i.size, i.bytes)) = some (some z, K, by_))
    (w : World) (ty : TypeId) (B : Nat) (v : Value) (ys : List α) (h : Own F K B E w v ys) (hB : B ≤ w.heap.size) (hn : ys.length ≤ 20000000) (y : α) (m : Nat × Nat) (g : Nat) (hg : g = w.heap.size) :
    ∃ v' w', (Builtin.append_ #[T, T] ty #[v, .slice (some ⟨g, 0, none⟩) 1 1]).run Tryz.prog (w.alloc (.cells (F y).toArray E m)) = .ok v' w' ∧ Own F K B E w' v' (ys ++ [y]) ∧ w.grownBy w' v.ownBlock ∧ (v'.ownBlock = v.ownBlock ∨ ∃ g, v'.ownBlock = some g ∧ w.heap.size ≤ g) := by
  obtain ⟨i0, hi, hz0, hz1, hz2⟩ := info_parts hE
  have ha := h.alloc (.cells (F y).toArray E m)
  have hby2 : (ys.length + 1) * by_ ≤ 20000001 * 1000 := Nat.mul_le_mul (by omega) hby
  obtain ⟨v', w', hr, h1, h2, h3, h4⟩ := run_append_own_at (P := Tryz.prog) (w.alloc (.cells (F y).toArray E m)) B T ty E i0 _ K by_ hT hi hz0 hz1 hz2 hz hK v ys.length (fl F ys) ha ⟨g, 0, none⟩ 1 1 (F y) (by rw [hF.len, Nat.one_mul]) (lit_at y E m hg) (hF.one y) (by unfold maxLen; omega) (by omega) (by simp; omega)
  have hgr : w.grownBy w' v.ownBlock := ⟨h2.os, h2.tape, h2.output, by have := h2.size; simp at this; omega, fun k hk hne => by
    rw [h2.block k (by simp; omega) hne]
    exact Below.heap_alloc _ _ _ hk⟩
  have hat : v'.ownBlock = v.ownBlock ∨ ∃ g, v'.ownBlock = some g ∧ w.heap.size ≤ g := by
    rcases h4 with h4 | h4
    · exact .inl h4
    · exact .inr ⟨_, h4, by simp⟩
  refine ⟨v', w', hr, ?_, hgr, hat⟩
  unfold Own
  rw [fl_snoc, List.length_append]
  simpa using h1
theorem wpList_append_own {α : Type} {F : α → List Value} {K by_ : Nat} {z : Value} (hF : Fm F K) (hK0 : 0 < K) (hK9 : K ≤ 9) (hby : by_ ≤ 1000) (hz : z.cells.size = K) {ops : Array Oper} {rest : List Oper} {o : Oper} {a : Act} {w : World} {Q : Exit → Act → World → Prop} (hgd : o.guard = none) (s q : Operand) (T E : TypeId)
    (ho : o.op = .call { callee := .builtin .append, args := #[s, q], argTypes := #[T, T] }) (hT : Tryz.prog.underlying T = some (.slice E)) (hE : (Tryz.prog.info? E).map (fun i => (i.zero, i.size, i.bytes)) = some (some z, K, by_))
    (B : Nat) (v : Value) (ys : List α) (hs : a.eval s = v) (h : Own F K B E w v ys) (hB : B ≤ w.heap.size) (hn : ys.length ≤ 20000000) (y : α) (m : Nat × Nat) (g : Nat) (hg : g = w.heap.size) (hy : a.eval q = .slice (some ⟨g, 0, none⟩) 1 1) (L : Array Value) (hL : L = (F y).toArray)
    (hK : ∀ v' w', Own F K B E w' v' (ys ++ [y]) → w.grownBy w' v.ownBlock → (v'.ownBlock = v.ownBlock ∨ ∃ g, v'.ownBlock = some g ∧ w.heap.size ≤ g) → wpList Tryz.prog ops Q rest (a.put o.dst v') w') : wpList Tryz.prog ops Q (o :: rest) a (w.alloc (.cells L E m)) := by
  subst hL
  obtain ⟨v', w', hr, h1, h2, h3⟩ := run_append_own hF hK0 hK9 hby hz T E hT hE w o.type B v ys h hB hn y m g hg
  refine wpList_plain hgd fun _ hK' => ?_
  unfold Oper.wp execOp
  simp only [ho, resolve, invoke, builtin, Sem.run_bind, Sem.run_pure, Result.andThen_ok, List.map_toArray, List.map_cons, List.map_nil, hs, hy, hr]
  exact hK' _ _ (hK v' w' h1 h2 h3)
/-- What grows a row of the call's own keeps what was before the call. -/
theorem grown_below {α : Type} {W w w' : World} {F : α → List Value} {K : Nat} {E : TypeId} {v : Value} {ys : List α} (hb : Below W.heap.size W w) (h : Own F K W.heap.size E w v ys) (hg : w.grownBy w' v.ownBlock) : Below W.heap.size W w' :=
  hb.trans ⟨hg.os, hg.tape, hg.output, hg.size, fun k hk => hg.block k (Nat.lt_of_lt_of_le hk hb.size) (fun e => by
    have := (h.lt e.symm).1
    omega)⟩

/-- A slice that reads so. -/
def Rd {α : Type} (F : α → List Value) (K : Nat) (w : World) (A : Option Addr) (n : Nat) (ys : List α) : Prop := ys.length = n ∧ ∀ k, k < n → ∃ b o y, A = some ⟨b, o, none⟩ ∧ ys[k]? = some y ∧ (∀ j v, (F y)[j]? = some v → w.cell? ⟨b, o + k * K + j, none⟩ = some v)
theorem Rd.below {α : Type} {F : α → List Value} {K : Nat} {w w' : World} {A : Option Addr} {n : Nat} {ys : List α} (h : Rd F K w A n ys) (hb : Below w.heap.size w w') : Rd F K w' A n ys := by
  refine ⟨h.1, fun k hk => ?_⟩
  obtain ⟨b, o, y, h1, h2, h3⟩ := h.2 k hk
  refine ⟨b, o, y, h1, h2, fun j v hv => ?_⟩
  have := h3 j v hv
  rw [hb.cell (p := ⟨b, o + k * K + j, none⟩) (block_lt_of_cell this)]
  exact this
theorem Rd.take {α : Type} {F : α → List Value} {K : Nat} {w : World} {A : Option Addr} {n : Nat} {ys : List α} (h : Rd F K w A n ys) (m : Nat) (hm : m ≤ n) : Rd F K w A m (ys.take m) := by
  refine ⟨by rw [List.length_take, h.1]; omega, fun k hk => ?_⟩
  obtain ⟨b, o, x, h1, h2, h3⟩ := h.2 k (by omega)
  exact ⟨b, o, x, h1, by rw [List.getElem?_take, if_pos hk]; exact h2, h3⟩
theorem Own.rd {α : Type} {F : α → List Value} {K B : Nat} {E : TypeId} {w : World} {v : Value} {ys : List α} (hF : Fm F K) (h : Own F K B E w v ys) : ∃ A c, v = .slice A ys.length c ∧ ys.length ≤ c ∧ (A = none → c = 0) ∧ Rd F K w A ys.length ys := by
  rcases h.2 with ⟨e, h0⟩ | ⟨g, cap, cur, e, hB, hg, hc, _⟩
  · exact ⟨none, 0, by rw [h0]; exact e, by omega, fun _ => rfl, rfl, fun k hk => by omega⟩
  · refine ⟨_, cap, e, hc, (fun e => by cases e), rfl, fun k hk => ?_⟩
    have hx : ys[k]? = some ys[k] := List.getElem?_eq_getElem hk
    refine ⟨g, 0, ys[k], rfl, hx, fun j u hu => ?_⟩
    have := World.ownsRow.cells h (g := g) (by rw [e]; rfl) _ u (fl_at hF ys k _ hx j u hu)
    rw [codec.add_none] at this
    rw [Nat.add_assoc]
    exact this
theorem boxed {w : World} {o : Obj} {w1 : World} (h : Below (w.alloc o).heap.size (w.alloc o) w1) : w1.heap[w.heap.size]? = some o ∧ Below w.heap.size w w1 := by
  have h0 : Below w.heap.size w (w.alloc o) := (Below.refl _ _).alloc (Nat.le_refl _) _
  refine ⟨?_, h0.trans (h.mono h0.size)⟩
  rw [h.block _ (by simp)]
  exact heap_alloc_new w o
theorem Rd.empty {α : Type} {F : α → List Value} {K : Nat} (w : World) : Rd F K w .none 0 [] := ⟨rfl, fun k hk => by omega⟩
theorem Rd.length {α : Type} {F : α → List Value} {K : Nat} {w : World} {A : Option Addr} {n : Nat} {ys : List α} (h : Rd F K w A n ys) : ys.length = n := h.1
end Go.Proofs.YtklmbiekpilkhaaGreatDoor.row
