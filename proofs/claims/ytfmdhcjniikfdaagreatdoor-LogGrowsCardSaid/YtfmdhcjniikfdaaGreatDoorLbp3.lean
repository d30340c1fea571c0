/- The document's own digest. -/
import Derived.Test.YtfmdhcjniikfdaaGreatDoorLbp2
import Derived.Laws.OwnMore
import Derived.Laws.AppendOwnNone
import Derived.Deep.AppendLies
import Derived.Lib.SmallJoins
/- The document's own digest. -/
namespace Go.Proofs.YtfmdhcjniikfdaaGreatDoor.sumDoor
open Go.ChangeShapes Go.WideShapes Go.ChangeAt Go.RowKit Go.Proofs.YtfmdhcjniikfdaaGreatDoor.sumPlain
set_option linter.unusedVariables false
set_option maxRecDepth 100000

abbrev zer32 : Array Value := Array.replicate 32 (.int .u8 0)
abbrev zer64 : Array Value := Array.replicate 64 (.int .u64 0)
/-- What lies in memory: the answer's room, the words of the rounds. -/
def Ref0 (w wr : World) : Prop := wr.heap[w.heap.size]? = some (.cells zer32 80 (0, 0)) ∧ wr.heap[w.heap.size + 1]? = some (.cells (cellsOf .u64 consts) 125 (0, 0)) ∧ Below w.heap.size w wr
theorem ref_start (w : World) : ((w.alloc (.cells zer32 80)).alloc (.cells zer64 125)).heap[w.heap.size + 1]? = some (.cells zer64 125 (0, 0)) ∧ Ref0 w (((w.alloc (.cells zer32 80)).alloc (.cells zer64 125)).setRow (w.heap.size + 1) (cellsOf .u64 consts)) ∧
    (((w.alloc (.cells zer32 80)).alloc (.cells zer64 125)).setRow (w.heap.size + 1) (cellsOf .u64 consts)).heap.size = w.heap.size + 1 + 1 := by
  have h0 : ((w.alloc (.cells zer32 80)).alloc (.cells zer64 125)).heap[w.heap.size + 1]? = some (.cells zer64 125 (0, 0)) := by
    have := heap_alloc_new (w.alloc (.cells zer32 80)) (.cells zer64 125)
    simpa using this
  refine ⟨h0, ⟨?_, row_new h0, ?_⟩, by simp⟩
  · simp only [World.setRow, Array.getElem?_modify]
    rw [if_neg (by omega), Below.heap_alloc _ _ _ (by simp)]
    exact heap_alloc_new _ _
  · exact below_setRow (((Below.refl _ _).alloc (Nat.le_refl _) _).alloc (by simp) _) (by omega) _
theorem size42 : (Tryz.prog.info? 125).map (·.size) = some (cellsOf .u64 consts).size := by
  rw [show (cellsOf .u64 consts).size = 64 by decide]
  kernel_rfl

theorem wpList_buildTo {P : Program} {ops : Array Oper} {rest : List Oper} {o : Oper} {a : Act} {w : World} {Q : Exit → Act → World → Prop} (hg : o.guard = none) (t : TypeId) (parts : Array (Nat × Operand)) (ho : o.op = .build t parts) (cs : Array Value)
    (hf : P.built t (parts.map fun (i, x) => (i, a.eval x)).toList = some cs) (h : wpList P ops Q rest (a.put o.dst (.agg cs)) w) : wpList P ops Q (o :: rest) a w := by
  refine wpList_build hg t parts ho (by rw [hf]; rfl) ?_
  rw [hf]
  exact h
theorem forget {P : Program} {ops : Array Oper} {rest : List Oper} {a : Act} {w : World} {Q : Exit → Act → World → Prop} (R : World → Prop) (hR : R w) (h : ∀ w1, R w1 → wpList P ops Q rest a w1) : wpList P ops Q rest a w := h w hR

/-- With the words of the state at block H. -/
def Ref1 (w : World) (H : Nat) (s : Eight) (wr : World) : Prop := Ref0 w wr ∧ wr.heap[H]? = some (.cells (cells8 .u64 s) 126 (0, 0)) ∧ w.heap.size + 1 < H
theorem Ref1.grown {w wr w' : World} {H : Nat} {s : Eight} {row : Option Nat} (h : Ref1 w H s wr) (hg : wr.grownBy w' row) (hr : ∀ g, row = some g → H < g) : Ref1 w H s w' := by
  have h1 := lt_of_heap h.1.1
  have h2 := lt_of_heap h.1.2.1
  have h3 := lt_of_heap h.2.1
  have hlt := h.2.2
  have ne : ∀ k, k ≤ H → some k ≠ row := fun k hk e => by have := hr k e.symm; omega
  refine ⟨⟨(hg.block _ h1 (ne _ (by omega))).trans h.1.1, (hg.block _ h2 (ne _ (by omega))).trans h.1.2.1, h.1.2.2.grown hg (by omega) (fun k hk => by have := hr k hk; omega)⟩, (hg.block _ h3 (ne _ (Nat.le_refl _))).trans h.2.1, hlt⟩
theorem Ref1.alloc {w wr : World} {H : Nat} {s : Eight} (h : Ref1 w H s wr) (o : Obj) : Ref1 w H s (wr.alloc o) := h.grown (World.grownBy_alloc wr o none) (fun g e => by cases e)
theorem ref1_start {w w1 : World} (h : Ref0 w w1) (hs : w1.heap.size = w.heap.size + 1 + 1) : Ref1 w w1.heap.size seed8 (w1.alloc (.cells (cells8 .u64 seed8) 126)) := by
  refine ⟨⟨?_, ?_, h.2.2.alloc (by omega) _⟩, heap_alloc_new _ _, by omega⟩
  · rw [Below.heap_alloc _ _ _ (by omega)]; exact h.1
  · rw [Below.heap_alloc _ _ _ (by omega)]; exact h.2.1

theorem ref1_put {w w1 : World} {Z : Array Value} (h : Ref0 w w1) (hs : w1.heap.size = w.heap.size + 1 + 1) : (w1.alloc (.cells Z 126)).heap[w1.heap.size]? = some (.cells Z 126 (0, 0)) ∧ Ref1 w w1.heap.size seed8 ((w1.alloc (.cells Z 126)).setRow w1.heap.size (cells8 .u64 seed8)) := by
  have h0 := heap_alloc_new w1 (.cells Z 126)
  refine ⟨h0, ⟨?_, ?_, ?_⟩, row_new h0, by omega⟩
  · simp only [World.setRow, Array.getElem?_modify]
    rw [if_neg (by omega), Below.heap_alloc _ _ _ (by omega)]
    exact h.1
  · simp only [World.setRow, Array.getElem?_modify]
    rw [if_neg (by omega), Below.heap_alloc _ _ _ (by omega)]
    exact h.2.1
  · exact below_setRow (h.2.2.alloc (by omega) _) (by omega) _
theorem size43 (s : Eight) : (Tryz.prog.info? 126).map (·.size) = some (cells8 .u64 s).size := by
  rw [show (cells8 .u64 s).size = 8 from rfl]
  kernel_rfl

/-- Bytes as values. -/
def vals (l : List Nat) : List Value := l.map fun x => Value.int .u8 (x : Nat)
theorem vals_append (l m : List Nat) : vals (l ++ m) = vals l ++ vals m := by simp [vals]
theorem vals_one (l : List Nat) : ∀ u ∈ vals l, u.oneCell' = true := by
  intro v hv
  obtain ⟨x, _, rfl⟩ := List.mem_map.1 hv
  rfl
theorem info5' : (Tryz.prog.info? 5).map (fun i => (i.zero, i.size, i.bytes)) = some (some (.int .u8 0), 1, 1) := by kernel_rfl
/-- Bytes, nil or not, put behind bytes of one's own. -/
theorem wpList_append_src {ops : Array Oper} {rest : List Oper} {o : Oper} {a : Act} {w : World} {Q : Exit → Act → World → Prop} (hgd : o.guard = none) (s x : Operand)
    (ho : o.op = .call { callee := .builtin .append, args := #[s, x], argTypes := #[22, 22] })
    (base : Nat) (v : Value) (M : List Nat) (hs : a.eval s = v) (hown : w.ownsRow base 5 1 v M.length (vals M)) (hbase : base ≤ w.heap.size)
    (A : Option Addr) (m c : Nat) (L : List Nat) (hx : a.eval x = .slice A m c) (hB : Bytes w A m L) (hnil : A = none → c = 0) (hbound : M.length + m ≤ 100000)
    (h : ∀ v' w', w'.ownsRow base 5 1 v' (M ++ L).length (vals (M ++ L)) → w.grownBy w' v.ownBlock → wpList Tryz.prog ops Q rest (a.put o.dst v') w') : wpList Tryz.prog ops Q (o :: rest) a w := by
  obtain ⟨i0, hi, hz0, hz1, hz2⟩ := info_parts info5'
  have hl := hB.1
  cases A with
  | none =>
    have hm : m = 0 := by
      rcases Nat.eq_zero_or_pos m with h0 | h0
      · exact h0
      · obtain ⟨b, o', e, _⟩ := hB.2.2 h0
        cases e
    have hc := hnil rfl
    subst hm hc
    obtain rfl : L = [] := List.eq_nil_of_length_eq_zero hl
    refine wpList_append_own_none hgd s x 22 ho base 5 i0 1 Tryz.underlying22 hi v M.length (vals M) hs hown hx ?_
    exact h v w (by simpa using hown) (World.grownBy.refl w _)
  | some ad =>
    refine wpList_append_own w hgd s x 22 ho base 5 i0 (.int .u8 0) 1 1 Tryz.underlying22 hi hz0 hz1 hz2 rfl (by decide) v M.length (vals M) hs hown ad m c (vals L) hx (by simp [vals, hl]) ?_ (vals_one L) (by unfold maxLen; omega) (by omega) hbase ?_
    · intro j u hu
      have hj : j < L.length := by
        have := (List.getElem?_eq_some_iff.1 hu).1
        simpa [vals] using this
      obtain ⟨b, o', e, hc⟩ := hB.2.2 (by omega)
      cases e
      have ha : (Addr.mk b o' none).add j = ⟨b, o' + j, none⟩ := by unfold Addr.add; split <;> simp_all
      rw [ha, hc j (by omega), ← hu]
      simp [vals, List.getD, hj]
    · intro v' w' h1 h2 _
      refine h v' w' ?_ h2
      rw [List.length_append, hl, vals_append]
      exact h1
/-- Bytes of one's own, besides. -/
def Own (w : World) (H : Nat) (s : Eight) (v : Value) (M : List Nat) (wr : World) : Prop := Ref1 w H s wr ∧ wr.ownsRow (H + 1) 5 1 v M.length (vals M)
theorem Own.more {w wr w' : World} {H : Nat} {s : Eight} {v v' : Value} {M M' : List Nat} (h : Own w H s v M wr) (ho : w'.ownsRow (H + 1) 5 1 v' M'.length (vals M')) (hg : wr.grownBy w' v.ownBlock) : Own w H s v' M' w' :=
  ⟨h.1.grown hg (fun g e => by have := (h.2.lt g e).1; omega), ho⟩
theorem Own.alloc {w wr : World} {H : Nat} {s : Eight} {v : Value} {M : List Nat} (h : Own w H s v M wr) (o : Obj) : Own w H s v M (wr.alloc o) := ⟨h.1.alloc o, h.2.alloc o⟩
theorem Own.size {w wr : World} {H : Nat} {s : Eight} {v : Value} {M : List Nat} (h : Own w H s v M wr) : H + 1 ≤ wr.heap.size := lt_of_heap h.1.2.1
theorem Own.form {w wr : World} {H : Nat} {s : Eight} {v : Value} {M : List Nat} (h : Own w H s v M wr) (hM : 0 < M.length) : ∃ g cap, v = .slice (some ⟨g, 0, none⟩) M.length cap := by
  rcases h.2.2 with ⟨_, h0⟩ | ⟨g, cap, cur, e, _⟩
  · omega
  · exact ⟨g, cap, e⟩
theorem Own.form2 {w wr : World} {H : Nat} {s : Eight} {v : Value} {M : List Nat} (h : Own w H s v M wr) (hM : 0 < M.length) : ∃ g cap, v = .slice (some ⟨g, 0, none⟩) M.length cap ∧ M.length ≤ cap := by
  rcases h.2.2 with ⟨_, h0⟩ | ⟨g, cap, cur, e, _, _, hc, _⟩
  · omega
  · exact ⟨g, cap, e, hc⟩
theorem Own.below {w wr w' : World} {H : Nat} {s : Eight} {v : Value} {M : List Nat} (h : Own w H s v M wr) (hb : Below wr.heap.size wr w') : Own w H s v M w' := by
  have hg : wr.grownBy w' none := ⟨hb.os, hb.tape, hb.output, hb.size, fun i hi _ => hb.block i hi⟩
  exact ⟨h.1.grown hg (fun g e => by cases e), h.2.kept hg (by cases hv : v.ownBlock <;> simp)⟩
theorem bytes_i8 (w : World) (v : Nat) (x : Int) (hx : x = v) (hv : v < 18446744073709551616) :
    Calls Tryz.prog 53 #[.int .u64 x, .int .i64 8] w fun e w' => e = .returned (.slice (some ⟨w.heap.size, 0, none⟩) 8 8) ∧ w'.rowIs w.heap.size 5 8 (fun j => .int .u8 (byteAt v 8 j : Nat)) ∧ Below w.heap.size w w' := by
  subst hx
  exact bytes_any8 w v hv
theorem bytesOf_lt (v n : Nat) : ∀ b ∈ bytesOf v n, b < 256 := by
  intro b hb
  obtain ⟨j, _, rfl⟩ := List.mem_map.1 hb
  exact Nat.mod_lt _ (by omega)
theorem bytes_row {w : World} {g t v n : Nat} (h : w.rowIs g t n (fun j => .int .u8 (byteAt v n j : Nat))) : Bytes w (some ⟨g, 0, none⟩) n (bytesOf v n) := by
  refine ⟨by simp [bytesOf], bytesOf_lt v n, fun _ => ⟨g, 0, rfl, fun i hi => ?_⟩⟩
  rw [Nat.zero_add, h.cell hi]
  simp [bytesOf, List.getD, hi]
/-- With the padded bytes. -/
def RefD (w : World) (H : Nat) (s : Eight) (g : Nat) (M : List Nat) (wr : World) : Prop := Ref1 w H s wr ∧ Bytes wr (some ⟨g, 0, none⟩) M.length M ∧ H < g
theorem own_bytes {w wr : World} {H g k cap : Nat} {s : Eight} {M M' : List Nat} (h : Own w H s (.slice (some ⟨g, 0, none⟩) k cap) M' wr) (hk : M.length = k) (hM : M = M') (hb : ∀ x ∈ M', x < 256) : RefD w H s g M wr := by
  subst hM
  refine ⟨h.1, ⟨rfl, hb, fun hn => ⟨g, 0, rfl, fun i hi => ?_⟩⟩, ?_⟩
  · rcases h.2.2 with ⟨e, _⟩ | ⟨g', cap', cur, e, _, hg, _, _, hcs, htake⟩
    · cases e
    · cases e
      have hown := h.2
      rw [hk] at hown
      have hc := hown.cellAt (g := g) (cap := cap) i (by omega)
      rw [Nat.zero_add, hc]
      simp [vals, List.getD, hi]
  · rcases h.2.2 with ⟨e, _⟩ | ⟨g', cap', cur, e, hb, _⟩
    · cases e
    · cases e
      omega
theorem pad_all_lt {l : List Nat} (h : ∀ x ∈ l, x < 256) (z v : Nat) : ∀ x ∈ l ++ 128 :: List.replicate z 0 ++ bytesOf v 8, x < 256 := by
  intro x hx
  simp only [List.mem_append, List.mem_cons, List.mem_replicate] at hx
  rcases hx with (hx | rfl | ⟨_, rfl⟩) | hx
  · exact h x hx
  · omega
  · omega
  · exact bytesOf_lt _ _ x hx
/-- Four bytes of a block. -/
theorem four {w wr wi : World} {H g p k : Nat} {s : Eight} {M : List Nat} {G : Nat → Nat} (h : RefD w H s g M wr) (hb : Below wr.heap.size wr wi) (hG : G = fun i => (M.drop p).getD i 0) (hp : p + 64 ≤ M.length) (hk : k < 16) :
    Bytes wi (some ⟨g, p + 4 * k, none⟩) 4 [G (4 * k), G (4 * k + 1), G (4 * k + 2), G (4 * k + 3)] := by
  have hB := h.2.1.below h.2.1.lt hb
  have hlt : ∀ i, G i < 256 := fun i => by rw [hG]; exact getD_lt256 (fun x hx => h.2.1.2.1 x (List.mem_of_mem_drop hx)) i
  refine ⟨rfl, ?_, fun _ => ⟨g, p + 4 * k, rfl, fun i hi => ?_⟩⟩
  · intro b hb
    simp only [List.mem_cons, List.not_mem_nil, or_false] at hb
    rcases hb with rfl | rfl | rfl | rfl <;> exact hlt _
  · obtain ⟨b', o', e, hc⟩ := hB.2.2 (by omega)
    cases e
    have h1 := hc (p + 4 * k + i) (by omega)
    rw [Nat.zero_add] at h1
    rw [h1]
    have e1 : M.getD (p + 4 * k + i) 0 = G (4 * k + i) := by rw [hG]; simp [List.getD, Nat.add_assoc]
    rw [e1]
    obtain rfl | rfl | rfl | rfl : i = 0 ∨ i = 1 ∨ i = 2 ∨ i = 3 := by omega
    all_goals rfl
theorem num_word (G : Nat → Nat) (k : Nat) : numOf [G (4 * k), G (4 * k + 1), G (4 * k + 2), G (4 * k + 3)] = word G k := by
  simp [numOf, word]
  omega
theorem trn_quiet (w : World) (q x : Nat) (m : Int) (n : Nat) (hm : m = n) (hx : x < 4294967296) (h1 : 1 ≤ n) (hn : n ≤ 31) :
    Calls Tryz.prog 63 #[.int .u64 x, .int .u64 m] (w.drewN q) fun e w'' => e = .returned (.int .u64 (rot x n : Nat)) ∧ ∃ r, w'' = w.drewN r :=
  (turned_i (w.drewN q) x m n hm hx h1 hn).mono fun _ _ ⟨he, hw⟩ => ⟨he, q, hw.symm⟩
theorem xor64 (a b : Nat) (ha : a < 4294967296) (hb : b < 4294967296) : bits .xor .u64 (a : Int) (b : Int) = ((a ^^^ b : Nat) : Int) := u64_xor_nat a b (by omega) (by omega)
theorem sm0_64 (x : Nat) (hx : x < 4294967296) : bits .xor .u64 (bits .xor .u64 ((rot x 7 : Nat) : Int) ((rot x 18 : Nat) : Int)) ((x : Int) / 8) = ((sm0 x : Nat) : Int) := by
  rw [xor64 _ _ (rot_lt 7 hx) (rot_lt 18 hx)]
  exact xor64 _ (x / 8) (xor_lt32 (rot_lt 7 hx) (rot_lt 18 hx)) (div_lt32 _ hx)
theorem sm1_64 (x : Nat) (hx : x < 4294967296) : bits .xor .u64 (bits .xor .u64 ((rot x 17 : Nat) : Int) ((rot x 19 : Nat) : Int)) ((x : Int) / 1024) = ((sm1 x : Nat) : Int) := by
  rw [xor64 _ _ (rot_lt 17 hx) (rot_lt 19 hx)]
  exact xor64 _ (x / 1024) (xor_lt32 (rot_lt 17 hx) (rot_lt 19 hx)) (div_lt32 _ hx)
theorem and64 (m : Nat) (h : m < 18446744073709551616) : bits .and .u64 (m : Int) 4294967295 = ((m % 4294967296 : Nat) : Int) := by
  have := u64_and_nat m 4294967295 h (by omega)
  rw [nat_mask32] at this
  exact this
theorem Ref1.below {w wr w' : World} {H : Nat} {s : Eight} (h : Ref1 w H s wr) (hb : Below wr.heap.size wr w') : Ref1 w H s w' :=
  h.grown (row := none) ⟨hb.os, hb.tape, hb.output, hb.size, fun i hi _ => hb.block i hi⟩ (fun g e => by cases e)
theorem RefD.below {w wr w' : World} {H g : Nat} {s : Eight} {M : List Nat} (h : RefD w H s g M wr) (hb : Below wr.heap.size wr w') : RefD w H s g M w' :=
  ⟨h.1.below hb, h.2.1.below h.2.1.lt hb, h.2.2⟩
theorem ref_load {w wo wi : World} {H g S : Nat} {s : Eight} {M : List Nat} (h : RefD w H s g M wo) (hb : Below S wo wi) (hS : S = wo.heap.size) : wi.heap[H]? = some (.cells (cells8 .u64 s) 126 (0, 0)) := by
  subst hS
  exact (h.below hb).1.2.1
/-- What lies in memory while the rounds go: the words at S, the eight at X. -/
def Rnd (wo : World) (S : Nat) (ws : List Nat) (X : Nat) (x : Eight) (wr : World) : Prop :=
  wr.rowIs S 125 64 (fun m => .int .u64 (ws.getD m 0 : Nat)) ∧ wr.rowIs X 126 8 (fun i => .int .u64 (x.nth i : Nat)) ∧ S < X ∧ Below S wo wr
theorem Rnd.draws {wo wr : World} {S X : Nat} {ws : List Nat} {x : Eight} (h : Rnd wo S ws X x wr) (n : Nat) : Rnd wo S ws X x (wr.drewN n) := ⟨h.1, h.2.1, h.2.2.1, below_draws h.2.2.2 n⟩
theorem rnd_start {wo wr : World} {S : Nat} {ws : List Nat} {s : Eight} {Z : Array Value} (h : wr.rowIs S 125 64 (fun m => .int .u64 (ws.getD m 0 : Nat))) (hb : Below S wo wr) (hS : S = wo.heap.size) :
    (wr.alloc (.cells Z 126)).heap[wr.heap.size]? = some (.cells Z 126 (0, 0)) ∧ Rnd wo S ws wr.heap.size s ((wr.alloc (.cells Z 126)).setRow wr.heap.size (cells8 .u64 s)) := by
  have h0 := heap_alloc_new wr (.cells Z 126)
  have hlt := h.lt
  refine ⟨h0, ?_, ⟨_, row_new h0, rfl, fun i hi => get8 .u64 s i hi⟩, hlt, below_setRow (hb.alloc (by omega) _) (by omega) _⟩
  refine (h.alloc (.cells Z 126)).of_block ?_
  simp only [World.setRow, Array.getElem?_modify]
  rw [if_neg (by omega)]
theorem or_xor {a b : Nat} (h : a &&& b = 0) : a ||| b = a ^^^ b := by
  apply Nat.eq_of_testBit_eq
  intro i
  have := congrArg (fun x => x.testBit i) h
  simp only [Nat.testBit_and, Nat.zero_testBit] at this
  rw [Nat.testBit_or, Nat.testBit_xor]
  cases ha : a.testBit i <;> cases hb : b.testBit i <;> simp_all
theorem and64' (a b : Nat) (ha : a < 4294967296) (hb : b < 4294967296) : bits .and .u64 (a : Int) (b : Int) = ((a &&& b : Nat) : Int) := u64_and_nat a b (by omega) (by omega)
theorem or64 (a b : Nat) (ha : a < 4294967296) (hb : b < 4294967296) : bits .or .u64 (a : Int) (b : Int) = ((a ||| b : Nat) : Int) := u64_or_nat a b (by omega) (by omega)
theorem not64 (e : Nat) (he : e < 4294967296) : bits .xor .u64 4294967295 (e : Int) = ((4294967295 ^^^ e : Nat) : Int) := xor64 4294967295 e (by omega) he
theorem chs_disj {e f g : Nat} (he : e < 4294967296) : (e &&& f) &&& ((4294967295 ^^^ e) &&& g) = 0 := by
  apply Nat.eq_of_testBit_eq
  intro i
  simp only [Nat.testBit_and, Nat.testBit_xor, Nat.zero_testBit]
  by_cases hi : i < 32
  · have h1 : (4294967295 : Nat).testBit i = true := by
      have : (4294967295 : Nat) = 2 ^ 32 - 1 := by decide
      rw [this, Nat.testBit_two_pow_sub_one]
      simpa using hi
    rw [h1]
    cases e.testBit i <;> simp
  · have h1 : e.testBit i = false := Nat.testBit_lt_two_pow (Nat.lt_of_lt_of_le he (Nat.pow_le_pow_right (n := 2) (by omega) (show 32 ≤ i by omega)))
    rw [h1]
    simp
theorem chs_or (e f g : Nat) (he : e < 4294967296) (hf : f < 4294967296) (hg : g < 4294967296) :
    bits .or .u64 (bits .and .u64 (e : Int) (f : Int)) (bits .and .u64 (bits .xor .u64 4294967295 (e : Int)) (g : Int)) = ((chs e f g : Nat) : Int) := by
  rw [not64 e he, and64' _ _ he hf, and64' _ _ (xor_lt32 (by omega) he) hg, or64 _ _ (and_lt32 hf) (and_lt32 hg), or_xor (chs_disj he)]
  rfl
theorem mjr_bits (a b c : Nat) : ((a &&& b) ||| (a &&& c)) ||| (b &&& c) = mjr a b c := by
  unfold mjr
  apply Nat.eq_of_testBit_eq
  intro i
  simp only [Nat.testBit_or, Nat.testBit_xor, Nat.testBit_and]
  cases a.testBit i <;> cases b.testBit i <;> cases c.testBit i <;> rfl
theorem mjr_or (a b c : Nat) (ha : a < 4294967296) (hb : b < 4294967296) (hc : c < 4294967296) :
    bits .or .u64 (bits .or .u64 (bits .and .u64 (a : Int) (b : Int)) (bits .and .u64 (a : Int) (c : Int))) (bits .and .u64 (b : Int) (c : Int)) = ((mjr a b c : Nat) : Int) := by
  rw [and64' _ _ ha hb, and64' _ _ ha hc, and64' _ _ hb hc, or64 _ _ (and_lt32 hb) (and_lt32 hc), or64 _ _ (or_lt32 (and_lt32 hb) (and_lt32 hc)) (and_lt32 hc), mjr_bits]
theorem bg0_64 (x : Nat) (hx : x < 4294967296) : bits .xor .u64 (bits .xor .u64 ((rot x 2 : Nat) : Int) ((rot x 13 : Nat) : Int)) ((rot x 22 : Nat) : Int) = ((bg0 x : Nat) : Int) := by
  rw [xor64 _ _ (rot_lt 2 hx) (rot_lt 13 hx)]
  exact xor64 _ _ (xor_lt32 (rot_lt 2 hx) (rot_lt 13 hx)) (rot_lt 22 hx)
theorem bg1_64 (x : Nat) (hx : x < 4294967296) : bits .xor .u64 (bits .xor .u64 ((rot x 6 : Nat) : Int) ((rot x 11 : Nat) : Int)) ((rot x 25 : Nat) : Int) = ((bg1 x : Nat) : Int) := by
  rw [xor64 _ _ (rot_lt 6 hx) (rot_lt 11 hx)]
  exact xor64 _ _ (xor_lt32 (rot_lt 6 hx) (rot_lt 11 hx)) (rot_lt 25 hx)
theorem rnd_cells {wo wr : World} {S X : Nat} {ws : List Nat} {x : Eight} (h : Rnd wo S ws X x wr) : wr.cell? ⟨X, 0, none⟩ = some (.int .u64 x.a) ∧ wr.cell? ⟨X, 1, none⟩ = some (.int .u64 x.b) ∧ wr.cell? ⟨X, 2, none⟩ = some (.int .u64 x.c) ∧ wr.cell? ⟨X, 3, none⟩ = some (.int .u64 x.d) ∧
    wr.cell? ⟨X, 4, none⟩ = some (.int .u64 x.e) ∧ wr.cell? ⟨X, 5, none⟩ = some (.int .u64 x.f) ∧ wr.cell? ⟨X, 6, none⟩ = some (.int .u64 x.g) ∧ wr.cell? ⟨X, 7, none⟩ = some (.int .u64 x.h) :=
  ⟨h.2.1.cell (i := 0) (by omega), h.2.1.cell (i := 1) (by omega), h.2.1.cell (i := 2) (by omega), h.2.1.cell (i := 3) (by omega), h.2.1.cell (i := 4) (by omega), h.2.1.cell (i := 5) (by omega), h.2.1.cell (i := 6) (by omega), h.2.1.cell (i := 7) (by omega)⟩
theorem const_cell {w wo wi : World} {H g S k : Nat} {s : Eight} {M : List Nat} (h : RefD w H s g M wo) (hS : S = wo.heap.size) (hb : Below S wo wi) (hk : k < 64) : wi.cell? ⟨w.heap.size + 1, k, none⟩ = some (.int .u64 (consts.getD k 0 : Nat)) := by
  subst hS
  rw [cell_of_row _ _ _ _ _ _ (h.below hb).1.1.2.1]
  have : k < consts.length := by
    have : consts.length = 64 := by decide
    omega
  simp [cellsOf, List.getD, this]
theorem one_i {h b c k w : Nat} (hh : h < 4294967296) (hb : b < 4294967296) (hc : c < 4294967296) (hk : k < 4294967296) (hw : w < 4294967296) :
    IntKind.u64.wrap (IntKind.u64.wrap (IntKind.u64.wrap (IntKind.u64.wrap ((h : Int) + (b : Int)) + (c : Int)) + (k : Int)) + (w : Int)) = ((h + b + c + k + w : Nat) : Int) := by
  have e : ∀ y : Int, 0 ≤ y → y < 18446744073709551616 → IntKind.u64.wrap y = y := fun y h1 h2 => by
    simp only [IntKind.wrap, IntKind.bits, IntKind.signed]
    simp
    omega
  rw [e (h + b) (by omega) (by omega), e (h + b + c) (by omega) (by omega), e (h + b + c + k) (by omega) (by omega), e (h + b + c + k + w) (by omega) (by omega)]
  simp
theorem add_and (a b : Nat) (ha : a < 4294967296) (hb : b < 21474836480) : bits .and .u64 ((a : Int) + (b : Int)) 4294967295 = (((a + b) % 4294967296 : Nat) : Int) :=
  (congrArg (fun z => bits .and .u64 z 4294967295) (by simp)).trans (and64 (a + b) (by omega))
theorem add3_and (a b c : Nat) (ha : a < 21474836480) (hb : b < 4294967296) (hc : c < 4294967296) : bits .and .u64 ((a : Int) + (b : Int) + (c : Int)) 4294967295 = (((a + b + c) % 4294967296 : Nat) : Int) :=
  (congrArg (fun z => bits .and .u64 z 4294967295) (by simp)).trans (and64 (a + b + c) (by omega))
/-- The words above place m stand one place up. -/
def shf (x : Eight) (m j : Nat) : Nat := if m < j then x.nth (j - 1) else x.nth j
def Shf (wo : World) (S : Nat) (ws : List Nat) (X : Nat) (x : Eight) (m : Nat) (wr : World) : Prop :=
  wr.rowIs S 125 64 (fun m => .int .u64 (ws.getD m 0 : Nat)) ∧ wr.rowIs X 126 8 (fun i => .int .u64 (shf x m i : Nat)) ∧ S < X ∧ Below S wo wr
theorem shf_start {wo wr : World} {S X : Nat} {ws : List Nat} {x : Eight} (h : Rnd wo S ws X x wr) : Shf wo S ws X x 7 wr :=
  ⟨h.1, h.2.1.congr (fun i hi => by unfold shf; rw [if_neg (by omega)]), h.2.2⟩
theorem shf_step {wo wr : World} {S X m : Nat} {ws : List Nat} {x : Eight} (h : Shf wo S ws X x m wr) (hm : 0 < m) (h7 : m ≤ 7) : Shf wo S ws X x (m - 1) (wr.setCell ⟨X, m, none⟩ (.int .u64 (x.nth (m - 1) : Nat))) := by
  have hlt := h.2.2.1
  refine ⟨h.1.setOther (by simp; omega) _, (h.2.1.set m _).congr fun j hj => ?_, hlt, h.2.2.2.setCell (Nat.le_of_lt hlt) _⟩
  by_cases e : j = m
  · subst e
    simp only [if_true, shf]
    rw [if_pos (by omega)]
  · simp only [if_neg e, shf]
    have : (m - 1 < j) ↔ (m < j) := by omega
    simp only [this]
theorem rnd_end {wo wr : World} {S X : Nat} {ws : List Nat} {x : Eight} {xa xb xc xd xe xf xg xh one kk ww : Nat} (h : Shf wo S ws X x 0 wr) (hx : x = ⟨xa, xb, xc, xd, xe, xf, xg, xh⟩) (ho : one = xh + bg1 xe + chs xe xf xg + kk + ww) :
    Rnd wo S ws X (round x kk ww) ((wr.setCell ⟨X, 4, none⟩ (.int .u64 ((xd + one) % 4294967296 : Nat))).setCell ⟨X, 0, none⟩ (.int .u64 ((one + bg0 xa + mjr xa xb xc) % 4294967296 : Nat))) := by
  have hlt := h.2.2.1
  refine ⟨(h.1.setOther (by simp; omega) _).setOther (by simp; omega) _, ((h.2.1.set 4 _).set 0 _).congr fun j hj => ?_, hlt, (h.2.2.2.setCell (Nat.le_of_lt hlt) _).setCell (Nat.le_of_lt hlt) _⟩
  subst hx
  have hl : low ⟨xa, xb, xc, xd, xe, xf, xg, xh⟩ kk ww = one % 4294967296 := by rw [ho]; rfl
  have hh : high ⟨xa, xb, xc, xd, xe, xf, xg, xh⟩ = (bg0 xa + mjr xa xb xc) % 4294967296 := rfl
  have e0 : (one + bg0 xa + mjr xa xb xc) % 4294967296 = (one % 4294967296 + (bg0 xa + mjr xa xb xc) % 4294967296) % 4294967296 := by omega
  have e4 : (xd + one) % 4294967296 = (xd + one % 4294967296) % 4294967296 := by omega
  obtain rfl | rfl | rfl | rfl | rfl | rfl | rfl | rfl : j = 0 ∨ j = 1 ∨ j = 2 ∨ j = 3 ∨ j = 4 ∨ j = 5 ∨ j = 6 ∨ j = 7 := by omega
  · simp only [if_true, e0]
    rw [round, hl, hh]
    rfl
  · rfl
  · rfl
  · rfl
  · have : (4 : Nat) ≠ 0 := by decide
    simp only [if_neg this, if_true, e4]
    rw [round, hl]
    rfl
  · rfl
  · rfl
  · rfl
/-- What lies in memory while the eight are added. -/
def Sum (w : World) (H : Nat) (s : Eight) (g : Nat) (M : List Nat) (X : Nat) (t : Eight) (k : Nat) (wr : World) : Prop :=
  Ref0 w wr ∧ wr.rowIs H 126 8 (fun j => .int .u64 (half s t k j : Nat)) ∧ w.heap.size + 1 < H ∧ Bytes wr (some ⟨g, 0, none⟩) M.length M ∧ H < g ∧ wr.rowIs X 126 8 (fun i => .int .u64 (t.nth i : Nat)) ∧ H < X
theorem sum_start {w wo wr : World} {H g S X : Nat} {s t : Eight} {M ws : List Nat} (h : RefD w H s g M wo) (hS : S = wo.heap.size) (hr : Rnd wo S ws X t wr) : Sum w H s g M X t 0 wr := by
  subst hS
  have h1 := h.below hr.2.2.2
  have hH := lt_of_heap h.1.2.1
  refine ⟨h1.1.1, ⟨_, h1.1.2.1, rfl, fun i hi => ?_⟩, h1.1.2.2, h1.2.1, h1.2.2, hr.2.1, by have := hr.2.2.1; omega⟩
  rw [get8 .u64 s i hi]
  simp [half]
theorem sum_step {w wr : World} {H g X k : Nat} {s t : Eight} {M : List Nat} (h : Sum w H s g M X t k wr) (hk : k < 8) : Sum w H s g M X t (k + 1) ((wr.setCell ⟨H, k, none⟩ (.int .u64 ((s.nth k + t.nth k) % 4294967296 : Nat))).drew) := by
  have h3 := h.2.2.1
  have h5 := h.2.2.2.2.1
  have h7 := h.2.2.2.2.2.2
  refine ⟨⟨(Below.heap_setCell _ _ _ _ (by simp; omega)).trans h.1.1, (Below.heap_setCell _ _ _ _ (by simp; omega)).trans h.1.2.1, Below.drew (h.1.2.2.setCell (by simp; omega) _)⟩, ?_, h3, ?_, h5, World.rowIs.drew (h.2.2.2.2.2.1.setOther (by simp; omega) _), h7⟩
  · refine World.rowIs.drew ((h.2.1.set k _).congr fun j hj => ?_)
    by_cases e : j = k
    · subst e; simp [half]
    · have : (j < k + 1) ↔ (j < k) := by omega
      simp [e, half, this]
  · have hB := h.2.2.2.1
    refine ⟨hB.1, hB.2.1, fun hn => ?_⟩
    obtain ⟨b, o, e, hc⟩ := hB.2.2 hn
    cases e
    refine ⟨g, 0, rfl, fun i hi => ?_⟩
    show (wr.setCell ⟨H, k, none⟩ _).cell? ⟨g, 0 + i, none⟩ = _
    rw [World.cell?_setCell_other _ _ _ _ (fun e => by injection e; omega)]
    exact hc i hi
theorem sum_end {w wr : World} {H g X : Nat} {s t : Eight} {M : List Nat} (h : Sum w H s g M X t 8 wr) : RefD w H (s.add t) g M wr := by
  obtain ⟨cs, hcs, hsz, hget⟩ := h.2.1
  have e : cs = cells8 .u64 (s.add t) := by
    apply Array.ext_getElem?
    intro i
    by_cases hi : i < 8
    · rw [hget i hi, get8 _ _ i hi, add_nth s t i hi]
      simp [half, hi]
    · rw [Array.getElem?_eq_none (by omega), Array.getElem?_eq_none (by simp [cells8]; omega)]
  subst e
  exact ⟨⟨h.1, hcs, h.2.2.1⟩, h.2.2.2.1, h.2.2.2.2.1⟩
theorem digest_ok (l : List Nat) : (digest l).Ok := chunk_ok (chunk_ok seed_ok _ _) _ _
/-- What lies in memory while the bytes are laid. -/
def Outs (w : World) (H : Nat) (s : Eight) (D k : Nat) (wr : World) : Prop := Ref1 w H s wr ∧ wr.rowIs D 80 32 (fun j => .int .u8 (outTo s k j : Nat)) ∧ H < D
theorem outs_start {w wr : World} {H g D : Nat} {s : Eight} {M : List Nat} (h : RefD w H s g M wr) (hD : D = wr.heap.size) : Outs w H s D 0 (wr.alloc (.cells (Array.replicate 32 (.int .u8 0)) 80)) :=
  ⟨h.1.alloc _, out_start (row_rep wr hD (.int .u8 0) 80 32), by rw [hD]; exact lt_of_heap h.1.2.1⟩
theorem Outs.below {w wr w' : World} {H D k : Nat} {s : Eight} (h : Outs w H s D k wr) (hb : Below wr.heap.size wr w') : Outs w H s D k w' :=
  ⟨h.1.below hb, h.2.1.of_block (hb.block _ h.2.1.lt), h.2.2⟩
theorem Outs.set_ {w wr : World} {H D k : Nat} {s : Eight} {v : Int} (h : Outs w H s D k wr) (hv : v = (outByte s k : Nat)) : Outs w H s D (k + 1) (wr.setCell ⟨D, k, none⟩ (.int .u8 v)) := by
  have h1 := h.1.2.2
  have h2 := h.2.2
  refine ⟨⟨⟨(Below.heap_setCell _ _ _ _ (by simp; omega)).trans h.1.1.1, (Below.heap_setCell _ _ _ _ (by simp; omega)).trans h.1.1.2.1, h.1.1.2.2.setCell (by simp; omega) _⟩, (Below.heap_setCell _ _ _ _ (by simp; omega)).trans h.1.2.1, h1⟩, out_step hv h.2.1, h2⟩
theorem out_byte (s : Eight) (k m : Nat) (hm : m < 4) : byteAt (s.nth k) 4 m = outByte s (4 * k + m) := by
  unfold byteAt outByte
  rw [show (4 * k + m) / 4 = k by omega, show (4 * k + m) % 4 = m by omega, show (256 : Nat) = 2 ^ 8 by decide, ← Nat.pow_mul, show 4 - 1 - m = 3 - m by omega]
theorem own_start {w wr : World} {H : Nat} {s : Eight} (h : Ref1 w H s wr) : Own w H s (.slice (some ⟨wr.heap.size, 0, none⟩) 0 0) [] (wr.alloc (.cells #[] 5)) :=
  ⟨h.alloc _, World.ownsRow_made wr #[] 0 (lt_of_heap h.2.1) (Nat.zero_le _) rfl⟩

set_option maxRecDepth 100000 in
set_option maxHeartbeats 2000000 in
theorem ref_any (w : World) (A : Option Addr) (n c : Nat) (l : List Nat) (hB : Bytes w A n l) (hn : n ≤ 40000) (hnil : A = none → c = 0) :
    Calls Tryz.prog 40 #[.slice A n c] w fun e w' => e = .returned (.agg (cellsOf .u8 (outList (digest l)))) ∧ Below w.heap.size w w' := by
  have HB := Lib.hid hB
  have HNil := Lib.hid hnil
  have HS := Lib.hid (ref_start w)
  have HP := Lib.hid size42
  have HA := Lib.hid (all_cells .u64 consts)
  have HZ := Lib.hid (show zer64.size = (cellsOf .u64 consts).size by decide)
  have HP8 := Lib.hid (size43 seed8)
  have HA8 := Lib.hid (all8 .u64 seed8)
  clear hB hnil
  go_enter Tryz.func40, Tryz.ntmps40
  go_wp2_with (first
    | (refine wpList_buildTo rfl 125 _ rfl (cellsOf .u64 consts) (by kernel_rfl) ?_)
    | (refine wpList_store_row rfl 125 (.tmp 3) (.tmp 24) rfl (w.heap.size + 1) (cellsOf .u64 consts) rfl rfl 125 zer64 HS.out.1 HP.out HZ.out HA.out ?_; refine forget (fun w1 => Ref0 w w1 ∧ w1.heap.size = w.heap.size + 1 + 1) HS.out.2 ?_; intro w1 hR; have HR := Lib.hid hR; clear hR; clear HS)
    | (refine wpList_buildTo rfl 126 _ rfl (cells8 .u64 seed8) (by kernel_rfl) ?_)
    | (refine wpList_store_row rfl 126 (.tmp 4) (.tmp 25) rfl w1.heap.size (cells8 .u64 seed8) rfl rfl 126 _ (ref1_put HR.out.1 HR.out.2).1 HP8.out rfl HA8.out ?_; refine forget (fun w2 => Ref1 w w1.heap.size seed8 w2) (ref1_put HR.out.1 HR.out.2).2 ?_; intro w2 hR2; obtain ⟨H, hH⟩ : ∃ H, H = w1.heap.size := ⟨_, rfl⟩; rw [← hH] at hR2 ⊢; have HO := Lib.hid (own_start hR2); clear hR2 hH)
    | (at_builtin; refine wpList_append_src rfl (.tmp 26) (.tmp 27) rfl (H + 1) _ [] rfl HO.out.2 HO.out.size A n c l rfl ?_ HNil.out (by simp; omega) ?_; exact HB.out.below HB.out.lt HO.out.1.1.2.2; intro v3 w3 ho3 hg3; have HO3 := Lib.hid (HO.out.more ho3 hg3); clear ho3 hg3)
    | (at_builtin; refine wpList_append_src rfl (.tmp 28) (.tmp 29) rfl (H + 1) _ ([] ++ l) rfl (HO3.out.alloc _).2 (HO3.out.alloc _).size (some ⟨w3.heap.size, 0, none⟩) 1 1 [128] rfl (Bytes.lit w3 [128] (by decide) 5 (0, 0)) (fun e => by cases e) (by rw [List.nil_append, HB.out.1]; omega) ?_; intro v4 w4 ho4 hg4; have hO4 := (HO3.out.alloc _).more ho4 hg4; obtain ⟨g4, cap4, rfl⟩ := hO4.form (by simp); have HO4 := Lib.hid hO4; clear ho4 hg4 hO4))
  have hln : l.length = n := HB.out.1
  have HO5 : Hid (Own w H seed8 (.slice (some ⟨g4, 0, none⟩) (n + 1) cap4) (l ++ 128 :: List.replicate 0 0) w4) := by
    have := HO4.out
    simp only [List.nil_append, List.length_append, hln] at this
    exact this
  rw [hln]
  clear HO4 HO3 HO HR HP HA HZ HP8 HA8
  have HLn := Lib.hid hln
  clear hln
  go_loopw [5] (fun v wr => ∃ (k g cap : Nat), k ≤ zs n ∧ v = .slice (some ⟨g, 0, none⟩) (n + 1 + k) cap ∧ Own w H seed8 v (l ++ 128 :: List.replicate k 0) wr) (fun v _ => zs n - (lenOf v - n - 1))
  case atStart => exact ⟨0, g4, cap4, Nat.zero_le _, rfl, HO5.out⟩
  case round =>
    clear HO5
    obtain ⟨k, g, cap, hk, rfl, hown⟩ := hrel
    have hz64 : zs n < 64 := Nat.mod_lt _ (by omega)
    by_cases hlt : k < zs n
    · have hne : (((n : Int) + 1 + k + 8) % 64 != 0) = true := by rw [bne_iff_ne]; unfold zs at *; omega
      have HOw := Lib.hid hown
      clear hown
      go_wp2_with (at_builtin; refine wpList_append_src rfl (.tmp 36) (.tmp 37) rfl (H + 1) _ (l ++ 128 :: List.replicate k 0) rfl (HOw.out.alloc _).2 (HOw.out.alloc _).size (some ⟨wr.heap.size, 0, none⟩) 1 1 [0] rfl (Bytes.lit wr [0] (by decide) 5 (0, 0)) (fun e => by cases e) (by simp [HLn.out]; omega) ?_; intro v4 w4 ho4 hg4; have hO4 := (HOw.out.alloc _).more ho4 hg4; obtain ⟨g4, cap4, rfl⟩ := hO4.form (by simp; omega); have HO4 := Lib.hid hO4; clear ho4 hg4 hO4)
      go_roundw
      case rel =>
        have hl := HLn.out
        refine ⟨k + 1, g4, cap4, by omega, by rw [hl]; congr 1; omega, ?_⟩
        have := HO4.out
        rw [List.append_assoc, List.cons_append, ← List.replicate_succ'] at this
        have e : (l ++ 128 :: List.replicate (k + 1) 0).length = l.length + (k + 1 + 1) := by simp
        rw [e] at this
        exact this
      case measure =>
        have hl := HLn.out
        simp [lenOf]
        omega
    · obtain rfl : k = zs n := by omega
      have hne : (((n : Int) + 1 + (zs n : Nat) + 8) % 64 != 0) = false := by rw [bne_eq_false_iff_eq]; unfold zs at *; omega
      have HOw := Lib.hid hown
      clear hown
      go_wp2_with fail
      refine (bytes_i8 _ (n * 8) ((n : Int) * 8) (by simp) (by omega)).mono ?_
      rintro e w5 ⟨rfl, hrow, hb5⟩
      have hO5 := HOw.out.below hb5
      have HB5 := Lib.hid (bytes_row hrow)
      have HO5 := Lib.hid hO5
      obtain ⟨S5, hS5⟩ : ∃ S, S = wr.heap.size := ⟨_, rfl⟩
      rw [← hS5] at HB5 ⊢
      clear hrow hb5 hO5 hS5 HOw
      go_wp2_with (at_builtin; refine wpList_append_src rfl (.tmp 39) (.tmp 44) rfl (H + 1) _ (l ++ 128 :: List.replicate (zs n) 0) rfl HO5.out.2 HO5.out.size (some ⟨S5, 0, none⟩) 8 8 (bytesOf (n * 8) 8) rfl HB5.out (fun e => by cases e) (by simp [HLn.out]; omega) ?_; intro v6 w6 ho6 hg6; have hO6 := HO5.out.more ho6 hg6; obtain ⟨g, cap, rfl, hcap⟩ := hO6.form2 (by simp; omega); have HO6 := Lib.hid hO6; clear ho6 hg6 hO6)
      obtain ⟨M, hM⟩ : ∃ M, M = l ++ 128 :: List.replicate (zs n) 0 ++ bytesOf (n * 8) 8 := ⟨_, rfl⟩
      have hML : M.length = l.length + (zs n + (bytesOf (n * 8) 8).length + 1) := by rw [hM]; simp
      obtain ⟨B, hB⟩ : ∃ B, B * 64 = M.length := by
        have hl := HLn.out
        have h8 : (bytesOf (n * 8) 8).length = 8 := by simp [bytesOf]
        rw [hML, h8, hl]
        unfold zs
        exact ⟨(n + ((119 - n % 64) % 64 + 8 + 1)) / 64, by omega⟩
      have hM2 : M.length ≤ 50000 := by
        have hl := HLn.out
        have h8 : (bytesOf (n * 8) 8).length = 8 := by simp [bytesOf]
        rw [hML, h8, hl]
        omega
      have HD := Lib.hid (own_bytes HO6.out (by rw [hM]) hM (pad_all_lt HB.out.2.1 (zs n) (n * 8)))
      have hcap2 : M.length ≤ cap := by rw [hM]; exact hcap
      clear hcap
      rw [← hML]
      have HFin := Lib.hid (show chunk seed8 M B = digest l by rw [hM]; exact chunk_all HLn.out (by rw [← hM]; exact hB))
      have HM := Lib.hid hM
      have HBq := Lib.hid hB
      clear HO6 hML hM HB5 HO5 hne hB
      obtain ⟨K, hKM⟩ : ∃ K, K = M.length := ⟨_, rfl⟩
      have HKM := Lib.hid hKM.symm
      rw [← hKM] at HBq hM2 hcap2 ⊢
      clear hKM
      go_loopw [6] (fun v wr => ∃ j p : Nat, j ≤ B ∧ p = 64 * j ∧ v = .int .i64 (p : Nat) ∧ RefD w H (chunk seed8 M j) g M wr) (fun v _ => K - (intOf v).toNat)
      case atStart => exact ⟨0, 0, by omega, rfl, rfl, HD.out⟩
      case round =>
        clear HD
        obtain ⟨j, p, hj, hp, rfl, hrd⟩ := hrel
        by_cases hjB : j < B
        · have hpK : p + 64 ≤ K := by have := HBq.out; omega
          obtain ⟨S, hS⟩ : ∃ S, S = wr.heap.size := ⟨_, rfl⟩
          obtain ⟨G, hG⟩ : ∃ G : Nat → Nat, G = fun i => (M.drop p).getD i 0 := ⟨_, rfl⟩
          have HGb := Lib.hid (show ∀ i, G i < 256 from fun i => by rw [hG]; exact getD_lt256 (fun x hx => hrd.2.1.2.1 x (List.mem_of_mem_drop hx)) i)
          have HG := Lib.hid hG
          have HPj := Lib.hid hp
          have HRd := Lib.hid hrd
          have HSz := Lib.hid hS
          have HKm := Lib.hid (show p + 64 ≤ M.length by rw [HKM.out]; exact hpK)
          have hlt : (p : Int) < (K : Int) := by omega
          clear hrd hp hG
          go_wp2
          rw [← hS]
          clear hS
          obtain ⟨wo, rfl⟩ : ∃ wo : World, wo = wr := ⟨_, rfl⟩
          go_loopw [8, 52] (fun _ i wi => ∃ k : Nat, k ≤ 64 ∧ i = .int .i64 k ∧ wi.rowIs S 125 64 (fun m => .int .u64 ((words G k).getD m 0 : Nat)) ∧ Below S wo wi) (fun _ i _ => 64 - (intOf i).toNat)
          case atStart => exact ⟨0, by omega, rfl, (row_rep wo HSz.out (.int .u64 0) 125 64), by rw [HSz.out]; exact (Below.refl _ _).alloc (Nat.le_refl _) _⟩
          case round =>
            obtain ⟨k, hk, rfl, hrow, hbel⟩ := hrel
            by_cases hk16 : k < 16
            · have HB4 := Lib.hid (four HRd.out (hbel.mono (by rw [HSz.out]; exact Nat.le_refl _)) HG.out HKm.out hk16)
              have hc := hrow.cell (i := k) (by omega)
              have hf := hrow.frozen k
              have HRow := Lib.hid hrow
              have HBel := Lib.hid hbel
              clear hrow hbel
              go_wp2_with fail
              refine (number_any _ 4 _ _ _ HB4.out (by omega)).mono ?_
              rintro e w' ⟨rfl, rfl⟩
              rw [num_word]
              go_wp2
              go_roundw
              case rel => exact ⟨k + 1, by omega, by go_num, row_step HRow.out (by rw [words_new, if_pos hk16]), HBel.out.setCell (Nat.le_refl _) _⟩
              case measure => simp [intOf]; omega
            · by_cases hk64 : k < 64
              · have hW := words_lt HGb.out k
                have c15 := hrow.cell (i := k - 15) (by omega)
                have c2 := hrow.cell (i := k - 2) (by omega)
                have c16 := hrow.cell (i := k - 16) (by omega)
                have c7 := hrow.cell (i := k - 7) (by omega)
                have ck := hrow.cell (i := k) (by omega)
                have cf := hrow.frozen k
                have y15 := getD_lt hW (k - 15)
                have y2 := getD_lt hW (k - 2)
                have y16 := getD_lt hW (k - 16)
                have y7 := getD_lt hW (k - 7)
                have HN : Hid ((words G (k + 1)).getD k 0 = next (words G k) k) := by
                  rw [words_new, if_neg (by omega)]; exact rfl
                unfold next at HN
                have HRow := Lib.hid hrow
                have HBel := Lib.hid hbel
                clear hrow hbel hW
                generalize (words G k).getD (k - 15) 0 = x15 at *
                generalize (words G k).getD (k - 2) 0 = x2 at *
                generalize (words G k).getD (k - 16) 0 = x16 at *
                generalize (words G k).getD (k - 7) 0 = x7 at *
                have H15 := Lib.hid (sm0_64 x15 y15)
                have H2 := Lib.hid (sm1_64 x2 y2)
                go_wp2
                have e15 : IntKind.i64.wrap ((k : Int) - 15) = (k : Int) - 15 := IntWalk.i64_in _ (by omega)
                have t15 : ((k : Int) - 15).toNat = k - 15 := by omega
                have b15 : (0 : Int) ≤ (k : Int) - 15 := by omega
                have d15 : (15 : Int) ≤ (k : Int) := by omega
                have l15 : (k : Int) - 15 < 64 := by omega
                go_quiet ((go_at_call 63; first | (with_reducible exact trn_quiet _ _ x15 7 7 rfl y15 (by omega) (by omega)) | (with_reducible exact trn_quiet _ _ x15 18 18 rfl y15 (by omega) (by omega))))
                rw [H15.out]
                clear e15 t15 c15
                have p2 : (wr.drewN nq).cell? ⟨S, k - 2, none⟩ = some (.int .u64 (x2 : Nat)) := c2
                have p16 : (wr.drewN nq).cell? ⟨S, k - 16, none⟩ = some (.int .u64 (x16 : Nat)) := c16
                have p7 : (wr.drewN nq).cell? ⟨S, k - 7, none⟩ = some (.int .u64 (x7 : Nat)) := c7
                have pk : (wr.drewN nq).cell? ⟨S, k, none⟩ = some (.int .u64 ((words G k).getD k 0 : Nat)) := ck
                have pf : (wr.drewN nq).frozen? ⟨S, k, none⟩ = false := cf
                have PRow : Hid ((wr.drewN nq).rowIs S 125 64 (fun m => .int .u64 ((words G k).getD m 0 : Nat))) := HRow.out
                have PBel : Hid (Below S wo (wr.drewN nq)) := below_draws HBel.out nq
                clear c2 c16 c7 ck cf HRow HBel
                generalize wr.drewN nq = wq at *
                go_wp2
                have e2 : IntKind.i64.wrap ((k : Int) - 2) = (k : Int) - 2 := IntWalk.i64_in _ (by omega)
                have t2 : ((k : Int) - 2).toNat = k - 2 := by omega
                have b2 : (0 : Int) ≤ (k : Int) - 2 := by omega
                have d2 : (2 : Int) ≤ (k : Int) := by omega
                have l2 : (k : Int) - 2 < 64 := by omega
                go_quiet ((go_at_call 63; first | (with_reducible exact trn_quiet _ _ x2 17 17 rfl y2 (by omega) (by omega)) | (with_reducible exact trn_quiet _ _ x2 19 19 rfl y2 (by omega) (by omega))))
                rw [H2.out]
                clear e2 t2 p2
                have q16 : (wq.drewN nq).cell? ⟨S, k - 16, none⟩ = some (.int .u64 (x16 : Nat)) := p16
                have q7 : (wq.drewN nq).cell? ⟨S, k - 7, none⟩ = some (.int .u64 (x7 : Nat)) := p7
                have qk : (wq.drewN nq).cell? ⟨S, k, none⟩ = some (.int .u64 ((words G k).getD k 0 : Nat)) := pk
                have qf : (wq.drewN nq).frozen? ⟨S, k, none⟩ = false := pf
                have QRow : Hid ((wq.drewN nq).rowIs S 125 64 (fun m => .int .u64 ((words G k).getD m 0 : Nat))) := PRow.out
                have QBel : Hid (Below S wo (wq.drewN nq)) := below_draws PBel.out nq
                clear p16 p7 pk pf PRow PBel
                generalize wq.drewN nq = wp at *
                have z15 := sm0_lt y15
                have z2 := sm1_lt y2
                generalize sm0 x15 = s15 at *
                generalize sm1 x2 = s2 at *
                go_wp2
                have e16 : IntKind.i64.wrap ((k : Int) - 16) = (k : Int) - 16 := IntWalk.i64_in _ (by omega)
                have e7 : IntKind.i64.wrap ((k : Int) - 7) = (k : Int) - 7 := IntWalk.i64_in _ (by omega)
                have t16 : ((k : Int) - 16).toNat = k - 16 := by omega
                have t7 : ((k : Int) - 7).toNat = k - 7 := by omega
                have b16 : (0 : Int) ≤ (k : Int) - 16 := by omega
                have b7 : (0 : Int) ≤ (k : Int) - 7 := by omega
                have d16 : (16 : Int) ≤ (k : Int) := by omega
                have d7 : (7 : Int) ≤ (k : Int) := by omega
                have l16 : (k : Int) - 16 < 64 := by omega
                have l7 : (k : Int) - 7 < 64 := by omega
                have lk : (k : Int) < 64 := by omega
                go_still_tail 16, (by kernel_rfl)
                clear e16 e7 t16 t7
                go_wp2
                go_roundw
                case rel =>
                  refine ⟨k + 1, by omega, by go_num, World.rowIs.drew (row_step QRow.out ?_), Below.drew (QBel.out.setCell (Nat.le_refl _) _)⟩
                  rw [HN.out]
                  exact (congrArg (fun z => bits .and .u64 z 4294967295) (by simp)).trans (and64 (x16 + s15 + x7 + s2) (by omega))
                case measure => simp [intOf]; omega
              · obtain rfl : k = 64 := by omega
                rw [show ((64 : Nat) : Int) = 64 from rfl]
                obtain ⟨ws, hws⟩ : ∃ ws, ws = words G 64 := ⟨_, rfl⟩
                have HWl := Lib.hid (show ws.length = 64 by rw [hws]; exact words_len G 64)
                have HWt := Lib.hid (show ∀ x ∈ ws, x < 4294967296 by rw [hws]; exact words_lt HGb.out 64)
                rw [← hws] at hrow
                have HWs := Lib.hid hws
                obtain ⟨s, hs⟩ : ∃ s, s = chunk seed8 M j := ⟨_, rfl⟩
                have HSok := Lib.hid (show s.Ok by rw [hs]; exact chunk_ok seed_ok M j)
                have HRs : Hid (RefD w H s g M wo) := by rw [hs]; exact HRd.out
                have HSs := Lib.hid hs
                have HLd := Lib.hid (ref_load HRs.out hbel HSz.out)
                have HPs := Lib.hid (size43 s)
                have HAs := Lib.hid (all8 .u64 s)
                have HRow := Lib.hid hrow
                have HBel := Lib.hid hbel
                clear hrow hbel hws hs
                go_wp2_with (first
                  | (refine wpList_load_row rfl 126 (.tmp 4) rfl H rfl 126 _ (0, 0) _ HLd.out Tryz.underlying126 rfl HPs.out ?_)
                  | (refine wpList_store_row rfl 126 (.tmp 11) (.tmp 122) rfl wr.heap.size (cells8 .u64 s) rfl rfl 126 _ (rnd_start (s := s) HRow.out HBel.out HSz.out).1 HPs.out rfl HAs.out ?_; refine forget (fun w7 => Rnd wo S ws wr.heap.size s w7) (rnd_start (s := s) HRow.out HBel.out HSz.out).2 ?_; intro w7 hR7; have HR7 := Lib.hid hR7; clear hR7))
                generalize wr.heap.size = X at *
                clear HLd HRow HBel HPs HAs HRd
                go_loopw [12, 123] (fun _ i wr => ∃ k : Nat, k ≤ 64 ∧ i = .int .i64 k ∧ Rnd wo S ws X (rounds ws s k) wr) (fun _ i _ => 64 - (intOf i).toNat)
                case atStart => exact ⟨0, by omega, rfl, HR7.out⟩
                case round =>
                  clear HR7
                  obtain ⟨k, hk, rfl, hrnd⟩ := hrel
                  by_cases hk64 : k < 64
                  · obtain ⟨oa, ob, oc, od, oe, of, og, oh⟩ := rounds_ok HSok.out ws k
                    have HN : Hid (rounds ws s (k + 1) = round (rounds ws s k) (consts.getD k 0) (ws.getD k 0)) := rfl
                    have HCk := Lib.hid (fun (v : World) (hv : Below S wo v) => const_cell HRs.out HSz.out hv hk64)
                    have HCw := Lib.hid (fun (v : World) (hv : v.rowIs S 125 64 (fun m => .int .u64 (ws.getD m 0 : Nat))) => hv.cell hk64)
                    have yw := getD_lt HWt.out k
                    have yk : consts.getD k 0 < 4294967296 := getD_lt (by decide) k
                    have HF := Lib.hid hrnd
                    clear hrnd
                    generalize rounds ws s k = R at *
                    generalize consts.getD k 0 = kk at *
                    generalize ws.getD k 0 = ww at *
                    obtain ⟨xa, xb, xc, xd, xe, xf, xg, xh⟩ := R
                    simp only at oa ob oc od oe of og oh
                    have HCH := Lib.hid (chs_or xe xf xg oe of og)
                    have HMJ := Lib.hid (mjr_or xa xb xc oa ob oc)
                    have HB0 := Lib.hid (bg0_64 xa oa)
                    have HB1 := Lib.hid (bg1_64 xe oe)
                    have lk : (k : Int) < 64 := by omega
                    obtain ⟨c0, c1, c2, c3, c4, c5, c6, c7⟩ := rnd_cells HF.out
                    go_wp2
                    go_quiet ((go_at_call 63; first | (with_reducible exact trn_quiet _ _ xe 6 6 rfl oe (by omega) (by omega)) | (with_reducible exact trn_quiet _ _ xe 11 11 rfl oe (by omega) (by omega)) | (with_reducible exact trn_quiet _ _ xe 25 25 rfl oe (by omega) (by omega))))
                    rw [HB1.out]
                    have HF1 := Lib.hid (HF.out.draws nq)
                    clear c0 c1 c2 c3 c4 c5 c6 c7 HF
                    generalize wr.drewN nq = w8 at *
                    obtain ⟨c0, c1, c2, c3, c4, c5, c6, c7⟩ := rnd_cells HF1.out
                    have ck := HCk.out w8 HF1.out.2.2.2
                    have cw := HCw.out w8 HF1.out.1
                    go_wp2
                    rw [HCH.out]
                    go_quiet (fail)
                    have ob1 := bg1_lt oe
                    have och := chs_lt (e := xe) of og
                    have ob0 := bg0_lt oa
                    have omj := mjr_lt (a := xa) ob oc
                    obtain ⟨one, hone⟩ : ∃ one, one = xh + bg1 xe + chs xe xf xg + kk + ww := ⟨_, rfl⟩
                    have hone2 : one < 21474836480 := by omega
                    rw [one_i oh ob1 och yk yw, ← hone]
                    have HOne := Lib.hid hone
                    have HF2 := Lib.hid (HF1.out.draws nq)
                    clear c0 c1 c2 c3 c4 c5 c6 c7 HF1 ck cw hone
                    generalize w8.drewN nq = w9 at *
                    obtain ⟨c0, c1, c2, c3, c4, c5, c6, c7⟩ := rnd_cells HF2.out
                    go_wp2
                    go_quiet ((go_at_call 63; first | (with_reducible exact trn_quiet _ _ xa 2 2 rfl oa (by omega) (by omega)) | (with_reducible exact trn_quiet _ _ xa 13 13 rfl oa (by omega) (by omega)) | (with_reducible exact trn_quiet _ _ xa 22 22 rfl oa (by omega) (by omega))))
                    rw [HB0.out]
                    have HF3 := Lib.hid (HF2.out.draws nq)
                    clear c0 c1 c2 c3 c4 c5 c6 c7 HF2
                    generalize w9.drewN nq = w10 at *
                    obtain ⟨c0, c1, c2, c3, c4, c5, c6, c7⟩ := rnd_cells HF3.out
                    go_wp2
                    rw [HMJ.out]
                    clear c0 c1 c2 c3 c4 c5 c6 c7 HCk HCw HB0 HB1 HCH HMJ
                    obtain ⟨x, hx⟩ : ∃ x : Eight, x = ⟨xa, xb, xc, xd, xe, xf, xg, xh⟩ := ⟨_, rfl⟩
                    rw [← hx] at HF3 HN
                    have HXx := Lib.hid hx
                    have HXok := Lib.hid (show x.Ok by rw [hx]; exact ⟨oa, ob, oc, od, oe, of, og, oh⟩)
                    clear hx
                    go_loopw [18] (fun i wr => ∃ m : Nat, m ≤ 7 ∧ i = .int .i64 m ∧ Shf wo S ws X x m wr) (fun i _ => (intOf i).toNat)
                    case atStart => exact ⟨7, by omega, rfl, shf_start HF3.out⟩
                    case round =>
                      clear HF3
                      obtain ⟨m, hm, rfl, hsh⟩ := hrel
                      by_cases hm0 : 0 < m
                      · have cp := hsh.2.1.cell (i := m - 1) (by omega)
                        have cm := hsh.2.1.cell (i := m) (by omega)
                        have fm := hsh.2.1.frozen m
                        have HSh := Lib.hid hsh
                        have HV : Hid (shf x m (m - 1) = x.nth (m - 1)) := by unfold shf; rw [if_neg (by omega)]; exact rfl
                        rw [HV.out] at cp
                        have hm1 : (0 : Int) < (m : Int) := by omega
                        clear hsh
                        go_wp2
                        go_roundw
                        case rel => exact ⟨m - 1, by omega, by go_num, shf_step HSh.out hm0 hm⟩
                        case measure => simp [intOf]; omega
                      · obtain rfl : m = 0 := by omega
                        have c4 := hsh.2.1.cell (i := 4) (by omega)
                        have c0 := hsh.2.1.cell (i := 0) (by omega)
                        have f4 := hsh.2.1.frozen 4
                        have f0 := hsh.2.1.frozen 0
                        have HSh := Lib.hid hsh
                        have HV : Hid (shf x 0 4 = xd) := by rw [HXx.out]; exact rfl
                        rw [HV.out] at c4
                        have H4 := Lib.hid (add_and xd one od hone2)
                        have H0 := Lib.hid (add3_and one (bg0 xa) (mjr xa xb xc) hone2 ob0 omj)
                        clear hsh
                        rw [show ((0 : Nat) : Int) = 0 from rfl]
                        go_wp2
                        go_roundw
                        case rel =>
                          refine ⟨k + 1, by omega, by go_num, ?_⟩
                          rw [H4.out, H0.out, HN.out]
                          exact rnd_end HSh.out HXx.out HOne.out
                        case measure => simp [intOf]; omega
                  · obtain rfl : k = 64 := by omega
                    rw [show ((64 : Nat) : Int) = 64 from rfl]
                    obtain ⟨t, ht⟩ : ∃ t, t = rounds ws s 64 := ⟨_, rfl⟩
                    have HTok := Lib.hid (show t.Ok by rw [ht]; exact rounds_ok HSok.out ws 64)
                    rw [← ht] at hrnd
                    have HTt := Lib.hid ht
                    have HSu := Lib.hid (sum_start HRs.out HSz.out hrnd)
                    clear hrnd ht
                    go_wp2
                    go_loopw [19, 215] (fun _ i wr => ∃ k : Nat, k ≤ 8 ∧ i = .int .i64 k ∧ Sum w H s g M X t k wr) (fun _ i _ => 8 - (intOf i).toNat)
                    case atStart => exact ⟨0, by omega, rfl, HSu.out⟩
                    case round =>
                      clear HSu
                      obtain ⟨k, hk, rfl, hsum⟩ := hrel
                      by_cases hk8 : k < 8
                      · have ch := hsum.2.1.cell hk8
                        have fh := hsum.2.1.frozen k
                        have cx := hsum.2.2.2.2.2.1.cell hk8
                        have HHf : Hid (half s t k k = s.nth k) := by simp [half, Hid]
                        rw [HHf.out] at ch
                        have o1 := nth_lt HSok.out k
                        have o2 := nth_lt HTok.out k
                        have HA := Lib.hid (add_and (s.nth k) (t.nth k) o1 (by omega))
                        have HSm := Lib.hid hsum
                        have lk : (k : Int) < 8 := by omega
                        clear hsum
                        go_wp2
                        go_still_tail 10, (by kernel_rfl)
                        go_wp2
                        rw [HA.out]
                        go_roundw
                        case rel => exact ⟨k + 1, by omega, by go_num, sum_step HSm.out hk8⟩
                        case measure => simp [intOf]; omega
                      · obtain rfl : k = 8 := by omega
                        have HSe := Lib.hid (sum_end hsum)
                        clear hsum
                        go_wp2
                        go_roundw
                        case rel =>
                          refine ⟨j + 1, p + 64, by omega, by have := HPj.out; omega, by go_num, ?_⟩
                          have e : chunk seed8 M (j + 1) = s.add t := by
                            rw [HTt.out, HWs.out, HSs.out, HG.out, HPj.out]
                            rfl
                          rw [e]
                          exact HSe.out
                        case measure => simp [intOf]; omega
        · obtain rfl : j = B := by omega
          obtain ⟨s, hs⟩ : ∃ s, s = digest l := ⟨_, rfl⟩
          rw [HFin.out, ← hs] at hrd
          have HSs := Lib.hid hs
          have HSok := Lib.hid (show s.Ok by rw [hs]; exact digest_ok l)
          have hnl : ¬ (p : Int) < (K : Int) := by have := HBq.out; omega
          have HRd := Lib.hid hrd
          obtain ⟨D, hD⟩ : ∃ D, D = wr.heap.size := ⟨_, rfl⟩
          have HOs := Lib.hid (outs_start hrd hD)
          clear hrd hs hp
          go_wp2
          rw [← hD]
          clear hD
          go_loopw [21, 22, 23, 229] (fun _ _ _ i wr => ∃ k : Nat, k ≤ 8 ∧ i = .int .i64 k ∧ Outs w H s D (4 * k) wr) (fun _ _ _ i _ => 8 - (intOf i).toNat)
          case atStart => exact ⟨0, by omega, rfl, HOs.out⟩
          case round =>
            clear HOs
            obtain ⟨k, hk, rfl, hout⟩ := hrel
            by_cases hk8 : k < 8
            · have ch : wr.cell? ⟨H, k, none⟩ = some (.int .u64 (s.nth k : Nat)) := by rw [cell_of_row _ _ _ _ _ _ hout.1.2.1]; exact get8 .u64 s k hk8
              have o1 := nth_lt HSok.out k
              have HOt := Lib.hid hout
              have lk : (k : Int) < 8 := by omega
              clear hout
              obtain ⟨v, hv⟩ : ∃ v, v = s.nth k := ⟨_, rfl⟩
              rw [← hv] at ch o1
              have HVv := Lib.hid hv
              clear hv
              go_wp2_with fail
              refine (bytes_any4 _ v (by omega)).mono ?_
              rintro e w5 ⟨rfl, hrow, hb5⟩
              have HO5 := Lib.hid (HOt.out.below hb5)
              have hDT : D < wr.heap.size := HOt.out.2.1.lt
              obtain ⟨T, hT⟩ : ∃ T, T = wr.heap.size := ⟨_, rfl⟩
              rw [← hT] at hrow hDT ⊢
              have HRw := Lib.hid hrow
              clear hrow hb5 hT ch HOt
              go_wp2
              go_loopw [23, 236] (fun _ i wr => ∃ m : Nat, m ≤ 4 ∧ i = .int .i64 m ∧ Outs w H s D (4 * k + m) wr ∧ wr.rowIs T 5 4 (fun j => .int .u8 (byteAt v 4 j : Nat))) (fun _ i _ => 4 - (intOf i).toNat)
              case atStart => exact ⟨0, by omega, rfl, HO5.out, HRw.out⟩
              case round =>
                clear HO5 HRw
                obtain ⟨m, hm, rfl, hout, hrow⟩ := hrel
                by_cases hm4 : m < 4
                · have cb := hrow.cell hm4
                  have cd := hout.2.1.cell (i := 4 * k + m) (by omega)
                  have fd := hout.2.1.frozen (4 * k + m)
                  have HOt := Lib.hid hout
                  have HRw := Lib.hid hrow
                  have HOb := Lib.hid (out_byte s k m hm4)
                  rw [← HVv.out] at HOb
                  have lm : (m : Int) < 4 := by omega
                  clear hout hrow
                  go_wp2
                  go_roundw
                  case rel => exact ⟨m + 1, by omega, by go_num, HOt.out.set_ (by rw [HOb.out]), HRw.out.setOther (by simp; omega) _⟩
                  case measure => simp [intOf]; omega
                · obtain rfl : m = 4 := by omega
                  have HOt := Lib.hid hout
                  clear hout hrow
                  go_wp2
                  go_roundw
                  case rel => exact ⟨k + 1, by omega, by go_num, HOt.out⟩
                  case measure => simp [intOf]; omega
            · obtain rfl : k = 8 := by omega
              obtain ⟨cs, hcs, hsz, hget⟩ := hout.2.1
              obtain rfl : cs = cellsOf .u8 (outList s) := row_list hsz (fun i hi => by rw [hget i hi]; simp [outTo, hi])
              have HCS := Lib.hid hcs
              have HCZ := Lib.hid hout.1.1.1
              have HBel := Lib.hid hout.1.1.2.2
              have HP2 := Lib.hid (size32 _ hsz)
              have HA2 := Lib.hid (all_cells .u8 (outList s))
              have HZ2 := Lib.hid (show zer32.size = (cellsOf .u8 (outList s)).size by rw [hsz]; simp)
              clear hcs hout hget hsz
              go_wp2_with (first | (refine wpList_load_row rfl 80 (.tmp 20) rfl D rfl 80 _ (0, 0) _ HCS.out Tryz.underlying80 rfl HP2.out ?_) | (refine wpList_store_row rfl 80 (.tmp 2) (.tmp 250) rfl w.heap.size _ rfl rfl 80 _ HCZ.out HP2.out HZ2.out HA2.out ?_))
              refine bodyPost_ret (v := .agg (cellsOf .u8 (outList s))) ?_ rfl ⟨by rw [HSs.out], ?_⟩
              · refine results_cell_row Tryz.results40 _ _ w.heap.size 80 _ (0, 0) _ rfl ?_ Tryz.underlying80 rfl HP2.out
                exact row_new HCZ.out
              · exact below_setRow HBel.out (Nat.le_refl _) _
end Go.Proofs.YtfmdhcjniikfdaaGreatDoor.sumDoor
/- What the small parts of package frame answer, and the head of a payload. -/
namespace Go.Proofs.YtfmdhcjniikfdaaGreatDoor.frm
open Go.ChangeShapes Go.WideShapes Go.ChangeAt Go.RowKit
open Go.Proofs.YtfmdhcjniikfdaaGreatDoor.codec (Bytes vals vals_append vals_length vals_one OutIs More Made New bytesOf byteAt bytesOf_length bytesOf_lt Fits strOf)
set_option linter.unusedVariables false
set_option maxRecDepth 100000
set_option linter.unusedSimpArgs false

/-- The CRC of bytes. -/
def crcOf (l : List Nat) : Nat := crcPlain.crcRun l ^^^ 4294967295
theorem crcOf_lt {l : List Nat} (h : ∀ b ∈ l, b < 256) : crcOf l < 4294967296 := crcPlain.xor_lt32 (crcPlain.crcRun_lt h) (by omega)
/-- The digest of bytes. -/
def dig (l : List Nat) : List Nat := sumDoor.outList (sumDoor.digest l)
theorem dig_length (l : List Nat) : (dig l).length = 32 := by simp [dig, sumDoor.outList]
theorem dig_lt (l : List Nat) : ∀ b ∈ dig l, b < 256 := by
  intro b hb
  obtain ⟨j, _, rfl⟩ := List.mem_map.1 hb
  exact Nat.mod_lt _ (by omega)
/-- The first eight bytes of a head. -/
def first (k n : Nat) : List Nat := [99, 117, 98, k] ++ bytesOf n 4
theorem first_length (k n : Nat) : (first k n).length = 8 := by simp [first, bytesOf]
theorem first_lt {k n : Nat} (hk : k < 256) : ∀ b ∈ first k n, b < 256 := by
  intro b hb
  rcases List.mem_append.1 hb with h | h
  · simp at h
    omega
  · exact bytesOf_lt _ _ b h
/-- The head of a payload. -/
def headL (k : Nat) (p : List Nat) : List Nat := first k p.length ++ bytesOf (crcOf (first k p.length)) 4 ++ dig p
theorem headL_length (k : Nat) (p : List Nat) : (headL k p).length = 44 := by simp [headL, first_length, dig_length, bytesOf]
/-- The frame of a payload. -/
def frameL (k : Nat) (p : List Nat) : List Nat := headL k p ++ p
theorem frameL_length (k : Nat) (p : List Nat) : (frameL k p).length = 44 + p.length := by simp [frameL, headL_length]

theorem crc_prog (A : Option Addr) (n c : Nat) (l : List Nat) (w : World) (h : Bytes w A n l) (hn : n ≤ maxLen) :
    Calls Tryz.prog 76 #[.slice A n c] w fun e w' => e = .returned (.int .u32 (crcOf l : Nat)) ∧ w = w' := sumDoor.crc_any A n c l w h hn
theorem crc_ref (A : Option Addr) (n c : Nat) (l : List Nat) (w : World) (h : Bytes w A n l) (hn : n ≤ maxLen) :
    Calls Tryz.prog 54 #[.slice A n c] w fun e w' => e = .returned (.int .u32 (crcOf l : Nat)) ∧ w = w' := by
  have := sumDoor.crcRef_any A n c l w h hn
  rw [← crcPlain.crcRun_slow h.2.1] at this
  exact this
theorem dig_prog (w : World) (A : Option Addr) (n c : Nat) (l : List Nat) (hB : Bytes w A n l) (hn : n ≤ 40000) (hc : n ≤ c) (hL : sumDoor.Laid w) :
    Calls Tryz.prog 36 #[.slice A n c] w fun e w' => e = .returned (.agg (vals (dig l)).toArray) ∧ Below w.heap.size w w' := sumDoor.digest_any w A n c l hB hn hc hL
theorem dig_ref (w : World) (A : Option Addr) (n c : Nat) (l : List Nat) (hB : Bytes w A n l) (hn : n ≤ 40000) (hnil : A = none → c = 0) :
    Calls Tryz.prog 40 #[.slice A n c] w fun e w' => e = .returned (.agg (vals (dig l)).toArray) ∧ Below w.heap.size w w' := sumDoor.ref_any w A n c l hB hn hnil

set_option maxHeartbeats 400000 in
theorem isKind_any (w : World) (n : Int) :
    Calls Tryz.prog 74 #[.int .i64 n] w fun e w' => e = .returned (.bool (decide (1 ≤ n ∧ n ≤ 3))) ∧ w = w' := by
  by_cases h1 : 1 ≤ n
  · by_cases h7 : n ≤ 3
    · have : decide (1 ≤ n ∧ n ≤ 3) = true := by simp [h1, h7]
      rw [this]
      go_enter Tryz.func74, Tryz.ntmps74
      go_wp2
      go_ret
      exact ⟨rfl, rfl⟩
    · have : decide (1 ≤ n ∧ n ≤ 3) = false := by simp [h7]
      rw [this]
      go_enter Tryz.func74, Tryz.ntmps74
      go_wp2
      go_ret
      exact ⟨rfl, rfl⟩
  · have : decide (1 ≤ n ∧ n ≤ 3) = false := by simp [h1]
    rw [this]
    go_enter Tryz.func74, Tryz.ntmps74
    go_wp2
    go_ret
    exact ⟨rfl, rfl⟩

set_option maxHeartbeats 400000 in
theorem copied_any (w : World) (A : Option Addr) (n c : Nat) (l : List Nat) (h : Bytes w A n l) (hn : n ≤ 10000000) :
    Calls Tryz.prog 37 #[.slice A n c] w fun e w' => e = .returned (.slice (some ⟨w.heap.size, 0, none⟩) n n) ∧ w' = w.alloc (.cells (vals l).toArray 5) := by
  have hmk := run_make_row' (P := Tryz.prog) 22 5 (.int .u8 0) 1 Tryz.underlying22 codec.info5 rfl .i64 .i64 n (by omega) (by omega)
  have HB := Lib.hid h
  clear h
  go_enter Tryz.func37, Tryz.ntmps37
  go_wp2_with (refine codec.wpList_copied rfl (.tmp 7) (.tmp 8) rfl A n c l HB.out rfl rfl ?_)
  go_ret
  exact ⟨rfl, rfl⟩

/-- Two Outs beside each other, on blocks of the call's own. -/
def Two (W : World) (P1 : Nat) (l1 F1 : List Nat) (P2 : Nat) (l2 F2 : List Nat) (w : World) : Prop :=
  OutIs w P1 l1 F1 ∧ OutIs w P2 l2 F2 ∧ (∀ k ∈ F1, W.heap.size ≤ k) ∧ (∀ k ∈ F2, W.heap.size ≤ k) ∧ (∀ k ∈ F2, k ∉ F1) ∧ Below W.heap.size W w
def Grew (F : List Nat) (w : World) (F' : List Nat) (w' : World) : Prop := codec.Touch (fun k => k ∈ F) w w' ∧ ∀ k ∈ F', k ∈ F ∨ w.heap.size ≤ k
theorem Two.more1 {W w w' : World} {P1 P2 : Nat} {l1 l2 l1' F1 F2 : List Nat} (h : Two W P1 l1 F1 P2 l2 F2 w) (m : More w P1 l1' F1 w') : ∃ F1', Two W P1 l1' F1' P2 l2 F2 w' ∧ Grew F1 w F1' w' := by
  obtain ⟨h1, h2, h3, h4, h5, h6⟩ := h
  obtain ⟨F', m1, m2, m3⟩ := m
  refine ⟨F', ⟨m1, h2.touch m2 h5, fun k hk => ?_, h4, fun k hk hk' => ?_, ?_⟩, m2, m3⟩
  · rcases m3 k hk with h | h
    · exact h3 k h
    · exact Nat.le_trans h6.size h
  · rcases m3 k hk' with h | h
    · exact h5 k hk h
    · exact absurd (h2.lt k hk) (by omega)
  · exact h6.trans (m2.toBelow W.heap.size h6.size (fun i hi hF => absurd (h3 i hF) (by omega)))
theorem Two.more2 {W w w' : World} {P1 P2 : Nat} {l1 l2 l2' F1 F2 : List Nat} (h : Two W P1 l1 F1 P2 l2 F2 w) (m : More w P2 l2' F2 w') : ∃ F2', Two W P1 l1 F1 P2 l2' F2' w' ∧ Grew F2 w F2' w' := by
  obtain ⟨h1, h2, h3, h4, h5, h6⟩ := h
  obtain ⟨F', ⟨h1', h2', h3', h4', h5', h6'⟩, hg⟩ := Two.more1 (W := W) (P1 := P2) (P2 := P1) (l2 := l1) ⟨h2, h1, h4, h3, fun k a b => h5 k b a, h6⟩ m
  exact ⟨F', ⟨h2', h1', h4', h3', fun k a b => h5' k b a, h6'⟩, hg⟩
theorem Grew.bytes {F F' : List Nat} {w w' : World} {g n : Nat} {o : Nat} {l : List Nat} (h : Grew F w F' w') (hB : Bytes w (some ⟨g, o, none⟩) n l) (hg : g ∉ F) : Bytes w' (some ⟨g, o, none⟩) n l :=
  hB.touch (fun ad e _ => by cases e; exact hg) h.1
theorem Grew.not {F F' : List Nat} {w w' : World} {g : Nat} (h : Grew F w F' w') (hg : g ∉ F) (hlt : g < w.heap.size) : g ∉ F' := fun hh => by
  rcases h.2 g hh with k | k
  · exact hg k
  · omega
theorem Two.below {W w w' : World} {P1 P2 : Nat} {l1 l2 F1 F2 : List Nat} (h : Two W P1 l1 F1 P2 l2 F2 w) (hb : Below w.heap.size w w') : Two W P1 l1 F1 P2 l2 F2 w' :=
  ⟨h.1.below hb, h.2.1.below hb, h.2.2.1, h.2.2.2.1, h.2.2.2.2.1, h.2.2.2.2.2.trans (hb.mono h.2.2.2.2.2.size)⟩
theorem Two.alloc {W w : World} {P1 P2 : Nat} {l1 l2 F1 F2 : List Nat} (h : Two W P1 l1 F1 P2 l2 F2 w) (o : Obj) : Two W P1 l1 F1 P2 l2 F2 (w.alloc o) := h.below ((Below.refl _ _).alloc (Nat.le_refl _) _)
theorem two_start (W : World) : Two W W.heap.size [] [W.heap.size] (W.heap.size + 1) [] [W.heap.size + 1] ((W.alloc (.cells #[.pointer none, .int .i64 0, .bool false] 135)).alloc (.cells #[.pointer none, .int .i64 0, .bool false] 135)) := by
  have h1 := codec.fresh_new W
  have h2 := codec.fresh_new (W.alloc (.cells #[.pointer none, .int .i64 0, .bool false] 135))
  rw [show (W.alloc (.cells #[.pointer none, .int .i64 0, .bool false] 135)).heap.size = W.heap.size + 1 by simp] at h2
  refine ⟨h1.below ((Below.refl _ _).alloc (Nat.le_refl _) _), h2, by simp, by simp, by simp, ((Below.refl _ _).alloc (Nat.le_refl _) _).alloc (by simp) _⟩
theorem Bytes.lit (w : World) (l : List Nat) (hl : ∀ b ∈ l, b < 256) (e : TypeId) (m : Nat × Nat) :
    Bytes (w.alloc (.cells (l.map fun b => Value.int .u8 (b : Nat)).toArray e m)) (some ⟨w.heap.size, 0, none⟩) l.length l := sumDoor.Bytes.lit w l hl e m

theorem lit_at (w : World) (l : List Nat) (hl : ∀ b ∈ l, b < 256) (e : TypeId) (m : Nat × Nat) {g n : Nat} (hg : g = w.heap.size) (hn : l.length = n) :
    Bytes (w.alloc (.cells (vals l).toArray e m)) (some ⟨g, 0, none⟩) n l := by
  subst hg hn
  exact Bytes.lit w l hl e m
theorem slice54 (w : World) (g : Nat) : (Instr.sliceAt 80 (Value.pointer (some ⟨g, 0, none⟩)) none none none).run Tryz.prog w = .ok (.slice (some ⟨g, 0, none⟩) 32 32) w := by kernel_rfl
theorem fits_i {v n : Nat} (h1 : 1 ≤ n) (h7 : n ≤ 7) (hv : v < 256 ^ n) : Fits (v : Nat) (n : Nat) :=
  ⟨by omega, by omega, by omega, by simpa using (by exact_mod_cast hv : ((v : Nat) : Int) < ((256 ^ n : Nat) : Int))⟩
theorem outN_two {W w : World} {P1 P2 v n : Nat} {l1 l2 F1 F2 : List Nat} (h : Two W P1 l1 F1 P2 l2 F2 w) (hl : l1.length ≤ 9000000) (h1 : 1 ≤ n) (h7 : n ≤ 7) (hv : v < 256 ^ n) :
    Calls Tryz.prog 70 #[.pointer (some ⟨P1, 0, none⟩), .int .i64 v, .int .i64 n] w fun e w' => e = .returned (.tuple #[]) ∧ ∃ F', Two W P1 (l1 ++ bytesOf v n) F' P2 l2 F2 w' ∧ Grew F1 w F' w' :=
  (codec.outN_fits w P1 v n l1 F1 h.1 hl h1 h7 hv).mono fun _ _ ⟨he, hm⟩ => ⟨he, h.more1 hm⟩
theorem outN_two2 {W w : World} {P1 P2 v n : Nat} {l1 l2 F1 F2 : List Nat} (h : Two W P1 l1 F1 P2 l2 F2 w) (hl : l2.length ≤ 9000000) (h1 : 1 ≤ n) (h7 : n ≤ 7) (hv : v < 256 ^ n) :
    Calls Tryz.prog 70 #[.pointer (some ⟨P2, 0, none⟩), .int .i64 v, .int .i64 n] w fun e w' => e = .returned (.tuple #[]) ∧ ∃ F', Two W P1 l1 F1 P2 (l2 ++ bytesOf v n) F' w' ∧ Grew F2 w F' w' :=
  (codec.outN_fits w P2 v n l2 F2 h.2.1 hl h1 h7 hv).mono fun _ _ ⟨he, hm⟩ => ⟨he, h.more2 hm⟩
theorem raw_two {W w : World} {P1 P2 n c : Nat} {l1 l2 m F1 F2 : List Nat} {A : Option Addr} (h : Two W P1 l1 F1 P2 l2 F2 w) (hB : Bytes w A n m) (hn : l1.length + n ≤ 10000000) (hA : A = none → c = 0) (hAp : ∀ ad, A = some ad → 0 < n → ad.block ∉ F1) :
    Calls Tryz.prog 72 #[.pointer (some ⟨P1, 0, none⟩), .slice A n c] w fun e w' => e = .returned (.tuple #[]) ∧ ∃ F', Two W P1 (l1 ++ m) F' P2 l2 F2 w' ∧ Grew F1 w F' w' :=
  (codec.raw_good w P1 l1 F1 A n c m h.1 hB hn hA hAp).mono fun _ _ ⟨he, hm⟩ => ⟨he, h.more1 hm⟩
theorem raw_two2 {W w : World} {P1 P2 n c : Nat} {l1 l2 m F1 F2 : List Nat} {A : Option Addr} (h : Two W P1 l1 F1 P2 l2 F2 w) (hB : Bytes w A n m) (hn : l2.length + n ≤ 10000000) (hA : A = none → c = 0) (hAp : ∀ ad, A = some ad → 0 < n → ad.block ∉ F2) :
    Calls Tryz.prog 72 #[.pointer (some ⟨P2, 0, none⟩), .slice A n c] w fun e w' => e = .returned (.tuple #[]) ∧ ∃ F', Two W P1 l1 F1 P2 (l2 ++ m) F' w' ∧ Grew F2 w F' w' :=
  (codec.raw_good w P2 l2 F2 A n c m h.2.1 hB hn hA hAp).mono fun _ _ ⟨he, hm⟩ => ⟨he, h.more2 hm⟩
theorem end_two {W w : World} {P1 P2 : Nat} {l1 l2 F1 F2 : List Nat} (h : Two W P1 l1 F1 P2 l2 F2 w) (N : Nat) (hN : l1.length = N) (hl : N ≤ 10000000) :
    Calls Tryz.prog 73 #[.pointer (some ⟨P1, 0, none⟩)] w fun e w' => ∃ g, e = .returned (.tuple #[.slice (some ⟨g, 0, none⟩) N N, .int .i64 0]) ∧ Two W P1 l1 F1 P2 l2 F2 w' ∧ Bytes w' (some ⟨g, 0, none⟩) N l1 ∧ w.heap.size ≤ g := by
  subst hN
  exact (codec.end_good w P1 l1 F1 h.1 hl).mono fun _ _ ⟨v, he, hm⟩ => by
    obtain ⟨g, rfl, h1, h2, h3⟩ := hm.bytes
    exact ⟨g, he, h.below h2, h3, h1⟩
theorem end_two2 {W w : World} {P1 P2 : Nat} {l1 l2 F1 F2 : List Nat} (h : Two W P1 l1 F1 P2 l2 F2 w) (hl : l2.length ≤ 10000000) :
    Calls Tryz.prog 73 #[.pointer (some ⟨P2, 0, none⟩)] w fun e w' => ∃ v, e = .returned (.tuple #[v, .int .i64 0]) ∧ Made W l2 v w' :=
  (codec.end_good w P2 l2 F2 h.2.1 hl).mono fun _ _ ⟨v, he, g, hv, h1, h2, h3⟩ => ⟨v, he, g, hv, Nat.le_trans h.2.2.2.2.2.size h1, h.2.2.2.2.2.trans (h2.mono h.2.2.2.2.2.size), h3⟩
theorem Laid.below0 {w w' : World} (h : sumDoor.Laid w) (hb : Below w.heap.size w w') : sumDoor.Laid w' := h.below h.lt hb
end Go.Proofs.YtfmdhcjniikfdaaGreatDoor.frm
/- The head of a payload, and its frame. -/
namespace Go.Proofs.YtfmdhcjniikfdaaGreatDoor.frm
open Go.ChangeShapes Go.WideShapes Go.ChangeAt Go.RowKit
open Go.Proofs.YtfmdhcjniikfdaaGreatDoor.codec (Bytes vals vals_append vals_length vals_one OutIs More Made New bytesOf byteAt bytesOf_length bytesOf_lt Fits strOf)
set_option linter.unusedVariables false
set_option maxRecDepth 100000
set_option linter.unusedSimpArgs false

theorem size54 (l : List Nat) (h : l.length = 32) : (Tryz.prog.info? 80).map (·.size) = some (vals l).toArray.size := by
  rw [show (vals l).toArray.size = 32 by simp [vals, h]]
  kernel_rfl
theorem all_vals (l : List Nat) : (vals l).toArray.all (·.oneCell') = true := by
  rw [Array.all_eq_true]
  intro i hi
  have := vals_one l (vals l)[i] (List.getElem_mem (by simpa using hi))
  simpa using this
theorem zero54 (w : World) : (zeroValue 80).run Tryz.prog w = .ok (.agg (Array.replicate 32 (.int .u8 0))) w := by kernel_rfl
theorem row_bytes {w : World} {g : Nat} {t : TypeId} {l : List Nat} (h : w.heap[g]? = some (.cells (vals l).toArray t (0, 0))) (hl : ∀ b ∈ l, b < 256) (n : Nat) (hn : l.length = n) : Bytes w (some ⟨g, 0, none⟩) n l := by
  refine ⟨hn, hl, fun _ => ⟨g, 0, rfl, fun i hi => ?_⟩⟩
  have hi' : i < l.length := by omega
  simp [World.cell?, h, vals, List.getD, hi']

set_option maxHeartbeats 2000000 in
theorem headOf_any (W : World) (k n c : Nat) (A : Option Addr) (p : List Nat) (h1 : 1 ≤ k) (h3 : k ≤ 3) (hB : Bytes W A n p) (hn : n ≤ 30000) (hc : n ≤ c) (hL : sumDoor.Laid W) :
    Calls Tryz.prog 75 #[.int .i64 k, .slice A n c] W fun e w' => ∃ v, e = .returned v ∧ Made W (headL k p) v w' := by
  have HB := Lib.hid hB
  have HL := Lib.hid hL
  have HT := Lib.hid (two_start W)
  have HZ := Lib.hid zero54
  have hsl := fun w g => slice54 w g
  have hcv := fun (w : World) (C : Array Value) (n c g : Nat) (hg : g = w.heap.size) => Go.Joins.run_convert_bytes_const_at (P := Tryz.prog) w 22 5 C n c g hg Tryz.underlying22 Tryz.underlying5
  clear hB hL
  go_enter Tryz.func75, Tryz.ntmps75
  go_wp2_with fail
  refine (raw_two (HT.out.alloc _) (m := [99, 117, 98]) (lit_at _ [99, 117, 98] (by decide) 5 (3, 4) (by simp) rfl) (by simp) (by simp) (by simp; omega)).mono ?_
  rintro e w1 ⟨rfl, F1, hT1, -⟩
  have HT1 := Lib.hid hT1
  clear hT1 HT
  go_wp2_with fail
  refine (outN_two (v := k) (n := 1) HT1.out (by simp) (by omega) (by omega) (by omega)).mono ?_
  rintro e w2 ⟨rfl, F2, hT2, -⟩
  have HT2 := Lib.hid hT2
  clear hT2 HT1
  go_wp2_with fail
  refine (outN_two (v := n) (n := 4) HT2.out (by simp [bytesOf]) (by omega) (by omega) (by omega)).mono ?_
  rintro e w3 ⟨rfl, F3, hT3, -⟩
  have hf : [] ++ [99, 117, 98] ++ bytesOf k 1 ++ bytesOf n 4 = first k p.length := by
    have := HB.out.1
    rw [this, show bytesOf k 1 = [k] by simp [bytesOf, byteAt]; omega]
    rfl
  rw [hf] at hT3
  have HT3 := Lib.hid hT3
  clear hT3 HT2 hf
  go_wp2_with fail
  refine (end_two HT3.out 8 (first_length _ _) (by omega)).mono ?_
  rintro e w4 ⟨g, rfl, hT4, hB4, hg4⟩
  have HG := Lib.hid (show g ∉ [W.heap.size + 1] from fun h => by
    have := HT3.out.2.1.lt _ h
    omega)
  have hBw := HB.out.below HB.out.lt hT4.2.2.2.2.2
  have HD := Lib.hid (dig_prog w4 A n c p hBw (by omega) hc (HL.out.below HL.out.lt hT4.2.2.2.2.2))
  have HT4 := Lib.hid hT4
  have HB4 := Lib.hid hB4
  clear hT4 HT3 hBw hB4 hg4
  go_wp2_with fail
  refine HD.out.mono ?_
  rintro e w5 ⟨rfl, hb5⟩
  obtain ⟨d, hd⟩ : ∃ d, d = (vals (dig p)).toArray := ⟨_, rfl⟩
  have HT5 := Lib.hid (HT4.out.below hb5)
  have HB5 := Lib.hid (HB4.out.below HB4.out.lt hb5)
  have HA := Lib.hid (all_vals (dig p))
  have HP := Lib.hid (size54 (dig p) (dig_length p))
  have HS := Lib.hid (show (Array.replicate 32 (Value.int .u8 0)).size = (vals (dig p)).toArray.size by simp [vals, dig_length])
  have HR := Lib.hid (heap_alloc_new w5 (.cells (Array.replicate 32 (Value.int .u8 0)) 80))
  rw [← hd] at HA HP HS ⊢
  have HDq := Lib.hid hd
  clear hb5 HD HT4 HB4 hd
  go_wp2_with (refine wpList_store_row rfl 80 (.tmp 9) (.tmp 25) rfl w5.heap.size d rfl rfl 80 _ HR.out HP.out HS.out HA.out ?_)
  rw [World.setRow_alloc_new]
  have hlt5 := HT5.out.2.1.lt (W.heap.size + 1) (by simp)
  obtain ⟨D, hD⟩ : ∃ D, D = w5.heap.size := ⟨_, rfl⟩
  obtain ⟨w6, hw6⟩ : ∃ w6, w6 = w5.alloc (.cells d 80) := ⟨_, rfl⟩
  rw [← hw6, ← hD]
  have HT6 : Hid (Two W W.heap.size (first k p.length) F3 (W.heap.size + 1) [] [W.heap.size + 1] w6) := by rw [hw6]; exact HT5.out.alloc _
  have HB6 : Hid (Bytes w6 (some ⟨g, 0, none⟩) 8 (first k p.length)) := by rw [hw6]; exact HB5.out.alloc _
  have HD6 : Hid (Bytes w6 (some ⟨D, 0, none⟩) 32 (dig p)) := by
    rw [hw6, HDq.out]
    exact lit_at w5 (dig p) (dig_lt p) _ _ hD (dig_length p)
  have HDn : Hid (D ∉ [W.heap.size + 1]) := by
    show ¬ _
    simp
    omega
  have HDl : Hid (D < w6.heap.size) := by
    show _ < _
    rw [hw6, hD]
    simp
  have HGl : Hid (g < w6.heap.size) := HB6.out.lt _ rfl (by omega)
  clear HR HA HP HS HB5 HT5 hlt5 hD hw6 HDq
  refine (raw_two2 HT6.out HB6.out (by simp) (fun e => by cases e) (fun ad e _ => by cases e; exact HG.out)).mono ?_
  rintro e w7 ⟨rfl, F7, hT7, hg7⟩
  have HT7 := Lib.hid hT7
  have HB7 := Lib.hid (hg7.bytes HB6.out HG.out)
  have HD7 := Lib.hid (hg7.bytes HD6.out HDn.out)
  have HDn7 := Lib.hid (hg7.not HDn.out HDl.out)
  clear hT7 hg7 HT6 HB6 HD6 HDn HG HGl
  have hcl := crcOf_lt (l := first k p.length) (first_lt (by omega))
  have HC := Lib.hid (crc_prog (some ⟨g, 0, none⟩) 8 8 (first k p.length) w7 HB7.out (by unfold maxLen; omega))
  have HLF := Lib.hid (first_length k p.length)
  generalize hCe : crcOf (first k p.length) = C at *
  have HCe := Lib.hid hCe
  clear hCe
  go_wp2_with (go_at_call 76; refine HC.out.mono ?_; rintro e w8 ⟨rfl, rfl⟩)
  refine (outN_two2 (v := C) (n := 4) HT7.out (by simp [HLF.out]) (by omega) (by omega) (by omega)).mono ?_
  rintro e w9 ⟨rfl, F9, hT9, hg9⟩
  have HT9 := Lib.hid hT9
  have HD9 := Lib.hid (hg9.bytes HD7.out HDn7.out)
  have HDn9 := Lib.hid (hg9.not HDn7.out (HD7.out.lt _ rfl (by omega)))
  clear hT9 hg9 HT7 HD7 HDn7 HB7 HC
  go_wp2_with fail
  refine (raw_two2 HT9.out HD9.out (by simp [HLF.out, bytesOf]) (fun e => by cases e) (fun ad e _ => by cases e; exact HDn9.out)).mono ?_
  rintro e w10 ⟨rfl, F10, hT10, hg10⟩
  have HT10 := Lib.hid hT10
  clear hT10 hg10 HT9 HD9 HDn9
  go_wp2_with fail
  refine (end_two2 HT10.out (by simp [HLF.out, bytesOf, dig_length])).mono ?_
  rintro e w11 ⟨v, rfl, hM⟩
  have HM := Lib.hid hM
  clear hM HT10
  go_wp2_with fail
  go_ret
  refine ⟨v, rfl, ?_⟩
  have := HM.out
  rw [← HCe.out] at this
  exact this

set_option maxHeartbeats 2000000 in
/-- The frame of a payload that may be. -/
theorem frame_good (W : World) (k n c : Nat) (A : Option Addr) (p : List Nat) (h1 : 1 ≤ k) (h3 : k ≤ 3) (hB : Bytes W A n p) (hn : n ≤ 30000) (hc : n ≤ c) (hA : A = none → c = 0) (hL : sumDoor.Laid W) :
    Calls Tryz.prog 50 #[.int .i64 k, .slice A n c] W fun e w' => ∃ v, e = .returned (.tuple #[v, .int .i64 0]) ∧ Made W (frameL k p) v w' := by
  have hd : decide ((1 : Int) ≤ (k : Nat) ∧ ((k : Nat) : Int) ≤ 3) = true := by simp; omega
  have HB := Lib.hid hB
  have HL := Lib.hid hL
  have HN := Lib.hid hA
  have HO := Lib.hid (codec.fresh_new W)
  clear hB hL hA
  go_enter Tryz.func50, Tryz.ntmps50
  go_wp2_with (go_at_call 74; refine (isKind_any _ _).mono ?_; rw [hd]; rintro e w1 ⟨rfl, rfl⟩)
  have hb1 : Below W.heap.size W (W.alloc (.cells #[.pointer none, .int .i64 0, .bool false] 135)) := (Below.refl _ _).alloc (Nat.le_refl _) _
  refine (headOf_any _ k n c A p h1 h3 (HB.out.below HB.out.lt hb1) hn hc (HL.out.below HL.out.lt hb1)).mono ?_
  rintro e w2 ⟨v, rfl, hM⟩
  obtain ⟨g, rfl, hg, hb2, hBg⟩ := hM.bytes
  rw [headL_length] at hBg ⊢
  have HO2 := Lib.hid (HO.out.below hb2)
  have HB2 := Lib.hid hBg
  have HBel := Lib.hid (hb1.trans (hb2.mono hb1.size))
  have HG := Lib.hid (show g ∉ [W.heap.size] from fun h => by
    simp at h hg
    omega)
  clear hM hb1 hb2 hBg hg HO
  go_wp2_with fail
  refine (codec.raw_good w2 W.heap.size [] [W.heap.size] _ 44 44 _ HO2.out HB2.out (by simp) (fun e => by cases e) (fun ad e _ => by cases e; exact HG.out)).mono ?_
  rintro e w3 ⟨rfl, F3, hO3, ht3, hF3⟩
  have hb3 : Below W.heap.size W w3 := HBel.out.trans (ht3.toBelow W.heap.size HBel.out.size (fun i hi hF => by simp at hF; omega))
  have hF3' : ∀ k ∈ F3, W.heap.size ≤ k := fun k hk => by
    rcases hF3 k hk with h | h
    · simp at h; omega
    · exact Nat.le_trans HBel.out.size h
  have HO3 := Lib.hid hO3
  have HB3 := Lib.hid (HB.out.below HB.out.lt hb3)
  have HF3 := Lib.hid hF3'
  have HBel3 := Lib.hid hb3
  clear hO3 ht3 hF3 hF3' hb3 HO2 HB2 HG HBel
  go_wp2_with fail
  refine (codec.raw_good w3 W.heap.size ([] ++ headL k p) F3 A n c p HO3.out HB3.out (by simp [headL_length]; omega) HN.out (fun ad e h0 hF => absurd (HB.out.lt ad e h0) (by have := HF3.out _ hF; omega))).mono ?_
  rintro e w4 ⟨rfl, F4, hO4, ht4, hF4⟩
  have HO4 := Lib.hid hO4
  have HBel4 := Lib.hid (HBel3.out.trans (ht4.toBelow W.heap.size HBel3.out.size (fun i hi hF => absurd (HF3.out i hF) (by omega))))
  clear hO4 ht4 hF4 HO3 HBel3 HF3
  go_wp2_with fail
  refine (codec.end_good w4 W.heap.size ([] ++ headL k p ++ p) F4 HO4.out (by simp [headL_length, HB.out.1]; omega)).mono ?_
  rintro e w5 ⟨v, rfl, g5, hv, h5, hb5, hM5⟩
  have HM := Lib.hid (show Made W (frameL k p) v w5 from ⟨g5, hv, Nat.le_trans HBel4.out.size h5, HBel4.out.trans (hb5.mono HBel4.out.size), hM5⟩)
  clear hv h5 hb5 hM5 HO4 HBel4
  go_wp2_with fail
  go_ret2
  exact ⟨v, rfl, HM.out⟩
set_option maxHeartbeats 400000 in
theorem frame_long (W : World) (k n c : Nat) (A : Option Addr) (h1 : 1 ≤ k) (h3 : k ≤ 3) (hn : 30000 < n) :
    Calls Tryz.prog 50 #[.int .i64 k, .slice A n c] W fun e w' => e = .returned (.tuple #[.slice none 0 0, .int .i64 3]) ∧ W = w' := by
  have hd : decide ((1 : Int) ≤ (k : Nat) ∧ ((k : Nat) : Int) ≤ 3) = true := by simp; omega
  go_enter Tryz.func50, Tryz.ntmps50
  go_wp2_with (go_at_call 74; refine (isKind_any _ _).mono ?_; rw [hd]; rintro e w1 ⟨rfl, rfl⟩)
  go_ret2
  exact ⟨rfl, rfl⟩
set_option maxHeartbeats 400000 in
theorem frame_arg (W : World) (k : Int) (n c : Nat) (A : Option Addr) (hk : ¬ (1 ≤ k ∧ k ≤ 3)) :
    Calls Tryz.prog 50 #[.int .i64 k, .slice A n c] W fun e w' => e = .returned (.tuple #[.slice none 0 0, .int .i64 1]) ∧ W = w' := by
  have hd : decide ((1 : Int) ≤ k ∧ k ≤ 3) = false := by simpa using hk
  clear hk
  go_enter Tryz.func50, Tryz.ntmps50
  go_wp2_with (go_at_call 74; refine (isKind_any _ _).mono ?_; rw [hd]; rintro e w1 ⟨rfl, rfl⟩)
  go_ret2
  exact ⟨rfl, rfl⟩
end Go.Proofs.YtfmdhcjniikfdaaGreatDoor.frm
/- What the document says of a frame. -/
namespace Go.Proofs.YtfmdhcjniikfdaaGreatDoor.frm
open Go.ChangeShapes Go.WideShapes Go.ChangeAt Go.RowKit
open Go.Proofs.YtfmdhcjniikfdaaGreatDoor.codec (Bytes vals vals_append vals_length vals_one OutIs More Made New bytesOf byteAt bytesOf_length bytesOf_lt Fits strOf)
set_option linter.unusedVariables false
set_option maxRecDepth 100000
set_option linter.unusedSimpArgs false

/-- Bytes of the call's own. -/
def Mine (W : World) (v : Value) (M : List Nat) (w : World) : Prop := w.ownsRow W.heap.size 5 1 v M.length (vals M) ∧ Below W.heap.size W w
theorem Mine.below {W w w' : World} {v : Value} {M : List Nat} (h : Mine W v M w) (hb : Below w.heap.size w w') : Mine W v M w' :=
  ⟨h.1.kept (row := none) ⟨hb.os, hb.tape, hb.output, hb.size, fun i hi _ => hb.block i hi⟩ (by cases hv : v.ownBlock <;> simp), h.2.trans (hb.mono h.2.size)⟩
theorem Mine.alloc {W w : World} {v : Value} {M : List Nat} (h : Mine W v M w) (o : Obj) : Mine W v M (w.alloc o) := h.below ((Below.refl _ _).alloc (Nat.le_refl _) _)
theorem Mine.more {W w w' : World} {v v' : Value} {M M' : List Nat} (h : Mine W v M w) (ho : w'.ownsRow W.heap.size 5 1 v' M'.length (vals M')) (hg : w.grownBy w' v.ownBlock) : Mine W v' M' w' :=
  ⟨ho, h.2.trans ⟨hg.os, hg.tape, hg.output, hg.size, fun i hi => hg.block i (Nat.lt_of_lt_of_le hi h.2.size) (fun e => by have := (h.1.lt _ e.symm).1; omega)⟩⟩
theorem Mine.form {W w : World} {v : Value} {M : List Nat} (h : Mine W v M w) (N : Nat) (hN : M.length = N) (h0 : 0 < N) : ∃ g cap, v = .slice (some ⟨g, 0, none⟩) N cap ∧ N ≤ cap ∧ W.heap.size ≤ g := by
  subst hN
  rcases h.1.2 with ⟨_, h1⟩ | ⟨g, cap, cur, e, hb, _, hc, _⟩
  · omega
  · exact ⟨g, cap, e, hc, hb⟩
theorem Mine.bytes {W w : World} {g N cap : Nat} {M : List Nat} (h : Mine W (.slice (some ⟨g, 0, none⟩) N cap) M w) (hN : M.length = N) (hb : ∀ x ∈ M, x < 256) : Bytes w (some ⟨g, 0, none⟩) N M := codec.own_bytes' h.1 hN hb
theorem own_lit (W : World) (l : List Nat) (B n : Nat) (hn : l.length = n) (hl : n ≤ 1000) (hB : B ≤ W.heap.size) : (W.alloc (.cells (vals l).toArray 5)).ownsRow B 5 1 (.slice (some ⟨W.heap.size, 0, none⟩) n n) l.length (vals l) := by
  subst hn
  refine ⟨by simp [vals], .inr ⟨W.heap.size, l.length, _, rfl, hB, heap_alloc_new W _, Nat.le_refl _, by unfold maxLen; omega, by simp [vals], by rw [List.take_of_length_le] <;> simp [vals]⟩⟩
theorem mine_lit (W : World) (l : List Nat) (n : Nat) (hn : l.length = n) (hl : n ≤ 1000) : Mine W (.slice (some ⟨W.heap.size, 0, none⟩) n n) l (W.alloc (.cells (vals l).toArray 5)) :=
  ⟨own_lit W l _ n hn hl (Nat.le_refl _), (Below.refl _ _).alloc (Nat.le_refl _) _⟩

theorem refBytes_at (w : World) (v n : Nat) (hv : v < 18446744073709551616) (h1 : 1 ≤ n) (hn : n ≤ 100) :
    Calls Tryz.prog 53 #[.int .u64 v, .int .i64 n] w fun e w' => ∃ g, e = .returned (.slice (some ⟨g, 0, none⟩) n n) ∧ Bytes w' (some ⟨g, 0, none⟩) n (bytesOf v n) ∧ Below w.heap.size w w' :=
  (codec.refBytes_any w v n hv h1 hn).mono fun _ _ ⟨he, hr, hb⟩ => ⟨_, he, ⟨by simp [bytesOf], bytesOf_lt v n, fun _ => ⟨_, 0, rfl, fun i hi => by
    have := hr.cell (i := i) hi
    rw [Nat.zero_add, this]
    simp [bytesOf, List.getD, hi]⟩⟩, hb⟩
set_option maxHeartbeats 2000000 in
theorem refFrame_any (W : World) (k n c : Nat) (A : Option Addr) (p : List Nat) (h1 : 1 ≤ k) (h3 : k ≤ 3) (hB : Bytes W A n p) (hn : n ≤ 40000) (hA : A = none → c = 0) :
    Calls Tryz.prog 33 #[.int .i64 k, .slice A n c] W fun e w' => ∃ v, e = .returned v ∧ Mine W v (frameL k p) w' := by
  have HB := Lib.hid hB
  have HN := Lib.hid hA
  have HM := Lib.hid (mine_lit W [99, 117, 98, k] 4 rfl (by omega))
  have hsl := fun w g => slice54 w g
  clear hB hA
  go_enter Tryz.func33, Tryz.ntmps33
  go_wp2_with fail
  refine (refBytes_at _ n 4 (by omega) (by omega) (by omega)).mono ?_
  rintro e w1 ⟨g1, rfl, hB1, hb1⟩
  have HM1 := Lib.hid (HM.out.below hb1)
  have HB1 := Lib.hid hB1
  clear hb1 hB1 HM
  go_wp2_with (at_builtin; refine codec.wpList_append_bytes rfl (.tmp 9) (.tmp 13) rfl W.heap.size _ [99, 117, 98, k] rfl HM1.out.1 HM1.out.2.size (some ⟨g1, 0, none⟩) 4 4 (bytesOf n 4) rfl HB1.out (fun e => by cases e) (by simp) ?_; intro v2 w2 ho hg _ _; have hM2 := HM1.out.more ho hg; obtain ⟨g2, cap2, rfl, hc2, -⟩ := hM2.form 8 (by simp [bytesOf]) (by omega); have HM2 := Lib.hid hM2; clear ho hg hM2)
  have HF : Hid ([99, 117, 98, k] ++ bytesOf n 4 = first k p.length) := by
    have := HB.out.1
    show _ = _
    rw [this]
    rfl
  have HB2 := Lib.hid (HM2.out.bytes (by simp [bytesOf]) (by rw [HF.out]; exact first_lt (by omega)))
  have hcl := crcOf_lt (l := first k p.length) (first_lt (by omega))
  have HC := Lib.hid (crc_ref (some ⟨g2, 0, none⟩) 8 cap2 _ w2 HB2.out (by unfold maxLen; omega))
  rw [HF.out] at HC HM2
  have HLF := Lib.hid (first_length k p.length)
  generalize hCe : crcOf (first k p.length) = C at *
  have HCe := Lib.hid hCe
  clear hCe HM1 HB1
  refine HC.out.mono ?_
  rintro e w3 ⟨rfl, rfl⟩
  go_wp2_with fail
  refine (refBytes_at _ C 4 (by omega) (by omega) (by omega)).mono ?_
  rintro e w3 ⟨g3, rfl, hB3, hb3⟩
  have HM3 := Lib.hid (HM2.out.below hb3)
  have HB3 := Lib.hid hB3
  clear hb3 hB3 HM2 HB2 HC
  go_wp2_with (at_builtin; refine codec.wpList_append_bytes rfl (.tmp 15) (.tmp 19) rfl W.heap.size _ (first k p.length) rfl HM3.out.1 HM3.out.2.size (some ⟨g3, 0, none⟩) 4 4 (bytesOf C 4) rfl HB3.out (fun e => by cases e) (by rw [HLF.out]; omega) ?_; intro v4 w4 ho hg _ _; have hM4 := HM3.out.more ho hg; obtain ⟨g4, cap4, rfl, hc4, -⟩ := hM4.form 12 (by simp [bytesOf, HLF.out]) (by omega); have HM4 := Lib.hid hM4; clear ho hg hM4)
  clear HM3 HB3
  refine (dig_ref w4 A n c p (HB.out.below HB.out.lt HM4.out.2) (by omega) HN.out).mono ?_
  rintro e w5 ⟨rfl, hb5⟩
  obtain ⟨d, hd⟩ : ∃ d, d = (vals (dig p)).toArray := ⟨_, rfl⟩
  have HM5 := Lib.hid (HM4.out.below hb5)
  have HA := Lib.hid (all_vals (dig p))
  have HP := Lib.hid (size54 (dig p) (dig_length p))
  have HS := Lib.hid (show (Array.replicate 32 (Value.int .u8 0)).size = (vals (dig p)).toArray.size by simp [vals, dig_length])
  have HR := Lib.hid (heap_alloc_new w5 (.cells (Array.replicate 32 (Value.int .u8 0)) 80))
  rw [← hd] at HA HP HS ⊢
  have HDq := Lib.hid hd
  clear hb5 HM4 hd
  go_wp2_with (first
    | (refine wpList_store_row rfl 80 (.tmp 6) (.tmp 22) rfl w5.heap.size d rfl rfl 80 _ HR.out HP.out HS.out HA.out ?_; rw [World.setRow_alloc_new]; obtain ⟨D, hD⟩ : ∃ D, D = w5.heap.size := ⟨_, rfl⟩; obtain ⟨w6, hw6⟩ : ∃ w6, w6 = w5.alloc (.cells d 80) := ⟨_, rfl⟩; rw [← hw6, ← hD]; have HM6 := Lib.hid (show Mine W (.slice (some ⟨g4, 0, none⟩) 12 cap4) (first k p.length ++ bytesOf C 4) w6 by rw [hw6]; exact HM5.out.alloc _); have HD6 := Lib.hid (show Bytes w6 (some ⟨D, 0, none⟩) 32 (dig p) by rw [hw6, HDq.out]; exact lit_at w5 (dig p) (dig_lt p) _ _ hD (dig_length p)); clear hD hw6 HR HA HP HS HM5 HDq)
    | (at_builtin; refine codec.wpList_append_bytes rfl (.tmp 23) (.tmp 24) rfl W.heap.size _ (first k p.length ++ bytesOf C 4) rfl HM6.out.1 HM6.out.2.size (some ⟨D, 0, none⟩) 32 32 (dig p) rfl HD6.out (fun e => by cases e) (by simp [HLF.out, bytesOf]) ?_; intro v7 w7 ho hg _ _; have HM7 := Lib.hid (HM6.out.more ho hg); clear ho hg)
    | (at_builtin; refine codec.wpList_append_bytes rfl (.tmp 25) (.tmp 26) rfl W.heap.size _ (first k p.length ++ bytesOf C 4 ++ dig p) rfl HM7.out.1 HM7.out.2.size A n c p rfl (HB.out.below HB.out.lt HM7.out.2) HN.out (by simp [HLF.out, bytesOf, dig_length]; omega) ?_; intro v8 w8 ho hg _ _; have HM8 := Lib.hid (HM7.out.more ho hg); clear ho hg))
  go_ret
  refine ⟨v8, rfl, ?_⟩
  have := HM8.out
  rw [← HCe.out] at this
  exact this
end Go.Proofs.YtfmdhcjniikfdaaGreatDoor.frm
