/- The document's own digest. -/
import Derived.Test.YtklmbiekpilkhaaGreatDoorMs2
import Derived.Laws.OwnMore
import Derived.Laws.AppendOwnNone
import Derived.Deep.AppendLies
namespace Go.Proofs.YtklmbiekpilkhaaGreatDoor.sumDoor
open Go.ChangeShapes Go.WideShapes Go.ChangeAt Go.RowKit Go.Proofs.YtklmbiekpilkhaaGreatDoor.sumPlain
set_option linter.unusedVariables false
set_option maxRecDepth 100000

abbrev zer32 : Array Value := Array.replicate 32 (.int .u8 0)
abbrev zer64 : Array Value := Array.replicate 64 (.int .u64 0)
/-- What lies in memory: the answer's room, the words of the rounds. -/
def Ref0 (w wr : World) : Prop := wr.heap[w.heap.size]? = some (.cells zer32 126 (0, 0)) ∧ wr.heap[w.heap.size + 1]? = some (.cells (cellsOf .u64 consts) 179 (0, 0)) ∧ Below w.heap.size w wr
theorem ref_start (w : World) : ((w.alloc (.cells zer32 126)).alloc (.cells zer64 179)).heap[w.heap.size + 1]? = some (.cells zer64 179 (0, 0)) ∧ Ref0 w (((w.alloc (.cells zer32 126)).alloc (.cells zer64 179)).setRow (w.heap.size + 1) (cellsOf .u64 consts)) ∧
    (((w.alloc (.cells zer32 126)).alloc (.cells zer64 179)).setRow (w.heap.size + 1) (cellsOf .u64 consts)).heap.size = w.heap.size + 1 + 1 := by
  have h0 : ((w.alloc (.cells zer32 126)).alloc (.cells zer64 179)).heap[w.heap.size + 1]? = some (.cells zer64 179 (0, 0)) := by
    have := heap_alloc_new (w.alloc (.cells zer32 126)) (.cells zer64 179)
    simpa using this
  refine ⟨h0, ⟨?_, row_new h0, ?_⟩, by simp⟩
  · simp only [World.setRow, Array.getElem?_modify]
    rw [if_neg (by omega), Below.heap_alloc _ _ _ (by simp)]
    exact heap_alloc_new _ _
  · exact below_setRow (((Below.refl _ _).alloc (Nat.le_refl _) _).alloc (by simp) _) (by omega) _
theorem size42 : (Tryz.prog.info? 179).map (·.size) = some (cellsOf .u64 consts).size := by
  rw [show (cellsOf .u64 consts).size = 64 by decide]
  kernel_rfl

theorem wpList_buildTo {P : Program} {ops : Array Oper} {rest : List Oper} {o : Oper} {a : Act} {w : World} {Q : Exit → Act → World → Prop} (hg : o.guard = none) (t : TypeId) (parts : Array (Nat × Operand)) (ho : o.op = .build t parts) (cs : Array Value)
    (hf : P.built t (parts.map fun (i, x) => (i, a.eval x)).toList = some cs) (h : wpList P ops Q rest (a.put o.dst (.agg cs)) w) : wpList P ops Q (o :: rest) a w := by
  refine wpList_build hg t parts ho (by rw [hf]; rfl) ?_
  rw [hf]
  exact h
theorem forget {P : Program} {ops : Array Oper} {rest : List Oper} {a : Act} {w : World} {Q : Exit → Act → World → Prop} (R : World → Prop) (hR : R w) (h : ∀ w1, R w1 → wpList P ops Q rest a w1) : wpList P ops Q rest a w := h w hR

/-- With the words of the state at block H. -/
def Ref1 (w : World) (H : Nat) (s : Eight) (wr : World) : Prop := Ref0 w wr ∧ wr.heap[H]? = some (.cells (cells8 .u64 s) 180 (0, 0)) ∧ w.heap.size + 1 < H
theorem Ref1.grown {w wr w' : World} {H : Nat} {s : Eight} {row : Option Nat} (h : Ref1 w H s wr) (hg : wr.grownBy w' row) (hr : ∀ g, row = some g → H < g) : Ref1 w H s w' := by
  have h1 := lt_of_heap h.1.1
  have h2 := lt_of_heap h.1.2.1
  have h3 := lt_of_heap h.2.1
  have hlt := h.2.2
  have ne : ∀ k, k ≤ H → some k ≠ row := fun k hk e => by have := hr k e.symm; omega
  refine ⟨⟨(hg.block _ h1 (ne _ (by omega))).trans h.1.1, (hg.block _ h2 (ne _ (by omega))).trans h.1.2.1, h.1.2.2.grown hg (by omega) (fun k hk => by have := hr k hk; omega)⟩, (hg.block _ h3 (ne _ (Nat.le_refl _))).trans h.2.1, hlt⟩
theorem Ref1.alloc {w wr : World} {H : Nat} {s : Eight} (h : Ref1 w H s wr) (o : Obj) : Ref1 w H s (wr.alloc o) := h.grown (World.grownBy_alloc wr o none) (fun g e => by cases e)
theorem ref1_start {w w1 : World} (h : Ref0 w w1) (hs : w1.heap.size = w.heap.size + 1 + 1) : Ref1 w w1.heap.size seed8 (w1.alloc (.cells (cells8 .u64 seed8) 180)) := by
  refine ⟨⟨?_, ?_, h.2.2.alloc (by omega) _⟩, heap_alloc_new _ _, by omega⟩
  · rw [Below.heap_alloc _ _ _ (by omega)]; exact h.1
  · rw [Below.heap_alloc _ _ _ (by omega)]; exact h.2.1

theorem ref1_put {w w1 : World} {Z : Array Value} (h : Ref0 w w1) (hs : w1.heap.size = w.heap.size + 1 + 1) : (w1.alloc (.cells Z 180)).heap[w1.heap.size]? = some (.cells Z 180 (0, 0)) ∧ Ref1 w w1.heap.size seed8 ((w1.alloc (.cells Z 180)).setRow w1.heap.size (cells8 .u64 seed8)) := by
  have h0 := heap_alloc_new w1 (.cells Z 180)
  refine ⟨h0, ⟨?_, ?_, ?_⟩, row_new h0, by omega⟩
  · simp only [World.setRow, Array.getElem?_modify]
    rw [if_neg (by omega), Below.heap_alloc _ _ _ (by omega)]
    exact h.1
  · simp only [World.setRow, Array.getElem?_modify]
    rw [if_neg (by omega), Below.heap_alloc _ _ _ (by omega)]
    exact h.2.1
  · exact below_setRow (h.2.2.alloc (by omega) _) (by omega) _
theorem size43 (s : Eight) : (Tryz.prog.info? 180).map (·.size) = some (cells8 .u64 s).size := by
  rw [show (cells8 .u64 s).size = 8 from rfl]
  kernel_rfl

/-- Bytes as values. -/
def vals (l : List Nat) : List Value := l.map fun x => Value.int .u8 (x : Nat)
theorem vals_append (l m : List Nat) : vals (l ++ m) = vals l ++ vals m := by simp [vals]
theorem vals_one (l : List Nat) : ∀ u ∈ vals l, u.oneCell' = true := by
  intro v hv
  obtain ⟨x, _, rfl⟩ := List.mem_map.1 hv
  rfl
theorem info5' : (Tryz.prog.info? 5).map (fun i => (i.zero, i.size, i.bytes)) = some (some (.int .u8 0), 1, 1) := by kernel_rfl
/-- Bytes, nil or not, put behind bytes of one's own. -/
theorem wpList_append_src {ops : Array Oper} {rest : List Oper} {o : Oper} {a : Act} {w : World} {Q : Exit → Act → World → Prop} (hgd : o.guard = none) (s x : Operand)
    (ho : o.op = .call { callee := .builtin .append, args := #[s, x], argTypes := #[22, 22] })
    (base : Nat) (v : Value) (M : List Nat) (hs : a.eval s = v) (hown : w.ownsRow base 5 1 v M.length (vals M)) (hbase : base ≤ w.heap.size)
    (A : Option Addr) (m c : Nat) (L : List Nat) (hx : a.eval x = .slice A m c) (hB : Bytes w A m L) (hnil : A = none → c = 0) (hbound : M.length + m ≤ 100000)
    (h : ∀ v' w', w'.ownsRow base 5 1 v' (M ++ L).length (vals (M ++ L)) → w.grownBy w' v.ownBlock → wpList Tryz.prog ops Q rest (a.put o.dst v') w') : wpList Tryz.prog ops Q (o :: rest) a w := by
  obtain ⟨i0, hi, hz0, hz1, hz2⟩ := info_parts info5'
  have hl := hB.1
  cases A with
  | none =>
    have hm : m = 0 := by
      rcases Nat.eq_zero_or_pos m with h0 | h0
      · exact h0
      · obtain ⟨b, o', e, _⟩ := hB.2.2 h0
        cases e
    have hc := hnil rfl
    subst hm hc
    obtain rfl : L = [] := List.eq_nil_of_length_eq_zero hl
    refine wpList_append_own_none hgd s x 22 ho base 5 i0 1 Tryz.underlying22 hi v M.length (vals M) hs hown hx ?_
    exact h v w (by simpa using hown) (World.grownBy.refl w _)
  | some ad =>
    refine wpList_append_own w hgd s x 22 ho base 5 i0 (.int .u8 0) 1 1 Tryz.underlying22 hi hz0 hz1 hz2 rfl (by decide) v M.length (vals M) hs hown ad m c (vals L) hx (by simp [vals, hl]) ?_ (vals_one L) (by unfold maxLen; omega) (by omega) hbase ?_
    · intro j u hu
      have hj : j < L.length := by
        have := (List.getElem?_eq_some_iff.1 hu).1
        simpa [vals] using this
      obtain ⟨b, o', e, hc⟩ := hB.2.2 (by omega)
      cases e
      have ha : (Addr.mk b o' none).add j = ⟨b, o' + j, none⟩ := by unfold Addr.add; split <;> simp_all
      rw [ha, hc j (by omega), ← hu]
      simp [vals, List.getD, hj]
    · intro v' w' h1 h2 _
      refine h v' w' ?_ h2
      rw [List.length_append, hl, vals_append]
      exact h1
/-- Bytes of one's own, besides. -/
def Own (w : World) (H : Nat) (s : Eight) (v : Value) (M : List Nat) (wr : World) : Prop := Ref1 w H s wr ∧ wr.ownsRow (H + 1) 5 1 v M.length (vals M)
theorem Own.more {w wr w' : World} {H : Nat} {s : Eight} {v v' : Value} {M M' : List Nat} (h : Own w H s v M wr) (ho : w'.ownsRow (H + 1) 5 1 v' M'.length (vals M')) (hg : wr.grownBy w' v.ownBlock) : Own w H s v' M' w' :=
  ⟨h.1.grown hg (fun g e => by have := (h.2.lt g e).1; omega), ho⟩
theorem Own.alloc {w wr : World} {H : Nat} {s : Eight} {v : Value} {M : List Nat} (h : Own w H s v M wr) (o : Obj) : Own w H s v M (wr.alloc o) := ⟨h.1.alloc o, h.2.alloc o⟩
theorem Own.size {w wr : World} {H : Nat} {s : Eight} {v : Value} {M : List Nat} (h : Own w H s v M wr) : H + 1 ≤ wr.heap.size := lt_of_heap h.1.2.1
theorem Own.form {w wr : World} {H : Nat} {s : Eight} {v : Value} {M : List Nat} (h : Own w H s v M wr) (hM : 0 < M.length) : ∃ g cap, v = .slice (some ⟨g, 0, none⟩) M.length cap := by
  rcases h.2.2 with ⟨_, h0⟩ | ⟨g, cap, cur, e, _⟩
  · omega
  · exact ⟨g, cap, e⟩
theorem Own.form2 {w wr : World} {H : Nat} {s : Eight} {v : Value} {M : List Nat} (h : Own w H s v M wr) (hM : 0 < M.length) : ∃ g cap, v = .slice (some ⟨g, 0, none⟩) M.length cap ∧ M.length ≤ cap := by
  rcases h.2.2 with ⟨_, h0⟩ | ⟨g, cap, cur, e, _, _, hc, _⟩
  · omega
  · exact ⟨g, cap, e, hc⟩
theorem Own.below {w wr w' : World} {H : Nat} {s : Eight} {v : Value} {M : List Nat} (h : Own w H s v M wr) (hb : Below wr.heap.size wr w') : Own w H s v M w' := by
  have hg : wr.grownBy w' none := ⟨hb.os, hb.tape, hb.output, hb.size, fun i hi _ => hb.block i hi⟩
  exact ⟨h.1.grown hg (fun g e => by cases e), h.2.kept hg (by cases hv : v.ownBlock <;> simp)⟩
theorem bytes_i8 (w : World) (v : Nat) (x : Int) (hx : x = v) (hv : v < 18446744073709551616) :
    Calls Tryz.prog 94 #[.int .u64 x, .int .i64 8] w fun e w' => e = .returned (.slice (some ⟨w.heap.size, 0, none⟩) 8 8) ∧ w'.rowIs w.heap.size 5 8 (fun j => .int .u8 (byteAt v 8 j : Nat)) ∧ Below w.heap.size w w' := by
  subst hx
  exact bytes_any8 w v hv
theorem bytesOf_lt (v n : Nat) : ∀ b ∈ bytesOf v n, b < 256 := by
  intro b hb
  obtain ⟨j, _, rfl⟩ := List.mem_map.1 hb
  exact Nat.mod_lt _ (by omega)
theorem bytes_row {w : World} {g t v n : Nat} (h : w.rowIs g t n (fun j => .int .u8 (byteAt v n j : Nat))) : Bytes w (some ⟨g, 0, none⟩) n (bytesOf v n) := by
  refine ⟨by simp [bytesOf], bytesOf_lt v n, fun _ => ⟨g, 0, rfl, fun i hi => ?_⟩⟩
  rw [Nat.zero_add, h.cell hi]
  simp [bytesOf, List.getD, hi]
/-- With the padded bytes. -/
def RefD (w : World) (H : Nat) (s : Eight) (g : Nat) (M : List Nat) (wr : World) : Prop := Ref1 w H s wr ∧ Bytes wr (some ⟨g, 0, none⟩) M.length M ∧ H < g
theorem own_bytes {w wr : World} {H g k cap : Nat} {s : Eight} {M M' : List Nat} (h : Own w H s (.slice (some ⟨g, 0, none⟩) k cap) M' wr) (hk : M.length = k) (hM : M = M') (hb : ∀ x ∈ M', x < 256) : RefD w H s g M wr := by
  subst hM
  refine ⟨h.1, ⟨rfl, hb, fun hn => ⟨g, 0, rfl, fun i hi => ?_⟩⟩, ?_⟩
  · rcases h.2.2 with ⟨e, _⟩ | ⟨g', cap', cur, e, _, hg, _, _, hcs, htake⟩
    · cases e
    · cases e
      have hown := h.2
      rw [hk] at hown
      have hc := hown.cellAt (g := g) (cap := cap) i (by omega)
      rw [Nat.zero_add, hc]
      simp [vals, List.getD, hi]
  · rcases h.2.2 with ⟨e, _⟩ | ⟨g', cap', cur, e, hb, _⟩
    · cases e
    · cases e
      omega
theorem pad_all_lt {l : List Nat} (h : ∀ x ∈ l, x < 256) (z v : Nat) : ∀ x ∈ l ++ 128 :: List.replicate z 0 ++ bytesOf v 8, x < 256 := by
  intro x hx
  simp only [List.mem_append, List.mem_cons, List.mem_replicate] at hx
  rcases hx with (hx | rfl | ⟨_, rfl⟩) | hx
  · exact h x hx
  · omega
  · omega
  · exact bytesOf_lt _ _ x hx
/-- Four bytes of a block. -/
theorem four {w wr wi : World} {H g p k : Nat} {s : Eight} {M : List Nat} {G : Nat → Nat} (h : RefD w H s g M wr) (hb : Below wr.heap.size wr wi) (hG : G = fun i => (M.drop p).getD i 0) (hp : p + 64 ≤ M.length) (hk : k < 16) :
    Bytes wi (some ⟨g, p + 4 * k, none⟩) 4 [G (4 * k), G (4 * k + 1), G (4 * k + 2), G (4 * k + 3)] := by
  have hB := h.2.1.below h.2.1.lt hb
  have hlt : ∀ i, G i < 256 := fun i => by rw [hG]; exact getD_lt256 (fun x hx => h.2.1.2.1 x (List.mem_of_mem_drop hx)) i
  refine ⟨rfl, ?_, fun _ => ⟨g, p + 4 * k, rfl, fun i hi => ?_⟩⟩
  · intro b hb
    simp only [List.mem_cons, List.not_mem_nil, or_false] at hb
    rcases hb with rfl | rfl | rfl | rfl <;> exact hlt _
  · obtain ⟨b', o', e, hc⟩ := hB.2.2 (by omega)
    cases e
    have h1 := hc (p + 4 * k + i) (by omega)
    rw [Nat.zero_add] at h1
    rw [h1]
    have e1 : M.getD (p + 4 * k + i) 0 = G (4 * k + i) := by rw [hG]; simp [List.getD, Nat.add_assoc]
    rw [e1]
    obtain rfl | rfl | rfl | rfl : i = 0 ∨ i = 1 ∨ i = 2 ∨ i = 3 := by omega
    all_goals rfl
theorem num_word (G : Nat → Nat) (k : Nat) : numOf [G (4 * k), G (4 * k + 1), G (4 * k + 2), G (4 * k + 3)] = word G k := by
  simp [numOf, word]
  omega
theorem trn_quiet (w : World) (q x : Nat) (m : Int) (n : Nat) (hm : m = n) (hx : x < 4294967296) (h1 : 1 ≤ n) (hn : n ≤ 31) :
    Calls Tryz.prog 95 #[.int .u64 x, .int .u64 m] (w.drewN q) fun e w'' => e = .returned (.int .u64 (rot x n : Nat)) ∧ ∃ r, w'' = w.drewN r :=
  (turned_i (w.drewN q) x m n hm hx h1 hn).mono fun _ _ ⟨he, hw⟩ => ⟨he, q, hw.symm⟩
theorem xor64 (a b : Nat) (ha : a < 4294967296) (hb : b < 4294967296) : bits .xor .u64 (a : Int) (b : Int) = ((a ^^^ b : Nat) : Int) := u64_xor_nat a b (by omega) (by omega)
theorem sm0_64 (x : Nat) (hx : x < 4294967296) : bits .xor .u64 (bits .xor .u64 ((rot x 7 : Nat) : Int) ((rot x 18 : Nat) : Int)) ((x : Int) / 8) = ((sm0 x : Nat) : Int) := by
  rw [xor64 _ _ (rot_lt 7 hx) (rot_lt 18 hx)]
  exact xor64 _ (x / 8) (xor_lt32 (rot_lt 7 hx) (rot_lt 18 hx)) (div_lt32 _ hx)
theorem sm1_64 (x : Nat) (hx : x < 4294967296) : bits .xor .u64 (bits .xor .u64 ((rot x 17 : Nat) : Int) ((rot x 19 : Nat) : Int)) ((x : Int) / 1024) = ((sm1 x : Nat) : Int) := by
  rw [xor64 _ _ (rot_lt 17 hx) (rot_lt 19 hx)]
  exact xor64 _ (x / 1024) (xor_lt32 (rot_lt 17 hx) (rot_lt 19 hx)) (div_lt32 _ hx)
theorem and64 (m : Nat) (h : m < 18446744073709551616) : bits .and .u64 (m : Int) 4294967295 = ((m % 4294967296 : Nat) : Int) := by
  have := u64_and_nat m 4294967295 h (by omega)
  rw [nat_mask32] at this
  exact this
theorem Ref1.below {w wr w' : World} {H : Nat} {s : Eight} (h : Ref1 w H s wr) (hb : Below wr.heap.size wr w') : Ref1 w H s w' :=
  h.grown (row := none) ⟨hb.os, hb.tape, hb.output, hb.size, fun i hi _ => hb.block i hi⟩ (fun g e => by cases e)
theorem RefD.below {w wr w' : World} {H g : Nat} {s : Eight} {M : List Nat} (h : RefD w H s g M wr) (hb : Below wr.heap.size wr w') : RefD w H s g M w' :=
  ⟨h.1.below hb, h.2.1.below h.2.1.lt hb, h.2.2⟩
theorem ref_load {w wo wi : World} {H g S : Nat} {s : Eight} {M : List Nat} (h : RefD w H s g M wo) (hb : Below S wo wi) (hS : S = wo.heap.size) : wi.heap[H]? = some (.cells (cells8 .u64 s) 180 (0, 0)) := by
  subst hS
  exact (h.below hb).1.2.1
/-- What lies in memory while the rounds go: the words at S, the eight at X. -/
def Rnd (wo : World) (S : Nat) (ws : List Nat) (X : Nat) (x : Eight) (wr : World) : Prop :=
  wr.rowIs S 179 64 (fun m => .int .u64 (ws.getD m 0 : Nat)) ∧ wr.rowIs X 180 8 (fun i => .int .u64 (x.nth i : Nat)) ∧ S < X ∧ Below S wo wr
theorem Rnd.draws {wo wr : World} {S X : Nat} {ws : List Nat} {x : Eight} (h : Rnd wo S ws X x wr) (n : Nat) : Rnd wo S ws X x (wr.drewN n) := ⟨h.1, h.2.1, h.2.2.1, below_draws h.2.2.2 n⟩
theorem rnd_start {wo wr : World} {S : Nat} {ws : List Nat} {s : Eight} {Z : Array Value} (h : wr.rowIs S 179 64 (fun m => .int .u64 (ws.getD m 0 : Nat))) (hb : Below S wo wr) (hS : S = wo.heap.size) :
    (wr.alloc (.cells Z 180)).heap[wr.heap.size]? = some (.cells Z 180 (0, 0)) ∧ Rnd wo S ws wr.heap.size s ((wr.alloc (.cells Z 180)).setRow wr.heap.size (cells8 .u64 s)) := by
  have h0 := heap_alloc_new wr (.cells Z 180)
  have hlt := h.lt
  refine ⟨h0, ?_, ⟨_, row_new h0, rfl, fun i hi => get8 .u64 s i hi⟩, hlt, below_setRow (hb.alloc (by omega) _) (by omega) _⟩
  refine (h.alloc (.cells Z 180)).of_block ?_
  simp only [World.setRow, Array.getElem?_modify]
  rw [if_neg (by omega)]
theorem or_xor {a b : Nat} (h : a &&& b = 0) : a ||| b = a ^^^ b := by
  apply Nat.eq_of_testBit_eq
  intro i
  have := congrArg (fun x => x.testBit i) h
  simp only [Nat.testBit_and, Nat.zero_testBit] at this
  rw [Nat.testBit_or, Nat.testBit_xor]
  cases ha : a.testBit i <;> cases hb : b.testBit i <;> simp_all
theorem and64' (a b : Nat) (ha : a < 4294967296) (hb : b < 4294967296) : bits .and .u64 (a : Int) (b : Int) = ((a &&& b : Nat) : Int) := u64_and_nat a b (by omega) (by omega)
theorem or64 (a b : Nat) (ha : a < 4294967296) (hb : b < 4294967296) : bits .or .u64 (a : Int) (b : Int) = ((a ||| b : Nat) : Int) := u64_or_nat a b (by omega) (by omega)
theorem not64 (e : Nat) (he : e < 4294967296) : bits .xor .u64 4294967295 (e : Int) = ((4294967295 ^^^ e : Nat) : Int) := xor64 4294967295 e (by omega) he
theorem chs_disj {e f g : Nat} (he : e < 4294967296) : (e &&& f) &&& ((4294967295 ^^^ e) &&& g) = 0 := by
  apply Nat.eq_of_testBit_eq
  intro i
  simp only [Nat.testBit_and, Nat.testBit_xor, Nat.zero_testBit]
  by_cases hi : i < 32
  · have h1 : (4294967295 : Nat).testBit i = true := by
      have : (4294967295 : Nat) = 2 ^ 32 - 1 := by decide
      rw [this, Nat.testBit_two_pow_sub_one]
      simpa using hi
    rw [h1]
    cases e.testBit i <;> simp
  · have h1 : e.testBit i = false := Nat.testBit_lt_two_pow (Nat.lt_of_lt_of_le he (Nat.pow_le_pow_right (n := 2) (by omega) (show 32 ≤ i by omega)))
    rw [h1]
    simp
theorem chs_or (e f g : Nat) (he : e < 4294967296) (hf : f < 4294967296) (hg : g < 4294967296) :
    bits .or .u64 (bits .and .u64 (e : Int) (f : Int)) (bits .and .u64 (bits .xor .u64 4294967295 (e : Int)) (g : Int)) = ((chs e f g : Nat) : Int) := by
  rw [not64 e he, and64' _ _ he hf, and64' _ _ (xor_lt32 (by omega) he) hg, or64 _ _ (and_lt32 hf) (and_lt32 hg), or_xor (chs_disj he)]
  rfl
theorem mjr_bits (a b c : Nat) : ((a &&& b) ||| (a &&& c)) ||| (b &&& c) = mjr a b c := by
  unfold mjr
  apply Nat.eq_of_testBit_eq
  intro i
  simp only [Nat.testBit_or, Nat.testBit_xor, Nat.testBit_and]
  cases a.testBit i <;> cases b.testBit i <;> cases c.testBit i <;> rfl
theorem mjr_or (a b c : Nat) (ha : a < 4294967296) (hb : b < 4294967296) (hc : c < 4294967296) :
    bits .or .u64 (bits .or .u64 (bits .and .u64 (a : Int) (b : Int)) (bits .and .u64 (a : Int) (c : Int))) (bits .and .u64 (b : Int) (c : Int)) = ((mjr a b c : Nat) : Int) := by
  rw [and64' _ _ ha hb, and64' _ _ ha hc, and64' _ _ hb hc, or64 _ _ (and_lt32 hb) (and_lt32 hc), or64 _ _ (or_lt32 (and_lt32 hb) (and_lt32 hc)) (and_lt32 hc), mjr_bits]
theorem bg0_64 (x : Nat) (hx : x < 4294967296) : bits .xor .u64 (bits .xor .u64 ((rot x 2 : Nat) : Int) ((rot x 13 : Nat) : Int)) ((rot x 22 : Nat) : Int) = ((bg0 x : Nat) : Int) := by
  rw [xor64 _ _ (rot_lt 2 hx) (rot_lt 13 hx)]
  exact xor64 _ _ (xor_lt32 (rot_lt 2 hx) (rot_lt 13 hx)) (rot_lt 22 hx)
theorem bg1_64 (x : Nat) (hx : x < 4294967296) : bits .xor .u64 (bits .xor .u64 ((rot x 6 : Nat) : Int) ((rot x 11 : Nat) : Int)) ((rot x 25 : Nat) : Int) = ((bg1 x : Nat) : Int) := by
  rw [xor64 _ _ (rot_lt 6 hx) (rot_lt 11 hx)]
  exact xor64 _ _ (xor_lt32 (rot_lt 6 hx) (rot_lt 11 hx)) (rot_lt 25 hx)
theorem rnd_cells {wo wr : World} {S X : Nat} {ws : List Nat} {x : Eight} (h : Rnd wo S ws X x wr) : wr.cell? ⟨X, 0, none⟩ = some (.int .u64 x.a) ∧ wr.cell? ⟨X, 1, none⟩ = some (.int .u64 x.b) ∧ wr.cell? ⟨X, 2, none⟩ = some (.int .u64 x.c) ∧ wr.cell? ⟨X, 3, none⟩ = some (.int .u64 x.d) ∧
    wr.cell? ⟨X, 4, none⟩ = some (.int .u64 x.e) ∧ wr.cell? ⟨X, 5, none⟩ = some (.int .u64 x.f) ∧ wr.cell? ⟨X, 6, none⟩ = some (.int .u64 x.g) ∧ wr.cell? ⟨X, 7, none⟩ = some (.int .u64 x.h) :=
  ⟨h.2.1.cell (i := 0) (by omega), h.2.1.cell (i := 1) (by omega), h.2.1.cell (i := 2) (by omega), h.2.1.cell (i := 3) (by omega), h.2.1.cell (i := 4) (by omega), h.2.1.cell (i := 5) (by omega), h.2.1.cell (i := 6) (by omega), h.2.1.cell (i := 7) (by omega)⟩
theorem const_cell {w wo wi : World} {H g S k : Nat} {s : Eight} {M : List Nat} (h : RefD w H s g M wo) (hS : S = wo.heap.size) (hb : Below S wo wi) (hk : k < 64) : wi.cell? ⟨w.heap.size + 1, k, none⟩ = some (.int .u64 (consts.getD k 0 : Nat)) := by
  subst hS
  rw [cell_of_row _ _ _ _ _ _ (h.below hb).1.1.2.1]
  have : k < consts.length := by
    have : consts.length = 64 := by decide
    omega
  simp [cellsOf, List.getD, this]
theorem one_i {h b c k w : Nat} (hh : h < 4294967296) (hb : b < 4294967296) (hc : c < 4294967296) (hk : k < 4294967296) (hw : w < 4294967296) :
    IntKind.u64.wrap (IntKind.u64.wrap (IntKind.u64.wrap (IntKind.u64.wrap ((h : Int) + (b : Int)) + (c : Int)) + (k : Int)) + (w : Int)) = ((h + b + c + k + w : Nat) : Int) := by
  have e : ∀ y : Int, 0 ≤ y → y < 18446744073709551616 → IntKind.u64.wrap y = y := fun y h1 h2 => by
    simp only [IntKind.wrap, IntKind.bits, IntKind.signed]
    simp
    omega
  rw [e (h + b) (by omega) (by omega), e (h + b + c) (by omega) (by omega), e (h + b + c + k) (by omega) (by omega), e (h + b + c + k + w) (by omega) (by omega)]
  simp
theorem add_and (a b : Nat) (ha : a < 4294967296) (hb : b < 21474836480) : bits .and .u64 ((a : Int) + (b : Int)) 4294967295 = (((a + b) % 4294967296 : Nat) : Int) :=
  (congrArg (fun z => bits .and .u64 z 4294967295) (by simp)).trans (and64 (a + b) (by omega))
theorem add3_and (a b c : Nat) (ha : a < 21474836480) (hb : b < 4294967296) (hc : c < 4294967296) : bits .and .u64 ((a : Int) + (b : Int) + (c : Int)) 4294967295 = (((a + b + c) % 4294967296 : Nat) : Int) :=
  (congrArg (fun z => bits .and .u64 z 4294967295) (by simp)).trans (and64 (a + b + c) (by omega))
/-- The words above place m stand one place up. -/
def shf (x : Eight) (m j : Nat) : Nat := if m < j then x.nth (j - 1) else x.nth j
def Shf (wo : World) (S : Nat) (ws : List Nat) (X : Nat) (x : Eight) (m : Nat) (wr : World) : Prop :=
  wr.rowIs S 179 64 (fun m => .int .u64 (ws.getD m 0 : Nat)) ∧ wr.rowIs X 180 8 (fun i => .int .u64 (shf x m i : Nat)) ∧ S < X ∧ Below S wo wr
theorem shf_start {wo wr : World} {S X : Nat} {ws : List Nat} {x : Eight} (h : Rnd wo S ws X x wr) : Shf wo S ws X x 7 wr :=
  ⟨h.1, h.2.1.congr (fun i hi => by unfold shf; rw [if_neg (by omega)]), h.2.2⟩
theorem shf_step {wo wr : World} {S X m : Nat} {ws : List Nat} {x : Eight} (h : Shf wo S ws X x m wr) (hm : 0 < m) (h7 : m ≤ 7) : Shf wo S ws X x (m - 1) (wr.setCell ⟨X, m, none⟩ (.int .u64 (x.nth (m - 1) : Nat))) := by
  have hlt := h.2.2.1
  refine ⟨h.1.setOther (by simp; omega) _, (h.2.1.set m _).congr fun j hj => ?_, hlt, h.2.2.2.setCell (Nat.le_of_lt hlt) _⟩
  by_cases e : j = m
  · subst e
    simp only [if_true, shf]
    rw [if_pos (by omega)]
  · simp only [if_neg e, shf]
    have : (m - 1 < j) ↔ (m < j) := by omega
    simp only [this]
theorem rnd_end {wo wr : World} {S X : Nat} {ws : List Nat} {x : Eight} {xa xb xc xd xe xf xg xh one kk ww : Nat} (h : Shf wo S ws X x 0 wr) (hx : x = ⟨xa, xb, xc, xd, xe, xf, xg, xh⟩) (ho : one = xh + bg1 xe + chs xe xf xg + kk + ww) :
    Rnd wo S ws X (round x kk ww) ((wr.setCell ⟨X, 4, none⟩ (.int .u64 ((xd + one) % 4294967296 : Nat))).setCell ⟨X, 0, none⟩ (.int .u64 ((one + bg0 xa + mjr xa xb xc) % 4294967296 : Nat))) := by
  have hlt := h.2.2.1
  refine ⟨(h.1.setOther (by simp; omega) _).setOther (by simp; omega) _, ((h.2.1.set 4 _).set 0 _).congr fun j hj => ?_, hlt, (h.2.2.2.setCell (Nat.le_of_lt hlt) _).setCell (Nat.le_of_lt hlt) _⟩
  subst hx
  have hl : low ⟨xa, xb, xc, xd, xe, xf, xg, xh⟩ kk ww = one % 4294967296 := by rw [ho]; rfl
  have hh : high ⟨xa, xb, xc, xd, xe, xf, xg, xh⟩ = (bg0 xa + mjr xa xb xc) % 4294967296 := rfl
  have e0 : (one + bg0 xa + mjr xa xb xc) % 4294967296 = (one % 4294967296 + (bg0 xa + mjr xa xb xc) % 4294967296) % 4294967296 := by omega
  have e4 : (xd + one) % 4294967296 = (xd + one % 4294967296) % 4294967296 := by omega
  obtain rfl | rfl | rfl | rfl | rfl | rfl | rfl | rfl : j = 0 ∨ j = 1 ∨ j = 2 ∨ j = 3 ∨ j = 4 ∨ j = 5 ∨ j = 6 ∨ j = 7 := by omega
  · simp only [if_true, e0]
    rw [round, hl, hh]
    rfl
  · rfl
  · rfl
  · rfl
  · have : (4 : Nat) ≠ 0 := by decide
    simp only [if_neg this, if_true, e4]
    rw [round, hl]
    rfl
  · rfl
  · rfl
  · rfl
/-- What lies in memory while the eight are added. -/
def Sum (w : World) (H : Nat) (s : Eight) (g : Nat) (M : List Nat) (X : Nat) (t : Eight) (k : Nat) (wr : World) : Prop :=
  Ref0 w wr ∧ wr.rowIs H 180 8 (fun j => .int .u64 (half s t k j : Nat)) ∧ w.heap.size + 1 < H ∧ Bytes wr (some ⟨g, 0, none⟩) M.length M ∧ H < g ∧ wr.rowIs X 180 8 (fun i => .int .u64 (t.nth i : Nat)) ∧ H < X
theorem sum_start {w wo wr : World} {H g S X : Nat} {s t : Eight} {M ws : List Nat} (h : RefD w H s g M wo) (hS : S = wo.heap.size) (hr : Rnd wo S ws X t wr) : Sum w H s g M X t 0 wr := by
  subst hS
  have h1 := h.below hr.2.2.2
  have hH := lt_of_heap h.1.2.1
  refine ⟨h1.1.1, ⟨_, h1.1.2.1, rfl, fun i hi => ?_⟩, h1.1.2.2, h1.2.1, h1.2.2, hr.2.1, by have := hr.2.2.1; omega⟩
  rw [get8 .u64 s i hi]
  simp [half]
theorem sum_step {w wr : World} {H g X k : Nat} {s t : Eight} {M : List Nat} (h : Sum w H s g M X t k wr) (hk : k < 8) : Sum w H s g M X t (k + 1) ((wr.setCell ⟨H, k, none⟩ (.int .u64 ((s.nth k + t.nth k) % 4294967296 : Nat))).drew) := by
  have h3 := h.2.2.1
  have h5 := h.2.2.2.2.1
  have h7 := h.2.2.2.2.2.2
  refine ⟨⟨(Below.heap_setCell _ _ _ _ (by simp; omega)).trans h.1.1, (Below.heap_setCell _ _ _ _ (by simp; omega)).trans h.1.2.1, Below.drew (h.1.2.2.setCell (by simp; omega) _)⟩, ?_, h3, ?_, h5, World.rowIs.drew (h.2.2.2.2.2.1.setOther (by simp; omega) _), h7⟩
  · refine World.rowIs.drew ((h.2.1.set k _).congr fun j hj => ?_)
    by_cases e : j = k
    · subst e; simp [half]
    · have : (j < k + 1) ↔ (j < k) := by omega
      simp [e, half, this]
  · have hB := h.2.2.2.1
    refine ⟨hB.1, hB.2.1, fun hn => ?_⟩
    obtain ⟨b, o, e, hc⟩ := hB.2.2 hn
    cases e
    refine ⟨g, 0, rfl, fun i hi => ?_⟩
    show (wr.setCell ⟨H, k, none⟩ _).cell? ⟨g, 0 + i, none⟩ = _
    rw [World.cell?_setCell_other _ _ _ _ (fun e => by injection e; omega)]
    exact hc i hi
theorem sum_end {w wr : World} {H g X : Nat} {s t : Eight} {M : List Nat} (h : Sum w H s g M X t 8 wr) : RefD w H (s.add t) g M wr := by
  obtain ⟨cs, hcs, hsz, hget⟩ := h.2.1
  have e : cs = cells8 .u64 (s.add t) := by
    apply Array.ext_getElem?
    intro i
    by_cases hi : i < 8
    · rw [hget i hi, get8 _ _ i hi, add_nth s t i hi]
      simp [half, hi]
    · rw [Array.getElem?_eq_none (by omega), Array.getElem?_eq_none (by simp [cells8]; omega)]
  subst e
  exact ⟨⟨h.1, hcs, h.2.2.1⟩, h.2.2.2.1, h.2.2.2.2.1⟩
theorem digest_ok (l : List Nat) : (digest l).Ok := chunk_ok (chunk_ok seed_ok _ _) _ _
/-- What lies in memory while the bytes are laid. -/
def Outs (w : World) (H : Nat) (s : Eight) (D k : Nat) (wr : World) : Prop := Ref1 w H s wr ∧ wr.rowIs D 126 32 (fun j => .int .u8 (outTo s k j : Nat)) ∧ H < D
theorem outs_start {w wr : World} {H g D : Nat} {s : Eight} {M : List Nat} (h : RefD w H s g M wr) (hD : D = wr.heap.size) : Outs w H s D 0 (wr.alloc (.cells (Array.replicate 32 (.int .u8 0)) 126)) :=
  ⟨h.1.alloc _, out_start (row_rep wr hD (.int .u8 0) 126 32), by rw [hD]; exact lt_of_heap h.1.2.1⟩
theorem Outs.below {w wr w' : World} {H D k : Nat} {s : Eight} (h : Outs w H s D k wr) (hb : Below wr.heap.size wr w') : Outs w H s D k w' :=
  ⟨h.1.below hb, h.2.1.of_block (hb.block _ h.2.1.lt), h.2.2⟩
theorem Outs.set_ {w wr : World} {H D k : Nat} {s : Eight} {v : Int} (h : Outs w H s D k wr) (hv : v = (outByte s k : Nat)) : Outs w H s D (k + 1) (wr.setCell ⟨D, k, none⟩ (.int .u8 v)) := by
  have h1 := h.1.2.2
  have h2 := h.2.2
  refine ⟨⟨⟨(Below.heap_setCell _ _ _ _ (by simp; omega)).trans h.1.1.1, (Below.heap_setCell _ _ _ _ (by simp; omega)).trans h.1.1.2.1, h.1.1.2.2.setCell (by simp; omega) _⟩, (Below.heap_setCell _ _ _ _ (by simp; omega)).trans h.1.2.1, h1⟩, out_step hv h.2.1, h2⟩
theorem out_byte (s : Eight) (k m : Nat) (hm : m < 4) : byteAt (s.nth k) 4 m = outByte s (4 * k + m) := by
  unfold byteAt outByte
  rw [show (4 * k + m) / 4 = k by omega, show (4 * k + m) % 4 = m by omega, show (256 : Nat) = 2 ^ 8 by decide, ← Nat.pow_mul, show 4 - 1 - m = 3 - m by omega]
theorem own_start {w wr : World} {H : Nat} {s : Eight} (h : Ref1 w H s wr) : Own w H s (.slice (some ⟨wr.heap.size, 0, none⟩) 0 0) [] (wr.alloc (.cells #[] 5)) :=
  ⟨h.alloc _, World.ownsRow_made wr #[] 0 (lt_of_heap h.2.1) (Nat.zero_le _) rfl⟩

set_option maxRecDepth 100000 in
set_option maxHeartbeats 2000000 in
theorem ref_any (w : World) (A : Option Addr) (n c : Nat) (l : List Nat) (hB : Bytes w A n l) (hn : n ≤ 40000) (hnil : A = none → c = 0) :
    Calls Tryz.prog 61 #[.slice A n c] w fun e w' => e = .returned (.agg (cellsOf .u8 (outList (digest l)))) ∧ Below w.heap.size w w' := by
  have HB := Lib.hid hB
  have HNil := Lib.hid hnil
  have HS := Lib.hid (ref_start w)
  have HP := Lib.hid size42
  have HA := Lib.hid (all_cells .u64 consts)
  have HZ := Lib.hid (show zer64.size = (cellsOf .u64 consts).size by decide)
  have HP8 := Lib.hid (size43 seed8)
  have HA8 := Lib.hid (all8 .u64 seed8)
  clear hB hnil
  go_enter Tryz.func61, Tryz.ntmps61
  go_wp2_with (first
    | (refine wpList_buildTo rfl 179 _ rfl (cellsOf .u64 consts) (by kernel_rfl) ?_)
    | (refine wpList_store_row rfl 179 (.tmp 3) (.tmp 24) rfl (w.heap.size + 1) (cellsOf .u64 consts) rfl rfl 179 zer64 HS.out.1 HP.out HZ.out HA.out ?_; refine forget (fun w1 => Ref0 w w1 ∧ w1.heap.size = w.heap.size + 1 + 1) HS.out.2 ?_; intro w1 hR; have HR := Lib.hid hR; clear hR; clear HS)
    | (refine wpList_buildTo rfl 180 _ rfl (cells8 .u64 seed8) (by kernel_rfl) ?_)
    | (refine wpList_store_row rfl 180 (.tmp 4) (.tmp 25) rfl w1.heap.size (cells8 .u64 seed8) rfl rfl 180 _ (ref1_put HR.out.1 HR.out.2).1 HP8.out rfl HA8.out ?_; refine forget (fun w2 => Ref1 w w1.heap.size seed8 w2) (ref1_put HR.out.1 HR.out.2).2 ?_; intro w2 hR2; obtain ⟨H, hH⟩ : ∃ H, H = w1.heap.size := ⟨_, rfl⟩; rw [← hH] at hR2 ⊢; have HO := Lib.hid (own_start hR2); clear hR2 hH)
    | (at_builtin; refine wpList_append_src rfl (.tmp 26) (.tmp 27) rfl (H + 1) _ [] rfl HO.out.2 HO.out.size A n c l rfl ?_ HNil.out (by simp; omega) ?_; exact HB.out.below HB.out.lt HO.out.1.1.2.2; intro v3 w3 ho3 hg3; have HO3 := Lib.hid (HO.out.more ho3 hg3); clear ho3 hg3)
    | (at_builtin; refine wpList_append_src rfl (.tmp 28) (.tmp 29) rfl (H + 1) _ ([] ++ l) rfl (HO3.out.alloc _).2 (HO3.out.alloc _).size (some ⟨w3.heap.size, 0, none⟩) 1 1 [128] rfl (Bytes.lit w3 [128] (by decide) 5 (0, 0)) (fun e => by cases e) (by rw [List.nil_append, HB.out.1]; omega) ?_; intro v4 w4 ho4 hg4; have hO4 := (HO3.out.alloc _).more ho4 hg4; obtain ⟨g4, cap4, rfl⟩ := hO4.form (by simp); have HO4 := Lib.hid hO4; clear ho4 hg4 hO4))
  have hln : l.length = n := HB.out.1
  have HO5 : Hid (Own w H seed8 (.slice (some ⟨g4, 0, none⟩) (n + 1) cap4) (l ++ 128 :: List.replicate 0 0) w4) := by
    have := HO4.out
    simp only [List.nil_append, List.length_append, hln] at this
    exact this
  rw [hln]
  clear HO4 HO3 HO HR HP HA HZ HP8 HA8
  have HLn := Lib.hid hln
  clear hln
  go_loopw [5] (fun v wr => ∃ (k g cap : Nat), k ≤ zs n ∧ v = .slice (some ⟨g, 0, none⟩) (n + 1 + k) cap ∧ Own w H seed8 v (l ++ 128 :: List.replicate k 0) wr) (fun v _ => zs n - (lenOf v - n - 1))
  case atStart => exact ⟨0, g4, cap4, Nat.zero_le _, rfl, HO5.out⟩
  case round =>
    clear HO5
    obtain ⟨k, g, cap, hk, rfl, hown⟩ := hrel
    have hz64 : zs n < 64 := Nat.mod_lt _ (by omega)
    by_cases hlt : k < zs n
    · have hne : (((n : Int) + 1 + k + 8) % 64 != 0) = true := by rw [bne_iff_ne]; unfold zs at *; omega
      have HOw := Lib.hid hown
      clear hown
      go_wp2_with (at_builtin; refine wpList_append_src rfl (.tmp 36) (.tmp 37) rfl (H + 1) _ (l ++ 128 :: List.replicate k 0) rfl (HOw.out.alloc _).2 (HOw.out.alloc _).size (some ⟨wr.heap.size, 0, none⟩) 1 1 [0] rfl (Bytes.lit wr [0] (by decide) 5 (0, 0)) (fun e => by cases e) (by simp [HLn.out]; omega) ?_; intro v4 w4 ho4 hg4; have hO4 := (HOw.out.alloc _).more ho4 hg4; obtain ⟨g4, cap4, rfl⟩ := hO4.form (by simp; omega); have HO4 := Lib.hid hO4; clear ho4 hg4 hO4)
      go_roundw
      case rel =>
        have hl := HLn.out
        refine ⟨k + 1, g4, cap4, by omega, by rw [hl]; congr 1; omega, ?_⟩
        have := HO4.out
        rw [List.append_assoc, List.cons_append, ← List.replicate_succ'] at this
        have e : (l ++ 128 :: List.replicate (k + 1) 0).length = l.length + (k + 1 + 1) := by simp
        rw [e] at this
        exact this
      case measure =>
        have hl := HLn.out
        simp [lenOf]
        omega
    · obtain rfl : k = zs n := by omega
      have hne : (((n : Int) + 1 + (zs n : Nat) + 8) % 64 != 0) = false := by rw [bne_eq_false_iff_eq]; unfold zs at *; omega
      have HOw := Lib.hid hown
      clear hown
      go_wp2_with fail
      refine (bytes_i8 _ (n * 8) ((n : Int) * 8) (by simp) (by omega)).mono ?_
      rintro e w5 ⟨rfl, hrow, hb5⟩
      have hO5 := HOw.out.below hb5
      have HB5 := Lib.hid (bytes_row hrow)
      have HO5 := Lib.hid hO5
      obtain ⟨S5, hS5⟩ : ∃ S, S = wr.heap.size := ⟨_, rfl⟩
      rw [← hS5] at HB5 ⊢
      clear hrow hb5 hO5 hS5 HOw
      go_wp2_with (at_builtin; refine wpList_append_src rfl (.tmp 39) (.tmp 44) rfl (H + 1) _ (l ++ 128 :: List.replicate (zs n) 0) rfl HO5.out.2 HO5.out.size (some ⟨S5, 0, none⟩) 8 8 (bytesOf (n * 8) 8) rfl HB5.out (fun e => by cases e) (by simp [HLn.out]; omega) ?_; intro v6 w6 ho6 hg6; have hO6 := HO5.out.more ho6 hg6; obtain ⟨g, cap, rfl, hcap⟩ := hO6.form2 (by simp; omega); have HO6 := Lib.hid hO6; clear ho6 hg6 hO6)
      obtain ⟨M, hM⟩ : ∃ M, M = l ++ 128 :: List.replicate (zs n) 0 ++ bytesOf (n * 8) 8 := ⟨_, rfl⟩
      have hML : M.length = l.length + (zs n + (bytesOf (n * 8) 8).length + 1) := by rw [hM]; simp
      obtain ⟨B, hB⟩ : ∃ B, B * 64 = M.length := by
        have hl := HLn.out
        have h8 : (bytesOf (n * 8) 8).length = 8 := by simp [bytesOf]
        rw [hML, h8, hl]
        unfold zs
        exact ⟨(n + ((119 - n % 64) % 64 + 8 + 1)) / 64, by omega⟩
      have hM2 : M.length ≤ 50000 := by
        have hl := HLn.out
        have h8 : (bytesOf (n * 8) 8).length = 8 := by simp [bytesOf]
        rw [hML, h8, hl]
        omega
      have HD := Lib.hid (own_bytes HO6.out (by rw [hM]) hM (pad_all_lt HB.out.2.1 (zs n) (n * 8)))
      have hcap2 : M.length ≤ cap := by rw [hM]; exact hcap
      clear hcap
      rw [← hML]
      have HFin := Lib.hid (show chunk seed8 M B = digest l by rw [hM]; exact chunk_all HLn.out (by rw [← hM]; exact hB))
      have HM := Lib.hid hM
      have HBq := Lib.hid hB
      clear HO6 hML hM HB5 HO5 hne hB
      obtain ⟨K, hKM⟩ : ∃ K, K = M.length := ⟨_, rfl⟩
      have HKM := Lib.hid hKM.symm
      rw [← hKM] at HBq hM2 hcap2 ⊢
      clear hKM
      go_loopw [6] (fun v wr => ∃ j p : Nat, j ≤ B ∧ p = 64 * j ∧ v = .int .i64 (p : Nat) ∧ RefD w H (chunk seed8 M j) g M wr) (fun v _ => K - (intOf v).toNat)
      case atStart => exact ⟨0, 0, by omega, rfl, rfl, HD.out⟩
      case round =>
        clear HD
        obtain ⟨j, p, hj, hp, rfl, hrd⟩ := hrel
        by_cases hjB : j < B
        · have hpK : p + 64 ≤ K := by have := HBq.out; omega
          obtain ⟨S, hS⟩ : ∃ S, S = wr.heap.size := ⟨_, rfl⟩
          obtain ⟨G, hG⟩ : ∃ G : Nat → Nat, G = fun i => (M.drop p).getD i 0 := ⟨_, rfl⟩
          have HGb := Lib.hid (show ∀ i, G i < 256 from fun i => by rw [hG]; exact getD_lt256 (fun x hx => hrd.2.1.2.1 x (List.mem_of_mem_drop hx)) i)
          have HG := Lib.hid hG
          have HPj := Lib.hid hp
          have HRd := Lib.hid hrd
          have HSz := Lib.hid hS
          have HKm := Lib.hid (show p + 64 ≤ M.length by rw [HKM.out]; exact hpK)
          have hlt : (p : Int) < (K : Int) := by omega
          clear hrd hp hG
          go_wp2
          rw [← hS]
          clear hS
          obtain ⟨wo, rfl⟩ : ∃ wo : World, wo = wr := ⟨_, rfl⟩
          go_loopw [8, 52] (fun _ i wi => ∃ k : Nat, k ≤ 64 ∧ i = .int .i64 k ∧ wi.rowIs S 179 64 (fun m => .int .u64 ((words G k).getD m 0 : Nat)) ∧ Below S wo wi) (fun _ i _ => 64 - (intOf i).toNat)
          case atStart => exact ⟨0, by omega, rfl, (row_rep wo HSz.out (.int .u64 0) 179 64), by rw [HSz.out]; exact (Below.refl _ _).alloc (Nat.le_refl _) _⟩
          case round =>
            obtain ⟨k, hk, rfl, hrow, hbel⟩ := hrel
            by_cases hk16 : k < 16
            · have HB4 := Lib.hid (four HRd.out (hbel.mono (by rw [HSz.out]; exact Nat.le_refl _)) HG.out HKm.out hk16)
              have hc := hrow.cell (i := k) (by omega)
              have hf := hrow.frozen k
              have HRow := Lib.hid hrow
              have HBel := Lib.hid hbel
              clear hrow hbel
              go_wp2_with fail
              refine (number_any _ 4 _ _ _ HB4.out (by omega)).mono ?_
              rintro e w' ⟨rfl, rfl⟩
              rw [num_word]
              go_wp2
              go_roundw
              case rel => exact ⟨k + 1, by omega, by go_num, row_step HRow.out (by rw [words_new, if_pos hk16]), HBel.out.setCell (Nat.le_refl _) _⟩
              case measure => simp [intOf]; omega
            · by_cases hk64 : k < 64
              · have hW := words_lt HGb.out k
                have c15 := hrow.cell (i := k - 15) (by omega)
                have c2 := hrow.cell (i := k - 2) (by omega)
                have c16 := hrow.cell (i := k - 16) (by omega)
                have c7 := hrow.cell (i := k - 7) (by omega)
                have ck := hrow.cell (i := k) (by omega)
                have cf := hrow.frozen k
                have y15 := getD_lt hW (k - 15)
                have y2 := getD_lt hW (k - 2)
                have y16 := getD_lt hW (k - 16)
                have y7 := getD_lt hW (k - 7)
                have HN : Hid ((words G (k + 1)).getD k 0 = next (words G k) k) := by
                  rw [words_new, if_neg (by omega)]; exact rfl
                unfold next at HN
                have HRow := Lib.hid hrow
                have HBel := Lib.hid hbel
                clear hrow hbel hW
                generalize (words G k).getD (k - 15) 0 = x15 at *
                generalize (words G k).getD (k - 2) 0 = x2 at *
                generalize (words G k).getD (k - 16) 0 = x16 at *
                generalize (words G k).getD (k - 7) 0 = x7 at *
                have H15 := Lib.hid (sm0_64 x15 y15)
                have H2 := Lib.hid (sm1_64 x2 y2)
                go_wp2
                have e15 : IntKind.i64.wrap ((k : Int) - 15) = (k : Int) - 15 := IntWalk.i64_in _ (by omega)
                have t15 : ((k : Int) - 15).toNat = k - 15 := by omega
                have b15 : (0 : Int) ≤ (k : Int) - 15 := by omega
                have d15 : (15 : Int) ≤ (k : Int) := by omega
                have l15 : (k : Int) - 15 < 64 := by omega
                go_quiet ((go_at_call 95; first | (with_reducible exact trn_quiet _ _ x15 7 7 rfl y15 (by omega) (by omega)) | (with_reducible exact trn_quiet _ _ x15 18 18 rfl y15 (by omega) (by omega))))
                rw [H15.out]
                clear e15 t15 c15
                have p2 : (wr.drewN nq).cell? ⟨S, k - 2, none⟩ = some (.int .u64 (x2 : Nat)) := c2
                have p16 : (wr.drewN nq).cell? ⟨S, k - 16, none⟩ = some (.int .u64 (x16 : Nat)) := c16
                have p7 : (wr.drewN nq).cell? ⟨S, k - 7, none⟩ = some (.int .u64 (x7 : Nat)) := c7
                have pk : (wr.drewN nq).cell? ⟨S, k, none⟩ = some (.int .u64 ((words G k).getD k 0 : Nat)) := ck
                have pf : (wr.drewN nq).frozen? ⟨S, k, none⟩ = false := cf
                have PRow : Hid ((wr.drewN nq).rowIs S 179 64 (fun m => .int .u64 ((words G k).getD m 0 : Nat))) := HRow.out
                have PBel : Hid (Below S wo (wr.drewN nq)) := below_draws HBel.out nq
                clear c2 c16 c7 ck cf HRow HBel
                generalize wr.drewN nq = wq at *
                go_wp2
                have e2 : IntKind.i64.wrap ((k : Int) - 2) = (k : Int) - 2 := IntWalk.i64_in _ (by omega)
                have t2 : ((k : Int) - 2).toNat = k - 2 := by omega
                have b2 : (0 : Int) ≤ (k : Int) - 2 := by omega
                have d2 : (2 : Int) ≤ (k : Int) := by omega
                have l2 : (k : Int) - 2 < 64 := by omega
                go_quiet ((go_at_call 95; first | (with_reducible exact trn_quiet _ _ x2 17 17 rfl y2 (by omega) (by omega)) | (with_reducible exact trn_quiet _ _ x2 19 19 rfl y2 (by omega) (by omega))))
                rw [H2.out]
                clear e2 t2 p2
                have q16 : (wq.drewN nq).cell? ⟨S, k - 16, none⟩ = some (.int .u64 (x16 : Nat)) := p16
                have q7 : (wq.drewN nq).cell? ⟨S, k - 7, none⟩ = some (.int .u64 (x7 : Nat)) := p7
                have qk : (wq.drewN nq).cell? ⟨S, k, none⟩ = some (.int .u64 ((words G k).getD k 0 : Nat)) := pk
                have qf : (wq.drewN nq).frozen? ⟨S, k, none⟩ = false := pf
                have QRow : Hid ((wq.drewN nq).rowIs S 179 64 (fun m => .int .u64 ((words G k).getD m 0 : Nat))) := PRow.out
                have QBel : Hid (Below S wo (wq.drewN nq)) := below_draws PBel.out nq
                clear p16 p7 pk pf PRow PBel
                generalize wq.drewN nq = wp at *
                have z15 := sm0_lt y15
                have z2 := sm1_lt y2
                generalize sm0 x15 = s15 at *
                generalize sm1 x2 = s2 at *
                go_wp2
                have e16 : IntKind.i64.wrap ((k : Int) - 16) = (k : Int) - 16 := IntWalk.i64_in _ (by omega)
                have e7 : IntKind.i64.wrap ((k : Int) - 7) = (k : Int) - 7 := IntWalk.i64_in _ (by omega)
                have t16 : ((k : Int) - 16).toNat = k - 16 := by omega
                have t7 : ((k : Int) - 7).toNat = k - 7 := by omega
                have b16 : (0 : Int) ≤ (k : Int) - 16 := by omega
                have b7 : (0 : Int) ≤ (k : Int) - 7 := by omega
                have d16 : (16 : Int) ≤ (k : Int) := by omega
                have d7 : (7 : Int) ≤ (k : Int) := by omega
                have l16 : (k : Int) - 16 < 64 := by omega
                have l7 : (k : Int) - 7 < 64 := by omega
                have lk : (k : Int) < 64 := by omega
                go_still_tail 16, (by kernel_rfl)
                clear e16 e7 t16 t7
                go_wp2
                go_roundw
                case rel =>
                  refine ⟨k + 1, by omega, by go_num, World.rowIs.drew (row_step QRow.out ?_), Below.drew (QBel.out.setCell (Nat.le_refl _) _)⟩
                  rw [HN.out]
                  exact (congrArg (fun z => bits .and .u64 z 4294967295) (by simp)).trans (and64 (x16 + s15 + x7 + s2) (by omega))
                case measure => simp [intOf]; omega
              · obtain rfl : k = 64 := by omega
                rw [show ((64 : Nat) : Int) = 64 from rfl]
                obtain ⟨ws, hws⟩ : ∃ ws, ws = words G 64 := ⟨_, rfl⟩
                have HWl := Lib.hid (show ws.length = 64 by rw [hws]; exact words_len G 64)
                have HWt := Lib.hid (show ∀ x ∈ ws, x < 4294967296 by rw [hws]; exact words_lt HGb.out 64)
                rw [← hws] at hrow
                have HWs := Lib.hid hws
                obtain ⟨s, hs⟩ : ∃ s, s = chunk seed8 M j := ⟨_, rfl⟩
                have HSok := Lib.hid (show s.Ok by rw [hs]; exact chunk_ok seed_ok M j)
                have HRs : Hid (RefD w H s g M wo) := by rw [hs]; exact HRd.out
                have HSs := Lib.hid hs
                have HLd := Lib.hid (ref_load HRs.out hbel HSz.out)
                have HPs := Lib.hid (size43 s)
                have HAs := Lib.hid (all8 .u64 s)
                have HRow := Lib.hid hrow
                have HBel := Lib.hid hbel
                clear hrow hbel hws hs
                go_wp2_with (first
                  | (refine wpList_load_row rfl 180 (.tmp 4) rfl H rfl 180 _ (0, 0) _ HLd.out Tryz.underlying180 rfl HPs.out ?_)
                  | (refine wpList_store_row rfl 180 (.tmp 11) (.tmp 122) rfl wr.heap.size (cells8 .u64 s) rfl rfl 180 _ (rnd_start (s := s) HRow.out HBel.out HSz.out).1 HPs.out rfl HAs.out ?_; refine forget (fun w7 => Rnd wo S ws wr.heap.size s w7) (rnd_start (s := s) HRow.out HBel.out HSz.out).2 ?_; intro w7 hR7; have HR7 := Lib.hid hR7; clear hR7))
                generalize wr.heap.size = X at *
                clear HLd HRow HBel HPs HAs HRd
                go_loopw [12, 123] (fun _ i wr => ∃ k : Nat, k ≤ 64 ∧ i = .int .i64 k ∧ Rnd wo S ws X (rounds ws s k) wr) (fun _ i _ => 64 - (intOf i).toNat)
                case atStart => exact ⟨0, by omega, rfl, HR7.out⟩
                case round =>
                  clear HR7
                  obtain ⟨k, hk, rfl, hrnd⟩ := hrel
                  by_cases hk64 : k < 64
                  · obtain ⟨oa, ob, oc, od, oe, of, og, oh⟩ := rounds_ok HSok.out ws k
                    have HN : Hid (rounds ws s (k + 1) = round (rounds ws s k) (consts.getD k 0) (ws.getD k 0)) := rfl
                    have HCk := Lib.hid (fun (v : World) (hv : Below S wo v) => const_cell HRs.out HSz.out hv hk64)
                    have HCw := Lib.hid (fun (v : World) (hv : v.rowIs S 179 64 (fun m => .int .u64 (ws.getD m 0 : Nat))) => hv.cell hk64)
                    have yw := getD_lt HWt.out k
                    have yk : consts.getD k 0 < 4294967296 := getD_lt (by decide) k
                    have HF := Lib.hid hrnd
                    clear hrnd
                    generalize rounds ws s k = R at *
                    generalize consts.getD k 0 = kk at *
                    generalize ws.getD k 0 = ww at *
                    obtain ⟨xa, xb, xc, xd, xe, xf, xg, xh⟩ := R
                    simp only at oa ob oc od oe of og oh
                    have HCH := Lib.hid (chs_or xe xf xg oe of og)
                    have HMJ := Lib.hid (mjr_or xa xb xc oa ob oc)
                    have HB0 := Lib.hid (bg0_64 xa oa)
                    have HB1 := Lib.hid (bg1_64 xe oe)
                    have lk : (k : Int) < 64 := by omega
                    obtain ⟨c0, c1, c2, c3, c4, c5, c6, c7⟩ := rnd_cells HF.out
                    go_wp2
                    go_quiet ((go_at_call 95; first | (with_reducible exact trn_quiet _ _ xe 6 6 rfl oe (by omega) (by omega)) | (with_reducible exact trn_quiet _ _ xe 11 11 rfl oe (by omega) (by omega)) | (with_reducible exact trn_quiet _ _ xe 25 25 rfl oe (by omega) (by omega))))
                    rw [HB1.out]
                    have HF1 := Lib.hid (HF.out.draws nq)
                    clear c0 c1 c2 c3 c4 c5 c6 c7 HF
                    generalize wr.drewN nq = w8 at *
                    obtain ⟨c0, c1, c2, c3, c4, c5, c6, c7⟩ := rnd_cells HF1.out
                    have ck := HCk.out w8 HF1.out.2.2.2
                    have cw := HCw.out w8 HF1.out.1
                    go_wp2
                    rw [HCH.out]
                    go_quiet (fail)
                    have ob1 := bg1_lt oe
                    have och := chs_lt (e := xe) of og
                    have ob0 := bg0_lt oa
                    have omj := mjr_lt (a := xa) ob oc
                    obtain ⟨one, hone⟩ : ∃ one, one = xh + bg1 xe + chs xe xf xg + kk + ww := ⟨_, rfl⟩
                    have hone2 : one < 21474836480 := by omega
                    rw [one_i oh ob1 och yk yw, ← hone]
                    have HOne := Lib.hid hone
                    have HF2 := Lib.hid (HF1.out.draws nq)
                    clear c0 c1 c2 c3 c4 c5 c6 c7 HF1 ck cw hone
                    generalize w8.drewN nq = w9 at *
                    obtain ⟨c0, c1, c2, c3, c4, c5, c6, c7⟩ := rnd_cells HF2.out
                    go_wp2
                    go_quiet ((go_at_call 95; first | (with_reducible exact trn_quiet _ _ xa 2 2 rfl oa (by omega) (by omega)) | (with_reducible exact trn_quiet _ _ xa 13 13 rfl oa (by omega) (by omega)) | (with_reducible exact trn_quiet _ _ xa 22 22 rfl oa (by omega) (by omega))))
                    rw [HB0.out]
                    have HF3 := Lib.hid (HF2.out.draws nq)
                    clear c0 c1 c2 c3 c4 c5 c6 c7 HF2
                    generalize w9.drewN nq = w10 at *
                    obtain ⟨c0, c1, c2, c3, c4, c5, c6, c7⟩ := rnd_cells HF3.out
                    go_wp2
                    rw [HMJ.out]
                    clear c0 c1 c2 c3 c4 c5 c6 c7 HCk HCw HB0 HB1 HCH HMJ
                    obtain ⟨x, hx⟩ : ∃ x : Eight, x = ⟨xa, xb, xc, xd, xe, xf, xg, xh⟩ := ⟨_, rfl⟩
                    rw [← hx] at HF3 HN
                    have HXx := Lib.hid hx
                    have HXok := Lib.hid (show x.Ok by rw [hx]; exact ⟨oa, ob, oc, od, oe, of, og, oh⟩)
                    clear hx
                    go_loopw [18] (fun i wr => ∃ m : Nat, m ≤ 7 ∧ i = .int .i64 m ∧ Shf wo S ws X x m wr) (fun i _ => (intOf i).toNat)
                    case atStart => exact ⟨7, by omega, rfl, shf_start HF3.out⟩
                    case round =>
                      clear HF3
                      obtain ⟨m, hm, rfl, hsh⟩ := hrel
                      by_cases hm0 : 0 < m
                      · have cp := hsh.2.1.cell (i := m - 1) (by omega)
                        have cm := hsh.2.1.cell (i := m) (by omega)
                        have fm := hsh.2.1.frozen m
                        have HSh := Lib.hid hsh
                        have HV : Hid (shf x m (m - 1) = x.nth (m - 1)) := by unfold shf; rw [if_neg (by omega)]; exact rfl
                        rw [HV.out] at cp
                        have hm1 : (0 : Int) < (m : Int) := by omega
                        clear hsh
                        go_wp2
                        go_roundw
                        case rel => exact ⟨m - 1, by omega, by go_num, shf_step HSh.out hm0 hm⟩
                        case measure => simp [intOf]; omega
                      · obtain rfl : m = 0 := by omega
                        have c4 := hsh.2.1.cell (i := 4) (by omega)
                        have c0 := hsh.2.1.cell (i := 0) (by omega)
                        have f4 := hsh.2.1.frozen 4
                        have f0 := hsh.2.1.frozen 0
                        have HSh := Lib.hid hsh
                        have HV : Hid (shf x 0 4 = xd) := by rw [HXx.out]; exact rfl
                        rw [HV.out] at c4
                        have H4 := Lib.hid (add_and xd one od hone2)
                        have H0 := Lib.hid (add3_and one (bg0 xa) (mjr xa xb xc) hone2 ob0 omj)
                        clear hsh
                        rw [show ((0 : Nat) : Int) = 0 from rfl]
                        go_wp2
                        go_roundw
                        case rel =>
                          refine ⟨k + 1, by omega, by go_num, ?_⟩
                          rw [H4.out, H0.out, HN.out]
                          exact rnd_end HSh.out HXx.out HOne.out
                        case measure => simp [intOf]; omega
                  · obtain rfl : k = 64 := by omega
                    rw [show ((64 : Nat) : Int) = 64 from rfl]
                    obtain ⟨t, ht⟩ : ∃ t, t = rounds ws s 64 := ⟨_, rfl⟩
                    have HTok := Lib.hid (show t.Ok by rw [ht]; exact rounds_ok HSok.out ws 64)
                    rw [← ht] at hrnd
                    have HTt := Lib.hid ht
                    have HSu := Lib.hid (sum_start HRs.out HSz.out hrnd)
                    clear hrnd ht
                    go_wp2
                    go_loopw [19, 215] (fun _ i wr => ∃ k : Nat, k ≤ 8 ∧ i = .int .i64 k ∧ Sum w H s g M X t k wr) (fun _ i _ => 8 - (intOf i).toNat)
                    case atStart => exact ⟨0, by omega, rfl, HSu.out⟩
                    case round =>
                      clear HSu
                      obtain ⟨k, hk, rfl, hsum⟩ := hrel
                      by_cases hk8 : k < 8
                      · have ch := hsum.2.1.cell hk8
                        have fh := hsum.2.1.frozen k
                        have cx := hsum.2.2.2.2.2.1.cell hk8
                        have HHf : Hid (half s t k k = s.nth k) := by simp [half, Hid]
                        rw [HHf.out] at ch
                        have o1 := nth_lt HSok.out k
                        have o2 := nth_lt HTok.out k
                        have HA := Lib.hid (add_and (s.nth k) (t.nth k) o1 (by omega))
                        have HSm := Lib.hid hsum
                        have lk : (k : Int) < 8 := by omega
                        clear hsum
                        go_wp2
                        go_still_tail 10, (by kernel_rfl)
                        go_wp2
                        rw [HA.out]
                        go_roundw
                        case rel => exact ⟨k + 1, by omega, by go_num, sum_step HSm.out hk8⟩
                        case measure => simp [intOf]; omega
                      · obtain rfl : k = 8 := by omega
                        have HSe := Lib.hid (sum_end hsum)
                        clear hsum
                        go_wp2
                        go_roundw
                        case rel =>
                          refine ⟨j + 1, p + 64, by omega, by have := HPj.out; omega, by go_num, ?_⟩
                          have e : chunk seed8 M (j + 1) = s.add t := by
                            rw [HTt.out, HWs.out, HSs.out, HG.out, HPj.out]
                            rfl
                          rw [e]
                          exact HSe.out
                        case measure => simp [intOf]; omega
        · obtain rfl : j = B := by omega
          obtain ⟨s, hs⟩ : ∃ s, s = digest l := ⟨_, rfl⟩
          rw [HFin.out, ← hs] at hrd
          have HSs := Lib.hid hs
          have HSok := Lib.hid (show s.Ok by rw [hs]; exact digest_ok l)
          have hnl : ¬ (p : Int) < (K : Int) := by have := HBq.out; omega
          have HRd := Lib.hid hrd
          obtain ⟨D, hD⟩ : ∃ D, D = wr.heap.size := ⟨_, rfl⟩
          have HOs := Lib.hid (outs_start hrd hD)
          clear hrd hs hp
          go_wp2
          rw [← hD]
          clear hD
          go_loopw [21, 22, 23, 229] (fun _ _ _ i wr => ∃ k : Nat, k ≤ 8 ∧ i = .int .i64 k ∧ Outs w H s D (4 * k) wr) (fun _ _ _ i _ => 8 - (intOf i).toNat)
          case atStart => exact ⟨0, by omega, rfl, HOs.out⟩
          case round =>
            clear HOs
            obtain ⟨k, hk, rfl, hout⟩ := hrel
            by_cases hk8 : k < 8
            · have ch : wr.cell? ⟨H, k, none⟩ = some (.int .u64 (s.nth k : Nat)) := by rw [cell_of_row _ _ _ _ _ _ hout.1.2.1]; exact get8 .u64 s k hk8
              have o1 := nth_lt HSok.out k
              have HOt := Lib.hid hout
              have lk : (k : Int) < 8 := by omega
              clear hout
              obtain ⟨v, hv⟩ : ∃ v, v = s.nth k := ⟨_, rfl⟩
              rw [← hv] at ch o1
              have HVv := Lib.hid hv
              clear hv
              go_wp2_with fail
              refine (bytes_any4 _ v (by omega)).mono ?_
              rintro e w5 ⟨rfl, hrow, hb5⟩
              have HO5 := Lib.hid (HOt.out.below hb5)
              have hDT : D < wr.heap.size := HOt.out.2.1.lt
              obtain ⟨T, hT⟩ : ∃ T, T = wr.heap.size := ⟨_, rfl⟩
              rw [← hT] at hrow hDT ⊢
              have HRw := Lib.hid hrow
              clear hrow hb5 hT ch HOt
              go_wp2
              go_loopw [23, 236] (fun _ i wr => ∃ m : Nat, m ≤ 4 ∧ i = .int .i64 m ∧ Outs w H s D (4 * k + m) wr ∧ wr.rowIs T 5 4 (fun j => .int .u8 (byteAt v 4 j : Nat))) (fun _ i _ => 4 - (intOf i).toNat)
              case atStart => exact ⟨0, by omega, rfl, HO5.out, HRw.out⟩
              case round =>
                clear HO5 HRw
                obtain ⟨m, hm, rfl, hout, hrow⟩ := hrel
                by_cases hm4 : m < 4
                · have cb := hrow.cell hm4
                  have cd := hout.2.1.cell (i := 4 * k + m) (by omega)
                  have fd := hout.2.1.frozen (4 * k + m)
                  have HOt := Lib.hid hout
                  have HRw := Lib.hid hrow
                  have HOb := Lib.hid (out_byte s k m hm4)
                  rw [← HVv.out] at HOb
                  have lm : (m : Int) < 4 := by omega
                  clear hout hrow
                  go_wp2
                  go_roundw
                  case rel => exact ⟨m + 1, by omega, by go_num, HOt.out.set_ (by rw [HOb.out]), HRw.out.setOther (by simp; omega) _⟩
                  case measure => simp [intOf]; omega
                · obtain rfl : m = 4 := by omega
                  have HOt := Lib.hid hout
                  clear hout hrow
                  go_wp2
                  go_roundw
                  case rel => exact ⟨k + 1, by omega, by go_num, HOt.out⟩
                  case measure => simp [intOf]; omega
            · obtain rfl : k = 8 := by omega
              obtain ⟨cs, hcs, hsz, hget⟩ := hout.2.1
              obtain rfl : cs = cellsOf .u8 (outList s) := row_list hsz (fun i hi => by rw [hget i hi]; simp [outTo, hi])
              have HCS := Lib.hid hcs
              have HCZ := Lib.hid hout.1.1.1
              have HBel := Lib.hid hout.1.1.2.2
              have HP2 := Lib.hid (size32 _ hsz)
              have HA2 := Lib.hid (all_cells .u8 (outList s))
              have HZ2 := Lib.hid (show zer32.size = (cellsOf .u8 (outList s)).size by rw [hsz]; simp)
              clear hcs hout hget hsz
              go_wp2_with (first | (refine wpList_load_row rfl 126 (.tmp 20) rfl D rfl 126 _ (0, 0) _ HCS.out Tryz.underlying126 rfl HP2.out ?_) | (refine wpList_store_row rfl 126 (.tmp 2) (.tmp 250) rfl w.heap.size _ rfl rfl 126 _ HCZ.out HP2.out HZ2.out HA2.out ?_))
              refine bodyPost_ret (v := .agg (cellsOf .u8 (outList s))) ?_ rfl ⟨by rw [HSs.out], ?_⟩
              · refine results_cell_row Tryz.results61 _ _ w.heap.size 126 _ (0, 0) _ rfl ?_ Tryz.underlying126 rfl HP2.out
                exact row_new HCZ.out
              · exact below_setRow HBel.out (Nat.le_refl _) _
end Go.Proofs.YtklmbiekpilkhaaGreatDoor.sumDoor
