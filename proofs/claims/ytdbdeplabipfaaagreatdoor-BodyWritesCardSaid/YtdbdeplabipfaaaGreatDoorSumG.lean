/- The digest. -/
import Derived.Test.YtdbdeplabipfaaaGreatDoorSumE
import Derived.Deep.RegionWith
namespace Go.Proofs.YtdbdeplabipfaaaGreatDoor.sumDoor
open Go.ChangeShapes Go.WideShapes Go.ChangeAt Go.RowKit Go.Proofs.YtdbdeplabipfaaaGreatDoor.sumPlain
set_option linter.unusedVariables false
set_option maxRecDepth 100000

/-- The state behind m blocks. -/
def chunk (s : Eight) (l : List Nat) : Nat → Eight
  | 0 => s
  | m + 1 => block (chunk s l m) (fun i => (l.drop (64 * m)).getD i 0)
def digest (l : List Nat) : Eight := chunk (chunk seed8 l (l.length / 64)) (padList (l.drop (64 * (l.length / 64))) (l.length * 8) (padEnd (l.length % 64))) (padEnd (l.length % 64) / 64)
theorem seed_ok : seed8.Ok := by unfold Eight.Ok seed8; decide
theorem chunk_ok {s : Eight} (h : s.Ok) (l : List Nat) : ∀ m, (chunk s l m).Ok
  | 0 => h
  | m + 1 => add_ok _ _

/-- What lies in memory while a digest is made. -/
def Dig (w : World) (S : Nat) (s : Eight) (wr : World) : Prop :=
  wr.heap[S]? = some (.cells (cells8 .u32 s) 86 (0, 0)) ∧ wr.heap[w.heap.size]? = some (.cells (Array.replicate 32 (.int .u8 0)) 60 (0, 0)) ∧ w.heap.size < S ∧ Below w.heap.size w wr
theorem lt_of_heap {w : World} {g : Nat} {o : Obj} (h : w.heap[g]? = some o) : g < w.heap.size := (Array.getElem?_eq_some_iff.1 h).1
theorem Dig.below {w wr w' : World} {S : Nat} {s : Eight} (h : Dig w S s wr) (hb : Below wr.heap.size wr w') : Dig w S s w' :=
  ⟨(hb.block _ (lt_of_heap h.1)).trans h.1, (hb.block _ (lt_of_heap h.2.1)).trans h.2.1, h.2.2.1, h.2.2.2.trans (hb.mono h.2.2.2.size)⟩
theorem Dig.draws {w wr : World} {S : Nat} {s : Eight} (h : Dig w S s wr) (n : Nat) : Dig w S s (wr.drewN n) := ⟨h.1, h.2.1, h.2.2.1, below_draws h.2.2.2 n⟩
theorem Dig.put {w wr : World} {S : Nat} {s t : Eight} (h : Dig w S s wr) : Dig w S t (wr.setRow S (cells8 .u32 t)) := by
  refine ⟨row_new h.1, ?_, h.2.2.1, below_setRow h.2.2.2 (Nat.le_of_lt h.2.2.1) _⟩
  have := h.2.2.1
  simp only [World.setRow, Array.getElem?_modify]
  rw [if_neg (by omega)]
  exact h.2.1
theorem dig_start {w w1 : World} {Z Z' : Array Value} (hZ : Z' = Array.replicate 32 (.int .u8 0)) (hz : Z.size = 8) (hb : Below (w.heap.size + 1) (w.alloc (.cells Z' 60)) w1) :
    (w1.alloc (.cells Z 86)).heap[w1.heap.size]? = some (.cells Z 86 (0, 0)) ∧ Dig w w1.heap.size seed8 ((w1.alloc (.cells Z 86)).setRow w1.heap.size (cells8 .u32 seed8)) := by
  subst hZ
  have hlt : w.heap.size < w1.heap.size := by have := hb.size; simp at this; omega
  have h0 := heap_alloc_new w1 (.cells Z 86)
  refine ⟨h0, row_new h0, ?_, hlt, ?_⟩
  · simp only [World.setRow, Array.getElem?_modify]
    rw [if_neg (by omega), Below.heap_alloc _ _ _ hlt, hb.block _ (by omega)]
    exact heap_alloc_new _ _
  · exact below_setRow ((((Below.refl _ _).alloc (Nat.le_refl _) _).trans (hb.mono (by omega))).alloc (by omega) _) (by omega) _

theorem Dig.set_ {w wr : World} {S i : Nat} {cs : Array Value} {v : Value} (h : wr.heap[S]? = some (.cells cs 86 (0, 0)) ∧ wr.heap[w.heap.size]? = some (.cells (Array.replicate 32 (.int .u8 0)) 60 (0, 0)) ∧ w.heap.size < S ∧ Below w.heap.size w wr) :
    (wr.setCell ⟨S, i, none⟩ v).heap[S]? = some (.cells (cs.setIfInBounds i v) 86 (0, 0)) ∧ (wr.setCell ⟨S, i, none⟩ v).heap[w.heap.size]? = some (.cells (Array.replicate 32 (.int .u8 0)) 60 (0, 0)) ∧ w.heap.size < S ∧ Below w.heap.size w (wr.setCell ⟨S, i, none⟩ v) := by
  have hlt := h.2.2.1
  refine ⟨?_, (Below.heap_setCell _ _ _ _ (by simp; omega)).trans h.2.1, hlt, h.2.2.2.setCell (Nat.le_of_lt hlt) _⟩
  simp [World.setCell, Array.getElem?_modify, h.1]
theorem Dig.put8 {w wr : World} {S : Nat} {s t : Eight} (h : Dig w S s wr) : Dig w S t ((((((((wr.setCell ⟨S, 0, none⟩ (.int .u32 t.a)).setCell ⟨S, 1, none⟩ (.int .u32 t.b)).setCell ⟨S, 2, none⟩ (.int .u32 t.c)).setCell ⟨S, 3, none⟩ (.int .u32 t.d)).setCell ⟨S, 4, none⟩ (.int .u32 t.e)).setCell ⟨S, 5, none⟩ (.int .u32 t.f)).setCell ⟨S, 6, none⟩ (.int .u32 t.g)).setCell ⟨S, 7, none⟩ (.int .u32 t.h)) :=
by
  have h1 := Dig.set_ (i := 0) (v := .int .u32 t.a) h
  have h2 := Dig.set_ (i := 1) (v := .int .u32 t.b) h1
  have h3 := Dig.set_ (i := 2) (v := .int .u32 t.c) h2
  have h4 := Dig.set_ (i := 3) (v := .int .u32 t.d) h3
  have h5 := Dig.set_ (i := 4) (v := .int .u32 t.e) h4
  have h6 := Dig.set_ (i := 5) (v := .int .u32 t.f) h5
  have h7 := Dig.set_ (i := 6) (v := .int .u32 t.g) h6
  have h8 := Dig.set_ (i := 7) (v := .int .u32 t.h) h7
  have e : ((((((((cells8 .u32 s).setIfInBounds 0 (.int .u32 t.a)).setIfInBounds 1 (.int .u32 t.b)).setIfInBounds 2 (.int .u32 t.c)).setIfInBounds 3 (.int .u32 t.d)).setIfInBounds 4 (.int .u32 t.e)).setIfInBounds 5 (.int .u32 t.f)).setIfInBounds 6 (.int .u32 t.g)).setIfInBounds 7 (.int .u32 t.h) = cells8 .u32 t := by
    simp [cells8]
  rw [e] at h8
  exact h8
theorem Bytes.cut {w : World} {b o k c : Nat} {l : List Nat} (h : Bytes w (some ⟨b, o, none⟩) k l) (hc : k ≤ c) (hk : 64 ≤ k) :
    Bytes w (if c = 64 then some ⟨b, o, none⟩ else some ⟨b, o + 64, none⟩) (k - 64) (l.drop 64) := by
  refine ⟨by rw [List.length_drop, h.1], fun x hx => h.2.1 x (List.mem_of_mem_drop hx), fun hn => ?_⟩
  obtain ⟨b', o', e, hcell⟩ := h.2.2 (by omega)
  cases e
  rw [if_neg (by omega)]
  refine ⟨b, o + 64, rfl, fun i hi => ?_⟩
  rw [Nat.add_assoc, hcell (64 + i) (by omega)]
  simp [List.getD]
def lenOf : Value → Nat | .slice _ n _ => n | _ => 0
theorem dig_cells {w wr : World} {S : Nat} {s : Eight} (h : Dig w S s wr) : wr.cell? ⟨S, 0, none⟩ = some (.int .u32 s.a) ∧ wr.cell? ⟨S, 1, none⟩ = some (.int .u32 s.b) ∧ wr.cell? ⟨S, 2, none⟩ = some (.int .u32 s.c) ∧ wr.cell? ⟨S, 3, none⟩ = some (.int .u32 s.d) ∧
    wr.cell? ⟨S, 4, none⟩ = some (.int .u32 s.e) ∧ wr.cell? ⟨S, 5, none⟩ = some (.int .u32 s.f) ∧ wr.cell? ⟨S, 6, none⟩ = some (.int .u32 s.g) ∧ wr.cell? ⟨S, 7, none⟩ = some (.int .u32 s.h) :=
  ⟨cell_of_row _ _ _ _ _ _ h.1, cell_of_row _ _ _ _ _ _ h.1, cell_of_row _ _ _ _ _ _ h.1, cell_of_row _ _ _ _ _ _ h.1, cell_of_row _ _ _ _ _ _ h.1, cell_of_row _ _ _ _ _ _ h.1, cell_of_row _ _ _ _ _ _ h.1, cell_of_row _ _ _ _ _ _ h.1⟩
theorem dig_free {w wr : World} {S : Nat} {s : Eight} (h : Dig w S s wr) : wr.frozen? ⟨S, 0, none⟩ = false ∧ wr.frozen? ⟨S, 1, none⟩ = false ∧ wr.frozen? ⟨S, 2, none⟩ = false ∧ wr.frozen? ⟨S, 3, none⟩ = false ∧
    wr.frozen? ⟨S, 4, none⟩ = false ∧ wr.frozen? ⟨S, 5, none⟩ = false ∧ wr.frozen? ⟨S, 6, none⟩ = false ∧ wr.frozen? ⟨S, 7, none⟩ = false :=
  ⟨frozen_of_row _ _ _ _ _ h.1, frozen_of_row _ _ _ _ _ h.1, frozen_of_row _ _ _ _ _ h.1, frozen_of_row _ _ _ _ _ h.1, frozen_of_row _ _ _ _ _ h.1, frozen_of_row _ _ _ _ _ h.1, frozen_of_row _ _ _ _ _ h.1, frozen_of_row _ _ _ _ _ h.1⟩
theorem sched_in {w v : World} {S : Nat} {s : Eight} {b o k c : Nat} {l : List Nat} (hB : Bytes w (some ⟨b, o, none⟩) k l) (hv : Dig w S s v) (hk : 64 ≤ k) (hm : k ≤ maxLen) :
    Calls Tryz.prog 59 #[.slice (some ⟨b, o, none⟩) k c] v fun e w' => e = .returned (.agg (cellsOf .u32 (words (fun i => l.getD i 0) 64))) ∧ Dig w S s w' :=
  (scheduled_any v b o k c l (hB.below hB.lt hv.2.2.2) hk hm).mono fun _ _ ⟨he, hb⟩ => ⟨he, hv.below hb⟩
/-- Behind a block. -/
def Turned (s : Eight) (ws : List Nat) (w : World) (S : Nat) (e : Ending) (w' : World) : Prop :=
  ∃ t, t = s.add (rounds ws s 64) ∧ e = .returned (.agg #[.int .u32 t.a, .int .u32 t.b, .int .u32 t.c, .int .u32 t.d, .int .u32 t.e, .int .u32 t.f, .int .u32 t.g, .int .u32 t.h]) ∧ Dig w S s w'
theorem turned_in {w v : World} {S : Nat} {s : Eight} {ws : List Nat} (hs : s.Ok) (hw : ws.length = 64) (hlt : ∀ x ∈ ws, x < 4294967296) (hL : Laid w) (hv : Dig w S s v) :
    Calls Tryz.prog 58 #[.agg #[.int .u32 s.a, .int .u32 s.b, .int .u32 s.c, .int .u32 s.d, .int .u32 s.e, .int .u32 s.f, .int .u32 s.g, .int .u32 s.h], .agg (cellsOf .u32 ws)] v fun e w' => Turned s ws w S e w' :=
  (turnedBlock_any v s ws hs hw hlt (hL.below hL.lt hv.2.2.2)).mono fun _ _ ⟨he, hb⟩ => ⟨_, rfl, he, hv.below hb⟩

theorem lastBlocks_i (w : World) (A : Option Addr) (n c bs : Nat) (v : Int) (hv : v = bs) (l : List Nat) (hB : Bytes w A n l) (hn : n < 64) (hbs : bs < 18446744073709551616) :
    Calls Tryz.prog 60 #[.slice A n c, .int .u64 v] w fun r w' => r = .returned (.tuple #[.agg (cellsOf .u8 (padList l bs (padEnd n))), .int .i64 (padEnd n : Nat)]) ∧ Below w.heap.size w w' := by
  subst hv
  exact lastBlocks_any w A n c bs l hB hn hbs
/-- With the padded rest. -/
def Dig2 (w : World) (S : Nat) (s : Eight) (T : Nat) (P : List Nat) (wr : World) : Prop := Dig w S s wr ∧ wr.heap[T]? = some (.cells (cellsOf .u8 P) 91 (0, 0)) ∧ S < T
theorem dig_pad {w w5 : World} {S : Nat} {s : Eight} {P : List Nat} (h : Dig w S s w5) (hP : P.length = 128) :
    (w5.alloc (.cells room.toArray 91)).heap[w5.heap.size]? = some (.cells room.toArray 91 (0, 0)) ∧ Dig2 w S s w5.heap.size P ((w5.alloc (.cells room.toArray 91)).setRow w5.heap.size (cellsOf .u8 P)) := by
  have h0 := heap_alloc_new w5 (.cells room.toArray 91)
  have hS := lt_of_heap h.1
  have hlt := h.2.2.1
  refine ⟨h0, ⟨?_, ?_, hlt, ?_⟩, row_new h0, hS⟩
  · simp only [World.setRow, Array.getElem?_modify]
    rw [if_neg (by omega), Below.heap_alloc _ _ _ hS]
    exact h.1
  · simp only [World.setRow, Array.getElem?_modify]
    rw [if_neg (by omega), Below.heap_alloc _ _ _ (by omega)]
    exact h.2.1
  · exact below_setRow (h.2.2.2.alloc (by omega) _) (by omega) _

theorem Dig2.below {w wr w' : World} {S T : Nat} {s : Eight} {P : List Nat} (h : Dig2 w S s T P wr) (hb : Below wr.heap.size wr w') : Dig2 w S s T P w' :=
  ⟨h.1.below hb, (hb.block _ (lt_of_heap h.2.1)).trans h.2.1, h.2.2⟩
theorem Dig2.draws {w wr : World} {S T : Nat} {s : Eight} {P : List Nat} (h : Dig2 w S s T P wr) (n : Nat) : Dig2 w S s T P (wr.drewN n) := ⟨h.1.draws n, h.2⟩
theorem Dig2.put8 {w wr : World} {S T : Nat} {s t : Eight} {P : List Nat} (h : Dig2 w S s T P wr) : Dig2 w S t T P ((((((((wr.setCell ⟨S, 0, none⟩ (.int .u32 t.a)).setCell ⟨S, 1, none⟩ (.int .u32 t.b)).setCell ⟨S, 2, none⟩ (.int .u32 t.c)).setCell ⟨S, 3, none⟩ (.int .u32 t.d)).setCell ⟨S, 4, none⟩ (.int .u32 t.e)).setCell ⟨S, 5, none⟩ (.int .u32 t.f)).setCell ⟨S, 6, none⟩ (.int .u32 t.g)).setCell ⟨S, 7, none⟩ (.int .u32 t.h)) := by
  have hn : ∀ i, T ≠ (Addr.mk S i none).block := fun i => by have := h.2.2; simp; omega
  refine ⟨h.1.put8, ?_, h.2.2⟩
  rw [Below.heap_setCell _ _ _ _ (hn 7), Below.heap_setCell _ _ _ _ (hn 6), Below.heap_setCell _ _ _ _ (hn 5), Below.heap_setCell _ _ _ _ (hn 4), Below.heap_setCell _ _ _ _ (hn 3), Below.heap_setCell _ _ _ _ (hn 2), Below.heap_setCell _ _ _ _ (hn 1), Below.heap_setCell _ _ _ _ (hn 0)]
  exact h.2.1
theorem Dig2.bytes {w v : World} {S T o k : Nat} {s : Eight} {P : List Nat} (h : Dig2 w S s T P v) (hl : P.length = 128) (hb : ∀ x ∈ P, x < 256) (hk : o + k = 128) : Bytes v (some ⟨T, o, none⟩) k (P.drop o) := by
  refine ⟨by rw [List.length_drop]; omega, fun x hx => hb x (List.mem_of_mem_drop hx), fun _ => ⟨T, o, rfl, fun i hi => ?_⟩⟩
  rw [cell_of_row _ _ _ _ _ _ h.2.1]
  have : o + i < P.length := by omega
  simp [cellsOf, List.getD, this]
theorem sched_in2 {w v : World} {S T o k j : Nat} {s : Eight} {P : List Nat} (h : Dig2 w S s T P v) (hl : P.length = 128) (hb : ∀ x ∈ P, x < 256) (ho : o = 64 * j) (hk : o + k = 128 ∧ 64 ≤ k) :
    Calls Tryz.prog 59 #[.slice (some ⟨T, o, none⟩) k k] v fun e w' => e = .returned (.agg (cellsOf .u32 (words (fun i => (P.drop (64 * j)).getD i 0) 64))) ∧ Dig2 w S s T P w' := by
  subst ho
  exact (scheduled_any v T (64 * j) k k (P.drop (64 * j)) (h.bytes hl hb hk.1) hk.2 (by unfold maxLen; omega)).mono fun _ _ ⟨he, hb⟩ => ⟨he, h.below hb⟩
def Turned2 (s : Eight) (ws : List Nat) (w : World) (S T : Nat) (P : List Nat) (e : Ending) (w' : World) : Prop :=
  ∃ t, t = s.add (rounds ws s 64) ∧ e = .returned (.agg #[.int .u32 t.a, .int .u32 t.b, .int .u32 t.c, .int .u32 t.d, .int .u32 t.e, .int .u32 t.f, .int .u32 t.g, .int .u32 t.h]) ∧ Dig2 w S s T P w'
theorem turned_in2 {w v : World} {S T : Nat} {s : Eight} {ws P : List Nat} (hs : s.Ok) (hw : ws.length = 64) (hlt : ∀ x ∈ ws, x < 4294967296) (hL : Laid w) (hv : Dig2 w S s T P v) :
    Calls Tryz.prog 58 #[.agg #[.int .u32 s.a, .int .u32 s.b, .int .u32 s.c, .int .u32 s.d, .int .u32 s.e, .int .u32 s.f, .int .u32 s.g, .int .u32 s.h], .agg (cellsOf .u32 ws)] v fun e w' => Turned2 s ws w S T P e w' :=
  (turnedBlock_any v s ws hs hw hlt (hL.below hL.lt hv.1.2.2.2)).mono fun _ _ ⟨he, hb⟩ => ⟨_, rfl, he, hv.below hb⟩
theorem pad_lt {l : List Nat} (h : ∀ x ∈ l, x < 256) (bs e : Nat) : ∀ x ∈ padList l bs e, x < 256 := by
  intro x hx
  obtain ⟨j, _, rfl⟩ := List.mem_map.1 hx
  unfold padTo
  split
  · exact Nat.mod_lt _ (by omega)
  · split
    · exact getD_lt256 h j
    · split <;> omega

set_option maxRecDepth 100000 in
set_option maxHeartbeats 2000000 in
theorem digest_any (w : World) (A : Option Addr) (n c : Nat) (l : List Nat) (hB : Bytes w A n l) (hn : n ≤ 40000) (hc : n ≤ c) (hL : Laid w) :
    Calls Tryz.prog 48 #[.slice A n c] w fun e w' => e = .returned (.agg (cellsOf .u8 (outList (digest l)))) ∧ Below w.heap.size w w' := by
  have HB := Lib.hid hB
  have HL := Lib.hid hL
  have HP := Lib.hid (size8 seed8)
  have HA := Lib.hid (all8 .u32 seed8)
  clear hB hL
  go_enter Tryz.func48, Tryz.ntmps48
  go_wp2_with fail
  refine (firstState_any _).mono ?_
  rintro e w1 ⟨rfl, hb1⟩
  have HD := Lib.hid (dig_start (Z := #[.int .u32 0, .int .u32 0, .int .u32 0, .int .u32 0, .int .u32 0, .int .u32 0, .int .u32 0, .int .u32 0]) rfl rfl (hb1.mono (by simp)))
  clear hb1
  go_wp2_with (refine wpList_store_row rfl 86 (.tmp 3) (.tmp 8) rfl w1.heap.size _ rfl rfl 86 _ HD.out.1 HP.out rfl HA.out ?_)
  obtain ⟨-, HD⟩ := HD.out
  have HD := Lib.hid HD
  generalize (w1.alloc (.cells #[.int .u32 0, .int .u32 0, .int .u32 0, .int .u32 0, .int .u32 0, .int .u32 0, .int .u32 0, .int .u32 0] 86)).setRow w1.heap.size (cells8 .u32 seed8) = w2 at *
  generalize w1.heap.size = S at *
  go_loopw [4] (fun v wr => ∃ (m : Nat) (A' : Option Addr) (c' : Nat), 64 * m ≤ n ∧ n - 64 * m ≤ c' ∧ v = .slice A' (n - 64 * m) c' ∧ Bytes w A' (n - 64 * m) (l.drop (64 * m)) ∧ Dig w S (chunk seed8 l m) wr) (fun v _ => lenOf v)
  case atStart => exact ⟨0, A, c, by omega, by omega, rfl, by simpa using HB.out, HD.out⟩
  case round =>
    clear HD
    obtain ⟨m, A', c', hm, hc', rfl, hBm, hdig⟩ := hrel
    by_cases hge : 64 ≤ n - 64 * m
    · obtain ⟨b, o, rfl, hcs⟩ := hBm.2.2 (by omega)
      obtain ⟨k, hk⟩ : ∃ k, k = n - 64 * m := ⟨_, rfl⟩
      rw [← hk] at hBm hge hc' ⊢
      have hk1 : k ≤ 40000 := by omega
      obtain ⟨s, hs⟩ : ∃ s, s = chunk seed8 l m := ⟨_, rfl⟩
      have HOK : Hid s.Ok := by rw [hs]; exact chunk_ok seed_ok l m
      rw [← hs] at hdig
      have HK := Lib.hid hk
      have HS := Lib.hid hs
      have HBM := Lib.hid hBm
      have HDg := Lib.hid hdig
      obtain ⟨ws, hws, hwl, hwt, hsc⟩ : ∃ ws : List Nat, ws = words (fun i => (l.drop (64 * m)).getD i 0) 64 ∧ ws.length = 64 ∧ (∀ x ∈ ws, x < 4294967296) ∧ ∀ v : World, Dig w S s v → Calls Tryz.prog 59 #[.slice (some ⟨b, o, none⟩) k c'] v fun e w' => e = .returned (.agg (cellsOf .u32 ws)) ∧ Dig w S s w' :=
        ⟨_, rfl, words_len _ _, words_lt (fun i => getD_lt256 HBM.out.2.1 i) 64, fun v hv => sched_in HBM.out hv hge (by unfold maxLen; omega)⟩
      have HSc := Lib.hid hsc
      have HTu := Lib.hid (fun (v : World) (hv : Dig w S s v) => turned_in HOK.out hwl hwt HL.out hv)
      have HWs := Lib.hid hws
      clear hws hwl hwt hsc
      obtain ⟨c0, c1, c2, c3, c4, c5, c6, c7⟩ := dig_cells hdig
      clear hk hs hBm hcs hdig
      have hge' : (64 : Int) ≤ (k : Int) := by omega
      go_wp2
      go_region_with (first
        | (go_at_call 59; refine (HSc.out _ ?_).mono ?_; exact HDg.out.draws 1; rintro e w3 ⟨rfl, hd3⟩; obtain ⟨d0, d1, d2, d3, d4, d5, d6, d7⟩ := dig_cells hd3; have HD3 := Lib.hid hd3; clear hd3)
        | (go_at_call 58; refine (HTu.out _ ?_).mono ?_; exact HD3.out; rintro e w4 ⟨t, ht, rfl, hd4⟩; obtain ⟨g0, g1, g2, g3, g4, g5, g6, g7⟩ := dig_cells hd4; obtain ⟨z0, z1, z2, z3, z4, z5, z6, z7⟩ := dig_free hd4; have HD4 := Lib.hid hd4; have HT4 := Lib.hid ht; clear hd4 ht))
      all_goals
        clear c0 c1 c2 c3 c4 c5 c6 c7 d0 d1 d2 d3 d4 d5 d6 d7
        go_wp2
        refine ⟨⟨m + 1, if c' = 64 then some ⟨b, o, none⟩ else some ⟨b, o + 64, none⟩, c' - 64, by have := HK.out; omega, by have := HK.out; omega, ?_, ?_, ?_⟩, ?_⟩
        · rw [show n - 64 * (m + 1) = k - 64 by have := HK.out; omega]
        · have := HBM.out.cut (c := c') hc' hge
          rw [show n - 64 * (m + 1) = k - 64 by have := HK.out; omega, show 64 * (m + 1) = 64 * m + 64 by omega, ← List.drop_drop]
          exact this
        · have := HD4.out.put8 (t := t)
          rw [show chunk seed8 l (m + 1) = t by rw [HT4.out, HWs.out, HS.out]; rfl]
          exact this
        · simp [lenOf]
          omega
    · obtain ⟨k, hk⟩ : ∃ k, k = n - 64 * m := ⟨_, rfl⟩
      obtain ⟨r, hr⟩ : ∃ r, r = l.drop (64 * m) := ⟨_, rfl⟩
      obtain ⟨s, hs⟩ : ∃ s, s = chunk seed8 l m := ⟨_, rfl⟩
      obtain ⟨en, hen⟩ : ∃ en, en = padEnd k := ⟨_, rfl⟩
      obtain ⟨P, hP⟩ : ∃ P, P = padList r (n * 8) en := ⟨_, rfl⟩
      have hend : en = 64 ∨ en = 128 := by rw [hen]; unfold padEnd; split <;> simp
      have HPl := Lib.hid (show P.length = 128 by rw [hP]; simp [padList])
      have HPb := Lib.hid (show ∀ x ∈ P, x < 256 by rw [hP, hr]; exact pad_lt (fun x hx => HB.out.2.1 x (List.mem_of_mem_drop hx)) _ _)
      rw [← hk, ← hr] at hBm
      rw [← hk] at hge hc' ⊢
      rw [← hs] at hdig
      have hk64 : k < 64 := by omega
      have hLB := lastBlocks_i wr A' k c' (n * 8) ((n : Int) * 8) (by simp) r (hBm.below hBm.lt hdig.2.2.2) hk64 (by omega)
      rw [← hen, ← hP] at hLB
      have HFin : Hid (digest l = chunk s P (en / 64)) := by
        have hln : l.length = n := HB.out.1
        have hmm : m = n / 64 := by omega
        have hkk : k = n % 64 := by omega
        unfold digest
        rw [hP, hen, hkk, hs, hr, hln, ← hmm]
        exact rfl
      have HOK : Hid s.Ok := by rw [hs]; exact chunk_ok seed_ok l m
      have HLB := Lib.hid hLB
      have HDg := Lib.hid hdig
      have HP2 := Lib.hid (size128 (cellsOf .u8 P) (by simp [cellsOf, HPl.out]))
      have HA2 := Lib.hid (all_cells .u8 P)
      have HZ2 := Lib.hid (show room.toArray.size = (cellsOf .u8 P).size by simp [cellsOf, HPl.out, room])
      have hz := zero37
      clear hLB hdig hBm hs hr hP hen hk HD
      have hge' : ¬ (64 : Int) ≤ (k : Int) := by omega
      go_wp2_with fail
      refine HLB.out.mono ?_
      rintro e w5 ⟨rfl, hb5⟩
      have HD5 := Lib.hid (dig_pad (HDg.out.below hb5) HPl.out)
      clear hb5
      go_wp2_with (refine wpList_store_row rfl 91 (.tmp 5) (.tmp 26) rfl w5.heap.size _ rfl rfl 91 _ HD5.out.1 HP2.out HZ2.out HA2.out ?_)
      obtain ⟨-, HD6⟩ := HD5.out
      have HD6 := Lib.hid HD6
      generalize (w5.alloc (.cells room.toArray 91)).setRow w5.heap.size (cellsOf .u8 P) = w6 at *
      generalize w5.heap.size = T at *
      go_loopw [7] (fun v wr => ∃ j : Nat, 64 * j ≤ en ∧ (j = 0 ∧ v = .int .i64 0 ∨ j = 1 ∧ v = .int .i64 64 ∨ j = 2 ∧ v = .int .i64 128) ∧ Dig2 w S (chunk s P j) T P wr) (fun v _ => 128 - (intOf v).toNat)
      case atStart => exact ⟨0, by omega, .inl ⟨rfl, rfl⟩, HD6.out⟩
      case round =>
        clear HD6
        obtain ⟨j, hj, hv, hdig⟩ := hrel
        by_cases hjl : 64 * j < en
        · rcases hv with ⟨rfl, rfl⟩ | ⟨rfl, rfl⟩ | ⟨rfl, rfl⟩
          · have hlt : ((0 : Int)) < (en : Int) := by omega
            have HOKj : Hid (chunk s P 0).Ok := chunk_ok HOK.out P 0
            obtain ⟨sj, hsj⟩ : ∃ sj, sj = chunk s P 0 := ⟨_, rfl⟩
            rw [← hsj] at hdig HOKj
            obtain ⟨ws, hws, hwl, hwt, hsc⟩ : ∃ ws : List Nat, ws = words (fun i => (P.drop (64 * 0)).getD i 0) 64 ∧ ws.length = 64 ∧ (∀ x ∈ ws, x < 4294967296) ∧ ∀ v : World, Dig2 w S sj T P v → Calls Tryz.prog 59 #[.slice (some ⟨T, 0, none⟩) 128 128] v fun e w' => e = .returned (.agg (cellsOf .u32 ws)) ∧ Dig2 w S sj T P w' :=
              ⟨_, rfl, words_len _ _, words_lt (fun i => getD_lt256 (fun x hx => HPb.out x (List.mem_of_mem_drop hx)) i) 64, fun v hv => sched_in2 (o := 0) (k := 128) hv HPl.out HPb.out rfl (by omega)⟩
            have HSc := Lib.hid hsc
            have HTu := Lib.hid (fun (v : World) (hv : Dig2 w S sj T P v) => turned_in2 HOKj.out hwl hwt HL.out hv)
            have HWs := Lib.hid hws
            have HSj := Lib.hid hsj
            have HDg := Lib.hid hdig
            obtain ⟨c0, c1, c2, c3, c4, c5, c6, c7⟩ := dig_cells hdig.1
            clear hws hwl hwt hsc hsj hdig
            go_wp2
            go_region_with (first
              | (go_at_call 59; refine (HSc.out _ ?_).mono ?_; exact HDg.out.draws 1; rintro e w3 ⟨rfl, hd3⟩; obtain ⟨d0, d1, d2, d3, d4, d5, d6, d7⟩ := dig_cells hd3.1; have HD3 := Lib.hid hd3; clear hd3)
              | (go_at_call 58; refine (HTu.out _ ?_).mono ?_; exact HD3.out; rintro e w4 ⟨t, ht, rfl, hd4⟩; obtain ⟨g0, g1, g2, g3, g4, g5, g6, g7⟩ := dig_cells hd4.1; obtain ⟨z0, z1, z2, z3, z4, z5, z6, z7⟩ := dig_free hd4.1; have HD4 := Lib.hid hd4; have HT4 := Lib.hid ht; clear hd4 ht))
            all_goals
              clear c0 c1 c2 c3 c4 c5 c6 c7 d0 d1 d2 d3 d4 d5 d6 d7
              go_wp2
              go_roundw
              case rel =>
                refine ⟨1, by omega, ?_, ?_⟩
                · simp
                · rw [show chunk s P 1 = t by rw [HT4.out, HWs.out, HSj.out]; rfl]
                  exact HD4.out.put8
              case measure => simp [intOf]
          · have hlt : ((64 : Int)) < (en : Int) := by omega
            have HOKj : Hid (chunk s P 1).Ok := chunk_ok HOK.out P 1
            obtain ⟨sj, hsj⟩ : ∃ sj, sj = chunk s P 1 := ⟨_, rfl⟩
            rw [← hsj] at hdig HOKj
            obtain ⟨ws, hws, hwl, hwt, hsc⟩ : ∃ ws : List Nat, ws = words (fun i => (P.drop (64 * 1)).getD i 0) 64 ∧ ws.length = 64 ∧ (∀ x ∈ ws, x < 4294967296) ∧ ∀ v : World, Dig2 w S sj T P v → Calls Tryz.prog 59 #[.slice (some ⟨T, 64, none⟩) 64 64] v fun e w' => e = .returned (.agg (cellsOf .u32 ws)) ∧ Dig2 w S sj T P w' :=
              ⟨_, rfl, words_len _ _, words_lt (fun i => getD_lt256 (fun x hx => HPb.out x (List.mem_of_mem_drop hx)) i) 64, fun v hv => sched_in2 (o := 64) (k := 64) hv HPl.out HPb.out rfl (by omega)⟩
            have HSc := Lib.hid hsc
            have HTu := Lib.hid (fun (v : World) (hv : Dig2 w S sj T P v) => turned_in2 HOKj.out hwl hwt HL.out hv)
            have HWs := Lib.hid hws
            have HSj := Lib.hid hsj
            have HDg := Lib.hid hdig
            obtain ⟨c0, c1, c2, c3, c4, c5, c6, c7⟩ := dig_cells hdig.1
            clear hws hwl hwt hsc hsj hdig
            go_wp2
            go_region_with (first
              | (go_at_call 59; refine (HSc.out _ ?_).mono ?_; exact HDg.out.draws 1; rintro e w3 ⟨rfl, hd3⟩; obtain ⟨d0, d1, d2, d3, d4, d5, d6, d7⟩ := dig_cells hd3.1; have HD3 := Lib.hid hd3; clear hd3)
              | (go_at_call 58; refine (HTu.out _ ?_).mono ?_; exact HD3.out; rintro e w4 ⟨t, ht, rfl, hd4⟩; obtain ⟨g0, g1, g2, g3, g4, g5, g6, g7⟩ := dig_cells hd4.1; obtain ⟨z0, z1, z2, z3, z4, z5, z6, z7⟩ := dig_free hd4.1; have HD4 := Lib.hid hd4; have HT4 := Lib.hid ht; clear hd4 ht))
            all_goals
              clear c0 c1 c2 c3 c4 c5 c6 c7 d0 d1 d2 d3 d4 d5 d6 d7
              go_wp2
              go_roundw
              case rel =>
                refine ⟨2, by omega, ?_, ?_⟩
                · simp
                · rw [show chunk s P 2 = t by rw [HT4.out, HWs.out, HSj.out]; rfl]
                  exact HD4.out.put8
              case measure => simp [intOf]
          · omega
        · rcases hv with ⟨rfl, rfl⟩ | ⟨rfl, rfl⟩ | ⟨rfl, rfl⟩
          · omega
          · have hnl : ¬ ((64 : Int)) < (en : Int) := by omega
            obtain ⟨sj, hsj⟩ : ∃ sj, sj = chunk s P 1 := ⟨_, rfl⟩
            have HOKj : Hid sj.Ok := by rw [hsj]; exact chunk_ok HOK.out P 1
            have HFj : Hid (digest l = sj) := by rw [hsj, HFin.out, show en / 64 = 1 by omega]; exact rfl
            rw [← hsj] at hdig
            have HDg := Lib.hid hdig.1
            have HP3 := Lib.hid (size8 sj)
            have HP4 := Lib.hid (size32 (cellsOf .u8 (outList sj)) (by simp [cellsOf, outList]))
            have HA4 := Lib.hid (all_cells .u8 (outList sj))
            have HZ4 := Lib.hid (show (Array.replicate 32 (Value.int .u8 0)).size = (cellsOf .u8 (outList sj)).size by simp [cellsOf, outList])
            clear hdig hsj
            go_wp2_with (first
              | (refine wpList_load_row rfl 86 (.tmp 3) rfl S rfl 86 _ (0, 0) _ HDg.out.1 Tryz.underlying86 rfl HP3.out ?_)
              | (go_at_call 61; refine (told_any _ sj HOKj.out).mono ?_; rintro e w7 ⟨rfl, hb7⟩; have HD7 := Lib.hid (HDg.out.below hb7); clear hb7)
              | (refine wpList_store_row rfl 60 (.tmp 2) (.tmp 39) rfl w.heap.size _ rfl rfl 60 _ HD7.out.2.1 HP4.out HZ4.out HA4.out ?_))
            refine bodyPost_ret (v := .agg (cellsOf .u8 (outList sj))) ?_ rfl ⟨by rw [HFj.out], ?_⟩
            · refine results_cell_row Tryz.results48 _ _ w.heap.size 60 _ (0, 0) _ rfl ?_ Tryz.underlying60 rfl HP4.out
              exact row_new HD7.out.2.1
            · exact below_setRow HD7.out.2.2.2 (Nat.le_refl _) _
          · have hnl : ¬ ((128 : Int)) < (en : Int) := by omega
            obtain ⟨sj, hsj⟩ : ∃ sj, sj = chunk s P 2 := ⟨_, rfl⟩
            have HOKj : Hid sj.Ok := by rw [hsj]; exact chunk_ok HOK.out P 2
            have HFj : Hid (digest l = sj) := by rw [hsj, HFin.out, show en / 64 = 2 by omega]; exact rfl
            rw [← hsj] at hdig
            have HDg := Lib.hid hdig.1
            have HP3 := Lib.hid (size8 sj)
            have HP4 := Lib.hid (size32 (cellsOf .u8 (outList sj)) (by simp [cellsOf, outList]))
            have HA4 := Lib.hid (all_cells .u8 (outList sj))
            have HZ4 := Lib.hid (show (Array.replicate 32 (Value.int .u8 0)).size = (cellsOf .u8 (outList sj)).size by simp [cellsOf, outList])
            clear hdig hsj
            go_wp2_with (first
              | (refine wpList_load_row rfl 86 (.tmp 3) rfl S rfl 86 _ (0, 0) _ HDg.out.1 Tryz.underlying86 rfl HP3.out ?_)
              | (go_at_call 61; refine (told_any _ sj HOKj.out).mono ?_; rintro e w7 ⟨rfl, hb7⟩; have HD7 := Lib.hid (HDg.out.below hb7); clear hb7)
              | (refine wpList_store_row rfl 60 (.tmp 2) (.tmp 39) rfl w.heap.size _ rfl rfl 60 _ HD7.out.2.1 HP4.out HZ4.out HA4.out ?_))
            refine bodyPost_ret (v := .agg (cellsOf .u8 (outList sj))) ?_ rfl ⟨by rw [HFj.out], ?_⟩
            · refine results_cell_row Tryz.results48 _ _ w.heap.size 60 _ (0, 0) _ rfl ?_ Tryz.underlying60 rfl HP4.out
              exact row_new HD7.out.2.1
            · exact below_setRow HD7.out.2.2.2 (Nat.le_refl _) _
end Go.Proofs.YtdbdeplabipfaaaGreatDoor.sumDoor
