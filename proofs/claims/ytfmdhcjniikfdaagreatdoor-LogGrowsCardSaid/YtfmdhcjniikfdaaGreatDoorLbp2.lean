/- The digest. -/
import Derived.Test.YtfmdhcjniikfdaaGreatDoorLbp1
import Derived.Deep.RegionWith
import Derived.Laws.BitsAllLaws
/- The digest. -/
namespace Go.Proofs.YtfmdhcjniikfdaaGreatDoor.sumDoor
open Go.ChangeShapes Go.WideShapes Go.ChangeAt Go.RowKit Go.Proofs.YtfmdhcjniikfdaaGreatDoor.sumPlain
set_option linter.unusedVariables false
set_option maxRecDepth 100000

/-- The state behind m blocks. -/
def chunk (s : Eight) (l : List Nat) : Nat → Eight
  | 0 => s
  | m + 1 => block (chunk s l m) (fun i => (l.drop (64 * m)).getD i 0)
def digest (l : List Nat) : Eight := chunk (chunk seed8 l (l.length / 64)) (padList (l.drop (64 * (l.length / 64))) (l.length * 8) (padEnd (l.length % 64))) (padEnd (l.length % 64) / 64)
theorem seed_ok : seed8.Ok := by unfold Eight.Ok seed8; decide
theorem chunk_ok {s : Eight} (h : s.Ok) (l : List Nat) : ∀ m, (chunk s l m).Ok
  | 0 => h
  | m + 1 => add_ok _ _

/-- What lies in memory while a digest is made. -/
def Dig (w : World) (S : Nat) (s : Eight) (wr : World) : Prop :=
  wr.heap[S]? = some (.cells (cells8 .u32 s) 115 (0, 0)) ∧ wr.heap[w.heap.size]? = some (.cells (Array.replicate 32 (.int .u8 0)) 80 (0, 0)) ∧ w.heap.size < S ∧ Below w.heap.size w wr
theorem lt_of_heap {w : World} {g : Nat} {o : Obj} (h : w.heap[g]? = some o) : g < w.heap.size := (Array.getElem?_eq_some_iff.1 h).1
theorem Dig.below {w wr w' : World} {S : Nat} {s : Eight} (h : Dig w S s wr) (hb : Below wr.heap.size wr w') : Dig w S s w' :=
  ⟨(hb.block _ (lt_of_heap h.1)).trans h.1, (hb.block _ (lt_of_heap h.2.1)).trans h.2.1, h.2.2.1, h.2.2.2.trans (hb.mono h.2.2.2.size)⟩
theorem Dig.draws {w wr : World} {S : Nat} {s : Eight} (h : Dig w S s wr) (n : Nat) : Dig w S s (wr.drewN n) := ⟨h.1, h.2.1, h.2.2.1, below_draws h.2.2.2 n⟩
theorem Dig.put {w wr : World} {S : Nat} {s t : Eight} (h : Dig w S s wr) : Dig w S t (wr.setRow S (cells8 .u32 t)) := by
  refine ⟨row_new h.1, ?_, h.2.2.1, below_setRow h.2.2.2 (Nat.le_of_lt h.2.2.1) _⟩
  have := h.2.2.1
  simp only [World.setRow, Array.getElem?_modify]
  rw [if_neg (by omega)]
  exact h.2.1
theorem dig_start {w w1 : World} {Z Z' : Array Value} (hZ : Z' = Array.replicate 32 (.int .u8 0)) (hz : Z.size = 8) (hb : Below (w.heap.size + 1) (w.alloc (.cells Z' 80)) w1) :
    (w1.alloc (.cells Z 115)).heap[w1.heap.size]? = some (.cells Z 115 (0, 0)) ∧ Dig w w1.heap.size seed8 ((w1.alloc (.cells Z 115)).setRow w1.heap.size (cells8 .u32 seed8)) := by
  subst hZ
  have hlt : w.heap.size < w1.heap.size := by have := hb.size; simp at this; omega
  have h0 := heap_alloc_new w1 (.cells Z 115)
  refine ⟨h0, row_new h0, ?_, hlt, ?_⟩
  · simp only [World.setRow, Array.getElem?_modify]
    rw [if_neg (by omega), Below.heap_alloc _ _ _ hlt, hb.block _ (by omega)]
    exact heap_alloc_new _ _
  · exact below_setRow ((((Below.refl _ _).alloc (Nat.le_refl _) _).trans (hb.mono (by omega))).alloc (by omega) _) (by omega) _

theorem Dig.set_ {w wr : World} {S i : Nat} {cs : Array Value} {v : Value} (h : wr.heap[S]? = some (.cells cs 115 (0, 0)) ∧ wr.heap[w.heap.size]? = some (.cells (Array.replicate 32 (.int .u8 0)) 80 (0, 0)) ∧ w.heap.size < S ∧ Below w.heap.size w wr) :
    (wr.setCell ⟨S, i, none⟩ v).heap[S]? = some (.cells (cs.setIfInBounds i v) 115 (0, 0)) ∧ (wr.setCell ⟨S, i, none⟩ v).heap[w.heap.size]? = some (.cells (Array.replicate 32 (.int .u8 0)) 80 (0, 0)) ∧ w.heap.size < S ∧ Below w.heap.size w (wr.setCell ⟨S, i, none⟩ v) := by
  have hlt := h.2.2.1
  refine ⟨?_, (Below.heap_setCell _ _ _ _ (by simp; omega)).trans h.2.1, hlt, h.2.2.2.setCell (Nat.le_of_lt hlt) _⟩
  simp [World.setCell, Array.getElem?_modify, h.1]
theorem Dig.put8 {w wr : World} {S : Nat} {s t : Eight} (h : Dig w S s wr) : Dig w S t ((((((((wr.setCell ⟨S, 0, none⟩ (.int .u32 t.a)).setCell ⟨S, 1, none⟩ (.int .u32 t.b)).setCell ⟨S, 2, none⟩ (.int .u32 t.c)).setCell ⟨S, 3, none⟩ (.int .u32 t.d)).setCell ⟨S, 4, none⟩ (.int .u32 t.e)).setCell ⟨S, 5, none⟩ (.int .u32 t.f)).setCell ⟨S, 6, none⟩ (.int .u32 t.g)).setCell ⟨S, 7, none⟩ (.int .u32 t.h)) :=
by
  have h1 := Dig.set_ (i := 0) (v := .int .u32 t.a) h
  have h2 := Dig.set_ (i := 1) (v := .int .u32 t.b) h1
  have h3 := Dig.set_ (i := 2) (v := .int .u32 t.c) h2
  have h4 := Dig.set_ (i := 3) (v := .int .u32 t.d) h3
  have h5 := Dig.set_ (i := 4) (v := .int .u32 t.e) h4
  have h6 := Dig.set_ (i := 5) (v := .int .u32 t.f) h5
  have h7 := Dig.set_ (i := 6) (v := .int .u32 t.g) h6
  have h8 := Dig.set_ (i := 7) (v := .int .u32 t.h) h7
  have e : ((((((((cells8 .u32 s).setIfInBounds 0 (.int .u32 t.a)).setIfInBounds 1 (.int .u32 t.b)).setIfInBounds 2 (.int .u32 t.c)).setIfInBounds 3 (.int .u32 t.d)).setIfInBounds 4 (.int .u32 t.e)).setIfInBounds 5 (.int .u32 t.f)).setIfInBounds 6 (.int .u32 t.g)).setIfInBounds 7 (.int .u32 t.h) = cells8 .u32 t := by
    simp [cells8]
  rw [e] at h8
  exact h8
theorem Bytes.cut {w : World} {b o k c : Nat} {l : List Nat} (h : Bytes w (some ⟨b, o, none⟩) k l) (hc : k ≤ c) (hk : 64 ≤ k) :
    Bytes w (if c = 64 then some ⟨b, o, none⟩ else some ⟨b, o + 64, none⟩) (k - 64) (l.drop 64) := by
  refine ⟨by rw [List.length_drop, h.1], fun x hx => h.2.1 x (List.mem_of_mem_drop hx), fun hn => ?_⟩
  obtain ⟨b', o', e, hcell⟩ := h.2.2 (by omega)
  cases e
  rw [if_neg (by omega)]
  refine ⟨b, o + 64, rfl, fun i hi => ?_⟩
  rw [Nat.add_assoc, hcell (64 + i) (by omega)]
  simp [List.getD]
def lenOf : Value → Nat | .slice _ n _ => n | _ => 0
theorem dig_cells {w wr : World} {S : Nat} {s : Eight} (h : Dig w S s wr) : wr.cell? ⟨S, 0, none⟩ = some (.int .u32 s.a) ∧ wr.cell? ⟨S, 1, none⟩ = some (.int .u32 s.b) ∧ wr.cell? ⟨S, 2, none⟩ = some (.int .u32 s.c) ∧ wr.cell? ⟨S, 3, none⟩ = some (.int .u32 s.d) ∧
    wr.cell? ⟨S, 4, none⟩ = some (.int .u32 s.e) ∧ wr.cell? ⟨S, 5, none⟩ = some (.int .u32 s.f) ∧ wr.cell? ⟨S, 6, none⟩ = some (.int .u32 s.g) ∧ wr.cell? ⟨S, 7, none⟩ = some (.int .u32 s.h) :=
  ⟨cell_of_row _ _ _ _ _ _ h.1, cell_of_row _ _ _ _ _ _ h.1, cell_of_row _ _ _ _ _ _ h.1, cell_of_row _ _ _ _ _ _ h.1, cell_of_row _ _ _ _ _ _ h.1, cell_of_row _ _ _ _ _ _ h.1, cell_of_row _ _ _ _ _ _ h.1, cell_of_row _ _ _ _ _ _ h.1⟩
theorem dig_free {w wr : World} {S : Nat} {s : Eight} (h : Dig w S s wr) : wr.frozen? ⟨S, 0, none⟩ = false ∧ wr.frozen? ⟨S, 1, none⟩ = false ∧ wr.frozen? ⟨S, 2, none⟩ = false ∧ wr.frozen? ⟨S, 3, none⟩ = false ∧
    wr.frozen? ⟨S, 4, none⟩ = false ∧ wr.frozen? ⟨S, 5, none⟩ = false ∧ wr.frozen? ⟨S, 6, none⟩ = false ∧ wr.frozen? ⟨S, 7, none⟩ = false :=
  ⟨frozen_of_row _ _ _ _ _ h.1, frozen_of_row _ _ _ _ _ h.1, frozen_of_row _ _ _ _ _ h.1, frozen_of_row _ _ _ _ _ h.1, frozen_of_row _ _ _ _ _ h.1, frozen_of_row _ _ _ _ _ h.1, frozen_of_row _ _ _ _ _ h.1, frozen_of_row _ _ _ _ _ h.1⟩
theorem sched_in {w v : World} {S : Nat} {s : Eight} {b o k c : Nat} {l : List Nat} (hB : Bytes w (some ⟨b, o, none⟩) k l) (hv : Dig w S s v) (hk : 64 ≤ k) (hm : k ≤ maxLen) :
    Calls Tryz.prog 59 #[.slice (some ⟨b, o, none⟩) k c] v fun e w' => e = .returned (.agg (cellsOf .u32 (words (fun i => l.getD i 0) 64))) ∧ Dig w S s w' :=
  (scheduled_any v b o k c l (hB.below hB.lt hv.2.2.2) hk hm).mono fun _ _ ⟨he, hb⟩ => ⟨he, hv.below hb⟩
/-- Behind a block. -/
def Turned (s : Eight) (ws : List Nat) (w : World) (S : Nat) (e : Ending) (w' : World) : Prop :=
  ∃ t, t = s.add (rounds ws s 64) ∧ e = .returned (.agg #[.int .u32 t.a, .int .u32 t.b, .int .u32 t.c, .int .u32 t.d, .int .u32 t.e, .int .u32 t.f, .int .u32 t.g, .int .u32 t.h]) ∧ Dig w S s w'
theorem turned_in {w v : World} {S : Nat} {s : Eight} {ws : List Nat} (hs : s.Ok) (hw : ws.length = 64) (hlt : ∀ x ∈ ws, x < 4294967296) (hL : Laid w) (hv : Dig w S s v) :
    Calls Tryz.prog 58 #[.agg #[.int .u32 s.a, .int .u32 s.b, .int .u32 s.c, .int .u32 s.d, .int .u32 s.e, .int .u32 s.f, .int .u32 s.g, .int .u32 s.h], .agg (cellsOf .u32 ws)] v fun e w' => Turned s ws w S e w' :=
  (turnedBlock_any v s ws hs hw hlt (hL.below hL.lt hv.2.2.2)).mono fun _ _ ⟨he, hb⟩ => ⟨_, rfl, he, hv.below hb⟩

theorem lastBlocks_i (w : World) (A : Option Addr) (n c bs : Nat) (v : Int) (hv : v = bs) (l : List Nat) (hB : Bytes w A n l) (hn : n < 64) (hbs : bs < 18446744073709551616) :
    Calls Tryz.prog 60 #[.slice A n c, .int .u64 v] w fun r w' => r = .returned (.tuple #[.agg (cellsOf .u8 (padList l bs (padEnd n))), .int .i64 (padEnd n : Nat)]) ∧ Below w.heap.size w w' := by
  subst hv
  exact lastBlocks_any w A n c bs l hB hn hbs
/-- With the padded rest. -/
def Dig2 (w : World) (S : Nat) (s : Eight) (T : Nat) (P : List Nat) (wr : World) : Prop := Dig w S s wr ∧ wr.heap[T]? = some (.cells (cellsOf .u8 P) 120 (0, 0)) ∧ S < T
theorem dig_pad {w w5 : World} {S : Nat} {s : Eight} {P : List Nat} (h : Dig w S s w5) (hP : P.length = 128) :
    (w5.alloc (.cells room.toArray 120)).heap[w5.heap.size]? = some (.cells room.toArray 120 (0, 0)) ∧ Dig2 w S s w5.heap.size P ((w5.alloc (.cells room.toArray 120)).setRow w5.heap.size (cellsOf .u8 P)) := by
  have h0 := heap_alloc_new w5 (.cells room.toArray 120)
  have hS := lt_of_heap h.1
  have hlt := h.2.2.1
  refine ⟨h0, ⟨?_, ?_, hlt, ?_⟩, row_new h0, hS⟩
  · simp only [World.setRow, Array.getElem?_modify]
    rw [if_neg (by omega), Below.heap_alloc _ _ _ hS]
    exact h.1
  · simp only [World.setRow, Array.getElem?_modify]
    rw [if_neg (by omega), Below.heap_alloc _ _ _ (by omega)]
    exact h.2.1
  · exact below_setRow (h.2.2.2.alloc (by omega) _) (by omega) _

theorem Dig2.below {w wr w' : World} {S T : Nat} {s : Eight} {P : List Nat} (h : Dig2 w S s T P wr) (hb : Below wr.heap.size wr w') : Dig2 w S s T P w' :=
  ⟨h.1.below hb, (hb.block _ (lt_of_heap h.2.1)).trans h.2.1, h.2.2⟩
theorem Dig2.draws {w wr : World} {S T : Nat} {s : Eight} {P : List Nat} (h : Dig2 w S s T P wr) (n : Nat) : Dig2 w S s T P (wr.drewN n) := ⟨h.1.draws n, h.2⟩
theorem Dig2.put8 {w wr : World} {S T : Nat} {s t : Eight} {P : List Nat} (h : Dig2 w S s T P wr) : Dig2 w S t T P ((((((((wr.setCell ⟨S, 0, none⟩ (.int .u32 t.a)).setCell ⟨S, 1, none⟩ (.int .u32 t.b)).setCell ⟨S, 2, none⟩ (.int .u32 t.c)).setCell ⟨S, 3, none⟩ (.int .u32 t.d)).setCell ⟨S, 4, none⟩ (.int .u32 t.e)).setCell ⟨S, 5, none⟩ (.int .u32 t.f)).setCell ⟨S, 6, none⟩ (.int .u32 t.g)).setCell ⟨S, 7, none⟩ (.int .u32 t.h)) := by
  have hn : ∀ i, T ≠ (Addr.mk S i none).block := fun i => by have := h.2.2; simp; omega
  refine ⟨h.1.put8, ?_, h.2.2⟩
  rw [Below.heap_setCell _ _ _ _ (hn 7), Below.heap_setCell _ _ _ _ (hn 6), Below.heap_setCell _ _ _ _ (hn 5), Below.heap_setCell _ _ _ _ (hn 4), Below.heap_setCell _ _ _ _ (hn 3), Below.heap_setCell _ _ _ _ (hn 2), Below.heap_setCell _ _ _ _ (hn 1), Below.heap_setCell _ _ _ _ (hn 0)]
  exact h.2.1
theorem Dig2.bytes {w v : World} {S T o k : Nat} {s : Eight} {P : List Nat} (h : Dig2 w S s T P v) (hl : P.length = 128) (hb : ∀ x ∈ P, x < 256) (hk : o + k = 128) : Bytes v (some ⟨T, o, none⟩) k (P.drop o) := by
  refine ⟨by rw [List.length_drop]; omega, fun x hx => hb x (List.mem_of_mem_drop hx), fun _ => ⟨T, o, rfl, fun i hi => ?_⟩⟩
  rw [cell_of_row _ _ _ _ _ _ h.2.1]
  have : o + i < P.length := by omega
  simp [cellsOf, List.getD, this]
theorem sched_in2 {w v : World} {S T o k j : Nat} {s : Eight} {P : List Nat} (h : Dig2 w S s T P v) (hl : P.length = 128) (hb : ∀ x ∈ P, x < 256) (ho : o = 64 * j) (hk : o + k = 128 ∧ 64 ≤ k) :
    Calls Tryz.prog 59 #[.slice (some ⟨T, o, none⟩) k k] v fun e w' => e = .returned (.agg (cellsOf .u32 (words (fun i => (P.drop (64 * j)).getD i 0) 64))) ∧ Dig2 w S s T P w' := by
  subst ho
  exact (scheduled_any v T (64 * j) k k (P.drop (64 * j)) (h.bytes hl hb hk.1) hk.2 (by unfold maxLen; omega)).mono fun _ _ ⟨he, hb⟩ => ⟨he, h.below hb⟩
def Turned2 (s : Eight) (ws : List Nat) (w : World) (S T : Nat) (P : List Nat) (e : Ending) (w' : World) : Prop :=
  ∃ t, t = s.add (rounds ws s 64) ∧ e = .returned (.agg #[.int .u32 t.a, .int .u32 t.b, .int .u32 t.c, .int .u32 t.d, .int .u32 t.e, .int .u32 t.f, .int .u32 t.g, .int .u32 t.h]) ∧ Dig2 w S s T P w'
theorem turned_in2 {w v : World} {S T : Nat} {s : Eight} {ws P : List Nat} (hs : s.Ok) (hw : ws.length = 64) (hlt : ∀ x ∈ ws, x < 4294967296) (hL : Laid w) (hv : Dig2 w S s T P v) :
    Calls Tryz.prog 58 #[.agg #[.int .u32 s.a, .int .u32 s.b, .int .u32 s.c, .int .u32 s.d, .int .u32 s.e, .int .u32 s.f, .int .u32 s.g, .int .u32 s.h], .agg (cellsOf .u32 ws)] v fun e w' => Turned2 s ws w S T P e w' :=
  (turnedBlock_any v s ws hs hw hlt (hL.below hL.lt hv.1.2.2.2)).mono fun _ _ ⟨he, hb⟩ => ⟨_, rfl, he, hv.below hb⟩
theorem pad_lt {l : List Nat} (h : ∀ x ∈ l, x < 256) (bs e : Nat) : ∀ x ∈ padList l bs e, x < 256 := by
  intro x hx
  obtain ⟨j, _, rfl⟩ := List.mem_map.1 hx
  unfold padTo
  split
  · exact Nat.mod_lt _ (by omega)
  · split
    · exact getD_lt256 h j
    · split <;> omega

set_option maxRecDepth 100000 in
set_option maxHeartbeats 2000000 in
theorem digest_any (w : World) (A : Option Addr) (n c : Nat) (l : List Nat) (hB : Bytes w A n l) (hn : n ≤ 40000) (hc : n ≤ c) (hL : Laid w) :
    Calls Tryz.prog 36 #[.slice A n c] w fun e w' => e = .returned (.agg (cellsOf .u8 (outList (digest l)))) ∧ Below w.heap.size w w' := by
  have HB := Lib.hid hB
  have HL := Lib.hid hL
  have HP := Lib.hid (size8 seed8)
  have HA := Lib.hid (all8 .u32 seed8)
  clear hB hL
  go_enter Tryz.func36, Tryz.ntmps36
  go_wp2_with fail
  refine (firstState_any _).mono ?_
  rintro e w1 ⟨rfl, hb1⟩
  have HD := Lib.hid (dig_start (Z := #[.int .u32 0, .int .u32 0, .int .u32 0, .int .u32 0, .int .u32 0, .int .u32 0, .int .u32 0, .int .u32 0]) rfl rfl (hb1.mono (by simp)))
  clear hb1
  go_wp2_with (refine wpList_store_row rfl 115 (.tmp 3) (.tmp 8) rfl w1.heap.size _ rfl rfl 115 _ HD.out.1 HP.out rfl HA.out ?_)
  obtain ⟨-, HD⟩ := HD.out
  have HD := Lib.hid HD
  generalize (w1.alloc (.cells #[.int .u32 0, .int .u32 0, .int .u32 0, .int .u32 0, .int .u32 0, .int .u32 0, .int .u32 0, .int .u32 0] 115)).setRow w1.heap.size (cells8 .u32 seed8) = w2 at *
  generalize w1.heap.size = S at *
  go_loopw [4] (fun v wr => ∃ (m : Nat) (A' : Option Addr) (c' : Nat), 64 * m ≤ n ∧ n - 64 * m ≤ c' ∧ v = .slice A' (n - 64 * m) c' ∧ Bytes w A' (n - 64 * m) (l.drop (64 * m)) ∧ Dig w S (chunk seed8 l m) wr) (fun v _ => lenOf v)
  case atStart => exact ⟨0, A, c, by omega, by omega, rfl, by simpa using HB.out, HD.out⟩
  case round =>
    clear HD
    obtain ⟨m, A', c', hm, hc', rfl, hBm, hdig⟩ := hrel
    by_cases hge : 64 ≤ n - 64 * m
    · obtain ⟨b, o, rfl, hcs⟩ := hBm.2.2 (by omega)
      obtain ⟨k, hk⟩ : ∃ k, k = n - 64 * m := ⟨_, rfl⟩
      rw [← hk] at hBm hge hc' ⊢
      have hk1 : k ≤ 40000 := by omega
      obtain ⟨s, hs⟩ : ∃ s, s = chunk seed8 l m := ⟨_, rfl⟩
      have HOK : Hid s.Ok := by rw [hs]; exact chunk_ok seed_ok l m
      rw [← hs] at hdig
      have HK := Lib.hid hk
      have HS := Lib.hid hs
      have HBM := Lib.hid hBm
      have HDg := Lib.hid hdig
      obtain ⟨ws, hws, hwl, hwt, hsc⟩ : ∃ ws : List Nat, ws = words (fun i => (l.drop (64 * m)).getD i 0) 64 ∧ ws.length = 64 ∧ (∀ x ∈ ws, x < 4294967296) ∧ ∀ v : World, Dig w S s v → Calls Tryz.prog 59 #[.slice (some ⟨b, o, none⟩) k c'] v fun e w' => e = .returned (.agg (cellsOf .u32 ws)) ∧ Dig w S s w' :=
        ⟨_, rfl, words_len _ _, words_lt (fun i => getD_lt256 HBM.out.2.1 i) 64, fun v hv => sched_in HBM.out hv hge (by unfold maxLen; omega)⟩
      have HSc := Lib.hid hsc
      have HTu := Lib.hid (fun (v : World) (hv : Dig w S s v) => turned_in HOK.out hwl hwt HL.out hv)
      have HWs := Lib.hid hws
      clear hws hwl hwt hsc
      obtain ⟨c0, c1, c2, c3, c4, c5, c6, c7⟩ := dig_cells hdig
      clear hk hs hBm hcs hdig
      have hge' : (64 : Int) ≤ (k : Int) := by omega
      go_wp2
      go_region_with (first
        | (go_at_call 59; refine (HSc.out _ ?_).mono ?_; exact HDg.out.draws 1; rintro e w3 ⟨rfl, hd3⟩; obtain ⟨d0, d1, d2, d3, d4, d5, d6, d7⟩ := dig_cells hd3; have HD3 := Lib.hid hd3; clear hd3)
        | (go_at_call 58; refine (HTu.out _ ?_).mono ?_; exact HD3.out; rintro e w4 ⟨t, ht, rfl, hd4⟩; obtain ⟨g0, g1, g2, g3, g4, g5, g6, g7⟩ := dig_cells hd4; obtain ⟨z0, z1, z2, z3, z4, z5, z6, z7⟩ := dig_free hd4; have HD4 := Lib.hid hd4; have HT4 := Lib.hid ht; clear hd4 ht))
      all_goals
        clear c0 c1 c2 c3 c4 c5 c6 c7 d0 d1 d2 d3 d4 d5 d6 d7
        go_wp2
        refine ⟨⟨m + 1, if c' = 64 then some ⟨b, o, none⟩ else some ⟨b, o + 64, none⟩, c' - 64, by have := HK.out; omega, by have := HK.out; omega, ?_, ?_, ?_⟩, ?_⟩
        · rw [show n - 64 * (m + 1) = k - 64 by have := HK.out; omega]
        · have := HBM.out.cut (c := c') hc' hge
          rw [show n - 64 * (m + 1) = k - 64 by have := HK.out; omega, show 64 * (m + 1) = 64 * m + 64 by omega, ← List.drop_drop]
          exact this
        · have := HD4.out.put8 (t := t)
          rw [show chunk seed8 l (m + 1) = t by rw [HT4.out, HWs.out, HS.out]; rfl]
          exact this
        · simp [lenOf]
          omega
    · obtain ⟨k, hk⟩ : ∃ k, k = n - 64 * m := ⟨_, rfl⟩
      obtain ⟨r, hr⟩ : ∃ r, r = l.drop (64 * m) := ⟨_, rfl⟩
      obtain ⟨s, hs⟩ : ∃ s, s = chunk seed8 l m := ⟨_, rfl⟩
      obtain ⟨en, hen⟩ : ∃ en, en = padEnd k := ⟨_, rfl⟩
      obtain ⟨P, hP⟩ : ∃ P, P = padList r (n * 8) en := ⟨_, rfl⟩
      have hend : en = 64 ∨ en = 128 := by rw [hen]; unfold padEnd; split <;> simp
      have HPl := Lib.hid (show P.length = 128 by rw [hP]; simp [padList])
      have HPb := Lib.hid (show ∀ x ∈ P, x < 256 by rw [hP, hr]; exact pad_lt (fun x hx => HB.out.2.1 x (List.mem_of_mem_drop hx)) _ _)
      rw [← hk, ← hr] at hBm
      rw [← hk] at hge hc' ⊢
      rw [← hs] at hdig
      have hk64 : k < 64 := by omega
      have hLB := lastBlocks_i wr A' k c' (n * 8) ((n : Int) * 8) (by simp) r (hBm.below hBm.lt hdig.2.2.2) hk64 (by omega)
      rw [← hen, ← hP] at hLB
      have HFin : Hid (digest l = chunk s P (en / 64)) := by
        have hln : l.length = n := HB.out.1
        have hmm : m = n / 64 := by omega
        have hkk : k = n % 64 := by omega
        unfold digest
        rw [hP, hen, hkk, hs, hr, hln, ← hmm]
        exact rfl
      have HOK : Hid s.Ok := by rw [hs]; exact chunk_ok seed_ok l m
      have HLB := Lib.hid hLB
      have HDg := Lib.hid hdig
      have HP2 := Lib.hid (size128 (cellsOf .u8 P) (by simp [cellsOf, HPl.out]))
      have HA2 := Lib.hid (all_cells .u8 P)
      have HZ2 := Lib.hid (show room.toArray.size = (cellsOf .u8 P).size by simp [cellsOf, HPl.out, room])
      have hz := zero37
      clear hLB hdig hBm hs hr hP hen hk HD
      have hge' : ¬ (64 : Int) ≤ (k : Int) := by omega
      go_wp2_with fail
      refine HLB.out.mono ?_
      rintro e w5 ⟨rfl, hb5⟩
      have HD5 := Lib.hid (dig_pad (HDg.out.below hb5) HPl.out)
      clear hb5
      go_wp2_with (refine wpList_store_row rfl 120 (.tmp 5) (.tmp 26) rfl w5.heap.size _ rfl rfl 120 _ HD5.out.1 HP2.out HZ2.out HA2.out ?_)
      obtain ⟨-, HD6⟩ := HD5.out
      have HD6 := Lib.hid HD6
      generalize (w5.alloc (.cells room.toArray 120)).setRow w5.heap.size (cellsOf .u8 P) = w6 at *
      generalize w5.heap.size = T at *
      go_loopw [7] (fun v wr => ∃ j : Nat, 64 * j ≤ en ∧ (j = 0 ∧ v = .int .i64 0 ∨ j = 1 ∧ v = .int .i64 64 ∨ j = 2 ∧ v = .int .i64 128) ∧ Dig2 w S (chunk s P j) T P wr) (fun v _ => 128 - (intOf v).toNat)
      case atStart => exact ⟨0, by omega, .inl ⟨rfl, rfl⟩, HD6.out⟩
      case round =>
        clear HD6
        obtain ⟨j, hj, hv, hdig⟩ := hrel
        by_cases hjl : 64 * j < en
        · rcases hv with ⟨rfl, rfl⟩ | ⟨rfl, rfl⟩ | ⟨rfl, rfl⟩
          · have hlt : ((0 : Int)) < (en : Int) := by omega
            have HOKj : Hid (chunk s P 0).Ok := chunk_ok HOK.out P 0
            obtain ⟨sj, hsj⟩ : ∃ sj, sj = chunk s P 0 := ⟨_, rfl⟩
            rw [← hsj] at hdig HOKj
            obtain ⟨ws, hws, hwl, hwt, hsc⟩ : ∃ ws : List Nat, ws = words (fun i => (P.drop (64 * 0)).getD i 0) 64 ∧ ws.length = 64 ∧ (∀ x ∈ ws, x < 4294967296) ∧ ∀ v : World, Dig2 w S sj T P v → Calls Tryz.prog 59 #[.slice (some ⟨T, 0, none⟩) 128 128] v fun e w' => e = .returned (.agg (cellsOf .u32 ws)) ∧ Dig2 w S sj T P w' :=
              ⟨_, rfl, words_len _ _, words_lt (fun i => getD_lt256 (fun x hx => HPb.out x (List.mem_of_mem_drop hx)) i) 64, fun v hv => sched_in2 (o := 0) (k := 128) hv HPl.out HPb.out rfl (by omega)⟩
            have HSc := Lib.hid hsc
            have HTu := Lib.hid (fun (v : World) (hv : Dig2 w S sj T P v) => turned_in2 HOKj.out hwl hwt HL.out hv)
            have HWs := Lib.hid hws
            have HSj := Lib.hid hsj
            have HDg := Lib.hid hdig
            obtain ⟨c0, c1, c2, c3, c4, c5, c6, c7⟩ := dig_cells hdig.1
            clear hws hwl hwt hsc hsj hdig
            go_wp2
            go_region_with (first
              | (go_at_call 59; refine (HSc.out _ ?_).mono ?_; exact HDg.out.draws 1; rintro e w3 ⟨rfl, hd3⟩; obtain ⟨d0, d1, d2, d3, d4, d5, d6, d7⟩ := dig_cells hd3.1; have HD3 := Lib.hid hd3; clear hd3)
              | (go_at_call 58; refine (HTu.out _ ?_).mono ?_; exact HD3.out; rintro e w4 ⟨t, ht, rfl, hd4⟩; obtain ⟨g0, g1, g2, g3, g4, g5, g6, g7⟩ := dig_cells hd4.1; obtain ⟨z0, z1, z2, z3, z4, z5, z6, z7⟩ := dig_free hd4.1; have HD4 := Lib.hid hd4; have HT4 := Lib.hid ht; clear hd4 ht))
            all_goals
              clear c0 c1 c2 c3 c4 c5 c6 c7 d0 d1 d2 d3 d4 d5 d6 d7
              go_wp2
              go_roundw
              case rel =>
                refine ⟨1, by omega, ?_, ?_⟩
                · simp
                · rw [show chunk s P 1 = t by rw [HT4.out, HWs.out, HSj.out]; rfl]
                  exact HD4.out.put8
              case measure => simp [intOf]
          · have hlt : ((64 : Int)) < (en : Int) := by omega
            have HOKj : Hid (chunk s P 1).Ok := chunk_ok HOK.out P 1
            obtain ⟨sj, hsj⟩ : ∃ sj, sj = chunk s P 1 := ⟨_, rfl⟩
            rw [← hsj] at hdig HOKj
            obtain ⟨ws, hws, hwl, hwt, hsc⟩ : ∃ ws : List Nat, ws = words (fun i => (P.drop (64 * 1)).getD i 0) 64 ∧ ws.length = 64 ∧ (∀ x ∈ ws, x < 4294967296) ∧ ∀ v : World, Dig2 w S sj T P v → Calls Tryz.prog 59 #[.slice (some ⟨T, 64, none⟩) 64 64] v fun e w' => e = .returned (.agg (cellsOf .u32 ws)) ∧ Dig2 w S sj T P w' :=
              ⟨_, rfl, words_len _ _, words_lt (fun i => getD_lt256 (fun x hx => HPb.out x (List.mem_of_mem_drop hx)) i) 64, fun v hv => sched_in2 (o := 64) (k := 64) hv HPl.out HPb.out rfl (by omega)⟩
            have HSc := Lib.hid hsc
            have HTu := Lib.hid (fun (v : World) (hv : Dig2 w S sj T P v) => turned_in2 HOKj.out hwl hwt HL.out hv)
            have HWs := Lib.hid hws
            have HSj := Lib.hid hsj
            have HDg := Lib.hid hdig
            obtain ⟨c0, c1, c2, c3, c4, c5, c6, c7⟩ := dig_cells hdig.1
            clear hws hwl hwt hsc hsj hdig
            go_wp2
            go_region_with (first
              | (go_at_call 59; refine (HSc.out _ ?_).mono ?_; exact HDg.out.draws 1; rintro e w3 ⟨rfl, hd3⟩; obtain ⟨d0, d1, d2, d3, d4, d5, d6, d7⟩ := dig_cells hd3.1; have HD3 := Lib.hid hd3; clear hd3)
              | (go_at_call 58; refine (HTu.out _ ?_).mono ?_; exact HD3.out; rintro e w4 ⟨t, ht, rfl, hd4⟩; obtain ⟨g0, g1, g2, g3, g4, g5, g6, g7⟩ := dig_cells hd4.1; obtain ⟨z0, z1, z2, z3, z4, z5, z6, z7⟩ := dig_free hd4.1; have HD4 := Lib.hid hd4; have HT4 := Lib.hid ht; clear hd4 ht))
            all_goals
              clear c0 c1 c2 c3 c4 c5 c6 c7 d0 d1 d2 d3 d4 d5 d6 d7
              go_wp2
              go_roundw
              case rel =>
                refine ⟨2, by omega, ?_, ?_⟩
                · simp
                · rw [show chunk s P 2 = t by rw [HT4.out, HWs.out, HSj.out]; rfl]
                  exact HD4.out.put8
              case measure => simp [intOf]
          · omega
        · rcases hv with ⟨rfl, rfl⟩ | ⟨rfl, rfl⟩ | ⟨rfl, rfl⟩
          · omega
          · have hnl : ¬ ((64 : Int)) < (en : Int) := by omega
            obtain ⟨sj, hsj⟩ : ∃ sj, sj = chunk s P 1 := ⟨_, rfl⟩
            have HOKj : Hid sj.Ok := by rw [hsj]; exact chunk_ok HOK.out P 1
            have HFj : Hid (digest l = sj) := by rw [hsj, HFin.out, show en / 64 = 1 by omega]; exact rfl
            rw [← hsj] at hdig
            have HDg := Lib.hid hdig.1
            have HP3 := Lib.hid (size8 sj)
            have HP4 := Lib.hid (size32 (cellsOf .u8 (outList sj)) (by simp [cellsOf, outList]))
            have HA4 := Lib.hid (all_cells .u8 (outList sj))
            have HZ4 := Lib.hid (show (Array.replicate 32 (Value.int .u8 0)).size = (cellsOf .u8 (outList sj)).size by simp [cellsOf, outList])
            clear hdig hsj
            go_wp2_with (first
              | (refine wpList_load_row rfl 115 (.tmp 3) rfl S rfl 115 _ (0, 0) _ HDg.out.1 Tryz.underlying115 rfl HP3.out ?_)
              | (go_at_call 61; refine (told_any _ sj HOKj.out).mono ?_; rintro e w7 ⟨rfl, hb7⟩; have HD7 := Lib.hid (HDg.out.below hb7); clear hb7)
              | (refine wpList_store_row rfl 80 (.tmp 2) (.tmp 39) rfl w.heap.size _ rfl rfl 80 _ HD7.out.2.1 HP4.out HZ4.out HA4.out ?_))
            refine bodyPost_ret (v := .agg (cellsOf .u8 (outList sj))) ?_ rfl ⟨by rw [HFj.out], ?_⟩
            · refine results_cell_row Tryz.results36 _ _ w.heap.size 80 _ (0, 0) _ rfl ?_ Tryz.underlying80 rfl HP4.out
              exact row_new HD7.out.2.1
            · exact below_setRow HD7.out.2.2.2 (Nat.le_refl _) _
          · have hnl : ¬ ((128 : Int)) < (en : Int) := by omega
            obtain ⟨sj, hsj⟩ : ∃ sj, sj = chunk s P 2 := ⟨_, rfl⟩
            have HOKj : Hid sj.Ok := by rw [hsj]; exact chunk_ok HOK.out P 2
            have HFj : Hid (digest l = sj) := by rw [hsj, HFin.out, show en / 64 = 2 by omega]; exact rfl
            rw [← hsj] at hdig
            have HDg := Lib.hid hdig.1
            have HP3 := Lib.hid (size8 sj)
            have HP4 := Lib.hid (size32 (cellsOf .u8 (outList sj)) (by simp [cellsOf, outList]))
            have HA4 := Lib.hid (all_cells .u8 (outList sj))
            have HZ4 := Lib.hid (show (Array.replicate 32 (Value.int .u8 0)).size = (cellsOf .u8 (outList sj)).size by simp [cellsOf, outList])
            clear hdig hsj
            go_wp2_with (first
              | (refine wpList_load_row rfl 115 (.tmp 3) rfl S rfl 115 _ (0, 0) _ HDg.out.1 Tryz.underlying115 rfl HP3.out ?_)
              | (go_at_call 61; refine (told_any _ sj HOKj.out).mono ?_; rintro e w7 ⟨rfl, hb7⟩; have HD7 := Lib.hid (HDg.out.below hb7); clear hb7)
              | (refine wpList_store_row rfl 80 (.tmp 2) (.tmp 39) rfl w.heap.size _ rfl rfl 80 _ HD7.out.2.1 HP4.out HZ4.out HA4.out ?_))
            refine bodyPost_ret (v := .agg (cellsOf .u8 (outList sj))) ?_ rfl ⟨by rw [HFj.out], ?_⟩
            · refine results_cell_row Tryz.results36 _ _ w.heap.size 80 _ (0, 0) _ rfl ?_ Tryz.underlying80 rfl HP4.out
              exact row_new HD7.out.2.1
            · exact below_setRow HD7.out.2.2.2 (Nat.le_refl _) _
end Go.Proofs.YtfmdhcjniikfdaaGreatDoor.sumDoor
/- The cyclic sum of bytes as a plain function of numbers, and that its two ways agree. -/
namespace Go.Proofs.YtfmdhcjniikfdaaGreatDoor.crcPlain

/-- One bit's crcStep. -/
def crcStep (c : Nat) : Nat := if c % 2 = 1 then (c / 2) ^^^ 3988292384 else c / 2
/-- k crcSteps. -/
def crcSteps (c : Nat) : Nat → Nat
  | 0 => c
  | k + 1 => crcStep (crcSteps c k)
/-- A byte's crcStep. -/
def crcTurn (c b : Nat) : Nat := crcSteps (c ^^^ b) 8
/-- All bytes. -/
def crcRun (l : List Nat) : Nat := l.foldl crcTurn 4294967295
/-- The other way: one bit of a byte at a time. -/
def bitStep (b c k : Nat) : Nat := if (c % 2) ^^^ (b / 2 ^ k % 2) = 1 then (c / 2) ^^^ 3988292384 else c / 2
def bitSteps (b c : Nat) : Nat → Nat
  | 0 => c
  | k + 1 => bitStep b (bitSteps b c k) k
def crcSlow (l : List Nat) : Nat := l.foldl (fun c b => bitSteps b c 8) 4294967295

theorem xor_lt32 {a b : Nat} (ha : a < 4294967296) (hb : b < 4294967296) : a ^^^ b < 4294967296 := Nat.xor_lt_two_pow (n := 32) ha hb
theorem crcStep_lt {c : Nat} (h : c < 4294967296) : crcStep c < 4294967296 := by
  unfold crcStep
  split
  · exact xor_lt32 (by omega) (by omega)
  · omega
theorem crcSteps_lt {c : Nat} (h : c < 4294967296) : ∀ k, crcSteps c k < 4294967296
  | 0 => h
  | k + 1 => crcStep_lt (crcSteps_lt h k)
theorem crcTurn_lt {c b : Nat} (h : c < 4294967296) (hb : b < 256) : crcTurn c b < 4294967296 := crcSteps_lt (xor_lt32 h (by omega)) 8
theorem bitStep_lt {b c k : Nat} (h : c < 4294967296) : bitStep b c k < 4294967296 := by
  unfold bitStep
  split
  · exact xor_lt32 (by omega) (by omega)
  · omega
theorem bitSteps_lt {b c : Nat} (h : c < 4294967296) : ∀ k, bitSteps b c k < 4294967296
  | 0 => h
  | k + 1 => bitStep_lt (bitSteps_lt h k)
theorem fold_lt (l : List Nat) : ∀ {c : Nat}, c < 4294967296 → (∀ b ∈ l, b < 256) → l.foldl crcTurn c < 4294967296 := by
  induction l with
  | nil => intro c h _; exact h
  | cons b r ih => intro c h hb; exact ih (crcTurn_lt h (hb b (by simp))) (fun x hx => hb x (by simp [hx]))
theorem crcRun_lt {l : List Nat} (hb : ∀ b ∈ l, b < 256) : crcRun l < 4294967296 := fold_lt l (by omega) hb

theorem step_bit (b c k : Nat) : crcStep (c ^^^ (b / 2 ^ k)) = bitStep b c k ^^^ (b / 2 ^ (k + 1)) := by
  have h1 : (c ^^^ (b / 2 ^ k)) % 2 = (c % 2) ^^^ (b / 2 ^ k % 2) := by
    have := Nat.xor_mod_two_pow (a := c) (b := b / 2 ^ k) (n := 1)
    simpa using this
  have h2 : (c ^^^ (b / 2 ^ k)) / 2 = (c / 2) ^^^ (b / 2 ^ (k + 1)) := by
    rw [Nat.xor_div_two, Nat.div_div_eq_div_mul, Nat.pow_succ]
  unfold crcStep bitStep
  rw [h1, h2]
  split
  · rw [Nat.xor_assoc, Nat.xor_assoc, Nat.xor_comm (b / 2 ^ (k + 1))]
  · rfl
theorem steps_bits (b c : Nat) : ∀ k, crcSteps (c ^^^ b) k = bitSteps b c k ^^^ (b / 2 ^ k)
  | 0 => by simp [crcSteps, bitSteps]
  | k + 1 => by rw [crcSteps, steps_bits b c k, step_bit]; rfl
theorem turn_bits {b : Nat} (hb : b < 256) (c : Nat) : crcTurn c b = bitSteps b c 8 := by
  unfold crcTurn
  rw [steps_bits, Nat.div_eq_of_lt (by omega), Nat.xor_zero]
theorem fold_slow (l : List Nat) : ∀ c, (∀ b ∈ l, b < 256) → l.foldl crcTurn c = l.foldl (fun c b => bitSteps b c 8) c := by
  induction l with
  | nil => intro c _; rfl
  | cons b r ih => intro c hb; simp only [List.foldl_cons]; rw [turn_bits (hb b (by simp)), ih _ (fun x hx => hb x (by simp [hx]))]
theorem crcRun_slow {l : List Nat} (hb : ∀ b ∈ l, b < 256) : crcRun l = crcSlow l := fold_slow l _ hb
theorem crcSlow_lt {l : List Nat} (hb : ∀ b ∈ l, b < 256) : crcSlow l < 4294967296 := by rw [← crcRun_slow hb]; exact crcRun_lt hb
theorem crcRun_snoc (l : List Nat) (b : Nat) : crcRun (l ++ [b]) = crcTurn (crcRun l) b := by simp [crcRun]
theorem crcSlow_snoc (l : List Nat) (b : Nat) : crcSlow (l ++ [b]) = bitSteps b (crcSlow l) 8 := by simp [crcSlow]

theorem xor_cancel {a b c : Nat} (h : a ^^^ c = b ^^^ c) : a = b := by
  have : (a ^^^ c) ^^^ c = (b ^^^ c) ^^^ c := by rw [h]
  simpa [Nat.xor_assoc] using this
theorem crcStep_inj {c d : Nat} (hc : c < 4294967296) (hd : d < 4294967296) (h : crcStep c = crcStep d) : c = d := by
  have key : ∀ a b : Nat, a < 2147483648 → b < 2147483648 → a ^^^ 3988292384 ≠ b := by
    intro a b ha hb e
    have h1 : a ^^^ b < 2147483648 := Nat.xor_lt_two_pow (n := 31) ha hb
    have h2 : a ^^^ b = 3988292384 := by
      rw [← e, ← Nat.xor_assoc, Nat.xor_self, Nat.zero_xor]
    omega
  unfold crcStep at h
  by_cases h1 : c % 2 = 1 <;> by_cases h2 : d % 2 = 1
  · rw [if_pos h1, if_pos h2] at h
    have := xor_cancel h
    omega
  · rw [if_pos h1, if_neg h2] at h
    exact absurd h (key _ _ (by omega) (by omega))
  · rw [if_neg h1, if_pos h2] at h
    exact absurd h.symm (key _ _ (by omega) (by omega))
  · rw [if_neg h1, if_neg h2] at h
    omega
theorem crcSteps_inj {c d : Nat} (hc : c < 4294967296) (hd : d < 4294967296) : ∀ k, crcSteps c k = crcSteps d k → c = d
  | 0, h => h
  | k + 1, h => crcSteps_inj hc hd k (crcStep_inj (crcSteps_lt hc k) (crcSteps_lt hd k) h)
theorem crcTurn_inj {c d b : Nat} (hc : c < 4294967296) (hd : d < 4294967296) (hb : b < 256) (h : crcTurn c b = crcTurn d b) : c = d :=
  xor_cancel (crcSteps_inj (xor_lt32 hc (by omega)) (xor_lt32 hd (by omega)) 8 h)
theorem crcTurn_inj2 {c x y : Nat} (hc : c < 4294967296) (hx : x < 256) (hy : y < 256) (h : crcTurn c x = crcTurn c y) : x = y := by
  have := crcSteps_inj (xor_lt32 hc (by omega)) (xor_lt32 hc (by omega)) 8 h
  rw [Nat.xor_comm c x, Nat.xor_comm c y] at this
  exact xor_cancel this
theorem fold_inj (l : List Nat) : ∀ {c d : Nat}, c < 4294967296 → d < 4294967296 → (∀ b ∈ l, b < 256) → l.foldl crcTurn c = l.foldl crcTurn d → c = d := by
  induction l with
  | nil => intro c d _ _ _ h; exact h
  | cons b r ih =>
    intro c d hc hd hb h
    have hb0 := hb b (by simp)
    exact crcTurn_inj hc hd hb0 (ih (crcTurn_lt hc hb0) (crcTurn_lt hd hb0) (fun x hx => hb x (by simp [hx])) h)
/-- One other byte is another sum. -/
theorem crc_other (p r : List Nat) (x y : Nat) (hp : ∀ b ∈ p, b < 256) (hr : ∀ b ∈ r, b < 256) (hx : x < 256) (hy : y < 256) (hne : x ≠ y) : crcRun (p ++ x :: r) ≠ crcRun (p ++ y :: r) := by
  intro h
  unfold crcRun at h
  simp only [List.foldl_append, List.foldl_cons] at h
  have hc := fold_lt p (c := 4294967295) (by omega) hp
  exact hne (crcTurn_inj2 hc hx hy (fold_inj r (crcTurn_lt hc hx) (crcTurn_lt hc hy) hr h))
theorem crc_set {l : List Nat} {i y : Nat} (hl : ∀ b ∈ l, b < 256) (hi : i < l.length) (hy : y < 256) (hne : l.getD i 0 ≠ y) : crcRun l ≠ crcRun (l.set i y) := by
  have h1 : l = l.take i ++ l.getD i 0 :: l.drop (i + 1) := by
    have := List.take_append_drop i l
    rw [List.drop_eq_getElem_cons hi] at this
    simp only [List.getD, List.getElem?_eq_getElem hi, Option.getD_some]
    exact this.symm
  have h2 : l.set i y = l.take i ++ y :: l.drop (i + 1) := by
    rw [List.set_eq_take_append_cons_drop, if_pos hi]
  rw [h2]
  conv => lhs; rw [h1]
  refine crc_other _ _ _ _ (fun b hb => hl b (List.mem_of_mem_take hb)) (fun b hb => hl b (List.mem_of_mem_drop hb)) ?_ hy hne
  have : l.getD i 0 = l[i] := by simp [List.getD, hi]
  rw [this]
  exact hl _ (List.getElem_mem hi)
theorem crc_end_inj {a b : Nat} (h : a ^^^ 4294967295 = b ^^^ 4294967295) : a = b := xor_cancel h
end Go.Proofs.YtfmdhcjniikfdaaGreatDoor.crcPlain
/- The cyclic sum. -/
namespace Go.Proofs.YtfmdhcjniikfdaaGreatDoor.sumDoor
open Go.ChangeShapes Go.WideShapes Go.ChangeAt Go.RowKit Go.Proofs.YtfmdhcjniikfdaaGreatDoor.crcPlain
set_option linter.unusedVariables false
set_option maxRecDepth 100000

theorem Bytes.at2 {w : World} {A : Option Addr} {n : Nat} {l : List Nat} (h : Bytes w A n l) {k : Nat} (hk : k < n) :
    ∃ b o x, A = some ⟨b, o, none⟩ ∧ x < 256 ∧ l.take (k + 1) = l.take k ++ [x] ∧ w.cell? ⟨b, o + k, none⟩ = some (.int .u8 (x : Nat)) := by
  obtain ⟨hl, hb, hc⟩ := h
  obtain ⟨b, o, rfl, hd⟩ := hc (by omega)
  have hk' : k < l.length := by omega
  refine ⟨b, o, l[k], rfl, hb _ (List.getElem_mem hk'), ?_, ?_⟩
  · rw [List.take_succ_eq_append_getElem hk']
  · rw [hd k hk]; simp [List.getD, hk']

theorem take_bytes {l : List Nat} (h : ∀ b ∈ l, b < 256) (k : Nat) : ∀ b ∈ l.take k, b < 256 := fun b hb => h b (List.mem_of_mem_take hb)

theorem xor_i (a b : Nat) (ha : a < 4294967296) (hb : b < 4294967296) : bits .xor .u32 (a : Int) (b : Int) = ((a ^^^ b : Nat) : Int) := u32_xor_nat a b ha hb
theorem and1_i (a : Nat) (ha : a < 4294967296) : bits .and .u32 (a : Int) 1 = ((a % 2 : Nat) : Int) := by
  have := u32_and_nat a 1 ha (by omega)
  rw [nat_mask1] at this
  exact this

theorem poly_i (a : Nat) (ha : a < 4294967296) : bits .xor .u32 ((a : Int) / 2) 3988292384 = ((a / 2 ^^^ 3988292384 : Nat) : Int) := by
  have := u32_xor_nat (a / 2) 3988292384 (by omega) (by omega)
  exact this

set_option maxHeartbeats 1000000 in
theorem crc_any (A : Option Addr) (n c : Nat) (l : List Nat) (w : World) (h : Bytes w A n l) (hn : n ≤ maxLen) :
    Calls Tryz.prog 76 #[.slice A n c] w fun e w' => e = .returned (.int .u32 ((crcRun l ^^^ 4294967295 : Nat) : Int)) ∧ w = w' := by
  unfold maxLen at hn
  have HB := Lib.hid h
  have hlen := Lib.hid h.1
  have hb256 := Lib.hid h.2.1
  clear h
  go_enter Tryz.func76, Tryz.ntmps76
  go_wp2
  go_loop [3, 5, 6, 9] (fun s _ _ i => ∃ k : Nat, k ≤ n ∧ i = .int .i64 k ∧ s = .int .u32 (crcRun (l.take k) : Nat)) (fun _ _ _ i => n - (intOf i).toNat)
  case atStart => exact ⟨0, Nat.zero_le _, rfl, rfl⟩
  case round =>
    obtain ⟨k, hk, rfl, rfl⟩ := hrel
    by_cases hlt : k < n
    · obtain ⟨b, o, x, rfl, hx, htk, hcell⟩ := HB.out.at2 hlt
      have HT := Lib.hid htk
      clear htk
      have hC : crcRun (l.take k) < 4294967296 := crcRun_lt (take_bytes hb256.out k)
      have HX := Lib.hid (xor_i (crcRun (l.take k)) x hC (by omega))
      have HN : Hid (crcRun (l.take (k + 1)) = crcTurn (crcRun (l.take k)) x) := by rw [HT.out, crcRun_snoc]; exact rfl
      generalize crcRun (l.take k) = C at *
      have hX : C ^^^ x < 4294967296 := xor_lt32 hC (by omega)
      go_wp2
      rw [HX.out]
      go_loop [3, 6, 17] (fun s _ i => ∃ j : Nat, j ≤ 8 ∧ i = .int .i64 j ∧ s = .int .u32 (crcSteps (C ^^^ x) j : Nat)) (fun _ _ i => 8 - (intOf i).toNat)
      case atStart => exact ⟨0, Nat.zero_le _, rfl, rfl⟩
      case round =>
        obtain ⟨j, hj, rfl, rfl⟩ := hrel
        have hS : crcSteps (C ^^^ x) j < 4294967296 := crcSteps_lt hX j
        by_cases hj8 : j < 8
        · have HS : Hid (crcSteps (C ^^^ x) (j + 1) = crcStep (crcSteps (C ^^^ x) j)) := rfl
          generalize crcSteps (C ^^^ x) j = S at *
          have HA := Lib.hid (and1_i S hS)
          have HP := Lib.hid (poly_i S hS)
          by_cases hp : S % 2 = 1
          · have hA : bits .and .u32 (S : Int) 1 = 1 := by rw [HA.out, hp]; rfl
            go_wp2
            go_round
            case rel => exact ⟨j + 1, by omega, by go_num, by rw [HS.out, crcStep, if_pos hp]; exact congrArg _ HP.out⟩
            case measure => simp [intOf]; omega
          · have hA : bits .and .u32 (S : Int) 1 = 0 := by rw [HA.out, show S % 2 = 0 by omega]; rfl
            go_wp2
            go_round
            case rel => exact ⟨j + 1, by omega, by go_num, by rw [HS.out, crcStep, if_neg hp]; rfl⟩
            case measure => simp [intOf]; omega
        · obtain rfl : j = 8 := by omega
          go_wp2
          go_round
          case rel => exact ⟨k + 1, by omega, by go_num, by rw [HN.out, crcTurn]⟩
          case measure => simp [intOf]; omega
    · obtain rfl : k = n := by omega
      have hC : crcRun (l.take k) < 4294967296 := crcRun_lt (take_bytes hb256.out k)
      have HX := Lib.hid (xor_i (crcRun (l.take k)) 4294967295 hC (by omega))
      go_wp2
      go_ret
      refine ⟨ret_int ?_, rfl⟩
      have e : l.take k = l := List.take_of_length_le (by have := hlen.out; omega)
      have h := HX.out
      rw [e] at h ⊢
      exact h


theorem nine : (crcRun [49, 50, 51, 52, 53, 54, 55, 56, 57] ^^^ 4294967295 : Nat) = 3421780262 := by decide +kernel
theorem Bytes.lit (w : World) (l : List Nat) (hl : ∀ b ∈ l, b < 256) (e : TypeId) (m : Nat × Nat) :
    Bytes (w.alloc (.cells (l.map fun b => Value.int .u8 (b : Nat)).toArray e m)) (some ⟨w.heap.size, 0, none⟩) l.length l := by
  refine ⟨rfl, hl, fun _ => ⟨_, _, rfl, fun i hi => ?_⟩⟩
  rw [World.cell?_alloc_mark]
  simp [List.getD, hi]

theorem poly64_i (a : Nat) (ha : a < 4294967296) : bits .xor .u64 ((a : Int) / 2) 3988292384 = ((a / 2 ^^^ 3988292384 : Nat) : Int) := by
  have := u64_xor_nat (a / 2) 3988292384 (by omega) (by omega)
  exact this
theorem end_i (a : Nat) (ha : a < 4294967296) : bits .xor .u64 (a : Int) 4294967295 % 4294967296 = ((a ^^^ 4294967295 : Nat) : Int) := by
  have h := u64_xor_nat a 4294967295 (by omega) (by omega)
  have h2 : a ^^^ 4294967295 < 4294967296 := xor_lt32 ha (by omega)
  have h3 : bits .xor .u64 (a : Int) 4294967295 = ((a ^^^ 4294967295 : Nat) : Int) := h
  rw [h3]
  omega
theorem bit_i (S x j : Nat) (hS : S < 4294967296) (hx : x < 256) : bits .xor .u64 (bits .and .u64 (S : Int) 1) (IntKind.u64.wrap (bits .and .u8 ((x : Int) / 2 ^ j) 1)) = (((S % 2) ^^^ (x / 2 ^ j % 2) : Nat) : Int) := by
  have h1 : bits .and .u64 (S : Int) 1 = ((S % 2 : Nat) : Int) := by
    have := u64_and_nat S 1 (by omega) (by omega)
    rw [nat_mask1] at this
    exact this
  have hd : x / 2 ^ j < 256 := Nat.lt_of_le_of_lt (Nat.div_le_self _ _) hx
  have h2 : bits .and .u8 ((x : Int) / 2 ^ j) 1 = ((x / 2 ^ j % 2 : Nat) : Int) := by
    have := u8_and_nat (x / 2 ^ j) 1 hd (by omega)
    rw [nat_mask1] at this
    rw [← this]
    simp
  have h3 : IntKind.u64.wrap ((x / 2 ^ j % 2 : Nat) : Int) = ((x / 2 ^ j % 2 : Nat) : Int) := by
    have : x / 2 ^ j % 2 < 2 := Nat.mod_lt _ (by omega)
    simp only [IntKind.wrap, IntKind.bits, IntKind.signed]
    simp
    omega
  rw [h1, h2, h3]
  have h4 : x / 2 ^ j % 2 < 2 := Nat.mod_lt _ (by omega)
  exact u64_xor_nat _ _ (by omega) (by omega)

set_option maxHeartbeats 1000000 in
theorem crcRef_any (A : Option Addr) (n c : Nat) (l : List Nat) (w : World) (h : Bytes w A n l) (hn : n ≤ maxLen) :
    Calls Tryz.prog 54 #[.slice A n c] w fun e w' => e = .returned (.int .u32 ((crcSlow l ^^^ 4294967295 : Nat) : Int)) ∧ w = w' := by
  unfold maxLen at hn
  have HB := Lib.hid h
  have hlen := Lib.hid h.1
  have hb256 := Lib.hid h.2.1
  clear h
  go_enter Tryz.func54, Tryz.ntmps54
  go_wp2
  go_loop [3, 4, 5, 6, 9] (fun s _ _ _ i => ∃ k : Nat, k ≤ n ∧ i = .int .i64 k ∧ s = .int .u64 (crcSlow (l.take k) : Nat)) (fun _ _ _ _ i => n - (intOf i).toNat)
  case atStart => exact ⟨0, Nat.zero_le _, rfl, rfl⟩
  case round =>
    obtain ⟨k, hk, rfl, rfl⟩ := hrel
    by_cases hlt : k < n
    · obtain ⟨b, o, x, rfl, hx, htk, hcell⟩ := HB.out.at2 hlt
      have HT := Lib.hid htk
      clear htk
      have hC : crcSlow (l.take k) < 4294967296 := crcSlow_lt (take_bytes hb256.out k)
      have HN : Hid (crcSlow (l.take (k + 1)) = bitSteps x (crcSlow (l.take k)) 8) := by rw [HT.out, crcSlow_snoc]; exact rfl
      generalize crcSlow (l.take k) = C at *
      go_wp2
      go_loop [3, 5, 6, 12] (fun s _ _ i => ∃ j : Nat, j ≤ 8 ∧ i = .int .i64 j ∧ s = .int .u64 (bitSteps x C j : Nat)) (fun _ _ _ i => 8 - (intOf i).toNat)
      case atStart => exact ⟨0, Nat.zero_le _, rfl, rfl⟩
      case round =>
        obtain ⟨j, hj, rfl, rfl⟩ := hrel
        have hS : bitSteps x C j < 4294967296 := bitSteps_lt hC j
        by_cases hj8 : j < 8
        · have HS : Hid (bitSteps x C (j + 1) = bitStep x (bitSteps x C j) j) := rfl
          generalize bitSteps x C j = S at *
          have HI := Lib.hid (bit_i S x j hS hx)
          have HP := Lib.hid (poly64_i S hS)
          by_cases hp : (S % 2) ^^^ (x / 2 ^ j % 2) = 1
          · have hA : (bits .xor .u64 (bits .and .u64 (S : Int) 1) (IntKind.u64.wrap (bits .and .u8 ((x : Int) / 2 ^ j) 1)) == 1) = true := by rw [HI.out, hp]; rfl
            go_wp2
            go_round
            case rel => exact ⟨j + 1, by omega, by go_num, by rw [HS.out, bitStep, if_pos hp]; exact congrArg _ HP.out⟩
            case measure => simp [intOf]; omega
          · have hA : (bits .xor .u64 (bits .and .u64 (S : Int) 1) (IntKind.u64.wrap (bits .and .u8 ((x : Int) / 2 ^ j) 1)) == 1) = false := by rw [HI.out]; exact beq_eq_false_iff_ne.2 (by omega)
            go_wp2
            go_round
            case rel => exact ⟨j + 1, by omega, by go_num, by rw [HS.out, bitStep, if_neg hp]; rfl⟩
            case measure => simp [intOf]; omega
        · obtain rfl : j = 8 := by omega
          go_wp2
          go_round
          case rel => exact ⟨k + 1, by omega, by go_num, by rw [HN.out]⟩
          case measure => simp [intOf]; omega
    · obtain rfl : k = n := by omega
      have hC : crcSlow (l.take k) < 4294967296 := crcSlow_lt (take_bytes hb256.out k)
      have HX := Lib.hid (end_i (crcSlow (l.take k)) hC)
      go_wp2
      go_ret
      refine ⟨ret_int ?_, rfl⟩
      have e : l.take k = l := List.take_of_length_le (by have := hlen.out; omega)
      have h := HX.out
      rw [e] at h ⊢
      exact h
end Go.Proofs.YtfmdhcjniikfdaaGreatDoor.sumDoor
/- Numbers as bytes, and bytes as numbers, as the document's own answers have them. -/
namespace Go.Proofs.YtfmdhcjniikfdaaGreatDoor.sumDoor
open Go.ChangeShapes Go.WideShapes Go.ChangeAt Go.RowKit Go.Proofs.YtfmdhcjniikfdaaGreatDoor.sumPlain
set_option linter.unusedVariables false
set_option maxRecDepth 100000

/-- Bytes as a number, the greatest first. -/
def numOf (l : List Nat) : Nat := l.foldl (fun a b => a * 256 + b) 0
theorem num_snoc (l : List Nat) (b : Nat) : numOf (l ++ [b]) = numOf l * 256 + b := by simp [numOf]
theorem num_lt : ∀ (l : List Nat) (k : Nat), (∀ b ∈ l, b < 256) → numOf (l.take k) < 256 ^ k := by
  intro l k hb
  induction k with
  | zero => simp [numOf]
  | succ k ih =>
    by_cases hk : k < l.length
    · rw [List.take_succ_eq_append_getElem hk, num_snoc, Nat.pow_succ]
      have := hb _ (List.getElem_mem hk)
      omega
    · have e : l.take (k + 1) = l.take k := by rw [List.take_of_length_le (by omega), List.take_of_length_le (by omega)]
      rw [e, Nat.pow_succ]
      omega

set_option maxHeartbeats 1000000 in
theorem number_any (A : Option Addr) (n c : Nat) (l : List Nat) (w : World) (h : Bytes w A n l) (hn : n ≤ 4) :
    Calls Tryz.prog 62 #[.slice A n c] w fun e w' => e = .returned (.int .u64 (numOf l : Nat)) ∧ w = w' := by
  have HB := Lib.hid h
  have hlen := Lib.hid h.1
  have hb256 := Lib.hid h.2.1
  clear h
  go_enter Tryz.func62, Tryz.ntmps62
  go_wp2
  go_loop [3, 4, 7] (fun s _ i => ∃ k : Nat, k ≤ n ∧ i = .int .i64 k ∧ s = .int .u64 (numOf (l.take k) : Nat)) (fun _ _ i => n - (intOf i).toNat)
  case atStart => exact ⟨0, Nat.zero_le _, rfl, rfl⟩
  case round =>
    obtain ⟨k, hk, rfl, rfl⟩ := hrel
    by_cases hlt : k < n
    · obtain ⟨b, o, x, rfl, hx, htk, hcell⟩ := HB.out.at2 hlt
      have hC : numOf (l.take k) < 16777216 := by
        have := num_lt l k hb256.out
        have h3 : 256 ^ k ≤ 256 ^ 3 := Nat.pow_le_pow_right (by omega) (by omega)
        have h4 : (256 : Nat) ^ 3 = 16777216 := by decide
        omega
      have HN : Hid (numOf (l.take (k + 1)) = numOf (l.take k) * 256 + x) := by rw [htk, num_snoc]; exact rfl
      clear htk
      generalize numOf (l.take k) = C at *
      go_wp2
      go_round
      case rel => exact ⟨k + 1, by omega, by go_num, by rw [HN.out]; simp⟩
      case measure => simp [intOf]; omega
    · obtain rfl : k = n := by omega
      go_wp2
      go_ret
      refine ⟨ret_int ?_, rfl⟩
      rw [List.take_of_length_le (by have := hlen.out; omega)]

/-- A number's bytes. -/
def byteAt (v n j : Nat) : Nat := v / 256 ^ (n - 1 - j) % 256
def bytesTo (v n k j : Nat) : Nat := if n ≤ j + k ∧ j < n then byteAt v n j else 0
def bytesOf (v n : Nat) : List Nat := (List.range n).map (byteAt v n)

theorem bytesTo_zero (v n i : Nat) (h : i < n) : bytesTo v n 0 i = 0 := by
  unfold bytesTo
  rw [if_neg (by omega)]
theorem bytesTo_all (v n i : Nat) (h : i < n) : bytesTo v n n i = byteAt v n i := by
  unfold bytesTo
  rw [if_pos (by omega)]
theorem bytes_step {wr : World} {g t v n k m : Nat} {x : Int} (hm : m + k + 1 = n) (hk : k < n) (hx : x = (byteAt v n m : Nat)) (h : wr.rowIs g t n (fun j => .int .u8 (bytesTo v n k j : Nat))) :
    (wr.setCell ⟨g, m, none⟩ (.int .u8 x)).rowIs g t n (fun j => .int .u8 (bytesTo v n (k + 1) j : Nat)) := by
  refine (h.set _ _).congr fun j hj => ?_
  by_cases e : j = m
  · subst e
    simp only [if_true, hx, bytesTo]
    rw [if_pos (by omega)]
  · simp only [if_neg e, bytesTo]
    have : (n ≤ j + (k + 1) ∧ j < n) ↔ (n ≤ j + k ∧ j < n) := by omega
    simp only [this]
theorem make8 (w : World) : (Instr.makeSlice 22 (.int .i64 8) (.int .i64 8)).run Tryz.prog w = .ok (.slice (some ⟨w.heap.size, 0, none⟩) 8 8) (w.alloc (.cells (Array.replicate 8 (.int .u8 0)) 5)) := by kernel_rfl
set_option maxHeartbeats 1000000 in
theorem bytes_any8 (w : World) (v : Nat) (hv : v < 18446744073709551616) :
    Calls Tryz.prog 53 #[.int .u64 v, .int .i64 8] w fun e w' => e = .returned (.slice (some ⟨w.heap.size, 0, none⟩) 8 8) ∧ w'.rowIs w.heap.size 5 8 (fun j => .int .u8 (byteAt v 8 j : Nat)) ∧ Below w.heap.size w w' := by
  have hmk := make8
  go_enter Tryz.func53, Tryz.ntmps53
  go_wp2
  go_loopw [0, 6] (fun x i wr => ∃ k : Nat, k ≤ 8 ∧ i = .int .i64 (7 - (k : Int)) ∧ x = .int .u64 (v / 256 ^ k : Nat) ∧ wr.rowIs w.heap.size 5 8 (fun j => .int .u8 (bytesTo v 8 k j : Nat)) ∧ Below w.heap.size w wr) (fun _ i _ => (intOf i + 1).toNat)
  case atStart => exact ⟨0, by omega, rfl, by simp, (row_rep w rfl (.int .u8 0) 5 8).congr (fun i hi => by rw [bytesTo_zero v 8 i hi]; rfl), (Below.refl _ _).alloc (Nat.le_refl _) _⟩
  case round =>
    obtain ⟨k, hk, rfl, rfl, hr, hbel⟩ := hrel
    by_cases hlt : k < 8
    · have hc := hr.cell (i := 7 - k) (by omega)
      have hf := hr.frozen (7 - k)
      have HR := Lib.hid hr
      have HBel := Lib.hid hbel
      have HV : Hid (v / 256 ^ (k + 1) = v / 256 ^ k / 256) := by rw [Nat.pow_succ, ← Nat.div_div_eq_div_mul]; exact rfl
      have hX : v / 256 ^ k < 18446744073709551616 := Nat.lt_of_le_of_lt (Nat.div_le_self _ _) hv
      have HX : Hid (byteAt v 8 (7 - k) = v / 256 ^ k % 256) := by unfold byteAt; rw [show 8 - 1 - (7 - k) = k by omega]; exact rfl
      clear hr hbel
      generalize v / 256 ^ k = X at *
      go_wp2
      go_roundw
      case rel => exact ⟨k + 1, by omega, by go_num, by rw [HV.out]; simp, bytes_step (by omega) (by omega) (by rw [HX.out]; simp) HR.out, HBel.out.setCell (Nat.le_refl _) _⟩
      case measure => simp [intOf]; omega
    · obtain rfl : k = 8 := by omega
      have HR := Lib.hid (hr.congr (g := fun j => .int .u8 (byteAt v 8 j : Nat)) (fun i hi => by rw [bytesTo_all v 8 i hi]))
      have HBel := Lib.hid hbel
      clear hr hbel
      go_wp2
      go_ret
      exact ⟨rfl, HR.out, HBel.out⟩
theorem make4 (w : World) : (Instr.makeSlice 22 (.int .i64 4) (.int .i64 4)).run Tryz.prog w = .ok (.slice (some ⟨w.heap.size, 0, none⟩) 4 4) (w.alloc (.cells (Array.replicate 4 (.int .u8 0)) 5)) := by kernel_rfl
set_option maxHeartbeats 1000000 in
theorem bytes_any4 (w : World) (v : Nat) (hv : v < 18446744073709551616) :
    Calls Tryz.prog 53 #[.int .u64 v, .int .i64 4] w fun e w' => e = .returned (.slice (some ⟨w.heap.size, 0, none⟩) 4 4) ∧ w'.rowIs w.heap.size 5 4 (fun j => .int .u8 (byteAt v 4 j : Nat)) ∧ Below w.heap.size w w' := by
  have hmk := make4
  go_enter Tryz.func53, Tryz.ntmps53
  go_wp2
  go_loopw [0, 6] (fun x i wr => ∃ k : Nat, k ≤ 4 ∧ i = .int .i64 (3 - (k : Int)) ∧ x = .int .u64 (v / 256 ^ k : Nat) ∧ wr.rowIs w.heap.size 5 4 (fun j => .int .u8 (bytesTo v 4 k j : Nat)) ∧ Below w.heap.size w wr) (fun _ i _ => (intOf i + 1).toNat)
  case atStart => exact ⟨0, by omega, rfl, by simp, (row_rep w rfl (.int .u8 0) 5 4).congr (fun i hi => by rw [bytesTo_zero v 4 i hi]; rfl), (Below.refl _ _).alloc (Nat.le_refl _) _⟩
  case round =>
    obtain ⟨k, hk, rfl, rfl, hr, hbel⟩ := hrel
    by_cases hlt : k < 4
    · have hc := hr.cell (i := 3 - k) (by omega)
      have hf := hr.frozen (3 - k)
      have HR := Lib.hid hr
      have HBel := Lib.hid hbel
      have HV : Hid (v / 256 ^ (k + 1) = v / 256 ^ k / 256) := by rw [Nat.pow_succ, ← Nat.div_div_eq_div_mul]; exact rfl
      have hX : v / 256 ^ k < 18446744073709551616 := Nat.lt_of_le_of_lt (Nat.div_le_self _ _) hv
      have HX : Hid (byteAt v 4 (3 - k) = v / 256 ^ k % 256) := by unfold byteAt; rw [show 4 - 1 - (3 - k) = k by omega]; exact rfl
      clear hr hbel
      generalize v / 256 ^ k = X at *
      go_wp2
      go_roundw
      case rel => exact ⟨k + 1, by omega, by go_num, by rw [HV.out]; simp, bytes_step (by omega) (by omega) (by rw [HX.out]; simp) HR.out, HBel.out.setCell (Nat.le_refl _) _⟩
      case measure => simp [intOf]; omega
    · obtain rfl : k = 4 := by omega
      have HR := Lib.hid (hr.congr (g := fun j => .int .u8 (byteAt v 4 j : Nat)) (fun i hi => by rw [bytesTo_all v 4 i hi]))
      have HBel := Lib.hid hbel
      clear hr hbel
      go_wp2
      go_ret
      exact ⟨rfl, HR.out, HBel.out⟩
end Go.Proofs.YtfmdhcjniikfdaaGreatDoor.sumDoor
/- All padded bytes, block by block, come to the same as whole blocks and the padded rest. -/
namespace Go.Proofs.YtfmdhcjniikfdaaGreatDoor.sumDoor
open Go.Proofs.YtfmdhcjniikfdaaGreatDoor.sumPlain
/-- How many zeros. -/
def zs (n : Nat) : Nat := (119 - n % 64) % 64

theorem word_congr {g h : Nat → Nat} (e : ∀ i, i < 64 → g i = h i) {k : Nat} (hk : k < 16) : word g k = word h k := by
  unfold word
  rw [e _ (by omega), e _ (by omega), e _ (by omega), e _ (by omega)]
theorem words_congr {g h : Nat → Nat} (e : ∀ i, i < 64 → g i = h i) : ∀ k, words g k = words h k
  | 0 => rfl
  | k + 1 => by
    rw [words, words, words_congr e k]
    by_cases hk : k < 16
    · rw [if_pos hk, if_pos hk, word_congr e hk]
    · rw [if_neg hk, if_neg hk]
theorem block_congr {g h : Nat → Nat} (s : Eight) (e : ∀ i, i < 64 → g i = h i) : block s g = block s h := by
  unfold block
  rw [words_congr e]
/-- Blocks that read the same come to the same. -/
theorem chunk_congr {s : Eight} {l l' : List Nat} : ∀ m, (∀ i, i < 64 * m → l.getD i 0 = l'.getD i 0) → chunk s l m = chunk s l' m
  | 0, _ => rfl
  | m + 1, h => by
    rw [chunk, chunk, chunk_congr m (fun i hi => h i (by omega))]
    refine block_congr _ fun i hi => ?_
    have := h (64 * m + i) (by omega)
    simpa [List.getD, List.getElem?_drop] using this
theorem chunk_add (s : Eight) (l : List Nat) (a : Nat) : ∀ b, chunk s l (a + b) = chunk (chunk s l a) (l.drop (64 * a)) b
  | 0 => rfl
  | b + 1 => by
    rw [← Nat.add_assoc, chunk, chunk, chunk_add s l a b, List.drop_drop]
    rw [show 64 * (a + b) = 64 * a + 64 * b by omega]

theorem getD_app (l m : List Nat) (i : Nat) : (l ++ m).getD i 0 = if i < l.length then l.getD i 0 else m.getD (i - l.length) 0 := by
  simp only [List.getD, List.getElem?_append]
  split <;> rfl
theorem getD_rep (z i : Nat) : (List.replicate z 0).getD i 0 = 0 := by
  simp only [List.getD, List.getElem?_replicate]
  split <;> rfl

theorem chunk_all {l : List Nat} {n B : Nat} (hl : l.length = n) (hB : B * 64 = (l ++ 128 :: List.replicate (zs n) 0 ++ bytesOf (n * 8) 8).length) : chunk seed8 (l ++ 128 :: List.replicate (zs n) 0 ++ bytesOf (n * 8) 8) B = digest l := by
  have h8 : (bytesOf (n * 8) 8).length = 8 := by simp [bytesOf]
  have hlen : (l ++ 128 :: List.replicate (zs n) 0 ++ bytesOf (n * 8) 8).length = n + 1 + zs n + 8 := by simp [h8, hl]; omega
  rw [hlen] at hB
  unfold digest
  rw [hl]
  have hE : padEnd (n % 64) = 64 * (B - n / 64) := by unfold padEnd zs at *; split <;> omega
  have hBn : n / 64 ≤ B := by unfold zs at hB; omega
  rw [hE, Nat.mul_div_cancel_left _ (by omega)]
  conv => lhs; rw [show B = n / 64 + (B - n / 64) by omega, chunk_add]
  have h1 : chunk seed8 (l ++ 128 :: List.replicate (zs n) 0 ++ bytesOf (n * 8) 8) (n / 64) = chunk seed8 l (n / 64) := by
    refine chunk_congr _ fun i hi => ?_
    rw [List.append_assoc, getD_app, if_pos (by omega)]
  rw [h1]
  refine chunk_congr _ fun i hi => ?_
  have hi2 : i < 128 := by unfold zs at hB; omega
  -- the padded rest at i
  have hR : (padList (l.drop (64 * (n / 64))) (n * 8) (64 * (B - n / 64))).getD i 0 = padTo (l.drop (64 * (n / 64))) (n * 8) (64 * (B - n / 64)) 8 i := by
    simp [padList, List.getD, hi2]
  rw [hR]
  have hr : (l.drop (64 * (n / 64))).length = n % 64 := by rw [List.length_drop, hl]; omega
  have hD : ((l ++ 128 :: List.replicate (zs n) 0 ++ bytesOf (n * 8) 8).drop (64 * (n / 64))).getD i 0 = (l ++ 128 :: List.replicate (zs n) 0 ++ bytesOf (n * 8) 8).getD (64 * (n / 64) + i) 0 := by
    simp [List.getD, List.getElem?_drop]
  rw [hD]
  unfold padTo
  rw [hr, getD_app]
  have hl2 : (l ++ 128 :: List.replicate (zs n) 0).length = n + 1 + zs n := by simp [hl]; omega
  rw [hl2]
  by_cases hc : 64 * (B - n / 64) - 8 ≤ i ∧ i < 64 * (B - n / 64)
  · rw [if_pos hc, if_neg (by unfold zs at *; omega)]
    have hj : 64 * (n / 64) + i - (n + 1 + zs n) < 8 := by unfold zs at *; omega
    have e1 : (bytesOf (n * 8) 8).getD (64 * (n / 64) + i - (n + 1 + zs n)) 0 = byteAt (n * 8) 8 (64 * (n / 64) + i - (n + 1 + zs n)) := by
      simp [bytesOf, List.getD, hj]
    rw [e1]
    unfold byteAt
    rw [show (256 : Nat) = 2 ^ 8 by decide, ← Nat.pow_mul]
    have e2 : 8 * (8 - 1 - (64 * (n / 64) + i - (n + 1 + zs n))) = 8 * (64 * (B - n / 64) - 1 - i) := by unfold zs at *; omega
    rw [e2]
  · rw [if_neg hc, if_pos (by unfold zs at *; omega), getD_app, hl]
    by_cases h2 : i < n % 64
    · rw [if_pos (by omega), if_pos h2]
      simp [List.getD, List.getElem?_drop]
    · rw [if_neg (by omega), if_neg h2]
      by_cases h3 : i = n % 64
      · rw [if_pos h3, show 64 * (n / 64) + i - n = 0 by omega]
        rfl
      · rw [if_neg h3]
        obtain ⟨q, hq⟩ : ∃ q, 64 * (n / 64) + i - n = q + 1 := ⟨64 * (n / 64) + i - n - 1, by omega⟩
        rw [hq]
        show (List.replicate (zs n) 0).getD q 0 = 0
        exact getD_rep _ _
end Go.Proofs.YtfmdhcjniikfdaaGreatDoor.sumDoor
