/- The bytes of a state. -/
import Derived.Test.YthhflkgngencdaaGreatDoorMa08
import Derived.Deep.RegionWith
import Derived.Test.YthhflkgngencdaaGreatDoorMa03
import Derived.Laws.OwnMore
import Derived.Laws.AppendOwnNone
import Derived.Deep.AppendLies
import Derived.Test.YthhflkgngencdaaGreatDoorMa01
namespace Go.Proofs.YthhflkgngencdaaGreatDoor.sumDoor
open Go.ChangeShapes Go.WideShapes Go.ChangeAt Go.RowKit Go.Proofs.YthhflkgngencdaaGreatDoor.sumPlain
set_option linter.unusedVariables false
set_option maxRecDepth 100000

/-- A byte of eight words. -/
def outByte (s : Eight) (j : Nat) : Nat := s.nth (j / 4) / 2 ^ (8 * (3 - j % 4)) % 256
def outTo (s : Eight) (k j : Nat) : Nat := if j < k then outByte s j else 0
def outList (s : Eight) : List Nat := (List.range 32).map (outByte s)
theorem index8' (w : World) (t : Eight) (k : Nat) (h : k < 8) : (Instr.index 301 (.agg (cells8 .u32 t)) (.int .i64 (k : Int))).run Tryz.prog w = .ok (.int .u32 (t.nth k : Nat)) w := index8 w t k h

theorem start14 (w : World) (cs Z : Array Value) (t u : TypeId) :
    (((w.alloc (.cells cs t)).alloc (.cells Z u)).alloc (.cells Z u)).heap[w.heap.size]? = some (.cells cs t (0, 0)) ∧
    (((w.alloc (.cells cs t)).alloc (.cells Z u)).alloc (.cells Z u)).heap[w.heap.size + 1]? = some (.cells Z u (0, 0)) ∧
    (((w.alloc (.cells cs t)).alloc (.cells Z u)).alloc (.cells Z u)).heap[w.heap.size + 1 + 1]? = some (.cells Z u (0, 0)) ∧
    Below w.heap.size w (((w.alloc (.cells cs t)).alloc (.cells Z u)).alloc (.cells Z u)) := by
  refine ⟨?_, ?_, ?_, ?_⟩
  · rw [Below.heap_alloc _ _ _ (by simp; omega), Below.heap_alloc _ _ _ (by simp)]
    exact heap_alloc_new _ _
  · rw [Below.heap_alloc _ _ _ (by simp)]
    have := heap_alloc_new (w.alloc (.cells cs t)) (.cells Z u)
    simpa using this
  · have := heap_alloc_new ((w.alloc (.cells cs t)).alloc (.cells Z u)) (.cells Z u)
    simpa using this
  · exact (((Below.refl _ _).alloc (Nat.le_refl _) _).alloc (by simp) _).alloc (by simp; omega) _
theorem rep_row {w : World} {g : Nat} {t : TypeId} {n : Nat} {v : Value} (h : w.heap[g]? = some (.cells (Array.replicate n v) t (0, 0))) : w.rowIs g t n (fun _ => v) :=
  ⟨_, h, by simp, fun i hi => by simp [hi]⟩
theorem out_start {w : World} {g : Nat} {t : TypeId} {s : Eight} (h : w.rowIs g t 32 (fun _ => .int .u8 0)) : w.rowIs g t 32 (fun j => .int .u8 (outTo s 0 j : Nat)) :=
  h.congr fun i _ => by simp [outTo]
theorem out_step {w : World} {g m : Nat} {t : TypeId} {s : Eight} {v : Int} (hv : v = (outByte s m : Nat)) (h : w.rowIs g t 32 (fun j => .int .u8 (outTo s m j : Nat))) : (w.setCell ⟨g, m, none⟩ (.int .u8 v)).rowIs g t 32 (fun j => .int .u8 (outTo s (m + 1) j : Nat)) := by
  refine (h.set _ _).congr fun j hj => ?_
  by_cases e : j = m
  · subst e
    simp [outTo, hv]
  · have : (j < m + 1) ↔ (j < m) := by omega
    simp [e, outTo, this]

theorem outByte0 (s : Eight) (k : Nat) (h : s.nth k < 4294967296) : outByte s (4 * k) = s.nth k / 16777216 := by
  unfold outByte
  rw [show 4 * k / 4 = k by omega, show 4 * k % 4 = 0 by omega]
  omega
theorem outByte1 (s : Eight) (k : Nat) : outByte s (4 * k + 1) = s.nth k / 65536 % 256 := by
  unfold outByte
  rw [show (4 * k + 1) / 4 = k by omega, show (4 * k + 1) % 4 = 1 by omega]
theorem outByte2 (s : Eight) (k : Nat) : outByte s (4 * k + 2) = s.nth k / 256 % 256 := by
  unfold outByte
  rw [show (4 * k + 2) / 4 = k by omega, show (4 * k + 2) % 4 = 2 by omega]
theorem outByte3 (s : Eight) (k : Nat) : outByte s (4 * k + 3) = s.nth k % 256 := by
  unfold outByte
  rw [show (4 * k + 3) / 4 = k by omega, show (4 * k + 3) % 4 = 3 by omega]
  simp
theorem size32 (cs : Array Value) (h : cs.size = 32) : (Tryz.prog.info? 273).map (·.size) = some cs.size := by
  rw [h]
  kernel_rfl

set_option maxRecDepth 100000 in
set_option maxHeartbeats 1000000 in
theorem told_any (w : World) (s : Eight) (hs : s.Ok) :
    Calls Tryz.prog 225 #[.agg (cells8 .u32 s)] w fun e w' => e = .returned (.agg (cellsOf .u8 (outList s))) ∧ Below w.heap.size w w' := by
  have HS := Lib.hid hs
  have HP := Lib.hid (size8 s)
  have HF := Lib.hid (start14 w (cells8 .u32 s) (Array.replicate 32 (.int .u8 0)) 301 273)
  clear hs
  go_enter Tryz.func225, Tryz.ntmps225
  go_wp2_with (refine wpList_load_row rfl 301 (.tmp 1) rfl w.heap.size rfl 301 _ (0, 0) _ HF.out.1 Tryz.underlying301 rfl HP.out ?_)
  go_loopw [4, 5, 7] (fun _ _ i wr => ∃ k : Nat, k ≤ 8 ∧ i = .int .i64 k ∧ wr.rowIs (w.heap.size + 1 + 1) 273 32 (fun j => .int .u8 (outTo s (4 * k) j : Nat)) ∧ wr.rowIs (w.heap.size + 1) 273 32 (fun _ => .int .u8 0) ∧ Below w.heap.size w wr) (fun _ _ i _ => 8 - (intOf i).toNat)
  case atStart => exact ⟨0, by omega, rfl, out_start (rep_row HF.out.2.2.1), rep_row HF.out.2.1, HF.out.2.2.2⟩
  case round =>
    clear HF
    obtain ⟨k, hk, rfl, hr, hz, hbel⟩ := hrel
    by_cases hlt : k < 8
    · have hidx := fun w => index8' w s k hlt
      have o1 := nth_lt HS.out k
      have c0 := hr.cell (i := 4 * k) (by omega)
      have c1 := hr.cell (i := 4 * k + 1) (by omega)
      have c2 := hr.cell (i := 4 * k + 2) (by omega)
      have c3 := hr.cell (i := 4 * k + 3) (by omega)
      have f0 := hr.frozen (4 * k)
      have f1 := hr.frozen (4 * k + 1)
      have f2 := hr.frozen (4 * k + 2)
      have f3 := hr.frozen (4 * k + 3)
      have HR := Lib.hid hr
      have HZ := Lib.hid hz
      have HBel := Lib.hid hbel
      have lk : (k : Int) < 8 := by omega
      clear hr hz hbel
      go_wp2
      go_roundw
      case rel =>
        refine ⟨k + 1, by omega, by go_num, ?_, (((HZ.out.setOther (by simp) _).setOther (by simp) _).setOther (by simp) _).setOther (by simp) _, (((HBel.out.setCell (by simp; omega) _).setCell (by simp; omega) _).setCell (by simp; omega) _).setCell (by simp; omega) _⟩
        have h0 := out_step (v := ((s.nth k : Nat) : Int) / 16777216) (by rw [outByte0 s k o1]; simp) HR.out
        have h1 := out_step (v := ((s.nth k : Nat) : Int) / 65536 % 256) (by rw [outByte1 s k]; simp) h0
        have h2 := out_step (v := ((s.nth k : Nat) : Int) / 256 % 256) (by rw [outByte2 s k]; simp) h1
        exact out_step (v := ((s.nth k : Nat) : Int) % 256) (by rw [outByte3 s k]; simp) h2
      case measure => simp [intOf]; omega
    · obtain rfl : k = 8 := by omega
      obtain ⟨cs, hcs, hsz, hget⟩ := hr
      obtain ⟨cz, hcz, hzz, _⟩ := hz
      obtain rfl : cs = cellsOf .u8 (outList s) := row_list hsz (fun i hi => by rw [hget i hi]; simp [outTo, hi])
      have HCS := Lib.hid hcs
      have HCZ := Lib.hid hcz
      have HBel := Lib.hid hbel
      have HP2 := Lib.hid (size32 _ hsz)
      have HA := Lib.hid (all_cells .u8 (outList s))
      have HZ2 := Lib.hid (hzz.trans hsz.symm)
      clear hcs hcz hbel hget hsz hzz
      go_wp2_with (first | (refine wpList_load_row rfl 273 (.tmp 3) rfl (w.heap.size + 1 + 1) rfl 273 _ (0, 0) _ HCS.out Tryz.underlying273 rfl HP2.out ?_) | (refine wpList_store_row rfl 273 (.tmp 2) (.tmp 38) rfl (w.heap.size + 1) _ rfl rfl 273 _ HCZ.out HP2.out HZ2.out HA.out ?_))
      refine bodyPost_ret (v := .agg (cellsOf .u8 (outList s))) ?_ rfl ⟨rfl, ?_⟩
      · refine results_cell_row Tryz.results225 _ _ (w.heap.size + 1) 273 _ (0, 0) _ rfl ?_ Tryz.underlying273 rfl HP2.out
        exact row_new HCZ.out
      · exact below_setRow HBel.out (by omega) _
end Go.Proofs.YthhflkgngencdaaGreatDoor.sumDoor
namespace Go.Proofs.YthhflkgngencdaaGreatDoor.sumDoor
open Go.ChangeShapes Go.WideShapes Go.ChangeAt Go.RowKit Go.Proofs.YthhflkgngencdaaGreatDoor.sumPlain
set_option linter.unusedVariables false
set_option maxRecDepth 100000

/-- The state behind m blocks. -/
def chunk (s : Eight) (l : List Nat) : Nat → Eight
  | 0 => s
  | m + 1 => block (chunk s l m) (fun i => (l.drop (64 * m)).getD i 0)
def digest (l : List Nat) : Eight := chunk (chunk seed8 l (l.length / 64)) (padList (l.drop (64 * (l.length / 64))) (l.length * 8) (padEnd (l.length % 64))) (padEnd (l.length % 64) / 64)
theorem seed_ok : seed8.Ok := by unfold Eight.Ok seed8; decide
theorem chunk_ok {s : Eight} (h : s.Ok) (l : List Nat) : ∀ m, (chunk s l m).Ok
  | 0 => h
  | m + 1 => add_ok _ _

/-- What lies in memory while a digest is made. -/
def Dig (w : World) (S : Nat) (s : Eight) (wr : World) : Prop :=
  wr.heap[S]? = some (.cells (cells8 .u32 s) 301 (0, 0)) ∧ wr.heap[w.heap.size]? = some (.cells (Array.replicate 32 (.int .u8 0)) 273 (0, 0)) ∧ w.heap.size < S ∧ Below w.heap.size w wr
theorem lt_of_heap {w : World} {g : Nat} {o : Obj} (h : w.heap[g]? = some o) : g < w.heap.size := (Array.getElem?_eq_some_iff.1 h).1
theorem Dig.below {w wr w' : World} {S : Nat} {s : Eight} (h : Dig w S s wr) (hb : Below wr.heap.size wr w') : Dig w S s w' :=
  ⟨(hb.block _ (lt_of_heap h.1)).trans h.1, (hb.block _ (lt_of_heap h.2.1)).trans h.2.1, h.2.2.1, h.2.2.2.trans (hb.mono h.2.2.2.size)⟩
theorem Dig.draws {w wr : World} {S : Nat} {s : Eight} (h : Dig w S s wr) (n : Nat) : Dig w S s (wr.drewN n) := ⟨h.1, h.2.1, h.2.2.1, below_draws h.2.2.2 n⟩
theorem Dig.put {w wr : World} {S : Nat} {s t : Eight} (h : Dig w S s wr) : Dig w S t (wr.setRow S (cells8 .u32 t)) := by
  refine ⟨row_new h.1, ?_, h.2.2.1, below_setRow h.2.2.2 (Nat.le_of_lt h.2.2.1) _⟩
  have := h.2.2.1
  simp only [World.setRow, Array.getElem?_modify]
  rw [if_neg (by omega)]
  exact h.2.1
theorem dig_start {w w1 : World} {Z Z' : Array Value} (hZ : Z' = Array.replicate 32 (.int .u8 0)) (hz : Z.size = 8) (hb : Below (w.heap.size + 1) (w.alloc (.cells Z' 273)) w1) :
    (w1.alloc (.cells Z 301)).heap[w1.heap.size]? = some (.cells Z 301 (0, 0)) ∧ Dig w w1.heap.size seed8 ((w1.alloc (.cells Z 301)).setRow w1.heap.size (cells8 .u32 seed8)) := by
  subst hZ
  have hlt : w.heap.size < w1.heap.size := by have := hb.size; simp at this; omega
  have h0 := heap_alloc_new w1 (.cells Z 301)
  refine ⟨h0, row_new h0, ?_, hlt, ?_⟩
  · simp only [World.setRow, Array.getElem?_modify]
    rw [if_neg (by omega), Below.heap_alloc _ _ _ hlt, hb.block _ (by omega)]
    exact heap_alloc_new _ _
  · exact below_setRow ((((Below.refl _ _).alloc (Nat.le_refl _) _).trans (hb.mono (by omega))).alloc (by omega) _) (by omega) _

theorem Dig.set_ {w wr : World} {S i : Nat} {cs : Array Value} {v : Value} (h : wr.heap[S]? = some (.cells cs 301 (0, 0)) ∧ wr.heap[w.heap.size]? = some (.cells (Array.replicate 32 (.int .u8 0)) 273 (0, 0)) ∧ w.heap.size < S ∧ Below w.heap.size w wr) :
    (wr.setCell ⟨S, i, none⟩ v).heap[S]? = some (.cells (cs.setIfInBounds i v) 301 (0, 0)) ∧ (wr.setCell ⟨S, i, none⟩ v).heap[w.heap.size]? = some (.cells (Array.replicate 32 (.int .u8 0)) 273 (0, 0)) ∧ w.heap.size < S ∧ Below w.heap.size w (wr.setCell ⟨S, i, none⟩ v) := by
  have hlt := h.2.2.1
  refine ⟨?_, (Below.heap_setCell _ _ _ _ (by simp; omega)).trans h.2.1, hlt, h.2.2.2.setCell (Nat.le_of_lt hlt) _⟩
  simp [World.setCell, Array.getElem?_modify, h.1]
theorem Dig.put8 {w wr : World} {S : Nat} {s t : Eight} (h : Dig w S s wr) : Dig w S t ((((((((wr.setCell ⟨S, 0, none⟩ (.int .u32 t.a)).setCell ⟨S, 1, none⟩ (.int .u32 t.b)).setCell ⟨S, 2, none⟩ (.int .u32 t.c)).setCell ⟨S, 3, none⟩ (.int .u32 t.d)).setCell ⟨S, 4, none⟩ (.int .u32 t.e)).setCell ⟨S, 5, none⟩ (.int .u32 t.f)).setCell ⟨S, 6, none⟩ (.int .u32 t.g)).setCell ⟨S, 7, none⟩ (.int .u32 t.h)) :=
by
  have h1 := Dig.set_ (i := 0) (v := .int .u32 t.a) h
  have h2 := Dig.set_ (i := 1) (v := .int .u32 t.b) h1
  have h3 := Dig.set_ (i := 2) (v := .int .u32 t.c) h2
  have h4 := Dig.set_ (i := 3) (v := .int .u32 t.d) h3
  have h5 := Dig.set_ (i := 4) (v := .int .u32 t.e) h4
  have h6 := Dig.set_ (i := 5) (v := .int .u32 t.f) h5
  have h7 := Dig.set_ (i := 6) (v := .int .u32 t.g) h6
  have h8 := Dig.set_ (i := 7) (v := .int .u32 t.h) h7
  have e : ((((((((cells8 .u32 s).setIfInBounds 0 (.int .u32 t.a)).setIfInBounds 1 (.int .u32 t.b)).setIfInBounds 2 (.int .u32 t.c)).setIfInBounds 3 (.int .u32 t.d)).setIfInBounds 4 (.int .u32 t.e)).setIfInBounds 5 (.int .u32 t.f)).setIfInBounds 6 (.int .u32 t.g)).setIfInBounds 7 (.int .u32 t.h) = cells8 .u32 t := by
    simp [cells8]
  rw [e] at h8
  exact h8
theorem Bytes.cut {w : World} {b o k c : Nat} {l : List Nat} (h : Bytes w (some ⟨b, o, none⟩) k l) (hc : k ≤ c) (hk : 64 ≤ k) :
    Bytes w (if c = 64 then some ⟨b, o, none⟩ else some ⟨b, o + 64, none⟩) (k - 64) (l.drop 64) := by
  refine ⟨by rw [List.length_drop, h.1], fun x hx => h.2.1 x (List.mem_of_mem_drop hx), fun hn => ?_⟩
  obtain ⟨b', o', e, hcell⟩ := h.2.2 (by omega)
  cases e
  rw [if_neg (by omega)]
  refine ⟨b, o + 64, rfl, fun i hi => ?_⟩
  rw [Nat.add_assoc, hcell (64 + i) (by omega)]
  simp [List.getD]
def lenOf : Value → Nat | .slice _ n _ => n | _ => 0
theorem dig_cells {w wr : World} {S : Nat} {s : Eight} (h : Dig w S s wr) : wr.cell? ⟨S, 0, none⟩ = some (.int .u32 s.a) ∧ wr.cell? ⟨S, 1, none⟩ = some (.int .u32 s.b) ∧ wr.cell? ⟨S, 2, none⟩ = some (.int .u32 s.c) ∧ wr.cell? ⟨S, 3, none⟩ = some (.int .u32 s.d) ∧
    wr.cell? ⟨S, 4, none⟩ = some (.int .u32 s.e) ∧ wr.cell? ⟨S, 5, none⟩ = some (.int .u32 s.f) ∧ wr.cell? ⟨S, 6, none⟩ = some (.int .u32 s.g) ∧ wr.cell? ⟨S, 7, none⟩ = some (.int .u32 s.h) :=
  ⟨cell_of_row _ _ _ _ _ _ h.1, cell_of_row _ _ _ _ _ _ h.1, cell_of_row _ _ _ _ _ _ h.1, cell_of_row _ _ _ _ _ _ h.1, cell_of_row _ _ _ _ _ _ h.1, cell_of_row _ _ _ _ _ _ h.1, cell_of_row _ _ _ _ _ _ h.1, cell_of_row _ _ _ _ _ _ h.1⟩
theorem dig_free {w wr : World} {S : Nat} {s : Eight} (h : Dig w S s wr) : wr.frozen? ⟨S, 0, none⟩ = false ∧ wr.frozen? ⟨S, 1, none⟩ = false ∧ wr.frozen? ⟨S, 2, none⟩ = false ∧ wr.frozen? ⟨S, 3, none⟩ = false ∧
    wr.frozen? ⟨S, 4, none⟩ = false ∧ wr.frozen? ⟨S, 5, none⟩ = false ∧ wr.frozen? ⟨S, 6, none⟩ = false ∧ wr.frozen? ⟨S, 7, none⟩ = false :=
  ⟨frozen_of_row _ _ _ _ _ h.1, frozen_of_row _ _ _ _ _ h.1, frozen_of_row _ _ _ _ _ h.1, frozen_of_row _ _ _ _ _ h.1, frozen_of_row _ _ _ _ _ h.1, frozen_of_row _ _ _ _ _ h.1, frozen_of_row _ _ _ _ _ h.1, frozen_of_row _ _ _ _ _ h.1⟩
theorem sched_in {w v : World} {S : Nat} {s : Eight} {b o k c : Nat} {l : List Nat} (hB : Bytes w (some ⟨b, o, none⟩) k l) (hv : Dig w S s v) (hk : 64 ≤ k) (hm : k ≤ maxLen) :
    Calls Tryz.prog 223 #[.slice (some ⟨b, o, none⟩) k c] v fun e w' => e = .returned (.agg (cellsOf .u32 (words (fun i => l.getD i 0) 64))) ∧ Dig w S s w' :=
  (scheduled_any v b o k c l (hB.below hB.lt hv.2.2.2) hk hm).mono fun _ _ ⟨he, hb⟩ => ⟨he, hv.below hb⟩
/-- Behind a block. -/
def Turned (s : Eight) (ws : List Nat) (w : World) (S : Nat) (e : Ending) (w' : World) : Prop :=
  ∃ t, t = s.add (rounds ws s 64) ∧ e = .returned (.agg #[.int .u32 t.a, .int .u32 t.b, .int .u32 t.c, .int .u32 t.d, .int .u32 t.e, .int .u32 t.f, .int .u32 t.g, .int .u32 t.h]) ∧ Dig w S s w'
theorem turned_in {w v : World} {S : Nat} {s : Eight} {ws : List Nat} (hs : s.Ok) (hw : ws.length = 64) (hlt : ∀ x ∈ ws, x < 4294967296) (hL : Laid w) (hv : Dig w S s v) :
    Calls Tryz.prog 222 #[.agg #[.int .u32 s.a, .int .u32 s.b, .int .u32 s.c, .int .u32 s.d, .int .u32 s.e, .int .u32 s.f, .int .u32 s.g, .int .u32 s.h], .agg (cellsOf .u32 ws)] v fun e w' => Turned s ws w S e w' :=
  (turnedBlock_any v s ws hs hw hlt (hL.below hL.lt hv.2.2.2)).mono fun _ _ ⟨he, hb⟩ => ⟨_, rfl, he, hv.below hb⟩

theorem lastBlocks_i (w : World) (A : Option Addr) (n c bs : Nat) (v : Int) (hv : v = bs) (l : List Nat) (hB : Bytes w A n l) (hn : n < 64) (hbs : bs < 18446744073709551616) :
    Calls Tryz.prog 224 #[.slice A n c, .int .u64 v] w fun r w' => r = .returned (.tuple #[.agg (cellsOf .u8 (padList l bs (padEnd n))), .int .i64 (padEnd n : Nat)]) ∧ Below w.heap.size w w' := by
  subst hv
  exact lastBlocks_any w A n c bs l hB hn hbs
/-- With the padded rest. -/
def Dig2 (w : World) (S : Nat) (s : Eight) (T : Nat) (P : List Nat) (wr : World) : Prop := Dig w S s wr ∧ wr.heap[T]? = some (.cells (cellsOf .u8 P) 306 (0, 0)) ∧ S < T
theorem dig_pad {w w5 : World} {S : Nat} {s : Eight} {P : List Nat} (h : Dig w S s w5) (hP : P.length = 128) :
    (w5.alloc (.cells room.toArray 306)).heap[w5.heap.size]? = some (.cells room.toArray 306 (0, 0)) ∧ Dig2 w S s w5.heap.size P ((w5.alloc (.cells room.toArray 306)).setRow w5.heap.size (cellsOf .u8 P)) := by
  have h0 := heap_alloc_new w5 (.cells room.toArray 306)
  have hS := lt_of_heap h.1
  have hlt := h.2.2.1
  refine ⟨h0, ⟨?_, ?_, hlt, ?_⟩, row_new h0, hS⟩
  · simp only [World.setRow, Array.getElem?_modify]
    rw [if_neg (by omega), Below.heap_alloc _ _ _ hS]
    exact h.1
  · simp only [World.setRow, Array.getElem?_modify]
    rw [if_neg (by omega), Below.heap_alloc _ _ _ (by omega)]
    exact h.2.1
  · exact below_setRow (h.2.2.2.alloc (by omega) _) (by omega) _

theorem Dig2.below {w wr w' : World} {S T : Nat} {s : Eight} {P : List Nat} (h : Dig2 w S s T P wr) (hb : Below wr.heap.size wr w') : Dig2 w S s T P w' :=
  ⟨h.1.below hb, (hb.block _ (lt_of_heap h.2.1)).trans h.2.1, h.2.2⟩
theorem Dig2.draws {w wr : World} {S T : Nat} {s : Eight} {P : List Nat} (h : Dig2 w S s T P wr) (n : Nat) : Dig2 w S s T P (wr.drewN n) := ⟨h.1.draws n, h.2⟩
theorem Dig2.put8 {w wr : World} {S T : Nat} {s t : Eight} {P : List Nat} (h : Dig2 w S s T P wr) : Dig2 w S t T P ((((((((wr.setCell ⟨S, 0, none⟩ (.int .u32 t.a)).setCell ⟨S, 1, none⟩ (.int .u32 t.b)).setCell ⟨S, 2, none⟩ (.int .u32 t.c)).setCell ⟨S, 3, none⟩ (.int .u32 t.d)).setCell ⟨S, 4, none⟩ (.int .u32 t.e)).setCell ⟨S, 5, none⟩ (.int .u32 t.f)).setCell ⟨S, 6, none⟩ (.int .u32 t.g)).setCell ⟨S, 7, none⟩ (.int .u32 t.h)) := by
  have hn : ∀ i, T ≠ (Addr.mk S i none).block := fun i => by have := h.2.2; simp; omega
  refine ⟨h.1.put8, ?_, h.2.2⟩
  rw [Below.heap_setCell _ _ _ _ (hn 7), Below.heap_setCell _ _ _ _ (hn 6), Below.heap_setCell _ _ _ _ (hn 5), Below.heap_setCell _ _ _ _ (hn 4), Below.heap_setCell _ _ _ _ (hn 3), Below.heap_setCell _ _ _ _ (hn 2), Below.heap_setCell _ _ _ _ (hn 1), Below.heap_setCell _ _ _ _ (hn 0)]
  exact h.2.1
theorem Dig2.bytes {w v : World} {S T o k : Nat} {s : Eight} {P : List Nat} (h : Dig2 w S s T P v) (hl : P.length = 128) (hb : ∀ x ∈ P, x < 256) (hk : o + k = 128) : Bytes v (some ⟨T, o, none⟩) k (P.drop o) := by
  refine ⟨by rw [List.length_drop]; omega, fun x hx => hb x (List.mem_of_mem_drop hx), fun _ => ⟨T, o, rfl, fun i hi => ?_⟩⟩
  rw [cell_of_row _ _ _ _ _ _ h.2.1]
  have : o + i < P.length := by omega
  simp [cellsOf, List.getD, this]
theorem sched_in2 {w v : World} {S T o k j : Nat} {s : Eight} {P : List Nat} (h : Dig2 w S s T P v) (hl : P.length = 128) (hb : ∀ x ∈ P, x < 256) (ho : o = 64 * j) (hk : o + k = 128 ∧ 64 ≤ k) :
    Calls Tryz.prog 223 #[.slice (some ⟨T, o, none⟩) k k] v fun e w' => e = .returned (.agg (cellsOf .u32 (words (fun i => (P.drop (64 * j)).getD i 0) 64))) ∧ Dig2 w S s T P w' := by
  subst ho
  exact (scheduled_any v T (64 * j) k k (P.drop (64 * j)) (h.bytes hl hb hk.1) hk.2 (by unfold maxLen; omega)).mono fun _ _ ⟨he, hb⟩ => ⟨he, h.below hb⟩
def Turned2 (s : Eight) (ws : List Nat) (w : World) (S T : Nat) (P : List Nat) (e : Ending) (w' : World) : Prop :=
  ∃ t, t = s.add (rounds ws s 64) ∧ e = .returned (.agg #[.int .u32 t.a, .int .u32 t.b, .int .u32 t.c, .int .u32 t.d, .int .u32 t.e, .int .u32 t.f, .int .u32 t.g, .int .u32 t.h]) ∧ Dig2 w S s T P w'
theorem turned_in2 {w v : World} {S T : Nat} {s : Eight} {ws P : List Nat} (hs : s.Ok) (hw : ws.length = 64) (hlt : ∀ x ∈ ws, x < 4294967296) (hL : Laid w) (hv : Dig2 w S s T P v) :
    Calls Tryz.prog 222 #[.agg #[.int .u32 s.a, .int .u32 s.b, .int .u32 s.c, .int .u32 s.d, .int .u32 s.e, .int .u32 s.f, .int .u32 s.g, .int .u32 s.h], .agg (cellsOf .u32 ws)] v fun e w' => Turned2 s ws w S T P e w' :=
  (turnedBlock_any v s ws hs hw hlt (hL.below hL.lt hv.1.2.2.2)).mono fun _ _ ⟨he, hb⟩ => ⟨_, rfl, he, hv.below hb⟩
theorem pad_lt {l : List Nat} (h : ∀ x ∈ l, x < 256) (bs e : Nat) : ∀ x ∈ padList l bs e, x < 256 := by
  intro x hx
  obtain ⟨j, _, rfl⟩ := List.mem_map.1 hx
  unfold padTo
  split
  · exact Nat.mod_lt _ (by omega)
  · split
    · exact getD_lt256 h j
    · split <;> omega

set_option maxRecDepth 100000 in
set_option maxHeartbeats 2000000 in
theorem digest_any (w : World) (A : Option Addr) (n c : Nat) (l : List Nat) (hB : Bytes w A n l) (hn : n ≤ 40000) (hc : n ≤ c) (hL : Laid w) :
    Calls Tryz.prog 200 #[.slice A n c] w fun e w' => e = .returned (.agg (cellsOf .u8 (outList (digest l)))) ∧ Below w.heap.size w w' := by
  have HB := Lib.hid hB
  have HL := Lib.hid hL
  have HP := Lib.hid (size8 seed8)
  have HA := Lib.hid (all8 .u32 seed8)
  clear hB hL
  go_enter Tryz.func200, Tryz.ntmps200
  go_wp2_with fail
  refine (firstState_any _).mono ?_
  rintro e w1 ⟨rfl, hb1⟩
  have HD := Lib.hid (dig_start (Z := #[.int .u32 0, .int .u32 0, .int .u32 0, .int .u32 0, .int .u32 0, .int .u32 0, .int .u32 0, .int .u32 0]) rfl rfl (hb1.mono (by simp)))
  clear hb1
  go_wp2_with (refine wpList_store_row rfl 301 (.tmp 3) (.tmp 8) rfl w1.heap.size _ rfl rfl 301 _ HD.out.1 HP.out rfl HA.out ?_)
  obtain ⟨-, HD⟩ := HD.out
  have HD := Lib.hid HD
  generalize (w1.alloc (.cells #[.int .u32 0, .int .u32 0, .int .u32 0, .int .u32 0, .int .u32 0, .int .u32 0, .int .u32 0, .int .u32 0] 301)).setRow w1.heap.size (cells8 .u32 seed8) = w2 at *
  generalize w1.heap.size = S at *
  go_loopw [4] (fun v wr => ∃ (m : Nat) (A' : Option Addr) (c' : Nat), 64 * m ≤ n ∧ n - 64 * m ≤ c' ∧ v = .slice A' (n - 64 * m) c' ∧ Bytes w A' (n - 64 * m) (l.drop (64 * m)) ∧ Dig w S (chunk seed8 l m) wr) (fun v _ => lenOf v)
  case atStart => exact ⟨0, A, c, by omega, by omega, rfl, by simpa using HB.out, HD.out⟩
  case round =>
    clear HD
    obtain ⟨m, A', c', hm, hc', rfl, hBm, hdig⟩ := hrel
    by_cases hge : 64 ≤ n - 64 * m
    · obtain ⟨b, o, rfl, hcs⟩ := hBm.2.2 (by omega)
      obtain ⟨k, hk⟩ : ∃ k, k = n - 64 * m := ⟨_, rfl⟩
      rw [← hk] at hBm hge hc' ⊢
      have hk1 : k ≤ 40000 := by omega
      obtain ⟨s, hs⟩ : ∃ s, s = chunk seed8 l m := ⟨_, rfl⟩
      have HOK : Hid s.Ok := by rw [hs]; exact chunk_ok seed_ok l m
      rw [← hs] at hdig
      have HK := Lib.hid hk
      have HS := Lib.hid hs
      have HBM := Lib.hid hBm
      have HDg := Lib.hid hdig
      obtain ⟨ws, hws, hwl, hwt, hsc⟩ : ∃ ws : List Nat, ws = words (fun i => (l.drop (64 * m)).getD i 0) 64 ∧ ws.length = 64 ∧ (∀ x ∈ ws, x < 4294967296) ∧ ∀ v : World, Dig w S s v → Calls Tryz.prog 223 #[.slice (some ⟨b, o, none⟩) k c'] v fun e w' => e = .returned (.agg (cellsOf .u32 ws)) ∧ Dig w S s w' :=
        ⟨_, rfl, words_len _ _, words_lt (fun i => getD_lt256 HBM.out.2.1 i) 64, fun v hv => sched_in HBM.out hv hge (by unfold maxLen; omega)⟩
      have HSc := Lib.hid hsc
      have HTu := Lib.hid (fun (v : World) (hv : Dig w S s v) => turned_in HOK.out hwl hwt HL.out hv)
      have HWs := Lib.hid hws
      clear hws hwl hwt hsc
      obtain ⟨c0, c1, c2, c3, c4, c5, c6, c7⟩ := dig_cells hdig
      clear hk hs hBm hcs hdig
      have hge' : (64 : Int) ≤ (k : Int) := by omega
      go_wp2
      go_region_with (first
        | (go_at_call 223; refine (HSc.out _ ?_).mono ?_; exact HDg.out.draws 1; rintro e w3 ⟨rfl, hd3⟩; obtain ⟨d0, d1, d2, d3, d4, d5, d6, d7⟩ := dig_cells hd3; have HD3 := Lib.hid hd3; clear hd3)
        | (go_at_call 222; refine (HTu.out _ ?_).mono ?_; exact HD3.out; rintro e w4 ⟨t, ht, rfl, hd4⟩; obtain ⟨g0, g1, g2, g3, g4, g5, g6, g7⟩ := dig_cells hd4; obtain ⟨z0, z1, z2, z3, z4, z5, z6, z7⟩ := dig_free hd4; have HD4 := Lib.hid hd4; have HT4 := Lib.hid ht; clear hd4 ht))
      all_goals
        clear c0 c1 c2 c3 c4 c5 c6 c7 d0 d1 d2 d3 d4 d5 d6 d7
        go_wp2
        refine ⟨⟨m + 1, if c' = 64 then some ⟨b, o, none⟩ else some ⟨b, o + 64, none⟩, c' - 64, by have := HK.out; omega, by have := HK.out; omega, ?_, ?_, ?_⟩, ?_⟩
        · rw [show n - 64 * (m + 1) = k - 64 by have := HK.out; omega]
        · have := HBM.out.cut (c := c') hc' hge
          rw [show n - 64 * (m + 1) = k - 64 by have := HK.out; omega, show 64 * (m + 1) = 64 * m + 64 by omega, ← List.drop_drop]
          exact this
        · have := HD4.out.put8 (t := t)
          rw [show chunk seed8 l (m + 1) = t by rw [HT4.out, HWs.out, HS.out]; rfl]
          exact this
        · simp [lenOf]
          omega
    · obtain ⟨k, hk⟩ : ∃ k, k = n - 64 * m := ⟨_, rfl⟩
      obtain ⟨r, hr⟩ : ∃ r, r = l.drop (64 * m) := ⟨_, rfl⟩
      obtain ⟨s, hs⟩ : ∃ s, s = chunk seed8 l m := ⟨_, rfl⟩
      obtain ⟨en, hen⟩ : ∃ en, en = padEnd k := ⟨_, rfl⟩
      obtain ⟨P, hP⟩ : ∃ P, P = padList r (n * 8) en := ⟨_, rfl⟩
      have hend : en = 64 ∨ en = 128 := by rw [hen]; unfold padEnd; split <;> simp
      have HPl := Lib.hid (show P.length = 128 by rw [hP]; simp [padList])
      have HPb := Lib.hid (show ∀ x ∈ P, x < 256 by rw [hP, hr]; exact pad_lt (fun x hx => HB.out.2.1 x (List.mem_of_mem_drop hx)) _ _)
      rw [← hk, ← hr] at hBm
      rw [← hk] at hge hc' ⊢
      rw [← hs] at hdig
      have hk64 : k < 64 := by omega
      have hLB := lastBlocks_i wr A' k c' (n * 8) ((n : Int) * 8) (by simp) r (hBm.below hBm.lt hdig.2.2.2) hk64 (by omega)
      rw [← hen, ← hP] at hLB
      have HFin : Hid (digest l = chunk s P (en / 64)) := by
        have hln : l.length = n := HB.out.1
        have hmm : m = n / 64 := by omega
        have hkk : k = n % 64 := by omega
        unfold digest
        rw [hP, hen, hkk, hs, hr, hln, ← hmm]
        exact rfl
      have HOK : Hid s.Ok := by rw [hs]; exact chunk_ok seed_ok l m
      have HLB := Lib.hid hLB
      have HDg := Lib.hid hdig
      have HP2 := Lib.hid (size128 (cellsOf .u8 P) (by simp [cellsOf, HPl.out]))
      have HA2 := Lib.hid (all_cells .u8 P)
      have HZ2 := Lib.hid (show room.toArray.size = (cellsOf .u8 P).size by simp [cellsOf, HPl.out, room])
      have hz := zero37
      clear hLB hdig hBm hs hr hP hen hk HD
      have hge' : ¬ (64 : Int) ≤ (k : Int) := by omega
      go_wp2_with fail
      refine HLB.out.mono ?_
      rintro e w5 ⟨rfl, hb5⟩
      have HD5 := Lib.hid (dig_pad (HDg.out.below hb5) HPl.out)
      clear hb5
      go_wp2_with (refine wpList_store_row rfl 306 (.tmp 5) (.tmp 26) rfl w5.heap.size _ rfl rfl 306 _ HD5.out.1 HP2.out HZ2.out HA2.out ?_)
      obtain ⟨-, HD6⟩ := HD5.out
      have HD6 := Lib.hid HD6
      generalize (w5.alloc (.cells room.toArray 306)).setRow w5.heap.size (cellsOf .u8 P) = w6 at *
      generalize w5.heap.size = T at *
      go_loopw [7] (fun v wr => ∃ j : Nat, 64 * j ≤ en ∧ (j = 0 ∧ v = .int .i64 0 ∨ j = 1 ∧ v = .int .i64 64 ∨ j = 2 ∧ v = .int .i64 128) ∧ Dig2 w S (chunk s P j) T P wr) (fun v _ => 128 - (intOf v).toNat)
      case atStart => exact ⟨0, by omega, .inl ⟨rfl, rfl⟩, HD6.out⟩
      case round =>
        clear HD6
        obtain ⟨j, hj, hv, hdig⟩ := hrel
        by_cases hjl : 64 * j < en
        · rcases hv with ⟨rfl, rfl⟩ | ⟨rfl, rfl⟩ | ⟨rfl, rfl⟩
          · have hlt : ((0 : Int)) < (en : Int) := by omega
            have HOKj : Hid (chunk s P 0).Ok := chunk_ok HOK.out P 0
            obtain ⟨sj, hsj⟩ : ∃ sj, sj = chunk s P 0 := ⟨_, rfl⟩
            rw [← hsj] at hdig HOKj
            obtain ⟨ws, hws, hwl, hwt, hsc⟩ : ∃ ws : List Nat, ws = words (fun i => (P.drop (64 * 0)).getD i 0) 64 ∧ ws.length = 64 ∧ (∀ x ∈ ws, x < 4294967296) ∧ ∀ v : World, Dig2 w S sj T P v → Calls Tryz.prog 223 #[.slice (some ⟨T, 0, none⟩) 128 128] v fun e w' => e = .returned (.agg (cellsOf .u32 ws)) ∧ Dig2 w S sj T P w' :=
              ⟨_, rfl, words_len _ _, words_lt (fun i => getD_lt256 (fun x hx => HPb.out x (List.mem_of_mem_drop hx)) i) 64, fun v hv => sched_in2 (o := 0) (k := 128) hv HPl.out HPb.out rfl (by omega)⟩
            have HSc := Lib.hid hsc
            have HTu := Lib.hid (fun (v : World) (hv : Dig2 w S sj T P v) => turned_in2 HOKj.out hwl hwt HL.out hv)
            have HWs := Lib.hid hws
            have HSj := Lib.hid hsj
            have HDg := Lib.hid hdig
            obtain ⟨c0, c1, c2, c3, c4, c5, c6, c7⟩ := dig_cells hdig.1
            clear hws hwl hwt hsc hsj hdig
            go_wp2
            go_region_with (first
              | (go_at_call 223; refine (HSc.out _ ?_).mono ?_; exact HDg.out.draws 1; rintro e w3 ⟨rfl, hd3⟩; obtain ⟨d0, d1, d2, d3, d4, d5, d6, d7⟩ := dig_cells hd3.1; have HD3 := Lib.hid hd3; clear hd3)
              | (go_at_call 222; refine (HTu.out _ ?_).mono ?_; exact HD3.out; rintro e w4 ⟨t, ht, rfl, hd4⟩; obtain ⟨g0, g1, g2, g3, g4, g5, g6, g7⟩ := dig_cells hd4.1; obtain ⟨z0, z1, z2, z3, z4, z5, z6, z7⟩ := dig_free hd4.1; have HD4 := Lib.hid hd4; have HT4 := Lib.hid ht; clear hd4 ht))
            all_goals
              clear c0 c1 c2 c3 c4 c5 c6 c7 d0 d1 d2 d3 d4 d5 d6 d7
              go_wp2
              go_roundw
              case rel =>
                refine ⟨1, by omega, ?_, ?_⟩
                · simp
                · rw [show chunk s P 1 = t by rw [HT4.out, HWs.out, HSj.out]; rfl]
                  exact HD4.out.put8
              case measure => simp [intOf]
          · have hlt : ((64 : Int)) < (en : Int) := by omega
            have HOKj : Hid (chunk s P 1).Ok := chunk_ok HOK.out P 1
            obtain ⟨sj, hsj⟩ : ∃ sj, sj = chunk s P 1 := ⟨_, rfl⟩
            rw [← hsj] at hdig HOKj
            obtain ⟨ws, hws, hwl, hwt, hsc⟩ : ∃ ws : List Nat, ws = words (fun i => (P.drop (64 * 1)).getD i 0) 64 ∧ ws.length = 64 ∧ (∀ x ∈ ws, x < 4294967296) ∧ ∀ v : World, Dig2 w S sj T P v → Calls Tryz.prog 223 #[.slice (some ⟨T, 64, none⟩) 64 64] v fun e w' => e = .returned (.agg (cellsOf .u32 ws)) ∧ Dig2 w S sj T P w' :=
              ⟨_, rfl, words_len _ _, words_lt (fun i => getD_lt256 (fun x hx => HPb.out x (List.mem_of_mem_drop hx)) i) 64, fun v hv => sched_in2 (o := 64) (k := 64) hv HPl.out HPb.out rfl (by omega)⟩
            have HSc := Lib.hid hsc
            have HTu := Lib.hid (fun (v : World) (hv : Dig2 w S sj T P v) => turned_in2 HOKj.out hwl hwt HL.out hv)
            have HWs := Lib.hid hws
            have HSj := Lib.hid hsj
            have HDg := Lib.hid hdig
            obtain ⟨c0, c1, c2, c3, c4, c5, c6, c7⟩ := dig_cells hdig.1
            clear hws hwl hwt hsc hsj hdig
            go_wp2
            go_region_with (first
              | (go_at_call 223; refine (HSc.out _ ?_).mono ?_; exact HDg.out.draws 1; rintro e w3 ⟨rfl, hd3⟩; obtain ⟨d0, d1, d2, d3, d4, d5, d6, d7⟩ := dig_cells hd3.1; have HD3 := Lib.hid hd3; clear hd3)
              | (go_at_call 222; refine (HTu.out _ ?_).mono ?_; exact HD3.out; rintro e w4 ⟨t, ht, rfl, hd4⟩; obtain ⟨g0, g1, g2, g3, g4, g5, g6, g7⟩ := dig_cells hd4.1; obtain ⟨z0, z1, z2, z3, z4, z5, z6, z7⟩ := dig_free hd4.1; have HD4 := Lib.hid hd4; have HT4 := Lib.hid ht; clear hd4 ht))
            all_goals
              clear c0 c1 c2 c3 c4 c5 c6 c7 d0 d1 d2 d3 d4 d5 d6 d7
              go_wp2
              go_roundw
              case rel =>
                refine ⟨2, by omega, ?_, ?_⟩
                · simp
                · rw [show chunk s P 2 = t by rw [HT4.out, HWs.out, HSj.out]; rfl]
                  exact HD4.out.put8
              case measure => simp [intOf]
          · omega
        · rcases hv with ⟨rfl, rfl⟩ | ⟨rfl, rfl⟩ | ⟨rfl, rfl⟩
          · omega
          · have hnl : ¬ ((64 : Int)) < (en : Int) := by omega
            obtain ⟨sj, hsj⟩ : ∃ sj, sj = chunk s P 1 := ⟨_, rfl⟩
            have HOKj : Hid sj.Ok := by rw [hsj]; exact chunk_ok HOK.out P 1
            have HFj : Hid (digest l = sj) := by rw [hsj, HFin.out, show en / 64 = 1 by omega]; exact rfl
            rw [← hsj] at hdig
            have HDg := Lib.hid hdig.1
            have HP3 := Lib.hid (size8 sj)
            have HP4 := Lib.hid (size32 (cellsOf .u8 (outList sj)) (by simp [cellsOf, outList]))
            have HA4 := Lib.hid (all_cells .u8 (outList sj))
            have HZ4 := Lib.hid (show (Array.replicate 32 (Value.int .u8 0)).size = (cellsOf .u8 (outList sj)).size by simp [cellsOf, outList])
            clear hdig hsj
            go_wp2_with (first
              | (refine wpList_load_row rfl 301 (.tmp 3) rfl S rfl 301 _ (0, 0) _ HDg.out.1 Tryz.underlying301 rfl HP3.out ?_)
              | (go_at_call 225; refine (told_any _ sj HOKj.out).mono ?_; rintro e w7 ⟨rfl, hb7⟩; have HD7 := Lib.hid (HDg.out.below hb7); clear hb7)
              | (refine wpList_store_row rfl 273 (.tmp 2) (.tmp 39) rfl w.heap.size _ rfl rfl 273 _ HD7.out.2.1 HP4.out HZ4.out HA4.out ?_))
            refine bodyPost_ret (v := .agg (cellsOf .u8 (outList sj))) ?_ rfl ⟨by rw [HFj.out], ?_⟩
            · refine results_cell_row Tryz.results200 _ _ w.heap.size 273 _ (0, 0) _ rfl ?_ Tryz.underlying273 rfl HP4.out
              exact row_new HD7.out.2.1
            · exact below_setRow HD7.out.2.2.2 (Nat.le_refl _) _
          · have hnl : ¬ ((128 : Int)) < (en : Int) := by omega
            obtain ⟨sj, hsj⟩ : ∃ sj, sj = chunk s P 2 := ⟨_, rfl⟩
            have HOKj : Hid sj.Ok := by rw [hsj]; exact chunk_ok HOK.out P 2
            have HFj : Hid (digest l = sj) := by rw [hsj, HFin.out, show en / 64 = 2 by omega]; exact rfl
            rw [← hsj] at hdig
            have HDg := Lib.hid hdig.1
            have HP3 := Lib.hid (size8 sj)
            have HP4 := Lib.hid (size32 (cellsOf .u8 (outList sj)) (by simp [cellsOf, outList]))
            have HA4 := Lib.hid (all_cells .u8 (outList sj))
            have HZ4 := Lib.hid (show (Array.replicate 32 (Value.int .u8 0)).size = (cellsOf .u8 (outList sj)).size by simp [cellsOf, outList])
            clear hdig hsj
            go_wp2_with (first
              | (refine wpList_load_row rfl 301 (.tmp 3) rfl S rfl 301 _ (0, 0) _ HDg.out.1 Tryz.underlying301 rfl HP3.out ?_)
              | (go_at_call 225; refine (told_any _ sj HOKj.out).mono ?_; rintro e w7 ⟨rfl, hb7⟩; have HD7 := Lib.hid (HDg.out.below hb7); clear hb7)
              | (refine wpList_store_row rfl 273 (.tmp 2) (.tmp 39) rfl w.heap.size _ rfl rfl 273 _ HD7.out.2.1 HP4.out HZ4.out HA4.out ?_))
            refine bodyPost_ret (v := .agg (cellsOf .u8 (outList sj))) ?_ rfl ⟨by rw [HFj.out], ?_⟩
            · refine results_cell_row Tryz.results200 _ _ w.heap.size 273 _ (0, 0) _ rfl ?_ Tryz.underlying273 rfl HP4.out
              exact row_new HD7.out.2.1
            · exact below_setRow HD7.out.2.2.2 (Nat.le_refl _) _
end Go.Proofs.YthhflkgngencdaaGreatDoor.sumDoor
namespace Go.Proofs.YthhflkgngencdaaGreatDoor.sumDoor
open Go.ChangeShapes Go.WideShapes Go.ChangeAt Go.RowKit Go.Proofs.YthhflkgngencdaaGreatDoor.crcPlain
set_option linter.unusedVariables false
set_option maxRecDepth 100000

theorem Bytes.at2 {w : World} {A : Option Addr} {n : Nat} {l : List Nat} (h : Bytes w A n l) {k : Nat} (hk : k < n) :
    ∃ b o x, A = some ⟨b, o, none⟩ ∧ x < 256 ∧ l.take (k + 1) = l.take k ++ [x] ∧ w.cell? ⟨b, o + k, none⟩ = some (.int .u8 (x : Nat)) := by
  obtain ⟨hl, hb, hc⟩ := h
  obtain ⟨b, o, rfl, hd⟩ := hc (by omega)
  have hk' : k < l.length := by omega
  refine ⟨b, o, l[k], rfl, hb _ (List.getElem_mem hk'), ?_, ?_⟩
  · rw [List.take_succ_eq_append_getElem hk']
  · rw [hd k hk]; simp [List.getD, hk']

theorem take_bytes {l : List Nat} (h : ∀ b ∈ l, b < 256) (k : Nat) : ∀ b ∈ l.take k, b < 256 := fun b hb => h b (List.mem_of_mem_take hb)

theorem xor_i (a b : Nat) (ha : a < 4294967296) (hb : b < 4294967296) : bits .xor .u32 (a : Int) (b : Int) = ((a ^^^ b : Nat) : Int) := u32_xor_nat a b ha hb
theorem and1_i (a : Nat) (ha : a < 4294967296) : bits .and .u32 (a : Int) 1 = ((a % 2 : Nat) : Int) := by
  have := u32_and_nat a 1 ha (by omega)
  rw [nat_mask1] at this
  exact this

theorem poly_i (a : Nat) (ha : a < 4294967296) : bits .xor .u32 ((a : Int) / 2) 3988292384 = ((a / 2 ^^^ 3988292384 : Nat) : Int) := by
  have := u32_xor_nat (a / 2) 3988292384 (by omega) (by omega)
  exact this

set_option maxHeartbeats 1000000 in
theorem crc_any (A : Option Addr) (n c : Nat) (l : List Nat) (w : World) (h : Bytes w A n l) (hn : n ≤ maxLen) :
    Calls Tryz.prog 187 #[.slice A n c] w fun e w' => e = .returned (.int .u32 ((crcRun l ^^^ 4294967295 : Nat) : Int)) ∧ w = w' := by
  unfold maxLen at hn
  have HB := Lib.hid h
  have hlen := Lib.hid h.1
  have hb256 := Lib.hid h.2.1
  clear h
  go_enter Tryz.func187, Tryz.ntmps187
  go_wp2
  go_loop [3, 5, 6, 9] (fun s _ _ i => ∃ k : Nat, k ≤ n ∧ i = .int .i64 k ∧ s = .int .u32 (crcRun (l.take k) : Nat)) (fun _ _ _ i => n - (intOf i).toNat)
  case atStart => exact ⟨0, Nat.zero_le _, rfl, rfl⟩
  case round =>
    obtain ⟨k, hk, rfl, rfl⟩ := hrel
    by_cases hlt : k < n
    · obtain ⟨b, o, x, rfl, hx, htk, hcell⟩ := HB.out.at2 hlt
      have HT := Lib.hid htk
      clear htk
      have hC : crcRun (l.take k) < 4294967296 := crcRun_lt (take_bytes hb256.out k)
      have HX := Lib.hid (xor_i (crcRun (l.take k)) x hC (by omega))
      have HN : Hid (crcRun (l.take (k + 1)) = crcTurn (crcRun (l.take k)) x) := by rw [HT.out, crcRun_snoc]; exact rfl
      generalize crcRun (l.take k) = C at *
      have hX : C ^^^ x < 4294967296 := xor_lt32 hC (by omega)
      go_wp2
      rw [HX.out]
      go_loop [3, 6, 17] (fun s _ i => ∃ j : Nat, j ≤ 8 ∧ i = .int .i64 j ∧ s = .int .u32 (crcSteps (C ^^^ x) j : Nat)) (fun _ _ i => 8 - (intOf i).toNat)
      case atStart => exact ⟨0, Nat.zero_le _, rfl, rfl⟩
      case round =>
        obtain ⟨j, hj, rfl, rfl⟩ := hrel
        have hS : crcSteps (C ^^^ x) j < 4294967296 := crcSteps_lt hX j
        by_cases hj8 : j < 8
        · have HS : Hid (crcSteps (C ^^^ x) (j + 1) = crcStep (crcSteps (C ^^^ x) j)) := rfl
          generalize crcSteps (C ^^^ x) j = S at *
          have HA := Lib.hid (and1_i S hS)
          have HP := Lib.hid (poly_i S hS)
          by_cases hp : S % 2 = 1
          · have hA : bits .and .u32 (S : Int) 1 = 1 := by rw [HA.out, hp]; rfl
            go_wp2
            go_round
            case rel => exact ⟨j + 1, by omega, by go_num, by rw [HS.out, crcStep, if_pos hp]; exact congrArg _ HP.out⟩
            case measure => simp [intOf]; omega
          · have hA : bits .and .u32 (S : Int) 1 = 0 := by rw [HA.out, show S % 2 = 0 by omega]; rfl
            go_wp2
            go_round
            case rel => exact ⟨j + 1, by omega, by go_num, by rw [HS.out, crcStep, if_neg hp]; rfl⟩
            case measure => simp [intOf]; omega
        · obtain rfl : j = 8 := by omega
          go_wp2
          go_round
          case rel => exact ⟨k + 1, by omega, by go_num, by rw [HN.out, crcTurn]⟩
          case measure => simp [intOf]; omega
    · obtain rfl : k = n := by omega
      have hC : crcRun (l.take k) < 4294967296 := crcRun_lt (take_bytes hb256.out k)
      have HX := Lib.hid (xor_i (crcRun (l.take k)) 4294967295 hC (by omega))
      go_wp2
      go_ret
      refine ⟨ret_int ?_, rfl⟩
      have e : l.take k = l := List.take_of_length_le (by have := hlen.out; omega)
      have h := HX.out
      rw [e] at h ⊢
      exact h


theorem Bytes.lit (w : World) (l : List Nat) (hl : ∀ b ∈ l, b < 256) (e : TypeId) (m : Nat × Nat) :
    Bytes (w.alloc (.cells (l.map fun b => Value.int .u8 (b : Nat)).toArray e m)) (some ⟨w.heap.size, 0, none⟩) l.length l := by
  refine ⟨rfl, hl, fun _ => ⟨_, _, rfl, fun i hi => ?_⟩⟩
  rw [World.cell?_alloc_mark]
  simp [List.getD, hi]

end Go.Proofs.YthhflkgngencdaaGreatDoor.sumDoor
namespace Go.Proofs.YthhflkgngencdaaGreatDoor.sumDoor
open Go.ChangeShapes Go.WideShapes Go.ChangeAt Go.RowKit Go.Proofs.YthhflkgngencdaaGreatDoor.sumPlain
set_option linter.unusedVariables false
set_option maxRecDepth 100000

/-- Bytes as a number, the greatest first. -/
def numOf (l : List Nat) : Nat := l.foldl (fun a b => a * 256 + b) 0
theorem num_snoc (l : List Nat) (b : Nat) : numOf (l ++ [b]) = numOf l * 256 + b := by simp [numOf]
theorem num_lt : ∀ (l : List Nat) (k : Nat), (∀ b ∈ l, b < 256) → numOf (l.take k) < 256 ^ k := by
  intro l k hb
  induction k with
  | zero => simp [numOf]
  | succ k ih =>
    by_cases hk : k < l.length
    · rw [List.take_succ_eq_append_getElem hk, num_snoc, Nat.pow_succ]
      have := hb _ (List.getElem_mem hk)
      omega
    · have e : l.take (k + 1) = l.take k := by rw [List.take_of_length_le (by omega), List.take_of_length_le (by omega)]
      rw [e, Nat.pow_succ]
      omega

/-- A number's bytes. -/
def byteAt (v n j : Nat) : Nat := v / 256 ^ (n - 1 - j) % 256
def bytesOf (v n : Nat) : List Nat := (List.range n).map (byteAt v n)

end Go.Proofs.YthhflkgngencdaaGreatDoor.sumDoor
namespace Go.Proofs.YthhflkgngencdaaGreatDoor.sumDoor
open Go.Proofs.YthhflkgngencdaaGreatDoor.sumPlain
/-- How many zeros. -/
def zs (n : Nat) : Nat := (119 - n % 64) % 64

end Go.Proofs.YthhflkgngencdaaGreatDoor.sumDoor
namespace Go.Proofs.YthhflkgngencdaaGreatDoor.sumDoor
open Go.ChangeShapes Go.WideShapes Go.ChangeAt Go.RowKit Go.Proofs.YthhflkgngencdaaGreatDoor.sumPlain
set_option linter.unusedVariables false
set_option maxRecDepth 100000

theorem wpList_buildTo {P : Program} {ops : Array Oper} {rest : List Oper} {o : Oper} {a : Act} {w : World} {Q : Exit → Act → World → Prop} (hg : o.guard = none) (t : TypeId) (parts : Array (Nat × Operand)) (ho : o.op = .build t parts) (cs : Array Value)
    (hf : P.built t (parts.map fun (i, x) => (i, a.eval x)).toList = some cs) (h : wpList P ops Q rest (a.put o.dst (.agg cs)) w) : wpList P ops Q (o :: rest) a w := by
  refine wpList_build hg t parts ho (by rw [hf]; rfl) ?_
  rw [hf]
  exact h
theorem forget {P : Program} {ops : Array Oper} {rest : List Oper} {a : Act} {w : World} {Q : Exit → Act → World → Prop} (R : World → Prop) (hR : R w) (h : ∀ w1, R w1 → wpList P ops Q rest a w1) : wpList P ops Q rest a w := h w hR

/-- Bytes as values. -/
def vals (l : List Nat) : List Value := l.map fun x => Value.int .u8 (x : Nat)
theorem vals_append (l m : List Nat) : vals (l ++ m) = vals l ++ vals m := by simp [vals]
theorem vals_one (l : List Nat) : ∀ u ∈ vals l, u.oneCell' = true := by
  intro v hv
  obtain ⟨x, _, rfl⟩ := List.mem_map.1 hv
  rfl
theorem bytesOf_lt (v n : Nat) : ∀ b ∈ bytesOf v n, b < 256 := by
  intro b hb
  obtain ⟨j, _, rfl⟩ := List.mem_map.1 hb
  exact Nat.mod_lt _ (by omega)
theorem bytes_row {w : World} {g t v n : Nat} (h : w.rowIs g t n (fun j => .int .u8 (byteAt v n j : Nat))) : Bytes w (some ⟨g, 0, none⟩) n (bytesOf v n) := by
  refine ⟨by simp [bytesOf], bytesOf_lt v n, fun _ => ⟨g, 0, rfl, fun i hi => ?_⟩⟩
  rw [Nat.zero_add, h.cell hi]
  simp [bytesOf, List.getD, hi]
end Go.Proofs.YthhflkgngencdaaGreatDoor.sumDoor
namespace Go.Proofs.YthhflkgngencdaaGreatDoor.frm
open Go.ChangeShapes Go.WideShapes Go.ChangeAt Go.RowKit
open Go.Proofs.YthhflkgngencdaaGreatDoor.codec (Bytes vals vals_append vals_length vals_one OutIs More Made New bytesOf byteAt bytesOf_length bytesOf_lt Fits strOf)
set_option linter.unusedVariables false
set_option maxRecDepth 100000
set_option linter.unusedSimpArgs false

/-- The CRC of bytes. -/
def crcOf (l : List Nat) : Nat := crcPlain.crcRun l ^^^ 4294967295
theorem crcOf_lt {l : List Nat} (h : ∀ b ∈ l, b < 256) : crcOf l < 4294967296 := crcPlain.xor_lt32 (crcPlain.crcRun_lt h) (by omega)
/-- The digest of bytes. -/
def dig (l : List Nat) : List Nat := sumDoor.outList (sumDoor.digest l)
theorem dig_length (l : List Nat) : (dig l).length = 32 := by simp [dig, sumDoor.outList]
theorem dig_lt (l : List Nat) : ∀ b ∈ dig l, b < 256 := by
  intro b hb
  obtain ⟨j, _, rfl⟩ := List.mem_map.1 hb
  exact Nat.mod_lt _ (by omega)
/-- The first eight bytes of a head. -/
def first (k n : Nat) : List Nat := [99, 117, 98, k] ++ bytesOf n 4
theorem first_length (k n : Nat) : (first k n).length = 8 := by simp [first, bytesOf]
theorem first_lt {k n : Nat} (hk : k < 256) : ∀ b ∈ first k n, b < 256 := by
  intro b hb
  rcases List.mem_append.1 hb with h | h
  · simp at h
    omega
  · exact bytesOf_lt _ _ b h
/-- The head of a payload. -/
def headL (k : Nat) (p : List Nat) : List Nat := first k p.length ++ bytesOf (crcOf (first k p.length)) 4 ++ dig p
theorem headL_length (k : Nat) (p : List Nat) : (headL k p).length = 44 := by simp [headL, first_length, dig_length, bytesOf]
/-- The frame of a payload. -/
def frameL (k : Nat) (p : List Nat) : List Nat := headL k p ++ p
theorem frameL_length (k : Nat) (p : List Nat) : (frameL k p).length = 44 + p.length := by simp [frameL, headL_length]

theorem crc_prog (A : Option Addr) (n c : Nat) (l : List Nat) (w : World) (h : Bytes w A n l) (hn : n ≤ maxLen) :
    Calls Tryz.prog 187 #[.slice A n c] w fun e w' => e = .returned (.int .u32 (crcOf l : Nat)) ∧ w = w' := sumDoor.crc_any A n c l w h hn
theorem dig_prog (w : World) (A : Option Addr) (n c : Nat) (l : List Nat) (hB : Bytes w A n l) (hn : n ≤ 40000) (hc : n ≤ c) (hL : sumDoor.Laid w) :
    Calls Tryz.prog 200 #[.slice A n c] w fun e w' => e = .returned (.agg (vals (dig l)).toArray) ∧ Below w.heap.size w w' := sumDoor.digest_any w A n c l hB hn hc hL
set_option maxHeartbeats 400000 in
theorem isKind_any (w : World) (n : Int) :
    Calls Tryz.prog 169 #[.int .i64 n] w fun e w' => e = .returned (.bool (decide (1 ≤ n ∧ n ≤ 3))) ∧ w = w' := by
  by_cases h1 : 1 ≤ n
  · by_cases h7 : n ≤ 3
    · have : decide (1 ≤ n ∧ n ≤ 3) = true := by simp [h1, h7]
      rw [this]
      go_enter Tryz.func169, Tryz.ntmps169
      go_wp2
      go_ret
      exact ⟨rfl, rfl⟩
    · have : decide (1 ≤ n ∧ n ≤ 3) = false := by simp [h7]
      rw [this]
      go_enter Tryz.func169, Tryz.ntmps169
      go_wp2
      go_ret
      exact ⟨rfl, rfl⟩
  · have : decide (1 ≤ n ∧ n ≤ 3) = false := by simp [h1]
    rw [this]
    go_enter Tryz.func169, Tryz.ntmps169
    go_wp2
    go_ret
    exact ⟨rfl, rfl⟩

set_option maxHeartbeats 400000 in
theorem copied_any (w : World) (A : Option Addr) (n c : Nat) (l : List Nat) (h : Bytes w A n l) (hn : n ≤ 10000000) :
    Calls Tryz.prog 204 #[.slice A n c] w fun e w' => e = .returned (.slice (some ⟨w.heap.size, 0, none⟩) n n) ∧ w' = w.alloc (.cells (vals l).toArray 5) := by
  have hmk := run_make_row' (P := Tryz.prog) 40 5 (.int .u8 0) 1 Tryz.underlying40 codec.info5 rfl .i64 .i64 n (by omega) (by omega)
  have HB := Lib.hid h
  clear h
  go_enter Tryz.func204, Tryz.ntmps204
  go_wp2_with (refine codec.wpList_copied rfl (.tmp 7) (.tmp 8) rfl A n c l HB.out rfl rfl ?_)
  go_ret
  exact ⟨rfl, rfl⟩

/-- Two Outs beside each other, on blocks of the call's own. -/
def Two (W : World) (P1 : Nat) (l1 F1 : List Nat) (P2 : Nat) (l2 F2 : List Nat) (w : World) : Prop :=
  OutIs w P1 l1 F1 ∧ OutIs w P2 l2 F2 ∧ (∀ k ∈ F1, W.heap.size ≤ k) ∧ (∀ k ∈ F2, W.heap.size ≤ k) ∧ (∀ k ∈ F2, k ∉ F1) ∧ Below W.heap.size W w
def Grew (F : List Nat) (w : World) (F' : List Nat) (w' : World) : Prop := codec.Touch (fun k => k ∈ F) w w' ∧ ∀ k ∈ F', k ∈ F ∨ w.heap.size ≤ k
theorem Two.more1 {W w w' : World} {P1 P2 : Nat} {l1 l2 l1' F1 F2 : List Nat} (h : Two W P1 l1 F1 P2 l2 F2 w) (m : More w P1 l1' F1 w') : ∃ F1', Two W P1 l1' F1' P2 l2 F2 w' ∧ Grew F1 w F1' w' := by
  obtain ⟨h1, h2, h3, h4, h5, h6⟩ := h
  obtain ⟨F', m1, m2, m3⟩ := m
  refine ⟨F', ⟨m1, h2.touch m2 h5, fun k hk => ?_, h4, fun k hk hk' => ?_, ?_⟩, m2, m3⟩
  · rcases m3 k hk with h | h
    · exact h3 k h
    · exact Nat.le_trans h6.size h
  · rcases m3 k hk' with h | h
    · exact h5 k hk h
    · exact absurd (h2.lt k hk) (by omega)
  · exact h6.trans (m2.toBelow W.heap.size h6.size (fun i hi hF => absurd (h3 i hF) (by omega)))
theorem Two.more2 {W w w' : World} {P1 P2 : Nat} {l1 l2 l2' F1 F2 : List Nat} (h : Two W P1 l1 F1 P2 l2 F2 w) (m : More w P2 l2' F2 w') : ∃ F2', Two W P1 l1 F1 P2 l2' F2' w' ∧ Grew F2 w F2' w' := by
  obtain ⟨h1, h2, h3, h4, h5, h6⟩ := h
  obtain ⟨F', ⟨h1', h2', h3', h4', h5', h6'⟩, hg⟩ := Two.more1 (W := W) (P1 := P2) (P2 := P1) (l2 := l1) ⟨h2, h1, h4, h3, fun k a b => h5 k b a, h6⟩ m
  exact ⟨F', ⟨h2', h1', h4', h3', fun k a b => h5' k b a, h6'⟩, hg⟩
theorem Grew.bytes {F F' : List Nat} {w w' : World} {g n : Nat} {o : Nat} {l : List Nat} (h : Grew F w F' w') (hB : Bytes w (some ⟨g, o, none⟩) n l) (hg : g ∉ F) : Bytes w' (some ⟨g, o, none⟩) n l :=
  hB.touch (fun ad e _ => by cases e; exact hg) h.1
theorem Grew.not {F F' : List Nat} {w w' : World} {g : Nat} (h : Grew F w F' w') (hg : g ∉ F) (hlt : g < w.heap.size) : g ∉ F' := fun hh => by
  rcases h.2 g hh with k | k
  · exact hg k
  · omega
theorem Two.below {W w w' : World} {P1 P2 : Nat} {l1 l2 F1 F2 : List Nat} (h : Two W P1 l1 F1 P2 l2 F2 w) (hb : Below w.heap.size w w') : Two W P1 l1 F1 P2 l2 F2 w' :=
  ⟨h.1.below hb, h.2.1.below hb, h.2.2.1, h.2.2.2.1, h.2.2.2.2.1, h.2.2.2.2.2.trans (hb.mono h.2.2.2.2.2.size)⟩
theorem Two.alloc {W w : World} {P1 P2 : Nat} {l1 l2 F1 F2 : List Nat} (h : Two W P1 l1 F1 P2 l2 F2 w) (o : Obj) : Two W P1 l1 F1 P2 l2 F2 (w.alloc o) := h.below ((Below.refl _ _).alloc (Nat.le_refl _) _)
theorem two_start (W : World) : Two W W.heap.size [] [W.heap.size] (W.heap.size + 1) [] [W.heap.size + 1] ((W.alloc (.cells #[.pointer none, .int .i64 0, .bool false] 154)).alloc (.cells #[.pointer none, .int .i64 0, .bool false] 154)) := by
  have h1 := codec.fresh_new W
  have h2 := codec.fresh_new (W.alloc (.cells #[.pointer none, .int .i64 0, .bool false] 154))
  rw [show (W.alloc (.cells #[.pointer none, .int .i64 0, .bool false] 154)).heap.size = W.heap.size + 1 by simp] at h2
  refine ⟨h1.below ((Below.refl _ _).alloc (Nat.le_refl _) _), h2, by simp, by simp, by simp, ((Below.refl _ _).alloc (Nat.le_refl _) _).alloc (by simp) _⟩
theorem Bytes.lit (w : World) (l : List Nat) (hl : ∀ b ∈ l, b < 256) (e : TypeId) (m : Nat × Nat) :
    Bytes (w.alloc (.cells (l.map fun b => Value.int .u8 (b : Nat)).toArray e m)) (some ⟨w.heap.size, 0, none⟩) l.length l := sumDoor.Bytes.lit w l hl e m

theorem lit_at (w : World) (l : List Nat) (hl : ∀ b ∈ l, b < 256) (e : TypeId) (m : Nat × Nat) {g n : Nat} (hg : g = w.heap.size) (hn : l.length = n) :
    Bytes (w.alloc (.cells (vals l).toArray e m)) (some ⟨g, 0, none⟩) n l := by
  subst hg hn
  exact Bytes.lit w l hl e m
theorem slice54 (w : World) (g : Nat) : (Instr.sliceAt 273 (Value.pointer (some ⟨g, 0, none⟩)) none none none).run Tryz.prog w = .ok (.slice (some ⟨g, 0, none⟩) 32 32) w := by kernel_rfl
theorem outN_two {W w : World} {P1 P2 v n : Nat} {l1 l2 F1 F2 : List Nat} (h : Two W P1 l1 F1 P2 l2 F2 w) (hl : l1.length ≤ 9000000) (h1 : 1 ≤ n) (h7 : n ≤ 7) (hv : v < 256 ^ n) :
    Calls Tryz.prog 92 #[.pointer (some ⟨P1, 0, none⟩), .int .i64 v, .int .i64 n] w fun e w' => e = .returned (.tuple #[]) ∧ ∃ F', Two W P1 (l1 ++ bytesOf v n) F' P2 l2 F2 w' ∧ Grew F1 w F' w' :=
  (codec.outN_fits w P1 v n l1 F1 h.1 hl h1 h7 hv).mono fun _ _ ⟨he, hm⟩ => ⟨he, h.more1 hm⟩
theorem outN_two2 {W w : World} {P1 P2 v n : Nat} {l1 l2 F1 F2 : List Nat} (h : Two W P1 l1 F1 P2 l2 F2 w) (hl : l2.length ≤ 9000000) (h1 : 1 ≤ n) (h7 : n ≤ 7) (hv : v < 256 ^ n) :
    Calls Tryz.prog 92 #[.pointer (some ⟨P2, 0, none⟩), .int .i64 v, .int .i64 n] w fun e w' => e = .returned (.tuple #[]) ∧ ∃ F', Two W P1 l1 F1 P2 (l2 ++ bytesOf v n) F' w' ∧ Grew F2 w F' w' :=
  (codec.outN_fits w P2 v n l2 F2 h.2.1 hl h1 h7 hv).mono fun _ _ ⟨he, hm⟩ => ⟨he, h.more2 hm⟩
theorem raw_two {W w : World} {P1 P2 n c : Nat} {l1 l2 m F1 F2 : List Nat} {A : Option Addr} (h : Two W P1 l1 F1 P2 l2 F2 w) (hB : Bytes w A n m) (hn : l1.length + n ≤ 10000000) (hA : A = none → c = 0) (hAp : ∀ ad, A = some ad → 0 < n → ad.block ∉ F1) :
    Calls Tryz.prog 168 #[.pointer (some ⟨P1, 0, none⟩), .slice A n c] w fun e w' => e = .returned (.tuple #[]) ∧ ∃ F', Two W P1 (l1 ++ m) F' P2 l2 F2 w' ∧ Grew F1 w F' w' :=
  (codec.raw_good w P1 l1 F1 A n c m h.1 hB hn hA hAp).mono fun _ _ ⟨he, hm⟩ => ⟨he, h.more1 hm⟩
theorem raw_two2 {W w : World} {P1 P2 n c : Nat} {l1 l2 m F1 F2 : List Nat} {A : Option Addr} (h : Two W P1 l1 F1 P2 l2 F2 w) (hB : Bytes w A n m) (hn : l2.length + n ≤ 10000000) (hA : A = none → c = 0) (hAp : ∀ ad, A = some ad → 0 < n → ad.block ∉ F2) :
    Calls Tryz.prog 168 #[.pointer (some ⟨P2, 0, none⟩), .slice A n c] w fun e w' => e = .returned (.tuple #[]) ∧ ∃ F', Two W P1 l1 F1 P2 (l2 ++ m) F' w' ∧ Grew F2 w F' w' :=
  (codec.raw_good w P2 l2 F2 A n c m h.2.1 hB hn hA hAp).mono fun _ _ ⟨he, hm⟩ => ⟨he, h.more2 hm⟩
theorem end_two {W w : World} {P1 P2 : Nat} {l1 l2 F1 F2 : List Nat} (h : Two W P1 l1 F1 P2 l2 F2 w) (N : Nat) (hN : l1.length = N) (hl : N ≤ 10000000) :
    Calls Tryz.prog 140 #[.pointer (some ⟨P1, 0, none⟩)] w fun e w' => ∃ g, e = .returned (.tuple #[.slice (some ⟨g, 0, none⟩) N N, .int .i64 0]) ∧ Two W P1 l1 F1 P2 l2 F2 w' ∧ Bytes w' (some ⟨g, 0, none⟩) N l1 ∧ w.heap.size ≤ g := by
  subst hN
  exact (codec.end_good w P1 l1 F1 h.1 hl).mono fun _ _ ⟨v, he, hm⟩ => by
    obtain ⟨g, rfl, h1, h2, h3⟩ := hm.bytes
    exact ⟨g, he, h.below h2, h3, h1⟩
theorem end_two2 {W w : World} {P1 P2 : Nat} {l1 l2 F1 F2 : List Nat} (h : Two W P1 l1 F1 P2 l2 F2 w) (hl : l2.length ≤ 10000000) :
    Calls Tryz.prog 140 #[.pointer (some ⟨P2, 0, none⟩)] w fun e w' => ∃ v, e = .returned (.tuple #[v, .int .i64 0]) ∧ Made W l2 v w' :=
  (codec.end_good w P2 l2 F2 h.2.1 hl).mono fun _ _ ⟨v, he, g, hv, h1, h2, h3⟩ => ⟨v, he, g, hv, Nat.le_trans h.2.2.2.2.2.size h1, h.2.2.2.2.2.trans (h2.mono h.2.2.2.2.2.size), h3⟩
end Go.Proofs.YthhflkgngencdaaGreatDoor.frm
