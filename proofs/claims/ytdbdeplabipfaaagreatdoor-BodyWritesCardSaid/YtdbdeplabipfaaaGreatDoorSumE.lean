/- The bytes of a state. -/
import Derived.Test.YtdbdeplabipfaaaGreatDoorSumD
namespace Go.Proofs.YtdbdeplabipfaaaGreatDoor.sumDoor
open Go.ChangeShapes Go.WideShapes Go.ChangeAt Go.RowKit Go.Proofs.YtdbdeplabipfaaaGreatDoor.sumPlain
set_option linter.unusedVariables false
set_option maxRecDepth 100000

/-- A byte of eight words. -/
def outByte (s : Eight) (j : Nat) : Nat := s.nth (j / 4) / 2 ^ (8 * (3 - j % 4)) % 256
def outTo (s : Eight) (k j : Nat) : Nat := if j < k then outByte s j else 0
def outList (s : Eight) : List Nat := (List.range 32).map (outByte s)
theorem index8' (w : World) (t : Eight) (k : Nat) (h : k < 8) : (Instr.index 86 (.agg (cells8 .u32 t)) (.int .i64 (k : Int))).run Tryz.prog w = .ok (.int .u32 (t.nth k : Nat)) w := index8 w t k h

theorem start14 (w : World) (cs Z : Array Value) (t u : TypeId) :
    (((w.alloc (.cells cs t)).alloc (.cells Z u)).alloc (.cells Z u)).heap[w.heap.size]? = some (.cells cs t (0, 0)) ∧
    (((w.alloc (.cells cs t)).alloc (.cells Z u)).alloc (.cells Z u)).heap[w.heap.size + 1]? = some (.cells Z u (0, 0)) ∧
    (((w.alloc (.cells cs t)).alloc (.cells Z u)).alloc (.cells Z u)).heap[w.heap.size + 1 + 1]? = some (.cells Z u (0, 0)) ∧
    Below w.heap.size w (((w.alloc (.cells cs t)).alloc (.cells Z u)).alloc (.cells Z u)) := by
  refine ⟨?_, ?_, ?_, ?_⟩
  · rw [Below.heap_alloc _ _ _ (by simp; omega), Below.heap_alloc _ _ _ (by simp)]
    exact heap_alloc_new _ _
  · rw [Below.heap_alloc _ _ _ (by simp)]
    have := heap_alloc_new (w.alloc (.cells cs t)) (.cells Z u)
    simpa using this
  · have := heap_alloc_new ((w.alloc (.cells cs t)).alloc (.cells Z u)) (.cells Z u)
    simpa using this
  · exact (((Below.refl _ _).alloc (Nat.le_refl _) _).alloc (by simp) _).alloc (by simp; omega) _
theorem rep_row {w : World} {g : Nat} {t : TypeId} {n : Nat} {v : Value} (h : w.heap[g]? = some (.cells (Array.replicate n v) t (0, 0))) : w.rowIs g t n (fun _ => v) :=
  ⟨_, h, by simp, fun i hi => by simp [hi]⟩
theorem out_start {w : World} {g : Nat} {t : TypeId} {s : Eight} (h : w.rowIs g t 32 (fun _ => .int .u8 0)) : w.rowIs g t 32 (fun j => .int .u8 (outTo s 0 j : Nat)) :=
  h.congr fun i _ => by simp [outTo]
theorem out_step {w : World} {g m : Nat} {t : TypeId} {s : Eight} {v : Int} (hv : v = (outByte s m : Nat)) (h : w.rowIs g t 32 (fun j => .int .u8 (outTo s m j : Nat))) : (w.setCell ⟨g, m, none⟩ (.int .u8 v)).rowIs g t 32 (fun j => .int .u8 (outTo s (m + 1) j : Nat)) := by
  refine (h.set _ _).congr fun j hj => ?_
  by_cases e : j = m
  · subst e
    simp [outTo, hv]
  · have : (j < m + 1) ↔ (j < m) := by omega
    simp [e, outTo, this]

theorem outByte0 (s : Eight) (k : Nat) (h : s.nth k < 4294967296) : outByte s (4 * k) = s.nth k / 16777216 := by
  unfold outByte
  rw [show 4 * k / 4 = k by omega, show 4 * k % 4 = 0 by omega]
  omega
theorem outByte1 (s : Eight) (k : Nat) : outByte s (4 * k + 1) = s.nth k / 65536 % 256 := by
  unfold outByte
  rw [show (4 * k + 1) / 4 = k by omega, show (4 * k + 1) % 4 = 1 by omega]
theorem outByte2 (s : Eight) (k : Nat) : outByte s (4 * k + 2) = s.nth k / 256 % 256 := by
  unfold outByte
  rw [show (4 * k + 2) / 4 = k by omega, show (4 * k + 2) % 4 = 2 by omega]
theorem outByte3 (s : Eight) (k : Nat) : outByte s (4 * k + 3) = s.nth k % 256 := by
  unfold outByte
  rw [show (4 * k + 3) / 4 = k by omega, show (4 * k + 3) % 4 = 3 by omega]
  simp
theorem size32 (cs : Array Value) (h : cs.size = 32) : (Tryz.prog.info? 60).map (·.size) = some cs.size := by
  rw [h]
  kernel_rfl

set_option maxRecDepth 100000 in
set_option maxHeartbeats 1000000 in
theorem told_any (w : World) (s : Eight) (hs : s.Ok) :
    Calls Tryz.prog 61 #[.agg (cells8 .u32 s)] w fun e w' => e = .returned (.agg (cellsOf .u8 (outList s))) ∧ Below w.heap.size w w' := by
  have HS := Lib.hid hs
  have HP := Lib.hid (size8 s)
  have HF := Lib.hid (start14 w (cells8 .u32 s) (Array.replicate 32 (.int .u8 0)) 86 60)
  clear hs
  go_enter Tryz.func61, Tryz.ntmps61
  go_wp2_with (refine wpList_load_row rfl 86 (.tmp 1) rfl w.heap.size rfl 86 _ (0, 0) _ HF.out.1 Tryz.underlying86 rfl HP.out ?_)
  go_loopw [4, 5, 7] (fun _ _ i wr => ∃ k : Nat, k ≤ 8 ∧ i = .int .i64 k ∧ wr.rowIs (w.heap.size + 1 + 1) 60 32 (fun j => .int .u8 (outTo s (4 * k) j : Nat)) ∧ wr.rowIs (w.heap.size + 1) 60 32 (fun _ => .int .u8 0) ∧ Below w.heap.size w wr) (fun _ _ i _ => 8 - (intOf i).toNat)
  case atStart => exact ⟨0, by omega, rfl, out_start (rep_row HF.out.2.2.1), rep_row HF.out.2.1, HF.out.2.2.2⟩
  case round =>
    clear HF
    obtain ⟨k, hk, rfl, hr, hz, hbel⟩ := hrel
    by_cases hlt : k < 8
    · have hidx := fun w => index8' w s k hlt
      have o1 := nth_lt HS.out k
      have c0 := hr.cell (i := 4 * k) (by omega)
      have c1 := hr.cell (i := 4 * k + 1) (by omega)
      have c2 := hr.cell (i := 4 * k + 2) (by omega)
      have c3 := hr.cell (i := 4 * k + 3) (by omega)
      have f0 := hr.frozen (4 * k)
      have f1 := hr.frozen (4 * k + 1)
      have f2 := hr.frozen (4 * k + 2)
      have f3 := hr.frozen (4 * k + 3)
      have HR := Lib.hid hr
      have HZ := Lib.hid hz
      have HBel := Lib.hid hbel
      have lk : (k : Int) < 8 := by omega
      clear hr hz hbel
      go_wp2
      go_roundw
      case rel =>
        refine ⟨k + 1, by omega, by go_num, ?_, (((HZ.out.setOther (by simp) _).setOther (by simp) _).setOther (by simp) _).setOther (by simp) _, (((HBel.out.setCell (by simp; omega) _).setCell (by simp; omega) _).setCell (by simp; omega) _).setCell (by simp; omega) _⟩
        have h0 := out_step (v := ((s.nth k : Nat) : Int) / 16777216) (by rw [outByte0 s k o1]; simp) HR.out
        have h1 := out_step (v := ((s.nth k : Nat) : Int) / 65536 % 256) (by rw [outByte1 s k]; simp) h0
        have h2 := out_step (v := ((s.nth k : Nat) : Int) / 256 % 256) (by rw [outByte2 s k]; simp) h1
        exact out_step (v := ((s.nth k : Nat) : Int) % 256) (by rw [outByte3 s k]; simp) h2
      case measure => simp [intOf]; omega
    · obtain rfl : k = 8 := by omega
      obtain ⟨cs, hcs, hsz, hget⟩ := hr
      obtain ⟨cz, hcz, hzz, _⟩ := hz
      obtain rfl : cs = cellsOf .u8 (outList s) := row_list hsz (fun i hi => by rw [hget i hi]; simp [outTo, hi])
      have HCS := Lib.hid hcs
      have HCZ := Lib.hid hcz
      have HBel := Lib.hid hbel
      have HP2 := Lib.hid (size32 _ hsz)
      have HA := Lib.hid (all_cells .u8 (outList s))
      have HZ2 := Lib.hid (hzz.trans hsz.symm)
      clear hcs hcz hbel hget hsz hzz
      go_wp2_with (first | (refine wpList_load_row rfl 60 (.tmp 3) rfl (w.heap.size + 1 + 1) rfl 60 _ (0, 0) _ HCS.out Tryz.underlying60 rfl HP2.out ?_) | (refine wpList_store_row rfl 60 (.tmp 2) (.tmp 38) rfl (w.heap.size + 1) _ rfl rfl 60 _ HCZ.out HP2.out HZ2.out HA.out ?_))
      refine bodyPost_ret (v := .agg (cellsOf .u8 (outList s))) ?_ rfl ⟨rfl, ?_⟩
      · refine results_cell_row Tryz.results61 _ _ (w.heap.size + 1) 60 _ (0, 0) _ rfl ?_ Tryz.underlying60 rfl HP2.out
        exact row_new HCZ.out
      · exact below_setRow HBel.out (by omega) _
end Go.Proofs.YtdbdeplabipfaaaGreatDoor.sumDoor
