/- The digits of a digest. -/
import Derived.Test.YtnpohlimedhopaaDoorE
import Derived.Laws.BytesArg
namespace Go.Proofs.YtnpohlimedhopaaDoor.sumDoor
open Go.ChangeShapes Go.WideShapes Go.ChangeAt Go.RowKit Go.Proofs.YtnpohlimedhopaaDoor.sumPlain
set_option linter.unusedVariables false

/-- A digit. -/
def dgt (x : Nat) : Nat := if x < 10 then 48 + x else 87 + x
def hexAt (d : List Nat) (j : Nat) : Nat := if j % 2 = 0 then dgt (d.getD (j / 2) 0 / 16) else dgt (d.getD (j / 2) 0 % 16)
def hexTo (d : List Nat) (k j : Nat) : Nat := if j < k then hexAt d j else 0
def hexList (d : List Nat) : List Nat := (List.range 64).map (hexAt d)
/-- Bytes as a string. -/
def strOf (l : List Nat) : ByteArray := ⟨(l.map UInt8.ofNat).toArray⟩

theorem digit_run (w : World) : ∀ x : Nat, x < 16 → (Instr.index 9 (.string ⟨#[48, 49, 50, 51, 52, 53, 54, 55, 56, 57, 97, 98, 99, 100, 101, 102]⟩) (.int .u8 (x : Int))).run Tryd.prog w = .ok (.int .u8 (dgt x : Nat)) w
  | 0, _ => by kernel_rfl
  | 1, _ => by kernel_rfl
  | 2, _ => by kernel_rfl
  | 3, _ => by kernel_rfl
  | 4, _ => by kernel_rfl
  | 5, _ => by kernel_rfl
  | 6, _ => by kernel_rfl
  | 7, _ => by kernel_rfl
  | 8, _ => by kernel_rfl
  | 9, _ => by kernel_rfl
  | 10, _ => by kernel_rfl
  | 11, _ => by kernel_rfl
  | 12, _ => by kernel_rfl
  | 13, _ => by kernel_rfl
  | 14, _ => by kernel_rfl
  | 15, _ => by kernel_rfl
  | n + 16, h => by omega
theorem high_run (w : World) (x : Nat) (h : x < 256) : (Instr.index 9 (.string ⟨#[48, 49, 50, 51, 52, 53, 54, 55, 56, 57, 97, 98, 99, 100, 101, 102]⟩) (.int .u8 ((x : Int) / 16))).run Tryd.prog w = .ok (.int .u8 (dgt (x / 16) : Nat)) w :=
  digit_run w (x / 16) (by omega)
theorem low_run (w : World) (x : Nat) (h : x < 256) : (Instr.index 9 (.string ⟨#[48, 49, 50, 51, 52, 53, 54, 55, 56, 57, 97, 98, 99, 100, 101, 102]⟩) (.int .u8 ((x : Int) % 16))).run Tryd.prog w = .ok (.int .u8 (dgt (x % 16) : Nat)) w :=
  digit_run w (x % 16) (by omega)
theorem one5 : (Tryd.prog.info? 5).map (·.size) = some 1 := by kernel_rfl
theorem index_list (w : World) (d : List Nat) (hl : d.length = 32) (k : Nat) (hk : k < 32) : (Instr.index 24 (.agg (cellsOf .u8 d)) (.int .i64 (k : Int))).run Tryd.prog w = .ok (.int .u8 (d.getD k 0 : Nat)) w := by
  have h1 := one5
  cases hq : Tryd.prog.info? 5 with
  | none => rw [hq] at h1; cases h1
  | some i =>
    rw [hq] at h1
    have hs : i.size = 1 := by simpa using h1
    have hk'' : k < d.length := by omega
    simp [Instr.index, asIntOf, run_underlying Tryd.underlying24, sizeOf, typeInfo, hq, hs, part, cellsOf, List.getD, hk'']
    intro h
    omega
theorem start8 (w : World) (cs Z : Array Value) (t u : TypeId) :
    ((w.alloc (.cells cs t)).alloc (.cells Z u)).heap[w.heap.size]? = some (.cells cs t (0, 0)) ∧
    ((w.alloc (.cells cs t)).alloc (.cells Z u)).heap[w.heap.size + 1]? = some (.cells Z u (0, 0)) ∧
    Below w.heap.size w ((w.alloc (.cells cs t)).alloc (.cells Z u)) := by
  refine ⟨?_, ?_, ?_⟩
  · rw [Below.heap_alloc _ _ _ (by simp)]
    exact heap_alloc_new _ _
  · have := heap_alloc_new (w.alloc (.cells cs t)) (.cells Z u)
    simpa using this
  · exact ((Below.refl _ _).alloc (Nat.le_refl _) _).alloc (by simp) _
theorem hex_start {w : World} {g : Nat} {t : TypeId} {d : List Nat} (h : w.rowIs g t 64 (fun _ => .int .u8 0)) : w.rowIs g t 64 (fun j => .int .u8 (hexTo d 0 j : Nat)) :=
  h.congr fun i _ => by simp [hexTo]
theorem hex_step {w : World} {g m : Nat} {t : TypeId} {d : List Nat} {v : Int} (hv : v = (hexAt d m : Nat)) (h : w.rowIs g t 64 (fun j => .int .u8 (hexTo d m j : Nat))) : (w.setCell ⟨g, m, none⟩ (.int .u8 v)).rowIs g t 64 (fun j => .int .u8 (hexTo d (m + 1) j : Nat)) := by
  refine (h.set _ _).congr fun j hj => ?_
  by_cases e : j = m
  · subst e
    simp [hexTo, hv]
  · have : (j < m + 1) ↔ (j < m) := by omega
    simp [e, hexTo, this]
theorem hexAt0 (d : List Nat) (k : Nat) : hexAt d (2 * k) = dgt (d.getD k 0 / 16) := by
  unfold hexAt
  rw [if_pos (by omega), show 2 * k / 2 = k by omega]
theorem hexAt1 (d : List Nat) (k : Nat) : hexAt d (2 * k + 1) = dgt (d.getD k 0 % 16) := by
  unfold hexAt
  rw [if_neg (by omega), show (2 * k + 1) / 2 = k by omega]
theorem strOfNums_nat (l : List Nat) : strOfNums (l.map Int.ofNat) = strOf l := by
  simp only [strOfNums, strOf, List.map_map]
  rfl
theorem string_row {w : World} {g : Nat} {t : TypeId} {n c : Nat} {f : Nat → Nat} (h : w.rowIs g t n (fun j => .int .u8 (f j : Nat))) : (convert 22 9 (.slice (some ⟨g, 0, none⟩) n c)).run Tryd.prog w = .ok (.string (strOf ((List.range n).map f))) w := by
  have := run_convert_bytes_arg (P := Tryd.prog) w 22 5 Tryd.underlying22 Tryd.underlying5 g 0 n c (((List.range n).map f).map Int.ofNat) (by simp) (fun i hi => by
    rw [Nat.zero_add, h.cell hi]
    simp [List.getD, hi]) 9 Tryd.underlying9
  rw [this, strOfNums_nat]

set_option maxRecDepth 100000 in
set_option maxHeartbeats 1000000 in
theorem hex_any (w : World) (d : List Nat) (hl : d.length = 32) (hd : ∀ x ∈ d, x < 256) :
    Calls Tryd.prog 8 #[.agg (cellsOf .u8 d)] w fun e w' => e = .returned (.string (strOf (hexList d))) ∧ Below w.heap.size w w' := by
  have HP := Lib.hid (size32 (cellsOf .u8 d) (by simp [cellsOf, hl]))
  have HD := Lib.hid hd
  have HL := Lib.hid hl
  have HF := Lib.hid (start8 w (cellsOf .u8 d) (Array.replicate 64 (.int .u8 0)) 24 48)
  clear hd hl
  go_enter Tryd.func8, Tryd.ntmps8
  go_wp2_with (refine wpList_load_row rfl 24 (.tmp 1) rfl w.heap.size rfl 24 _ (0, 0) _ HF.out.1 Tryd.underlying24 rfl HP.out ?_)
  go_loopw [4, 5, 7] (fun _ _ i wr => ∃ k : Nat, k ≤ 32 ∧ i = .int .i64 k ∧ wr.rowIs (w.heap.size + 1) 48 64 (fun j => .int .u8 (hexTo d (2 * k) j : Nat)) ∧ Below w.heap.size w wr) (fun _ _ i _ => 32 - (intOf i).toNat)
  case atStart => exact ⟨0, by omega, rfl, hex_start (rep_row HF.out.2.1), HF.out.2.2⟩
  case round =>
    clear HF
    obtain ⟨k, hk, rfl, hr, hbel⟩ := hrel
    by_cases hlt : k < 32
    · have hidx := fun w => index_list w d HL.out k hlt
      have o1 := getD_lt256 HD.out k
      have h0 : Hid (hexAt d (2 * k) = dgt (d.getD k 0 / 16)) := hexAt0 d k
      have h1 : Hid (hexAt d (2 * k + 1) = dgt (d.getD k 0 % 16)) := hexAt1 d k
      have c0 := hr.cell (i := 2 * k) (by omega)
      have c1 := hr.cell (i := 2 * k + 1) (by omega)
      have f0 := hr.frozen (2 * k)
      have f1 := hr.frozen (2 * k + 1)
      have HR := Lib.hid hr
      have HBel := Lib.hid hbel
      have lk : (k : Int) < 32 := by omega
      clear hr hbel
      generalize d.getD k 0 = x at *
      have i0 := fun w => high_run w x o1
      have i1 := fun w => low_run w x o1
      go_wp2
      go_roundw
      case rel =>
        refine ⟨k + 1, by omega, by go_num, ?_, (HBel.out.setCell (by simp) _).setCell (by simp) _⟩
        exact hex_step (by rw [h1.out]) (hex_step (by rw [h0.out]) HR.out)
      case measure => simp [intOf]; omega
    · obtain rfl : k = 32 := by omega
      have hcv := string_row (c := 64) (hr.congr (g := fun j => .int .u8 (hexAt d j : Nat)) (fun i hi => by simp [hexTo, hi]))
      have HBel := Lib.hid hbel
      clear hr hbel
      change Sem.run _ _ _ = Result.ok (Value.string (strOf (hexList d))) _ at hcv
      go_wp2
      go_ret
      exact ⟨rfl, HBel.out⟩
end Go.Proofs.YtnpohlimedhopaaDoor.sumDoor
