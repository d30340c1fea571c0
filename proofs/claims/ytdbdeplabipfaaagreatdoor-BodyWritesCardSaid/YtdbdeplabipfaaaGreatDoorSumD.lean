/- The last blocks, and the bytes of a state. -/
import Derived.Test.YtdbdeplabipfaaaGreatDoorSumC
import Derived.Laws.CopyOwn
namespace Go.Proofs.YtdbdeplabipfaaaGreatDoor.sumDoor
open Go.ChangeShapes Go.WideShapes Go.ChangeAt Go.RowKit Go.Proofs.YtdbdeplabipfaaaGreatDoor.sumPlain
set_option linter.unusedVariables false
set_option maxRecDepth 100000

/-- The rest, padded, with the last k bytes of its length. -/
def padTo (l : List Nat) (bs e k j : Nat) : Nat :=
  if e - k ≤ j ∧ j < e then bs / 2 ^ (8 * (e - 1 - j)) % 256 else if j < l.length then l.getD j 0 else if j = l.length then 128 else 0
def padEnd (n : Nat) : Nat := if 55 < n then 128 else 64
def padList (l : List Nat) (bs e : Nat) : List Nat := (List.range 128).map (padTo l bs e 8)

/-- A room of 128 zeros. -/
def room : List Value := List.replicate 128 (.int .u8 0)
theorem zero37 (w : World) : (zeroValue 91).run Tryz.prog w = .ok (.agg room.toArray) w := by kernel_rfl

/-- The rest stands in the room. -/
def laidIn (l : List Nat) (j : Nat) : Nat := if j < l.length then l.getD j 0 else 0
theorem copied {w1 : World} {g : Nat} {t : TypeId} {l : List Nat} (hn : l.length < 64) (h : w1.heap[g]? = some (.cells (splice room 0 (l.map fun x => Value.int .u8 (x : Nat))).toArray t (0, 0))) :
    w1.rowIs g t 128 (fun j => .int .u8 (laidIn l j : Nat)) := by
  have hr : room.length = 128 := by simp [room]
  refine ⟨_, h, ?_, fun i hi => ?_⟩
  · simp [splice, hr]
    omega
  · simp only [List.getElem?_toArray, splice, List.take_zero, List.nil_append, Nat.zero_add]
    rw [List.getElem?_append]
    by_cases hj : i < l.length
    · simp [hj, laidIn, List.getD]
    · simp only [List.length_map, if_neg hj]
      simp only [laidIn, if_neg hj]
      rw [List.getElem?_drop]
      unfold room
      rw [List.getElem?_replicate, if_pos (by omega)]
      rfl

theorem start13 (w : World) (A : Option Addr) (n : Nat) (l : List Nat) (hB : Bytes w A n l) (hn : n < 64) :
    ((w.alloc (.cells room.toArray 91)).alloc (.cells room.toArray 91)).heap[w.heap.size + 1]? = some (.cells room.toArray 91 (0, 0)) ∧
    (l.map fun x => Value.int .u8 (x : Nat)).length = Nat.min n 128 ∧
    (0 < (l.map fun x => Value.int .u8 (x : Nat)).length → some (Addr.mk (w.heap.size + 1) 0 none) = some ⟨w.heap.size + 1, 0, none⟩ ∧ ∃ ad, A = some ad ∧ ∀ j v, (l.map fun x => Value.int .u8 (x : Nat))[j]? = some v → ((w.alloc (.cells room.toArray 91)).alloc (.cells room.toArray 91)).cell? (ad.add j) = some v) ∧
    0 + (l.map fun x => Value.int .u8 (x : Nat)).length ≤ room.length ∧ (∀ v ∈ (l.map fun x => Value.int .u8 (x : Nat)), v.oneCell' = true) ∧
    ((w.alloc (.cells room.toArray 91)).alloc (.cells room.toArray 91)).heap[w.heap.size]? = some (.cells room.toArray 91 (0, 0)) ∧
    Below w.heap.size w ((w.alloc (.cells room.toArray 91)).alloc (.cells room.toArray 91)) := by
  have hbel : Below w.heap.size w ((w.alloc (.cells room.toArray 91)).alloc (.cells room.toArray 91)) := ((Below.refl _ _).alloc (Nat.le_refl _) _).alloc (by simp) _
  have hl := hB.1
  refine ⟨?_, ?_, ?_, ?_, ?_, ?_, hbel⟩
  · have := heap_alloc_new (w.alloc (.cells room.toArray 91)) (.cells room.toArray 91)
    simpa using this
  · rw [List.length_map, hl]
    exact (Nat.min_eq_left (by omega)).symm
  · intro h0
    refine ⟨rfl, ?_⟩
    have hB' := hB.below hB.lt hbel
    have hn0 : 0 < n := by simp at h0; omega
    obtain ⟨b, o, rfl, hc⟩ := hB'.2.2 hn0
    refine ⟨_, rfl, fun j v hv => ?_⟩
    have ha : (Addr.mk b o none).add j = ⟨b, o + j, none⟩ := by unfold Addr.add; split <;> simp_all
    rw [ha]
    simp only [List.getElem?_map, Option.map_eq_some_iff] at hv
    obtain ⟨x, hx, rfl⟩ := hv
    have hj : j < l.length := (List.getElem?_eq_some_iff.1 hx).1
    rw [hc j (by omega)]
    simp [List.getD, hx]
  · simp [room]
    omega
  · intro v hv
    obtain ⟨x, _, rfl⟩ := List.mem_map.1 hv
    rfl
  · rw [Below.heap_alloc _ _ _ (by simp)]
    exact heap_alloc_new _ _

theorem pad_start {w1 : World} {g n bs e : Nat} {t : TypeId} {l : List Nat} (hl : l.length = n) (hn : n < 64) (hE : n + 9 ≤ e) (h : w1.rowIs g t 128 (fun j => .int .u8 (laidIn l j : Nat))) :
    (w1.setCell ⟨g, n, none⟩ (.int .u8 128)).rowIs g t 128 (fun j => .int .u8 (padTo l bs e 0 j : Nat)) := by
  refine (h.set n _).congr fun j hj => ?_
  have h1 : ¬ (e - 0 ≤ j ∧ j < e) := by omega
  by_cases e1 : j = n
  · subst e1
    simp only [if_true, padTo, if_neg h1, hl]
    simp
  · simp only [if_neg e1, padTo, if_neg h1, laidIn, hl]
theorem pad_step {wr : World} {g n bs e k : Nat} {t : TypeId} {l : List Nat} {v : Int} {m : Nat} (hm : m = e - 1 - k) (hl : l.length = n) (hE : n + 9 ≤ e) (hk : k < 8) (hv : v = ((bs / 2 ^ (8 * k) % 256 : Nat) : Int)) (h : wr.rowIs g t 128 (fun j => .int .u8 (padTo l bs e k j : Nat))) :
    (wr.setCell ⟨g, m, none⟩ (.int .u8 v)).rowIs g t 128 (fun j => .int .u8 (padTo l bs e (k + 1) j : Nat)) := by
  subst hm
  refine (h.set _ _).congr fun j hj => ?_
  by_cases e1 : j = e - 1 - k
  · simp only [if_pos e1]
    have h1 : e - (k + 1) ≤ j ∧ j < e := by omega
    have h2 : e - 1 - j = k := by omega
    simp only [padTo, if_pos h1, h2, hv]
  · simp only [if_neg e1]
    have h1 : (e - (k + 1) ≤ j ∧ j < e) ↔ (e - k ≤ j ∧ j < e) := by omega
    simp only [padTo, h1]
theorem size128 (cs : Array Value) (h : cs.size = 128) : (Tryz.prog.info? 91).map (·.size) = some cs.size := by
  rw [h]
  kernel_rfl
theorem row_list {cs : Array Value} {kd : IntKind} {n : Nat} {f : Nat → Nat} (hs : cs.size = n) (h : ∀ i, i < n → cs[i]? = some (.int kd (f i : Nat))) : cs = cellsOf kd ((List.range n).map f) := by
  apply Array.ext_getElem?
  intro i
  by_cases hi : i < n
  · rw [h i hi]
    simp [cellsOf, hi]
  · rw [Array.getElem?_eq_none (by omega), Array.getElem?_eq_none (by simp [cellsOf]; omega)]

set_option maxRecDepth 100000 in
set_option maxHeartbeats 1000000 in
theorem lastBlocks_at (w : World) (A : Option Addr) (n c bs e : Nat) (l : List Nat) (hB : Bytes w A n l) (hn : n < 64) (hbs : bs < 18446744073709551616) (he : 55 < n ∧ e = 128 ∨ n ≤ 55 ∧ e = 64) :
    Calls Tryz.prog 60 #[.slice A n c, .int .u64 bs] w fun r w' => r = .returned (.tuple #[.agg (cellsOf .u8 (padList l bs e)), .int .i64 (e : Nat)]) ∧ Below w.heap.size w w' := by
  have HS := Lib.hid (start13 w A n l hB hn)
  have HL := Lib.hid hB.1
  have HU := Lib.hid (show (Tryz.prog.info? 5).map (·.size) = some 1 by kernel_rfl)
  clear hB
  have hz := zero37
  have hd : decide ((64 : Int) < (n : Int) + 1 + 8) = decide (55 < n) := by simp only [decide_eq_decide]; omega
  have hE : n + 9 ≤ e ∧ e ≤ 128 ∧ 64 ≤ e := by omega
  rcases he with ⟨h55, he⟩ | ⟨h55, he⟩
  · have hd' : decide ((64 : Int) < (n : Int) + 1 + 8) = true := by rw [hd]; simpa using h55
    clear hd
    subst he
    go_enter Tryz.func60, Tryz.ntmps60
    go_wp2_with (refine wpList_copy_splice rfl (.tmp 9) (.tmp 10) 23 23 rfl 5 Tryz.underlying23 HU.out _ _ _ _ _ _ rfl rfl (w.heap.size + 1) 0 room 91 HS.out.1 (l.map fun x => Value.int .u8 (x : Nat)) HS.out.2.1 HS.out.2.2.1 HS.out.2.2.2.1 HS.out.2.2.2.2.1 (w.heap.size + 1) _ (Below.refl _ _) (Nat.le_refl _) ?_; intro w1 hg1 hb1; have hr1 := copied (by rw [HL.out]; exact hn) hg1.out; have hc1 := hr1.cell (i := n) (by omega); have hf1 := hr1.frozen n; have HR1 := Lib.hid hr1; have HB1 := Lib.hid hb1; clear hb1 hr1 hg1)
    go_loopw [8, 22] (fun _ i wr => ∃ k : Nat, k ≤ 8 ∧ i = .int .i64 k ∧ wr.rowIs (w.heap.size + 1) 91 128 (fun j => .int .u8 (padTo l bs 128 k j : Nat)) ∧ wr.heap[w.heap.size]? = some (.cells room.toArray 91 (0, 0)) ∧ Below w.heap.size w wr) (fun _ i _ => 8 - (intOf i).toNat)
    case atStart =>
      refine ⟨0, by omega, rfl, pad_start HL.out hn (by omega) HR1.out, ?_, ?_⟩
      · rw [Below.heap_setCell _ _ _ _ (by simp), HB1.out.block _ (by omega)]
        exact HS.out.2.2.2.2.2.1
      · exact (HS.out.2.2.2.2.2.2.trans (HB1.out.mono (by omega))).setCell (by simp) _
    case round =>
      clear hc1 hf1 HB1 HR1 HS HU
      obtain ⟨k, hk, rfl, hr, hzz, hbel⟩ := hrel
      by_cases hlt : k < 8
      · have hc := hr.cell (i := 128 - 1 - k) (by omega)
        have hf := hr.frozen (128 - 1 - k)
        have HR := Lib.hid hr
        have HZ := Lib.hid hzz
        have HBel := Lib.hid hbel
        have lk : (k : Int) < 8 := by omega
        clear hr hzz hbel
        simp only [show 128 - 1 - k = 127 - k by omega] at hc hf
        go_wp2
        go_roundw
        case rel => exact ⟨k + 1, by omega, by go_num, pad_step (by omega) HL.out (by omega) hlt (by simp) HR.out, (Below.heap_setCell _ _ _ _ (by simp)).trans HZ.out, HBel.out.setCell (by simp) _⟩
        case measure => simp [intOf]; omega
      · obtain rfl : k = 8 := by omega
        obtain ⟨cs, hcs, hsz, hget⟩ := hr
        obtain rfl : cs = cellsOf .u8 (padList l bs 128) := row_list hsz hget
        have HCS := Lib.hid hcs
        have HCZ := Lib.hid hzz
        have HBel := Lib.hid hbel
        have HP := Lib.hid (size128 _ hsz)
        have HA := Lib.hid (all_cells .u8 (padList l bs 128))
        have HZ2 := Lib.hid (show room.toArray.size = (cellsOf .u8 (padList l bs 128)).size by rw [hsz]; simp [room])
        clear hcs hzz hbel hget hsz
        go_wp2_with (first | (refine wpList_load_row rfl 91 (.tmp 6) rfl (w.heap.size + 1) rfl 91 _ (0, 0) _ HCS.out Tryz.underlying91 rfl HP.out ?_) | (refine wpList_store_row rfl 91 (.tmp 4) (.tmp 36) rfl w.heap.size _ rfl rfl 91 _ HCZ.out HP.out HZ2.out HA.out ?_))
        have hld := run_loadVar_row (P := Tryz.prog) _ w.heap.size 91 91 _ (0, 0) _ (row_new (cs' := cellsOf .u8 (padList l bs 128)) HCZ.out) Tryz.underlying91 rfl HP.out
        refine bodyPost_ret (v := .tuple #[.agg (cellsOf .u8 (padList l bs 128)), .int .i64 ((128 : Nat) : Int)]) ?_ rfl ⟨rfl, ?_⟩
        · simp [results, Tryz.results60, asAddr, hld]
        · exact below_setRow HBel.out (Nat.le_refl _) _
  · have hd' : decide ((64 : Int) < (n : Int) + 1 + 8) = false := by rw [hd]; simp; omega
    clear hd
    subst he
    go_enter Tryz.func60, Tryz.ntmps60
    go_wp2_with (refine wpList_copy_splice rfl (.tmp 9) (.tmp 10) 23 23 rfl 5 Tryz.underlying23 HU.out _ _ _ _ _ _ rfl rfl (w.heap.size + 1) 0 room 91 HS.out.1 (l.map fun x => Value.int .u8 (x : Nat)) HS.out.2.1 HS.out.2.2.1 HS.out.2.2.2.1 HS.out.2.2.2.2.1 (w.heap.size + 1) _ (Below.refl _ _) (Nat.le_refl _) ?_; intro w1 hg1 hb1; have hr1 := copied (by rw [HL.out]; exact hn) hg1.out; have hc1 := hr1.cell (i := n) (by omega); have hf1 := hr1.frozen n; have HR1 := Lib.hid hr1; have HB1 := Lib.hid hb1; clear hb1 hr1 hg1)
    go_loopw [8, 22] (fun _ i wr => ∃ k : Nat, k ≤ 8 ∧ i = .int .i64 k ∧ wr.rowIs (w.heap.size + 1) 91 128 (fun j => .int .u8 (padTo l bs 64 k j : Nat)) ∧ wr.heap[w.heap.size]? = some (.cells room.toArray 91 (0, 0)) ∧ Below w.heap.size w wr) (fun _ i _ => 8 - (intOf i).toNat)
    case atStart =>
      refine ⟨0, by omega, rfl, pad_start HL.out hn (by omega) HR1.out, ?_, ?_⟩
      · rw [Below.heap_setCell _ _ _ _ (by simp), HB1.out.block _ (by omega)]
        exact HS.out.2.2.2.2.2.1
      · exact (HS.out.2.2.2.2.2.2.trans (HB1.out.mono (by omega))).setCell (by simp) _
    case round =>
      clear hc1 hf1 HB1 HR1 HS HU
      obtain ⟨k, hk, rfl, hr, hzz, hbel⟩ := hrel
      by_cases hlt : k < 8
      · have hc := hr.cell (i := 64 - 1 - k) (by omega)
        have hf := hr.frozen (64 - 1 - k)
        have HR := Lib.hid hr
        have HZ := Lib.hid hzz
        have HBel := Lib.hid hbel
        have lk : (k : Int) < 8 := by omega
        clear hr hzz hbel
        simp only [show 64 - 1 - k = 63 - k by omega] at hc hf
        go_wp2
        go_roundw
        case rel => exact ⟨k + 1, by omega, by go_num, pad_step (by omega) HL.out (by omega) hlt (by simp) HR.out, (Below.heap_setCell _ _ _ _ (by simp)).trans HZ.out, HBel.out.setCell (by simp) _⟩
        case measure => simp [intOf]; omega
      · obtain rfl : k = 8 := by omega
        obtain ⟨cs, hcs, hsz, hget⟩ := hr
        obtain rfl : cs = cellsOf .u8 (padList l bs 64) := row_list hsz hget
        have HCS := Lib.hid hcs
        have HCZ := Lib.hid hzz
        have HBel := Lib.hid hbel
        have HP := Lib.hid (size128 _ hsz)
        have HA := Lib.hid (all_cells .u8 (padList l bs 64))
        have HZ2 := Lib.hid (show room.toArray.size = (cellsOf .u8 (padList l bs 64)).size by rw [hsz]; simp [room])
        clear hcs hzz hbel hget hsz
        go_wp2_with (first | (refine wpList_load_row rfl 91 (.tmp 6) rfl (w.heap.size + 1) rfl 91 _ (0, 0) _ HCS.out Tryz.underlying91 rfl HP.out ?_) | (refine wpList_store_row rfl 91 (.tmp 4) (.tmp 36) rfl w.heap.size _ rfl rfl 91 _ HCZ.out HP.out HZ2.out HA.out ?_))
        have hld := run_loadVar_row (P := Tryz.prog) _ w.heap.size 91 91 _ (0, 0) _ (row_new (cs' := cellsOf .u8 (padList l bs 64)) HCZ.out) Tryz.underlying91 rfl HP.out
        refine bodyPost_ret (v := .tuple #[.agg (cellsOf .u8 (padList l bs 64)), .int .i64 ((64 : Nat) : Int)]) ?_ rfl ⟨rfl, ?_⟩
        · simp [results, Tryz.results60, asAddr, hld]
        · exact below_setRow HBel.out (Nat.le_refl _) _
theorem lastBlocks_any (w : World) (A : Option Addr) (n c bs : Nat) (l : List Nat) (hB : Bytes w A n l) (hn : n < 64) (hbs : bs < 18446744073709551616) :
    Calls Tryz.prog 60 #[.slice A n c, .int .u64 bs] w fun r w' => r = .returned (.tuple #[.agg (cellsOf .u8 (padList l bs (padEnd n))), .int .i64 (padEnd n : Nat)]) ∧ Below w.heap.size w w' :=
  lastBlocks_at w A n c bs (padEnd n) l hB hn hbs (by unfold padEnd; split <;> omega)
end Go.Proofs.YtdbdeplabipfaaaGreatDoor.sumDoor
