/- The words of a block. -/
import Derived.Test.YtdbdeplabipfaaaGreatDoorSumA
namespace Go.Proofs.YtdbdeplabipfaaaGreatDoor.sumDoor
open Go.ChangeShapes Go.WideShapes Go.ChangeAt Go.RowKit Go.Proofs.YtdbdeplabipfaaaGreatDoor.sumPlain
set_option linter.unusedVariables false
set_option maxRecDepth 100000

theorem word_i (x0 x1 x2 x3 : Nat) (h0 : x0 < 256) (h1 : x1 < 256) (h2 : x2 < 256) (h3 : x3 < 256) :
    bits .or .u32 (bits .or .u32 (bits .or .u32 ((x0 : Int) * 16777216) ((x1 : Int) * 65536)) ((x2 : Int) * 256)) (x3 : Int) = ((x0 * 16777216 + x1 * 65536 + x2 * 256 + x3 : Nat) : Int) := by
  rw [show (x0 : Int) * 16777216 = ((x0 * 16777216 : Nat) : Int) by simp, show (x1 : Int) * 65536 = ((x1 * 65536 : Nat) : Int) by simp, show (x2 : Int) * 256 = ((x2 * 256 : Nat) : Int) by simp,
    u32_or_nat _ _ (by omega) (by omega), nat_join 24 _ _ (by omega) (by omega), u32_or_nat _ _ (by omega) (by omega), nat_join 16 _ _ (by omega) (by omega),
    u32_or_nat _ _ (by omega) (by omega), nat_join 8 _ _ (by omega) (by omega)]

theorem words_other (g : Nat → Nat) (k j : Nat) (h : j ≠ k) : (words g (k + 1)).getD j 0 = (words g k).getD j 0 := by
  have := words_len g k
  by_cases hj : j < k
  · exact words_old g k j hj
  · have h1 : (words g (k + 1)).length = k + 1 := words_len g (k + 1)
    simp [List.getD, List.getElem?_eq_none (show (words g (k + 1)).length ≤ j by omega), List.getElem?_eq_none (show (words g k).length ≤ j by omega)]

theorem row_step {wr : World} {N k : Nat} {kd : IntKind} {t : TypeId} {g : Nat → Nat} {v : Int} (h : wr.rowIs N t 64 (fun j => .int kd ((words g k).getD j 0 : Nat))) (hv : v = ((words g (k + 1)).getD k 0 : Nat)) :
    (wr.setCell ⟨N, k, none⟩ (.int kd v)).rowIs N t 64 (fun j => .int kd ((words g (k + 1)).getD j 0 : Nat)) := by
  refine (h.set k _).congr fun j hj => ?_
  by_cases e : j = k
  · subst e; simp only [if_true]; rw [hv]
  · simp only [if_neg e]; rw [words_other g k j e]

theorem cells_words {cs : Array Value} {kd : IntKind} {g : Nat → Nat} (hs : cs.size = 64) (h : ∀ i, i < 64 → cs[i]? = some (.int kd ((words g 64).getD i 0 : Nat))) : cs = cellsOf kd (words g 64) := by
  apply Array.ext_getElem?
  intro i
  have hl := words_len g 64
  by_cases hi : i < 64
  · rw [h i hi]
    simp [cellsOf, List.getD, hl, hi]
  · rw [Array.getElem?_eq_none (by omega)]
    rw [Array.getElem?_eq_none (by simp [cellsOf]; omega)]
theorem all_cells (kd : IntKind) (l : List Nat) : (cellsOf kd l).all (·.oneCell') = true := by
  rw [Array.all_eq_true_iff_forall_mem]
  intro v hv
  simp only [cellsOf, List.mem_toArray, List.mem_map] at hv
  obtain ⟨x, _, rfl⟩ := hv
  rfl
theorem row_new {w : World} {g : Nat} {t : TypeId} {cs cs' : Array Value} (h : w.heap[g]? = some (.cells cs t (0, 0))) : (w.setRow g cs').heap[g]? = some (.cells cs' t (0, 0)) := by
  simp [World.setRow, Array.getElem?_modify, h]
theorem below_setRow {B g : Nat} {a w : World} (h : Below B a w) (hg : B ≤ g) (cs : Array Value) : Below B a (w.setRow g cs) :=
  h.trans ⟨rfl, rfl, rfl, by simp, fun k hk => by simp only [World.setRow, Array.getElem?_modify]; rw [if_neg (by omega)]⟩
theorem row_rep (w : World) {N : Nat} (hN : N = w.heap.size) (v : Value) (t : TypeId) (n : Nat) : (w.alloc (.cells (Array.replicate n v) t)).rowIs N t n (fun _ => v) := by
  subst hN
  exact ⟨Array.replicate n v, heap_alloc_new _ _, by simp, fun i hi => by simp [hi]⟩
theorem sm0_i (x : Nat) (hx : x < 4294967296) : bits .xor .u32 (bits .xor .u32 ((rot x 7 : Nat) : Int) ((rot x 18 : Nat) : Int)) ((x : Int) / 8) = ((sm0 x : Nat) : Int) := by
  rw [u32_xor_nat _ _ (rot_lt 7 hx) (rot_lt 18 hx)]
  exact u32_xor_nat _ (x / 8) (xor_lt32 (rot_lt 7 hx) (rot_lt 18 hx)) (div_lt32 _ hx)
theorem sm1_i (x : Nat) (hx : x < 4294967296) : bits .xor .u32 (bits .xor .u32 ((rot x 17 : Nat) : Int) ((rot x 19 : Nat) : Int)) ((x : Int) / 1024) = ((sm1 x : Nat) : Int) := by
  rw [u32_xor_nat _ _ (rot_lt 17 hx) (rot_lt 19 hx)]
  exact u32_xor_nat _ (x / 1024) (xor_lt32 (rot_lt 17 hx) (rot_lt 19 hx)) (div_lt32 _ hx)

set_option maxHeartbeats 1000000 in
theorem scheduled_any (w : World) (b o n c : Nat) (l : List Nat) (hB : Bytes w (some ⟨b, o, none⟩) n l) (h64 : 64 ≤ n) (hn : n ≤ maxLen) :
    Calls Tryz.prog 59 #[.slice (some ⟨b, o, none⟩) n c] w fun e w' => e = .returned (.agg (cellsOf .u32 (words (fun i => l.getD i 0) 64))) ∧ Below w.heap.size w w' := by
  unfold maxLen at hn
  have HB := Lib.hid hB
  have hL : b < w.heap.size := hB.lt _ rfl (by omega)
  clear hB
  go_enter Tryz.func59, Tryz.ntmps59
  go_wp2
  go_loopw [4, 8] (fun _ i wr => ∃ k : Nat, k ≤ 16 ∧ i = .int .i64 k ∧ wr.rowIs (w.heap.size + 1) 89 64 (fun j => .int .u32 ((words (fun i => l.getD i 0) k).getD j 0 : Nat)) ∧ wr.rowIs w.heap.size 89 64 (fun _ => .int .u32 0) ∧ Below w.heap.size w wr) (fun _ i _ => 16 - (intOf i).toNat)
  case atStart =>
    refine ⟨0, by omega, rfl, ?_, ?_, ?_⟩
    · exact row_rep (w.alloc _) (by simp) (.int .u32 0) 89 64
    · exact (row_rep w rfl (.int .u32 0) 89 64).alloc _
    · exact ((Below.refl _ _).alloc (Nat.le_refl _) _).alloc (by simp) _
  case round =>
    obtain ⟨k, hk, rfl, hr1, hr0, hbel⟩ := hrel
    by_cases hlt : k < 16
    · have hB' : Bytes wr (some ⟨b, o, none⟩) n l := HB.out.below (fun ad' e _ => by cases e; exact hL) hbel
      obtain ⟨x0, E0, y0, c0⟩ := hB'.at_ (4 * k) (by omega)
      obtain ⟨x1, E1, y1, c1⟩ := hB'.at_ (4 * k + 1) (by omega)
      obtain ⟨x2, E2, y2, c2⟩ := hB'.at_ (4 * k + 2) (by omega)
      obtain ⟨x3, E3, y3, c3⟩ := hB'.at_ (4 * k + 3) (by omega)
      have HW : Hid (word (fun i => l.getD i 0) k = x0 * 16777216 + x1 * 65536 + x2 * 256 + x3) := by
        rw [← E0, ← E1, ← E2, ← E3]
        exact rfl
      have HI := Lib.hid (word_i x0 x1 x2 x3 y0 y1 y2 y3)
      clear E0 E1 E2 E3 hB'
      have cw := hr1.cell (i := k) (by omega)
      have cf := hr1.frozen k
      have HR1 := Lib.hid hr1
      have HR0 := Lib.hid hr0
      have HBel := Lib.hid hbel
      clear hr1 hr0 hbel
      go_wp2
      have e0 : IntKind.i64.wrap (4 * (k : Int)) = 4 * (k : Int) := IntWalk.i64_in _ (by omega)
      have e1 : IntKind.i64.wrap (4 * (k : Int) + 1) = 4 * (k : Int) + 1 := IntWalk.i64_in _ (by omega)
      have e2 : IntKind.i64.wrap (4 * (k : Int) + 2) = 4 * (k : Int) + 2 := IntWalk.i64_in _ (by omega)
      have e3 : IntKind.i64.wrap (4 * (k : Int) + 3) = 4 * (k : Int) + 3 := IntWalk.i64_in _ (by omega)
      have t0 : (4 * (k : Int)).toNat = 4 * k := by omega
      have t1 : (4 * (k : Int) + 1).toNat = 4 * k + 1 := by omega
      have t2 : (4 * (k : Int) + 2).toNat = 4 * k + 2 := by omega
      have t3 : (4 * (k : Int) + 3).toNat = 4 * k + 3 := by omega
      have b0 : (0 : Int) ≤ 4 * (k : Int) := by omega
      have b1 : (0 : Int) ≤ 4 * (k : Int) + 1 := by omega
      have b2 : (0 : Int) ≤ 4 * (k : Int) + 2 := by omega
      have b3 : (0 : Int) ≤ 4 * (k : Int) + 3 := by omega
      have l0 : 4 * (k : Int) < n := by omega
      have l1 : 4 * (k : Int) + 1 < n := by omega
      have l2 : 4 * (k : Int) + 2 < n := by omega
      have l3 : 4 * (k : Int) + 3 < n := by omega
      have l4 : (k : Int) < 64 := by omega
      go_still_tail 35, (by kernel_rfl)
      clear e0 e1 e2 e3 t0 t1 t2 t3
      go_wp2
      go_roundw
      case rel =>
        refine ⟨k + 1, by omega, by go_num, World.rowIs.drew (row_step HR1.out ?_), World.rowIs.drew (HR0.out.setOther (by simp) _), Below.drew (HBel.out.setCell (by simp) _)⟩
        rw [words_new, if_pos hlt, HW.out]
        exact HI.out
      case measure => simp [intOf]; omega
    · obtain rfl : k = 16 := by omega
      have HR1 := Lib.hid hr1
      have HR0 := Lib.hid hr0
      have HBel := Lib.hid hbel
      clear hr1 hr0 hbel
      rw [show ((16 : Nat) : Int) = 16 from rfl]
      go_wp2
      go_loopw [5, 6, 7] (fun i _ _ wr => ∃ k : Nat, 16 ≤ k ∧ k ≤ 64 ∧ i = .int .i64 k ∧ wr.rowIs (w.heap.size + 1) 89 64 (fun j => .int .u32 ((words (fun i => l.getD i 0) k).getD j 0 : Nat)) ∧ wr.rowIs w.heap.size 89 64 (fun _ => .int .u32 0) ∧ Below w.heap.size w wr) (fun i _ _ _ => 64 - (intOf i).toNat)
      case atStart => exact ⟨16, by omega, by omega, rfl, HR1.out, HR0.out, HBel.out⟩
      case round =>
        obtain ⟨k, hk1, hk2, rfl, hr1, hr0, hbel⟩ := hrel
        by_cases hlt2 : k < 64
        · have hW := words_lt (fun i => getD_lt256 HB.out.2.1 i) k
          have c15 := hr1.cell (i := k - 15) (by omega)
          have c2 := hr1.cell (i := k - 2) (by omega)
          have c16 := hr1.cell (i := k - 16) (by omega)
          have c7 := hr1.cell (i := k - 7) (by omega)
          have ck := hr1.cell (i := k) (by omega)
          have cf := hr1.frozen k
          have y15 := getD_lt hW (k - 15)
          have y2 := getD_lt hW (k - 2)
          have y16 := getD_lt hW (k - 16)
          have y7 := getD_lt hW (k - 7)
          have HN : Hid ((words (fun i => l.getD i 0) (k + 1)).getD k 0 = next (words (fun i => l.getD i 0) k) k) := by
            rw [words_new, if_neg (by omega)]; exact rfl
          unfold next at HN
          have HR1 := Lib.hid hr1
          have HR0 := Lib.hid hr0
          have HBel := Lib.hid hbel
          clear hr1 hr0 hbel hW
          generalize (words (fun i => l.getD i 0) k).getD (k - 15) 0 = x15 at *
          generalize (words (fun i => l.getD i 0) k).getD (k - 2) 0 = x2 at *
          generalize (words (fun i => l.getD i 0) k).getD (k - 16) 0 = x16 at *
          generalize (words (fun i => l.getD i 0) k).getD (k - 7) 0 = x7 at *
          have H15 := Lib.hid (sm0_i x15 y15)
          have H2 := Lib.hid (sm1_i x2 y2)
          go_wp2
          have e15 : IntKind.i64.wrap ((k : Int) - 15) = (k : Int) - 15 := IntWalk.i64_in _ (by omega)
          have e2 : IntKind.i64.wrap ((k : Int) - 2) = (k : Int) - 2 := IntWalk.i64_in _ (by omega)
          have t15 : ((k : Int) - 15).toNat = k - 15 := by omega
          have t2 : ((k : Int) - 2).toNat = k - 2 := by omega
          have b15 : (0 : Int) ≤ (k : Int) - 15 := by omega
          have b2 : (0 : Int) ≤ (k : Int) - 2 := by omega
          have d15 : (15 : Int) ≤ (k : Int) := by omega
          have d2 : (2 : Int) ≤ (k : Int) := by omega
          have l15 : (k : Int) - 15 < 64 := by omega
          have l2 : (k : Int) - 2 < 64 := by omega
          go_quiet (fail)
          clear e15 e2 t15 t2
          go_wp2_with fail
          (with_reducible refine (rotated_i _ x15 7 7 rfl y15 (by omega) (by omega)).mono ?_)
          rintro e w' ⟨rfl, rfl⟩
          go_wp2_with fail
          (with_reducible refine (rotated_i _ x15 18 18 rfl y15 (by omega) (by omega)).mono ?_)
          rintro e w' ⟨rfl, rfl⟩
          go_wp2_with fail
          (with_reducible refine (rotated_i _ x2 17 17 rfl y2 (by omega) (by omega)).mono ?_)
          rintro e w' ⟨rfl, rfl⟩
          go_wp2_with fail
          (with_reducible refine (rotated_i _ x2 19 19 rfl y2 (by omega) (by omega)).mono ?_)
          rintro e w' ⟨rfl, rfl⟩
          go_wp2
          rw [H15.out, H2.out]
          have q16 : (wr.drewN nq).cell? ⟨w.heap.size + 1, k - 16, none⟩ = some (.int .u32 (x16 : Nat)) := c16
          have q7 : (wr.drewN nq).cell? ⟨w.heap.size + 1, k - 7, none⟩ = some (.int .u32 (x7 : Nat)) := c7
          have qk : (wr.drewN nq).cell? ⟨w.heap.size + 1, k, none⟩ = some (.int .u32 ((words (fun i => l.getD i 0) k).getD k 0 : Nat)) := ck
          have qf : (wr.drewN nq).frozen? ⟨w.heap.size + 1, k, none⟩ = false := cf
          have QR1 : Hid ((wr.drewN nq).rowIs (w.heap.size + 1) 89 64 (fun j => .int .u32 ((words (fun i => l.getD i 0) k).getD j 0 : Nat))) := HR1.out
          have QR0 : Hid ((wr.drewN nq).rowIs w.heap.size 89 64 (fun _ => .int .u32 0)) := HR0.out
          have QBel : Hid (Below w.heap.size w (wr.drewN nq)) := below_draws HBel.out nq
          clear c16 c7 ck cf c15 c2 HR1 HR0 HBel
          generalize wr.drewN nq = wq at *
          have z15 := sm0_lt y15
          have z2 := sm1_lt y2
          generalize sm0 x15 = s15 at *
          generalize sm1 x2 = s2 at *
          have e16 : IntKind.i64.wrap ((k : Int) - 16) = (k : Int) - 16 := IntWalk.i64_in _ (by omega)
          have e7 : IntKind.i64.wrap ((k : Int) - 7) = (k : Int) - 7 := IntWalk.i64_in _ (by omega)
          have t16 : ((k : Int) - 16).toNat = k - 16 := by omega
          have t7 : ((k : Int) - 7).toNat = k - 7 := by omega
          have b16 : (0 : Int) ≤ (k : Int) - 16 := by omega
          have b7 : (0 : Int) ≤ (k : Int) - 7 := by omega
          have d16 : (16 : Int) ≤ (k : Int) := by omega
          have d7 : (7 : Int) ≤ (k : Int) := by omega
          have l16 : (k : Int) - 16 < 64 := by omega
          have l7 : (k : Int) - 7 < 64 := by omega
          have lk : (k : Int) < 64 := by omega
          go_still_tail 15, (by kernel_rfl)
          clear e16 e7 t16 t7
          go_wp2
          go_roundw
          case rel =>
            refine ⟨k + 1, by omega, by omega, by go_num, World.rowIs.drew (row_step QR1.out ?_), World.rowIs.drew (QR0.out.setOther (by simp) _), Below.drew (QBel.out.setCell (by simp) _)⟩
            rw [HN.out]
            omega
          case measure => simp [intOf]; omega
        · obtain rfl : k = 64 := by omega
          obtain ⟨cs, hcs, hsz, hget⟩ := hr1
          obtain ⟨cz, hcz, hzz, _⟩ := hr0
          obtain rfl : cs = cellsOf .u32 (words (fun i => l.getD i 0) 64) := cells_words hsz hget
          have HBel := Lib.hid hbel
          have hall : (cellsOf .u32 (words (fun i => l.getD i 0) 64)).all (·.oneCell') = true := all_cells _ _
          have hsz' : cz.size = (cellsOf .u32 (words (fun i => l.getD i 0) 64)).size := by omega
          have hp : (Tryz.prog.info? 89).map (·.size) = some (cellsOf .u32 (words (fun i => l.getD i 0) 64)).size := by rw [hsz]; kernel_rfl
          have HCS := Lib.hid hcs
          have HCZ := Lib.hid hcz
          have HALL := Lib.hid hall
          have HSZ := Lib.hid hsz'
          have HP := Lib.hid hp
          clear hcs hcz hall hsz' hp hget hsz hzz hbel
          go_wp2_with (first | (refine wpList_load_row rfl 89 (.tmp 3) rfl (w.heap.size + 1) rfl 89 _ (0, 0) _ HCS.out Tryz.underlying89 rfl HP.out ?_) | (refine wpList_store_row rfl 89 (.tmp 2) (.tmp 90) rfl w.heap.size _ rfl rfl 89 _ HCZ.out HP.out HSZ.out HALL.out ?_))
          refine bodyPost_ret (v := .agg (cellsOf .u32 (words (fun i => l.getD i 0) 64))) ?_ rfl ⟨rfl, ?_⟩
          · refine results_cell_row Tryz.results59 _ _ w.heap.size 89 _ (0, 0) _ rfl ?_ Tryz.underlying89 rfl HP.out
            exact row_new HCZ.out
          · exact below_setRow HBel.out (Nat.le_refl _) _
end Go.Proofs.YtdbdeplabipfaaaGreatDoor.sumDoor
