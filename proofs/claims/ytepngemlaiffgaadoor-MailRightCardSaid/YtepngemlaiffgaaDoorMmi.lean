/- MailRight. -/
import Derived.Test.YtepngemlaiffgaaDoorMm3
namespace Go.Proofs.YtepngemlaiffgaaDoor.mal
open Go.ChangeShapes Go.WideShapes Go.ChangeAt Go.RowKit
open Go.Proofs.YtepngemlaiffgaaDoor.codec (Bytes vals)
open Go.Proofs.YtepngemlaiffgaaDoor.bod (cell_at Fit boxed named formedB)
open Go.Proofs.YtepngemlaiffgaaDoor.lg (Nt Y Rd Own Oct cM fM fl fl_at nts nts_at nts_len take_next)
set_option linter.unusedVariables false
set_option maxRecDepth 100000
set_option linter.unusedSimpArgs false

theorem right_many1 (W : World) (S S' : ByteArray) (E X E' X' v : Nat) (A B : Option Addr) (n c m d : Nat) (qs zs : List Y) (hR : Rd cM 4 W A n qs) (hR' : Rd cM 4 W B m zs) (hn : n ≤ 140737488355328) (hS : S.size ≤ 140737488355328) (hm : ∀ y ∈ qs, y.m ≤ 140737488355328) (hn' : m ≤ 140737488355328) (hS' : S'.size ≤ 140737488355328) (hm' : ∀ y ∈ zs, y.m ≤ 140737488355328) (hr : Fit W) (hf : fewB S (nts qs) = false) :
    Calls Tryd.prog 3 #[.agg #[.string S, .int .u32 E, .int .u32 X, .slice A n c], .agg #[.string S', .int .u32 E', .int .u32 X', .slice B m d], .int .u32 (v : Nat)] W fun x w' => x = .returned (.bool true) ∧ Below W.heap.size W w' := by
  obtain ⟨W1, hW1⟩ : ∃ W1, W1 = (W.alloc (.cells #[.string S, .int .u32 E, .int .u32 X, .slice A n c] 25)).alloc (.cells #[.string S', .int .u32 E', .int .u32 X', .slice B m d] 25) := ⟨_, rfl⟩
  have HBW := Lib.hid (show Below W.heap.size W W1 by rw [hW1]; exact ((Below.refl _ _).alloc (Nat.le_refl _) _).alloc (by simp) _)
  have HP1 := Lib.hid (fun (w' : World) (h : Below W1.heap.size W1 w') => show w'.heap[W.heap.size]? = some (.cells #[.string S, .int .u32 E, .int .u32 X, .slice A n c] 25 (0, 0)) from (h.block _ (by rw [hW1]; simp; omega)).trans (by rw [hW1, heap_alloc_old _ _ (by simp)]; exact heap_alloc_new _ _))
  have HP2 := Lib.hid (fun (w' : World) (h : Below W1.heap.size W1 w') => show w'.heap[W.heap.size + 1]? = some (.cells #[.string S', .int .u32 E', .int .u32 X', .slice B m d] 25 (0, 0)) from (h.block _ (by rw [hW1]; simp)).trans (by rw [hW1]; have := heap_alloc_new (W.alloc (.cells #[.string S, .int .u32 E, .int .u32 X, .slice A n c] 25)) (.cells #[.string S', .int .u32 E', .int .u32 X', .slice B m d] 25); simpa using this))
  have HFit := Lib.hid (fun (w1 : World) (h : Below W1.heap.size W1 w1) => hr.below (HBW.out.trans (h.mono HBW.out.size)))
  have HRA := Lib.hid (fun (w1 : World) (h : Below W1.heap.size W1 w1) => hR.below (HBW.out.trans (h.mono HBW.out.size)))
  have HRB := Lib.hid (fun (w1 : World) (h : Below W1.heap.size W1 w1) => hR'.below (HBW.out.trans (h.mono HBW.out.size)))
  have HF1 := Lib.hid (fun (w1 : World) (h : Below W1.heap.size W1 w1) => few2_any w1 S E X A n c qs none 0 0 (HRA.out w1 h) hn hS hm)
  have HF2 := Lib.hid (fun (w1 : World) (h : Below W1.heap.size W1 w1) => few2_any w1 S' E' X' B m d zs none 0 0 (HRB.out w1 h) hn' hS' hm')
  have HW1 := Lib.hid hW1
  rw [hf] at HF1
  clear hW1 hR hR' hn hS hm hn' hS' hm' hr hf
  go_enter Tryd.func3, Tryd.ntmps3
  go_wp2_with fail
  rw [← HW1.out]
  refine (awake_any W1 (HFit.out _ (Below.refl _ _))).mono ?_
  rintro x w1 ⟨rfl, hb1⟩
  have HB1 := Lib.hid hb1
  have c0 := cell_at (HP1.out _ hb1) 0 _ rfl
  have c1 := cell_at (HP1.out _ hb1) 1 _ rfl
  have c2 := cell_at (HP1.out _ hb1) 2 _ rfl
  have c3 := cell_at (HP1.out _ hb1) 3 _ rfl
  clear hb1
  go_wp2_with fail
  clear c0 c1 c2 c3
  refine (HF1.out w1 HB1.out).mono ?_
  rintro x w2 ⟨rfl, hb2⟩
  have HB2 := Lib.hid (HB1.out.trans (hb2.mono HB1.out.size))
  clear hb2
  go_wp2_with fail
  refine (awake_any w2 (HFit.out _ HB2.out)).mono ?_
  rintro x w3 ⟨rfl, hb3⟩
  have HB3 := Lib.hid (HB2.out.trans (hb3.mono HB2.out.size))
  clear hb3
  go_wp2_with fail
  go_ret
  exact ⟨rfl, HBW.out.trans (HB3.out.mono HBW.out.size)⟩
theorem right_many2 (W : World) (S S' : ByteArray) (E X E' X' v : Nat) (A B : Option Addr) (n c m d : Nat) (qs zs : List Y) (hR : Rd cM 4 W A n qs) (hR' : Rd cM 4 W B m zs) (hn : n ≤ 140737488355328) (hS : S.size ≤ 140737488355328) (hm : ∀ y ∈ qs, y.m ≤ 140737488355328) (hn' : m ≤ 140737488355328) (hS' : S'.size ≤ 140737488355328) (hm' : ∀ y ∈ zs, y.m ≤ 140737488355328) (hr : Fit W) (hf : fewB S (nts qs) = true) (hf' : fewB S' (nts zs) = false) :
    Calls Tryd.prog 3 #[.agg #[.string S, .int .u32 E, .int .u32 X, .slice A n c], .agg #[.string S', .int .u32 E', .int .u32 X', .slice B m d], .int .u32 (v : Nat)] W fun x w' => x = .returned (.bool true) ∧ Below W.heap.size W w' := by
  obtain ⟨W1, hW1⟩ : ∃ W1, W1 = (W.alloc (.cells #[.string S, .int .u32 E, .int .u32 X, .slice A n c] 25)).alloc (.cells #[.string S', .int .u32 E', .int .u32 X', .slice B m d] 25) := ⟨_, rfl⟩
  have HBW := Lib.hid (show Below W.heap.size W W1 by rw [hW1]; exact ((Below.refl _ _).alloc (Nat.le_refl _) _).alloc (by simp) _)
  have HP1 := Lib.hid (fun (w' : World) (h : Below W1.heap.size W1 w') => show w'.heap[W.heap.size]? = some (.cells #[.string S, .int .u32 E, .int .u32 X, .slice A n c] 25 (0, 0)) from (h.block _ (by rw [hW1]; simp; omega)).trans (by rw [hW1, heap_alloc_old _ _ (by simp)]; exact heap_alloc_new _ _))
  have HP2 := Lib.hid (fun (w' : World) (h : Below W1.heap.size W1 w') => show w'.heap[W.heap.size + 1]? = some (.cells #[.string S', .int .u32 E', .int .u32 X', .slice B m d] 25 (0, 0)) from (h.block _ (by rw [hW1]; simp)).trans (by rw [hW1]; have := heap_alloc_new (W.alloc (.cells #[.string S, .int .u32 E, .int .u32 X, .slice A n c] 25)) (.cells #[.string S', .int .u32 E', .int .u32 X', .slice B m d] 25); simpa using this))
  have HFit := Lib.hid (fun (w1 : World) (h : Below W1.heap.size W1 w1) => hr.below (HBW.out.trans (h.mono HBW.out.size)))
  have HRA := Lib.hid (fun (w1 : World) (h : Below W1.heap.size W1 w1) => hR.below (HBW.out.trans (h.mono HBW.out.size)))
  have HRB := Lib.hid (fun (w1 : World) (h : Below W1.heap.size W1 w1) => hR'.below (HBW.out.trans (h.mono HBW.out.size)))
  have HF1 := Lib.hid (fun (w1 : World) (h : Below W1.heap.size W1 w1) => few2_any w1 S E X A n c qs none 0 0 (HRA.out w1 h) hn hS hm)
  have HF2 := Lib.hid (fun (w1 : World) (h : Below W1.heap.size W1 w1) => few2_any w1 S' E' X' B m d zs none 0 0 (HRB.out w1 h) hn' hS' hm')
  have HW1 := Lib.hid hW1
  rw [hf] at HF1
  rw [hf'] at HF2
  clear hW1 hR hR' hn hS hm hn' hS' hm' hr hf hf'
  go_enter Tryd.func3, Tryd.ntmps3
  go_wp2_with fail
  rw [← HW1.out]
  refine (awake_any W1 (HFit.out _ (Below.refl _ _))).mono ?_
  rintro x w1 ⟨rfl, hb1⟩
  have HB1 := Lib.hid hb1
  have c0 := cell_at (HP1.out _ hb1) 0 _ rfl
  have c1 := cell_at (HP1.out _ hb1) 1 _ rfl
  have c2 := cell_at (HP1.out _ hb1) 2 _ rfl
  have c3 := cell_at (HP1.out _ hb1) 3 _ rfl
  clear hb1
  go_wp2_with fail
  clear c0 c1 c2 c3
  refine (HF1.out w1 HB1.out).mono ?_
  rintro x w2 ⟨rfl, hb2⟩
  have HB2 := Lib.hid (HB1.out.trans (hb2.mono HB1.out.size))
  clear hb2
  have d0 := cell_at (HP2.out _ HB2.out) 0 _ rfl
  have d1 := cell_at (HP2.out _ HB2.out) 1 _ rfl
  have d2 := cell_at (HP2.out _ HB2.out) 2 _ rfl
  have d3 := cell_at (HP2.out _ HB2.out) 3 _ rfl
  go_wp2_with fail
  clear d0 d1 d2 d3
  refine (HF2.out w2 HB2.out).mono ?_
  rintro x w3 ⟨rfl, hb3⟩
  have HB3 := Lib.hid (HB2.out.trans (hb3.mono HB2.out.size))
  clear hb3
  go_wp2_with fail
  refine (awake_any w3 (HFit.out _ HB3.out)).mono ?_
  rintro x w4 ⟨rfl, hb4⟩
  have HB4 := Lib.hid (HB3.out.trans (hb4.mono HB3.out.size))
  clear hb4
  go_wp2_with fail
  go_ret
  exact ⟨rfl, HBW.out.trans (HB4.out.mono HBW.out.size)⟩
set_option maxHeartbeats 8000000 in
theorem right_few (W : World) (S S' : ByteArray) (E X E' X' v : Nat) (A B : Option Addr) (n c m d : Nat) (qs zs : List Y) (hR : Rd cM 4 W A n qs) (hR' : Rd cM 4 W B m zs) (hn : n ≤ 140737488355328) (hS : S.size ≤ 140737488355328) (hm : ∀ y ∈ qs, y.m ≤ 140737488355328) (hn' : m ≤ 140737488355328) (hS' : S'.size ≤ 140737488355328) (hm' : ∀ y ∈ zs, y.m ≤ 140737488355328) (hr : Fit W) (hf : fewB S (nts qs) = true) (hf' : fewB S' (nts zs) = true) :
    Calls Tryd.prog 3 #[.agg #[.string S, .int .u32 E, .int .u32 X, .slice A n c], .agg #[.string S', .int .u32 E', .int .u32 X', .slice B m d], .int .u32 (v : Nat)] W fun x w' => x = .returned (.bool true) ∧ Below W.heap.size W w' := by
  obtain ⟨z1, z2, z3⟩ := fewB_size hf
  obtain ⟨y1, y2, y3⟩ := fewB_size hf'
  have hn5 : n ≤ 60000 := by rw [nts_len, hR.1] at z2; exact z2
  have hm5 : m ≤ 60000 := by rw [nts_len, hR'.1] at y2; exact y2
  obtain ⟨W1, hW1⟩ : ∃ W1, W1 = (W.alloc (.cells #[.string S, .int .u32 E, .int .u32 X, .slice A n c] 25)).alloc (.cells #[.string S', .int .u32 E', .int .u32 X', .slice B m d] 25) := ⟨_, rfl⟩
  have HBW := Lib.hid (show Below W.heap.size W W1 by rw [hW1]; exact ((Below.refl _ _).alloc (Nat.le_refl _) _).alloc (by simp) _)
  have HP1 := Lib.hid (fun (w' : World) (h : Below W1.heap.size W1 w') => show w'.heap[W.heap.size]? = some (.cells #[.string S, .int .u32 E, .int .u32 X, .slice A n c] 25 (0, 0)) from (h.block _ (by rw [hW1]; simp; omega)).trans (by rw [hW1, heap_alloc_old _ _ (by simp)]; exact heap_alloc_new _ _))
  have HP2 := Lib.hid (fun (w' : World) (h : Below W1.heap.size W1 w') => show w'.heap[W.heap.size + 1]? = some (.cells #[.string S', .int .u32 E', .int .u32 X', .slice B m d] 25 (0, 0)) from (h.block _ (by rw [hW1]; simp)).trans (by rw [hW1]; have := heap_alloc_new (W.alloc (.cells #[.string S, .int .u32 E, .int .u32 X, .slice A n c] 25)) (.cells #[.string S', .int .u32 E', .int .u32 X', .slice B m d] 25); simpa using this))
  have HFit := Lib.hid (fun (w1 : World) (h : Below W1.heap.size W1 w1) => hr.below (HBW.out.trans (h.mono HBW.out.size)))
  have HRA := Lib.hid (fun (w1 : World) (h : Below W1.heap.size W1 w1) => hR.below (HBW.out.trans (h.mono HBW.out.size)))
  have HRB := Lib.hid (fun (w1 : World) (h : Below W1.heap.size W1 w1) => hR'.below (HBW.out.trans (h.mono HBW.out.size)))
  have HF1 := Lib.hid (fun (w1 : World) (h : Below W1.heap.size W1 w1) => few2_any w1 S E X A n c qs none 0 0 (HRA.out w1 h) hn hS hm)
  have HF2 := Lib.hid (fun (w1 : World) (h : Below W1.heap.size W1 w1) => few2_any w1 S' E' X' B m d zs none 0 0 (HRB.out w1 h) hn' hS' hm')
  have HW1 := Lib.hid hW1
  rw [hf] at HF1
  rw [hf'] at HF2
  have HRi := Lib.hid (fun (w1 : World) (h : Below W1.heap.size W1 w1) => right_any w1 S E X A n c qs (HRA.out w1 h) (by omega) (by omega) (HFit.out w1 h))
  have HRr := Lib.hid (fun (w1 : World) (h : Below W1.heap.size W1 w1) => rRight_any w1 S E X A n c qs (HRA.out w1 h) (by omega))
  have HSa := Lib.hid (fun (w1 : World) (h : Below W1.heap.size W1 w1) => same_any w1 S S' E X E' X' A B n c m d qs zs (HRA.out w1 h) (HRB.out w1 h) (by omega))
  have HSb := Lib.hid (fun (w1 : World) (h : Below W1.heap.size W1 w1) => sameBox_any w1 S S' E X E' X' A B n c m d qs zs (HRA.out w1 h) (HRB.out w1 h) (by omega))
  have HAt := Lib.hid (fun (w1 : World) (h : Below W1.heap.size W1 w1) => at_any w1 S E X v A n c qs (HRA.out w1 h) (by omega))
  have HSZ := Lib.hid z1
  have HN5 := Lib.hid hn5
  have HL := Lib.hid (show (nts qs).length = n by rw [nts_len, hR.1])
  generalize right S E X (nts qs) = rr at *
  generalize sameB S E X (nts qs) S' E' X' (nts zs) = rs at *
  clear hW1 hR hR' hn hS hm hn' hS' hm' hr hf hf' z1 z2 z3 y1 y2 y3 hn5 hm5
  go_enter Tryd.func3, Tryd.ntmps3
  go_wp2_with fail
  rw [← HW1.out]
  refine (awake_any W1 (HFit.out _ (Below.refl _ _))).mono ?_
  rintro x w1 ⟨rfl, hb1⟩
  have HB1 := Lib.hid hb1
  have c0 := cell_at (HP1.out _ hb1) 0 _ rfl
  have c1 := cell_at (HP1.out _ hb1) 1 _ rfl
  have c2 := cell_at (HP1.out _ hb1) 2 _ rfl
  have c3 := cell_at (HP1.out _ hb1) 3 _ rfl
  clear hb1
  go_wp2_with fail
  clear c0 c1 c2 c3
  refine (HF1.out w1 HB1.out).mono ?_
  rintro x w2 ⟨rfl, hb2⟩
  have HB2 := Lib.hid (HB1.out.trans (hb2.mono HB1.out.size))
  clear hb2
  have d0 := cell_at (HP2.out _ HB2.out) 0 _ rfl
  have d1 := cell_at (HP2.out _ HB2.out) 1 _ rfl
  have d2 := cell_at (HP2.out _ HB2.out) 2 _ rfl
  have d3 := cell_at (HP2.out _ HB2.out) 3 _ rfl
  go_wp2_with fail
  clear d0 d1 d2 d3
  refine (HF2.out w2 HB2.out).mono ?_
  rintro x w3 ⟨rfl, hb3⟩
  have HB3 := Lib.hid (HB2.out.trans (hb3.mono HB2.out.size))
  clear hb3
  have c3 := cell_at (HP1.out _ HB3.out) 3 _ rfl
  have hn5 := HN5.out
  go_wp2_with fail
  go_loop [7, 8] (fun a i => ∃ z : Int, (-1 ≤ z ∧ z < n) ∧ i = .int .i64 z ∧ a = .int .i64 (fr (fun t : Nt => decide (t.u = v)) ((nts qs).drop (z + 1).toNat) (z + 1).toNat)) (fun _ i => (intOf i + 1).toNat)
  case atStart => exact ⟨(n : Int) - 1, by omega, by go_num, by rw [show ((n : Int) - 1 + 1).toNat = n by omega, fr_end (by rw [HL.out]; omega)]⟩
  case round =>
    obtain ⟨z, hz, rfl, rfl⟩ := hrel
    by_cases hz0 : 0 ≤ z
    · obtain ⟨j, rfl⟩ := Int.eq_ofNat_of_zero_le hz0
      obtain ⟨b, o, ⟨⟨tk, te, ts, tu, td, tf, to_⟩, a1, A1, m1, c1⟩, rfl, hx, e0, -, -, -, -⟩ := (HRA.out _ HB3.out).at4 j (by omega)
      simp only [] at e0
      have hF := fr_at (p := (fun t : Nt => decide (t.u = v))) (nts_at hx)
      simp only [] at hF
      have hj1 : ((j : Int) + 1).toNat = j + 1 := by omega
      have hlt' : (j : Int) < (n : Int) := by omega
      rw [hj1]
      by_cases huv : tu = v
      · have q : ((tu : Int) == (v : Int)) = true := by rw [beq_iff_eq]; omega
        have HFF := Lib.hid (show fr (fun t : Nt => decide (t.u = v)) ((nts qs).drop ((j : Int) - 1 + 1).toNat) ((j : Int) - 1 + 1).toNat = (j : Int) by rw [show ((j : Int) - 1 + 1).toNat = j by omega, hF, if_pos (decide_eq_true huv)])
        clear hF huv hx hj1
        go_wp2_with fail
        go_round
        case rel => first | exact ⟨(j : Int) - 1, by omega, by go_num, by rw [HFF.out]⟩ | ((repeat apply Exists.intro); exact ⟨⟨(j : Int) - 1, by omega, by go_num, by rw [HFF.out]⟩, rfl⟩)
        case measure => (show ((j : Int) - 1 + 1).toNat < ((j : Int) + 1).toNat; omega)
      · have q : ((tu : Int) == (v : Int)) = false := by rw [beq_eq_false_iff_ne]; omega
        have HFF := Lib.hid (show fr (fun t : Nt => decide (t.u = v)) ((nts qs).drop ((j : Int) - 1 + 1).toNat) ((j : Int) - 1 + 1).toNat = fr (fun t : Nt => decide (t.u = v)) ((nts qs).drop (j + 1)) (j + 1) by rw [show ((j : Int) - 1 + 1).toNat = j by omega, hF, if_neg (by simpa using huv)])
        clear hF huv hx hj1
        go_wp2_with fail
        go_round
        case rel => first | exact ⟨(j : Int) - 1, by omega, by go_num, by rw [HFF.out]⟩ | ((repeat apply Exists.intro); exact ⟨⟨(j : Int) - 1, by omega, by go_num, by rw [HFF.out]⟩, rfl⟩)
        case measure => (show ((j : Int) - 1 + 1).toNat < ((j : Int) + 1).toNat; omega)
    · obtain rfl : z = -1 := by omega
      rw [show ((-1 : Int) + 1).toNat = 0 from rfl, List.drop_zero]
      generalize fr (fun t : Nt => decide (t.u = v)) (nts qs) 0 = q at *
      clear hz hz0
      clear c3
      have c0 := cell_at (HP1.out _ HB3.out) 0 _ rfl
      have c1 := cell_at (HP1.out _ HB3.out) 1 _ rfl
      have c3 := cell_at (HP1.out _ HB3.out) 3 _ rfl
      cases hq : (named S && decide (E ≠ 0)) with
      | true =>
          have HNew := Lib.hid (new_yes w3 S E (by have := HSZ.out; omega) (HFit.out _ HB3.out) hq)
          rw [Bool.and_eq_true] at hq
          have HNm := Lib.hid hq.1
          have hE : E ≠ 0 := of_decide_eq_true hq.2
          have qE : decide (0 < E) = true := decide_eq_true (by omega)
          clear hq hE
          go_wp2_with fail
          refine HNew.out.mono ?_
          rintro x w4 ⟨A4, c4, rfl, hb4⟩
          have HB4 := Lib.hid (HB3.out.trans (hb4.mono HB3.out.size))
          clear hb4 c0 c1 c3
          have hbA : Below W1.heap.size W1 (w4.alloc (.cells #[.string S, .int .u32 E, .int .u32 1, .slice A4 0 c4] 25)) := HB4.out.alloc HB4.out.size _
          have HBA := Lib.hid hbA
          have c0 := cell_at (HP1.out _ hbA) 0 _ rfl
          have c1 := cell_at (HP1.out _ hbA) 1 _ rfl
          clear hbA
          go_wp2_with fail
          refine (bod.rNamed_any _ S (by have := HSZ.out; omega)).mono ?_
          rw [HNm.out]
          rintro x w6 ⟨rfl, hb6⟩
          have HB6 := Lib.hid (HBA.out.trans (hb6.mono HBA.out.size))
          have hx6 := (boxed hb6).1
          clear hb6 c0 c1
          have c0 := cell_at (HP1.out _ HB6.out) 0 _ rfl
          have c1 := cell_at (HP1.out _ HB6.out) 1 _ rfl
          have x0 := cell_at hx6 0 _ rfl
          have x1 := cell_at hx6 1 _ rfl
          have x2 := cell_at hx6 2 _ rfl
          have x3 := cell_at hx6 3 _ rfl
          clear hx6
          go_wp2_with fail
          clear c0 c1 x0 x1 x2 x3
          have HST := Lib.hid (show Below w6.heap.size w6 w6.drew from codec.below_draws (Below.refl _ _) 1)
          refine wp_region_noPanic ?_
          refine wp_region_held_drew (S := fun w' => Below w6.heap.size w6 w') (by kernel_rfl) HST.out (fun hHeld => ?_)
          refine wpAnyH_take (i := 0) (v := ?_) rfl (by kernel_rfl) (by kernel_rfl) (by kernel_rfl) (fun _ _ _ h => h) (Or.inl ⟨by kernel_rfl, ?_⟩) hHeld ?_
          rotate_left
          · (intro w' hw'; have h6 := HB6.out.trans (hw'.mono HB6.out.size); have bh := HP1.out _ h6; have b0 := cell_at bh 0 _ rfl; have b1 := cell_at bh 1 _ rfl; have b2 := cell_at bh 2 _ rfl; have b3 := cell_at bh 3 _ rfl; go_simp; first | done | with_reducible rfl)
          refine wpAnyH_take (i := 2) (v := ?_) rfl (by kernel_rfl) (by kernel_rfl) (by kernel_rfl) (fun _ _ _ h => h) (Or.inl ⟨by kernel_rfl, ?_⟩) hHeld ?_
          rotate_left
          · (intro w' hw'; have h6 := HB6.out.trans (hw'.mono HB6.out.size); have bh := HP1.out _ h6; have b0 := cell_at bh 0 _ rfl; have b1 := cell_at bh 1 _ rfl; have b2 := cell_at bh 2 _ rfl; have b3 := cell_at bh 3 _ rfl; go_simp; first | done | with_reducible rfl)
          refine wpAnyH_ready (rs := [1]) (by kernel_rfl) (by simp) ?_
          refine AllReadyH.cons rfl (fun K hK => ?_) AllReadyH.nil
          go_simp
          refine (HRi.out _ (HB6.out.trans (hHeld.mono HB6.out.size))).mono ?_
          rintro x r11 ⟨rfl, hb11⟩
          have hS11 := hHeld.trans (hb11.mono hHeld.size)
          clear hb11
          go_wp2_with fail
          refine hK.out _ _ hS11 (fun hH1 => ?_)
          clear hK K hHeld
          refine wpAnyH_ready (rs := [3]) (by kernel_rfl) (by simp) ?_
          refine AllReadyH.cons rfl (fun K hK => ?_) AllReadyH.nil
          go_simp
          refine (HRr.out _ (HB6.out.trans (hS11.mono HB6.out.size))).mono ?_
          rintro x r12 ⟨rfl, hb12⟩
          have hS12 := hS11.trans (hb12.mono hS11.size)
          clear hb12
          go_wp2_with fail
          refine hK.out _ _ hS12 (fun hH2 => ?_)
          clear hK K hH1
          refine wpAnyH_take (i := 4) (v := ?_) rfl (by kernel_rfl) (by kernel_rfl) (by kernel_rfl) (fun _ _ _ h => h) (Or.inl ⟨by kernel_rfl, ?_⟩) hH2 ?_
          rotate_left
          · (intro w' hw'; go_simp; first | done | with_reducible rfl)
          refine wpAnyH_take (i := 5) (v := ?_) rfl (by kernel_rfl) (by kernel_rfl) (by kernel_rfl) (fun _ _ _ h => h) (Or.inl ⟨by kernel_rfl, ?_⟩) hH2 ?_
          rotate_left
          · (intro w' hw'; go_simp; first | done | with_reducible rfl)
          refine wpAnyH_take (i := 6) (v := ?_) rfl (by kernel_rfl) (by kernel_rfl) (by kernel_rfl) (fun _ _ _ h => h) (Or.inl ⟨by kernel_rfl, ?_⟩) hH2 ?_
          rotate_left
          · (intro w' hw'; have h6 := HB6.out.trans (hw'.mono HB6.out.size); have bh := HP1.out _ h6; have b0 := cell_at bh 0 _ rfl; have b1 := cell_at bh 1 _ rfl; have b2 := cell_at bh 2 _ rfl; have b3 := cell_at bh 3 _ rfl; go_simp; first | done | with_reducible rfl)
          refine wpAnyH_take (i := 7) (v := ?_) rfl (by kernel_rfl) (by kernel_rfl) (by kernel_rfl) (fun _ _ _ h => h) (Or.inl ⟨by kernel_rfl, ?_⟩) hH2 ?_
          rotate_left
          · (intro w' hw'; have h6 := HB6.out.trans (hw'.mono HB6.out.size); have bh := HP2.out _ h6; have b0 := cell_at bh 0 _ rfl; have b1 := cell_at bh 1 _ rfl; have b2 := cell_at bh 2 _ rfl; have b3 := cell_at bh 3 _ rfl; go_simp; first | done | with_reducible rfl)
          refine wpAnyH_take (i := 9) (v := ?_) rfl (by kernel_rfl) (by kernel_rfl) (by kernel_rfl) (fun _ _ _ h => h) (Or.inl ⟨by kernel_rfl, ?_⟩) hH2 ?_
          rotate_left
          · (intro w' hw'; have h6 := HB6.out.trans (hw'.mono HB6.out.size); have bh := HP1.out _ h6; have b0 := cell_at bh 0 _ rfl; have b1 := cell_at bh 1 _ rfl; have b2 := cell_at bh 2 _ rfl; have b3 := cell_at bh 3 _ rfl; go_simp; first | done | with_reducible rfl)
          refine wpAnyH_take (i := 10) (v := ?_) rfl (by kernel_rfl) (by kernel_rfl) (by kernel_rfl) (fun _ _ _ h => h) (Or.inl ⟨by kernel_rfl, ?_⟩) hH2 ?_
          rotate_left
          · (intro w' hw'; have h6 := HB6.out.trans (hw'.mono HB6.out.size); have bh := HP2.out _ h6; have b0 := cell_at bh 0 _ rfl; have b1 := cell_at bh 1 _ rfl; have b2 := cell_at bh 2 _ rfl; have b3 := cell_at bh 3 _ rfl; go_simp; first | done | with_reducible rfl)
          refine wpAnyH_ready (rs := [8]) (by kernel_rfl) (by simp) ?_
          refine AllReadyH.cons rfl (fun K hK => ?_) AllReadyH.nil
          go_simp
          refine (HSa.out _ (HB6.out.trans (hS12.mono HB6.out.size))).mono ?_
          rintro x r13 ⟨rfl, hb13⟩
          have hS13 := hS12.trans (hb13.mono hS12.size)
          clear hb13
          go_wp2_with fail
          refine hK.out _ _ hS13 (fun hH3 => ?_)
          clear hK K hH2
          refine wpAnyH_ready (rs := [11]) (by kernel_rfl) (by simp) ?_
          refine AllReadyH.cons rfl (fun K hK => ?_) AllReadyH.nil
          go_simp
          refine (HSb.out _ (HB6.out.trans (hS13.mono HB6.out.size))).mono ?_
          rintro x r14 ⟨rfl, hb14⟩
          have hS14 := hS13.trans (hb14.mono hS13.size)
          clear hb14
          go_wp2_with fail
          refine hK.out _ _ hS14 (fun hH4 => ?_)
          clear hK K hH3
          refine wpAnyH_take (i := 12) (v := ?_) rfl (by kernel_rfl) (by kernel_rfl) (by kernel_rfl) (fun _ _ _ h => h) (Or.inl ⟨by kernel_rfl, ?_⟩) hH4 ?_
          rotate_left
          · (intro w' hw'; go_simp; first | done | with_reducible rfl)
          refine wpAnyH_take (i := 13) (v := ?_) rfl (by kernel_rfl) (by kernel_rfl) (by kernel_rfl) (fun _ _ _ h => h) (Or.inl ⟨by kernel_rfl, ?_⟩) hH4 ?_
          rotate_left
          · (intro w' hw'; go_simp; first | done | with_reducible rfl)
          refine wpAnyH_take (i := 14) (v := ?_) rfl (by kernel_rfl) (by kernel_rfl) (by kernel_rfl) (fun _ _ _ h => h) (Or.inl ⟨by kernel_rfl, ?_⟩) hH4 ?_
          rotate_left
          · (intro w' hw'; go_simp; first | done | with_reducible rfl)
          refine wpAnyH_take (i := 15) (v := ?_) rfl (by kernel_rfl) (by kernel_rfl) (by kernel_rfl) (fun _ _ _ h => h) (Or.inl ⟨by kernel_rfl, ?_⟩) hH4 ?_
          rotate_left
          · (intro w' hw'; have h6 := HB6.out.trans (hw'.mono HB6.out.size); have bh := HP1.out _ h6; have b0 := cell_at bh 0 _ rfl; have b1 := cell_at bh 1 _ rfl; have b2 := cell_at bh 2 _ rfl; have b3 := cell_at bh 3 _ rfl; go_simp; first | done | with_reducible rfl)
          refine wpAnyH_take (i := 16) (v := ?_) rfl (by kernel_rfl) (by kernel_rfl) (by kernel_rfl) (fun _ _ _ h => h) (Or.inl ⟨by kernel_rfl, ?_⟩) hH4 ?_
          rotate_left
          · (intro w' hw'; go_simp; first | done | with_reducible rfl)
          refine wpAnyH_take (i := 18) (v := ?_) rfl (by kernel_rfl) (by kernel_rfl) (by kernel_rfl) (fun _ _ _ h => h) (Or.inl ⟨by kernel_rfl, ?_⟩) hH4 ?_
          rotate_left
          · (intro w' hw'; go_simp; first | done | with_reducible rfl)
          refine wpAnyH_ready (rs := [17]) (by kernel_rfl) (by simp) ?_
          refine AllReadyH.cons rfl (fun K hK => ?_) AllReadyH.nil
          go_simp
          refine (HAt.out _ (HB6.out.trans (hS14.mono HB6.out.size))).mono ?_
          rintro x r15 ⟨rfl, hb15⟩
          have hS15 := hS14.trans (hb15.mono hS14.size)
          clear hb15
          go_wp2_with fail
          refine hK.out _ _ hS15 (fun hH5 => ?_)
          clear hK K hH4
          refine wpAnyH_take (i := 19) (v := ?_) rfl (by kernel_rfl) (by kernel_rfl) (by kernel_rfl) (fun _ _ _ h => h) (Or.inl ⟨by kernel_rfl, ?_⟩) hH5 ?_
          rotate_left
          · (intro w' hw'; go_simp; first | done | with_reducible rfl)
          refine wpAnyH_take (i := 20) (v := ?_) rfl (by kernel_rfl) (by kernel_rfl) (by kernel_rfl) (fun _ _ _ h => h) (Or.inl ⟨by kernel_rfl, ?_⟩) hH5 ?_
          rotate_left
          · (intro w' hw'; go_simp; first | done | with_reducible rfl)
          refine wpAnyH_take (i := 21) (v := ?_) rfl (by kernel_rfl) (by kernel_rfl) (by kernel_rfl) (fun _ _ _ h => h) (Or.inl ⟨by kernel_rfl, ?_⟩) hH5 ?_
          rotate_left
          · (intro w' hw'; go_simp; first | done | with_reducible rfl)
          refine wpAnyH_done (by kernel_rfl) ?_ _
          refine NoPanic.normal ?_
          go_simp
          go_wp2_with fail
          go_ret
          exact ⟨rfl, HBW.out.trans ((HB6.out.trans (hS15.mono HB6.out.size)).mono HBW.out.size)⟩
      | false =>
          have HNew := Lib.hid (new_no w3 S E (by have := HSZ.out; omega) (HFit.out _ HB3.out) hq)
          cases hN : named S with
          | true =>
          have HNm := Lib.hid hN
          have hE : E = 0 := by
            rw [hN, Bool.true_and] at hq
            have := of_decide_eq_false hq
            omega
          have qE : decide (0 < E) = false := decide_eq_false (by omega)
          clear hq hE hN
          go_wp2_with fail
          refine HNew.out.mono ?_
          rintro x w4 ⟨rfl, hb4⟩
          have HB4 := Lib.hid (HB3.out.trans (hb4.mono HB3.out.size))
          clear hb4 c0 c1 c3
          have hbA : Below W1.heap.size W1 (w4.alloc (.cells #[.string ⟨#[]⟩, .int .u32 0, .int .u32 0, .slice none 0 0] 25)) := HB4.out.alloc HB4.out.size _
          have HBA := Lib.hid hbA
          have c0 := cell_at (HP1.out _ hbA) 0 _ rfl
          have c1 := cell_at (HP1.out _ hbA) 1 _ rfl
          clear hbA
          go_wp2_with fail
          refine (bod.rNamed_any _ S (by have := HSZ.out; omega)).mono ?_
          rw [HNm.out]
          rintro x w6 ⟨rfl, hb6⟩
          have HB6 := Lib.hid (HBA.out.trans (hb6.mono HBA.out.size))
          have hx6 := (boxed hb6).1
          clear hb6 c0 c1
          have c0 := cell_at (HP1.out _ HB6.out) 0 _ rfl
          have c1 := cell_at (HP1.out _ HB6.out) 1 _ rfl
          have x0 := cell_at hx6 0 _ rfl
          have x1 := cell_at hx6 1 _ rfl
          have x2 := cell_at hx6 2 _ rfl
          have x3 := cell_at hx6 3 _ rfl
          clear hx6
          go_wp2_with fail
          clear c0 c1 x0 x1 x2 x3
          have HST := Lib.hid (show Below w6.heap.size w6 w6.drew from codec.below_draws (Below.refl _ _) 1)
          refine wp_region_noPanic ?_
          refine wp_region_held_drew (S := fun w' => Below w6.heap.size w6 w') (by kernel_rfl) HST.out (fun hHeld => ?_)
          refine wpAnyH_take (i := 0) (v := ?_) rfl (by kernel_rfl) (by kernel_rfl) (by kernel_rfl) (fun _ _ _ h => h) (Or.inl ⟨by kernel_rfl, ?_⟩) hHeld ?_
          rotate_left
          · (intro w' hw'; have h6 := HB6.out.trans (hw'.mono HB6.out.size); have bh := HP1.out _ h6; have b0 := cell_at bh 0 _ rfl; have b1 := cell_at bh 1 _ rfl; have b2 := cell_at bh 2 _ rfl; have b3 := cell_at bh 3 _ rfl; go_simp; first | done | with_reducible rfl)
          refine wpAnyH_take (i := 2) (v := ?_) rfl (by kernel_rfl) (by kernel_rfl) (by kernel_rfl) (fun _ _ _ h => h) (Or.inl ⟨by kernel_rfl, ?_⟩) hHeld ?_
          rotate_left
          · (intro w' hw'; have h6 := HB6.out.trans (hw'.mono HB6.out.size); have bh := HP1.out _ h6; have b0 := cell_at bh 0 _ rfl; have b1 := cell_at bh 1 _ rfl; have b2 := cell_at bh 2 _ rfl; have b3 := cell_at bh 3 _ rfl; go_simp; first | done | with_reducible rfl)
          refine wpAnyH_ready (rs := [1]) (by kernel_rfl) (by simp) ?_
          refine AllReadyH.cons rfl (fun K hK => ?_) AllReadyH.nil
          go_simp
          refine (HRi.out _ (HB6.out.trans (hHeld.mono HB6.out.size))).mono ?_
          rintro x r11 ⟨rfl, hb11⟩
          have hS11 := hHeld.trans (hb11.mono hHeld.size)
          clear hb11
          go_wp2_with fail
          refine hK.out _ _ hS11 (fun hH1 => ?_)
          clear hK K hHeld
          refine wpAnyH_ready (rs := [3]) (by kernel_rfl) (by simp) ?_
          refine AllReadyH.cons rfl (fun K hK => ?_) AllReadyH.nil
          go_simp
          refine (HRr.out _ (HB6.out.trans (hS11.mono HB6.out.size))).mono ?_
          rintro x r12 ⟨rfl, hb12⟩
          have hS12 := hS11.trans (hb12.mono hS11.size)
          clear hb12
          go_wp2_with fail
          refine hK.out _ _ hS12 (fun hH2 => ?_)
          clear hK K hH1
          refine wpAnyH_take (i := 4) (v := ?_) rfl (by kernel_rfl) (by kernel_rfl) (by kernel_rfl) (fun _ _ _ h => h) (Or.inl ⟨by kernel_rfl, ?_⟩) hH2 ?_
          rotate_left
          · (intro w' hw'; go_simp; first | done | with_reducible rfl)
          refine wpAnyH_take (i := 5) (v := ?_) rfl (by kernel_rfl) (by kernel_rfl) (by kernel_rfl) (fun _ _ _ h => h) (Or.inl ⟨by kernel_rfl, ?_⟩) hH2 ?_
          rotate_left
          · (intro w' hw'; go_simp; first | done | with_reducible rfl)
          refine wpAnyH_take (i := 6) (v := ?_) rfl (by kernel_rfl) (by kernel_rfl) (by kernel_rfl) (fun _ _ _ h => h) (Or.inl ⟨by kernel_rfl, ?_⟩) hH2 ?_
          rotate_left
          · (intro w' hw'; have h6 := HB6.out.trans (hw'.mono HB6.out.size); have bh := HP1.out _ h6; have b0 := cell_at bh 0 _ rfl; have b1 := cell_at bh 1 _ rfl; have b2 := cell_at bh 2 _ rfl; have b3 := cell_at bh 3 _ rfl; go_simp; first | done | with_reducible rfl)
          refine wpAnyH_take (i := 7) (v := ?_) rfl (by kernel_rfl) (by kernel_rfl) (by kernel_rfl) (fun _ _ _ h => h) (Or.inl ⟨by kernel_rfl, ?_⟩) hH2 ?_
          rotate_left
          · (intro w' hw'; have h6 := HB6.out.trans (hw'.mono HB6.out.size); have bh := HP2.out _ h6; have b0 := cell_at bh 0 _ rfl; have b1 := cell_at bh 1 _ rfl; have b2 := cell_at bh 2 _ rfl; have b3 := cell_at bh 3 _ rfl; go_simp; first | done | with_reducible rfl)
          refine wpAnyH_take (i := 9) (v := ?_) rfl (by kernel_rfl) (by kernel_rfl) (by kernel_rfl) (fun _ _ _ h => h) (Or.inl ⟨by kernel_rfl, ?_⟩) hH2 ?_
          rotate_left
          · (intro w' hw'; have h6 := HB6.out.trans (hw'.mono HB6.out.size); have bh := HP1.out _ h6; have b0 := cell_at bh 0 _ rfl; have b1 := cell_at bh 1 _ rfl; have b2 := cell_at bh 2 _ rfl; have b3 := cell_at bh 3 _ rfl; go_simp; first | done | with_reducible rfl)
          refine wpAnyH_take (i := 10) (v := ?_) rfl (by kernel_rfl) (by kernel_rfl) (by kernel_rfl) (fun _ _ _ h => h) (Or.inl ⟨by kernel_rfl, ?_⟩) hH2 ?_
          rotate_left
          · (intro w' hw'; have h6 := HB6.out.trans (hw'.mono HB6.out.size); have bh := HP2.out _ h6; have b0 := cell_at bh 0 _ rfl; have b1 := cell_at bh 1 _ rfl; have b2 := cell_at bh 2 _ rfl; have b3 := cell_at bh 3 _ rfl; go_simp; first | done | with_reducible rfl)
          refine wpAnyH_ready (rs := [8]) (by kernel_rfl) (by simp) ?_
          refine AllReadyH.cons rfl (fun K hK => ?_) AllReadyH.nil
          go_simp
          refine (HSa.out _ (HB6.out.trans (hS12.mono HB6.out.size))).mono ?_
          rintro x r13 ⟨rfl, hb13⟩
          have hS13 := hS12.trans (hb13.mono hS12.size)
          clear hb13
          go_wp2_with fail
          refine hK.out _ _ hS13 (fun hH3 => ?_)
          clear hK K hH2
          refine wpAnyH_ready (rs := [11]) (by kernel_rfl) (by simp) ?_
          refine AllReadyH.cons rfl (fun K hK => ?_) AllReadyH.nil
          go_simp
          refine (HSb.out _ (HB6.out.trans (hS13.mono HB6.out.size))).mono ?_
          rintro x r14 ⟨rfl, hb14⟩
          have hS14 := hS13.trans (hb14.mono hS13.size)
          clear hb14
          go_wp2_with fail
          refine hK.out _ _ hS14 (fun hH4 => ?_)
          clear hK K hH3
          refine wpAnyH_take (i := 12) (v := ?_) rfl (by kernel_rfl) (by kernel_rfl) (by kernel_rfl) (fun _ _ _ h => h) (Or.inl ⟨by kernel_rfl, ?_⟩) hH4 ?_
          rotate_left
          · (intro w' hw'; go_simp; first | done | with_reducible rfl)
          refine wpAnyH_take (i := 13) (v := ?_) rfl (by kernel_rfl) (by kernel_rfl) (by kernel_rfl) (fun _ _ _ h => h) (Or.inl ⟨by kernel_rfl, ?_⟩) hH4 ?_
          rotate_left
          · (intro w' hw'; go_simp; first | done | with_reducible rfl)
          refine wpAnyH_take (i := 14) (v := ?_) rfl (by kernel_rfl) (by kernel_rfl) (by kernel_rfl) (fun _ _ _ h => h) (Or.inl ⟨by kernel_rfl, ?_⟩) hH4 ?_
          rotate_left
          · (intro w' hw'; go_simp; first | done | with_reducible rfl)
          refine wpAnyH_take (i := 15) (v := ?_) rfl (by kernel_rfl) (by kernel_rfl) (by kernel_rfl) (fun _ _ _ h => h) (Or.inl ⟨by kernel_rfl, ?_⟩) hH4 ?_
          rotate_left
          · (intro w' hw'; have h6 := HB6.out.trans (hw'.mono HB6.out.size); have bh := HP1.out _ h6; have b0 := cell_at bh 0 _ rfl; have b1 := cell_at bh 1 _ rfl; have b2 := cell_at bh 2 _ rfl; have b3 := cell_at bh 3 _ rfl; go_simp; first | done | with_reducible rfl)
          refine wpAnyH_take (i := 16) (v := ?_) rfl (by kernel_rfl) (by kernel_rfl) (by kernel_rfl) (fun _ _ _ h => h) (Or.inl ⟨by kernel_rfl, ?_⟩) hH4 ?_
          rotate_left
          · (intro w' hw'; go_simp; first | done | with_reducible rfl)
          refine wpAnyH_take (i := 18) (v := ?_) rfl (by kernel_rfl) (by kernel_rfl) (by kernel_rfl) (fun _ _ _ h => h) (Or.inl ⟨by kernel_rfl, ?_⟩) hH4 ?_
          rotate_left
          · (intro w' hw'; go_simp; first | done | with_reducible rfl)
          refine wpAnyH_ready (rs := [17]) (by kernel_rfl) (by simp) ?_
          refine AllReadyH.cons rfl (fun K hK => ?_) AllReadyH.nil
          go_simp
          refine (HAt.out _ (HB6.out.trans (hS14.mono HB6.out.size))).mono ?_
          rintro x r15 ⟨rfl, hb15⟩
          have hS15 := hS14.trans (hb15.mono hS14.size)
          clear hb15
          go_wp2_with fail
          refine hK.out _ _ hS15 (fun hH5 => ?_)
          clear hK K hH4
          refine wpAnyH_take (i := 19) (v := ?_) rfl (by kernel_rfl) (by kernel_rfl) (by kernel_rfl) (fun _ _ _ h => h) (Or.inl ⟨by kernel_rfl, ?_⟩) hH5 ?_
          rotate_left
          · (intro w' hw'; go_simp; first | done | with_reducible rfl)
          refine wpAnyH_take (i := 20) (v := ?_) rfl (by kernel_rfl) (by kernel_rfl) (by kernel_rfl) (fun _ _ _ h => h) (Or.inl ⟨by kernel_rfl, ?_⟩) hH5 ?_
          rotate_left
          · (intro w' hw'; go_simp; first | done | with_reducible rfl)
          refine wpAnyH_take (i := 21) (v := ?_) rfl (by kernel_rfl) (by kernel_rfl) (by kernel_rfl) (fun _ _ _ h => h) (Or.inl ⟨by kernel_rfl, ?_⟩) hH5 ?_
          rotate_left
          · (intro w' hw'; go_simp; first | done | with_reducible rfl)
          refine wpAnyH_done (by kernel_rfl) ?_ _
          refine NoPanic.normal ?_
          go_simp
          go_wp2_with fail
          go_ret
          exact ⟨rfl, HBW.out.trans ((HB6.out.trans (hS15.mono HB6.out.size)).mono HBW.out.size)⟩
          | false =>
          have HNm := Lib.hid hN
          clear hq hN
          go_wp2_with fail
          refine HNew.out.mono ?_
          rintro x w4 ⟨rfl, hb4⟩
          have HB4 := Lib.hid (HB3.out.trans (hb4.mono HB3.out.size))
          clear hb4 c0 c1 c3
          have hbA : Below W1.heap.size W1 (w4.alloc (.cells #[.string ⟨#[]⟩, .int .u32 0, .int .u32 0, .slice none 0 0] 25)) := HB4.out.alloc HB4.out.size _
          have HBA := Lib.hid hbA
          have c0 := cell_at (HP1.out _ hbA) 0 _ rfl
          have c1 := cell_at (HP1.out _ hbA) 1 _ rfl
          clear hbA
          go_wp2_with fail
          refine (bod.rNamed_any _ S (by have := HSZ.out; omega)).mono ?_
          rw [HNm.out]
          rintro x w6 ⟨rfl, hb6⟩
          have HB6 := Lib.hid (HBA.out.trans (hb6.mono HBA.out.size))
          have hx6 := (boxed hb6).1
          clear hb6 c0 c1
          have c0 := cell_at (HP1.out _ HB6.out) 0 _ rfl
          have c1 := cell_at (HP1.out _ HB6.out) 1 _ rfl
          have x0 := cell_at hx6 0 _ rfl
          have x1 := cell_at hx6 1 _ rfl
          have x2 := cell_at hx6 2 _ rfl
          have x3 := cell_at hx6 3 _ rfl
          clear hx6
          go_wp2_with fail
          clear c0 c1 x0 x1 x2 x3
          have HST := Lib.hid (show Below w6.heap.size w6 w6.drew from codec.below_draws (Below.refl _ _) 1)
          refine wp_region_noPanic ?_
          refine wp_region_held_drew (S := fun w' => Below w6.heap.size w6 w') (by kernel_rfl) HST.out (fun hHeld => ?_)
          refine wpAnyH_take (i := 0) (v := ?_) rfl (by kernel_rfl) (by kernel_rfl) (by kernel_rfl) (fun _ _ _ h => h) (Or.inl ⟨by kernel_rfl, ?_⟩) hHeld ?_
          rotate_left
          · (intro w' hw'; have h6 := HB6.out.trans (hw'.mono HB6.out.size); have bh := HP1.out _ h6; have b0 := cell_at bh 0 _ rfl; have b1 := cell_at bh 1 _ rfl; have b2 := cell_at bh 2 _ rfl; have b3 := cell_at bh 3 _ rfl; go_simp; first | done | with_reducible rfl)
          refine wpAnyH_take (i := 2) (v := ?_) rfl (by kernel_rfl) (by kernel_rfl) (by kernel_rfl) (fun _ _ _ h => h) (Or.inl ⟨by kernel_rfl, ?_⟩) hHeld ?_
          rotate_left
          · (intro w' hw'; have h6 := HB6.out.trans (hw'.mono HB6.out.size); have bh := HP1.out _ h6; have b0 := cell_at bh 0 _ rfl; have b1 := cell_at bh 1 _ rfl; have b2 := cell_at bh 2 _ rfl; have b3 := cell_at bh 3 _ rfl; go_simp; first | done | with_reducible rfl)
          refine wpAnyH_ready (rs := [1]) (by kernel_rfl) (by simp) ?_
          refine AllReadyH.cons rfl (fun K hK => ?_) AllReadyH.nil
          go_simp
          refine (HRi.out _ (HB6.out.trans (hHeld.mono HB6.out.size))).mono ?_
          rintro x r11 ⟨rfl, hb11⟩
          have hS11 := hHeld.trans (hb11.mono hHeld.size)
          clear hb11
          go_wp2_with fail
          refine hK.out _ _ hS11 (fun hH1 => ?_)
          clear hK K hHeld
          refine wpAnyH_ready (rs := [3]) (by kernel_rfl) (by simp) ?_
          refine AllReadyH.cons rfl (fun K hK => ?_) AllReadyH.nil
          go_simp
          refine (HRr.out _ (HB6.out.trans (hS11.mono HB6.out.size))).mono ?_
          rintro x r12 ⟨rfl, hb12⟩
          have hS12 := hS11.trans (hb12.mono hS11.size)
          clear hb12
          go_wp2_with fail
          refine hK.out _ _ hS12 (fun hH2 => ?_)
          clear hK K hH1
          refine wpAnyH_take (i := 4) (v := ?_) rfl (by kernel_rfl) (by kernel_rfl) (by kernel_rfl) (fun _ _ _ h => h) (Or.inl ⟨by kernel_rfl, ?_⟩) hH2 ?_
          rotate_left
          · (intro w' hw'; go_simp; first | done | with_reducible rfl)
          refine wpAnyH_take (i := 5) (v := ?_) rfl (by kernel_rfl) (by kernel_rfl) (by kernel_rfl) (fun _ _ _ h => h) (Or.inl ⟨by kernel_rfl, ?_⟩) hH2 ?_
          rotate_left
          · (intro w' hw'; go_simp; first | done | with_reducible rfl)
          refine wpAnyH_take (i := 6) (v := ?_) rfl (by kernel_rfl) (by kernel_rfl) (by kernel_rfl) (fun _ _ _ h => h) (Or.inl ⟨by kernel_rfl, ?_⟩) hH2 ?_
          rotate_left
          · (intro w' hw'; have h6 := HB6.out.trans (hw'.mono HB6.out.size); have bh := HP1.out _ h6; have b0 := cell_at bh 0 _ rfl; have b1 := cell_at bh 1 _ rfl; have b2 := cell_at bh 2 _ rfl; have b3 := cell_at bh 3 _ rfl; go_simp; first | done | with_reducible rfl)
          refine wpAnyH_take (i := 7) (v := ?_) rfl (by kernel_rfl) (by kernel_rfl) (by kernel_rfl) (fun _ _ _ h => h) (Or.inl ⟨by kernel_rfl, ?_⟩) hH2 ?_
          rotate_left
          · (intro w' hw'; have h6 := HB6.out.trans (hw'.mono HB6.out.size); have bh := HP2.out _ h6; have b0 := cell_at bh 0 _ rfl; have b1 := cell_at bh 1 _ rfl; have b2 := cell_at bh 2 _ rfl; have b3 := cell_at bh 3 _ rfl; go_simp; first | done | with_reducible rfl)
          refine wpAnyH_take (i := 9) (v := ?_) rfl (by kernel_rfl) (by kernel_rfl) (by kernel_rfl) (fun _ _ _ h => h) (Or.inl ⟨by kernel_rfl, ?_⟩) hH2 ?_
          rotate_left
          · (intro w' hw'; have h6 := HB6.out.trans (hw'.mono HB6.out.size); have bh := HP1.out _ h6; have b0 := cell_at bh 0 _ rfl; have b1 := cell_at bh 1 _ rfl; have b2 := cell_at bh 2 _ rfl; have b3 := cell_at bh 3 _ rfl; go_simp; first | done | with_reducible rfl)
          refine wpAnyH_take (i := 10) (v := ?_) rfl (by kernel_rfl) (by kernel_rfl) (by kernel_rfl) (fun _ _ _ h => h) (Or.inl ⟨by kernel_rfl, ?_⟩) hH2 ?_
          rotate_left
          · (intro w' hw'; have h6 := HB6.out.trans (hw'.mono HB6.out.size); have bh := HP2.out _ h6; have b0 := cell_at bh 0 _ rfl; have b1 := cell_at bh 1 _ rfl; have b2 := cell_at bh 2 _ rfl; have b3 := cell_at bh 3 _ rfl; go_simp; first | done | with_reducible rfl)
          refine wpAnyH_ready (rs := [8]) (by kernel_rfl) (by simp) ?_
          refine AllReadyH.cons rfl (fun K hK => ?_) AllReadyH.nil
          go_simp
          refine (HSa.out _ (HB6.out.trans (hS12.mono HB6.out.size))).mono ?_
          rintro x r13 ⟨rfl, hb13⟩
          have hS13 := hS12.trans (hb13.mono hS12.size)
          clear hb13
          go_wp2_with fail
          refine hK.out _ _ hS13 (fun hH3 => ?_)
          clear hK K hH2
          refine wpAnyH_ready (rs := [11]) (by kernel_rfl) (by simp) ?_
          refine AllReadyH.cons rfl (fun K hK => ?_) AllReadyH.nil
          go_simp
          refine (HSb.out _ (HB6.out.trans (hS13.mono HB6.out.size))).mono ?_
          rintro x r14 ⟨rfl, hb14⟩
          have hS14 := hS13.trans (hb14.mono hS13.size)
          clear hb14
          go_wp2_with fail
          refine hK.out _ _ hS14 (fun hH4 => ?_)
          clear hK K hH3
          refine wpAnyH_take (i := 12) (v := ?_) rfl (by kernel_rfl) (by kernel_rfl) (by kernel_rfl) (fun _ _ _ h => h) (Or.inl ⟨by kernel_rfl, ?_⟩) hH4 ?_
          rotate_left
          · (intro w' hw'; go_simp; first | done | with_reducible rfl)
          refine wpAnyH_take (i := 13) (v := ?_) rfl (by kernel_rfl) (by kernel_rfl) (by kernel_rfl) (fun _ _ _ h => h) (Or.inl ⟨by kernel_rfl, ?_⟩) hH4 ?_
          rotate_left
          · (intro w' hw'; go_simp; first | done | with_reducible rfl)
          refine wpAnyH_take (i := 14) (v := ?_) rfl (by kernel_rfl) (by kernel_rfl) (by kernel_rfl) (fun _ _ _ h => h) (Or.inl ⟨by kernel_rfl, ?_⟩) hH4 ?_
          rotate_left
          · (intro w' hw'; go_simp; first | done | with_reducible rfl)
          refine wpAnyH_take (i := 15) (v := ?_) rfl (by kernel_rfl) (by kernel_rfl) (by kernel_rfl) (fun _ _ _ h => h) (Or.inl ⟨by kernel_rfl, ?_⟩) hH4 ?_
          rotate_left
          · (intro w' hw'; have h6 := HB6.out.trans (hw'.mono HB6.out.size); have bh := HP1.out _ h6; have b0 := cell_at bh 0 _ rfl; have b1 := cell_at bh 1 _ rfl; have b2 := cell_at bh 2 _ rfl; have b3 := cell_at bh 3 _ rfl; go_simp; first | done | with_reducible rfl)
          refine wpAnyH_take (i := 16) (v := ?_) rfl (by kernel_rfl) (by kernel_rfl) (by kernel_rfl) (fun _ _ _ h => h) (Or.inl ⟨by kernel_rfl, ?_⟩) hH4 ?_
          rotate_left
          · (intro w' hw'; go_simp; first | done | with_reducible rfl)
          refine wpAnyH_take (i := 18) (v := ?_) rfl (by kernel_rfl) (by kernel_rfl) (by kernel_rfl) (fun _ _ _ h => h) (Or.inl ⟨by kernel_rfl, ?_⟩) hH4 ?_
          rotate_left
          · (intro w' hw'; go_simp; first | done | with_reducible rfl)
          refine wpAnyH_ready (rs := [17]) (by kernel_rfl) (by simp) ?_
          refine AllReadyH.cons rfl (fun K hK => ?_) AllReadyH.nil
          go_simp
          refine (HAt.out _ (HB6.out.trans (hS14.mono HB6.out.size))).mono ?_
          rintro x r15 ⟨rfl, hb15⟩
          have hS15 := hS14.trans (hb15.mono hS14.size)
          clear hb15
          go_wp2_with fail
          refine hK.out _ _ hS15 (fun hH5 => ?_)
          clear hK K hH4
          refine wpAnyH_take (i := 19) (v := ?_) rfl (by kernel_rfl) (by kernel_rfl) (by kernel_rfl) (fun _ _ _ h => h) (Or.inl ⟨by kernel_rfl, ?_⟩) hH5 ?_
          rotate_left
          · (intro w' hw'; go_simp; first | done | with_reducible rfl)
          refine wpAnyH_take (i := 20) (v := ?_) rfl (by kernel_rfl) (by kernel_rfl) (by kernel_rfl) (fun _ _ _ h => h) (Or.inl ⟨by kernel_rfl, ?_⟩) hH5 ?_
          rotate_left
          · (intro w' hw'; go_simp; first | done | with_reducible rfl)
          refine wpAnyH_take (i := 21) (v := ?_) rfl (by kernel_rfl) (by kernel_rfl) (by kernel_rfl) (fun _ _ _ h => h) (Or.inl ⟨by kernel_rfl, ?_⟩) hH5 ?_
          rotate_left
          · (intro w' hw'; go_simp; first | done | with_reducible rfl)
          refine wpAnyH_done (by kernel_rfl) ?_ _
          refine NoPanic.normal ?_
          go_simp
          go_wp2_with fail
          go_ret
          exact ⟨rfl, HBW.out.trans ((HB6.out.trans (hS15.mono HB6.out.size)).mono HBW.out.size)⟩
theorem right_walk (W : World) (S S' : ByteArray) (E X E' X' v : Nat) (A B : Option Addr) (n c m d : Nat) (qs zs : List Y) (hR : Rd cM 4 W A n qs) (hR' : Rd cM 4 W B m zs) (hn : n ≤ 140737488355328) (hS : S.size ≤ 140737488355328) (hm : ∀ y ∈ qs, y.m ≤ 140737488355328) (hn' : m ≤ 140737488355328) (hS' : S'.size ≤ 140737488355328) (hm' : ∀ y ∈ zs, y.m ≤ 140737488355328) (hr : Fit W) :
    Calls Tryd.prog 3 #[.agg #[.string S, .int .u32 E, .int .u32 X, .slice A n c], .agg #[.string S', .int .u32 E', .int .u32 X', .slice B m d], .int .u32 (v : Nat)] W fun x w' => x = .returned (.bool true) ∧ Below W.heap.size W w' := by
  cases hf : fewB S (nts qs) with
  | false => exact right_many1 W S S' E X E' X' v A B n c m d qs zs hR hR' hn hS hm hn' hS' hm' hr hf
  | true =>
    cases hf' : fewB S' (nts zs) with
    | false => exact right_many2 W S S' E X E' X' v A B n c m d qs zs hR hR' hn hS hm hn' hS' hm' hr hf hf'
    | true => exact right_few W S S' E X E' X' v A B n c m d qs zs hR hR' hn hS hm hn' hS' hm' hr hf hf'
end Go.Proofs.YtepngemlaiffgaaDoor.mal
