/- MailCopies. -/
import Derived.Test.YtepngemlaiffgaaDoorMx2
namespace Go.Proofs.YtepngemlaiffgaaDoor.mal
open Go.ChangeShapes Go.WideShapes Go.ChangeAt Go.RowKit
open Go.Proofs.YtepngemlaiffgaaDoor.codec (Bytes vals)
open Go.Proofs.YtepngemlaiffgaaDoor.bod (cell_at Fit boxed named formedB fitsB)
open Go.Proofs.YtepngemlaiffgaaDoor.lg (Nt Y Rd Own Oct cM fM fl fl_at nts nts_at nts_len take_next)
set_option linter.unusedVariables false
set_option maxRecDepth 100000
set_option linter.unusedSimpArgs false

theorem cp_good {S : ByteArray} {E X0 : Nat} {U : List Nat} : ∀ (fl : List Nt) (c : CS), Good S E X0 c → (∀ t ∈ fl, fitsB t.d t.f t.o.length = true) → (fl.foldl (cp1 S E U) c).e = 0 → Good S E X0 (fl.foldl (cp1 S E U) c)
  | [], c, h, _, _ => h
  | t :: r, c, h, hf, he => by
    rw [List.foldl_cons] at he ⊢
    have hft := hf t (by simp)
    have hfr : ∀ t ∈ r, fitsB t.d t.f t.o.length = true := fun t ht => hf t (by simp [ht])
    cases hi : inB U t.u with
    | false =>
      rw [cp1_no h.e hi] at he ⊢
      exact cp_good r c h hfr he
    | true =>
      by_cases h1 : 500 ≤ c.l.length
      · rw [cp1_many h.e hi h1, cp_stays r _ (show (5 : Nat) ≠ 0 by decide)] at he
        exact absurd he (show (5 : Nat) ≠ 0 by decide)
      · by_cases h2 : c.X = 4294967295
        · rw [cp1_full h.e hi (by omega) h2, cp_stays r _ (show (4 : Nat) ≠ 0 by decide)] at he
          exact absurd he (show (4 : Nat) ≠ 0 by decide)
        · exact cp_good r _ (h.yes hi (by omega) h2 hft) hfr he
theorem copies_many1 (W : World) (S S' : ByteArray) (E X E' X' : Nat) (A A' : Option Addr) (n c n' c' : Nat) (qs zs : List Y) (B : Option Addr) (q dd : Nat) (U : List Nat) (hR : Rd cM 4 W A n qs) (hR' : Rd cM 4 W A' n' zs) (hA' : A' = none → c' = 0) (hX' : X' < 4294967296) (hn : n ≤ 140737488355328) (hS : S.size ≤ 140737488355328) (hm : ∀ y ∈ qs, y.m ≤ 140737488355328) (hn' : n' ≤ 140737488355328) (hS' : S'.size ≤ 140737488355328) (hm' : ∀ y ∈ zs, y.m ≤ 140737488355328) (hU : Nums W B q U) (hr : Fit W) (hf : (fewB S (nts qs) && decide (q ≤ 600)) = false) :
    Calls Tryd.prog 7 #[.agg #[.string S, .int .u32 (E : Nat), .int .u32 (X : Nat), .slice A n c], .agg #[.string S', .int .u32 (E' : Nat), .int .u32 (X' : Nat), .slice A' n' c'], .slice B q dd] W fun x w' => x = .returned (.bool true) ∧ Below W.heap.size W w' := by
  obtain ⟨W1, hW1⟩ : ∃ W1, W1 = (W.alloc (.cells #[.string S, .int .u32 (E : Nat), .int .u32 (X : Nat), .slice A n c] 25)).alloc (.cells #[.string S', .int .u32 (E' : Nat), .int .u32 (X' : Nat), .slice A' n' c'] 25) := ⟨_, rfl⟩
  have HBW := Lib.hid (show Below W.heap.size W W1 by rw [hW1]; exact ((Below.refl _ _).alloc (Nat.le_refl _) _).alloc (by simp) _)
  have HP1 := Lib.hid (fun (w' : World) (h : Below W1.heap.size W1 w') => show w'.heap[W.heap.size]? = some (.cells #[.string S, .int .u32 (E : Nat), .int .u32 (X : Nat), .slice A n c] 25 (0, 0)) from (h.block _ (by rw [hW1]; simp; omega)).trans (by rw [hW1, heap_alloc_old _ _ (by simp)]; exact heap_alloc_new _ _))
  have HP2 := Lib.hid (fun (w' : World) (h : Below W1.heap.size W1 w') => show w'.heap[W.heap.size + 1]? = some (.cells #[.string S', .int .u32 (E' : Nat), .int .u32 (X' : Nat), .slice A' n' c'] 25 (0, 0)) from (h.block _ (by rw [hW1]; simp)).trans (by rw [hW1]; have := heap_alloc_new (W.alloc (.cells #[.string S, .int .u32 (E : Nat), .int .u32 (X : Nat), .slice A n c] 25)) (.cells #[.string S', .int .u32 (E' : Nat), .int .u32 (X' : Nat), .slice A' n' c'] 25); simpa using this))
  have HFit := Lib.hid (fun (w1 : World) (h : Below W1.heap.size W1 w1) => hr.below (HBW.out.trans (h.mono HBW.out.size)))
  have HRA := Lib.hid (fun (w1 : World) (h : Below W1.heap.size W1 w1) => hR.below (HBW.out.trans (h.mono HBW.out.size)))
  have HRB := Lib.hid (fun (w1 : World) (h : Below W1.heap.size W1 w1) => hR'.below (HBW.out.trans (h.mono HBW.out.size)))
  have HNu := Lib.hid (fun (w1 : World) (h : Below W1.heap.size W1 w1) => hU.below (HBW.out.trans (h.mono HBW.out.size)))
  have HF1 := Lib.hid (fun (w1 : World) (h : Below W1.heap.size W1 w1) => few2_any w1 S E X A n c qs B q dd (HRA.out w1 h) hn hS hm)
  have HF2 := Lib.hid (fun (w1 : World) (h : Below W1.heap.size W1 w1) => few2_any w1 S' E' X' A' n' c' zs none 0 0 (HRB.out w1 h) hn' hS' hm')
  have HW1 := Lib.hid hW1
  rw [hf] at HF1
  clear hf
  clear hW1 hR hR' hA' hX' hn hS hm hn' hS' hm' hU hr
  go_enter Tryd.func7, Tryd.ntmps7
  go_wp2_with fail
  rw [← HW1.out]
  refine (awake_any W1 (HFit.out _ (Below.refl _ _))).mono ?_
  rintro x w1 ⟨rfl, hb1⟩
  have HB1 := Lib.hid hb1
  have c0 := cell_at (HP1.out _ hb1) 0 _ rfl
  have c1 := cell_at (HP1.out _ hb1) 1 _ rfl
  have c2 := cell_at (HP1.out _ hb1) 2 _ rfl
  have c3 := cell_at (HP1.out _ hb1) 3 _ rfl
  clear hb1
  go_wp2_with fail
  clear c0 c1 c2 c3
  refine (HF1.out w1 HB1.out).mono ?_
  rintro x w2 ⟨rfl, hb2⟩
  have HB2 := Lib.hid (HB1.out.trans (hb2.mono HB1.out.size))
  clear hb2
  go_wp2_with fail
  refine (awake_any w2 (HFit.out _ HB2.out)).mono ?_
  rintro x w3 ⟨rfl, hb3⟩
  have HB3 := Lib.hid (HB2.out.trans (hb3.mono HB2.out.size))
  clear hb3
  go_wp2_with fail
  go_ret
  exact ⟨rfl, HBW.out.trans (HB3.out.mono HBW.out.size)⟩
theorem copies_many2 (W : World) (S S' : ByteArray) (E X E' X' : Nat) (A A' : Option Addr) (n c n' c' : Nat) (qs zs : List Y) (B : Option Addr) (q dd : Nat) (U : List Nat) (hR : Rd cM 4 W A n qs) (hR' : Rd cM 4 W A' n' zs) (hA' : A' = none → c' = 0) (hX' : X' < 4294967296) (hn : n ≤ 140737488355328) (hS : S.size ≤ 140737488355328) (hm : ∀ y ∈ qs, y.m ≤ 140737488355328) (hn' : n' ≤ 140737488355328) (hS' : S'.size ≤ 140737488355328) (hm' : ∀ y ∈ zs, y.m ≤ 140737488355328) (hU : Nums W B q U) (hr : Fit W) (hf : (fewB S (nts qs) && decide (q ≤ 600)) = true) (hf' : (fewB S' (nts zs) && decide (0 ≤ 600)) = false) :
    Calls Tryd.prog 7 #[.agg #[.string S, .int .u32 (E : Nat), .int .u32 (X : Nat), .slice A n c], .agg #[.string S', .int .u32 (E' : Nat), .int .u32 (X' : Nat), .slice A' n' c'], .slice B q dd] W fun x w' => x = .returned (.bool true) ∧ Below W.heap.size W w' := by
  obtain ⟨W1, hW1⟩ : ∃ W1, W1 = (W.alloc (.cells #[.string S, .int .u32 (E : Nat), .int .u32 (X : Nat), .slice A n c] 25)).alloc (.cells #[.string S', .int .u32 (E' : Nat), .int .u32 (X' : Nat), .slice A' n' c'] 25) := ⟨_, rfl⟩
  have HBW := Lib.hid (show Below W.heap.size W W1 by rw [hW1]; exact ((Below.refl _ _).alloc (Nat.le_refl _) _).alloc (by simp) _)
  have HP1 := Lib.hid (fun (w' : World) (h : Below W1.heap.size W1 w') => show w'.heap[W.heap.size]? = some (.cells #[.string S, .int .u32 (E : Nat), .int .u32 (X : Nat), .slice A n c] 25 (0, 0)) from (h.block _ (by rw [hW1]; simp; omega)).trans (by rw [hW1, heap_alloc_old _ _ (by simp)]; exact heap_alloc_new _ _))
  have HP2 := Lib.hid (fun (w' : World) (h : Below W1.heap.size W1 w') => show w'.heap[W.heap.size + 1]? = some (.cells #[.string S', .int .u32 (E' : Nat), .int .u32 (X' : Nat), .slice A' n' c'] 25 (0, 0)) from (h.block _ (by rw [hW1]; simp)).trans (by rw [hW1]; have := heap_alloc_new (W.alloc (.cells #[.string S, .int .u32 (E : Nat), .int .u32 (X : Nat), .slice A n c] 25)) (.cells #[.string S', .int .u32 (E' : Nat), .int .u32 (X' : Nat), .slice A' n' c'] 25); simpa using this))
  have HFit := Lib.hid (fun (w1 : World) (h : Below W1.heap.size W1 w1) => hr.below (HBW.out.trans (h.mono HBW.out.size)))
  have HRA := Lib.hid (fun (w1 : World) (h : Below W1.heap.size W1 w1) => hR.below (HBW.out.trans (h.mono HBW.out.size)))
  have HRB := Lib.hid (fun (w1 : World) (h : Below W1.heap.size W1 w1) => hR'.below (HBW.out.trans (h.mono HBW.out.size)))
  have HNu := Lib.hid (fun (w1 : World) (h : Below W1.heap.size W1 w1) => hU.below (HBW.out.trans (h.mono HBW.out.size)))
  have HF1 := Lib.hid (fun (w1 : World) (h : Below W1.heap.size W1 w1) => few2_any w1 S E X A n c qs B q dd (HRA.out w1 h) hn hS hm)
  have HF2 := Lib.hid (fun (w1 : World) (h : Below W1.heap.size W1 w1) => few2_any w1 S' E' X' A' n' c' zs none 0 0 (HRB.out w1 h) hn' hS' hm')
  have HW1 := Lib.hid hW1
  rw [hf] at HF1
  rw [hf'] at HF2
  clear hf hf'
  clear hW1 hR hR' hA' hX' hn hS hm hn' hS' hm' hU hr
  go_enter Tryd.func7, Tryd.ntmps7
  go_wp2_with fail
  rw [← HW1.out]
  refine (awake_any W1 (HFit.out _ (Below.refl _ _))).mono ?_
  rintro x w1 ⟨rfl, hb1⟩
  have HB1 := Lib.hid hb1
  have c0 := cell_at (HP1.out _ hb1) 0 _ rfl
  have c1 := cell_at (HP1.out _ hb1) 1 _ rfl
  have c2 := cell_at (HP1.out _ hb1) 2 _ rfl
  have c3 := cell_at (HP1.out _ hb1) 3 _ rfl
  clear hb1
  go_wp2_with fail
  clear c0 c1 c2 c3
  refine (HF1.out w1 HB1.out).mono ?_
  rintro x w2 ⟨rfl, hb2⟩
  have HB2 := Lib.hid (HB1.out.trans (hb2.mono HB1.out.size))
  clear hb2
  have d0 := cell_at (HP2.out _ HB2.out) 0 _ rfl
  have d1 := cell_at (HP2.out _ HB2.out) 1 _ rfl
  have d2 := cell_at (HP2.out _ HB2.out) 2 _ rfl
  have d3 := cell_at (HP2.out _ HB2.out) 3 _ rfl
  go_wp2_with fail
  clear d0 d1 d2 d3
  refine (HF2.out w2 HB2.out).mono ?_
  rintro x w3 ⟨rfl, hb3⟩
  have HB3 := Lib.hid (HB2.out.trans (hb3.mono HB2.out.size))
  clear hb3
  go_wp2_with fail
  refine (awake_any w3 (HFit.out _ HB3.out)).mono ?_
  rintro x w4 ⟨rfl, hb4⟩
  have HB4 := Lib.hid (HB3.out.trans (hb4.mono HB3.out.size))
  clear hb4
  go_wp2_with fail
  go_ret
  exact ⟨rfl, HBW.out.trans (HB4.out.mono HBW.out.size)⟩
set_option maxHeartbeats 1000000 in
theorem copies_wrong1 (W : World) (S S' : ByteArray) (E X E' X' : Nat) (A A' : Option Addr) (n c n' c' : Nat) (qs zs : List Y) (B : Option Addr) (q dd : Nat) (U : List Nat) (hR : Rd cM 4 W A n qs) (hR' : Rd cM 4 W A' n' zs) (hA' : A' = none → c' = 0) (hX' : X' < 4294967296) (hn : n ≤ 140737488355328) (hS : S.size ≤ 140737488355328) (hm : ∀ y ∈ qs, y.m ≤ 140737488355328) (hn' : n' ≤ 140737488355328) (hS' : S'.size ≤ 140737488355328) (hm' : ∀ y ∈ zs, y.m ≤ 140737488355328) (hU : Nums W B q U) (hr : Fit W) (hf : (fewB S (nts qs) && decide (q ≤ 600)) = true) (hf' : (fewB S' (nts zs) && decide (0 ≤ 600)) = true) (hw : right S E X (nts qs) = false) :
    Calls Tryd.prog 7 #[.agg #[.string S, .int .u32 (E : Nat), .int .u32 (X : Nat), .slice A n c], .agg #[.string S', .int .u32 (E' : Nat), .int .u32 (X' : Nat), .slice A' n' c'], .slice B q dd] W fun x w' => x = .returned (.bool true) ∧ Below W.heap.size W w' := by
  obtain ⟨hf1, hf2⟩ := Bool.and_eq_true_iff.1 hf
  have hq6 := of_decide_eq_true hf2
  obtain ⟨z1, z2, z3⟩ := fewB_size hf1
  have hn5 : n ≤ 60000 := by rw [nts_len, hR.1] at z2; exact z2
  have hm5 : ∀ y ∈ qs, y.m ≤ 1000000 := fun y hy => by
    have h1 := z3 y.n (List.mem_map.2 ⟨y, hy, rfl⟩)
    have h2 := (rd_oct hR hy).1.1
    omega
  obtain ⟨y1, y2, y3⟩ := fewB_size (Bool.and_eq_true_iff.1 hf').1
  have hn6 : n' ≤ 60000 := by rw [nts_len, hR'.1] at y2; exact y2
  have hm6 : ∀ y ∈ zs, y.m ≤ 1000000 := fun y hy => by
    have h1 := y3 y.n (List.mem_map.2 ⟨y, hy, rfl⟩)
    have h2 := (rd_oct hR' hy).1.1
    omega
  obtain ⟨W1, hW1⟩ : ∃ W1, W1 = (W.alloc (.cells #[.string S, .int .u32 (E : Nat), .int .u32 (X : Nat), .slice A n c] 25)).alloc (.cells #[.string S', .int .u32 (E' : Nat), .int .u32 (X' : Nat), .slice A' n' c'] 25) := ⟨_, rfl⟩
  have HBW := Lib.hid (show Below W.heap.size W W1 by rw [hW1]; exact ((Below.refl _ _).alloc (Nat.le_refl _) _).alloc (by simp) _)
  have HP1 := Lib.hid (fun (w' : World) (h : Below W1.heap.size W1 w') => show w'.heap[W.heap.size]? = some (.cells #[.string S, .int .u32 (E : Nat), .int .u32 (X : Nat), .slice A n c] 25 (0, 0)) from (h.block _ (by rw [hW1]; simp; omega)).trans (by rw [hW1, heap_alloc_old _ _ (by simp)]; exact heap_alloc_new _ _))
  have HP2 := Lib.hid (fun (w' : World) (h : Below W1.heap.size W1 w') => show w'.heap[W.heap.size + 1]? = some (.cells #[.string S', .int .u32 (E' : Nat), .int .u32 (X' : Nat), .slice A' n' c'] 25 (0, 0)) from (h.block _ (by rw [hW1]; simp)).trans (by rw [hW1]; have := heap_alloc_new (W.alloc (.cells #[.string S, .int .u32 (E : Nat), .int .u32 (X : Nat), .slice A n c] 25)) (.cells #[.string S', .int .u32 (E' : Nat), .int .u32 (X' : Nat), .slice A' n' c'] 25); simpa using this))
  have HFit := Lib.hid (fun (w1 : World) (h : Below W1.heap.size W1 w1) => hr.below (HBW.out.trans (h.mono HBW.out.size)))
  have HRA := Lib.hid (fun (w1 : World) (h : Below W1.heap.size W1 w1) => hR.below (HBW.out.trans (h.mono HBW.out.size)))
  have HRB := Lib.hid (fun (w1 : World) (h : Below W1.heap.size W1 w1) => hR'.below (HBW.out.trans (h.mono HBW.out.size)))
  have HNu := Lib.hid (fun (w1 : World) (h : Below W1.heap.size W1 w1) => hU.below (HBW.out.trans (h.mono HBW.out.size)))
  have HF1 := Lib.hid (fun (w1 : World) (h : Below W1.heap.size W1 w1) => few2_any w1 S E X A n c qs B q dd (HRA.out w1 h) hn hS hm)
  have HF2 := Lib.hid (fun (w1 : World) (h : Below W1.heap.size W1 w1) => few2_any w1 S' E' X' A' n' c' zs none 0 0 (HRB.out w1 h) hn' hS' hm')
  have HW1 := Lib.hid hW1
  rw [hf] at HF1
  rw [hf'] at HF2
  have HAp := Lib.hid (fun (w1 : World) (h : Below W1.heap.size W1 w1) => copy_wrong1 w1 S S' E X E' X' A A' n c n' c' qs zs B q dd U (HRA.out w1 h) (by omega) (by omega) hm5 (HRB.out w1 h) (by omega) (by omega) hm6 (HFit.out w1 h) (HNu.out w1 h) (by omega) hw)
  have HRi := Lib.hid (fun (w1 : World) (h : Below W1.heap.size W1 w1) => rRight_any w1 S E X A n c qs (HRA.out w1 h) (by omega))
  have HRj := Lib.hid (fun (w1 : World) (h : Below W1.heap.size W1 w1) => rRight_any w1 S' E' X' A' n' c' zs (HRB.out w1 h) (by omega))
  have HRG := Lib.hid hw
  clear hf hf' hw hf1 hf2 hq6 z1 z2 z3 hn5 hm5 y1 y2 y3 hn6 hm6
  clear hW1 hR hR' hA' hX' hn hS hm hn' hS' hm' hU hr
  go_enter Tryd.func7, Tryd.ntmps7
  go_wp2_with fail
  rw [← HW1.out]
  refine (awake_any W1 (HFit.out _ (Below.refl _ _))).mono ?_
  rintro x w1 ⟨rfl, hb1⟩
  have HB1 := Lib.hid hb1
  have c0 := cell_at (HP1.out _ hb1) 0 _ rfl
  have c1 := cell_at (HP1.out _ hb1) 1 _ rfl
  have c2 := cell_at (HP1.out _ hb1) 2 _ rfl
  have c3 := cell_at (HP1.out _ hb1) 3 _ rfl
  clear hb1
  go_wp2_with fail
  clear c0 c1 c2 c3
  refine (HF1.out w1 HB1.out).mono ?_
  rintro x w2 ⟨rfl, hb2⟩
  have HB2 := Lib.hid (HB1.out.trans (hb2.mono HB1.out.size))
  clear hb2
  have d0 := cell_at (HP2.out _ HB2.out) 0 _ rfl
  have d1 := cell_at (HP2.out _ HB2.out) 1 _ rfl
  have d2 := cell_at (HP2.out _ HB2.out) 2 _ rfl
  have d3 := cell_at (HP2.out _ HB2.out) 3 _ rfl
  go_wp2_with fail
  clear d0 d1 d2 d3
  refine (HF2.out w2 HB2.out).mono ?_
  rintro x w3 ⟨rfl, hb3⟩
  have HB3 := Lib.hid (HB2.out.trans (hb3.mono HB2.out.size))
  clear hb3
  have c0 := cell_at (HP1.out _ HB3.out) 0 _ rfl
  have c1 := cell_at (HP1.out _ HB3.out) 1 _ rfl
  have c2 := cell_at (HP1.out _ HB3.out) 2 _ rfl
  have c3 := cell_at (HP1.out _ HB3.out) 3 _ rfl
  have d0 := cell_at (HP2.out _ HB3.out) 0 _ rfl
  have d1 := cell_at (HP2.out _ HB3.out) 1 _ rfl
  have d2 := cell_at (HP2.out _ HB3.out) 2 _ rfl
  have d3 := cell_at (HP2.out _ HB3.out) 3 _ rfl
  go_wp2_with fail
  clear c0 c1 c2 c3 d0 d1 d2 d3
  refine (HAp.out w3 HB3.out).mono ?_
  rintro x w4 ⟨rfl, hb4⟩
  have HB4 := Lib.hid (HB3.out.trans (hb4.mono HB3.out.size))
  have hb5 : Below W1.heap.size W1 (w4.alloc (.cells #[.string ⟨#[]⟩, .int .u32 0, .int .u32 0, .slice none 0 0] 25)) := HB4.out.alloc HB4.out.size _
  have HB5 := Lib.hid hb5
  have HX5 := Lib.hid (fun (w' : World) (h : Below (w4.alloc (.cells #[.string ⟨#[]⟩, .int .u32 0, .int .u32 0, .slice none 0 0] 25)).heap.size (w4.alloc (.cells #[.string ⟨#[]⟩, .int .u32 0, .int .u32 0, .slice none 0 0] 25)) w') => boxed h)
  have k0 := cell_at (HP1.out _ hb5) 0 _ rfl
  have k1 := cell_at (HP1.out _ hb5) 1 _ rfl
  have k2 := cell_at (HP1.out _ hb5) 2 _ rfl
  have k3 := cell_at (HP1.out _ hb5) 3 _ rfl
  clear hb5 hb4
  go_wp2_with fail
  clear k0 k1 k2 k3
  refine (HRi.out _ HB5.out).mono ?_
  rw [HRG.out]
  rintro x w6 ⟨rfl, hb6⟩
  have HX6 := Lib.hid (HX5.out _ hb6)
  have HB6 := Lib.hid (HB5.out.trans (hb6.mono HB5.out.size))
  clear hb6
  go_wp2_with fail
  go_ret
  exact ⟨rfl, HBW.out.trans (HB6.out.mono HBW.out.size)⟩
set_option maxHeartbeats 1000000 in
theorem copies_wrong2 (W : World) (S S' : ByteArray) (E X E' X' : Nat) (A A' : Option Addr) (n c n' c' : Nat) (qs zs : List Y) (B : Option Addr) (q dd : Nat) (U : List Nat) (hR : Rd cM 4 W A n qs) (hR' : Rd cM 4 W A' n' zs) (hA' : A' = none → c' = 0) (hX' : X' < 4294967296) (hn : n ≤ 140737488355328) (hS : S.size ≤ 140737488355328) (hm : ∀ y ∈ qs, y.m ≤ 140737488355328) (hn' : n' ≤ 140737488355328) (hS' : S'.size ≤ 140737488355328) (hm' : ∀ y ∈ zs, y.m ≤ 140737488355328) (hU : Nums W B q U) (hr : Fit W) (hf : (fewB S (nts qs) && decide (q ≤ 600)) = true) (hf' : (fewB S' (nts zs) && decide (0 ≤ 600)) = true) (hw : right S E X (nts qs) = true) (hw' : right S' E' X' (nts zs) = false) :
    Calls Tryd.prog 7 #[.agg #[.string S, .int .u32 (E : Nat), .int .u32 (X : Nat), .slice A n c], .agg #[.string S', .int .u32 (E' : Nat), .int .u32 (X' : Nat), .slice A' n' c'], .slice B q dd] W fun x w' => x = .returned (.bool true) ∧ Below W.heap.size W w' := by
  obtain ⟨hf1, hf2⟩ := Bool.and_eq_true_iff.1 hf
  have hq6 := of_decide_eq_true hf2
  obtain ⟨z1, z2, z3⟩ := fewB_size hf1
  have hn5 : n ≤ 60000 := by rw [nts_len, hR.1] at z2; exact z2
  have hm5 : ∀ y ∈ qs, y.m ≤ 1000000 := fun y hy => by
    have h1 := z3 y.n (List.mem_map.2 ⟨y, hy, rfl⟩)
    have h2 := (rd_oct hR hy).1.1
    omega
  obtain ⟨y1, y2, y3⟩ := fewB_size (Bool.and_eq_true_iff.1 hf').1
  have hn6 : n' ≤ 60000 := by rw [nts_len, hR'.1] at y2; exact y2
  have hm6 : ∀ y ∈ zs, y.m ≤ 1000000 := fun y hy => by
    have h1 := y3 y.n (List.mem_map.2 ⟨y, hy, rfl⟩)
    have h2 := (rd_oct hR' hy).1.1
    omega
  obtain ⟨W1, hW1⟩ : ∃ W1, W1 = (W.alloc (.cells #[.string S, .int .u32 (E : Nat), .int .u32 (X : Nat), .slice A n c] 25)).alloc (.cells #[.string S', .int .u32 (E' : Nat), .int .u32 (X' : Nat), .slice A' n' c'] 25) := ⟨_, rfl⟩
  have HBW := Lib.hid (show Below W.heap.size W W1 by rw [hW1]; exact ((Below.refl _ _).alloc (Nat.le_refl _) _).alloc (by simp) _)
  have HP1 := Lib.hid (fun (w' : World) (h : Below W1.heap.size W1 w') => show w'.heap[W.heap.size]? = some (.cells #[.string S, .int .u32 (E : Nat), .int .u32 (X : Nat), .slice A n c] 25 (0, 0)) from (h.block _ (by rw [hW1]; simp; omega)).trans (by rw [hW1, heap_alloc_old _ _ (by simp)]; exact heap_alloc_new _ _))
  have HP2 := Lib.hid (fun (w' : World) (h : Below W1.heap.size W1 w') => show w'.heap[W.heap.size + 1]? = some (.cells #[.string S', .int .u32 (E' : Nat), .int .u32 (X' : Nat), .slice A' n' c'] 25 (0, 0)) from (h.block _ (by rw [hW1]; simp)).trans (by rw [hW1]; have := heap_alloc_new (W.alloc (.cells #[.string S, .int .u32 (E : Nat), .int .u32 (X : Nat), .slice A n c] 25)) (.cells #[.string S', .int .u32 (E' : Nat), .int .u32 (X' : Nat), .slice A' n' c'] 25); simpa using this))
  have HFit := Lib.hid (fun (w1 : World) (h : Below W1.heap.size W1 w1) => hr.below (HBW.out.trans (h.mono HBW.out.size)))
  have HRA := Lib.hid (fun (w1 : World) (h : Below W1.heap.size W1 w1) => hR.below (HBW.out.trans (h.mono HBW.out.size)))
  have HRB := Lib.hid (fun (w1 : World) (h : Below W1.heap.size W1 w1) => hR'.below (HBW.out.trans (h.mono HBW.out.size)))
  have HNu := Lib.hid (fun (w1 : World) (h : Below W1.heap.size W1 w1) => hU.below (HBW.out.trans (h.mono HBW.out.size)))
  have HF1 := Lib.hid (fun (w1 : World) (h : Below W1.heap.size W1 w1) => few2_any w1 S E X A n c qs B q dd (HRA.out w1 h) hn hS hm)
  have HF2 := Lib.hid (fun (w1 : World) (h : Below W1.heap.size W1 w1) => few2_any w1 S' E' X' A' n' c' zs none 0 0 (HRB.out w1 h) hn' hS' hm')
  have HW1 := Lib.hid hW1
  rw [hf] at HF1
  rw [hf'] at HF2
  have HAp := Lib.hid (fun (w1 : World) (h : Below W1.heap.size W1 w1) => copy_wrong2 w1 S S' E X E' X' A A' n c n' c' qs zs B q dd U (HRA.out w1 h) (by omega) (by omega) hm5 (HRB.out w1 h) (by omega) (by omega) hm6 (HFit.out w1 h) (HNu.out w1 h) (by omega) hw hw')
  have HRi := Lib.hid (fun (w1 : World) (h : Below W1.heap.size W1 w1) => rRight_any w1 S E X A n c qs (HRA.out w1 h) (by omega))
  have HRj := Lib.hid (fun (w1 : World) (h : Below W1.heap.size W1 w1) => rRight_any w1 S' E' X' A' n' c' zs (HRB.out w1 h) (by omega))
  have HRG := Lib.hid hw
  have HRG2 := Lib.hid hw'
  clear hf hf' hw hw' hf1 hf2 hq6 z1 z2 z3 hn5 hm5 y1 y2 y3 hn6 hm6
  clear hW1 hR hR' hA' hX' hn hS hm hn' hS' hm' hU hr
  go_enter Tryd.func7, Tryd.ntmps7
  go_wp2_with fail
  rw [← HW1.out]
  refine (awake_any W1 (HFit.out _ (Below.refl _ _))).mono ?_
  rintro x w1 ⟨rfl, hb1⟩
  have HB1 := Lib.hid hb1
  have c0 := cell_at (HP1.out _ hb1) 0 _ rfl
  have c1 := cell_at (HP1.out _ hb1) 1 _ rfl
  have c2 := cell_at (HP1.out _ hb1) 2 _ rfl
  have c3 := cell_at (HP1.out _ hb1) 3 _ rfl
  clear hb1
  go_wp2_with fail
  clear c0 c1 c2 c3
  refine (HF1.out w1 HB1.out).mono ?_
  rintro x w2 ⟨rfl, hb2⟩
  have HB2 := Lib.hid (HB1.out.trans (hb2.mono HB1.out.size))
  clear hb2
  have d0 := cell_at (HP2.out _ HB2.out) 0 _ rfl
  have d1 := cell_at (HP2.out _ HB2.out) 1 _ rfl
  have d2 := cell_at (HP2.out _ HB2.out) 2 _ rfl
  have d3 := cell_at (HP2.out _ HB2.out) 3 _ rfl
  go_wp2_with fail
  clear d0 d1 d2 d3
  refine (HF2.out w2 HB2.out).mono ?_
  rintro x w3 ⟨rfl, hb3⟩
  have HB3 := Lib.hid (HB2.out.trans (hb3.mono HB2.out.size))
  clear hb3
  have c0 := cell_at (HP1.out _ HB3.out) 0 _ rfl
  have c1 := cell_at (HP1.out _ HB3.out) 1 _ rfl
  have c2 := cell_at (HP1.out _ HB3.out) 2 _ rfl
  have c3 := cell_at (HP1.out _ HB3.out) 3 _ rfl
  have d0 := cell_at (HP2.out _ HB3.out) 0 _ rfl
  have d1 := cell_at (HP2.out _ HB3.out) 1 _ rfl
  have d2 := cell_at (HP2.out _ HB3.out) 2 _ rfl
  have d3 := cell_at (HP2.out _ HB3.out) 3 _ rfl
  go_wp2_with fail
  clear c0 c1 c2 c3 d0 d1 d2 d3
  refine (HAp.out w3 HB3.out).mono ?_
  rintro x w4 ⟨rfl, hb4⟩
  have HB4 := Lib.hid (HB3.out.trans (hb4.mono HB3.out.size))
  have hb5 : Below W1.heap.size W1 (w4.alloc (.cells #[.string ⟨#[]⟩, .int .u32 0, .int .u32 0, .slice none 0 0] 25)) := HB4.out.alloc HB4.out.size _
  have HB5 := Lib.hid hb5
  have HX5 := Lib.hid (fun (w' : World) (h : Below (w4.alloc (.cells #[.string ⟨#[]⟩, .int .u32 0, .int .u32 0, .slice none 0 0] 25)).heap.size (w4.alloc (.cells #[.string ⟨#[]⟩, .int .u32 0, .int .u32 0, .slice none 0 0] 25)) w') => boxed h)
  have k0 := cell_at (HP1.out _ hb5) 0 _ rfl
  have k1 := cell_at (HP1.out _ hb5) 1 _ rfl
  have k2 := cell_at (HP1.out _ hb5) 2 _ rfl
  have k3 := cell_at (HP1.out _ hb5) 3 _ rfl
  clear hb5 hb4
  go_wp2_with fail
  clear k0 k1 k2 k3
  refine (HRi.out _ HB5.out).mono ?_
  rw [HRG.out]
  rintro x w6 ⟨rfl, hb6⟩
  have HX6 := Lib.hid (HX5.out _ hb6)
  have HB6 := Lib.hid (HB5.out.trans (hb6.mono HB5.out.size))
  clear hb6
  have k0 := cell_at (HP2.out _ HB6.out) 0 _ rfl
  have k1 := cell_at (HP2.out _ HB6.out) 1 _ rfl
  have k2 := cell_at (HP2.out _ HB6.out) 2 _ rfl
  have k3 := cell_at (HP2.out _ HB6.out) 3 _ rfl
  go_wp2_with fail
  clear k0 k1 k2 k3
  refine (HRj.out _ HB6.out).mono ?_
  rw [HRG2.out]
  rintro x w7 ⟨rfl, hb7⟩
  have HX7 := Lib.hid (show w7.heap[w4.heap.size]? = some (.cells #[.string ⟨#[]⟩, .int .u32 0, .int .u32 0, .slice none 0 0] 25 (0, 0)) ∧ Below w4.heap.size w4 w7 from ⟨(hb7.block _ (Array.getElem?_eq_some_iff.1 HX6.out.1).1).trans HX6.out.1, HX6.out.2.trans (hb7.mono HX6.out.2.size)⟩)
  have HB7 := Lib.hid (HB6.out.trans (hb7.mono HB6.out.size))
  clear hb7
  go_wp2_with fail
  go_ret
  exact ⟨rfl, HBW.out.trans (HB7.out.mono HBW.out.size)⟩
set_option maxHeartbeats 4000000 in
theorem copies_good (W : World) (S S' : ByteArray) (E X E' X' : Nat) (A A' : Option Addr) (n c n' c' : Nat) (qs zs : List Y) (B : Option Addr) (q dd : Nat) (U : List Nat) (hR : Rd cM 4 W A n qs) (hR' : Rd cM 4 W A' n' zs) (hA' : A' = none → c' = 0) (hX' : X' < 4294967296) (hn : n ≤ 140737488355328) (hS : S.size ≤ 140737488355328) (hm : ∀ y ∈ qs, y.m ≤ 140737488355328) (hn' : n' ≤ 140737488355328) (hS' : S'.size ≤ 140737488355328) (hm' : ∀ y ∈ zs, y.m ≤ 140737488355328) (hU : Nums W B q U) (hr : Fit W) (hf : (fewB S (nts qs) && decide (q ≤ 600)) = true) (hf' : (fewB S' (nts zs) && decide (0 ≤ 600)) = true) (hw : right S E X (nts qs) = true) (hw' : right S' E' X' (nts zs) = true) :
    Calls Tryd.prog 7 #[.agg #[.string S, .int .u32 (E : Nat), .int .u32 (X : Nat), .slice A n c], .agg #[.string S', .int .u32 (E' : Nat), .int .u32 (X' : Nat), .slice A' n' c'], .slice B q dd] W fun x w' => x = .returned (.bool true) ∧ Below W.heap.size W w' := by
  obtain ⟨hf1, hf2⟩ := Bool.and_eq_true_iff.1 hf
  have hq6 := of_decide_eq_true hf2
  obtain ⟨z1, z2, z3⟩ := fewB_size hf1
  have hn5 : n ≤ 60000 := by rw [nts_len, hR.1] at z2; exact z2
  have hm5 : ∀ y ∈ qs, y.m ≤ 1000000 := fun y hy => by
    have h1 := z3 y.n (List.mem_map.2 ⟨y, hy, rfl⟩)
    have h2 := (rd_oct hR hy).1.1
    omega
  obtain ⟨y1, y2, y3⟩ := fewB_size (Bool.and_eq_true_iff.1 hf').1
  have hn6 : n' ≤ 60000 := by rw [nts_len, hR'.1] at y2; exact y2
  have hm6 : ∀ y ∈ zs, y.m ≤ 1000000 := fun y hy => by
    have h1 := y3 y.n (List.mem_map.2 ⟨y, hy, rfl⟩)
    have h2 := (rd_oct hR' hy).1.1
    omega
  obtain ⟨W1, hW1⟩ : ∃ W1, W1 = (W.alloc (.cells #[.string S, .int .u32 (E : Nat), .int .u32 (X : Nat), .slice A n c] 25)).alloc (.cells #[.string S', .int .u32 (E' : Nat), .int .u32 (X' : Nat), .slice A' n' c'] 25) := ⟨_, rfl⟩
  have HBW := Lib.hid (show Below W.heap.size W W1 by rw [hW1]; exact ((Below.refl _ _).alloc (Nat.le_refl _) _).alloc (by simp) _)
  have HP1 := Lib.hid (fun (w' : World) (h : Below W1.heap.size W1 w') => show w'.heap[W.heap.size]? = some (.cells #[.string S, .int .u32 (E : Nat), .int .u32 (X : Nat), .slice A n c] 25 (0, 0)) from (h.block _ (by rw [hW1]; simp; omega)).trans (by rw [hW1, heap_alloc_old _ _ (by simp)]; exact heap_alloc_new _ _))
  have HP2 := Lib.hid (fun (w' : World) (h : Below W1.heap.size W1 w') => show w'.heap[W.heap.size + 1]? = some (.cells #[.string S', .int .u32 (E' : Nat), .int .u32 (X' : Nat), .slice A' n' c'] 25 (0, 0)) from (h.block _ (by rw [hW1]; simp)).trans (by rw [hW1]; have := heap_alloc_new (W.alloc (.cells #[.string S, .int .u32 (E : Nat), .int .u32 (X : Nat), .slice A n c] 25)) (.cells #[.string S', .int .u32 (E' : Nat), .int .u32 (X' : Nat), .slice A' n' c'] 25); simpa using this))
  have HFit := Lib.hid (fun (w1 : World) (h : Below W1.heap.size W1 w1) => hr.below (HBW.out.trans (h.mono HBW.out.size)))
  have HRA := Lib.hid (fun (w1 : World) (h : Below W1.heap.size W1 w1) => hR.below (HBW.out.trans (h.mono HBW.out.size)))
  have HRB := Lib.hid (fun (w1 : World) (h : Below W1.heap.size W1 w1) => hR'.below (HBW.out.trans (h.mono HBW.out.size)))
  have HNu := Lib.hid (fun (w1 : World) (h : Below W1.heap.size W1 w1) => hU.below (HBW.out.trans (h.mono HBW.out.size)))
  have HF1 := Lib.hid (fun (w1 : World) (h : Below W1.heap.size W1 w1) => few2_any w1 S E X A n c qs B q dd (HRA.out w1 h) hn hS hm)
  have HF2 := Lib.hid (fun (w1 : World) (h : Below W1.heap.size W1 w1) => few2_any w1 S' E' X' A' n' c' zs none 0 0 (HRB.out w1 h) hn' hS' hm')
  have HW1 := Lib.hid hW1
  rw [hf] at HF1
  rw [hf'] at HF2
  have HAp := Lib.hid (fun (w1 : World) (h : Below W1.heap.size W1 w1) => copy_good w1 S S' E X E' X' A A' n c n' c' qs zs B q dd U (HRA.out w1 h) (by omega) (by omega) hm5 (HRB.out w1 h) (by omega) (by omega) hm6 (HFit.out w1 h) (HNu.out w1 h) (by omega) hX' hw hw')
  have HRi := Lib.hid (fun (w1 : World) (h : Below W1.heap.size W1 w1) => rRight_any w1 S E X A n c qs (HRA.out w1 h) (by omega))
  have HRj := Lib.hid (fun (w1 : World) (h : Below W1.heap.size W1 w1) => rRight_any w1 S' E' X' A' n' c' zs (HRB.out w1 h) (by omega))
  have HRs := Lib.hid (fun (w1 : World) (h : Below W1.heap.size W1 w1) => rcopy_any w1 S S' E X E' X' A A' n c n' c' qs zs B q dd U (HRA.out w1 h) (by omega) (HRB.out w1 h) hA' (HNu.out w1 h) (by omega) hX' hw hw')
  have HRG := Lib.hid hw
  have HRG2 := Lib.hid hw'
  have HGd := Lib.hid (fun (he : (cpA S' E' U X' (nts zs) (nts qs)).e = 0) => cp_good (U := U) (nts qs) ⟨nts zs, X', [], 0⟩ ⟨rfl, hw', hX', by simp, by simp, Nat.le_refl _⟩ (fun t ht => fits_of hw ht) he)
  clear hf hf' hw hw' hf1 hf2 hq6 z1 z2 z3 hn5 hm5 y1 y2 y3 hn6 hm6
  change Hid (_ → Good S' E' X' (cpA S' E' U X' (nts zs) (nts qs))) at HGd
  generalize cpA S' E' U X' (nts zs) (nts qs) = C at *
  clear hW1 hR hR' hA' hX' hn hS hm hn' hS' hm' hU hr
  go_enter Tryd.func7, Tryd.ntmps7
  go_wp2_with fail
  rw [← HW1.out]
  refine (awake_any W1 (HFit.out _ (Below.refl _ _))).mono ?_
  rintro x w1 ⟨rfl, hb1⟩
  have HB1 := Lib.hid hb1
  have c0 := cell_at (HP1.out _ hb1) 0 _ rfl
  have c1 := cell_at (HP1.out _ hb1) 1 _ rfl
  have c2 := cell_at (HP1.out _ hb1) 2 _ rfl
  have c3 := cell_at (HP1.out _ hb1) 3 _ rfl
  clear hb1
  go_wp2_with fail
  clear c0 c1 c2 c3
  refine (HF1.out w1 HB1.out).mono ?_
  rintro x w2 ⟨rfl, hb2⟩
  have HB2 := Lib.hid (HB1.out.trans (hb2.mono HB1.out.size))
  clear hb2
  have d0 := cell_at (HP2.out _ HB2.out) 0 _ rfl
  have d1 := cell_at (HP2.out _ HB2.out) 1 _ rfl
  have d2 := cell_at (HP2.out _ HB2.out) 2 _ rfl
  have d3 := cell_at (HP2.out _ HB2.out) 3 _ rfl
  go_wp2_with fail
  clear d0 d1 d2 d3
  refine (HF2.out w2 HB2.out).mono ?_
  rintro x w3 ⟨rfl, hb3⟩
  have HB3 := Lib.hid (HB2.out.trans (hb3.mono HB2.out.size))
  clear hb3
  have c0 := cell_at (HP1.out _ HB3.out) 0 _ rfl
  have c1 := cell_at (HP1.out _ HB3.out) 1 _ rfl
  have c2 := cell_at (HP1.out _ HB3.out) 2 _ rfl
  have c3 := cell_at (HP1.out _ HB3.out) 3 _ rfl
  have d0 := cell_at (HP2.out _ HB3.out) 0 _ rfl
  have d1 := cell_at (HP2.out _ HB3.out) 1 _ rfl
  have d2 := cell_at (HP2.out _ HB3.out) 2 _ rfl
  have d3 := cell_at (HP2.out _ HB3.out) 3 _ rfl
  go_wp2_with fail
  clear c0 c1 c2 c3 d0 d1 d2 d3
  refine (HAp.out w3 HB3.out).mono ?_
  rintro x w4 hC
  rcases hC with ⟨he, rfl, hb4⟩ | ⟨he, A4, n4, c4, v4, ys4, rfl, ho4, hl4, hg4, hb4⟩
  · obtain ⟨e, hCe⟩ : ∃ e, e = C.e := ⟨_, rfl⟩
    rw [← hCe]
    have HE := Lib.hid hCe
    rw [← hCe] at he
    clear hCe
    have HB4 := Lib.hid (HB3.out.trans (hb4.mono HB3.out.size))
    have hb5 : Below W1.heap.size W1 (w4.alloc (.cells #[.string ⟨#[]⟩, .int .u32 0, .int .u32 0, .slice none 0 0] 25)) := HB4.out.alloc HB4.out.size _
    have HB5 := Lib.hid hb5
    have HX5 := Lib.hid (fun (w' : World) (h : Below (w4.alloc (.cells #[.string ⟨#[]⟩, .int .u32 0, .int .u32 0, .slice none 0 0] 25)).heap.size (w4.alloc (.cells #[.string ⟨#[]⟩, .int .u32 0, .int .u32 0, .slice none 0 0] 25)) w') => boxed h)
    have k0 := cell_at (HP1.out _ hb5) 0 _ rfl
    have k1 := cell_at (HP1.out _ hb5) 1 _ rfl
    have k2 := cell_at (HP1.out _ hb5) 2 _ rfl
    have k3 := cell_at (HP1.out _ hb5) 3 _ rfl
    clear hb5 hb4
    go_wp2_with fail
    clear k0 k1 k2 k3
    refine (HRi.out _ HB5.out).mono ?_
    rw [HRG.out]
    rintro x w6 ⟨rfl, hb6⟩
    have HX6 := Lib.hid (HX5.out _ hb6)
    have HB6 := Lib.hid (HB5.out.trans (hb6.mono HB5.out.size))
    clear hb6
    have k0 := cell_at (HP2.out _ HB6.out) 0 _ rfl
    have k1 := cell_at (HP2.out _ HB6.out) 1 _ rfl
    have k2 := cell_at (HP2.out _ HB6.out) 2 _ rfl
    have k3 := cell_at (HP2.out _ HB6.out) 3 _ rfl
    go_wp2_with fail
    clear k0 k1 k2 k3
    refine (HRj.out _ HB6.out).mono ?_
    rw [HRG2.out]
    rintro x w7 ⟨rfl, hb7⟩
    have HX7 := Lib.hid (show w7.heap[w4.heap.size]? = some (.cells #[.string ⟨#[]⟩, .int .u32 0, .int .u32 0, .slice none 0 0] 25 (0, 0)) ∧ Below w4.heap.size w4 w7 from ⟨(hb7.block _ (Array.getElem?_eq_some_iff.1 HX6.out.1).1).trans HX6.out.1, HX6.out.2.trans (hb7.mono HX6.out.2.size)⟩)
    have HB7 := Lib.hid (HB6.out.trans (hb7.mono HB6.out.size))
    clear hb7
    have c0 := cell_at (HP1.out _ HB7.out) 0 _ rfl
    have c1 := cell_at (HP1.out _ HB7.out) 1 _ rfl
    have c2 := cell_at (HP1.out _ HB7.out) 2 _ rfl
    have c3 := cell_at (HP1.out _ HB7.out) 3 _ rfl
    have d0 := cell_at (HP2.out _ HB7.out) 0 _ rfl
    have d1 := cell_at (HP2.out _ HB7.out) 1 _ rfl
    have d2 := cell_at (HP2.out _ HB7.out) 2 _ rfl
    have d3 := cell_at (HP2.out _ HB7.out) 3 _ rfl
    go_wp2_with fail
    clear c0 c1 c2 c3 d0 d1 d2 d3
    refine (HRs.out w7 HB7.out).mono ?_
    rintro x w8 hC
    rcases hC with ⟨-, rfl, hb8⟩ | ⟨he', -⟩
    rotate_left
    · exact absurd (HE.out.trans he') he
    rw [← HE.out]
    have HB8 := Lib.hid (HB7.out.trans (hb8.mono HB7.out.size))
    have h48 : Below w4.heap.size w4 w8 := HX7.out.2.trans (hb8.mono HX7.out.2.size)
    have h89 : Below w8.heap.size w8 (w8.alloc (.cells #[.string ⟨#[]⟩, .int .u32 0, .int .u32 0, .slice none 0 0] 25)) := (Below.refl _ _).alloc (Nat.le_refl _) _
    have hx9 : (w8.alloc (.cells #[.string ⟨#[]⟩, .int .u32 0, .int .u32 0, .slice none 0 0] 25)).heap[w4.heap.size]? = some (.cells #[.string ⟨#[]⟩, .int .u32 0, .int .u32 0, .slice none 0 0] 25 (0, 0)) := by
      have hlt := (Array.getElem?_eq_some_iff.1 HX7.out.1).1
      rw [heap_alloc_old _ _ (Nat.lt_of_lt_of_le hlt hb8.size), hb8.block _ hlt]
      exact HX7.out.1
    have HB9 := Lib.hid (HB8.out.alloc HB8.out.size (.cells #[.string ⟨#[]⟩, .int .u32 0, .int .u32 0, .slice none 0 0] 25))
    have HSB := Lib.hid (sameBox_any (w8.alloc (.cells #[.string ⟨#[]⟩, .int .u32 0, .int .u32 0, .slice none 0 0] 25)) ⟨#[]⟩ ⟨#[]⟩ 0 0 0 0 none none 0 0 0 0 [] [] (lg.Rd.empty _) (lg.Rd.empty _) (by decide))
    rw [show nts [] = [] from rfl, sameB_self] at HSB
    have x0 := cell_at hx9 0 _ rfl
    have x1 := cell_at hx9 1 _ rfl
    have x2 := cell_at hx9 2 _ rfl
    have x3 := cell_at hx9 3 _ rfl
    clear hb8 h48 h89 hx9
    go_wp2_with fail
    refine HSB.out.mono ?_
    rintro x w10 ⟨rfl, hb10⟩
    have HB10 := Lib.hid (HB9.out.trans (hb10.mono HB9.out.size))
    clear hb10 x0 x1 x2 x3
    go_wp2_with fail
    refine wp_loop_rounds 1 ?_
    rw [rounds_succ]
    go_wp2_with fail
    go_ret
    exact ⟨rfl, HBW.out.trans (HB10.out.mono HBW.out.size)⟩
  · obtain ⟨Ag, cg, rfl, -, -, hgr⟩ := hg4.rd fU
    have HG4 := Lib.hid hgr
    have HO4 := Lib.hid ho4
    have HL4 := Lib.hid hl4
    have HGG := Lib.hid (HGd.out he)
    clear ho4 hl4 hg4 hgr
    generalize hgn : C.g.length = gn at *
    have HB4 := Lib.hid (HB3.out.trans (hb4.mono HB3.out.size))
    have hb5 : Below W1.heap.size W1 (w4.alloc (.cells #[.string S', .int .u32 (E' : Nat), .int .u32 (C.X : Nat), .slice A4 n4 c4] 25)) := HB4.out.alloc HB4.out.size _
    have HB5 := Lib.hid hb5
    have HX5 := Lib.hid (fun (w' : World) (h : Below (w4.alloc (.cells #[.string S', .int .u32 (E' : Nat), .int .u32 (C.X : Nat), .slice A4 n4 c4] 25)).heap.size (w4.alloc (.cells #[.string S', .int .u32 (E' : Nat), .int .u32 (C.X : Nat), .slice A4 n4 c4] 25)) w') => boxed h)
    have k0 := cell_at (HP1.out _ hb5) 0 _ rfl
    have k1 := cell_at (HP1.out _ hb5) 1 _ rfl
    have k2 := cell_at (HP1.out _ hb5) 2 _ rfl
    have k3 := cell_at (HP1.out _ hb5) 3 _ rfl
    clear hb5 hb4
    go_wp2_with fail
    clear k0 k1 k2 k3
    refine (HRi.out _ HB5.out).mono ?_
    rw [HRG.out]
    rintro x w6 ⟨rfl, hb6⟩
    have HX6 := Lib.hid (HX5.out _ hb6)
    have HB6 := Lib.hid (HB5.out.trans (hb6.mono HB5.out.size))
    clear hb6
    have k0 := cell_at (HP2.out _ HB6.out) 0 _ rfl
    have k1 := cell_at (HP2.out _ HB6.out) 1 _ rfl
    have k2 := cell_at (HP2.out _ HB6.out) 2 _ rfl
    have k3 := cell_at (HP2.out _ HB6.out) 3 _ rfl
    go_wp2_with fail
    clear k0 k1 k2 k3
    refine (HRj.out _ HB6.out).mono ?_
    rw [HRG2.out]
    rintro x w7 ⟨rfl, hb7⟩
    have HX7 := Lib.hid (show w7.heap[w4.heap.size]? = some (.cells #[.string S', .int .u32 (E' : Nat), .int .u32 (C.X : Nat), .slice A4 n4 c4] 25 (0, 0)) ∧ Below w4.heap.size w4 w7 from ⟨(hb7.block _ (Array.getElem?_eq_some_iff.1 HX6.out.1).1).trans HX6.out.1, HX6.out.2.trans (hb7.mono HX6.out.2.size)⟩)
    have HB7 := Lib.hid (HB6.out.trans (hb7.mono HB6.out.size))
    clear hb7
    have k0 := cell_at (HP1.out _ HB7.out) 0 _ rfl
    have k1 := cell_at (HP1.out _ HB7.out) 1 _ rfl
    have k2 := cell_at (HP1.out _ HB7.out) 2 _ rfl
    have k3 := cell_at (HP1.out _ HB7.out) 3 _ rfl
    have d0 := cell_at (HP2.out _ HB7.out) 0 _ rfl
    have d1 := cell_at (HP2.out _ HB7.out) 1 _ rfl
    have d2 := cell_at (HP2.out _ HB7.out) 2 _ rfl
    have d3 := cell_at (HP2.out _ HB7.out) 3 _ rfl
    go_wp2_with fail
    clear k0 k1 k2 k3 d0 d1 d2 d3
    refine (HRs.out w7 HB7.out).mono ?_
    rintro x w8 hC
    rcases hC with ⟨he', -⟩ | ⟨-, A8, n8, c8, v8, ys8, rfl, ho8, -, hl8, hg8, hb8⟩
    · exact absurd he he'
    obtain ⟨Ah, ch, rfl, -, -, hgr8⟩ := hg8.rd fU
    rw [hgn] at hgr8 ⊢
    have HB8 := Lib.hid (HB7.out.trans (hb8.mono HB7.out.size))
    have h48 : Below w4.heap.size w4 w8 := HX7.out.2.trans (hb8.mono HX7.out.2.size)
    have h89 : Below w8.heap.size w8 (w8.alloc (.cells #[.string S', .int .u32 (E' : Nat), .int .u32 (C.X : Nat), .slice A8 n8 c8] 25)) := (Below.refl _ _).alloc (Nat.le_refl _) _
    have hx9 : (w8.alloc (.cells #[.string S', .int .u32 (E' : Nat), .int .u32 (C.X : Nat), .slice A8 n8 c8] 25)).heap[w4.heap.size]? = some (.cells #[.string S', .int .u32 (E' : Nat), .int .u32 (C.X : Nat), .slice A4 n4 c4] 25 (0, 0)) := by
      have hlt := (Array.getElem?_eq_some_iff.1 HX7.out.1).1
      rw [heap_alloc_old _ _ (Nat.lt_of_lt_of_le hlt hb8.size), hb8.block _ hlt]
      exact HX7.out.1
    have HB9 := Lib.hid (HB8.out.alloc HB8.out.size (.cells #[.string S', .int .u32 (E' : Nat), .int .u32 (C.X : Nat), .slice A8 n8 c8] 25))
    have HSB := Lib.hid (sameBox_any (w8.alloc (.cells #[.string S', .int .u32 (E' : Nat), .int .u32 (C.X : Nat), .slice A8 n8 c8] 25)) S' S' E' C.X E' C.X A4 A8 n4 c4 n8 c8 ys4 ys8 ((own_rd HO4.out).1.below (h48.trans (h89.mono h48.size))) (ho8.below h89) (by
      have h1 := (own_rd HO4.out).1.1
      have h2 := (right_parts HGG.out.r).2.2.2.1
      rw [← HL4.out, nts_len] at h2
      omega))
    rw [HL4.out, hl8, sameB_self] at HSB
    have HG9 := Lib.hid (HG4.out.below (h48.trans (h89.mono h48.size)))
    have HH9 := Lib.hid (hgr8.below h89)
    have HZ9 := Lib.hid (heap_alloc_new w8 (.cells #[.string S', .int .u32 (E' : Nat), .int .u32 (C.X : Nat), .slice A8 n8 c8] 25))
    have x0 := cell_at hx9 0 _ rfl
    have x1 := cell_at hx9 1 _ rfl
    have x2 := cell_at hx9 2 _ rfl
    have x3 := cell_at hx9 3 _ rfl
    have hgn' : gn ≤ 60000 := by
      have h1 := HGG.out.g
      have h2 := (right_parts HGG.out.r).2.2.2.1
      omega
    clear hb8 h48 h89 hx9 ho8 hl8 hg8 hgr8
    go_wp2_with fail
    clear x0 x1 x2 x3
    generalize w8.alloc (.cells #[.string S', .int .u32 (E' : Nat), .int .u32 (C.X : Nat), .slice A8 n8 c8] 25) = w9 at *
    refine HSB.out.mono ?_
    rintro x w10 ⟨rfl, hb10⟩
    have HB10 := Lib.hid (show Below w9.heap.size w9 w10 from hb10)
    clear hb10
    go_wp2_with fail
    go_loopw [77] (fun i wr => ∃ k : Nat, k ≤ gn ∧ i = .int .i64 k ∧ Hid (Below w9.heap.size w9 wr)) (fun i _ => gn - (intOf i).toNat)
    case atStart => exact ⟨0, Nat.zero_le _, rfl, HB10⟩
    case round =>
      obtain ⟨k, hk, rfl, HB⟩ := hrel
      by_cases hlt : k < gn
      · obtain ⟨b1, o1, u1, rfl, hu1, e1⟩ := atU (HG9.out.below HB.out) k hlt
        obtain ⟨b2, o2, u2, rfl, hu2, e2⟩ := atU (HH9.out.below HB.out) k hlt
        rw [hu1] at hu2
        cases hu2
        have hux : decide (u1 < X') = false := decide_eq_false (by have := HGG.out.m u1 (List.mem_of_getElem? hu1); omega)
        have HC1 := Lib.hid (fun (w' : World) (h : Below wr.heap.size wr w') => (h.cell (p := ⟨b1, o1 + k, none⟩) (block_lt_of_cell e1)).trans e1)
        have HC2 := Lib.hid (fun (w' : World) (h : Below wr.heap.size wr w') => (h.cell (p := ⟨b2, o2 + k, none⟩) (block_lt_of_cell e2)).trans e2)
        have HST := Lib.hid (show Below wr.heap.size wr wr.drew from codec.below_draws (Below.refl _ _) 1)
        have hlt' : (k : Int) < (gn : Int) := by omega
        clear hu1 e1 e2
        go_wp2_with fail
        refine wp_region_noPanic ?_
        refine wp_region_held_drew (S := fun w' => Below wr.heap.size wr w') (by kernel_rfl) HST.out (fun hHeld => ?_)
        refine wpAnyH_take (i := 0) (v := ?_) rfl (by kernel_rfl) (by kernel_rfl) (by kernel_rfl) (fun _ _ _ h => h) (Or.inl ⟨by kernel_rfl, ?_⟩) hHeld ?_
        rotate_left
        · (intro w' hw'; go_simp; first | done | with_reducible rfl)
        refine wpAnyH_take (i := 1) (v := ?_) rfl (by kernel_rfl) (by kernel_rfl) (by kernel_rfl) (fun _ _ _ h => h) (Or.inl ⟨by kernel_rfl, ?_⟩) hHeld ?_
        rotate_left
        · (intro w' hw'; go_simp; first | done | with_reducible rfl)
        refine wpAnyH_take (i := 2) (v := ?_) rfl (by kernel_rfl) (by kernel_rfl) (by kernel_rfl) (fun _ _ _ h => h) (Or.inl ⟨by kernel_rfl, ?_⟩) hHeld ?_
        rotate_left
        · (intro w' hw'; go_simp; first | done | with_reducible rfl)
        refine wpAnyH_take (i := 3) (v := ?_) rfl (by kernel_rfl) (by kernel_rfl) (by kernel_rfl) (fun _ _ _ h => h) (Or.inl ⟨by kernel_rfl, ?_⟩) hHeld ?_
        rotate_left
        · (intro w' hw'; have l0 := HC1.out w' hw'; go_simp; first | done | with_reducible rfl)
        refine wpAnyH_take (i := 4) (v := ?_) rfl (by kernel_rfl) (by kernel_rfl) (by kernel_rfl) (fun _ _ _ h => h) (Or.inl ⟨by kernel_rfl, ?_⟩) hHeld ?_
        rotate_left
        · (intro w' hw'; go_simp; first | done | with_reducible rfl)
        refine wpAnyH_take (i := 5) (v := ?_) rfl (by kernel_rfl) (by kernel_rfl) (by kernel_rfl) (fun _ _ _ h => h) (Or.inl ⟨by kernel_rfl, ?_⟩) hHeld ?_
        rotate_left
        · (intro w' hw'; go_simp; first | done | with_reducible rfl)
        refine wpAnyH_take (i := 6) (v := ?_) rfl (by kernel_rfl) (by kernel_rfl) (by kernel_rfl) (fun _ _ _ h => h) (Or.inl ⟨by kernel_rfl, ?_⟩) hHeld ?_
        rotate_left
        · (intro w' hw'; go_simp; first | done | with_reducible rfl)
        refine wpAnyH_take (i := 7) (v := ?_) rfl (by kernel_rfl) (by kernel_rfl) (by kernel_rfl) (fun _ _ _ h => h) (Or.inl ⟨by kernel_rfl, ?_⟩) hHeld ?_
        rotate_left
        · (intro w' hw'; have l0 := HC2.out w' hw'; go_simp; first | done | with_reducible rfl)
        refine wpAnyH_take (i := 8) (v := ?_) rfl (by kernel_rfl) (by kernel_rfl) (by kernel_rfl) (fun _ _ _ h => h) (Or.inl ⟨by kernel_rfl, ?_⟩) hHeld ?_
        rotate_left
        · (intro w' hw'; go_simp; first | done | with_reducible rfl)
        refine wpAnyH_take (i := 9) (v := ?_) rfl (by kernel_rfl) (by kernel_rfl) (by kernel_rfl) (fun _ _ _ h => h) (Or.inl ⟨by kernel_rfl, ?_⟩) hHeld ?_
        rotate_left
        · (intro w' hw'; go_simp; first | done | with_reducible rfl)
        refine wpAnyH_take (i := 10) (v := ?_) rfl (by kernel_rfl) (by kernel_rfl) (by kernel_rfl) (fun _ _ _ h => h) (Or.inl ⟨by kernel_rfl, ?_⟩) hHeld ?_
        rotate_left
        · (intro w' hw'; go_simp; first | done | with_reducible rfl)
        refine wpAnyH_take (i := 11) (v := ?_) rfl (by kernel_rfl) (by kernel_rfl) (by kernel_rfl) (fun _ _ _ h => h) (Or.inl ⟨by kernel_rfl, ?_⟩) hHeld ?_
        rotate_left
        · (intro w' hw'; go_simp; first | done | with_reducible rfl)
        refine wpAnyH_take (i := 12) (v := ?_) rfl (by kernel_rfl) (by kernel_rfl) (by kernel_rfl) (fun _ _ _ h => h) (Or.inl ⟨by kernel_rfl, ?_⟩) hHeld ?_
        rotate_left
        · (intro w' hw'; go_simp; first | done | with_reducible rfl)
        refine wpAnyH_take (i := 13) (v := ?_) rfl (by kernel_rfl) (by kernel_rfl) (by kernel_rfl) (fun _ _ _ h => h) (Or.inl ⟨by kernel_rfl, ?_⟩) hHeld ?_
        rotate_left
        · (intro w' hw'; have l0 := HC1.out w' hw'; go_simp; first | done | with_reducible rfl)
        refine wpAnyH_take (i := 14) (v := ?_) rfl (by kernel_rfl) (by kernel_rfl) (by kernel_rfl) (fun _ _ _ h => h) (Or.inl ⟨by kernel_rfl, ?_⟩) hHeld ?_
        rotate_left
        · (intro w' hw'; go_simp; first | done | with_reducible rfl)
        refine wpAnyH_take (i := 15) (v := ?_) rfl (by kernel_rfl) (by kernel_rfl) (by kernel_rfl) (fun _ _ _ h => h) (Or.inl ⟨by kernel_rfl, ?_⟩) hHeld ?_
        rotate_left
        · (intro w' hw'; have n2 := cell_at (HP2.out _ (HB9.out.trans ((HB.out.trans (hw'.mono HB.out.size)).mono HB9.out.size))) 2 _ rfl; go_simp; first | done | with_reducible rfl)
        refine wpAnyH_take (i := 16) (v := ?_) rfl (by kernel_rfl) (by kernel_rfl) (by kernel_rfl) (fun _ _ _ h => h) (Or.inl ⟨by kernel_rfl, ?_⟩) hHeld ?_
        rotate_left
        · (intro w' hw'; go_simp; first | done | with_reducible rfl)
        refine wpAnyH_take (i := 17) (v := ?_) rfl (by kernel_rfl) (by kernel_rfl) (by kernel_rfl) (fun _ _ _ h => h) (Or.inl ⟨by kernel_rfl, ?_⟩) hHeld ?_
        rotate_left
        · (intro w' hw'; go_simp; first | done | with_reducible rfl)
        refine wpAnyH_done (by kernel_rfl) ?_ _
        refine NoPanic.normal ?_
        go_simp
        have HN := Lib.hid (HB.out.trans (hHeld.mono HB.out.size))
        clear hHeld
        go_wp2_with fail
        go_roundw
        case rel => first | exact ⟨k + 1, by omega, by go_num, HN⟩ | ((repeat apply Exists.intro); exact ⟨⟨k + 1, by omega, by go_num, HN⟩, rfl⟩)
        case measure => (show gn - ((k : Int) + 1).toNat < gn - k; omega)
      · obtain rfl : k = gn := by omega
        go_wp2_with fail
        go_ret
        exact ⟨rfl, HBW.out.trans ((HB9.out.trans (HB.out.mono HB9.out.size)).mono HBW.out.size)⟩
theorem copies_walk (W : World) (S S' : ByteArray) (E X E' X' : Nat) (A A' : Option Addr) (n c n' c' : Nat) (qs zs : List Y) (B : Option Addr) (q dd : Nat) (U : List Nat) (hR : Rd cM 4 W A n qs) (hR' : Rd cM 4 W A' n' zs) (hA' : A' = none → c' = 0) (hX' : X' < 4294967296) (hn : n ≤ 140737488355328) (hS : S.size ≤ 140737488355328) (hm : ∀ y ∈ qs, y.m ≤ 140737488355328) (hn' : n' ≤ 140737488355328) (hS' : S'.size ≤ 140737488355328) (hm' : ∀ y ∈ zs, y.m ≤ 140737488355328) (hU : Nums W B q U) (hr : Fit W) :
    Calls Tryd.prog 7 #[.agg #[.string S, .int .u32 (E : Nat), .int .u32 (X : Nat), .slice A n c], .agg #[.string S', .int .u32 (E' : Nat), .int .u32 (X' : Nat), .slice A' n' c'], .slice B q dd] W fun x w' => x = .returned (.bool true) ∧ Below W.heap.size W w' := by
  cases hf : (fewB S (nts qs) && decide (q ≤ 600)) with
  | false => exact copies_many1 W S S' E X E' X' A A' n c n' c' qs zs B q dd U hR hR' hA' hX' hn hS hm hn' hS' hm' hU hr hf
  | true =>
    cases hf' : (fewB S' (nts zs) && decide (0 ≤ 600)) with
    | false => exact copies_many2 W S S' E X E' X' A A' n c n' c' qs zs B q dd U hR hR' hA' hX' hn hS hm hn' hS' hm' hU hr hf hf'
    | true =>
      cases hw : right S E X (nts qs) with
      | false => exact copies_wrong1 W S S' E X E' X' A A' n c n' c' qs zs B q dd U hR hR' hA' hX' hn hS hm hn' hS' hm' hU hr hf hf' hw
      | true =>
        cases hw' : right S' E' X' (nts zs) with
        | false => exact copies_wrong2 W S S' E X E' X' A A' n c n' c' qs zs B q dd U hR hR' hA' hX' hn hS hm hn' hS' hm' hU hr hf hf' hw hw'
        | true => exact copies_good W S S' E X E' X' A A' n c n' c' qs zs B q dd U hR hR' hA' hX' hn hS hm hn' hS' hm' hU hr hf hf' hw hw'
end Go.Proofs.YtepngemlaiffgaaDoor.mal
