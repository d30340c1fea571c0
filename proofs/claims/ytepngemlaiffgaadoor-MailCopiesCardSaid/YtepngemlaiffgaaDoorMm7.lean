/- MailStores. -/
import Derived.Test.YtepngemlaiffgaaDoorMm6
namespace Go.Proofs.YtepngemlaiffgaaDoor.mal
open Go.ChangeShapes Go.WideShapes Go.ChangeAt Go.RowKit
open Go.Proofs.YtepngemlaiffgaaDoor.codec (Bytes vals)
open Go.Proofs.YtepngemlaiffgaaDoor.bod (cell_at Fit boxed named formedB fitsB)
open Go.Proofs.YtepngemlaiffgaaDoor.lg (Nt Y Rd Own Oct cM fM fl fl_at nts nts_at nts_len take_next)
set_option linter.unusedVariables false
set_option maxRecDepth 100000
set_option linter.unusedSimpArgs false

theorem stores_many (W : World) (S : ByteArray) (E X : Nat) (A : Option Addr) (n c : Nat) (qs : List Y) (B : Option Addr) (q dd : Nat) (U : List Nat) (fg how : Int) (hR : Rd cM 4 W A n qs) (hA : A = none → c = 0) (hn : n ≤ 140737488355328) (hS : S.size ≤ 140737488355328) (hm : ∀ y ∈ qs, y.m ≤ 140737488355328) (hU : Nums W B q U) (hr : Fit W) (hf : (fewB S (nts qs) && decide (q ≤ 600)) = false) :
    Calls Tryd.prog 5 #[.agg #[.string S, .int .u32 (E : Nat), .int .u32 (X : Nat), .slice A n c], .slice B q dd, .int .i64 fg, .int .i64 how] W fun x w' => x = .returned (.bool true) ∧ Below W.heap.size W w' := by
  obtain ⟨W1, hW1⟩ : ∃ W1, W1 = W.alloc (.cells #[.string S, .int .u32 (E : Nat), .int .u32 (X : Nat), .slice A n c] 25) := ⟨_, rfl⟩
  have HBW := Lib.hid (show Below W.heap.size W W1 by rw [hW1]; exact (Below.refl _ _).alloc (Nat.le_refl _) _)
  have HP1 := Lib.hid (fun (w' : World) (h : Below W1.heap.size W1 w') => show w'.heap[W.heap.size]? = some (.cells #[.string S, .int .u32 (E : Nat), .int .u32 (X : Nat), .slice A n c] 25 (0, 0)) from (h.block _ (by rw [hW1]; simp)).trans (by rw [hW1]; exact heap_alloc_new _ _))
  have HFit := Lib.hid (fun (w1 : World) (h : Below W1.heap.size W1 w1) => hr.below (HBW.out.trans (h.mono HBW.out.size)))
  have HRA := Lib.hid (fun (w1 : World) (h : Below W1.heap.size W1 w1) => hR.below (HBW.out.trans (h.mono HBW.out.size)))
  have HNu := Lib.hid (fun (w1 : World) (h : Below W1.heap.size W1 w1) => hU.below (HBW.out.trans (h.mono HBW.out.size)))
  have HF1 := Lib.hid (fun (w1 : World) (h : Below W1.heap.size W1 w1) => few2_any w1 S E X A n c qs B q dd (HRA.out w1 h) hn hS hm)
  have HW1 := Lib.hid hW1
  rw [hf] at HF1
  clear hf
  clear hW1 hR hA hn hS hm hU hr
  go_enter Tryd.func5, Tryd.ntmps5
  go_wp2_with fail
  rw [← HW1.out]
  refine (awake_any W1 (HFit.out _ (Below.refl _ _))).mono ?_
  rintro x w1 ⟨rfl, hb1⟩
  have HB1 := Lib.hid hb1
  have c0 := cell_at (HP1.out _ hb1) 0 _ rfl
  have c1 := cell_at (HP1.out _ hb1) 1 _ rfl
  have c2 := cell_at (HP1.out _ hb1) 2 _ rfl
  have c3 := cell_at (HP1.out _ hb1) 3 _ rfl
  clear hb1
  go_wp2_with fail
  clear c0 c1 c2 c3
  refine (HF1.out w1 HB1.out).mono ?_
  rintro x w2 ⟨rfl, hb2⟩
  have HB2 := Lib.hid (HB1.out.trans (hb2.mono HB1.out.size))
  clear hb2
  go_wp2_with fail
  refine (awake_any w2 (HFit.out _ HB2.out)).mono ?_
  rintro x w3 ⟨rfl, hb3⟩
  have HB3 := Lib.hid (HB2.out.trans (hb3.mono HB2.out.size))
  clear hb3
  go_wp2_with fail
  go_ret
  exact ⟨rfl, HBW.out.trans (HB3.out.mono HBW.out.size)⟩
set_option maxHeartbeats 1000000 in
theorem stores_wrong (W : World) (S : ByteArray) (E X : Nat) (A : Option Addr) (n c : Nat) (qs : List Y) (B : Option Addr) (q dd : Nat) (U : List Nat) (fg how : Int) (hR : Rd cM 4 W A n qs) (hA : A = none → c = 0) (hn : n ≤ 140737488355328) (hS : S.size ≤ 140737488355328) (hm : ∀ y ∈ qs, y.m ≤ 140737488355328) (hU : Nums W B q U) (hr : Fit W) (hf : (fewB S (nts qs) && decide (q ≤ 600)) = true) (hw : right S E X (nts qs) = false) :
    Calls Tryd.prog 5 #[.agg #[.string S, .int .u32 (E : Nat), .int .u32 (X : Nat), .slice A n c], .slice B q dd, .int .i64 fg, .int .i64 how] W fun x w' => x = .returned (.bool true) ∧ Below W.heap.size W w' := by
  obtain ⟨hf1, hf2⟩ := Bool.and_eq_true_iff.1 hf
  have hq6 := of_decide_eq_true hf2
  obtain ⟨z1, z2, z3⟩ := fewB_size hf1
  have hn5 : n ≤ 60000 := by rw [nts_len, hR.1] at z2; exact z2
  have hm5 : ∀ y ∈ qs, y.m ≤ 1000000 := fun y hy => by
    have h1 := z3 y.n (List.mem_map.2 ⟨y, hy, rfl⟩)
    have h2 := (rd_oct hR hy).1.1
    omega
  obtain ⟨W1, hW1⟩ : ∃ W1, W1 = W.alloc (.cells #[.string S, .int .u32 (E : Nat), .int .u32 (X : Nat), .slice A n c] 25) := ⟨_, rfl⟩
  have HBW := Lib.hid (show Below W.heap.size W W1 by rw [hW1]; exact (Below.refl _ _).alloc (Nat.le_refl _) _)
  have HP1 := Lib.hid (fun (w' : World) (h : Below W1.heap.size W1 w') => show w'.heap[W.heap.size]? = some (.cells #[.string S, .int .u32 (E : Nat), .int .u32 (X : Nat), .slice A n c] 25 (0, 0)) from (h.block _ (by rw [hW1]; simp)).trans (by rw [hW1]; exact heap_alloc_new _ _))
  have HFit := Lib.hid (fun (w1 : World) (h : Below W1.heap.size W1 w1) => hr.below (HBW.out.trans (h.mono HBW.out.size)))
  have HRA := Lib.hid (fun (w1 : World) (h : Below W1.heap.size W1 w1) => hR.below (HBW.out.trans (h.mono HBW.out.size)))
  have HNu := Lib.hid (fun (w1 : World) (h : Below W1.heap.size W1 w1) => hU.below (HBW.out.trans (h.mono HBW.out.size)))
  have HF1 := Lib.hid (fun (w1 : World) (h : Below W1.heap.size W1 w1) => few2_any w1 S E X A n c qs B q dd (HRA.out w1 h) hn hS hm)
  have HW1 := Lib.hid hW1
  rw [hf] at HF1
  have HAp := Lib.hid (fun (w1 : World) (h : Below W1.heap.size W1 w1) => store_wrong w1 S E X A n c qs B q dd U fg how (HRA.out w1 h) (by omega) (by omega) hm5 (HFit.out w1 h) (HNu.out w1 h) (by omega) hw)
  have HRi := Lib.hid (fun (w1 : World) (h : Below W1.heap.size W1 w1) => rRight_any w1 S E X A n c qs (HRA.out w1 h) (by omega))
  have HRG := Lib.hid hw
  clear hf hf1 hf2 hq6 hw z1 z2 z3 hn5 hm5
  clear hW1 hR hA hn hS hm hU hr
  go_enter Tryd.func5, Tryd.ntmps5
  go_wp2_with fail
  rw [← HW1.out]
  refine (awake_any W1 (HFit.out _ (Below.refl _ _))).mono ?_
  rintro x w1 ⟨rfl, hb1⟩
  have HB1 := Lib.hid hb1
  have c0 := cell_at (HP1.out _ hb1) 0 _ rfl
  have c1 := cell_at (HP1.out _ hb1) 1 _ rfl
  have c2 := cell_at (HP1.out _ hb1) 2 _ rfl
  have c3 := cell_at (HP1.out _ hb1) 3 _ rfl
  clear hb1
  go_wp2_with fail
  clear c0 c1 c2 c3
  refine (HF1.out w1 HB1.out).mono ?_
  rintro x w2 ⟨rfl, hb2⟩
  have HB2 := Lib.hid (HB1.out.trans (hb2.mono HB1.out.size))
  clear hb2
  have c0 := cell_at (HP1.out _ HB2.out) 0 _ rfl
  have c1 := cell_at (HP1.out _ HB2.out) 1 _ rfl
  have c2 := cell_at (HP1.out _ HB2.out) 2 _ rfl
  have c3 := cell_at (HP1.out _ HB2.out) 3 _ rfl
  go_wp2_with fail
  clear c0 c1 c2 c3
  refine (HAp.out w2 HB2.out).mono ?_
  rintro x w3 ⟨rfl, hb3⟩
  have HB3 := Lib.hid (HB2.out.trans (hb3.mono HB2.out.size))
  clear hb3
  have hb4 : Below W1.heap.size W1 (w3.alloc (.cells #[.string ⟨#[]⟩, .int .u32 0, .int .u32 0, .slice none 0 0] 25)) := HB3.out.alloc HB3.out.size _
  have HB4 := Lib.hid hb4
  have HX4 := Lib.hid (fun (w' : World) (h : Below (w3.alloc (.cells #[.string ⟨#[]⟩, .int .u32 0, .int .u32 0, .slice none 0 0] 25)).heap.size (w3.alloc (.cells #[.string ⟨#[]⟩, .int .u32 0, .int .u32 0, .slice none 0 0] 25)) w') => (boxed h).1)
  have k0 := cell_at (HP1.out _ hb4) 0 _ rfl
  have k1 := cell_at (HP1.out _ hb4) 1 _ rfl
  have k2 := cell_at (HP1.out _ hb4) 2 _ rfl
  have k3 := cell_at (HP1.out _ hb4) 3 _ rfl
  clear hb4
  go_wp2_with fail
  clear k0 k1 k2 k3
  refine (HRi.out _ HB4.out).mono ?_
  rw [HRG.out]
  rintro x w5 ⟨rfl, hb5⟩
  have HX5 := Lib.hid (HX4.out _ hb5)
  have HB35 := Lib.hid (show Below w3.heap.size w3 w5 from (boxed hb5).2)
  have HB5 := Lib.hid (HB4.out.trans (hb5.mono HB4.out.size))
  clear hb5
  go_wp2_with fail
  go_ret
  exact ⟨rfl, HBW.out.trans (HB5.out.mono HBW.out.size)⟩
set_option maxHeartbeats 4000000 in
theorem stores_yes (W : World) (S : ByteArray) (E X : Nat) (A : Option Addr) (n c : Nat) (qs : List Y) (B : Option Addr) (q dd : Nat) (U : List Nat) (fg how : Int) (hR : Rd cM 4 W A n qs) (hA : A = none → c = 0) (hn : n ≤ 140737488355328) (hS : S.size ≤ 140737488355328) (hm : ∀ y ∈ qs, y.m ≤ 140737488355328) (hU : Nums W B q U) (hr : Fit W) (hf : (fewB S (nts qs) && decide (q ≤ 600)) = true) (hw : right S E X (nts qs) = true) :
    Calls Tryd.prog 5 #[.agg #[.string S, .int .u32 (E : Nat), .int .u32 (X : Nat), .slice A n c], .slice B q dd, .int .i64 fg, .int .i64 how] W fun x w' => x = .returned (.bool true) ∧ Below W.heap.size W w' := by
  obtain ⟨hf1, hf2⟩ := Bool.and_eq_true_iff.1 hf
  have hq6 := of_decide_eq_true hf2
  obtain ⟨z1, z2, z3⟩ := fewB_size hf1
  have hn5 : n ≤ 60000 := by rw [nts_len, hR.1] at z2; exact z2
  have hm5 : ∀ y ∈ qs, y.m ≤ 1000000 := fun y hy => by
    have h1 := z3 y.n (List.mem_map.2 ⟨y, hy, rfl⟩)
    have h2 := (rd_oct hR hy).1.1
    omega
  obtain ⟨W1, hW1⟩ : ∃ W1, W1 = W.alloc (.cells #[.string S, .int .u32 (E : Nat), .int .u32 (X : Nat), .slice A n c] 25) := ⟨_, rfl⟩
  have HBW := Lib.hid (show Below W.heap.size W W1 by rw [hW1]; exact (Below.refl _ _).alloc (Nat.le_refl _) _)
  have HP1 := Lib.hid (fun (w' : World) (h : Below W1.heap.size W1 w') => show w'.heap[W.heap.size]? = some (.cells #[.string S, .int .u32 (E : Nat), .int .u32 (X : Nat), .slice A n c] 25 (0, 0)) from (h.block _ (by rw [hW1]; simp)).trans (by rw [hW1]; exact heap_alloc_new _ _))
  have HFit := Lib.hid (fun (w1 : World) (h : Below W1.heap.size W1 w1) => hr.below (HBW.out.trans (h.mono HBW.out.size)))
  have HRA := Lib.hid (fun (w1 : World) (h : Below W1.heap.size W1 w1) => hR.below (HBW.out.trans (h.mono HBW.out.size)))
  have HNu := Lib.hid (fun (w1 : World) (h : Below W1.heap.size W1 w1) => hU.below (HBW.out.trans (h.mono HBW.out.size)))
  have HF1 := Lib.hid (fun (w1 : World) (h : Below W1.heap.size W1 w1) => few2_any w1 S E X A n c qs B q dd (HRA.out w1 h) hn hS hm)
  have HW1 := Lib.hid hW1
  rw [hf] at HF1
  have HAp := Lib.hid (fun (w1 : World) (h : Below W1.heap.size W1 w1) => store_yes w1 S E X A n c qs B q dd U fg how (HRA.out w1 h) (by omega) (by omega) hm5 (HFit.out w1 h) (HNu.out w1 h) (by omega) hw)
  have HRi := Lib.hid (fun (w1 : World) (h : Below W1.heap.size W1 w1) => rRight_any w1 S E X A n c qs (HRA.out w1 h) (by omega))
  have HRs := Lib.hid (fun (w1 : World) (h : Below W1.heap.size W1 w1) => rstore_any w1 S E X A n c qs B q dd U fg how (HRA.out w1 h) hA (by omega) (HNu.out w1 h) (by omega))
  have HRG := Lib.hid hw
  have HRG2 := Lib.hid (right_store U fg how hw)
  have HSZ := Lib.hid z1
  have HNL := Lib.hid hn5
  have HLq := Lib.hid hR.1
  clear hf hf1 hf2 hq6 hw z1 z2 z3 hn5 hm5
  clear hW1 hR hA hn hS hm hU hr
  go_enter Tryd.func5, Tryd.ntmps5
  go_wp2_with fail
  rw [← HW1.out]
  refine (awake_any W1 (HFit.out _ (Below.refl _ _))).mono ?_
  rintro x w1 ⟨rfl, hb1⟩
  have HB1 := Lib.hid hb1
  have c0 := cell_at (HP1.out _ hb1) 0 _ rfl
  have c1 := cell_at (HP1.out _ hb1) 1 _ rfl
  have c2 := cell_at (HP1.out _ hb1) 2 _ rfl
  have c3 := cell_at (HP1.out _ hb1) 3 _ rfl
  clear hb1
  go_wp2_with fail
  clear c0 c1 c2 c3
  refine (HF1.out w1 HB1.out).mono ?_
  rintro x w2 ⟨rfl, hb2⟩
  have HB2 := Lib.hid (HB1.out.trans (hb2.mono HB1.out.size))
  clear hb2
  have c0 := cell_at (HP1.out _ HB2.out) 0 _ rfl
  have c1 := cell_at (HP1.out _ HB2.out) 1 _ rfl
  have c2 := cell_at (HP1.out _ HB2.out) 2 _ rfl
  have c3 := cell_at (HP1.out _ HB2.out) 3 _ rfl
  go_wp2_with fail
  clear c0 c1 c2 c3
  refine (HAp.out w2 HB2.out).mono ?_
  rintro x w3 ⟨A3, c3, ys3, rfl, ho3, hl3, hb3⟩
  have HB3 := Lib.hid (HB2.out.trans (hb3.mono HB2.out.size))
  have HO3 := Lib.hid ho3
  have HL3 := Lib.hid hl3
  clear hb3 ho3 hl3
  have hb4 : Below W1.heap.size W1 (w3.alloc (.cells #[.string S, .int .u32 (E : Nat), .int .u32 (X : Nat), .slice A3 n c3] 25)) := HB3.out.alloc HB3.out.size _
  have HB4 := Lib.hid hb4
  have HX4 := Lib.hid (fun (w' : World) (h : Below (w3.alloc (.cells #[.string S, .int .u32 (E : Nat), .int .u32 (X : Nat), .slice A3 n c3] 25)).heap.size (w3.alloc (.cells #[.string S, .int .u32 (E : Nat), .int .u32 (X : Nat), .slice A3 n c3] 25)) w') => (boxed h).1)
  have k0 := cell_at (HP1.out _ hb4) 0 _ rfl
  have k1 := cell_at (HP1.out _ hb4) 1 _ rfl
  have k2 := cell_at (HP1.out _ hb4) 2 _ rfl
  have k3 := cell_at (HP1.out _ hb4) 3 _ rfl
  clear hb4
  go_wp2_with fail
  clear k0 k1 k2 k3
  refine (HRi.out _ HB4.out).mono ?_
  rw [HRG.out]
  rintro x w5 ⟨rfl, hb5⟩
  have HX5 := Lib.hid (HX4.out _ hb5)
  have HB35 := Lib.hid (show Below w3.heap.size w3 w5 from (boxed hb5).2)
  have HB5 := Lib.hid (HB4.out.trans (hb5.mono HB4.out.size))
  clear hb5
  have HST := Lib.hid (show Below w5.heap.size w5 w5.drew from codec.below_draws (Below.refl _ _) 1)
  go_wp2_with fail
  refine wp_region_noPanic ?_
  refine wp_region_held_drew (S := fun w' => Below w5.heap.size w5 w') (by kernel_rfl) HST.out (fun hHeld => ?_)
  refine wpAnyH_take (i := 0) (v := ?_) rfl (by kernel_rfl) (by kernel_rfl) (by kernel_rfl) (fun _ _ _ h => h) (Or.inl ⟨by kernel_rfl, ?_⟩) hHeld ?_
  rotate_left
  · (intro w' hw'; go_simp; first | done | with_reducible rfl)
  refine wpAnyH_take (i := 1) (v := ?_) rfl (by kernel_rfl) (by kernel_rfl) (by kernel_rfl) (fun _ _ _ h => h) (Or.inl ⟨by kernel_rfl, ?_⟩) hHeld ?_
  rotate_left
  · (intro w' hw'; go_simp; first | done | with_reducible rfl)
  refine wpAnyH_take (i := 2) (v := ?_) rfl (by kernel_rfl) (by kernel_rfl) (by kernel_rfl) (fun _ _ _ h => h) (Or.inl ⟨by kernel_rfl, ?_⟩) hHeld ?_
  rotate_left
  · (intro w' hw'; go_simp; first | done | with_reducible rfl)
  refine wpAnyH_take (i := 3) (v := ?_) rfl (by kernel_rfl) (by kernel_rfl) (by kernel_rfl) (fun _ _ _ h => h) (Or.inl ⟨by kernel_rfl, ?_⟩) hHeld ?_
  rotate_left
  · (intro w' hw'; have xh := (hw'.block _ (Array.getElem?_eq_some_iff.1 HX5.out).1).trans HX5.out; have x0 := cell_at xh 0 _ rfl; have x1 := cell_at xh 1 _ rfl; have x2 := cell_at xh 2 _ rfl; have x3 := cell_at xh 3 _ rfl; go_simp; first | done | with_reducible rfl)
  refine wpAnyH_take (i := 4) (v := ?_) rfl (by kernel_rfl) (by kernel_rfl) (by kernel_rfl) (fun _ _ _ h => h) (Or.inl ⟨by kernel_rfl, ?_⟩) hHeld ?_
  rotate_left
  · (intro w' hw'; have bh := HP1.out _ (HB5.out.trans (hw'.mono HB5.out.size)); have b0 := cell_at bh 0 _ rfl; have b1 := cell_at bh 1 _ rfl; have b2 := cell_at bh 2 _ rfl; have b3 := cell_at bh 3 _ rfl; go_simp; first | done | with_reducible rfl)
  refine wpAnyH_take (i := 5) (v := ?_) rfl (by kernel_rfl) (by kernel_rfl) (by kernel_rfl) (fun _ _ _ h => h) (Or.inl ⟨by kernel_rfl, ?_⟩) hHeld ?_
  rotate_left
  · (intro w' hw'; go_simp; first | done | with_reducible rfl)
  refine wpAnyH_take (i := 6) (v := ?_) rfl (by kernel_rfl) (by kernel_rfl) (by kernel_rfl) (fun _ _ _ h => h) (Or.inl ⟨by kernel_rfl, ?_⟩) hHeld ?_
  rotate_left
  · (intro w' hw'; go_simp; first | done | with_reducible rfl)
  refine wpAnyH_take (i := 7) (v := ?_) rfl (by kernel_rfl) (by kernel_rfl) (by kernel_rfl) (fun _ _ _ h => h) (Or.inl ⟨by kernel_rfl, ?_⟩) hHeld ?_
  rotate_left
  · (intro w' hw'; go_simp; first | done | with_reducible rfl)
  refine wpAnyH_ready (rs := [8]) (by kernel_rfl) (by simp) ?_
  refine AllReadyH.cons rfl (fun K hK => ?_) AllReadyH.nil
  go_simp
  refine (HRs.out _ (HB5.out.trans (hHeld.mono HB5.out.size))).mono ?_
  rintro x w6 ⟨A6, c6, ys6, rfl, ho6, hl6, hb6⟩
  have hS6 := hHeld.trans (hb6.mono hHeld.size)
  have HO6 := Lib.hid ho6
  have HL6 := Lib.hid hl6
  clear hb6 ho6 hl6
  go_wp2_with fail
  refine hK.out _ _ hS6 (fun hH1 => ?_)
  clear hK K hHeld
  have HSB := Lib.hid (sameBox_any w6 S S E X E X A3 A6 n c3 n c6 ys3 ys6 ((own_rd HO3.out).1.below (HB35.out.trans (hS6.mono HB35.out.size))) (own_rd HO6.out).1 (by have := HNL.out; omega))
  rw [HL3.out, HL6.out, sameB_self] at HSB
  refine wpAnyH_ready (rs := [9]) (by kernel_rfl) (by simp) ?_
  refine AllReadyH.cons rfl (fun K hK => ?_) AllReadyH.nil
  go_simp
  refine HSB.out.mono ?_
  rintro x w7 ⟨rfl, hb7⟩
  have hS7 := hS6.trans (hb7.mono hS6.size)
  clear hb7
  go_wp2_with fail
  refine hK.out _ _ hS7 (fun hH2 => ?_)
  clear hK K hH1
  refine wpAnyH_take (i := 10) (v := ?_) rfl (by kernel_rfl) (by kernel_rfl) (by kernel_rfl) (fun _ _ _ h => h) (Or.inl ⟨by kernel_rfl, ?_⟩) hH2 ?_
  rotate_left
  · (intro w' hw'; go_simp; first | done | with_reducible rfl)
  refine wpAnyH_take (i := 11) (v := ?_) rfl (by kernel_rfl) (by kernel_rfl) (by kernel_rfl) (fun _ _ _ h => h) (Or.inl ⟨by kernel_rfl, ?_⟩) hH2 ?_
  rotate_left
  · (intro w' hw'; go_simp; first | done | with_reducible rfl)
  refine wpAnyH_take (i := 12) (v := ?_) rfl (by kernel_rfl) (by kernel_rfl) (by kernel_rfl) (fun _ _ _ h => h) (Or.inl ⟨by kernel_rfl, ?_⟩) hH2 ?_
  rotate_left
  · (intro w' hw'; have xh := (hw'.block _ (Array.getElem?_eq_some_iff.1 HX5.out).1).trans HX5.out; have x0 := cell_at xh 0 _ rfl; have x1 := cell_at xh 1 _ rfl; have x2 := cell_at xh 2 _ rfl; have x3 := cell_at xh 3 _ rfl; go_simp; first | done | with_reducible rfl)
  have HRR := Lib.hid (rRight_any w7 S E X A3 n c3 ys3 ((own_rd HO3.out).1.below (HB35.out.trans (hS7.mono HB35.out.size))) (by have := HSZ.out; omega))
  rw [HL3.out, HRG2.out] at HRR
  refine wpAnyH_ready (rs := [13]) (by kernel_rfl) (by simp) ?_
  refine AllReadyH.cons rfl (fun K hK => ?_) AllReadyH.nil
  go_simp
  refine HRR.out.mono ?_
  rintro x w8 ⟨rfl, hb8⟩
  have hS8 := hS7.trans (hb8.mono hS7.size)
  clear hb8
  go_wp2_with fail
  refine hK.out _ _ hS8 (fun hH3 => ?_)
  clear hK K hH2
  refine wpAnyH_take (i := 14) (v := ?_) rfl (by kernel_rfl) (by kernel_rfl) (by kernel_rfl) (fun _ _ _ h => h) (Or.inl ⟨by kernel_rfl, ?_⟩) hH3 ?_
  rotate_left
  · (intro w' hw'; go_simp; first | done | with_reducible rfl)
  refine wpAnyH_take (i := 15) (v := ?_) rfl (by kernel_rfl) (by kernel_rfl) (by kernel_rfl) (fun _ _ _ h => h) (Or.inl ⟨by kernel_rfl, ?_⟩) hH3 ?_
  rotate_left
  · (intro w' hw'; go_simp; first | done | with_reducible rfl)
  refine wpAnyH_done (by kernel_rfl) ?_ _
  refine NoPanic.normal ?_
  go_simp
  go_wp2_with fail
  go_ret
  exact ⟨rfl, HBW.out.trans ((HB5.out.trans (hS8.mono HB5.out.size)).mono HBW.out.size)⟩
theorem stores_walk (W : World) (S : ByteArray) (E X : Nat) (A : Option Addr) (n c : Nat) (qs : List Y) (B : Option Addr) (q dd : Nat) (U : List Nat) (fg how : Int) (hR : Rd cM 4 W A n qs) (hA : A = none → c = 0) (hn : n ≤ 140737488355328) (hS : S.size ≤ 140737488355328) (hm : ∀ y ∈ qs, y.m ≤ 140737488355328) (hU : Nums W B q U) (hr : Fit W) :
    Calls Tryd.prog 5 #[.agg #[.string S, .int .u32 (E : Nat), .int .u32 (X : Nat), .slice A n c], .slice B q dd, .int .i64 fg, .int .i64 how] W fun x w' => x = .returned (.bool true) ∧ Below W.heap.size W w' := by
  cases hf : (fewB S (nts qs) && decide (q ≤ 600)) with
  | false => exact stores_many W S E X A n c qs B q dd U fg how hR hA hn hS hm hU hr hf
  | true =>
    cases hw : right S E X (nts qs) with
    | false => exact stores_wrong W S E X A n c qs B q dd U fg how hR hA hn hS hm hU hr hf hw
    | true => exact stores_yes W S E X A n c qs B q dd U fg how hR hA hn hS hm hU hr hf hw
end Go.Proofs.YtepngemlaiffgaaDoor.mal
