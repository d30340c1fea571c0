/- MailExpunges. -/
import Derived.Test.YtepngemlaiffgaaDoorMm8
namespace Go.Proofs.YtepngemlaiffgaaDoor.mal
open Go.ChangeShapes Go.WideShapes Go.ChangeAt Go.RowKit
open Go.Proofs.YtepngemlaiffgaaDoor.codec (Bytes vals)
open Go.Proofs.YtepngemlaiffgaaDoor.bod (cell_at Fit boxed named formedB fitsB)
open Go.Proofs.YtepngemlaiffgaaDoor.lg (Nt Y Rd Own Oct cM fM fl fl_at nts nts_at nts_len take_next)
set_option linter.unusedVariables false
set_option maxRecDepth 100000
set_option linter.unusedSimpArgs false

theorem atU {w : World} {A : Option Addr} {n : Nat} {ys : List Nat} (h : row.Rd cU 1 w A n ys) (k : Nat) (hk : k < n) : ∃ b o y, A = some ⟨b, o, none⟩ ∧ ys[k]? = some y ∧ w.cell? ⟨b, o + k, none⟩ = some (.int .u32 (y : Nat)) := by
  obtain ⟨b, o, y, h1, h2, h3⟩ := h.2 k hk
  exact ⟨b, o, y, h1, h2, by have := h3 0 _ rfl; simpa using this⟩
theorem expunge_yes (W : World) (S : ByteArray) (E X : Nat) (A : Option Addr) (n c : Nat) (qs : List Y) (B : Option Addr) (q dd : Nat) (U : List Nat) (hR : Rd cM 4 W A n qs) (hn : n ≤ 1000000) (hs : S.size ≤ 100000) (hm : ∀ y ∈ qs, y.m ≤ 1000000) (hr : Fit W) (hU : Nums W B q U) (hq : q ≤ 1000000) (al : Bool) (hw : right S E X (nts qs) = true) :
    Calls Tryd.prog 21 #[.agg #[.string S, .int .u32 (E : Nat), .int .u32 (X : Nat), .slice A n c], .slice B q dd, .bool al] W fun x w' => ∃ A' n' c' vg ls, x = .returned (.tuple #[.agg #[.string S, .int .u32 (E : Nat), .int .u32 (X : Nat), .slice A' n' c'], vg, .int .i64 0]) ∧ Own cM 4 W.heap.size 30 w' (.slice A' n' c') ls ∧ nts ls = left (outP al U) (nts qs) ∧ row.Own cU 1 W.heap.size 22 w' vg (gone (outP al U) (nts qs)) ∧ Below W.heap.size W w' := by
  cases al
  · exact expunge_some W S E X A n c qs B q dd U hR hn hs hm hr hU hq hw
  · exact expunge_all W S E X A n c qs B q dd U hR hn hs hm hr hU hq hw
theorem rexpunge_any (W : World) (S : ByteArray) (E X : Nat) (A : Option Addr) (n c : Nat) (qs : List Y) (B : Option Addr) (q dd : Nat) (U : List Nat) (hR : Rd cM 4 W A n qs) (hn : n ≤ 1000000) (hU : Nums W B q U) (hq : q ≤ 1000000) (al : Bool) :
    Calls Tryd.prog 22 #[.agg #[.string S, .int .u32 (E : Nat), .int .u32 (X : Nat), .slice A n c], .slice B q dd, .bool al] W fun x w' => ∃ A' n' c' vg ls, x = .returned (.tuple #[.agg #[.string S, .int .u32 (E : Nat), .int .u32 (X : Nat), .slice A' n' c'], vg]) ∧ Own cM 4 W.heap.size 30 w' (.slice A' n' c') ls ∧ nts ls = left (outP al U) (nts qs) ∧ row.Own cU 1 W.heap.size 22 w' vg (gone (outP al U) (nts qs)) ∧ Below W.heap.size W w' := by
  cases al
  · exact rexpunge_some W S E X A n c qs B q dd U hR hn hU hq
  · exact rexpunge_all W S E X A n c qs B q dd U hR hn hU hq
theorem expunges_many (W : World) (S : ByteArray) (E X : Nat) (A : Option Addr) (n c : Nat) (qs : List Y) (B : Option Addr) (q dd : Nat) (U : List Nat) (al : Bool) (hR : Rd cM 4 W A n qs) (hA : A = none → c = 0) (hn : n ≤ 140737488355328) (hS : S.size ≤ 140737488355328) (hm : ∀ y ∈ qs, y.m ≤ 140737488355328) (hU : Nums W B q U) (hr : Fit W) (hf : (fewB S (nts qs) && decide (q ≤ 600)) = false) :
    Calls Tryd.prog 6 #[.agg #[.string S, .int .u32 (E : Nat), .int .u32 (X : Nat), .slice A n c], .slice B q dd, .bool al] W fun x w' => x = .returned (.bool true) ∧ Below W.heap.size W w' := by
  obtain ⟨W1, hW1⟩ : ∃ W1, W1 = W.alloc (.cells #[.string S, .int .u32 (E : Nat), .int .u32 (X : Nat), .slice A n c] 25) := ⟨_, rfl⟩
  have HBW := Lib.hid (show Below W.heap.size W W1 by rw [hW1]; exact (Below.refl _ _).alloc (Nat.le_refl _) _)
  have HP1 := Lib.hid (fun (w' : World) (h : Below W1.heap.size W1 w') => show w'.heap[W.heap.size]? = some (.cells #[.string S, .int .u32 (E : Nat), .int .u32 (X : Nat), .slice A n c] 25 (0, 0)) from (h.block _ (by rw [hW1]; simp)).trans (by rw [hW1]; exact heap_alloc_new _ _))
  have HFit := Lib.hid (fun (w1 : World) (h : Below W1.heap.size W1 w1) => hr.below (HBW.out.trans (h.mono HBW.out.size)))
  have HRA := Lib.hid (fun (w1 : World) (h : Below W1.heap.size W1 w1) => hR.below (HBW.out.trans (h.mono HBW.out.size)))
  have HNu := Lib.hid (fun (w1 : World) (h : Below W1.heap.size W1 w1) => hU.below (HBW.out.trans (h.mono HBW.out.size)))
  have HF1 := Lib.hid (fun (w1 : World) (h : Below W1.heap.size W1 w1) => few2_any w1 S E X A n c qs B q dd (HRA.out w1 h) hn hS hm)
  have HW1 := Lib.hid hW1
  rw [hf] at HF1
  clear hf
  clear hW1 hR hA hn hS hm hU hr
  go_enter Tryd.func6, Tryd.ntmps6
  go_wp2_with fail
  rw [← HW1.out]
  refine (awake_any W1 (HFit.out _ (Below.refl _ _))).mono ?_
  rintro x w1 ⟨rfl, hb1⟩
  have HB1 := Lib.hid hb1
  have c0 := cell_at (HP1.out _ hb1) 0 _ rfl
  have c1 := cell_at (HP1.out _ hb1) 1 _ rfl
  have c2 := cell_at (HP1.out _ hb1) 2 _ rfl
  have c3 := cell_at (HP1.out _ hb1) 3 _ rfl
  clear hb1
  go_wp2_with fail
  clear c0 c1 c2 c3
  refine (HF1.out w1 HB1.out).mono ?_
  rintro x w2 ⟨rfl, hb2⟩
  have HB2 := Lib.hid (HB1.out.trans (hb2.mono HB1.out.size))
  clear hb2
  go_wp2_with fail
  refine (awake_any w2 (HFit.out _ HB2.out)).mono ?_
  rintro x w3 ⟨rfl, hb3⟩
  have HB3 := Lib.hid (HB2.out.trans (hb3.mono HB2.out.size))
  clear hb3
  go_wp2_with fail
  go_ret
  exact ⟨rfl, HBW.out.trans (HB3.out.mono HBW.out.size)⟩
set_option maxHeartbeats 1000000 in
theorem expunges_wrong (W : World) (S : ByteArray) (E X : Nat) (A : Option Addr) (n c : Nat) (qs : List Y) (B : Option Addr) (q dd : Nat) (U : List Nat) (al : Bool) (hR : Rd cM 4 W A n qs) (hA : A = none → c = 0) (hn : n ≤ 140737488355328) (hS : S.size ≤ 140737488355328) (hm : ∀ y ∈ qs, y.m ≤ 140737488355328) (hU : Nums W B q U) (hr : Fit W) (hf : (fewB S (nts qs) && decide (q ≤ 600)) = true) (hw : right S E X (nts qs) = false) :
    Calls Tryd.prog 6 #[.agg #[.string S, .int .u32 (E : Nat), .int .u32 (X : Nat), .slice A n c], .slice B q dd, .bool al] W fun x w' => x = .returned (.bool true) ∧ Below W.heap.size W w' := by
  obtain ⟨hf1, hf2⟩ := Bool.and_eq_true_iff.1 hf
  have hq6 := of_decide_eq_true hf2
  obtain ⟨z1, z2, z3⟩ := fewB_size hf1
  have hn5 : n ≤ 60000 := by rw [nts_len, hR.1] at z2; exact z2
  have hm5 : ∀ y ∈ qs, y.m ≤ 1000000 := fun y hy => by
    have h1 := z3 y.n (List.mem_map.2 ⟨y, hy, rfl⟩)
    have h2 := (rd_oct hR hy).1.1
    omega
  obtain ⟨W1, hW1⟩ : ∃ W1, W1 = W.alloc (.cells #[.string S, .int .u32 (E : Nat), .int .u32 (X : Nat), .slice A n c] 25) := ⟨_, rfl⟩
  have HBW := Lib.hid (show Below W.heap.size W W1 by rw [hW1]; exact (Below.refl _ _).alloc (Nat.le_refl _) _)
  have HP1 := Lib.hid (fun (w' : World) (h : Below W1.heap.size W1 w') => show w'.heap[W.heap.size]? = some (.cells #[.string S, .int .u32 (E : Nat), .int .u32 (X : Nat), .slice A n c] 25 (0, 0)) from (h.block _ (by rw [hW1]; simp)).trans (by rw [hW1]; exact heap_alloc_new _ _))
  have HFit := Lib.hid (fun (w1 : World) (h : Below W1.heap.size W1 w1) => hr.below (HBW.out.trans (h.mono HBW.out.size)))
  have HRA := Lib.hid (fun (w1 : World) (h : Below W1.heap.size W1 w1) => hR.below (HBW.out.trans (h.mono HBW.out.size)))
  have HNu := Lib.hid (fun (w1 : World) (h : Below W1.heap.size W1 w1) => hU.below (HBW.out.trans (h.mono HBW.out.size)))
  have HF1 := Lib.hid (fun (w1 : World) (h : Below W1.heap.size W1 w1) => few2_any w1 S E X A n c qs B q dd (HRA.out w1 h) hn hS hm)
  have HW1 := Lib.hid hW1
  rw [hf] at HF1
  have HAp := Lib.hid (fun (w1 : World) (h : Below W1.heap.size W1 w1) => expunge_wrong w1 S E X A n c qs B q dd U (HRA.out w1 h) (by omega) (by omega) hm5 (HFit.out w1 h) (HNu.out w1 h) (by omega) al hw)
  have HRi := Lib.hid (fun (w1 : World) (h : Below W1.heap.size W1 w1) => rRight_any w1 S E X A n c qs (HRA.out w1 h) (by omega))
  have HRG := Lib.hid hw
  clear hf hf1 hf2 hq6 hw z1 z2 z3 hn5 hm5
  clear hW1 hR hA hn hS hm hU hr
  go_enter Tryd.func6, Tryd.ntmps6
  go_wp2_with fail
  rw [← HW1.out]
  refine (awake_any W1 (HFit.out _ (Below.refl _ _))).mono ?_
  rintro x w1 ⟨rfl, hb1⟩
  have HB1 := Lib.hid hb1
  have c0 := cell_at (HP1.out _ hb1) 0 _ rfl
  have c1 := cell_at (HP1.out _ hb1) 1 _ rfl
  have c2 := cell_at (HP1.out _ hb1) 2 _ rfl
  have c3 := cell_at (HP1.out _ hb1) 3 _ rfl
  clear hb1
  go_wp2_with fail
  clear c0 c1 c2 c3
  refine (HF1.out w1 HB1.out).mono ?_
  rintro x w2 ⟨rfl, hb2⟩
  have HB2 := Lib.hid (HB1.out.trans (hb2.mono HB1.out.size))
  clear hb2
  have c0 := cell_at (HP1.out _ HB2.out) 0 _ rfl
  have c1 := cell_at (HP1.out _ HB2.out) 1 _ rfl
  have c2 := cell_at (HP1.out _ HB2.out) 2 _ rfl
  have c3 := cell_at (HP1.out _ HB2.out) 3 _ rfl
  go_wp2_with fail
  clear c0 c1 c2 c3
  refine (HAp.out w2 HB2.out).mono ?_
  rintro x w3 ⟨rfl, hb3⟩
  have HB3 := Lib.hid (HB2.out.trans (hb3.mono HB2.out.size))
  clear hb3
  have hb4 : Below W1.heap.size W1 (w3.alloc (.cells #[.string ⟨#[]⟩, .int .u32 0, .int .u32 0, .slice none 0 0] 25)) := HB3.out.alloc HB3.out.size _
  have HB4 := Lib.hid hb4
  have HX4 := Lib.hid (fun (w' : World) (h : Below (w3.alloc (.cells #[.string ⟨#[]⟩, .int .u32 0, .int .u32 0, .slice none 0 0] 25)).heap.size (w3.alloc (.cells #[.string ⟨#[]⟩, .int .u32 0, .int .u32 0, .slice none 0 0] 25)) w') => (boxed h).1)
  have k0 := cell_at (HP1.out _ hb4) 0 _ rfl
  have k1 := cell_at (HP1.out _ hb4) 1 _ rfl
  have k2 := cell_at (HP1.out _ hb4) 2 _ rfl
  have k3 := cell_at (HP1.out _ hb4) 3 _ rfl
  clear hb4
  go_wp2_with fail
  clear k0 k1 k2 k3
  refine (HRi.out _ HB4.out).mono ?_
  rw [HRG.out]
  rintro x w5 ⟨rfl, hb5⟩
  have HX5 := Lib.hid (HX4.out _ hb5)
  have HB35 := Lib.hid (show Below w3.heap.size w3 w5 from (boxed hb5).2)
  have HB5 := Lib.hid (HB4.out.trans (hb5.mono HB4.out.size))
  clear hb5
  go_wp2_with fail
  go_ret
  exact ⟨rfl, HBW.out.trans (HB5.out.mono HBW.out.size)⟩
set_option maxHeartbeats 4000000 in
theorem expunges_yes (W : World) (S : ByteArray) (E X : Nat) (A : Option Addr) (n c : Nat) (qs : List Y) (B : Option Addr) (q dd : Nat) (U : List Nat) (al : Bool) (hR : Rd cM 4 W A n qs) (hA : A = none → c = 0) (hn : n ≤ 140737488355328) (hS : S.size ≤ 140737488355328) (hm : ∀ y ∈ qs, y.m ≤ 140737488355328) (hU : Nums W B q U) (hr : Fit W) (hf : (fewB S (nts qs) && decide (q ≤ 600)) = true) (hw : right S E X (nts qs) = true) :
    Calls Tryd.prog 6 #[.agg #[.string S, .int .u32 (E : Nat), .int .u32 (X : Nat), .slice A n c], .slice B q dd, .bool al] W fun x w' => x = .returned (.bool true) ∧ Below W.heap.size W w' := by
  obtain ⟨hf1, hf2⟩ := Bool.and_eq_true_iff.1 hf
  have hq6 := of_decide_eq_true hf2
  obtain ⟨z1, z2, z3⟩ := fewB_size hf1
  have hn5 : n ≤ 60000 := by rw [nts_len, hR.1] at z2; exact z2
  have hm5 : ∀ y ∈ qs, y.m ≤ 1000000 := fun y hy => by
    have h1 := z3 y.n (List.mem_map.2 ⟨y, hy, rfl⟩)
    have h2 := (rd_oct hR hy).1.1
    omega
  obtain ⟨W1, hW1⟩ : ∃ W1, W1 = W.alloc (.cells #[.string S, .int .u32 (E : Nat), .int .u32 (X : Nat), .slice A n c] 25) := ⟨_, rfl⟩
  have HBW := Lib.hid (show Below W.heap.size W W1 by rw [hW1]; exact (Below.refl _ _).alloc (Nat.le_refl _) _)
  have HP1 := Lib.hid (fun (w' : World) (h : Below W1.heap.size W1 w') => show w'.heap[W.heap.size]? = some (.cells #[.string S, .int .u32 (E : Nat), .int .u32 (X : Nat), .slice A n c] 25 (0, 0)) from (h.block _ (by rw [hW1]; simp)).trans (by rw [hW1]; exact heap_alloc_new _ _))
  have HFit := Lib.hid (fun (w1 : World) (h : Below W1.heap.size W1 w1) => hr.below (HBW.out.trans (h.mono HBW.out.size)))
  have HRA := Lib.hid (fun (w1 : World) (h : Below W1.heap.size W1 w1) => hR.below (HBW.out.trans (h.mono HBW.out.size)))
  have HNu := Lib.hid (fun (w1 : World) (h : Below W1.heap.size W1 w1) => hU.below (HBW.out.trans (h.mono HBW.out.size)))
  have HF1 := Lib.hid (fun (w1 : World) (h : Below W1.heap.size W1 w1) => few2_any w1 S E X A n c qs B q dd (HRA.out w1 h) hn hS hm)
  have HW1 := Lib.hid hW1
  rw [hf] at HF1
  have HAp := Lib.hid (fun (w1 : World) (h : Below W1.heap.size W1 w1) => expunge_yes w1 S E X A n c qs B q dd U (HRA.out w1 h) (by omega) (by omega) hm5 (HFit.out w1 h) (HNu.out w1 h) (by omega) al hw)
  have HRi := Lib.hid (fun (w1 : World) (h : Below W1.heap.size W1 w1) => rRight_any w1 S E X A n c qs (HRA.out w1 h) (by omega))
  have HRs := Lib.hid (fun (w1 : World) (h : Below W1.heap.size W1 w1) => rexpunge_any w1 S E X A n c qs B q dd U (HRA.out w1 h) (by omega) (HNu.out w1 h) (by omega) al)
  have HRG := Lib.hid hw
  have HGL := Lib.hid (show (gone (outP al U) (nts qs)).length ≤ 60000 by have := gone_len (outP al U) (nts qs); omega)
  have HLL := Lib.hid (show (left (outP al U) (nts qs)).length ≤ 60000 by have := left_len (outP al U) (nts qs); omega)
  clear hf hf1 hf2 hq6 hw z1 z2 z3 hn5 hm5
  clear hW1 hR hA hn hS hm hU hr
  go_enter Tryd.func6, Tryd.ntmps6
  go_wp2_with fail
  rw [← HW1.out]
  refine (awake_any W1 (HFit.out _ (Below.refl _ _))).mono ?_
  rintro x w1 ⟨rfl, hb1⟩
  have HB1 := Lib.hid hb1
  have c0 := cell_at (HP1.out _ hb1) 0 _ rfl
  have c1 := cell_at (HP1.out _ hb1) 1 _ rfl
  have c2 := cell_at (HP1.out _ hb1) 2 _ rfl
  have c3 := cell_at (HP1.out _ hb1) 3 _ rfl
  clear hb1
  go_wp2_with fail
  clear c0 c1 c2 c3
  refine (HF1.out w1 HB1.out).mono ?_
  rintro x w2 ⟨rfl, hb2⟩
  have HB2 := Lib.hid (HB1.out.trans (hb2.mono HB1.out.size))
  clear hb2
  have c0 := cell_at (HP1.out _ HB2.out) 0 _ rfl
  have c1 := cell_at (HP1.out _ HB2.out) 1 _ rfl
  have c2 := cell_at (HP1.out _ HB2.out) 2 _ rfl
  have c3 := cell_at (HP1.out _ HB2.out) 3 _ rfl
  go_wp2_with fail
  clear c0 c1 c2 c3
  refine (HAp.out w2 HB2.out).mono ?_
  rintro x w3 ⟨A3, n3, c3, v3, ys3, rfl, ho3, hl3, hg3, hb3⟩
  have HB3 := Lib.hid (HB2.out.trans (hb3.mono HB2.out.size))
  obtain ⟨Ag, cg, rfl, -, -, hgr⟩ := hg3.rd fU
  have HG3 := Lib.hid hgr
  have HO3 := Lib.hid ho3
  have HL3 := Lib.hid hl3
  clear hb3 ho3 hl3 hg3 hgr
  generalize hgn : (gone (outP al U) (nts qs)).length = gn at *
  have hb4 : Below W1.heap.size W1 (w3.alloc (.cells #[.string S, .int .u32 (E : Nat), .int .u32 (X : Nat), .slice A3 n3 c3] 25)) := HB3.out.alloc HB3.out.size _
  have HB4 := Lib.hid hb4
  have HX4 := Lib.hid (fun (w' : World) (h : Below (w3.alloc (.cells #[.string S, .int .u32 (E : Nat), .int .u32 (X : Nat), .slice A3 n3 c3] 25)).heap.size (w3.alloc (.cells #[.string S, .int .u32 (E : Nat), .int .u32 (X : Nat), .slice A3 n3 c3] 25)) w') => (boxed h).1)
  have k0 := cell_at (HP1.out _ hb4) 0 _ rfl
  have k1 := cell_at (HP1.out _ hb4) 1 _ rfl
  have k2 := cell_at (HP1.out _ hb4) 2 _ rfl
  have k3 := cell_at (HP1.out _ hb4) 3 _ rfl
  clear hb4
  go_wp2_with fail
  clear k0 k1 k2 k3
  refine (HRi.out _ HB4.out).mono ?_
  rw [HRG.out]
  rintro x w5 ⟨rfl, hb5⟩
  have HX5 := Lib.hid (HX4.out _ hb5)
  have HB35 := Lib.hid (show Below w3.heap.size w3 w5 from (boxed hb5).2)
  have HB5 := Lib.hid (HB4.out.trans (hb5.mono HB4.out.size))
  clear hb5
  have k0 := cell_at (HP1.out _ HB5.out) 0 _ rfl
  have k1 := cell_at (HP1.out _ HB5.out) 1 _ rfl
  have k2 := cell_at (HP1.out _ HB5.out) 2 _ rfl
  have k3 := cell_at (HP1.out _ HB5.out) 3 _ rfl
  go_wp2_with fail
  clear k0 k1 k2 k3
  refine (HRs.out w5 HB5.out).mono ?_
  rintro x w6 ⟨A6, n6, c6, v6, ys6, rfl, ho6, hl6, hg6, hb6⟩
  obtain ⟨Ah, ch, rfl, -, -, hgr6⟩ := hg6.rd fU
  rw [hgn] at hgr6 ⊢
  have HB6 := Lib.hid (HB5.out.trans (hb6.mono HB5.out.size))
  have h36 : Below w3.heap.size w3 w6 := HB35.out.trans (hb6.mono HB35.out.size)
  have h67 : Below w6.heap.size w6 (w6.alloc (.cells #[.string S, .int .u32 (E : Nat), .int .u32 (X : Nat), .slice A6 n6 c6] 25)) := (Below.refl _ _).alloc (Nat.le_refl _) _
  have hx7 : (w6.alloc (.cells #[.string S, .int .u32 (E : Nat), .int .u32 (X : Nat), .slice A6 n6 c6] 25)).heap[w3.heap.size]? = some (.cells #[.string S, .int .u32 (E : Nat), .int .u32 (X : Nat), .slice A3 n3 c3] 25 (0, 0)) := by
    have hlt := (Array.getElem?_eq_some_iff.1 HX5.out).1
    rw [heap_alloc_old _ _ (Nat.lt_of_lt_of_le hlt hb6.size), hb6.block _ hlt]
    exact HX5.out
  have hz7 : (w6.alloc (.cells #[.string S, .int .u32 (E : Nat), .int .u32 (X : Nat), .slice A6 n6 c6] 25)).heap[w6.heap.size]? = some (.cells #[.string S, .int .u32 (E : Nat), .int .u32 (X : Nat), .slice A6 n6 c6] 25 (0, 0)) := heap_alloc_new _ _
  have HB7 := Lib.hid (HB6.out.alloc HB6.out.size (.cells #[.string S, .int .u32 (E : Nat), .int .u32 (X : Nat), .slice A6 n6 c6] 25))
  have H37 := Lib.hid (h36.trans (h67.mono h36.size))
  have HG7 := Lib.hid (HG3.out.below (h36.trans (h67.mono h36.size)))
  have HH7 := Lib.hid (hgr6.below h67)
  have HO6 := Lib.hid ((own_rd ho6).1.below h67)
  have HL6 := Lib.hid hl6
  have HX7 := Lib.hid hx7
  have HZ7 := Lib.hid hz7
  have x0 := cell_at hx7 0 _ rfl
  have x1 := cell_at hx7 1 _ rfl
  have x2 := cell_at hx7 2 _ rfl
  have x3 := cell_at hx7 3 _ rfl
  have k2 := cell_at (HP1.out _ HB7.out) 2 _ rfl
  have hgn' : gn ≤ 60000 := by rw [← hgn]; have := HGL.out; omega
  clear hb6 h36 h67 hx7 hz7 ho6 hl6 hg6 hgr6
  go_wp2_with fail
  clear x0 x1 x2 x3 k2
  generalize w6.alloc (.cells #[.string S, .int .u32 (E : Nat), .int .u32 (X : Nat), .slice A6 n6 c6] 25) = w7 at *
  go_loopw [65] (fun i wr => ∃ k : Nat, k ≤ gn ∧ i = .int .i64 k ∧ Hid (Below w7.heap.size w7 wr)) (fun i _ => gn - (intOf i).toNat)
  case atStart => exact ⟨0, Nat.zero_le _, rfl, Lib.hid (Below.refl _ _)⟩
  case round =>
    obtain ⟨k, hk, rfl, HB⟩ := hrel
    by_cases hlt : k < gn
    · obtain ⟨b1, o1, u1, rfl, hu1, e1⟩ := atU (HG7.out.below HB.out) k hlt
      obtain ⟨b2, o2, u2, rfl, hu2, e2⟩ := atU (HH7.out.below HB.out) k hlt
      rw [hu1] at hu2
      cases hu2
      have HC1 := Lib.hid (fun (w' : World) (h : Below wr.heap.size wr w') => (h.cell (p := ⟨b1, o1 + k, none⟩) (block_lt_of_cell e1)).trans e1)
      have HC2 := Lib.hid (fun (w' : World) (h : Below wr.heap.size wr w') => (h.cell (p := ⟨b2, o2 + k, none⟩) (block_lt_of_cell e2)).trans e2)
      have HST := Lib.hid (show Below wr.heap.size wr wr.drew from codec.below_draws (Below.refl _ _) 1)
      have hlt' : (k : Int) < (gn : Int) := by omega
      clear hu1 e1 e2
      go_wp2_with fail
      refine wp_region_noPanic ?_
      refine wp_region_held_drew (S := fun w' => Below wr.heap.size wr w') (by kernel_rfl) HST.out (fun hHeld => ?_)
      refine wpAnyH_take (i := 0) (v := ?_) rfl (by kernel_rfl) (by kernel_rfl) (by kernel_rfl) (fun _ _ _ h => h) (Or.inl ⟨by kernel_rfl, ?_⟩) hHeld ?_
      rotate_left
      · (intro w' hw'; go_simp; first | done | with_reducible rfl)
      refine wpAnyH_take (i := 1) (v := ?_) rfl (by kernel_rfl) (by kernel_rfl) (by kernel_rfl) (fun _ _ _ h => h) (Or.inl ⟨by kernel_rfl, ?_⟩) hHeld ?_
      rotate_left
      · (intro w' hw'; go_simp; first | done | with_reducible rfl)
      refine wpAnyH_take (i := 2) (v := ?_) rfl (by kernel_rfl) (by kernel_rfl) (by kernel_rfl) (fun _ _ _ h => h) (Or.inl ⟨by kernel_rfl, ?_⟩) hHeld ?_
      rotate_left
      · (intro w' hw'; go_simp; first | done | with_reducible rfl)
      refine wpAnyH_take (i := 3) (v := ?_) rfl (by kernel_rfl) (by kernel_rfl) (by kernel_rfl) (fun _ _ _ h => h) (Or.inl ⟨by kernel_rfl, ?_⟩) hHeld ?_
      rotate_left
      · (intro w' hw'; have l0 := HC1.out w' hw'; go_simp; first | done | with_reducible rfl)
      refine wpAnyH_take (i := 4) (v := ?_) rfl (by kernel_rfl) (by kernel_rfl) (by kernel_rfl) (fun _ _ _ h => h) (Or.inl ⟨by kernel_rfl, ?_⟩) hHeld ?_
      rotate_left
      · (intro w' hw'; go_simp; first | done | with_reducible rfl)
      refine wpAnyH_take (i := 5) (v := ?_) rfl (by kernel_rfl) (by kernel_rfl) (by kernel_rfl) (fun _ _ _ h => h) (Or.inl ⟨by kernel_rfl, ?_⟩) hHeld ?_
      rotate_left
      · (intro w' hw'; go_simp; first | done | with_reducible rfl)
      refine wpAnyH_take (i := 6) (v := ?_) rfl (by kernel_rfl) (by kernel_rfl) (by kernel_rfl) (fun _ _ _ h => h) (Or.inl ⟨by kernel_rfl, ?_⟩) hHeld ?_
      rotate_left
      · (intro w' hw'; go_simp; first | done | with_reducible rfl)
      refine wpAnyH_take (i := 7) (v := ?_) rfl (by kernel_rfl) (by kernel_rfl) (by kernel_rfl) (fun _ _ _ h => h) (Or.inl ⟨by kernel_rfl, ?_⟩) hHeld ?_
      rotate_left
      · (intro w' hw'; have l0 := HC2.out w' hw'; go_simp; first | done | with_reducible rfl)
      refine wpAnyH_take (i := 8) (v := ?_) rfl (by kernel_rfl) (by kernel_rfl) (by kernel_rfl) (fun _ _ _ h => h) (Or.inl ⟨by kernel_rfl, ?_⟩) hHeld ?_
      rotate_left
      · (intro w' hw'; go_simp; first | done | with_reducible rfl)
      refine wpAnyH_done (by kernel_rfl) ?_ _
      refine NoPanic.normal ?_
      go_simp
      have HN := Lib.hid (HB.out.trans (hHeld.mono HB.out.size))
      clear hHeld
      go_wp2_with fail
      go_roundw
      case rel => first | exact ⟨k + 1, by omega, by go_num, HN⟩ | ((repeat apply Exists.intro); exact ⟨⟨k + 1, by omega, by go_num, HN⟩, rfl⟩)
      case measure => (show gn - ((k : Int) + 1).toNat < gn - k; omega)
    · obtain rfl : k = gn := by omega
      have hx8 := (HB.out.block _ (Array.getElem?_eq_some_iff.1 HX7.out).1).trans HX7.out
      have hz8 := (HB.out.block _ (Array.getElem?_eq_some_iff.1 HZ7.out).1).trans HZ7.out
      have HSB := Lib.hid (sameBox_any wr S S E X E X A3 A6 n3 c3 n6 c6 ys3 ys6 ((own_rd HO3.out).1.below (H37.out.trans (HB.out.mono H37.out.size))) (HO6.out.below HB.out) (by have h1 := (own_rd HO3.out).1.1; have h2 := HLL.out; rw [← HL3.out, nts_len] at h2; omega))
      rw [HL3.out, HL6.out, sameB_self] at HSB
      have x0 := cell_at hx8 0 _ rfl
      have x1 := cell_at hx8 1 _ rfl
      have x2 := cell_at hx8 2 _ rfl
      have x3 := cell_at hx8 3 _ rfl
      have y0 := cell_at hz8 0 _ rfl
      have y1 := cell_at hz8 1 _ rfl
      have y2 := cell_at hz8 2 _ rfl
      have y3 := cell_at hz8 3 _ rfl
      clear hx8 hz8
      go_wp2_with fail
      refine HSB.out.mono ?_
      rintro x w9 ⟨rfl, hb9⟩
      have HB9 := Lib.hid (HB7.out.trans ((HB.out.trans (hb9.mono HB.out.size)).mono HB7.out.size))
      clear hb9
      go_wp2_with fail
      go_ret
      exact ⟨rfl, HBW.out.trans (HB9.out.mono HBW.out.size)⟩
theorem expunges_walk (W : World) (S : ByteArray) (E X : Nat) (A : Option Addr) (n c : Nat) (qs : List Y) (B : Option Addr) (q dd : Nat) (U : List Nat) (al : Bool) (hR : Rd cM 4 W A n qs) (hA : A = none → c = 0) (hn : n ≤ 140737488355328) (hS : S.size ≤ 140737488355328) (hm : ∀ y ∈ qs, y.m ≤ 140737488355328) (hU : Nums W B q U) (hr : Fit W) :
    Calls Tryd.prog 6 #[.agg #[.string S, .int .u32 (E : Nat), .int .u32 (X : Nat), .slice A n c], .slice B q dd, .bool al] W fun x w' => x = .returned (.bool true) ∧ Below W.heap.size W w' := by
  cases hf : (fewB S (nts qs) && decide (q ≤ 600)) with
  | false => exact expunges_many W S E X A n c qs B q dd U al hR hA hn hS hm hU hr hf
  | true =>
    cases hw : right S E X (nts qs) with
    | false => exact expunges_wrong W S E X A n c qs B q dd U al hR hA hn hS hm hU hr hf hw
    | true => exact expunges_yes W S E X A n c qs B q dd U al hR hA hn hS hm hU hr hf hw
end Go.Proofs.YtepngemlaiffgaaDoor.mal
