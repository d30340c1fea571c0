/- The law on the index of a log, walked. -/
import Derived.Test.YtklmbiekpilkhaaGreatDoorMi5
import Derived.Test.YtklmbiekpilkhaaGreatDoorMl4
import Derived.Test.YtklmbiekpilkhaaGreatDoorMl3
namespace Go.Proofs.YtklmbiekpilkhaaGreatDoor.idx
open Go.ChangeShapes Go.WideShapes Go.ChangeAt Go.RowKit
open Go.Proofs.YtklmbiekpilkhaaGreatDoor.row
open Go.Proofs.YtklmbiekpilkhaaGreatDoor.lg (Y Nt cL nts)
open Go.Proofs.YtklmbiekpilkhaaGreatDoor.codec (Bytes)
set_option linter.unusedVariables false
set_option maxRecDepth 100000
set_option linter.unusedSimpArgs false

set_option maxHeartbeats 4000000 in
theorem ofs_none (W : World) (n c : Nat) (A : Option Addr) (S : ByteArray) (E0 X T EB XB : Nat) (CL : Bool) (lps nps : List (Nt × Nat)) (bl : List Nt) (hn : n ≤ 30000) (h : CL = false ∨ S = ⟨#[]⟩)
    (HW : Hid (Calls Tryz.prog 5 #[] W fun e w' => e = .returned (.bool true) ∧ Below W.heap.size W w'))
    (HRD : Hid (∀ w, Below W.heap.size W w → Calls Tryz.prog 13 #[.slice A n c] w fun e w' => ∃ A n c zs, e = .returned (.agg #[.string S, .int .u32 (E0 : Nat), .int .u32 (X : Nat), .slice A n c, .int .i64 (T : Nat), .bool CL]) ∧ lg.Rd cL 6 w' A n zs ∧ n ≤ 30000 ∧ zs.map Y.np = lps ∧ Below w.heap.size w w'))
    (HNT : Hid (∀ w, Below W.heap.size W w → Calls Tryz.prog 14 #[.slice A n c] w fun e w' => ∃ A m c Ap cp ys, e = .returned (.tuple #[.slice A m c, .slice Ap m cp, .int .i64 (T : Nat)]) ∧ lg.Rd lg.cN 7 w' A m ys ∧ lg.Rd lg.cP 1 w' Ap m ys ∧ m ≤ 40000 ∧ ys.map Y.np = nps ∧ Below w.heap.size w w'))
    (HOF : Hid (∀ (w : World) (A : Option Addr) (n c : Nat) (ys : List Y), lg.Rd lg.cN 7 w A n ys → n ≤ 40000 → ys.map Y.np = nps → Calls Tryz.prog 15 #[.slice A n c] w fun e w' => ∃ A n c qs, e = .returned (.tuple #[.agg #[.string S, .int .u32 (EB : Nat), .int .u32 (XB : Nat), .slice A n c], .bool CL]) ∧ lg.Rd lg.cM 4 w' A n qs ∧ nts qs = bl ∧ Below w.heap.size w w')) :
    Calls Tryz.prog 4 #[.slice A n c] W fun e w' => e = .returned (.bool true) ∧ Below W.heap.size W w' := by
  have hd := decide_eq_false (show ¬ (30000 : Int) < (n : Int) by omega)
  clear hn
  go_enter Tryz.func4, Tryz.ntmps4
  go_wp2_with fail
  refine HW.out.mono ?_
  rintro e w1 ⟨rfl, hb⟩
  have HB1 := Lib.hid hb
  clear hb
  go_wp2_with fail
  refine (HRD.out w1 HB1.out).mono ?_
  rintro e w2 ⟨A1, n1, c1, zs, rfl, hR1, hn1, hz, hb⟩
  have HB2 := Lib.hid (HB1.out.trans (hb.mono HB1.out.size))
  have HR1 := Lib.hid hR1
  have HN1 := Lib.hid hn1
  have HZ := Lib.hid hz
  clear hb hR1 hn1 hz HW HRD
  go_wp2_with fail
  refine (of_none w2 S E0 X A1 n1 c1 T CL h).mono ?_
  rintro e w3 ⟨rfl, hb⟩
  have HB3 := Lib.hid (HB2.out.trans (hb.mono HB2.out.size))
  clear hb
  unfold zX zF
  go_wp2_with fail
  have hq : Below w3.heap.size w3 ((w3.alloc (.cells #[.string ⟨#[]⟩, .int .u32 0, .int .u32 0, .int .i64 0, .slice none 0 0] 27)).alloc (.cells #[.int .u32 0, .slice none 0 0] 33)) := ((Below.refl _ _).alloc (Nat.le_refl _) _).alloc (by simp) _
  have hx3 : ((w3.alloc (.cells #[.string ⟨#[]⟩, .int .u32 0, .int .u32 0, .int .i64 0, .slice none 0 0] 27)).alloc (.cells #[.int .u32 0, .slice none 0 0] 33)).heap[w3.heap.size]? = some (.cells #[.string ⟨#[]⟩, .int .u32 0, .int .u32 0, .int .i64 0, .slice none 0 0] 27 (0, 0)) := (Below.heap_alloc _ _ _ (by simp)).trans (heap_alloc_new w3 _)
  have hf3 : ((w3.alloc (.cells #[.string ⟨#[]⟩, .int .u32 0, .int .u32 0, .int .i64 0, .slice none 0 0] 27)).alloc (.cells #[.int .u32 0, .slice none 0 0] 33)).heap[w3.heap.size + 1]? = some (.cells #[.int .u32 0, .slice none 0 0] 33 (0, 0)) := by
    have := heap_alloc_new (w3.alloc (.cells #[.string ⟨#[]⟩, .int .u32 0, .int .u32 0, .int .i64 0, .slice none 0 0] 27)) (.cells #[.int .u32 0, .slice none 0 0] 33 (0, 0))
    rw [show (w3.alloc (.cells #[.string ⟨#[]⟩, .int .u32 0, .int .u32 0, .int .i64 0, .slice none 0 0] 27)).heap.size = w3.heap.size + 1 by simp] at this
    exact this
  have HB3b := Lib.hid (HB3.out.trans (hq.mono HB3.out.size))
  have HQ := Lib.hid hq
  have HQ' := Lib.hid hq
  generalize ((w3.alloc (.cells #[.string ⟨#[]⟩, .int .u32 0, .int .u32 0, .int .i64 0, .slice none 0 0] 27)).alloc (.cells #[.int .u32 0, .slice none 0 0] 33)) = w3b at *
  generalize hp3 : w3.heap.size = p3 at *
  have HX3 := Lib.hid hx3
  have HF3 := Lib.hid hf3
  have HP3 := Lib.hid hp3
  clear hq hx3 hf3 hp3
  refine (HNT.out w3b HB3b.out).mono ?_
  rintro e w4 ⟨A5, m5, c5, A6, c6, ys, rfl, hR5, hR6, hm5, hy5, hb⟩
  have HX4 := Lib.hid ((hb.block _ (Array.getElem?_eq_some_iff.1 HX3.out).1).trans HX3.out)
  have HF4 := Lib.hid ((hb.block _ (Array.getElem?_eq_some_iff.1 HF3.out).1).trans HF3.out)
  have HB4 := Lib.hid (HB3b.out.trans (hb.mono HB3b.out.size))
  have HB34 := Lib.hid hb
  have HR5 := Lib.hid hR5
  have HR6 := Lib.hid hR6
  have HM5 := Lib.hid hm5
  have HY5 := Lib.hid hy5
  clear hb hR5 hR6 hm5 hy5 HNT
  go_wp2_with fail
  refine (HOF.out w4 A5 m5 c5 ys HR5.out HM5.out HY5.out).mono ?_
  rintro e w5 ⟨A7, m7, c7, qs, rfl, hR7, hq7, hb⟩
  have HX5 := Lib.hid ((hb.block _ (Array.getElem?_eq_some_iff.1 HX4.out).1).trans HX4.out)
  have HF5 := Lib.hid ((hb.block _ (Array.getElem?_eq_some_iff.1 HF4.out).1).trans HF4.out)
  have HB5 := Lib.hid (HB4.out.trans (hb.mono HB4.out.size))
  have HB45 := Lib.hid hb
  have HR7 := Lib.hid hR7
  have HQ7 := Lib.hid hq7
  clear hb hR7 hq7 HOF
  have x0 := Lib.cell?_alloc_some (.cells #[.string S, .int .u32 (EB : Nat), .int .u32 (XB : Nat), .slice A7 m7 c7] 56) (cell_at HX5.out 0 _ rfl)
  have x1 := Lib.cell?_alloc_some (.cells #[.string S, .int .u32 (EB : Nat), .int .u32 (XB : Nat), .slice A7 m7 c7] 56) (cell_at HX5.out 1 _ rfl)
  have x2 := Lib.cell?_alloc_some (.cells #[.string S, .int .u32 (EB : Nat), .int .u32 (XB : Nat), .slice A7 m7 c7] 56) (cell_at HX5.out 2 _ rfl)
  have x3 := Lib.cell?_alloc_some (.cells #[.string S, .int .u32 (EB : Nat), .int .u32 (XB : Nat), .slice A7 m7 c7] 56) (cell_at HX5.out 3 _ rfl)
  have x4 := Lib.cell?_alloc_some (.cells #[.string S, .int .u32 (EB : Nat), .int .u32 (XB : Nat), .slice A7 m7 c7] 56) (cell_at HX5.out 4 _ rfl)
  have y0 := Lib.cell?_alloc_some (.cells #[.string S, .int .u32 (EB : Nat), .int .u32 (XB : Nat), .slice A7 m7 c7] 56) (cell_at HF5.out 0 _ rfl)
  have y1 := Lib.cell?_alloc_some (.cells #[.string S, .int .u32 (EB : Nat), .int .u32 (XB : Nat), .slice A7 m7 c7] 56) (cell_at HF5.out 1 _ rfl)
  have HE := Lib.hid (HB5.out.alloc HB5.out.size (.cells #[.string S, .int .u32 (EB : Nat), .int .u32 (XB : Nat), .slice A7 m7 c7] 56))
  cases CL with
  | false =>
    clear h
    go_wp2_with fail
    go_ret
    exact ⟨rfl, HE.out⟩
  | true =>
    obtain rfl : S = ⟨#[]⟩ := by rcases h with h | h; cases h; exact h
    clear h
    go_wp2_with fail
    go_ret
    exact ⟨rfl, HE.out⟩
set_option maxHeartbeats 8000000 in
theorem ofs_some (W : World) (n c : Nat) (A : Option Addr) (S : ByteArray) (E0 X T : Nat) (lps nps : List (Nt × Nat)) (hn : n ≤ 30000) (hS : S ≠ ⟨#[]⟩) (hS2 : S.size ≤ 100000) (HPL : Hid (∀ x ∈ lps, plc E0 x.1.u nps = (x.2 : Int)))
    (HW : Hid (Calls Tryz.prog 5 #[] W fun e w' => e = .returned (.bool true) ∧ Below W.heap.size W w'))
    (HRD : Hid (∀ w, Below W.heap.size W w → Calls Tryz.prog 13 #[.slice A n c] w fun e w' => ∃ A n c zs, e = .returned (.agg #[.string S, .int .u32 (E0 : Nat), .int .u32 (X : Nat), .slice A n c, .int .i64 (T : Nat), .bool true]) ∧ lg.Rd cL 6 w' A n zs ∧ n ≤ 30000 ∧ zs.map Y.np = lps ∧ Below w.heap.size w w'))
    (HNT : Hid (∀ w, Below W.heap.size W w → Calls Tryz.prog 14 #[.slice A n c] w fun e w' => ∃ A m c Ap cp ys, e = .returned (.tuple #[.slice A m c, .slice Ap m cp, .int .i64 (T : Nat)]) ∧ lg.Rd lg.cN 7 w' A m ys ∧ lg.Rd lg.cP 1 w' Ap m ys ∧ m ≤ 40000 ∧ ys.map Y.np = nps ∧ Below w.heap.size w w'))
    (HOF : Hid (∀ (w : World) (A : Option Addr) (n c : Nat) (ys : List Y), lg.Rd lg.cN 7 w A n ys → n ≤ 40000 → ys.map Y.np = nps → Calls Tryz.prog 15 #[.slice A n c] w fun e w' => ∃ A n c qs, e = .returned (.tuple #[.agg #[.string S, .int .u32 (E0 : Nat), .int .u32 (X : Nat), .slice A n c], .bool true]) ∧ lg.Rd lg.cM 4 w' A n qs ∧ nts qs = lps.map Prod.fst ∧ Below w.heap.size w w')) :
    Calls Tryz.prog 4 #[.slice A n c] W fun e w' => e = .returned (.bool true) ∧ Below W.heap.size W w' := by
  have HS := Lib.hid hS
  have HS2 := Lib.hid hS2
  have hse : (S.toList == ([] : List UInt8)) = false := by
    have := rd.str_ne hS
    rw [ByteArray.toList_eq] at this ⊢
    exact this
  clear hS hS2
  have hd := decide_eq_false (show ¬ (30000 : Int) < (n : Int) by omega)
  clear hn
  go_enter Tryz.func4, Tryz.ntmps4
  go_wp2_with fail
  refine HW.out.mono ?_
  rintro e w1 ⟨rfl, hb⟩
  have HB1 := Lib.hid hb
  clear hb
  go_wp2_with fail
  refine (HRD.out w1 HB1.out).mono ?_
  rintro e w2 ⟨A1, n1, c1, zs, rfl, hR1, hn1, hz, hb⟩
  have HB2 := Lib.hid (HB1.out.trans (hb.mono HB1.out.size))
  have HR1 := Lib.hid hR1
  have HN1 := Lib.hid hn1
  have HZ := Lib.hid hz
  clear hb hR1 hn1 hz HW HRD
  go_wp2_with fail
  refine (of_some w2 S E0 X A1 n1 c1 T zs HR1.out (by have := HN1.out; omega) HS2.out HS.out).mono ?_
  rintro e w3 ⟨v1, v2, rfl, ho1, ho2, hb⟩
  have HB3 := Lib.hid (HB2.out.trans (hb.mono HB2.out.size))
  have hzl : zs.length = n1 := HR1.out.1
  obtain ⟨A2, k2, rfl, -, -, hRx⟩ := ho1.rd fE
  obtain ⟨A3, k3, rfl, -, -, hRf⟩ := ho2.rd fE
  rw [List.length_map, hzl] at hRx hRf ⊢
  rw [List.length_map, hzl]
  have HRx := Lib.hid hRx
  have HRf := Lib.hid hRf
  clear hb ho1 ho2 hRx hRf hzl
  go_wp2_with fail
  have hq : Below w3.heap.size w3 ((w3.alloc (.cells #[.string S, .int .u32 (E0 : Nat), .int .u32 (X : Nat), .int .i64 (T : Nat), .slice A2 n1 k2] 27)).alloc (.cells #[.int .u32 (E0 : Nat), .slice A3 n1 k3] 33)) := ((Below.refl _ _).alloc (Nat.le_refl _) _).alloc (by simp) _
  have hx3 : ((w3.alloc (.cells #[.string S, .int .u32 (E0 : Nat), .int .u32 (X : Nat), .int .i64 (T : Nat), .slice A2 n1 k2] 27)).alloc (.cells #[.int .u32 (E0 : Nat), .slice A3 n1 k3] 33)).heap[w3.heap.size]? = some (.cells #[.string S, .int .u32 (E0 : Nat), .int .u32 (X : Nat), .int .i64 (T : Nat), .slice A2 n1 k2] 27 (0, 0)) := (Below.heap_alloc _ _ _ (by simp)).trans (heap_alloc_new w3 _)
  have hf3 : ((w3.alloc (.cells #[.string S, .int .u32 (E0 : Nat), .int .u32 (X : Nat), .int .i64 (T : Nat), .slice A2 n1 k2] 27)).alloc (.cells #[.int .u32 (E0 : Nat), .slice A3 n1 k3] 33)).heap[w3.heap.size + 1]? = some (.cells #[.int .u32 (E0 : Nat), .slice A3 n1 k3] 33 (0, 0)) := by
    have := heap_alloc_new (w3.alloc (.cells #[.string S, .int .u32 (E0 : Nat), .int .u32 (X : Nat), .int .i64 (T : Nat), .slice A2 n1 k2] 27)) (.cells #[.int .u32 (E0 : Nat), .slice A3 n1 k3] 33 (0, 0))
    rw [show (w3.alloc (.cells #[.string S, .int .u32 (E0 : Nat), .int .u32 (X : Nat), .int .i64 (T : Nat), .slice A2 n1 k2] 27)).heap.size = w3.heap.size + 1 by simp] at this
    exact this
  have HB3b := Lib.hid (HB3.out.trans (hq.mono HB3.out.size))
  have HQ := Lib.hid hq
  have HQ' := Lib.hid hq
  generalize ((w3.alloc (.cells #[.string S, .int .u32 (E0 : Nat), .int .u32 (X : Nat), .int .i64 (T : Nat), .slice A2 n1 k2] 27)).alloc (.cells #[.int .u32 (E0 : Nat), .slice A3 n1 k3] 33)) = w3b at *
  generalize hp3 : w3.heap.size = p3 at *
  have HX3 := Lib.hid hx3
  have HF3 := Lib.hid hf3
  have HP3 := Lib.hid hp3
  clear hq hx3 hf3 hp3
  refine (HNT.out w3b HB3b.out).mono ?_
  rintro e w4 ⟨A5, m5, c5, A6, c6, ys, rfl, hR5, hR6, hm5, hy5, hb⟩
  have HX4 := Lib.hid ((hb.block _ (Array.getElem?_eq_some_iff.1 HX3.out).1).trans HX3.out)
  have HF4 := Lib.hid ((hb.block _ (Array.getElem?_eq_some_iff.1 HF3.out).1).trans HF3.out)
  have HB4 := Lib.hid (HB3b.out.trans (hb.mono HB3b.out.size))
  have HB34 := Lib.hid hb
  have HR5 := Lib.hid hR5
  have HR6 := Lib.hid hR6
  have HM5 := Lib.hid hm5
  have HY5 := Lib.hid hy5
  clear hb hR5 hR6 hm5 hy5 HNT
  go_wp2_with fail
  refine (HOF.out w4 A5 m5 c5 ys HR5.out HM5.out HY5.out).mono ?_
  rintro e w5 ⟨A7, m7, c7, qs, rfl, hR7, hq7, hb⟩
  have HX5 := Lib.hid ((hb.block _ (Array.getElem?_eq_some_iff.1 HX4.out).1).trans HX4.out)
  have HF5 := Lib.hid ((hb.block _ (Array.getElem?_eq_some_iff.1 HF4.out).1).trans HF4.out)
  have HB5 := Lib.hid (HB4.out.trans (hb.mono HB4.out.size))
  have HB45 := Lib.hid hb
  have HR7 := Lib.hid hR7
  have HQ7 := Lib.hid hq7
  clear hb hR7 hq7 HOF
  have x0 := Lib.cell?_alloc_some (.cells #[.string S, .int .u32 (E0 : Nat), .int .u32 (X : Nat), .slice A7 m7 c7] 56) (cell_at HX5.out 0 _ rfl)
  have x1 := Lib.cell?_alloc_some (.cells #[.string S, .int .u32 (E0 : Nat), .int .u32 (X : Nat), .slice A7 m7 c7] 56) (cell_at HX5.out 1 _ rfl)
  have x2 := Lib.cell?_alloc_some (.cells #[.string S, .int .u32 (E0 : Nat), .int .u32 (X : Nat), .slice A7 m7 c7] 56) (cell_at HX5.out 2 _ rfl)
  have x3 := Lib.cell?_alloc_some (.cells #[.string S, .int .u32 (E0 : Nat), .int .u32 (X : Nat), .slice A7 m7 c7] 56) (cell_at HX5.out 3 _ rfl)
  have x4 := Lib.cell?_alloc_some (.cells #[.string S, .int .u32 (E0 : Nat), .int .u32 (X : Nat), .slice A7 m7 c7] 56) (cell_at HX5.out 4 _ rfl)
  have y0 := Lib.cell?_alloc_some (.cells #[.string S, .int .u32 (E0 : Nat), .int .u32 (X : Nat), .slice A7 m7 c7] 56) (cell_at HF5.out 0 _ rfl)
  have y1 := Lib.cell?_alloc_some (.cells #[.string S, .int .u32 (E0 : Nat), .int .u32 (X : Nat), .slice A7 m7 c7] 56) (cell_at HF5.out 1 _ rfl)
  have hm7 : m7 = n1 := by
    have e1 := congrArg List.length HZ.out
    have e2 := congrArg List.length HQ7.out
    have e3 := HR1.out.1
    have e4 := HR7.out.1
    unfold nts at e2
    simp only [List.length_map] at e1 e2
    omega
  subst hm7
  have hw8 := heap_alloc_new w5 (.cells #[.string S, .int .u32 (E0 : Nat), .int .u32 (X : Nat), .slice A7 m7 c7] 56 (0, 0))
  have HA5 := Lib.hid ((Below.refl w5.heap.size w5).alloc (Nat.le_refl _) (.cells #[.string S, .int .u32 (E0 : Nat), .int .u32 (X : Nat), .slice A7 m7 c7] 56))
  have HW8 := Lib.hid hw8
  have HP8 := Lib.hid (show w5.heap.size < (w5.alloc (.cells #[.string S, .int .u32 (E0 : Nat), .int .u32 (X : Nat), .slice A7 m7 c7] 56)).heap.size by simp)
  clear hw8
  go_wp2_with fail
  clear x0 x1 x2 x3 x4 y0 y1
  generalize w5.alloc (.cells #[.string S, .int .u32 (E0 : Nat), .int .u32 (X : Nat), .slice A7 m7 c7] 56) = wb at *
  have HBb := Lib.hid (HB5.out.trans (HA5.out.mono HB5.out.size))
  have HXb := Lib.hid ((HA5.out.block _ (Array.getElem?_eq_some_iff.1 HX5.out).1).trans HX5.out)
  have HFb := Lib.hid ((HA5.out.block _ (Array.getElem?_eq_some_iff.1 HF5.out).1).trans HF5.out)
  have HRxb := Lib.hid ((((HRx.out.below (by rw [HP3.out]; exact HQ'.out)).below HB34.out).below HB45.out).below HA5.out)
  have HRfb := Lib.hid ((((HRf.out.below (by rw [HP3.out]; exact HQ'.out)).below HB34.out).below HB45.out).below HA5.out)
  have HR5b := Lib.hid ((HR5.out.below HB45.out).below HA5.out)
  have HR6b := Lib.hid ((HR6.out.below HB45.out).below HA5.out)
  have HR7b := Lib.hid (HR7.out.below HA5.out)
  generalize w5.heap.size = p8 at *
  have HNL : Hid (nps.length = m5) := Lib.hid (by rw [← HY5.out, List.length_map, HR5.out.1])
  clear HX3 HF3 HX4 HF4 HX5 HF5 HRx HRf HR5 HR6 HR7 HB34 HB45 HA5 HQ' HQ
  go_loopw [123] (fun i wr => ∃ k : Nat, k ≤ m7 ∧ i = .int .i64 k ∧ Hid (∃ d, wr = wb.drewN d)) (fun i _ => m7 - (intOf i).toNat)
  case atStart => exact ⟨0, Nat.zero_le _, rfl, Lib.hid ⟨0, rfl⟩⟩
  case round =>
    obtain ⟨k, hk, rfl, HD⟩ := hrel
    obtain ⟨d, rfl⟩ := HD.out
    by_cases hlt : k < m7
    · have hlt' : (k : Int) < (m7 : Int) := by omega
      have hb0 : Below wb.heap.size wb wb := Below.refl _ _
      -- the k-th message, on all sides
      obtain ⟨y, hy⟩ : ∃ y, zs[k]? = some y := ⟨_, List.getElem?_eq_getElem (by rw [HR1.out.1]; exact hlt)⟩
      obtain ⟨z, hz⟩ : ∃ z, qs[k]? = some z := ⟨_, List.getElem?_eq_getElem (by rw [HR7b.out.1]; exact hlt)⟩
      have hzy : z.n = y.n := by
        have e1 : (nts qs)[k]? = some z.n := by unfold nts; rw [List.getElem?_map, hz]; rfl
        rw [HQ7.out, ← HZ.out, List.map_map, List.getElem?_map, hy] at e1
        exact (Option.some.inj e1).symm
      have hpl : plc E0 y.n.u nps = (y.p : Int) := HPL.out (y.n, y.p) (by rw [← HZ.out]; exact List.mem_map.2 ⟨y, List.mem_of_getElem? hy, rfl⟩)
      obtain ⟨tu, htu⟩ : ∃ tu, tu = y.n.u := ⟨_, rfl⟩
      obtain ⟨tf, htf⟩ : ∃ tf, tf = y.n.f := ⟨_, rfl⟩
      obtain ⟨ap, hap⟩ : ∃ ap, ap = y.p := ⟨_, rfl⟩
      rw [← htu, ← hap] at hpl
      have HPL2 := Lib.hid hpl
      have HM7 := Lib.hid (show ∃ b7 o7, A7 = some ⟨b7, o7, none⟩ ∧ ∀ w', Below wb.heap.size wb w' → w'.cell? ⟨b7, o7 + k * 4, none⟩ = some (.int .u32 (tu : Nat)) ∧ w'.cell? ⟨b7, o7 + k * 4 + 2, none⟩ = some (.int .i64 tf) from by
        obtain ⟨b7, o7, z', e, hz', c0, c1, c2, c3, -⟩ := HR7b.out.at4 k hlt
        refine ⟨b7, o7, e, fun w' hw' => ?_⟩
        obtain ⟨b8, o8, z2, e', hz2, c0, c1, c2, c3, -⟩ := (HR7b.out.below hw').at4 k hlt
        rw [e] at e'
        obtain ⟨rfl, rfl⟩ : b8 = b7 ∧ o8 = o7 := by simp at e'; omega
        rw [hz] at hz2
        cases hz2
        rw [hzy, ← htu] at c0
        rw [hzy, ← htf] at c2
        exact ⟨c0, c2⟩)
      have HE7 := Lib.hid (show ∃ b7 o7, A2 = some ⟨b7, o7, none⟩ ∧ ∀ w', Below wb.heap.size wb w' → w'.cell? ⟨b7, o7 + k * 2, none⟩ = some (.int .u32 (tu : Nat)) ∧ w'.cell? ⟨b7, o7 + k * 2 + 1, none⟩ = some (.int .i64 (ap : Nat)) from by
        obtain ⟨b7, o7, z', e, hz', c0, c1⟩ := atE HRxb.out k hlt
        refine ⟨b7, o7, e, fun w' hw' => ?_⟩
        obtain ⟨b8, o8, z2, e', hz2, c0, c1⟩ := atE (HRxb.out.below hw') k hlt
        rw [e] at e'
        obtain ⟨rfl, rfl⟩ : b8 = b7 ∧ o8 = o7 := by simp at e'; omega
        rw [List.getElem?_map, hy] at hz2
        cases hz2
        rw [htu, hap]
        exact ⟨c0, c1⟩)
      have HF7 := Lib.hid (show ∃ b7 o7, A3 = some ⟨b7, o7, none⟩ ∧ ∀ w', Below wb.heap.size wb w' → w'.cell? ⟨b7, o7 + k * 2, none⟩ = some (.int .u32 (tu : Nat)) ∧ w'.cell? ⟨b7, o7 + k * 2 + 1, none⟩ = some (.int .i64 tf) from by
        obtain ⟨b7, o7, z', e, hz', c0, c1⟩ := atE HRfb.out k hlt
        refine ⟨b7, o7, e, fun w' hw' => ?_⟩
        obtain ⟨b8, o8, z2, e', hz2, c0, c1⟩ := atE (HRfb.out.below hw') k hlt
        rw [e] at e'
        obtain ⟨rfl, rfl⟩ : b8 = b7 ∧ o8 = o7 := by simp at e'; omega
        rw [List.getElem?_map, hy] at hz2
        cases hz2
        rw [htu, htf]
        exact ⟨c0, c1⟩)
      clear hy hz hzy hpl htu htf hap hb0
      obtain ⟨b7, o7, rfl, hM7f⟩ := HM7.out
      obtain ⟨b2, o2, rfl, hE7f⟩ := HE7.out
      obtain ⟨b3', o3', rfl, hF7f⟩ := HF7.out
      clear HM7 HE7 HF7
      have HM7 := Lib.hid hM7f
      have HE7 := Lib.hid hE7f
      have HF7 := Lib.hid hF7f
      clear hM7f hE7f hF7f
      go_wp2_with fail
      have hm5b := HM5.out
      have hm7b := HN1.out
      go_loopw [11, 128] (fun s j wr2 => ∃ j' : Nat, j' ≤ m5 ∧ j = .int .i64 j' ∧ s = .int .i64 (plc E0 tu (nps.take j')) ∧ Hid (∃ d, wr2 = wb.drewN d)) (fun _ j _ => m5 - (intOf j).toNat)
      case atStart => exact ⟨0, Nat.zero_le _, rfl, rfl, Lib.hid ⟨d, rfl⟩⟩
      case round =>
        obtain ⟨j, hj, rfl, rfl, HD2⟩ := hrel
        obtain ⟨d2, rfl⟩ := HD2.out
        by_cases hjm : j < m5
        · have hjm' : (j : Int) < (m5 : Int) := by omega
          have hbw := codec.below_draws (Below.refl wb.heap.size wb) d2
          obtain ⟨b5, o5, ⟨⟨tk, te, ts, tv, td, tg, to_⟩, a, A', m', c'⟩, rfl, hn, c0, c1, c2, c3, c4, c5', c6, -⟩ := (HR5b.out.below hbw).at7 j hjm
          simp only at c0 c1 c3
          obtain ⟨b6, o6, y6, rfl, hn6, d0⟩ : ∃ b o y, A6 = some ⟨b, o, none⟩ ∧ ys[j]? = some y ∧ wb.cell? ⟨b, o + j, none⟩ = some (.int .i64 (y.p : Nat)) := by
            obtain ⟨b, o, y, h1, h2, h3, -⟩ := HR6b.out.2 j hjm
            exact ⟨b, o, y, h1, h2, by have := h3 0 _ rfl; simpa using this⟩
          rw [hn] at hn6
          cases hn6
          have HR6c := Lib.hid (show ∀ w', Below wb.heap.size wb w' → w'.cell? ⟨b6, o6 + j, none⟩ = some (.int .i64 (a : Nat)) from fun w' hw' => by rw [hw'.cell (p := ⟨b6, o6 + j, none⟩) (block_lt_of_cell d0)]; exact d0)
          have hnp : nps[j]? = some (⟨tk, te, ts, tv, td, tg, to_⟩, a) := by rw [← HY5.out, List.getElem?_map, hn]; rfl
          have hP := congrArg (plc E0 tu) (take_next hnp)
          rw [plc_snoc] at hP
          have b1 := cell_at (w := wb.drewN d2) HW8.out 1 _ rfl
          have b3 := cell_at (w := wb.drewN d2) HW8.out 3 _ rfl
          obtain ⟨e0, -⟩ := HM7.out _ hbw
          clear hn c2 c4 c5' c6 d0 hnp HD2 HD hbw
          generalize hWq : wb.drewN d2 = Wq at *
          have HWq := Lib.hid hWq
          clear hWq
          by_cases h2 : tk = 2
          · have h2' : ((tk : Int) == 2) = true := by rw [beq_iff_eq]; omega
            by_cases hE : te = E0
            · have hE' : ((te : Int) == (E0 : Int)) = true := by rw [beq_iff_eq]; omega
              by_cases hU : tv = tu
              · have hU' : ((tv : Int) == (tu : Int)) = true := by rw [beq_iff_eq]; omega
                have HPN : Hid (plc E0 tu (nps.take (j + 1)) = (a : Int)) := Lib.hid (by rw [hP, if_pos ⟨h2, hE, hU⟩])
                clear hP h2 hE hU
                go_wp2_with fail
                go_quiet (fail)
                have HQ2 : Hid (∃ q, Wq.drewN nq = wb.drewN q) := Lib.hid ⟨d2 + nq, by rw [← HWq.out, World.drewN_drewN]⟩
                clear c0 c1 c3 b1 b3 e0
                generalize Wq.drewN nq = W2 at *
                have hr6 : W2.cell? ⟨b6, o6 + j, none⟩ = some (.int .i64 (a : Nat)) := by
                  obtain ⟨q, rfl⟩ := HQ2.out
                  exact HR6c.out _ (codec.below_draws (Below.refl _ wb) q)
                go_wp2_with fail
                go_roundw
                case rel => first | exact ⟨j + 1, by omega, by go_num, by rw [HPN.out], HQ2⟩ | ((repeat apply Exists.intro); exact ⟨⟨j + 1, by omega, by go_num, by rw [HPN.out], HQ2⟩, rfl⟩)
                case measure => (show m5 - ((j : Int) + 1).toNat < m5 - j; omega)
              · have hU' : ((tv : Int) == (tu : Int)) = false := by rw [beq_eq_false_iff_ne]; omega
                have HPN : Hid (plc E0 tu (nps.take (j + 1)) = plc E0 tu (nps.take j)) := Lib.hid (by rw [hP, if_neg (fun h => hU h.2.2)])
                clear hP h2 hE hU
                go_wp2_with fail
                go_quiet (fail)
                have HQ2 : Hid (∃ q, Wq.drewN nq = wb.drewN q) := Lib.hid ⟨d2 + nq, by rw [← HWq.out, World.drewN_drewN]⟩
                clear c0 c1 c3 b1 b3 e0
                generalize Wq.drewN nq = W2 at *
                go_wp2_with fail
                go_roundw
                case rel => first | exact ⟨j + 1, by omega, by go_num, by rw [HPN.out], HQ2⟩ | ((repeat apply Exists.intro); exact ⟨⟨j + 1, by omega, by go_num, by rw [HPN.out], HQ2⟩, rfl⟩)
                case measure => (show m5 - ((j : Int) + 1).toNat < m5 - j; omega)
            · have hE' : ((te : Int) == (E0 : Int)) = false := by rw [beq_eq_false_iff_ne]; omega
              have HPN : Hid (plc E0 tu (nps.take (j + 1)) = plc E0 tu (nps.take j)) := Lib.hid (by rw [hP, if_neg (fun h => hE h.2.1)])
              clear hP h2 hE
              go_wp2_with fail
              go_quiet (fail)
              have HQ2 : Hid (∃ q, Wq.drewN nq = wb.drewN q) := Lib.hid ⟨d2 + nq, by rw [← HWq.out, World.drewN_drewN]⟩
              clear c0 c1 c3 b1 b3 e0
              generalize Wq.drewN nq = W2 at *
              go_wp2_with fail
              go_roundw
              case rel => first | exact ⟨j + 1, by omega, by go_num, by rw [HPN.out], HQ2⟩ | ((repeat apply Exists.intro); exact ⟨⟨j + 1, by omega, by go_num, by rw [HPN.out], HQ2⟩, rfl⟩)
              case measure => (show m5 - ((j : Int) + 1).toNat < m5 - j; omega)
          · have h2' : ((tk : Int) == 2) = false := by rw [beq_eq_false_iff_ne]; omega
            have HPN : Hid (plc E0 tu (nps.take (j + 1)) = plc E0 tu (nps.take j)) := Lib.hid (by rw [hP, if_neg (fun h => h2 h.1)])
            clear hP h2
            go_wp2_with fail
            go_quiet (fail)
            have HQ2 : Hid (∃ q, Wq.drewN nq = wb.drewN q) := Lib.hid ⟨d2 + nq, by rw [← HWq.out, World.drewN_drewN]⟩
            clear c0 c1 c3 b1 b3 e0
            generalize Wq.drewN nq = W2 at *
            go_wp2_with fail
            go_roundw
            case rel => first | exact ⟨j + 1, by omega, by go_num, by rw [HPN.out], HQ2⟩ | ((repeat apply Exists.intro); exact ⟨⟨j + 1, by omega, by go_num, by rw [HPN.out], HQ2⟩, rfl⟩)
            case measure => (show m5 - ((j : Int) + 1).toNat < m5 - j; omega)
        · obtain rfl : j = m5 := by omega
          have HPE : Hid (plc E0 tu (nps.take j) = (ap : Int)) := Lib.hid (by rw [List.take_of_length_le (by rw [HNL.out]; omega)]; exact HPL2.out)
          rw [HPE.out]
          have hbw := codec.below_draws (Below.refl wb.heap.size wb) d2
          obtain ⟨e0, e2⟩ := HM7.out _ hbw
          obtain ⟨g0, g1⟩ := HE7.out _ hbw
          obtain ⟨i0, i1⟩ := HF7.out _ hbw
          have b3 := cell_at (w := wb.drewN d2) HW8.out 3 _ rfl
          have x4 := cell_at (w := wb.drewN d2) HXb.out 4 _ rfl
          have y1 := cell_at (w := wb.drewN d2) HFb.out 1 _ rfl
          clear hbw HD2 HD
          generalize hWq : wb.drewN d2 = Wq at *
          have HWq := Lib.hid hWq
          clear hWq
          go_wp2_with fail
          go_quiet (fail)
          have HQ2 : Hid (∃ q, Wq.drewN nq = wb.drewN q) := Lib.hid ⟨d2 + nq, by rw [← HWq.out, World.drewN_drewN]⟩
          clear e0 e2 g0 g1 i0 i1 b3 x4 y1
          generalize Wq.drewN nq = W2 at *
          go_wp2_with fail
          go_roundw
          case rel => first | exact ⟨k + 1, by omega, by go_num, HQ2⟩ | ((repeat apply Exists.intro); exact ⟨⟨k + 1, by omega, by go_num, HQ2⟩, rfl⟩)
          case measure => (show m7 - ((k : Int) + 1).toNat < m7 - k; omega)
    · go_wp2
      go_ret
      exact ⟨rfl, HBb.out.trans ((codec.below_draws (Below.refl wb.heap.size wb) d).mono HBb.out.size)⟩
end Go.Proofs.YtklmbiekpilkhaaGreatDoor.idx
namespace Go.Proofs.YtklmbiekpilkhaaGreatDoor.idx
open Go.ChangeShapes Go.WideShapes Go.ChangeAt Go.RowKit
open Go.Proofs.YtklmbiekpilkhaaGreatDoor.lg (Y Nt cL nts)
open Go.Proofs.YtklmbiekpilkhaaGreatDoor.codec (Bytes)
set_option linter.unusedVariables false
set_option maxRecDepth 100000
set_option linter.unusedSimpArgs false

theorem nm_small : ∀ (L : List Nt) (a : ByteArray), a.size ≤ 60 → (∀ t ∈ L, t.ok) → (L.foldl (fun a n => if n.k = 3 then a else n.s) a).size ≤ 60
  | [], a, h, _ => h
  | t :: r, a, h, hok => by
    rw [List.foldl_cons]
    refine nm_small r _ ?_ fun x hx => hok x (by simp [hx])
    by_cases h3 : t.k = 3
    · rw [if_pos h3]; exact h
    · rw [if_neg h3]; exact (bod.formed_size (hok t (by simp)).1).1
theorem ys_ok {ys : List Y} {l : List Nat} (hl : ∀ b ∈ l, b < 256) (h : ys.map Y.np = lg.notesL l) : ∀ y ∈ ys, y.n.ok := by
  intro y hy
  have : y.np ∈ lg.notesL l := by rw [← h]; exact List.mem_map.2 ⟨y, hy, rfl⟩
  exact ((lg.notesL_good hl).1 _ this).1
set_option maxHeartbeats 2000000 in
theorem of_mid (W : World) (n c : Nat) (A : Option Addr) (l : List Nat) (hB : Bytes W A n l) (hn : n ≤ 30000) (hc : n ≤ c) (hL : sumDoor.Laid W) (hr : bod.Fit W) :
    Calls Tryz.prog 4 #[.slice A n c] W fun e w' => e = .returned (.bool true) ∧ Below W.heap.size W w' := by
  have hlen : l.length = n := hB.1
  have hby : ∀ b ∈ l, b < 256 := hB.2.1
  have hW := Lib.hid (awake_any W hr.room)
  have hRD : Hid (∀ w, Below W.heap.size W w → Calls Tryz.prog 13 #[.slice A n c] w fun e w' => ∃ A n c zs, e = .returned (.agg #[.string (lg.nmL (lg.ntsL l)), .int .u32 (lg.epo (lg.ntsL l) : Nat), .int .u32 (lg.nxt (lg.top (lg.epo (lg.ntsL l)) (lg.ntsL l)) : Nat), .slice A n c, .int .i64 ((frm.scan l 0 0).2 : Nat), .bool (lg.cl (lg.epo (lg.ntsL l)) (lg.lives (lg.ntsL l))).2]) ∧ lg.Rd cL 6 w' A n zs ∧ n ≤ 30000 ∧ zs.map Y.np = lg.pick (lg.notesL l) (lg.livB (lg.ntsL l)) (lg.notesL l).length ∧ Below w.heap.size w w') := by
    refine Lib.hid fun w hw => (lg.read_pos w A n c l (hB.below hB.lt hw) hc (by omega) (hL.below hL.lt hw) (hr.below hw)).mono ?_
    rintro e w' ⟨A1, n1, c1, zs, he, hRd, -, h1, -, -, hpos, hb⟩
    exact ⟨A1, n1, c1, zs, he, hRd, by omega, hpos, hb⟩
  have hNT : Hid (∀ w, Below W.heap.size W w → Calls Tryz.prog 14 #[.slice A n c] w fun e w' => ∃ A m c Ap cp ys, e = .returned (.tuple #[.slice A m c, .slice Ap m cp, .int .i64 ((frm.scan l 0 0).2 : Nat)]) ∧ lg.Rd lg.cN 7 w' A m ys ∧ lg.Rd lg.cP 1 w' Ap m ys ∧ m ≤ 40000 ∧ ys.map Y.np = lg.notesL l ∧ Below w.heap.size w w') := by
    refine Lib.hid fun w hw => (lg.notes_pos w A n c l (hB.below hB.lt hw) hc (by omega) (hr.below hw)).mono ?_
    rintro e w' ⟨A', m', c', va, ys, he, hR, ⟨Ap, cp, rfl, hRp⟩, hm, hmap, hb⟩
    exact ⟨A', m', c', Ap, cp, ys, he, hR, hRp, hm, hmap, hb⟩
  have hOF : ∀ (w : World) (A : Option Addr) (n c : Nat) (ys : List Y), lg.Rd lg.cN 7 w A n ys → n ≤ 40000 → ys.map Y.np = lg.notesL l → Calls Tryz.prog 15 #[.slice A n c] w fun e w' => ∃ A n c qs, e = .returned (.tuple #[.agg #[.string (lg.nmL (lg.ntsL l)), .int .u32 (lg.boxE (lg.ntsL l) : Nat), .int .u32 (lg.boxX (lg.ntsL l) : Nat), .slice A n c], .bool (lg.cl (lg.epo (lg.ntsL l)) (lg.lives (lg.ntsL l))).2]) ∧ lg.Rd lg.cM 4 w' A n qs ∧ nts qs = lg.boxed (lg.ntsL l) ∧ Below w.heap.size w w' := by
    intro w A n c ys hR hn hy
    have hnt : nts ys = lg.ntsL l := by
      unfold nts lg.ntsL
      rw [← hy, List.map_map]
      rfl
    refine (lg.of_any w A n c ys hR (by omega) (ys_ok hby hy)).mono ?_
    rintro e w' ⟨A1, n1, c1, qs, he, hRd, -, hq, hb⟩
    rw [hnt] at he hq
    exact ⟨A1, n1, c1, qs, he, hRd, hq, hb⟩
  have hsz : (lg.nmL (lg.ntsL l)).size ≤ 60 := nm_small _ _ (by simp) (lg.ntsL_ok hby)
  have hpm : (lg.pick (lg.notesL l) (lg.livB (lg.ntsL l)) (lg.notesL l).length).map Prod.fst = lg.lives (lg.ntsL l) := by
    rw [lg.pick_map]
    unfold lg.lives lg.ntsL
    rw [List.length_map]
  by_cases h : (lg.cl (lg.epo (lg.ntsL l)) (lg.lives (lg.ntsL l))).2 = true ∧ lg.nmL (lg.ntsL l) ≠ ⟨#[]⟩
  · have hPL : Hid (∀ x ∈ lg.pick (lg.notesL l) (lg.livB (lg.ntsL l)) (lg.notesL l).length, plc (lg.epo (lg.ntsL l)) x.1.u (lg.notesL l) = (x.2 : Int)) := Lib.hid fun x hx => live_place (ns := lg.ntsL l) rfl h.1 hx
    have e1 : lg.boxE (lg.ntsL l) = lg.epo (lg.ntsL l) := by unfold lg.boxE; rw [if_pos h.1]
    have e2 : lg.boxX (lg.ntsL l) = lg.nxt (lg.top (lg.epo (lg.ntsL l)) (lg.ntsL l)) := by unfold lg.boxX; rw [if_pos h.1]
    have e3 : lg.boxed (lg.ntsL l) = lg.lives (lg.ntsL l) := by unfold lg.boxed; rw [if_pos h.1]
    rw [e1, e2, e3, h.1] at hOF
    rw [h.1] at hRD
    rw [← hpm] at hOF
    have hOF' := Lib.hid hOF
    exact ofs_some W n c A _ _ _ _ _ _ hn h.2 (by omega) hPL hW hRD hNT hOF'
  · have h' : (lg.cl (lg.epo (lg.ntsL l)) (lg.lives (lg.ntsL l))).2 = false ∨ lg.nmL (lg.ntsL l) = ⟨#[]⟩ := by
      by_cases h1 : lg.nmL (lg.ntsL l) = ⟨#[]⟩
      · exact Or.inr h1
      · left
        cases h2 : (lg.cl (lg.epo (lg.ntsL l)) (lg.lives (lg.ntsL l))).2 with
        | false => rfl
        | true => exact absurd ⟨h2, h1⟩ h
    exact ofs_none W n c A _ _ _ _ _ _ _ _ _ _ hn h' hW hRD hNT (Lib.hid hOF)
theorem of_walk (W : World) (n c : Nat) (A : Option Addr) (l : List Nat) (hB : Bytes W A n l) (hc : n ≤ c) (hL : sumDoor.Laid W) (hr : bod.Fit W) :
    Calls Tryz.prog 4 #[.slice A n c] W fun e w' => e = .returned (.bool true) ∧ Below W.heap.size W w' := by
  by_cases hn : n ≤ 30000
  · exact of_mid W n c A l hB hn hc hL hr
  · have HW := Lib.hid (awake_any W hr.room)
    have Hr := Lib.hid hr.room
    have hd := decide_eq_true (show (30000 : Int) < (n : Int) by omega)
    clear hB hr hn hL
    go_enter Tryz.func4, Tryz.ntmps4
    go_wp2_with fail
    refine HW.out.mono ?_
    rintro e w1 ⟨rfl, hb⟩
    have HB1 := Lib.hid hb
    have HW1 := Lib.hid (awake_any w1 (Hr.out.below hb))
    clear hb
    go_wp2_with fail
    refine HW1.out.mono ?_
    rintro e w2 ⟨rfl, hb⟩
    have HB2 := Lib.hid hb
    clear hb
    go_wp2_with fail
    go_ret
    exact ⟨rfl, HB1.out.trans (HB2.out.mono HB1.out.size)⟩
end Go.Proofs.YtklmbiekpilkhaaGreatDoor.idx
