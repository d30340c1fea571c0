/- What a log says. -/
import Derived.Test.YtklmbiekpilkhaaGreatDoorMl1
import Derived.Lib.SliceRun
import Derived.Test.YtklmbiekpilkhaaGreatDoorMc3
namespace Go.Proofs.YtklmbiekpilkhaaGreatDoor.lg
open Go.ChangeShapes Go.WideShapes Go.ChangeAt Go.RowKit
open Go.Proofs.YtklmbiekpilkhaaGreatDoor.codec (Bytes)
open Go.Proofs.YtklmbiekpilkhaaGreatDoor.frm (R X Reads Recs scan)
open Go.Proofs.YtklmbiekpilkhaaGreatDoor.bod (Fit cell_at)
set_option linter.unusedVariables false
set_option maxRecDepth 100000
set_option linter.unusedSimpArgs false

theorem six {w : World} {g : Nat} {t : TypeId} {cs : Array Value} (h : w.heap[g]? = some (.cells cs t (0, 0))) (hs : cs.size = 6) (v0 v1 v2 v3 v4 v5 : Value) :
    ((((((w.setCell ⟨g, 0, none⟩ v0).setCell ⟨g, 1, none⟩ v1).setCell ⟨g, 2, none⟩ v2).setCell ⟨g, 3, none⟩ v3).setCell ⟨g, 4, none⟩ v4).setCell ⟨g, 5, none⟩ v5).heap[g]? = some (.cells #[v0, v1, v2, v3, v4, v5] t (0, 0)) ∧
    (∀ k, k ≠ g → ((((((w.setCell ⟨g, 0, none⟩ v0).setCell ⟨g, 1, none⟩ v1).setCell ⟨g, 2, none⟩ v2).setCell ⟨g, 3, none⟩ v3).setCell ⟨g, 4, none⟩ v4).setCell ⟨g, 5, none⟩ v5).heap[k]? = w.heap[k]?) ∧
    ∀ (B : Nat) (a : World), Below B a w → B ≤ g → Below B a ((((((w.setCell ⟨g, 0, none⟩ v0).setCell ⟨g, 1, none⟩ v1).setCell ⟨g, 2, none⟩ v2).setCell ⟨g, 3, none⟩ v3).setCell ⟨g, 4, none⟩ v4).setCell ⟨g, 5, none⟩ v5) := by
  refine ⟨?_, fun k hk => by rw [heap_setCell_other _ _ _ _ hk, heap_setCell_other _ _ _ _ hk, heap_setCell_other _ _ _ _ hk, heap_setCell_other _ _ _ _ hk, heap_setCell_other _ _ _ _ hk, heap_setCell_other _ _ _ _ hk], fun B a hb hg => (((((hb.setCell (p := ⟨g, 0, none⟩) hg _).setCell (p := ⟨g, 1, none⟩) hg _).setCell (p := ⟨g, 2, none⟩) hg _).setCell (p := ⟨g, 3, none⟩) hg _).setCell (p := ⟨g, 4, none⟩) hg _).setCell (p := ⟨g, 5, none⟩) hg _⟩
  rw [heap_setCell_same _ g 5 _ t _ (heap_setCell_same _ g 4 _ t _ (heap_setCell_same _ g 3 _ t _ (heap_setCell_same _ g 2 _ t _ (heap_setCell_same _ g 1 _ t _ (heap_setCell_same _ g 0 _ t _ h)))))]
  obtain ⟨l⟩ := cs
  have hl : l.length = 6 := hs
  match l, hl with
  | [a0, a1, a2, a3, a4, a5], _ => rfl
theorem four {w : World} {g : Nat} {t : TypeId} {cs : Array Value} (h : w.heap[g]? = some (.cells cs t (0, 0))) (hs : cs.size = 4) (v0 v1 v2 v3 : Value) :
    ((((w.setCell ⟨g, 0, none⟩ v0).setCell ⟨g, 1, none⟩ v1).setCell ⟨g, 2, none⟩ v2).setCell ⟨g, 3, none⟩ v3).heap[g]? = some (.cells #[v0, v1, v2, v3] t (0, 0)) ∧
    (∀ k, k ≠ g → ((((w.setCell ⟨g, 0, none⟩ v0).setCell ⟨g, 1, none⟩ v1).setCell ⟨g, 2, none⟩ v2).setCell ⟨g, 3, none⟩ v3).heap[k]? = w.heap[k]?) ∧
    ∀ (B : Nat) (a : World), Below B a w → B ≤ g → Below B a ((((w.setCell ⟨g, 0, none⟩ v0).setCell ⟨g, 1, none⟩ v1).setCell ⟨g, 2, none⟩ v2).setCell ⟨g, 3, none⟩ v3) := by
  refine ⟨?_, fun k hk => by rw [heap_setCell_other _ _ _ _ hk, heap_setCell_other _ _ _ _ hk, heap_setCell_other _ _ _ _ hk, heap_setCell_other _ _ _ _ hk], fun B a hb hg => (((hb.setCell (p := ⟨g, 0, none⟩) hg _).setCell (p := ⟨g, 1, none⟩) hg _).setCell (p := ⟨g, 2, none⟩) hg _).setCell (p := ⟨g, 3, none⟩) hg _⟩
  rw [heap_setCell_same _ g 3 _ t _ (heap_setCell_same _ g 2 _ t _ (heap_setCell_same _ g 1 _ t _ (heap_setCell_same _ g 0 _ t _ h)))]
  obtain ⟨l⟩ := cs
  have hl : l.length = 4 := hs
  match l, hl with
  | [a0, a1, a2, a3], _ => rfl
theorem logSize (cs : Array Value) (h : cs.size = 6) : (Tryz.prog.info? 48).map (·.size) = some cs.size := by
  rw [h]
  kernel_rfl
/-- What Read answers. -/
def ReadAns (W : World) (l : List Nat) (e : Ending) (w' : World) : Prop := ∃ A n c zs, e = .returned (.agg #[.string (nmL (ntsL l)), .int .u32 (epo (ntsL l) : Nat), .int .u32 (nxt (top (epo (ntsL l)) (ntsL l)) : Nat), .slice A n c, .int .i64 ((scan l 0 0).2 : Nat), .bool (cl (epo (ntsL l)) (lives (ntsL l))).2]) ∧ Rd cL 6 w' A n zs ∧ n ≤ c ∧ n ≤ l.length ∧ (A = none → c = 0) ∧ nts zs = lives (ntsL l) ∧ Below W.heap.size W w'
set_option maxHeartbeats 2000000 in
theorem read_any (W : World) (A : Option Addr) (n c : Nat) (l : List Nat) (hB : Bytes W A n l) (hc : n ≤ c) (hn : n ≤ 16000000) (hL : sumDoor.Laid W) (hr : Fit W) :
    Calls Tryz.prog 13 #[.slice A n c] W fun e w' => ReadAns W l e w' := by
  obtain ⟨W1, hW1⟩ : ∃ W1, W1 = W.alloc (.cells #[.string ⟨#[]⟩, .int .u32 0, .int .u32 0, .slice none 0 0, .int .i64 0, .bool false] 48) := ⟨_, rfl⟩
  have HBW := Lib.hid (show Below W.heap.size W W1 by rw [hW1]; exact (Below.refl _ _).alloc (Nat.le_refl _) _)
  have HWS := Lib.hid (show W.heap.size < W1.heap.size by rw [hW1]; simp)
  have HRC := Lib.hid (fun (w1 : World) (h : Below W1.heap.size W1 w1) => (bod.boxed (w := W) (o := .cells #[.string ⟨#[]⟩, .int .u32 0, .int .u32 0, .slice none 0 0, .int .i64 0, .bool false] 48) (w1 := w1) (by rw [← hW1]; exact h)).1)
  have HFit := Lib.hid (fun (w1 : World) (h : Below W1.heap.size W1 w1) => hr.below (HBW.out.trans (h.mono HBW.out.size)))
  have HSC := Lib.hid (frm.scan_any W1 A n c l (hB.below hB.lt HBW.out) hc hn (hL.below hL.lt HBW.out))
  have HLN := Lib.hid hB
  have HW1 := Lib.hid hW1
  have HN := Lib.hid hn
  have hgl := notesL_good hB.2.1
  have HGL := Lib.hid hgl
  have HSG := Lib.hid (scan_good l)
  have HSL := Lib.hid (frm.scan_length l)
  clear hW1 hB hL hr hn hgl
  go_enter Tryz.func13, Tryz.ntmps13
  go_wp2_with fail
  rw [← HW1.out]
  refine HSC.out.mono ?_
  rintro e w1 ⟨v, torn, rfl, xs, hr, hb1, hs⟩
  obtain ⟨A1, c1, rfl, hc1, hR1⟩ := hr.reads
  have hxl : xs.length ≤ 16000000 := by
    have h1 := HSL.out
    rw [hs] at h1
    have h2 := HLN.out.1
    have h3 := HN.out
    simp at h1
    omega
  have HXS := Lib.hid hs
  have HB1 := Lib.hid hb1
  have HN1 := Lib.hid (notesOf_any w1 A1 xs.length c1 xs hR1 (fun x hx => by
    have h1 := HSG.out.1 x.r (by rw [hs]; exact List.mem_map.2 ⟨x, hx, rfl⟩)
    exact h1.short) hxl (HFit.out _ hb1))
  clear hr hb1 hs hR1 HSC hc1
  go_wp2_with fail
  refine HN1.out.mono ?_
  rintro e w2 ⟨v2, rfl, ys, o1, o2, o3, o4, o5⟩
  have HFR := Lib.hid (fun y hy ad e => Nat.le_trans HB1.out.size (o5 y hy ad e))
  have hys : ys.map Y.np = notesL l := by
    rw [o3, List.take_of_length_le (by simp)]
    unfold notesL
    rw [HXS.out]
  have hyn : nts ys = ntsL l := by
    unfold ntsL
    rw [← hys, List.map_map]
    rfl
  have hok : ∀ y ∈ ys, y.n.ok ∧ y.p ≤ 16000000 := by
    intro y hy
    have h1 := HGL.out.1 y.np (by rw [← hys]; exact List.mem_map.2 ⟨y, hy, rfl⟩)
    have h2 := HLN.out.1
    have h3 := HN.out
    exact ⟨h1.1, by have := h1.2; show y.np.2 ≤ _; omega⟩
  have hrise : (ys.map Y.np).Pairwise (fun a b => a.2 < b.2) := by rw [hys]; exact HGL.out.2
  obtain ⟨A2, c2, rfl, hc2, -, hR2⟩ := o1.rd fA
  have HB2 := Lib.hid (HB1.out.trans (o2.mono HB1.out.size))
  have HR2 := Lib.hid hR2
  have HYN := Lib.hid hyn
  have HOK := Lib.hid hok
  have HRI := Lib.hid hrise
  have hyl : ys.length ≤ 16000000 := by omega
  have HYL := Lib.hid (show ys.length ≤ l.length by
    have h1 := HSL.out
    rw [HXS.out] at h1
    simp at h1
    omega)
  have HYL2 := Lib.hid hyl
  clear hys hyn hok hrise o1 o2 o3 o4 o5 hR2 HN1 hc2 hyl hxl
  have HY0 : Hid ((nts ys).length = ys.length) := Lib.hid (nts_len ys)
  generalize hNN : ys.length = N at *
  have HNN := Lib.hid hNN
  clear hNN
  go_wp2_with fail
  refine (lastName_any w2 A2 N c2 ys HR2.out HYL2.out).mono ?_
  rintro e w3 ⟨rfl, hb3⟩
  have HB3 := Lib.hid (HB2.out.trans (hb3.mono HB2.out.size))
  have HR3 := Lib.hid (HR2.out.below hb3)
  clear hb3
  go_wp2_with fail
  refine (greatestEpoch_any w3 A2 N c2 ys HR3.out HYL2.out).mono ?_
  rintro e w4 ⟨rfl, hb4⟩
  have HB4 := Lib.hid (HB3.out.trans (hb4.mono HB3.out.size))
  have HR4 := Lib.hid (HR3.out.below hb4)
  clear hb4 HR2 HR3
  go_wp2_with fail
  refine (liveOf_any w4 A2 N c2 ys HR4.out HYL2.out HOK.out HRI.out).mono ?_
  rintro e w5 ⟨v5, rfl, o5, hb5⟩
  have hlv : nts (pick ys (livB (nts ys)) N) = lives (ntsL l) := by
    unfold nts lives
    rw [pick_map, ← HYN.out, HY0.out]
    rfl
  have hll : (pick ys (livB (nts ys)) N).length ≤ N := pick_len _ _ _
  obtain ⟨A5, c5, rfl, hc5, hA5, hR5⟩ := o5.rd fL
  have HOB := Lib.hid (show ∀ ad, A5 = some ad → W1.heap.size ≤ ad.block from fun ad e => by
    subst e
    exact Nat.le_trans HB4.out.size (o5.lt rfl).1)
  have HOZ := Lib.hid (show ∀ y ∈ pick ys (livB (nts ys)) N, ∀ ad, y.A = some ad → W1.heap.size ≤ ad.block from fun y hy => HFR.out y (pick_mem _ hy))
  have HLV := Lib.hid hlv
  have HLL := Lib.hid hll
  have HC5 := Lib.hid hc5
  have HA5 := Lib.hid hA5
  have HR5 := Lib.hid hR5
  have HB5 := Lib.hid (HB4.out.trans (hb5.mono HB4.out.size))
  have HR4' := Lib.hid (HR4.out.below hb5)
  clear hlv hll hc5 hA5 hR5 o5 hb5 HR4
  generalize hzs : pick ys (livB (nts ys)) N = zs at *
  generalize hM : zs.length = M at *
  have HM := Lib.hid hM
  clear hM hzs
  go_wp2_with fail
  rw [HYN.out]
  obtain ⟨S, hS⟩ : ∃ S, S = nmL (ntsL l) := ⟨_, rfl⟩
  obtain ⟨E, hE⟩ : ∃ E, E = epo (ntsL l) := ⟨_, rfl⟩
  rw [← hS, ← hE]
  obtain ⟨w6, hw6⟩ : ∃ w6, w6 = w5.alloc (.cells #[.string S, .int .u32 (E : Nat), .int .u32 0, .slice A5 M c5, .int .i64 (torn : Nat), .bool false] 48) := ⟨_, rfl⟩
  have HSS := Lib.hid hS
  have HEE := Lib.hid hE
  have HW6 := Lib.hid hw6
  have HB56 := Lib.hid (show Below w5.heap.size w5 w6 by rw [hw6]; exact (Below.refl _ _).alloc (Nat.le_refl _) _)
  have HLC := Lib.hid (fun (w1 : World) (h : Below w6.heap.size w6 w1) => (bod.boxed (w := w5) (o := .cells #[.string S, .int .u32 (E : Nat), .int .u32 0, .slice A5 M c5, .int .i64 (torn : Nat), .bool false] 48) (w1 := w1) (by rw [← hw6]; exact h)).1)
  have HL5 := Lib.hid (show w5.heap.size < w6.heap.size by rw [hw6]; simp)
  rw [← hw6]
  clear hS hE hw6
  refine (nextUID_any w6 A2 N c2 E ys (HR4'.out.below HB56.out) HYL2.out (fun y hy => (HOK.out y hy).1)).mono ?_
  rintro e w7 ⟨rfl, hb7⟩
  rw [HYN.out]
  obtain ⟨X7, hX7⟩ : ∃ X7, X7 = nxt (top E (ntsL l)) := ⟨_, rfl⟩
  rw [← hX7]
  have HX7 := Lib.hid hX7
  have HB7 := Lib.hid hb7
  have HL7 := Lib.hid (HLC.out w7 hb7)
  have c2' := cell_at (HLC.out w7 hb7) 2 _ rfl
  have f2' := frozen_of_row _ _ 2 _ _ (HLC.out w7 hb7)
  have c1' := cell_at (HLC.out w7 hb7) 1 _ rfl
  have c3' := cell_at (HLC.out w7 hb7) 3 _ rfl
  clear hX7 hb7
  have HWL := Lib.hid (Nat.lt_of_lt_of_le HL5.out HB7.out.size)
  generalize hLL : w5.heap.size = L5 at *
  have HLL5 := Lib.hid hLL
  clear hLL
  go_wp2_with fail
  obtain ⟨w8, hw8⟩ : ∃ w8, w8 = w7.setCell ⟨L5, 2, none⟩ (.int .u32 (X7 : Nat)) := ⟨_, rfl⟩
  rw [← hw8]
  have HL8 := Lib.hid (show w8.heap[L5]? = some (.cells #[.string S, .int .u32 (E : Nat), .int .u32 (X7 : Nat), .slice A5 M c5, .int .i64 (torn : Nat), .bool false] 48 (0, 0)) by rw [hw8, heap_setCell_same _ _ _ _ _ _ HL7.out]; rfl)
  have HB58 := Lib.hid (show Below L5 w5 w8 by rw [hw8]; exact ((HLL5.out ▸ HB56.out : Below L5 w5 w6).trans (HB7.out.mono (HLL5.out ▸ HB56.out.size))).setCell (Nat.le_refl _) _)
  have HL58 := Lib.hid (show L5 < w8.heap.size by rw [hw8]; simpa using HWL.out)
  clear hw8 c1' c2' c3' f2' HL7 HLC HB7 HB56
  refine (isClean_any w8 A5 M c5 E zs (HR5.out.below (by rw [HLL5.out]; exact HB58.out)) (by have h1 := HLL.out; have h2 := HYL2.out; omega)).mono ?_
  rintro e w9 ⟨rfl, hb9⟩
  rw [HLV.out]
  obtain ⟨CL, hCL⟩ : ∃ CL, CL = (cl E (lives (ntsL l))).2 := ⟨_, rfl⟩
  rw [← hCL]
  have HCL := Lib.hid hCL
  have h9 : w9.heap[L5]? = some (.cells #[.string S, .int .u32 (E : Nat), .int .u32 (X7 : Nat), .slice A5 M c5, .int .i64 (torn : Nat), .bool false] 48 (0, 0)) := by rw [hb9.block _ HL58.out]; exact HL8.out
  have hb59 : Below L5 w5 w9 := HB58.out.trans (hb9.mono (Nat.le_of_lt HL58.out))
  have hb19 : Below W1.heap.size W1 w9 := HB5.out.trans (hb59.mono (by rw [← HLL5.out]; exact HB5.out.size))
  have hLW : W.heap.size < L5 := Nat.lt_of_lt_of_le HWS.out (by rw [← HLL5.out]; exact HB5.out.size)
  have H9 := Lib.hid h9
  have HB59 := Lib.hid hb59
  have HB19 := Lib.hid hb19
  have e0 := cell_at h9 0 _ rfl
  have e1 := cell_at h9 1 _ rfl
  have e2 := cell_at h9 2 _ rfl
  have e3 := cell_at h9 3 _ rfl
  have e4 := cell_at h9 4 _ rfl
  have e5 := cell_at h9 5 _ rfl
  have g5 := frozen_of_row _ _ 5 _ _ h9
  have r0 := cell_at (HRC.out _ hb19) 0 _ rfl
  have s0 := frozen_of_row _ _ 0 _ _ (HRC.out _ hb19)
  have r1 := cell_at (HRC.out _ hb19) 1 _ rfl
  have s1 := frozen_of_row _ _ 1 _ _ (HRC.out _ hb19)
  have r2 := cell_at (HRC.out _ hb19) 2 _ rfl
  have s2 := frozen_of_row _ _ 2 _ _ (HRC.out _ hb19)
  have r3 := cell_at (HRC.out _ hb19) 3 _ rfl
  have s3 := frozen_of_row _ _ 3 _ _ (HRC.out _ hb19)
  have r4 := cell_at (HRC.out _ hb19) 4 _ rfl
  have s4 := frozen_of_row _ _ 4 _ _ (HRC.out _ hb19)
  have r5 := cell_at (HRC.out _ hb19) 5 _ rfl
  have s5 := frozen_of_row _ _ 5 _ _ (HRC.out _ hb19)
  clear hCL h9 hb59 hb19 hb9
  go_wp2_with fail
  have hW := HRC.out _ HB19.out
  have h10 : (w9.setCell ⟨L5, 5, none⟩ (.bool CL)).heap[W.heap.size]? = some (.cells #[.string ⟨#[]⟩, .int .u32 0, .int .u32 0, .slice none 0 0, .int .i64 0, .bool false] 48 (0, 0)) := by
    rw [heap_setCell_other _ _ _ _ (by show W.heap.size ≠ L5; omega)]
    exact hW
  obtain ⟨k1, k2, k3⟩ := six h10 rfl (.string S) (.int .u32 (E : Nat)) (.int .u32 (X7 : Nat)) (.slice A5 M c5) (.int .i64 (torn : Nat)) (.bool CL)
  have hb10 : Below L5 w5 (w9.setCell ⟨L5, 5, none⟩ (.bool CL)) := HB59.out.setCell (Nat.le_refl _) _
  refine bodyPost_ret (results_cell_row Tryz.results13 _ _ W.heap.size _ _ _ _ rfl k1 Tryz.underlying48 rfl (logSize _ rfl)) rfl ⟨A5, M, c5, zs, ?_, ?_, HC5.out, ?_, HA5.out, HLV.out, ?_⟩
  · rw [HXS.out, HSS.out, HX7.out, HCL.out, HEE.out]
  · exact ((HR5.out.below (by rw [HLL5.out]; exact hb10)).other _ k2 (fun ad e => by
      have h1 := HOB.out ad e
      have h2 := HWS.out
      omega) (fun y hy ad e _ => by
      have h1 := HOZ.out y hy ad e
      have h2 := HWS.out
      omega))
  · have h1 := HLL.out
    have h2 := HYL.out
    omega
  · exact k3 _ _ (HBW.out.trans ((HB19.out.setCell (p := ⟨L5, 5, none⟩) (by show W1.heap.size ≤ L5; rw [← HLL5.out]; exact HB5.out.size) _).mono HBW.out.size)) (Nat.le_refl _)
end Go.Proofs.YtklmbiekpilkhaaGreatDoor.lg
namespace Go.Proofs.YtklmbiekpilkhaaGreatDoor.lg
open Go.ChangeShapes Go.WideShapes Go.ChangeAt Go.RowKit
open Go.Proofs.YtklmbiekpilkhaaGreatDoor.codec (Bytes)
open Go.Proofs.YtklmbiekpilkhaaGreatDoor.frm (R X Reads Recs scan)
open Go.Proofs.YtklmbiekpilkhaaGreatDoor.bod (Fit cell_at)
set_option linter.unusedVariables false
set_option maxRecDepth 100000
set_option linter.unusedSimpArgs false

/-- What Read answers. -/
def ReadPos (W : World) (l : List Nat) (e : Ending) (w' : World) : Prop := ∃ A n c zs, e = .returned (.agg #[.string (nmL (ntsL l)), .int .u32 (epo (ntsL l) : Nat), .int .u32 (nxt (top (epo (ntsL l)) (ntsL l)) : Nat), .slice A n c, .int .i64 ((scan l 0 0).2 : Nat), .bool (cl (epo (ntsL l)) (lives (ntsL l))).2]) ∧ Rd cL 6 w' A n zs ∧ n ≤ c ∧ n ≤ l.length ∧ (A = none → c = 0) ∧ nts zs = lives (ntsL l) ∧ zs.map Y.np = pick (notesL l) (livB (ntsL l)) (notesL l).length ∧ Below W.heap.size W w'
set_option maxHeartbeats 2000000 in
theorem read_pos (W : World) (A : Option Addr) (n c : Nat) (l : List Nat) (hB : Bytes W A n l) (hc : n ≤ c) (hn : n ≤ 16000000) (hL : sumDoor.Laid W) (hr : Fit W) :
    Calls Tryz.prog 13 #[.slice A n c] W fun e w' => ReadPos W l e w' := by
  obtain ⟨W1, hW1⟩ : ∃ W1, W1 = W.alloc (.cells #[.string ⟨#[]⟩, .int .u32 0, .int .u32 0, .slice none 0 0, .int .i64 0, .bool false] 48) := ⟨_, rfl⟩
  have HBW := Lib.hid (show Below W.heap.size W W1 by rw [hW1]; exact (Below.refl _ _).alloc (Nat.le_refl _) _)
  have HWS := Lib.hid (show W.heap.size < W1.heap.size by rw [hW1]; simp)
  have HRC := Lib.hid (fun (w1 : World) (h : Below W1.heap.size W1 w1) => (bod.boxed (w := W) (o := .cells #[.string ⟨#[]⟩, .int .u32 0, .int .u32 0, .slice none 0 0, .int .i64 0, .bool false] 48) (w1 := w1) (by rw [← hW1]; exact h)).1)
  have HFit := Lib.hid (fun (w1 : World) (h : Below W1.heap.size W1 w1) => hr.below (HBW.out.trans (h.mono HBW.out.size)))
  have HSC := Lib.hid (frm.scan_any W1 A n c l (hB.below hB.lt HBW.out) hc hn (hL.below hL.lt HBW.out))
  have HLN := Lib.hid hB
  have HW1 := Lib.hid hW1
  have HN := Lib.hid hn
  have hgl := notesL_good hB.2.1
  have HGL := Lib.hid hgl
  have HSG := Lib.hid (scan_good l)
  have HSL := Lib.hid (frm.scan_length l)
  clear hW1 hB hL hr hn hgl
  go_enter Tryz.func13, Tryz.ntmps13
  go_wp2_with fail
  rw [← HW1.out]
  refine HSC.out.mono ?_
  rintro e w1 ⟨v, torn, rfl, xs, hr, hb1, hs⟩
  obtain ⟨A1, c1, rfl, hc1, hR1⟩ := hr.reads
  have hxl : xs.length ≤ 16000000 := by
    have h1 := HSL.out
    rw [hs] at h1
    have h2 := HLN.out.1
    have h3 := HN.out
    simp at h1
    omega
  have HXS := Lib.hid hs
  have HB1 := Lib.hid hb1
  have HN1 := Lib.hid (notesOf_any w1 A1 xs.length c1 xs hR1 (fun x hx => by
    have h1 := HSG.out.1 x.r (by rw [hs]; exact List.mem_map.2 ⟨x, hx, rfl⟩)
    exact h1.short) hxl (HFit.out _ hb1))
  clear hr hb1 hs hR1 HSC hc1
  go_wp2_with fail
  refine HN1.out.mono ?_
  rintro e w2 ⟨v2, rfl, ys, o1, o2, o3, o4, o5⟩
  have HFR := Lib.hid (fun y hy ad e => Nat.le_trans HB1.out.size (o5 y hy ad e))
  have hys : ys.map Y.np = notesL l := by
    rw [o3, List.take_of_length_le (by simp)]
    unfold notesL
    rw [HXS.out]
  have hyn : nts ys = ntsL l := by
    unfold ntsL
    rw [← hys, List.map_map]
    rfl
  have HYS := Lib.hid hys
  have hok : ∀ y ∈ ys, y.n.ok ∧ y.p ≤ 16000000 := by
    intro y hy
    have h1 := HGL.out.1 y.np (by rw [← hys]; exact List.mem_map.2 ⟨y, hy, rfl⟩)
    have h2 := HLN.out.1
    have h3 := HN.out
    exact ⟨h1.1, by have := h1.2; show y.np.2 ≤ _; omega⟩
  have hrise : (ys.map Y.np).Pairwise (fun a b => a.2 < b.2) := by rw [hys]; exact HGL.out.2
  obtain ⟨A2, c2, rfl, hc2, -, hR2⟩ := o1.rd fA
  have HB2 := Lib.hid (HB1.out.trans (o2.mono HB1.out.size))
  have HR2 := Lib.hid hR2
  have HYN := Lib.hid hyn
  have HOK := Lib.hid hok
  have HRI := Lib.hid hrise
  have hyl : ys.length ≤ 16000000 := by omega
  have HYL := Lib.hid (show ys.length ≤ l.length by
    have h1 := HSL.out
    rw [HXS.out] at h1
    simp at h1
    omega)
  have HYL2 := Lib.hid hyl
  clear hys hyn hok hrise o1 o2 o3 o4 o5 hR2 HN1 hc2 hyl hxl
  have HY0 : Hid ((nts ys).length = ys.length) := Lib.hid (nts_len ys)
  generalize hNN : ys.length = N at *
  have HNN := Lib.hid hNN
  clear hNN
  go_wp2_with fail
  refine (lastName_any w2 A2 N c2 ys HR2.out HYL2.out).mono ?_
  rintro e w3 ⟨rfl, hb3⟩
  have HB3 := Lib.hid (HB2.out.trans (hb3.mono HB2.out.size))
  have HR3 := Lib.hid (HR2.out.below hb3)
  clear hb3
  go_wp2_with fail
  refine (greatestEpoch_any w3 A2 N c2 ys HR3.out HYL2.out).mono ?_
  rintro e w4 ⟨rfl, hb4⟩
  have HB4 := Lib.hid (HB3.out.trans (hb4.mono HB3.out.size))
  have HR4 := Lib.hid (HR3.out.below hb4)
  clear hb4 HR2 HR3
  go_wp2_with fail
  refine (liveOf_any w4 A2 N c2 ys HR4.out HYL2.out HOK.out HRI.out).mono ?_
  rintro e w5 ⟨v5, rfl, o5, hb5⟩
  have hlv : nts (pick ys (livB (nts ys)) N) = lives (ntsL l) := by
    unfold nts lives
    rw [pick_map, ← HYN.out, HY0.out]
    rfl
  have hpo : (pick ys (livB (nts ys)) N).map Y.np = pick (notesL l) (livB (ntsL l)) (notesL l).length := by
    rw [pick_map, HYS.out, HYN.out, ← HNN.out, ← HYS.out, List.length_map]
  have HPO := Lib.hid hpo
  have hll : (pick ys (livB (nts ys)) N).length ≤ N := pick_len _ _ _
  obtain ⟨A5, c5, rfl, hc5, hA5, hR5⟩ := o5.rd fL
  have HOB := Lib.hid (show ∀ ad, A5 = some ad → W1.heap.size ≤ ad.block from fun ad e => by
    subst e
    exact Nat.le_trans HB4.out.size (o5.lt rfl).1)
  have HOZ := Lib.hid (show ∀ y ∈ pick ys (livB (nts ys)) N, ∀ ad, y.A = some ad → W1.heap.size ≤ ad.block from fun y hy => HFR.out y (pick_mem _ hy))
  have HLV := Lib.hid hlv
  have HLL := Lib.hid hll
  have HC5 := Lib.hid hc5
  have HA5 := Lib.hid hA5
  have HR5 := Lib.hid hR5
  have HB5 := Lib.hid (HB4.out.trans (hb5.mono HB4.out.size))
  have HR4' := Lib.hid (HR4.out.below hb5)
  clear hpo hlv hll hc5 hA5 hR5 o5 hb5 HR4
  generalize hzs : pick ys (livB (nts ys)) N = zs at *
  generalize hM : zs.length = M at *
  have HM := Lib.hid hM
  clear hM hzs
  go_wp2_with fail
  rw [HYN.out]
  obtain ⟨S, hS⟩ : ∃ S, S = nmL (ntsL l) := ⟨_, rfl⟩
  obtain ⟨E, hE⟩ : ∃ E, E = epo (ntsL l) := ⟨_, rfl⟩
  rw [← hS, ← hE]
  obtain ⟨w6, hw6⟩ : ∃ w6, w6 = w5.alloc (.cells #[.string S, .int .u32 (E : Nat), .int .u32 0, .slice A5 M c5, .int .i64 (torn : Nat), .bool false] 48) := ⟨_, rfl⟩
  have HSS := Lib.hid hS
  have HEE := Lib.hid hE
  have HW6 := Lib.hid hw6
  have HB56 := Lib.hid (show Below w5.heap.size w5 w6 by rw [hw6]; exact (Below.refl _ _).alloc (Nat.le_refl _) _)
  have HLC := Lib.hid (fun (w1 : World) (h : Below w6.heap.size w6 w1) => (bod.boxed (w := w5) (o := .cells #[.string S, .int .u32 (E : Nat), .int .u32 0, .slice A5 M c5, .int .i64 (torn : Nat), .bool false] 48) (w1 := w1) (by rw [← hw6]; exact h)).1)
  have HL5 := Lib.hid (show w5.heap.size < w6.heap.size by rw [hw6]; simp)
  rw [← hw6]
  clear hS hE hw6
  refine (nextUID_any w6 A2 N c2 E ys (HR4'.out.below HB56.out) HYL2.out (fun y hy => (HOK.out y hy).1)).mono ?_
  rintro e w7 ⟨rfl, hb7⟩
  rw [HYN.out]
  obtain ⟨X7, hX7⟩ : ∃ X7, X7 = nxt (top E (ntsL l)) := ⟨_, rfl⟩
  rw [← hX7]
  have HX7 := Lib.hid hX7
  have HB7 := Lib.hid hb7
  have HL7 := Lib.hid (HLC.out w7 hb7)
  have c2' := cell_at (HLC.out w7 hb7) 2 _ rfl
  have f2' := frozen_of_row _ _ 2 _ _ (HLC.out w7 hb7)
  have c1' := cell_at (HLC.out w7 hb7) 1 _ rfl
  have c3' := cell_at (HLC.out w7 hb7) 3 _ rfl
  clear hX7 hb7
  have HWL := Lib.hid (Nat.lt_of_lt_of_le HL5.out HB7.out.size)
  generalize hLL : w5.heap.size = L5 at *
  have HLL5 := Lib.hid hLL
  clear hLL
  go_wp2_with fail
  obtain ⟨w8, hw8⟩ : ∃ w8, w8 = w7.setCell ⟨L5, 2, none⟩ (.int .u32 (X7 : Nat)) := ⟨_, rfl⟩
  rw [← hw8]
  have HL8 := Lib.hid (show w8.heap[L5]? = some (.cells #[.string S, .int .u32 (E : Nat), .int .u32 (X7 : Nat), .slice A5 M c5, .int .i64 (torn : Nat), .bool false] 48 (0, 0)) by rw [hw8, heap_setCell_same _ _ _ _ _ _ HL7.out]; rfl)
  have HB58 := Lib.hid (show Below L5 w5 w8 by rw [hw8]; exact ((HLL5.out ▸ HB56.out : Below L5 w5 w6).trans (HB7.out.mono (HLL5.out ▸ HB56.out.size))).setCell (Nat.le_refl _) _)
  have HL58 := Lib.hid (show L5 < w8.heap.size by rw [hw8]; simpa using HWL.out)
  clear hw8 c1' c2' c3' f2' HL7 HLC HB7 HB56
  refine (isClean_any w8 A5 M c5 E zs (HR5.out.below (by rw [HLL5.out]; exact HB58.out)) (by have h1 := HLL.out; have h2 := HYL2.out; omega)).mono ?_
  rintro e w9 ⟨rfl, hb9⟩
  rw [HLV.out]
  obtain ⟨CL, hCL⟩ : ∃ CL, CL = (cl E (lives (ntsL l))).2 := ⟨_, rfl⟩
  rw [← hCL]
  have HCL := Lib.hid hCL
  have h9 : w9.heap[L5]? = some (.cells #[.string S, .int .u32 (E : Nat), .int .u32 (X7 : Nat), .slice A5 M c5, .int .i64 (torn : Nat), .bool false] 48 (0, 0)) := by rw [hb9.block _ HL58.out]; exact HL8.out
  have hb59 : Below L5 w5 w9 := HB58.out.trans (hb9.mono (Nat.le_of_lt HL58.out))
  have hb19 : Below W1.heap.size W1 w9 := HB5.out.trans (hb59.mono (by rw [← HLL5.out]; exact HB5.out.size))
  have hLW : W.heap.size < L5 := Nat.lt_of_lt_of_le HWS.out (by rw [← HLL5.out]; exact HB5.out.size)
  have H9 := Lib.hid h9
  have HB59 := Lib.hid hb59
  have HB19 := Lib.hid hb19
  have e0 := cell_at h9 0 _ rfl
  have e1 := cell_at h9 1 _ rfl
  have e2 := cell_at h9 2 _ rfl
  have e3 := cell_at h9 3 _ rfl
  have e4 := cell_at h9 4 _ rfl
  have e5 := cell_at h9 5 _ rfl
  have g5 := frozen_of_row _ _ 5 _ _ h9
  have r0 := cell_at (HRC.out _ hb19) 0 _ rfl
  have s0 := frozen_of_row _ _ 0 _ _ (HRC.out _ hb19)
  have r1 := cell_at (HRC.out _ hb19) 1 _ rfl
  have s1 := frozen_of_row _ _ 1 _ _ (HRC.out _ hb19)
  have r2 := cell_at (HRC.out _ hb19) 2 _ rfl
  have s2 := frozen_of_row _ _ 2 _ _ (HRC.out _ hb19)
  have r3 := cell_at (HRC.out _ hb19) 3 _ rfl
  have s3 := frozen_of_row _ _ 3 _ _ (HRC.out _ hb19)
  have r4 := cell_at (HRC.out _ hb19) 4 _ rfl
  have s4 := frozen_of_row _ _ 4 _ _ (HRC.out _ hb19)
  have r5 := cell_at (HRC.out _ hb19) 5 _ rfl
  have s5 := frozen_of_row _ _ 5 _ _ (HRC.out _ hb19)
  clear hCL h9 hb59 hb19 hb9
  go_wp2_with fail
  have hW := HRC.out _ HB19.out
  have h10 : (w9.setCell ⟨L5, 5, none⟩ (.bool CL)).heap[W.heap.size]? = some (.cells #[.string ⟨#[]⟩, .int .u32 0, .int .u32 0, .slice none 0 0, .int .i64 0, .bool false] 48 (0, 0)) := by
    rw [heap_setCell_other _ _ _ _ (by show W.heap.size ≠ L5; omega)]
    exact hW
  obtain ⟨k1, k2, k3⟩ := six h10 rfl (.string S) (.int .u32 (E : Nat)) (.int .u32 (X7 : Nat)) (.slice A5 M c5) (.int .i64 (torn : Nat)) (.bool CL)
  have hb10 : Below L5 w5 (w9.setCell ⟨L5, 5, none⟩ (.bool CL)) := HB59.out.setCell (Nat.le_refl _) _
  refine bodyPost_ret (results_cell_row Tryz.results13 _ _ W.heap.size _ _ _ _ rfl k1 Tryz.underlying48 rfl (logSize _ rfl)) rfl ⟨A5, M, c5, zs, ?_, ?_, HC5.out, ?_, HA5.out, HLV.out, HPO.out, ?_⟩
  · rw [HXS.out, HSS.out, HX7.out, HCL.out, HEE.out]
  · exact ((HR5.out.below (by rw [HLL5.out]; exact hb10)).other _ k2 (fun ad e => by
      have h1 := HOB.out ad e
      have h2 := HWS.out
      omega) (fun y hy ad e _ => by
      have h1 := HOZ.out y hy ad e
      have h2 := HWS.out
      omega))
  · have h1 := HLL.out
    have h2 := HYL.out
    omega
  · exact k3 _ _ (HBW.out.trans ((HB19.out.setCell (p := ⟨L5, 5, none⟩) (by show W1.heap.size ≤ L5; rw [← HLL5.out]; exact HB5.out.size) _).mono HBW.out.size)) (Nat.le_refl _)
end Go.Proofs.YtklmbiekpilkhaaGreatDoor.lg
namespace Go.Proofs.YtklmbiekpilkhaaGreatDoor.lg
open Go.ChangeShapes Go.WideShapes Go.ChangeAt Go.RowKit
open Go.Proofs.YtklmbiekpilkhaaGreatDoor.codec (Bytes vals)
open Go.Proofs.YtklmbiekpilkhaaGreatDoor.bod (cell_at)
set_option linter.unusedVariables false
set_option maxRecDepth 100000
set_option linter.unusedSimpArgs false

/-- Octets that a call made. -/
def Made (W : World) (l : List Nat) (A : Option Addr) (m c : Nat) (w' : World) : Prop := Bytes w' A m l ∧ (A = none → c = 0) ∧ (∀ ad, A = some ad → W.heap.size ≤ ad.block) ∧ Below W.heap.size W w'
theorem eq_nil (w : World) (A : Option Addr) (n c : Nat) : (binOp .eql 22 (.slice A n c) (.slice none 0 0)).run Tryz.prog w = .ok (.bool A.isNone) w := by
  cases A with
  | none => exact Lib.run_eql_slice_nil w _ _ none n c 0 0 Tryz.underlying22
  | some ad => exact Lib.run_eql_slice_nil w _ _ (some ad) n c 0 0 Tryz.underlying22
/-- The first messages. -/
def MSt (W : World) (zs : List Y) (k : Nat) (v : Value) (w : World) : Prop := ∃ qs, Own cM 4 W.heap.size 60 w v qs ∧ Below W.heap.size W w ∧ nts qs = (nts zs).take k ∧ qs.length ≤ k ∧ ∀ y ∈ qs, ∀ ad, y.A = some ad → W.heap.size ≤ ad.block
theorem MSt.start (W : World) (zs : List Y) : MSt W zs 0 (.slice none 0 0) W := ⟨[], Own.nil _ _ _ _ _, Below.refl _ _, rfl, Nat.le_refl _, by simp⟩
theorem MSt.more {W : World} {zs : List Y} {k : Nat} {v v' : Value} {w w' : World} {z : Y} {qs : List Y} {A : Option Addr} {m c p : Nat} (hx : zs[k]? = some z) (h1 : Own cM 4 W.heap.size 60 w v qs) (h2 : Below W.heap.size W w) (h3 : nts qs = (nts zs).take k) (h4 : qs.length ≤ k ∧ ∀ y ∈ qs, ∀ ad, y.A = some ad → W.heap.size ≤ ad.block) (hA : ∀ ad, A = some ad → W.heap.size ≤ ad.block) (ho : Own cM 4 W.heap.size 60 w' v' (qs ++ [⟨z.n, p, A, m, c⟩])) (hg : w.grownBy w' v.ownBlock) : MSt W zs (k + 1) v' w' :=
  ⟨_, ho, grown_below h2 h1 hg, by rw [take_next (nts_at hx), ← h3]; simp [nts], by simp; omega, fun y hy ad e => by
    rcases List.mem_append.1 hy with hy | hy
    · exact h4.2 y hy ad e
    · simp at hy
      subst hy
      exact hA ad e⟩
theorem short_oct {n : Nt} (h : n.ok) : n.o.length ≤ 20000 := (bod.formed_size h.1).2
end Go.Proofs.YtklmbiekpilkhaaGreatDoor.lg
namespace Go.Proofs.YtklmbiekpilkhaaGreatDoor.lg
open Go.ChangeShapes Go.WideShapes Go.ChangeAt Go.RowKit
open Go.Proofs.YtklmbiekpilkhaaGreatDoor.codec (Bytes vals)
open Go.Proofs.YtklmbiekpilkhaaGreatDoor.bod (cell_at)
set_option linter.unusedVariables false
set_option maxRecDepth 100000
set_option linter.unusedSimpArgs false

theorem boxSize (cs : Array Value) (h : cs.size = 4) : (Tryz.prog.info? 56).map (·.size) = some cs.size := by
  rw [h]
  kernel_rfl
/-- What Box answers. -/
def BoxAns (W : World) (S : ByteArray) (E X : Nat) (qn : List Nt) (e : Ending) (w' : World) : Prop := ∃ A n c qs, e = .returned (.agg #[.string S, .int .u32 E, .int .u32 X, .slice A n c]) ∧ Rd cM 4 w' A n qs ∧ n ≤ c ∧ nts qs = qn ∧ Below W.heap.size W w'
/-- A mailbox under way: its block and its messages. -/
def BSt (W1 : World) (S : ByteArray) (E X : Nat) (qn : List Nt) (p : Nat) (v : Value) (w : World) : Prop :=
  w.heap[p]? = some (.cells #[.string S, .int .u32 E, .int .u32 X, v] 56 (0, 0)) ∧ ∃ qs, Own cM 4 W1.heap.size 60 w v qs ∧ nts qs = qn ∧ (∀ y ∈ qs, ∀ ad, y.A = some ad → 0 < y.m → W1.heap.size ≤ ad.block ∧ ad.block ≠ p) ∧ v.ownBlock ≠ some p ∧ W1.heap.size ≤ p ∧ Below W1.heap.size W1 w
def yU (y : Y) (u : Nat) : Y := { y with n := withU y.n u }
def ruY (qs : List Y) (i : Nat) : List Y := ru yU qs i
theorem ruY_nts (qs : List Y) (i : Nat) : nts (ruY qs i) = ru withU (nts qs) i := ru_map yU withU Y.n (fun _ _ => rfl) qs i
theorem fl_set : ∀ (L : List Y) (k u : Nat) (y : Y), L[k]? = some y → (fl cM L).set (k * 4) (.int .u32 (u : Nat)) = fl cM (L.set k (yU y u))
  | [], k, u, y, h => by simp at h
  | z :: r, 0, u, y, h => by
    simp at h
    subst h
    rfl
  | z :: r, k + 1, u, y, h => by
    have ih := fl_set r k u y (by simpa using h)
    rw [show (k + 1) * 4 = k * 4 + 4 by omega]
    show _ :: _ :: _ :: _ :: (fl cM r).set (k * 4) _ = _
    rw [ih]
    rfl
theorem ruY_step {qs : List Y} {k : Nat} {y : Y} (h : (ruY qs k)[k]? = some y) : ruY qs (k + 1) = (ruY qs k).set k (yU y (k + 1)) := by
  show (ruY qs k).modify k _ = _
  apply List.ext_getElem?
  intro j
  rw [List.getElem?_modify, List.getElem?_set]
  by_cases hj : k = j
  · subst hj
    obtain ⟨h1, h2⟩ := List.getElem?_eq_some_iff.1 h
    subst h2
    simp [h1]
  · simp [hj]
theorem Own.form' {F : Y → List Value} {K B : Nat} {E : TypeId} {w : World} {A : Option Addr} {m c : Nat} {ys : List Y} (h : Own F K B E w (.slice A m c) ys) (hm : 0 < m) : ∃ g, A = some ⟨g, 0, none⟩ ∧ B ≤ g := by
  rcases h.1.2 with ⟨e, h0⟩ | ⟨g, cap, cur, e, hB, _⟩
  · simp at e
    omega
  · simp at e
    exact ⟨g, e.1, hB⟩
theorem Own.len' {F : Y → List Value} {K B : Nat} {E : TypeId} {w : World} {A : Option Addr} {m c : Nat} {ys : List Y} (h : Own F K B E w (.slice A m c) ys) : ys.length = m := by
  rcases h.1.2 with ⟨e, h0⟩ | ⟨g, cap, cur, e, hB, _⟩
  · simp at e
    omega
  · simp at e
    omega
theorem Own.below_other {F : Y → List Value} {K B : Nat} {E : TypeId} {w : World} {v u : Value} {ys : List Y} {p j : Nat} (h : Own F K B E w v ys) (hv : v.ownBlock ≠ some p) (ho : ∀ y ∈ ys, ∀ ad, y.A = some ad → 0 < y.m → ad.block ≠ p) : Own F K B E (w.setCell ⟨p, j, none⟩ u) v ys :=
  h.grown (row := some p) ⟨rfl, rfl, rfl, by simp, fun k _ hne => heap_setCell_other _ _ _ _ (fun e => hne (by rw [e]))⟩ (fun b e => by cases e; exact hv) (fun y hy ad e h0 e' => ho y hy ad e h0 (Option.some.inj e'))
/-- The mailbox while its UIDs are given anew. -/
def LB (W1 : World) (S : ByteArray) (E X p : Nat) (A : Option Addr) (m c : Nat) (qs : List Y) (i : Nat) (w : World) : Prop :=
  w.heap[p]? = some (.cells #[.string S, .int .u32 E, .int .u32 X, .slice A m c] 56 (0, 0)) ∧ Own cM 4 W1.heap.size 60 w (.slice A m c) (ruY qs i) ∧ (∀ y ∈ ruY qs i, ∀ ad, y.A = some ad → 0 < y.m → W1.heap.size ≤ ad.block ∧ ad.block ≠ p) ∧ (Value.slice A m c).ownBlock ≠ some p ∧ Below W1.heap.size W1 w
theorem LB.step {W1 : World} {S : ByteArray} {E X p g m c k : Nat} {qs : List Y} {w : World} (h : LB W1 S E X p (some ⟨g, 0, none⟩) m c qs k w) (hk : k < (ruY qs k).length) : LB W1 S E X p (some ⟨g, 0, none⟩) m c qs (k + 1) (w.setCell ⟨g, k * 4, none⟩ (.int .u32 ((k + 1 : Nat) : Nat))) := by
  obtain ⟨h1, h2, h3, h4, h5⟩ := h
  have hy : (ruY qs k)[k]? = some (ruY qs k)[k] := List.getElem?_eq_getElem hk
  have hlen := h2.len'
  obtain ⟨s1, s2⟩ := World.ownsRow.stored (hlen ▸ h2.1) (k * 4) (.int .u32 ((k + 1 : Nat) : Nat))
  have hgp : p ≠ g := fun e => h4 (by rw [e]; rfl)
  have hst := ruY_step hy
  have hmem : ∀ y ∈ ruY qs (k + 1), ∃ z ∈ ruY qs k, y.A = z.A ∧ y.m = z.m ∧ y.c = z.c ∧ y.n.o = z.n.o := by
    intro y hy'
    rw [hst] at hy'
    rcases List.mem_or_eq_of_mem_set hy' with h | h
    · exact ⟨y, h, rfl, rfl, rfl, rfl⟩
    · exact ⟨_, List.getElem_mem hk, by rw [h]; rfl, by rw [h]; rfl, by rw [h]; rfl, by rw [h]; rfl⟩
  refine ⟨by rw [heap_setCell_other _ _ _ _ hgp]; exact h1, ⟨?_, fun y hy' => ?_⟩, fun y hy' ad e h0 => ?_, h4, h5.setCell (p := ⟨g, k * 4, none⟩) (h2.lt rfl).1 _⟩
  · rw [hst, ← fl_set _ k (k + 1) _ hy, List.length_set, hlen]
    exact s1
  · obtain ⟨z, hz, e1, e2, e3, e4⟩ := hmem y hy'
    obtain ⟨o1, o2⟩ := h2.2 z hz
    have o3 := o1.grown s2 (fun ad e h0 e' => o2 ad e h0 e'.symm)
    unfold Oct at *
    rw [e1, e2, e3, e4]
    exact ⟨o3, o2⟩
  · obtain ⟨z, hz, e1, e2, _⟩ := hmem y hy'
    exact h3 z hz ad (e1 ▸ e) (e2 ▸ h0)
end Go.Proofs.YtklmbiekpilkhaaGreatDoor.lg
namespace Go.Proofs.YtklmbiekpilkhaaGreatDoor.lg
open Go.ChangeShapes Go.WideShapes Go.ChangeAt Go.RowKit
open Go.Proofs.YtklmbiekpilkhaaGreatDoor.codec (Bytes vals)
open Go.Proofs.YtklmbiekpilkhaaGreatDoor.bod (cell_at)
set_option linter.unusedVariables false
set_option maxRecDepth 100000
set_option linter.unusedSimpArgs false

def ord (X : Nat) (st : Nat × Bool) (n : Nt) : Nat × Bool := (n.u, st.2 && decide (st.1 < n.u ∧ (n.u < X ∨ X = 4294967295)))
def od (X : Nat) (l : List Nt) : Nat × Bool := l.foldl (ord X) (0, true)
theorem od_snoc (X : Nat) (l : List Nt) (n : Nt) : od X (l ++ [n]) = ord X (od X l) n := by simp [od]
theorem od_false {X : Nat} : ∀ (l : List Nt) (st : Nat × Bool), st.2 = false → (l.foldl (ord X) st).2 = false
  | [], st, h => h
  | n :: r, st, h => od_false r _ (by simp [ord, h])
theorem od_stop {X : Nat} {l : List Nt} {i : Nat} (h : (od X (l.take i)).2 = false) : (od X l).2 = false := by
  have e : od X l = (l.drop i).foldl (ord X) (od X (l.take i)) := by
    unfold od
    rw [← List.foldl_append, List.take_append_drop]
  rw [e]
  exact od_false _ _ h
def bx (S : ByteArray) (E : Nat) : Nt := ⟨1, E, S, 0, 0, 0, []⟩
def gn (E X : Nat) : Nt := ⟨3, E, ⟨#[]⟩, X - 1, 0, 0, []⟩
def lu (l : List Nt) : Nat := l.foldl (fun _ n => n.u) 0
theorem lu_snoc (l : List Nt) (n : Nt) : lu (l ++ [n]) = n.u := by simp [lu]
/-- What a log of a mailbox says. -/
def notesB (S : ByteArray) (E X : Nat) (l : List Nt) : List Nt := bx S E :: l ++ (if 0 < X ∧ lu l < X - 1 then [gn E X] else [])
def NF (W1 : World) (S : ByteArray) (E : Nat) (qs : List Y) (k : Nat) (v : Value) (w : World) : Prop := ∃ ys, Own cN 7 W1.heap.size 100 w v ys ∧ nts ys = bx S E :: (nts qs).take k ∧ Below W1.heap.size W1 w ∧ ys.length = k + 1
theorem NF.start (W1 : World) (S : ByteArray) (E : Nat) (qs : List Y) : NF W1 S E qs 0 (.slice (some ⟨W1.heap.size, 0, none⟩) 1 1) (W1.alloc (.cells #[.int .i64 1, .int .u32 E, .string S, .int .u32 0, .int .i64 0, .int .i64 0, .slice none 0 0] 100)) :=
  ⟨[⟨bx S E, 0, none, 0, 0⟩], ⟨⟨rfl, .inr ⟨_, 1, _, rfl, Nat.le_refl _, heap_alloc_new W1 _, Nat.le_refl _, by unfold maxLen; omega, rfl, rfl⟩⟩, fun y hy => by
    simp at hy
    subst hy
    exact ⟨⟨codec.empty_bytes _, fun _ => rfl⟩, fun ad e => by cases e⟩⟩, rfl, (Below.refl _ _).alloc (Nat.le_refl _) _, rfl⟩
theorem NF.more {W1 : World} {S : ByteArray} {E k : Nat} {qs ys : List Y} {v v' : Value} {w w' : World} {y : Y} (hx : qs[k]? = some y) (h1 : Own cN 7 W1.heap.size 100 w v ys) (h2 : nts ys = bx S E :: (nts qs).take k) (h3 : Below W1.heap.size W1 w) (h4 : ys.length = k + 1) (ho : Own cN 7 W1.heap.size 100 w' v' (ys ++ [y])) (hg : w.grownBy w' v.ownBlock) : NF W1 S E qs (k + 1) v' w' :=
  ⟨_, ho, by rw [take_next (nts_at hx)]; show (ys ++ [y]).map Y.n = _; rw [List.map_append]; show nts ys ++ _ = _; rw [h2]; rfl, grown_below h3 h1 hg, by simp; omega⟩
/-- What is a message of this mailbox. -/
def Of2 (S : ByteArray) (E : Nat) (qs : List Y) : Prop := ∀ y ∈ qs, y.n.k = 2 ∧ y.n.e = E ∧ y.n.s = S
end Go.Proofs.YtklmbiekpilkhaaGreatDoor.lg
namespace Go.Proofs.YtklmbiekpilkhaaGreatDoor.lg
open Go.ChangeShapes Go.WideShapes Go.ChangeAt Go.RowKit
open Go.Proofs.YtklmbiekpilkhaaGreatDoor.codec (Bytes vals)
open Go.Proofs.YtklmbiekpilkhaaGreatDoor.bod (cell_at Fit formedB)
open Go.Proofs.YtklmbiekpilkhaaGreatDoor.frm (allF frameL frameL_length)
set_option linter.unusedVariables false
set_option maxRecDepth 100000
set_option linter.unusedSimpArgs false

def frs (l : List Nt) : List (Nat × List Nat) := l.map fun n => (n.k, n.pay)
theorem allF_next {l : List Nt} {k : Nat} {t : Nt} (h : l[k]? = some t) : allF (frs (l.take (k + 1))) = allF (frs (l.take k)) ++ frameL t.k t.pay := by
  rw [take_next h, frs, List.map_append]
  exact frm.allF_snoc _ (t.k, t.pay)
def WS (W2 : World) (ns : List Nt) (k : Nat) (v : Value) (w : World) : Prop := w.ownsRow W2.heap.size 5 1 v (allF (frs (ns.take k))).length (vals (allF (frs (ns.take k)))) ∧ Below W2.heap.size W2 w ∧ ∀ n ∈ ns.take k, n.ok
theorem WS.start (W2 : World) (ns : List Nt) : WS W2 ns 0 (.slice none 0 0) W2 := ⟨⟨rfl, .inl ⟨rfl, rfl⟩⟩, Below.refl _ _, by simp⟩
theorem own_below {w w' : World} {B n : Nat} {v : Value} {M : List Value} (h : w.ownsRow B 5 1 v n M) (hb : Below w.heap.size w w') : w'.ownsRow B 5 1 v n M :=
  h.kept (row := none) ⟨hb.os, hb.tape, hb.output, hb.size, fun i hi _ => hb.block i hi⟩ (by cases hv : v.ownBlock <;> simp)
theorem ownMono {w : World} {B B' e k n : Nat} {v : Value} {M : List Value} (h : w.ownsRow B e k v n M) (hb : B' ≤ B) : w.ownsRow B' e k v n M := ⟨h.1, h.2.imp id fun ⟨g, cap, cur, h1, h2, h3⟩ => ⟨g, cap, cur, h1, Nat.le_trans hb h2, h3⟩⟩
/-- What Write answers. -/
def WAns (W : World) (X : Nat) (l ns : List Nt) (x : Ending) (w' : World) : Prop :=
  (((od X l).2 = false ∨ ∃ t ∈ ns, formedB (t.k : Nat) t.e t.s t.u t.d t.f t.o.length = false) ∧ x = .returned (.tuple #[.slice none 0 0, .int .i64 1]) ∧ Below W.heap.size W w') ∨
  ((od X l).2 = true ∧ (∀ n ∈ ns, n.ok) ∧ ∃ v, x = .returned (.tuple #[v, .int .i64 0]) ∧ w'.ownsRow W.heap.size 5 1 v (allF (frs ns)).length (vals (allF (frs ns))) ∧ Below W.heap.size W w')
end Go.Proofs.YtklmbiekpilkhaaGreatDoor.lg
