/- What a log says. -/
import Derived.Test.YtfmdhcjniikfdaaGreatDoorLbp7
import Derived.Lib.SliceRun
/- What a log says. -/
namespace Go.Proofs.YtfmdhcjniikfdaaGreatDoor.lg
open Go.ChangeShapes Go.WideShapes Go.ChangeAt Go.RowKit
open Go.Proofs.YtfmdhcjniikfdaaGreatDoor.codec (Bytes)
open Go.Proofs.YtfmdhcjniikfdaaGreatDoor.frm (R X Reads Recs scan)
open Go.Proofs.YtfmdhcjniikfdaaGreatDoor.bod (Fit cell_at)
set_option linter.unusedVariables false
set_option maxRecDepth 100000
set_option linter.unusedSimpArgs false

theorem six {w : World} {g : Nat} {t : TypeId} {cs : Array Value} (h : w.heap[g]? = some (.cells cs t (0, 0))) (hs : cs.size = 6) (v0 v1 v2 v3 v4 v5 : Value) :
    ((((((w.setCell ⟨g, 0, none⟩ v0).setCell ⟨g, 1, none⟩ v1).setCell ⟨g, 2, none⟩ v2).setCell ⟨g, 3, none⟩ v3).setCell ⟨g, 4, none⟩ v4).setCell ⟨g, 5, none⟩ v5).heap[g]? = some (.cells #[v0, v1, v2, v3, v4, v5] t (0, 0)) ∧
    (∀ k, k ≠ g → ((((((w.setCell ⟨g, 0, none⟩ v0).setCell ⟨g, 1, none⟩ v1).setCell ⟨g, 2, none⟩ v2).setCell ⟨g, 3, none⟩ v3).setCell ⟨g, 4, none⟩ v4).setCell ⟨g, 5, none⟩ v5).heap[k]? = w.heap[k]?) ∧
    ∀ (B : Nat) (a : World), Below B a w → B ≤ g → Below B a ((((((w.setCell ⟨g, 0, none⟩ v0).setCell ⟨g, 1, none⟩ v1).setCell ⟨g, 2, none⟩ v2).setCell ⟨g, 3, none⟩ v3).setCell ⟨g, 4, none⟩ v4).setCell ⟨g, 5, none⟩ v5) := by
  refine ⟨?_, fun k hk => by rw [heap_setCell_other _ _ _ _ hk, heap_setCell_other _ _ _ _ hk, heap_setCell_other _ _ _ _ hk, heap_setCell_other _ _ _ _ hk, heap_setCell_other _ _ _ _ hk, heap_setCell_other _ _ _ _ hk], fun B a hb hg => (((((hb.setCell (p := ⟨g, 0, none⟩) hg _).setCell (p := ⟨g, 1, none⟩) hg _).setCell (p := ⟨g, 2, none⟩) hg _).setCell (p := ⟨g, 3, none⟩) hg _).setCell (p := ⟨g, 4, none⟩) hg _).setCell (p := ⟨g, 5, none⟩) hg _⟩
  rw [heap_setCell_same _ g 5 _ t _ (heap_setCell_same _ g 4 _ t _ (heap_setCell_same _ g 3 _ t _ (heap_setCell_same _ g 2 _ t _ (heap_setCell_same _ g 1 _ t _ (heap_setCell_same _ g 0 _ t _ h)))))]
  obtain ⟨l⟩ := cs
  have hl : l.length = 6 := hs
  match l, hl with
  | [a0, a1, a2, a3, a4, a5], _ => rfl
theorem four {w : World} {g : Nat} {t : TypeId} {cs : Array Value} (h : w.heap[g]? = some (.cells cs t (0, 0))) (hs : cs.size = 4) (v0 v1 v2 v3 : Value) :
    ((((w.setCell ⟨g, 0, none⟩ v0).setCell ⟨g, 1, none⟩ v1).setCell ⟨g, 2, none⟩ v2).setCell ⟨g, 3, none⟩ v3).heap[g]? = some (.cells #[v0, v1, v2, v3] t (0, 0)) ∧
    (∀ k, k ≠ g → ((((w.setCell ⟨g, 0, none⟩ v0).setCell ⟨g, 1, none⟩ v1).setCell ⟨g, 2, none⟩ v2).setCell ⟨g, 3, none⟩ v3).heap[k]? = w.heap[k]?) ∧
    ∀ (B : Nat) (a : World), Below B a w → B ≤ g → Below B a ((((w.setCell ⟨g, 0, none⟩ v0).setCell ⟨g, 1, none⟩ v1).setCell ⟨g, 2, none⟩ v2).setCell ⟨g, 3, none⟩ v3) := by
  refine ⟨?_, fun k hk => by rw [heap_setCell_other _ _ _ _ hk, heap_setCell_other _ _ _ _ hk, heap_setCell_other _ _ _ _ hk, heap_setCell_other _ _ _ _ hk], fun B a hb hg => (((hb.setCell (p := ⟨g, 0, none⟩) hg _).setCell (p := ⟨g, 1, none⟩) hg _).setCell (p := ⟨g, 2, none⟩) hg _).setCell (p := ⟨g, 3, none⟩) hg _⟩
  rw [heap_setCell_same _ g 3 _ t _ (heap_setCell_same _ g 2 _ t _ (heap_setCell_same _ g 1 _ t _ (heap_setCell_same _ g 0 _ t _ h)))]
  obtain ⟨l⟩ := cs
  have hl : l.length = 4 := hs
  match l, hl with
  | [a0, a1, a2, a3], _ => rfl
theorem logSize (cs : Array Value) (h : cs.size = 6) : (Tryz.prog.info? 27).map (·.size) = some cs.size := by
  rw [h]
  kernel_rfl
/-- What Read answers. -/
def ReadAns (W : World) (l : List Nat) (e : Ending) (w' : World) : Prop := ∃ A n c zs, e = .returned (.agg #[.string (nmL (ntsL l)), .int .u32 (epo (ntsL l) : Nat), .int .u32 (nxt (top (epo (ntsL l)) (ntsL l)) : Nat), .slice A n c, .int .i64 ((scan l 0 0).2 : Nat), .bool (cl (epo (ntsL l)) (lives (ntsL l))).2]) ∧ Rd cL 6 w' A n zs ∧ n ≤ c ∧ n ≤ l.length ∧ (A = none → c = 0) ∧ nts zs = lives (ntsL l) ∧ Below W.heap.size W w'
set_option maxHeartbeats 2000000 in
theorem read_any (W : World) (A : Option Addr) (n c : Nat) (l : List Nat) (hB : Bytes W A n l) (hc : n ≤ c) (hn : n ≤ 16000000) (hL : sumDoor.Laid W) (hr : Fit W) :
    Calls Tryz.prog 7 #[.slice A n c] W fun e w' => ReadAns W l e w' := by
  obtain ⟨W1, hW1⟩ : ∃ W1, W1 = W.alloc (.cells #[.string ⟨#[]⟩, .int .u32 0, .int .u32 0, .slice none 0 0, .int .i64 0, .bool false] 27) := ⟨_, rfl⟩
  have HBW := Lib.hid (show Below W.heap.size W W1 by rw [hW1]; exact (Below.refl _ _).alloc (Nat.le_refl _) _)
  have HWS := Lib.hid (show W.heap.size < W1.heap.size by rw [hW1]; simp)
  have HRC := Lib.hid (fun (w1 : World) (h : Below W1.heap.size W1 w1) => (bod.boxed (w := W) (o := .cells #[.string ⟨#[]⟩, .int .u32 0, .int .u32 0, .slice none 0 0, .int .i64 0, .bool false] 27) (w1 := w1) (by rw [← hW1]; exact h)).1)
  have HFit := Lib.hid (fun (w1 : World) (h : Below W1.heap.size W1 w1) => hr.below (HBW.out.trans (h.mono HBW.out.size)))
  have HSC := Lib.hid (frm.scan_any W1 A n c l (hB.below hB.lt HBW.out) hc hn (hL.below hL.lt HBW.out))
  have HLN := Lib.hid hB
  have HW1 := Lib.hid hW1
  have HN := Lib.hid hn
  have hgl := notesL_good hB.2.1
  have HGL := Lib.hid hgl
  have HSG := Lib.hid (scan_good l)
  have HSL := Lib.hid (frm.scan_length l)
  clear hW1 hB hL hr hn hgl
  go_enter Tryz.func7, Tryz.ntmps7
  go_wp2_with fail
  rw [← HW1.out]
  refine HSC.out.mono ?_
  rintro e w1 ⟨v, torn, rfl, xs, hr, hb1, hs⟩
  obtain ⟨A1, c1, rfl, hc1, hR1⟩ := hr.reads
  have hxl : xs.length ≤ 16000000 := by
    have h1 := HSL.out
    rw [hs] at h1
    have h2 := HLN.out.1
    have h3 := HN.out
    simp at h1
    omega
  have HXS := Lib.hid hs
  have HB1 := Lib.hid hb1
  have HN1 := Lib.hid (notesOf_any w1 A1 xs.length c1 xs hR1 (fun x hx => by
    have h1 := HSG.out.1 x.r (by rw [hs]; exact List.mem_map.2 ⟨x, hx, rfl⟩)
    exact h1.short) hxl (HFit.out _ hb1))
  clear hr hb1 hs hR1 HSC hc1
  go_wp2_with fail
  refine HN1.out.mono ?_
  rintro e w2 ⟨v2, rfl, ys, o1, o2, o3, o4, o5⟩
  have HFR := Lib.hid (fun y hy ad e => Nat.le_trans HB1.out.size (o5 y hy ad e))
  have hys : ys.map Y.np = notesL l := by
    rw [o3, List.take_of_length_le (by simp)]
    unfold notesL
    rw [HXS.out]
  have hyn : nts ys = ntsL l := by
    unfold ntsL
    rw [← hys, List.map_map]
    rfl
  have hok : ∀ y ∈ ys, y.n.ok ∧ y.p ≤ 16000000 := by
    intro y hy
    have h1 := HGL.out.1 y.np (by rw [← hys]; exact List.mem_map.2 ⟨y, hy, rfl⟩)
    have h2 := HLN.out.1
    have h3 := HN.out
    exact ⟨h1.1, by have := h1.2; show y.np.2 ≤ _; omega⟩
  have hrise : (ys.map Y.np).Pairwise (fun a b => a.2 < b.2) := by rw [hys]; exact HGL.out.2
  obtain ⟨A2, c2, rfl, hc2, -, hR2⟩ := o1.rd fA
  have HB2 := Lib.hid (HB1.out.trans (o2.mono HB1.out.size))
  have HR2 := Lib.hid hR2
  have HYN := Lib.hid hyn
  have HOK := Lib.hid hok
  have HRI := Lib.hid hrise
  have hyl : ys.length ≤ 16000000 := by omega
  have HYL := Lib.hid (show ys.length ≤ l.length by
    have h1 := HSL.out
    rw [HXS.out] at h1
    simp at h1
    omega)
  have HYL2 := Lib.hid hyl
  clear hys hyn hok hrise o1 o2 o3 o4 o5 hR2 HN1 hc2 hyl hxl
  have HY0 : Hid ((nts ys).length = ys.length) := Lib.hid (nts_len ys)
  generalize hNN : ys.length = N at *
  have HNN := Lib.hid hNN
  clear hNN
  go_wp2_with fail
  refine (lastName_any w2 A2 N c2 ys HR2.out HYL2.out).mono ?_
  rintro e w3 ⟨rfl, hb3⟩
  have HB3 := Lib.hid (HB2.out.trans (hb3.mono HB2.out.size))
  have HR3 := Lib.hid (HR2.out.below hb3)
  clear hb3
  go_wp2_with fail
  refine (greatestEpoch_any w3 A2 N c2 ys HR3.out HYL2.out).mono ?_
  rintro e w4 ⟨rfl, hb4⟩
  have HB4 := Lib.hid (HB3.out.trans (hb4.mono HB3.out.size))
  have HR4 := Lib.hid (HR3.out.below hb4)
  clear hb4 HR2 HR3
  go_wp2_with fail
  refine (liveOf_any w4 A2 N c2 ys HR4.out HYL2.out HOK.out HRI.out).mono ?_
  rintro e w5 ⟨v5, rfl, o5, hb5⟩
  have hlv : nts (pick ys (livB (nts ys)) N) = lives (ntsL l) := by
    unfold nts lives
    rw [pick_map, ← HYN.out, HY0.out]
    rfl
  have hll : (pick ys (livB (nts ys)) N).length ≤ N := pick_len _ _ _
  obtain ⟨A5, c5, rfl, hc5, hA5, hR5⟩ := o5.rd fL
  have HOB := Lib.hid (show ∀ ad, A5 = some ad → W1.heap.size ≤ ad.block from fun ad e => by
    subst e
    exact Nat.le_trans HB4.out.size (o5.lt rfl).1)
  have HOZ := Lib.hid (show ∀ y ∈ pick ys (livB (nts ys)) N, ∀ ad, y.A = some ad → W1.heap.size ≤ ad.block from fun y hy => HFR.out y (pick_mem _ hy))
  have HLV := Lib.hid hlv
  have HLL := Lib.hid hll
  have HC5 := Lib.hid hc5
  have HA5 := Lib.hid hA5
  have HR5 := Lib.hid hR5
  have HB5 := Lib.hid (HB4.out.trans (hb5.mono HB4.out.size))
  have HR4' := Lib.hid (HR4.out.below hb5)
  clear hlv hll hc5 hA5 hR5 o5 hb5 HR4
  generalize hzs : pick ys (livB (nts ys)) N = zs at *
  generalize hM : zs.length = M at *
  have HM := Lib.hid hM
  clear hM hzs
  go_wp2_with fail
  rw [HYN.out]
  obtain ⟨S, hS⟩ : ∃ S, S = nmL (ntsL l) := ⟨_, rfl⟩
  obtain ⟨E, hE⟩ : ∃ E, E = epo (ntsL l) := ⟨_, rfl⟩
  rw [← hS, ← hE]
  obtain ⟨w6, hw6⟩ : ∃ w6, w6 = w5.alloc (.cells #[.string S, .int .u32 (E : Nat), .int .u32 0, .slice A5 M c5, .int .i64 (torn : Nat), .bool false] 27) := ⟨_, rfl⟩
  have HSS := Lib.hid hS
  have HEE := Lib.hid hE
  have HW6 := Lib.hid hw6
  have HB56 := Lib.hid (show Below w5.heap.size w5 w6 by rw [hw6]; exact (Below.refl _ _).alloc (Nat.le_refl _) _)
  have HLC := Lib.hid (fun (w1 : World) (h : Below w6.heap.size w6 w1) => (bod.boxed (w := w5) (o := .cells #[.string S, .int .u32 (E : Nat), .int .u32 0, .slice A5 M c5, .int .i64 (torn : Nat), .bool false] 27) (w1 := w1) (by rw [← hw6]; exact h)).1)
  have HL5 := Lib.hid (show w5.heap.size < w6.heap.size by rw [hw6]; simp)
  rw [← hw6]
  clear hS hE hw6
  refine (nextUID_any w6 A2 N c2 E ys (HR4'.out.below HB56.out) HYL2.out (fun y hy => (HOK.out y hy).1)).mono ?_
  rintro e w7 ⟨rfl, hb7⟩
  rw [HYN.out]
  obtain ⟨X7, hX7⟩ : ∃ X7, X7 = nxt (top E (ntsL l)) := ⟨_, rfl⟩
  rw [← hX7]
  have HX7 := Lib.hid hX7
  have HB7 := Lib.hid hb7
  have HL7 := Lib.hid (HLC.out w7 hb7)
  have c2' := cell_at (HLC.out w7 hb7) 2 _ rfl
  have f2' := frozen_of_row _ _ 2 _ _ (HLC.out w7 hb7)
  have c1' := cell_at (HLC.out w7 hb7) 1 _ rfl
  have c3' := cell_at (HLC.out w7 hb7) 3 _ rfl
  clear hX7 hb7
  have HWL := Lib.hid (Nat.lt_of_lt_of_le HL5.out HB7.out.size)
  generalize hLL : w5.heap.size = L5 at *
  have HLL5 := Lib.hid hLL
  clear hLL
  go_wp2_with fail
  obtain ⟨w8, hw8⟩ : ∃ w8, w8 = w7.setCell ⟨L5, 2, none⟩ (.int .u32 (X7 : Nat)) := ⟨_, rfl⟩
  rw [← hw8]
  have HL8 := Lib.hid (show w8.heap[L5]? = some (.cells #[.string S, .int .u32 (E : Nat), .int .u32 (X7 : Nat), .slice A5 M c5, .int .i64 (torn : Nat), .bool false] 27 (0, 0)) by rw [hw8, heap_setCell_same _ _ _ _ _ _ HL7.out]; rfl)
  have HB58 := Lib.hid (show Below L5 w5 w8 by rw [hw8]; exact ((HLL5.out ▸ HB56.out : Below L5 w5 w6).trans (HB7.out.mono (HLL5.out ▸ HB56.out.size))).setCell (Nat.le_refl _) _)
  have HL58 := Lib.hid (show L5 < w8.heap.size by rw [hw8]; simpa using HWL.out)
  clear hw8 c1' c2' c3' f2' HL7 HLC HB7 HB56
  refine (isClean_any w8 A5 M c5 E zs (HR5.out.below (by rw [HLL5.out]; exact HB58.out)) (by have h1 := HLL.out; have h2 := HYL2.out; omega)).mono ?_
  rintro e w9 ⟨rfl, hb9⟩
  rw [HLV.out]
  obtain ⟨CL, hCL⟩ : ∃ CL, CL = (cl E (lives (ntsL l))).2 := ⟨_, rfl⟩
  rw [← hCL]
  have HCL := Lib.hid hCL
  have h9 : w9.heap[L5]? = some (.cells #[.string S, .int .u32 (E : Nat), .int .u32 (X7 : Nat), .slice A5 M c5, .int .i64 (torn : Nat), .bool false] 27 (0, 0)) := by rw [hb9.block _ HL58.out]; exact HL8.out
  have hb59 : Below L5 w5 w9 := HB58.out.trans (hb9.mono (Nat.le_of_lt HL58.out))
  have hb19 : Below W1.heap.size W1 w9 := HB5.out.trans (hb59.mono (by rw [← HLL5.out]; exact HB5.out.size))
  have hLW : W.heap.size < L5 := Nat.lt_of_lt_of_le HWS.out (by rw [← HLL5.out]; exact HB5.out.size)
  have H9 := Lib.hid h9
  have HB59 := Lib.hid hb59
  have HB19 := Lib.hid hb19
  have e0 := cell_at h9 0 _ rfl
  have e1 := cell_at h9 1 _ rfl
  have e2 := cell_at h9 2 _ rfl
  have e3 := cell_at h9 3 _ rfl
  have e4 := cell_at h9 4 _ rfl
  have e5 := cell_at h9 5 _ rfl
  have g5 := frozen_of_row _ _ 5 _ _ h9
  have r0 := cell_at (HRC.out _ hb19) 0 _ rfl
  have s0 := frozen_of_row _ _ 0 _ _ (HRC.out _ hb19)
  have r1 := cell_at (HRC.out _ hb19) 1 _ rfl
  have s1 := frozen_of_row _ _ 1 _ _ (HRC.out _ hb19)
  have r2 := cell_at (HRC.out _ hb19) 2 _ rfl
  have s2 := frozen_of_row _ _ 2 _ _ (HRC.out _ hb19)
  have r3 := cell_at (HRC.out _ hb19) 3 _ rfl
  have s3 := frozen_of_row _ _ 3 _ _ (HRC.out _ hb19)
  have r4 := cell_at (HRC.out _ hb19) 4 _ rfl
  have s4 := frozen_of_row _ _ 4 _ _ (HRC.out _ hb19)
  have r5 := cell_at (HRC.out _ hb19) 5 _ rfl
  have s5 := frozen_of_row _ _ 5 _ _ (HRC.out _ hb19)
  clear hCL h9 hb59 hb19 hb9
  go_wp2_with fail
  have hW := HRC.out _ HB19.out
  have h10 : (w9.setCell ⟨L5, 5, none⟩ (.bool CL)).heap[W.heap.size]? = some (.cells #[.string ⟨#[]⟩, .int .u32 0, .int .u32 0, .slice none 0 0, .int .i64 0, .bool false] 27 (0, 0)) := by
    rw [heap_setCell_other _ _ _ _ (by show W.heap.size ≠ L5; omega)]
    exact hW
  obtain ⟨k1, k2, k3⟩ := six h10 rfl (.string S) (.int .u32 (E : Nat)) (.int .u32 (X7 : Nat)) (.slice A5 M c5) (.int .i64 (torn : Nat)) (.bool CL)
  have hb10 : Below L5 w5 (w9.setCell ⟨L5, 5, none⟩ (.bool CL)) := HB59.out.setCell (Nat.le_refl _) _
  refine bodyPost_ret (results_cell_row Tryz.results7 _ _ W.heap.size _ _ _ _ rfl k1 Tryz.underlying27 rfl (logSize _ rfl)) rfl ⟨A5, M, c5, zs, ?_, ?_, HC5.out, ?_, HA5.out, HLV.out, ?_⟩
  · rw [HXS.out, HSS.out, HX7.out, HCL.out, HEE.out]
  · exact ((HR5.out.below (by rw [HLL5.out]; exact hb10)).other _ k2 (fun ad e => by
      have h1 := HOB.out ad e
      have h2 := HWS.out
      omega) (fun y hy ad e _ => by
      have h1 := HOZ.out y hy ad e
      have h2 := HWS.out
      omega))
  · have h1 := HLL.out
    have h2 := HYL.out
    omega
  · exact k3 _ _ (HBW.out.trans ((HB19.out.setCell (p := ⟨L5, 5, none⟩) (by show W1.heap.size ≤ L5; rw [← HLL5.out]; exact HB5.out.size) _).mono HBW.out.size)) (Nat.le_refl _)
end Go.Proofs.YtfmdhcjniikfdaaGreatDoor.lg
/- Octets of one's own; the messages of what is live. -/
namespace Go.Proofs.YtfmdhcjniikfdaaGreatDoor.lg
open Go.ChangeShapes Go.WideShapes Go.ChangeAt Go.RowKit
open Go.Proofs.YtfmdhcjniikfdaaGreatDoor.codec (Bytes vals)
open Go.Proofs.YtfmdhcjniikfdaaGreatDoor.bod (cell_at)
set_option linter.unusedVariables false
set_option maxRecDepth 100000
set_option linter.unusedSimpArgs false

/-- Octets that a call made. -/
def Made (W : World) (l : List Nat) (A : Option Addr) (m c : Nat) (w' : World) : Prop := Bytes w' A m l ∧ (A = none → c = 0) ∧ (∀ ad, A = some ad → W.heap.size ≤ ad.block) ∧ Below W.heap.size W w'
theorem eq_nil (w : World) (A : Option Addr) (n c : Nat) : (binOp .eql 22 (.slice A n c) (.slice none 0 0)).run Tryz.prog w = .ok (.bool A.isNone) w := by
  cases A with
  | none => exact Lib.run_eql_slice_nil w _ _ none n c 0 0 Tryz.underlying22
  | some ad => exact Lib.run_eql_slice_nil w _ _ (some ad) n c 0 0 Tryz.underlying22
set_option maxHeartbeats 1000000 in
theorem clone_any (W : World) (A : Option Addr) (n c : Nat) (l : List Nat) (hB : Bytes W A n l) (hA : A = none → c = 0) (hn : n ≤ 9000000) :
    Calls Tryz.prog 48 #[.slice A n c] W fun e w' => ∃ A' c', e = .returned (.slice A' n c') ∧ Made W l A' n c' w' := by
  have HB := Lib.hid hB
  cases A with
  | none =>
    have h0 : n = 0 := by
      by_cases h : 0 < n
      · obtain ⟨b, o, e, _⟩ := hB.2.2 h
        cases e
      · omega
    subst h0
    obtain rfl := hA rfl
    obtain rfl : l = [] := List.eq_nil_of_length_eq_zero hB.1
    clear hB hA
    have hen := fun w => eq_nil w none 0 0
    go_enter Tryz.func48, Tryz.ntmps48
    go_wp2
    go_ret
    exact ⟨none, 0, rfl, HB.out, fun _ => rfl, (fun ad e => by cases e), Below.refl _ _⟩
  | some ad =>
    clear hB hA
    have hen := fun w => eq_nil w (some ad) n c
    go_enter Tryz.func48, Tryz.ntmps48
    go_wp2_with (at_builtin; refine codec.wpList_append_bytes rfl (.tmp 5) (.tmp 6) rfl W.heap.size _ [] rfl (World.ownsRow_made W #[] 0 (Nat.le_refl _) (Nat.zero_le _) rfl) (by simp) (some ad) n c l rfl (HB.out.alloc _) (fun e => by cases e) (by simp; omega) ?_; intro v5 w5 ho hg hnn _; have HX5 := Lib.hid (And.intro ho (And.intro hg hnn)); clear ho hg hnn)
    go_ret
    obtain ⟨h1, h2, h3⟩ := HX5.out
    obtain ⟨g, cap, rfl, hg, hB5, hcap⟩ := frm.own_form h1 (fun e => by have := (h3.1 e).1; cases this) (by simpa using HB.out.2.1) (N := n) (by simpa using HB.out.1)
    exact ⟨some ⟨g, 0, none⟩, cap, rfl, by simpa using hB5, (fun e => by cases e), (fun ad e => by cases e; exact hg), ((Below.refl _ _).alloc (Nat.le_refl _) _).trans ⟨h2.os, h2.tape, h2.output, h2.size, fun k hk => h2.block k (by simp; omega) (fun e => by have := Option.some.inj e; simp at this; omega)⟩⟩
/-- The first messages. -/
def MSt (W : World) (zs : List Y) (k : Nat) (v : Value) (w : World) : Prop := ∃ qs, Own cM 4 W.heap.size 47 w v qs ∧ Below W.heap.size W w ∧ nts qs = (nts zs).take k ∧ qs.length ≤ k ∧ ∀ y ∈ qs, ∀ ad, y.A = some ad → W.heap.size ≤ ad.block
theorem MSt.start (W : World) (zs : List Y) : MSt W zs 0 (.slice none 0 0) W := ⟨[], Own.nil _ _ _ _ _, Below.refl _ _, rfl, Nat.le_refl _, by simp⟩
theorem MSt.more {W : World} {zs : List Y} {k : Nat} {v v' : Value} {w w' : World} {z : Y} {qs : List Y} {A : Option Addr} {m c p : Nat} (hx : zs[k]? = some z) (h1 : Own cM 4 W.heap.size 47 w v qs) (h2 : Below W.heap.size W w) (h3 : nts qs = (nts zs).take k) (h4 : qs.length ≤ k ∧ ∀ y ∈ qs, ∀ ad, y.A = some ad → W.heap.size ≤ ad.block) (hA : ∀ ad, A = some ad → W.heap.size ≤ ad.block) (ho : Own cM 4 W.heap.size 47 w' v' (qs ++ [⟨z.n, p, A, m, c⟩])) (hg : w.grownBy w' v.ownBlock) : MSt W zs (k + 1) v' w' :=
  ⟨_, ho, grown_below h2 h1 hg, by rw [take_next (nts_at hx), ← h3]; simp [nts], by simp; omega, fun y hy ad e => by
    rcases List.mem_append.1 hy with hy | hy
    · exact h4.2 y hy ad e
    · simp at hy
      subst hy
      exact hA ad e⟩
theorem short_oct {n : Nt} (h : n.ok) : n.o.length ≤ 20000 := (bod.formed_size h.1).2
set_option maxHeartbeats 2000000 in
theorem messagesOf_any (W : World) (A : Option Addr) (n c : Nat) (zs : List Y) (hR : Rd cL 6 W A n zs) (hn : n ≤ 16000000) (hok : ∀ y ∈ zs, y.n.o.length ≤ 9000000) :
    Calls Tryz.prog 27 #[.slice A n c] W fun x w' => ∃ v, x = .returned v ∧ MSt W zs n v w' := by
  have HR := Lib.hid hR
  have HO := Lib.hid hok
  have HS0 := Lib.hid (MSt.start W zs)
  clear hR hok
  go_enter Tryz.func27, Tryz.ntmps27
  go_wp2
  go_loopw [3, 9] (fun v i wr => ∃ k : Nat, k ≤ n ∧ i = .int .i64 k ∧ Hid (MSt W zs k v wr)) (fun _ i _ => n - (intOf i).toNat)
  case atStart => exact ⟨0, Nat.zero_le _, rfl, HS0⟩
  case round =>
    obtain ⟨k, hk, rfl, HS⟩ := hrel
    by_cases hlt : k < n
    · obtain ⟨qs, s1, s2, s3, s4⟩ := HS.out
      obtain ⟨b, o, y, rfl, hx, c0, c1, c2, c3, c4, c5, hoc⟩ := (HR.out.below s2).at6 k hlt
      have hpl := HO.out y (List.mem_of_getElem? hx)
      have HX := Lib.hid hx
      obtain ⟨⟨tk, te, ts, tu, td, tf, to_⟩, a, A', m', c'⟩ := y
      simp only [] at c0 c1 c2 c3 c4 c5 hpl
      have hm' : m' ≤ 9000000 := by have := hoc.1.1; simp only [] at this; omega
      have HOC := Lib.hid hoc
      have S1 := Lib.hid s1
      have S2 := Lib.hid s2
      have S3 := Lib.hid s3
      have S4 := Lib.hid s4
      have hlt' : (k : Int) < (n : Int) := by omega
      obtain ⟨g0, hg0⟩ : ∃ g0, g0 = (wr.alloc (.cells #[.int .u32 (tu : Nat), .int .i64 td, .int .i64 tf, .slice A' m' c', .int .u32 (te : Nat), .int .i64 (a : Nat)] 96)).alloc (.cells #[.int .u32 (tu : Nat), .int .i64 td, .int .i64 tf, .slice A' m' c'] 47) := ⟨_, rfl⟩
      have HB0 := Lib.hid (show Below wr.heap.size wr g0 by rw [hg0]; exact ((Below.refl _ _).alloc (Nat.le_refl _) _).alloc (by simp) _)
      have HG0 := Lib.hid hg0
      have HD := Lib.hid (clone_any g0 A' m' c' to_ (hoc.1.below hoc.1.lt HB0.out) hoc.2 hm')
      have HXC := Lib.hid (fun (w1 : World) (h : Below g0.heap.size g0 w1) => show w1.heap[wr.heap.size + 1]? = some (.cells #[.int .u32 (tu : Nat), .int .i64 td, .int .i64 tf, .slice A' m' c'] 47 (0, 0)) from (h.block _ (by rw [hg0]; simp)).trans (by rw [hg0]; have := heap_alloc_new (wr.alloc (.cells #[.int .u32 (tu : Nat), .int .i64 td, .int .i64 tf, .slice A' m' c', .int .u32 (te : Nat), .int .i64 (a : Nat)] 96)) (.cells #[.int .u32 (tu : Nat), .int .i64 td, .int .i64 tf, .slice A' m' c'] 47); simpa using this))
      clear hx s1 s2 s3 s4 hoc hpl hg0
      go_wp2_with fail
      rw [← HG0.out]
      refine HD.out.mono ?_
      rintro x w1 ⟨A2, c2', rfl, hnew⟩
      have HNW := Lib.hid hnew
      have hb1 := HB0.out.trans (hnew.2.2.2.mono HB0.out.size)
      have hxc := HXC.out _ hnew.2.2.2
      have d0 := cell_at hxc 0 _ rfl
      have d1 := cell_at hxc 1 _ rfl
      have d2 := cell_at hxc 2 _ rfl
      have d3 := cell_at hxc 3 _ rfl
      have f3 := frozen_of_row _ _ 3 _ _ hxc
      have hbs : Below wr.heap.size wr (w1.setCell ⟨wr.heap.size + 1, 3, none⟩ (.slice A2 m' c2')) := hb1.setCell (by simp) _
      have O1 := Lib.hid (S1.out.below hbs)
      have O2 := Lib.hid (S2.out.trans (hbs.mono S2.out.size))
      have HGT := Lib.hid (show W.heap.size ≤ wr.heap.size ∧ wr.heap.size + 2 ≤ g0.heap.size ∧ g0.heap.size ≤ w1.heap.size from ⟨S2.out.size, by rw [HG0.out]; simp, hnew.2.2.2.size⟩)
      have HOA := Lib.hid (show ∀ ad, A2 = some ad → 0 < m' → u3.ownBlock ≠ some ad.block from fun ad e h0 e' => by
        have h1 := hnew.2.2.1 ad e
        have h2 := (S1.out.lt e').2
        have h3 := HGT.out
        omega)
      have HBo := Lib.hid (show Bytes (w1.setCell ⟨wr.heap.size + 1, 3, none⟩ (.slice A2 m' c2')) A2 m' to_ from hnew.1.kept fun ad e h0 => heap_setCell_other _ _ _ _ (by
        have h1 := hnew.2.2.1 ad e
        have h3 := HGT.out
        show ad.block ≠ wr.heap.size + 1
        omega))
      clear hnew hb1 hbs HD c0 c1 c2 c3 c4 c5 HXC hxc S1 S2
      generalize hT : wr.heap.size + 1 = T at *
      have HT := Lib.hid hT
      clear hT
      go_wp2_with (at_builtin; refine wpList_append_own fM (by decide) (by decide) (by decide) rfl rfl (.tmp 19) (.tmp 21) 33 47 rfl Tryz.underlying33 infoM W.heap.size u3 qs rfl O1.out O2.out.size (by have := S4.out.1; omega) ⟨⟨tk, te, ts, tu, td, tf, to_⟩, a, A2, m', c2'⟩ (0, 0) _ (by simp) rfl _ rfl ⟨HBo.out, HNW.out.2.1⟩ HOA.out ?_; intro v' w2 ho hg hat; have HS2 := Lib.hid (MSt.more HX.out O1.out O2.out S3.out S4.out (fun ad e => by have h1 := HNW.out.2.2.1 ad e; have h2 := HGT.out; omega) ho hg); clear ho hg hat)
      go_roundw
      case rel => first | exact ⟨k + 1, by omega, by go_num, HS2⟩ | ((repeat apply Exists.intro); exact ⟨⟨k + 1, by omega, by go_num, HS2⟩, rfl⟩)
      case measure => (show n - ((k : Int) + 1).toNat < n - k; omega)
    · obtain rfl : k = n := by omega
      go_wp2
      go_ret
      exact ⟨_, rfl, HS.out⟩
end Go.Proofs.YtfmdhcjniikfdaaGreatDoor.lg
/- The mailbox of what is live. -/
namespace Go.Proofs.YtfmdhcjniikfdaaGreatDoor.lg
open Go.ChangeShapes Go.WideShapes Go.ChangeAt Go.RowKit
open Go.Proofs.YtfmdhcjniikfdaaGreatDoor.codec (Bytes vals)
open Go.Proofs.YtfmdhcjniikfdaaGreatDoor.bod (cell_at)
set_option linter.unusedVariables false
set_option maxRecDepth 100000
set_option linter.unusedSimpArgs false

theorem boxSize (cs : Array Value) (h : cs.size = 4) : (Tryz.prog.info? 35).map (·.size) = some cs.size := by
  rw [h]
  kernel_rfl
/-- What Box answers. -/
def BoxAns (W : World) (S : ByteArray) (E X : Nat) (qn : List Nt) (e : Ending) (w' : World) : Prop := ∃ A n c qs, e = .returned (.agg #[.string S, .int .u32 E, .int .u32 X, .slice A n c]) ∧ Rd cM 4 w' A n qs ∧ n ≤ c ∧ nts qs = qn ∧ Below W.heap.size W w'
/-- A mailbox under way: its block and its messages. -/
def BSt (W1 : World) (S : ByteArray) (E X : Nat) (qn : List Nt) (p : Nat) (v : Value) (w : World) : Prop :=
  w.heap[p]? = some (.cells #[.string S, .int .u32 E, .int .u32 X, v] 35 (0, 0)) ∧ ∃ qs, Own cM 4 W1.heap.size 47 w v qs ∧ nts qs = qn ∧ (∀ y ∈ qs, ∀ ad, y.A = some ad → 0 < y.m → W1.heap.size ≤ ad.block ∧ ad.block ≠ p) ∧ v.ownBlock ≠ some p ∧ W1.heap.size ≤ p ∧ Below W1.heap.size W1 w
def yU (y : Y) (u : Nat) : Y := { y with n := withU y.n u }
def ruY (qs : List Y) (i : Nat) : List Y := ru yU qs i
theorem ruY_nts (qs : List Y) (i : Nat) : nts (ruY qs i) = ru withU (nts qs) i := ru_map yU withU Y.n (fun _ _ => rfl) qs i
theorem fl_set : ∀ (L : List Y) (k u : Nat) (y : Y), L[k]? = some y → (fl cM L).set (k * 4) (.int .u32 (u : Nat)) = fl cM (L.set k (yU y u))
  | [], k, u, y, h => by simp at h
  | z :: r, 0, u, y, h => by
    simp at h
    subst h
    rfl
  | z :: r, k + 1, u, y, h => by
    have ih := fl_set r k u y (by simpa using h)
    rw [show (k + 1) * 4 = k * 4 + 4 by omega]
    show _ :: _ :: _ :: _ :: (fl cM r).set (k * 4) _ = _
    rw [ih]
    rfl
theorem ruY_step {qs : List Y} {k : Nat} {y : Y} (h : (ruY qs k)[k]? = some y) : ruY qs (k + 1) = (ruY qs k).set k (yU y (k + 1)) := by
  show (ruY qs k).modify k _ = _
  apply List.ext_getElem?
  intro j
  rw [List.getElem?_modify, List.getElem?_set]
  by_cases hj : k = j
  · subst hj
    obtain ⟨h1, h2⟩ := List.getElem?_eq_some_iff.1 h
    subst h2
    simp [h1]
  · simp [hj]
theorem Own.form' {F : Y → List Value} {K B : Nat} {E : TypeId} {w : World} {A : Option Addr} {m c : Nat} {ys : List Y} (h : Own F K B E w (.slice A m c) ys) (hm : 0 < m) : ∃ g, A = some ⟨g, 0, none⟩ ∧ B ≤ g := by
  rcases h.1.2 with ⟨e, h0⟩ | ⟨g, cap, cur, e, hB, _⟩
  · simp at e
    omega
  · simp at e
    exact ⟨g, e.1, hB⟩
theorem Own.len' {F : Y → List Value} {K B : Nat} {E : TypeId} {w : World} {A : Option Addr} {m c : Nat} {ys : List Y} (h : Own F K B E w (.slice A m c) ys) : ys.length = m := by
  rcases h.1.2 with ⟨e, h0⟩ | ⟨g, cap, cur, e, hB, _⟩
  · simp at e
    omega
  · simp at e
    omega
theorem Own.below_other {F : Y → List Value} {K B : Nat} {E : TypeId} {w : World} {v u : Value} {ys : List Y} {p j : Nat} (h : Own F K B E w v ys) (hv : v.ownBlock ≠ some p) (ho : ∀ y ∈ ys, ∀ ad, y.A = some ad → 0 < y.m → ad.block ≠ p) : Own F K B E (w.setCell ⟨p, j, none⟩ u) v ys :=
  h.grown (row := some p) ⟨rfl, rfl, rfl, by simp, fun k _ hne => heap_setCell_other _ _ _ _ (fun e => hne (by rw [e]))⟩ (fun b e => by cases e; exact hv) (fun y hy ad e h0 e' => ho y hy ad e h0 (Option.some.inj e'))
/-- The mailbox while its UIDs are given anew. -/
def LB (W1 : World) (S : ByteArray) (E X p : Nat) (A : Option Addr) (m c : Nat) (qs : List Y) (i : Nat) (w : World) : Prop :=
  w.heap[p]? = some (.cells #[.string S, .int .u32 E, .int .u32 X, .slice A m c] 35 (0, 0)) ∧ Own cM 4 W1.heap.size 47 w (.slice A m c) (ruY qs i) ∧ (∀ y ∈ ruY qs i, ∀ ad, y.A = some ad → 0 < y.m → W1.heap.size ≤ ad.block ∧ ad.block ≠ p) ∧ (Value.slice A m c).ownBlock ≠ some p ∧ Below W1.heap.size W1 w
theorem LB.step {W1 : World} {S : ByteArray} {E X p g m c k : Nat} {qs : List Y} {w : World} (h : LB W1 S E X p (some ⟨g, 0, none⟩) m c qs k w) (hk : k < (ruY qs k).length) : LB W1 S E X p (some ⟨g, 0, none⟩) m c qs (k + 1) (w.setCell ⟨g, k * 4, none⟩ (.int .u32 ((k + 1 : Nat) : Nat))) := by
  obtain ⟨h1, h2, h3, h4, h5⟩ := h
  have hy : (ruY qs k)[k]? = some (ruY qs k)[k] := List.getElem?_eq_getElem hk
  have hlen := h2.len'
  obtain ⟨s1, s2⟩ := World.ownsRow.stored (hlen ▸ h2.1) (k * 4) (.int .u32 ((k + 1 : Nat) : Nat))
  have hgp : p ≠ g := fun e => h4 (by rw [e]; rfl)
  have hst := ruY_step hy
  have hmem : ∀ y ∈ ruY qs (k + 1), ∃ z ∈ ruY qs k, y.A = z.A ∧ y.m = z.m ∧ y.c = z.c ∧ y.n.o = z.n.o := by
    intro y hy'
    rw [hst] at hy'
    rcases List.mem_or_eq_of_mem_set hy' with h | h
    · exact ⟨y, h, rfl, rfl, rfl, rfl⟩
    · exact ⟨_, List.getElem_mem hk, by rw [h]; rfl, by rw [h]; rfl, by rw [h]; rfl, by rw [h]; rfl⟩
  refine ⟨by rw [heap_setCell_other _ _ _ _ hgp]; exact h1, ⟨?_, fun y hy' => ?_⟩, fun y hy' ad e h0 => ?_, h4, h5.setCell (p := ⟨g, k * 4, none⟩) (h2.lt rfl).1 _⟩
  · rw [hst, ← fl_set _ k (k + 1) _ hy, List.length_set, hlen]
    exact s1
  · obtain ⟨z, hz, e1, e2, e3, e4⟩ := hmem y hy'
    obtain ⟨o1, o2⟩ := h2.2 z hz
    have o3 := o1.grown s2 (fun ad e h0 e' => o2 ad e h0 e'.symm)
    unfold Oct at *
    rw [e1, e2, e3, e4]
    exact ⟨o3, o2⟩
  · obtain ⟨z, hz, e1, e2, _⟩ := hmem y hy'
    exact h3 z hz ad (e1 ▸ e) (e2 ▸ h0)
set_option maxHeartbeats 4000000 in
theorem box_clean (W : World) (S : ByteArray) (E X torn : Nat) (A : Option Addr) (n c : Nat) (zs : List Y) (hR : Rd cL 6 W A n zs) (hn : n ≤ 16000000) (hok : ∀ y ∈ zs, y.n.o.length ≤ 9000000) :
    Calls Tryz.prog 10 #[.agg #[.string S, .int .u32 E, .int .u32 X, .slice A n c, .int .i64 torn, .bool true]] W fun e w' => BoxAns W S E X (nts zs) e w' := by
  obtain ⟨W1, hW1⟩ : ∃ W1, W1 = (W.alloc (.cells #[.string S, .int .u32 E, .int .u32 X, .slice A n c, .int .i64 torn, .bool true] 27)).alloc (.cells #[.string ⟨#[]⟩, .int .u32 0, .int .u32 0, .slice none 0 0] 35) := ⟨_, rfl⟩
  have HBW := Lib.hid (show Below W.heap.size W W1 by rw [hW1]; exact ((Below.refl _ _).alloc (Nat.le_refl _) _).alloc (by simp) _)
  have HWS := Lib.hid (show W.heap.size + 2 = W1.heap.size by rw [hW1]; simp)
  have HX1 := Lib.hid (fun (w' : World) (h : Below W1.heap.size W1 w') => show w'.heap[W.heap.size]? = some (.cells #[.string S, .int .u32 E, .int .u32 X, .slice A n c, .int .i64 torn, .bool true] 27 (0, 0)) from (h.block _ (by rw [hW1]; simp; omega)).trans (by rw [hW1, heap_alloc_old _ _ (by simp)]; exact heap_alloc_new _ _))
  have HX2 := Lib.hid (fun (w' : World) (h : Below W1.heap.size W1 w') => show w'.heap[W.heap.size + 1]? = some (.cells #[.string ⟨#[]⟩, .int .u32 0, .int .u32 0, .slice none 0 0] 35 (0, 0)) from (h.block _ (by rw [hW1]; simp)).trans (by rw [hW1]; have := heap_alloc_new (W.alloc (.cells #[.string S, .int .u32 E, .int .u32 X, .slice A n c, .int .i64 torn, .bool true] 27)) (.cells #[.string ⟨#[]⟩, .int .u32 0, .int .u32 0, .slice none 0 0] 35); simpa using this))
  have HRd := Lib.hid (fun (w' : World) (h : Below W1.heap.size W1 w') => hR.below (HBW.out.trans (h.mono HBW.out.size)))
  have HO := Lib.hid hok
  have HN := Lib.hid hn
  have HW1 := Lib.hid hW1
  have HST := Lib.hid (show Below W1.heap.size W1 W1.drew from codec.below_draws (Below.refl _ _) 1)
  have HL : Hid ((nts zs).take n = nts zs) := Lib.hid (List.take_of_length_le (by rw [nts_len, hR.1]; omega))
  clear hW1 hR hok hn
  go_enter Tryz.func10, Tryz.ntmps10
  go_wp2_with fail
  rw [← HW1.out]
  generalize hb0 : W.heap.size = b at *
  have HB0 := Lib.hid hb0
  clear hb0
  refine wp_region_noPanic ?_
  refine wp_region_held_drew (S := fun w' => Below W1.heap.size W1 w') (by kernel_rfl) HST.out (fun hHeld => ?_)
  refine wpAnyH_take (i := 0) (v := ?_) rfl (by kernel_rfl) (by kernel_rfl) (by kernel_rfl) (fun _ _ _ h => h) (Or.inl ⟨by kernel_rfl, ?_⟩) hHeld ?_
  rotate_left
  · (intro w' hw'; go_simp; first | done | with_reducible rfl)
  refine wpAnyH_take (i := 1) (v := ?_) rfl (by kernel_rfl) (by kernel_rfl) (by kernel_rfl) (fun _ _ _ h => h) (Or.inl ⟨by kernel_rfl, ?_⟩) hHeld ?_
  rotate_left
  · (intro w' hw'; have c0 := cell_at (HX1.out _ hw') 0 _ rfl; go_simp; first | done | with_reducible rfl)
  refine wpAnyH_take (i := 2) (v := ?_) rfl (by kernel_rfl) (by kernel_rfl) (by kernel_rfl) (fun _ _ _ h => h) (Or.inl ⟨by kernel_rfl, ?_⟩) hHeld ?_
  rotate_left
  · (intro w' hw'; go_simp; first | done | with_reducible rfl)
  refine wpAnyH_take (i := 3) (v := ?_) rfl (by kernel_rfl) (by kernel_rfl) (by kernel_rfl) (fun _ _ _ h => h) (Or.inl ⟨by kernel_rfl, ?_⟩) hHeld ?_
  rotate_left
  · (intro w' hw'; have c1 := cell_at (HX1.out _ hw') 1 _ rfl; go_simp; first | done | with_reducible rfl)
  refine wpAnyH_take (i := 4) (v := ?_) rfl (by kernel_rfl) (by kernel_rfl) (by kernel_rfl) (fun _ _ _ h => h) (Or.inl ⟨by kernel_rfl, ?_⟩) hHeld ?_
  rotate_left
  · (intro w' hw'; go_simp; first | done | with_reducible rfl)
  refine wpAnyH_take (i := 5) (v := ?_) rfl (by kernel_rfl) (by kernel_rfl) (by kernel_rfl) (fun _ _ _ h => h) (Or.inl ⟨by kernel_rfl, ?_⟩) hHeld ?_
  rotate_left
  · (intro w' hw'; have c2 := cell_at (HX1.out _ hw') 2 _ rfl; go_simp; first | done | with_reducible rfl)
  refine wpAnyH_take (i := 6) (v := ?_) rfl (by kernel_rfl) (by kernel_rfl) (by kernel_rfl) (fun _ _ _ h => h) (Or.inl ⟨by kernel_rfl, ?_⟩) hHeld ?_
  rotate_left
  · (intro w' hw'; go_simp; first | done | with_reducible rfl)
  refine wpAnyH_take (i := 7) (v := ?_) rfl (by kernel_rfl) (by kernel_rfl) (by kernel_rfl) (fun _ _ _ h => h) (Or.inl ⟨by kernel_rfl, ?_⟩) hHeld ?_
  rotate_left
  · (intro w' hw'; have c3 := cell_at (HX1.out _ hw') 3 _ rfl; go_simp; first | done | with_reducible rfl)
  refine wpAnyH_ready (rs := [8, 10]) (by kernel_rfl) (by simp) ?_
  refine AllReadyH.cons rfl (fun K hK => ?_) (AllReadyH.cons rfl (fun K hK => ?_) AllReadyH.nil)
  · go_simp
    refine (messagesOf_any _ A n c zs (HRd.out _ hHeld) HN.out HO.out).mono ?_
    rintro x w5 ⟨v, rfl, qs, o1, o2, o3, o4, o5⟩
    obtain ⟨A5, c5, rfl, hc5, -, -⟩ := o1.rd fM
    have hS1 := hHeld.trans (o2.mono hHeld.size)
    generalize hm5 : qs.length = m5 at *
    clear hm5
    have HM := Lib.hid (And.intro o1 (And.intro o3 o5))
    clear o1 o2 o3 o4 o5
    go_wp2_with fail
    refine hK.out _ _ hS1 (fun hH1 => ?_)
    clear hK K hHeld
    refine wpAnyH_take (i := 9) (v := ?_) rfl (by kernel_rfl) (by kernel_rfl) (by kernel_rfl) (fun _ _ _ h => h) (Or.inl ⟨by kernel_rfl, ?_⟩) hH1 ?_
    rotate_left
    · (intro w' hw'; go_simp; first | done | with_reducible rfl)
    have hS2 := hS1.alloc hS1.size (.cells #[.string ⟨#[]⟩, .int .u32 0, .int .u32 0, .slice none 0 0] 35)
    refine wpAnyH_ready (rs := [10]) (by kernel_rfl) (by simp) ?_
    refine AllReadyH.cons rfl (fun K hK => ?_) AllReadyH.nil
    go_simp
    refine hK _ _ hS2 (fun hH2 => ?_)
    clear hK K hH1
    have hS3 := hS1.alloc hS1.size (.cells #[.string S, .int .u32 E, .int .u32 X, .slice A5 m5 c5] 35)
    refine wpAnyH_ready (rs := [11]) (by kernel_rfl) (by simp) ?_
    refine AllReadyH.cons rfl (fun K hK => ?_) AllReadyH.nil
    go_simp
    refine hK _ _ hS3 (fun hH3 => ?_)
    clear hK K hH2
    have HBS : Hid (BSt W1 S E X (nts zs) w5.heap.size (.slice A5 m5 c5) (w5.alloc (.cells #[.string S, .int .u32 E, .int .u32 X, .slice A5 m5 c5] 35))) := Lib.hid ⟨heap_alloc_new w5 _, qs, HM.out.1.below ((Below.refl _ _).alloc (Nat.le_refl _) _), by rw [HM.out.2.1, HL.out], fun y hy ad e h0 => ⟨HM.out.2.2 y hy ad e, by have := (HM.out.1.2 y hy).1.1.lt ad e h0; omega⟩, fun e => by have := (HM.out.1.lt e).2; omega, hS1.size, hS3⟩
    generalize w5.alloc (.cells #[.string S, .int .u32 E, .int .u32 X, .slice A5 m5 c5] 35) = w6 at *
    generalize w5.heap.size = p at *
    clear hS1 hS2 hS3 HM
    refine wpAnyH_done (by kernel_rfl) ?_ _
    refine NoPanic.normal ?_
    go_simp
    clear hH3
    obtain ⟨hp0, qs', o1, hq, hfr, hvp, hpW, hbl⟩ := HBS.out
    have hX1 := HX1.out _ hbl
    have hX2 := HX2.out _ hbl
    have d5 := cell_at hX1 5 _ rfl
    have e0 := cell_at hp0 0 _ rfl
    have e1 := cell_at hp0 1 _ rfl
    have e2 := cell_at hp0 2 _ rfl
    have e3 := cell_at hp0 3 _ rfl
    have r0 := cell_at hX2 0 _ rfl
    have s0 := frozen_of_row _ _ 0 _ _ hX2
    have r1 := cell_at hX2 1 _ rfl
    have s1 := frozen_of_row _ _ 1 _ _ hX2
    have r2 := cell_at hX2 2 _ rfl
    have s2 := frozen_of_row _ _ 2 _ _ hX2
    have r3 := cell_at hX2 3 _ rfl
    have s3 := frozen_of_row _ _ 3 _ _ hX2
    have HH := Lib.hid hX2
    clear hp0 o1 hq hfr hvp hpW hbl hX1 hX2
    go_wp2_with fail
    obtain ⟨hp0, qs', o1, hq, hfr, hvp, hpW, hbl⟩ := HBS.out
    obtain ⟨A6, c6, e6, hc6, -, hR6⟩ := o1.rd fM
    obtain ⟨k1, k2, k3⟩ := four HH.out rfl (.string S) (.int .u32 E) (.int .u32 X) (.slice A5 m5 c5)
    have hbb := HWS.out
    have hb0 := HB0.out
    have hm : m5 = qs'.length := by simp at e6; exact e6.2.1
    have ha : A5 = A6 := by simp at e6; exact e6.1
    have hcc : c5 = c6 := by simp at e6; exact e6.2.2
    refine bodyPost_ret (results_cell_row Tryz.results10 _ _ (b + 1) _ _ _ _ rfl k1 Tryz.underlying35 rfl (boxSize _ rfl)) rfl ⟨A5, m5, c5, qs', rfl, ?_, ?_, hq, ?_⟩
    · rw [← hm, ← ha] at hR6
      exact hR6.other _ k2 (fun ad e e' => by
        have h1 := (o1.lt (g := ad.block) (by rw [e]; rfl)).1
        omega) (fun y hy ad e h0 e' => by
        have h1 := (hfr y hy ad e h0).1
        omega)
    · omega
    · exact k3 _ _ (by rw [hb0]; exact HBW.out.trans (hbl.mono (by omega))) (by omega)
  · have hS0 : Below W1.heap.size W1 (W1.alloc (.cells #[.string ⟨#[]⟩, .int .u32 0, .int .u32 0, .slice none 0 0] 35)).drew := ((Below.refl _ _).alloc (Nat.le_refl _) _).drew
    go_simp
    refine hK _ _ hS0 (fun hH0 => ?_)
    clear hK K hHeld
    have hz0 : (W1.alloc (.cells #[.string ⟨#[]⟩, .int .u32 0, .int .u32 0, .slice none 0 0] 35)).drew.heap[W1.heap.size]? = some (.cells #[.string ⟨#[]⟩, .int .u32 0, .int .u32 0, .slice none 0 0] 35 (0, 0)) := heap_alloc_new W1 _
    have hz1 : W1.heap.size < (W1.alloc (.cells #[.string ⟨#[]⟩, .int .u32 0, .int .u32 0, .slice none 0 0] 35)).drew.heap.size := by simp
    generalize (W1.alloc (.cells #[.string ⟨#[]⟩, .int .u32 0, .int .u32 0, .slice none 0 0] 35)).drew = w4 at *
    refine wpAnyH_ready (rs := [8]) (by kernel_rfl) (by simp) ?_
    refine AllReadyH.cons rfl (fun K hK => ?_) AllReadyH.nil
    go_simp
    refine (messagesOf_any _ A n c zs (HRd.out _ hH0) HN.out HO.out).mono ?_
    rintro x w5 ⟨v, rfl, qs, o1, o2, o3, o4, o5⟩
    obtain ⟨A5, c5, rfl, hc5, -, -⟩ := o1.rd fM
    have hS1 := hS0.trans (o2.mono hS0.size)
    generalize hm5 : qs.length = m5 at *
    clear hm5
    have HM := Lib.hid (And.intro o1 (And.intro o3 o5))
    have hz5 : w5.heap[W1.heap.size]? = some (.cells #[.string ⟨#[]⟩, .int .u32 0, .int .u32 0, .slice none 0 0] 35 (0, 0)) := (o2.block _ hz1).trans hz0
    have o1' := o1
    have hge := (show ∀ g, (Value.slice A5 m5 c5).ownBlock = some g → W1.heap.size < g from fun g e => Nat.lt_of_lt_of_le hz1 (o1.lt e).1)
    have hgo := (show ∀ y ∈ qs, ∀ ad, y.A = some ad → W1.heap.size < ad.block from fun y hy ad e => Nat.lt_of_lt_of_le hz1 (o5 y hy ad e))
    have HO1 := Lib.hid (o1.mono (show W1.heap.size ≤ w4.heap.size from hS0.size))
    clear o1 o1' o2 o3 o4 o5 hS0
    have HGE := Lib.hid hge
    have HGO := Lib.hid hgo
    clear hge hgo
    go_wp2_with fail
    refine hK.out _ _ hS1 (fun hH1 => ?_)
    clear hK K hH0
    refine wpAnyH_take (i := 9) (v := ?_) rfl (by kernel_rfl) (by kernel_rfl) (by kernel_rfl) (fun _ _ _ h => h) (Or.inl ⟨by kernel_rfl, ?_⟩) hH1 ?_
    rotate_left
    · (intro w' hw'; go_simp; first | done | with_reducible rfl)
    obtain ⟨k1, k2, k3⟩ := four hz5 rfl (.string S) (.int .u32 E) (.int .u32 X) (.slice A5 m5 c5)
    have hS3 := k3 _ _ hS1 (Nat.le_refl _)
    have e0 := cell_at hz5 0 _ rfl
    have e1 := cell_at hz5 1 _ rfl
    have e2 := cell_at hz5 2 _ rfl
    have e3 := cell_at hz5 3 _ rfl
    have f0 := frozen_of_row _ _ 0 _ _ hz5
    have f1 := frozen_of_row _ _ 1 _ _ hz5
    have f2 := frozen_of_row _ _ 2 _ _ hz5
    have f3 := frozen_of_row _ _ 3 _ _ hz5
    have HZ5 := Lib.hid hz5
    clear hz5 hz0
    refine wpAnyH_ready (rs := [11]) (by kernel_rfl) (by simp) ?_
    refine AllReadyH.cons rfl (fun K hK => ?_) AllReadyH.nil
    go_simp
    refine hK _ _ hS3 (fun hH3 => ?_)
    clear hK K hH1
    have HBS : Hid (BSt W1 S E X (nts zs) W1.heap.size (.slice A5 m5 c5) (((((w5).setCell ⟨W1.heap.size, 0, none⟩ (.string S)).setCell ⟨W1.heap.size, 1, none⟩ (.int .u32 E)).setCell ⟨W1.heap.size, 2, none⟩ (.int .u32 X)).setCell ⟨W1.heap.size, 3, none⟩ (.slice A5 m5 c5))) := Lib.hid ⟨k1, qs, HO1.out.grown (row := some W1.heap.size) ⟨by have := k3 _ _ (Below.refl W1.heap.size w5) (Nat.le_refl _); exact this.os, by have := k3 _ _ (Below.refl W1.heap.size w5) (Nat.le_refl _); exact this.tape, by have := k3 _ _ (Below.refl W1.heap.size w5) (Nat.le_refl _); exact this.output, by have := k3 _ _ (Below.refl W1.heap.size w5) (Nat.le_refl _); exact this.size, fun k _ hne => k2 k (fun e => hne (by rw [e]))⟩ (fun b' e e' => by have := HGE.out b' e'; have := Option.some.inj e; omega) (fun y hy ad e h0 e' => by have := HGO.out y hy ad e; have := Option.some.inj e'; omega), by rw [HM.out.2.1, HL.out], fun y hy ad e h0 => ⟨Nat.le_of_lt (HGO.out y hy ad e), by have := HGO.out y hy ad e; omega⟩, fun e => by have := HGE.out _ e; omega, Nat.le_refl _, hS3⟩
    generalize ((((w5).setCell ⟨W1.heap.size, 0, none⟩ (.string S)).setCell ⟨W1.heap.size, 1, none⟩ (.int .u32 E)).setCell ⟨W1.heap.size, 2, none⟩ (.int .u32 X)).setCell ⟨W1.heap.size, 3, none⟩ (.slice A5 m5 c5) = w6 at *
    clear k1 k2 k3 hS1 hS3 HM e0 e1 e2 e3 f0 f1 f2 f3 HZ5 HGE HGO HO1
    refine wpAnyH_done (by kernel_rfl) ?_ _
    refine NoPanic.normal ?_
    go_simp
    clear hH3
    obtain ⟨hp0, qs', o1, hq, hfr, hvp, hpW, hbl⟩ := HBS.out
    have hX1 := HX1.out _ hbl
    have hX2 := HX2.out _ hbl
    have d5 := cell_at hX1 5 _ rfl
    have e0 := cell_at hp0 0 _ rfl
    have e1 := cell_at hp0 1 _ rfl
    have e2 := cell_at hp0 2 _ rfl
    have e3 := cell_at hp0 3 _ rfl
    have r0 := cell_at hX2 0 _ rfl
    have s0 := frozen_of_row _ _ 0 _ _ hX2
    have r1 := cell_at hX2 1 _ rfl
    have s1 := frozen_of_row _ _ 1 _ _ hX2
    have r2 := cell_at hX2 2 _ rfl
    have s2 := frozen_of_row _ _ 2 _ _ hX2
    have r3 := cell_at hX2 3 _ rfl
    have s3 := frozen_of_row _ _ 3 _ _ hX2
    have HH := Lib.hid hX2
    clear hp0 o1 hq hfr hvp hpW hbl hX1 hX2
    go_wp2_with fail
    obtain ⟨hp0, qs', o1, hq, hfr, hvp, hpW, hbl⟩ := HBS.out
    obtain ⟨A6, c6, e6, hc6, -, hR6⟩ := o1.rd fM
    obtain ⟨k1, k2, k3⟩ := four HH.out rfl (.string S) (.int .u32 E) (.int .u32 X) (.slice A5 m5 c5)
    have hbb := HWS.out
    have hb0 := HB0.out
    have hm : m5 = qs'.length := by simp at e6; exact e6.2.1
    have ha : A5 = A6 := by simp at e6; exact e6.1
    have hcc : c5 = c6 := by simp at e6; exact e6.2.2
    refine bodyPost_ret (results_cell_row Tryz.results10 _ _ (b + 1) _ _ _ _ rfl k1 Tryz.underlying35 rfl (boxSize _ rfl)) rfl ⟨A5, m5, c5, qs', rfl, ?_, ?_, hq, ?_⟩
    · rw [← hm, ← ha] at hR6
      exact hR6.other _ k2 (fun ad e e' => by
        have h1 := (o1.lt (g := ad.block) (by rw [e]; rfl)).1
        omega) (fun y hy ad e h0 e' => by
        have h1 := (hfr y hy ad e h0).1
        omega)
    · omega
    · exact k3 _ _ (by rw [hb0]; exact HBW.out.trans (hbl.mono (by omega))) (by omega)
set_option maxHeartbeats 4000000 in
theorem box_not (W : World) (S : ByteArray) (E X torn : Nat) (A : Option Addr) (n c : Nat) (zs : List Y) (hR : Rd cL 6 W A n zs) (hE : E < 4294967296) (hn : n ≤ 16000000) (hok : ∀ y ∈ zs, y.n.o.length ≤ 9000000) :
    Calls Tryz.prog 10 #[.agg #[.string S, .int .u32 E, .int .u32 X, .slice A n c, .int .i64 torn, .bool false]] W fun e w' => BoxAns W S (min E 4294967294 + 1) (n + 1) (ru withU (nts zs) n) e w' := by
  obtain ⟨W1, hW1⟩ : ∃ W1, W1 = (W.alloc (.cells #[.string S, .int .u32 E, .int .u32 X, .slice A n c, .int .i64 torn, .bool false] 27)).alloc (.cells #[.string ⟨#[]⟩, .int .u32 0, .int .u32 0, .slice none 0 0] 35) := ⟨_, rfl⟩
  have HBW := Lib.hid (show Below W.heap.size W W1 by rw [hW1]; exact ((Below.refl _ _).alloc (Nat.le_refl _) _).alloc (by simp) _)
  have HWS := Lib.hid (show W.heap.size + 2 = W1.heap.size by rw [hW1]; simp)
  have HX1 := Lib.hid (fun (w' : World) (h : Below W1.heap.size W1 w') => show w'.heap[W.heap.size]? = some (.cells #[.string S, .int .u32 E, .int .u32 X, .slice A n c, .int .i64 torn, .bool false] 27 (0, 0)) from (h.block _ (by rw [hW1]; simp; omega)).trans (by rw [hW1, heap_alloc_old _ _ (by simp)]; exact heap_alloc_new _ _))
  have HX2 := Lib.hid (fun (w' : World) (h : Below W1.heap.size W1 w') => show w'.heap[W.heap.size + 1]? = some (.cells #[.string ⟨#[]⟩, .int .u32 0, .int .u32 0, .slice none 0 0] 35 (0, 0)) from (h.block _ (by rw [hW1]; simp)).trans (by rw [hW1]; have := heap_alloc_new (W.alloc (.cells #[.string S, .int .u32 E, .int .u32 X, .slice A n c, .int .i64 torn, .bool false] 27)) (.cells #[.string ⟨#[]⟩, .int .u32 0, .int .u32 0, .slice none 0 0] 35); simpa using this))
  have HRd := Lib.hid (fun (w' : World) (h : Below W1.heap.size W1 w') => hR.below (HBW.out.trans (h.mono HBW.out.size)))
  have HO := Lib.hid hok
  have HN := Lib.hid hn
  have HZL := Lib.hid (show (nts zs).length = n by rw [nts_len, hR.1])
  have HEL := Lib.hid hE
  have HW1 := Lib.hid hW1
  have HST := Lib.hid (show Below W1.heap.size W1 W1.drew from codec.below_draws (Below.refl _ _) 1)
  have HL : Hid ((nts zs).take n = nts zs) := Lib.hid (List.take_of_length_le (by rw [nts_len, hR.1]; omega))
  clear hW1 hR hok hn hE
  go_enter Tryz.func10, Tryz.ntmps10
  go_wp2_with fail
  rw [← HW1.out]
  generalize hb0 : W.heap.size = b at *
  have HB0 := Lib.hid hb0
  clear hb0
  refine wp_region_noPanic ?_
  refine wp_region_held_drew (S := fun w' => Below W1.heap.size W1 w') (by kernel_rfl) HST.out (fun hHeld => ?_)
  refine wpAnyH_take (i := 0) (v := ?_) rfl (by kernel_rfl) (by kernel_rfl) (by kernel_rfl) (fun _ _ _ h => h) (Or.inl ⟨by kernel_rfl, ?_⟩) hHeld ?_
  rotate_left
  · (intro w' hw'; go_simp; first | done | with_reducible rfl)
  refine wpAnyH_take (i := 1) (v := ?_) rfl (by kernel_rfl) (by kernel_rfl) (by kernel_rfl) (fun _ _ _ h => h) (Or.inl ⟨by kernel_rfl, ?_⟩) hHeld ?_
  rotate_left
  · (intro w' hw'; have c0 := cell_at (HX1.out _ hw') 0 _ rfl; go_simp; first | done | with_reducible rfl)
  refine wpAnyH_take (i := 2) (v := ?_) rfl (by kernel_rfl) (by kernel_rfl) (by kernel_rfl) (fun _ _ _ h => h) (Or.inl ⟨by kernel_rfl, ?_⟩) hHeld ?_
  rotate_left
  · (intro w' hw'; go_simp; first | done | with_reducible rfl)
  refine wpAnyH_take (i := 3) (v := ?_) rfl (by kernel_rfl) (by kernel_rfl) (by kernel_rfl) (fun _ _ _ h => h) (Or.inl ⟨by kernel_rfl, ?_⟩) hHeld ?_
  rotate_left
  · (intro w' hw'; have c1 := cell_at (HX1.out _ hw') 1 _ rfl; go_simp; first | done | with_reducible rfl)
  refine wpAnyH_take (i := 4) (v := ?_) rfl (by kernel_rfl) (by kernel_rfl) (by kernel_rfl) (fun _ _ _ h => h) (Or.inl ⟨by kernel_rfl, ?_⟩) hHeld ?_
  rotate_left
  · (intro w' hw'; go_simp; first | done | with_reducible rfl)
  refine wpAnyH_take (i := 5) (v := ?_) rfl (by kernel_rfl) (by kernel_rfl) (by kernel_rfl) (fun _ _ _ h => h) (Or.inl ⟨by kernel_rfl, ?_⟩) hHeld ?_
  rotate_left
  · (intro w' hw'; have c2 := cell_at (HX1.out _ hw') 2 _ rfl; go_simp; first | done | with_reducible rfl)
  refine wpAnyH_take (i := 6) (v := ?_) rfl (by kernel_rfl) (by kernel_rfl) (by kernel_rfl) (fun _ _ _ h => h) (Or.inl ⟨by kernel_rfl, ?_⟩) hHeld ?_
  rotate_left
  · (intro w' hw'; go_simp; first | done | with_reducible rfl)
  refine wpAnyH_take (i := 7) (v := ?_) rfl (by kernel_rfl) (by kernel_rfl) (by kernel_rfl) (fun _ _ _ h => h) (Or.inl ⟨by kernel_rfl, ?_⟩) hHeld ?_
  rotate_left
  · (intro w' hw'; have c3 := cell_at (HX1.out _ hw') 3 _ rfl; go_simp; first | done | with_reducible rfl)
  refine wpAnyH_ready (rs := [8, 10]) (by kernel_rfl) (by simp) ?_
  refine AllReadyH.cons rfl (fun K hK => ?_) (AllReadyH.cons rfl (fun K hK => ?_) AllReadyH.nil)
  · go_simp
    refine (messagesOf_any _ A n c zs (HRd.out _ hHeld) HN.out HO.out).mono ?_
    rintro x w5 ⟨v, rfl, qs, o1, o2, o3, o4, o5⟩
    obtain ⟨A5, c5, rfl, hc5, -, -⟩ := o1.rd fM
    have hS1 := hHeld.trans (o2.mono hHeld.size)
    generalize hm5 : qs.length = m5 at *
    clear hm5
    have HM := Lib.hid (And.intro o1 (And.intro o3 o5))
    clear o1 o2 o3 o4 o5
    go_wp2_with fail
    refine hK.out _ _ hS1 (fun hH1 => ?_)
    clear hK K hHeld
    refine wpAnyH_take (i := 9) (v := ?_) rfl (by kernel_rfl) (by kernel_rfl) (by kernel_rfl) (fun _ _ _ h => h) (Or.inl ⟨by kernel_rfl, ?_⟩) hH1 ?_
    rotate_left
    · (intro w' hw'; go_simp; first | done | with_reducible rfl)
    have hS2 := hS1.alloc hS1.size (.cells #[.string ⟨#[]⟩, .int .u32 0, .int .u32 0, .slice none 0 0] 35)
    refine wpAnyH_ready (rs := [10]) (by kernel_rfl) (by simp) ?_
    refine AllReadyH.cons rfl (fun K hK => ?_) AllReadyH.nil
    go_simp
    refine hK _ _ hS2 (fun hH2 => ?_)
    clear hK K hH1
    have hS3 := hS1.alloc hS1.size (.cells #[.string S, .int .u32 E, .int .u32 X, .slice A5 m5 c5] 35)
    refine wpAnyH_ready (rs := [11]) (by kernel_rfl) (by simp) ?_
    refine AllReadyH.cons rfl (fun K hK => ?_) AllReadyH.nil
    go_simp
    refine hK _ _ hS3 (fun hH3 => ?_)
    clear hK K hH2
    have HBS : Hid (BSt W1 S E X (nts zs) w5.heap.size (.slice A5 m5 c5) (w5.alloc (.cells #[.string S, .int .u32 E, .int .u32 X, .slice A5 m5 c5] 35))) := Lib.hid ⟨heap_alloc_new w5 _, qs, HM.out.1.below ((Below.refl _ _).alloc (Nat.le_refl _) _), by rw [HM.out.2.1, HL.out], fun y hy ad e h0 => ⟨HM.out.2.2 y hy ad e, by have := (HM.out.1.2 y hy).1.1.lt ad e h0; omega⟩, fun e => by have := (HM.out.1.lt e).2; omega, hS1.size, hS3⟩
    generalize w5.alloc (.cells #[.string S, .int .u32 E, .int .u32 X, .slice A5 m5 c5] 35) = w6 at *
    generalize w5.heap.size = p at *
    clear hS1 hS2 hS3 HM
    refine wpAnyH_done (by kernel_rfl) ?_ _
    refine NoPanic.normal ?_
    go_simp
    clear hH3
    obtain ⟨hp0, qs', o1, hq, hfr, hvp, hpW, hbl⟩ := HBS.out
    obtain ⟨E2, hE2⟩ : ∃ E2 : Nat, E2 = min E 4294967294 + 1 := ⟨_, rfl⟩
    have hE2i : (E2 : Int) = min (E : Int) 4294967294 + 1 := by omega
    have hml : m5 = n := by
      have h1 := congrArg List.length hq
      rw [nts_len, HZL.out] at h1
      obtain ⟨A6, c6, e6, -⟩ := o1.rd fM
      simp at e6
      omega
    have hlb : LB W1 S E2 X _ A5 m5 c5 qs' 0 (w6.setCell ⟨_, 1, none⟩ (.int .u32 (E2 : Nat))) := ⟨by rw [heap_setCell_same _ _ _ _ _ _ hp0]; rfl, o1.below_other hvp (fun y hy ad e h0 => (hfr y hy ad e h0).2), hfr, hvp, hbl.setCell hpW _⟩
    have HLB := Lib.hid hlb
    have HQ := Lib.hid hq
    have HML := Lib.hid hml
    have HPW := Lib.hid hpW
    have hm16 : m5 ≤ 16000000 := by have := HN.out; omega
    have hEl := HEL.out
    have hX1 := HX1.out _ hbl
    have d5 := cell_at hX1 5 _ rfl
    have d1 := cell_at hX1 1 _ rfl
    have e1 := cell_at hp0 1 _ rfl
    have e3 := cell_at hp0 3 _ rfl
    have f1 := frozen_of_row _ _ 1 _ _ hp0
    have HE2 := Lib.hid hE2
    have HE2i := Lib.hid hE2i
    clear hp0 o1 hq hfr hvp hpW hbl hX1 hlb hE2 hE2i hml
    go_wp2_with fail
    rw [← HE2i.out]
    go_loopw [26] (fun i wr => ∃ k : Nat, k ≤ m5 ∧ i = .int .i64 k ∧ Hid (LB W1 S E2 X p A5 m5 c5 qs' k wr)) (fun i _ => m5 - (intOf i).toNat)
    case atStart => exact ⟨0, Nat.zero_le _, rfl, HLB⟩
    case round =>
      obtain ⟨k, hk, rfl, HS⟩ := hrel
      obtain ⟨l1, l2, l3, l4, l5⟩ := HS.out
      have a3 := cell_at l1 3 _ rfl
      by_cases hlt : k < m5
      · obtain ⟨g, rfl, hg⟩ := l2.form' (by omega)
        have hlen : (ruY qs' k).length = m5 := l2.len'
        have hkl : k < (ruY qs' k).length := by omega
        have hyk : (ruY qs' k)[k]? = some (ruY qs' k)[k] := List.getElem?_eq_getElem hkl
        have hcl := (hlen ▸ l2.1 : World.ownsRow wr W1.heap.size 47 4 (.slice (some ⟨g, 0, none⟩) m5 c5) m5 (fl cM (ruY qs' k))).cellAt (k * 4) (by omega)
        have hfz := (hlen ▸ l2.1 : World.ownsRow wr W1.heap.size 47 4 (.slice (some ⟨g, 0, none⟩) m5 c5) m5 (fl cM (ruY qs' k))).frozenAt (k * 4)
        have hca : (fl cM (ruY qs' k))[k * 4]? = some (.int .u32 ((ruY qs' k)[k].n.u : Nat)) := fl_at fM _ k _ hyk 0 _ rfl
        rw [hca] at hcl
        obtain ⟨uu, huu⟩ : ∃ uu, uu = (ruY qs' k)[k].n.u := ⟨_, rfl⟩
        rw [← huu] at hcl
        have HN2 := Lib.hid (show LB W1 S E2 X p (some ⟨g, 0, none⟩) m5 c5 qs' (k + 1) (wr.setCell ⟨g, k * 4, none⟩ (.int .u32 ((k + 1 : Nat) : Nat))) from HS.out.step hkl)
        have hlt' : (k : Int) < (m5 : Int) := by omega
        have hgp : g ≠ p := fun e => l4 (by rw [e]; rfl)
        have e32 := IntWalk.u32_in (k : Nat) (by omega)
        clear l1 l2 l3 l4 l5 hca huu hyk hlen hkl
        go_wp2_with fail
        go_roundw
        case rel => first | exact ⟨k + 1, by omega, by go_num, by simpa using HN2⟩ | ((repeat apply Exists.intro); exact ⟨⟨k + 1, by omega, by go_num, by simpa using HN2⟩, rfl⟩)
        case measure => (show m5 - ((k : Int) + 1).toNat < m5 - k; omega)
      · obtain rfl : k = m5 := by omega
        have a0 := cell_at l1 0 _ rfl
        have a1 := cell_at l1 1 _ rfl
        have a2 := cell_at l1 2 _ rfl
        have g2 := frozen_of_row _ _ 2 _ _ l1
        have hX2 := HX2.out _ l5
        have r0 := cell_at hX2 0 _ rfl
        have s0 := frozen_of_row _ _ 0 _ _ hX2
        have r1 := cell_at hX2 1 _ rfl
        have s1 := frozen_of_row _ _ 1 _ _ hX2
        have r2 := cell_at hX2 2 _ rfl
        have s2 := frozen_of_row _ _ 2 _ _ hX2
        have r3 := cell_at hX2 3 _ rfl
        have s3 := frozen_of_row _ _ 3 _ _ hX2
        have hpb : ¬ b + 1 = p := by have := HPW.out; have := HWS.out; omega
        have hpb' : ¬ p = b + 1 := by have := HPW.out; have := HWS.out; omega
        have e32 := IntWalk.u32_in (k : Nat) (by omega)
        have HX2' := Lib.hid hX2
        clear l1 l2 l3 l4 l5 hX2
        go_wp2_with fail
        obtain ⟨l1, l2, l3, l4, l5⟩ := HS.out
        have hbb := HWS.out
        have hb0 := HB0.out
        have hpw := HPW.out
        have hX3 : (wr.setCell ⟨p, 2, none⟩ (.int .u32 ((k : Int) + 1))).heap[b + 1]? = some (.cells #[.string ⟨#[]⟩, .int .u32 0, .int .u32 0, .slice none 0 0] 35 (0, 0)) := by
          rw [heap_setCell_other _ _ _ _ (by show b + 1 ≠ p; omega)]
          exact HX2'.out
        obtain ⟨k1, k2, k3⟩ := four hX3 rfl (.string S) (.int .u32 (E2 : Nat)) (.int .u32 ((k : Int) + 1)) (.slice A5 k c5)
        have hO := Own.below_other (u := .int .u32 ((k : Int) + 1)) (j := 2) l2 l4 (fun y hy ad e h0 => (l3 y hy ad e h0).2)
        obtain ⟨A6, c6, e6, hc6, -, hR6⟩ := hO.rd fM
        have hm : k = (ruY qs' k).length := by simp at e6; exact e6.2.1
        have ha : A5 = A6 := by simp at e6; exact e6.1
        have hcc : c5 = c6 := by simp at e6; exact e6.2.2
        refine bodyPost_ret (results_cell_row Tryz.results10 _ _ (b + 1) _ _ _ _ rfl k1 Tryz.underlying35 rfl (boxSize _ rfl)) rfl ⟨A5, k, c5, ruY qs' k, ?_, ?_, ?_, ?_, ?_⟩
        · rw [← HE2.out, ← HML.out, Int.natCast_add]
          rfl
        · rw [← hm, ← ha] at hR6
          exact hR6.other _ k2 (fun ad e e' => by
            have h1 := (l2.lt (g := ad.block) (by rw [e]; rfl)).1
            omega) (fun y hy ad e h0 e' => by
            have h1 := (l3 y hy ad e h0).1
            omega)
        · omega
        · rw [ruY_nts, HQ.out, HML.out]
        · exact k3 _ _ (by rw [hb0]; exact HBW.out.trans ((l5.setCell (p := ⟨p, 2, none⟩) hpw _).mono (by omega))) (by omega)
  · have hS0 : Below W1.heap.size W1 (W1.alloc (.cells #[.string ⟨#[]⟩, .int .u32 0, .int .u32 0, .slice none 0 0] 35)).drew := ((Below.refl _ _).alloc (Nat.le_refl _) _).drew
    go_simp
    refine hK _ _ hS0 (fun hH0 => ?_)
    clear hK K hHeld
    have hz0 : (W1.alloc (.cells #[.string ⟨#[]⟩, .int .u32 0, .int .u32 0, .slice none 0 0] 35)).drew.heap[W1.heap.size]? = some (.cells #[.string ⟨#[]⟩, .int .u32 0, .int .u32 0, .slice none 0 0] 35 (0, 0)) := heap_alloc_new W1 _
    have hz1 : W1.heap.size < (W1.alloc (.cells #[.string ⟨#[]⟩, .int .u32 0, .int .u32 0, .slice none 0 0] 35)).drew.heap.size := by simp
    generalize (W1.alloc (.cells #[.string ⟨#[]⟩, .int .u32 0, .int .u32 0, .slice none 0 0] 35)).drew = w4 at *
    refine wpAnyH_ready (rs := [8]) (by kernel_rfl) (by simp) ?_
    refine AllReadyH.cons rfl (fun K hK => ?_) AllReadyH.nil
    go_simp
    refine (messagesOf_any _ A n c zs (HRd.out _ hH0) HN.out HO.out).mono ?_
    rintro x w5 ⟨v, rfl, qs, o1, o2, o3, o4, o5⟩
    obtain ⟨A5, c5, rfl, hc5, -, -⟩ := o1.rd fM
    have hS1 := hS0.trans (o2.mono hS0.size)
    generalize hm5 : qs.length = m5 at *
    clear hm5
    have HM := Lib.hid (And.intro o1 (And.intro o3 o5))
    have hz5 : w5.heap[W1.heap.size]? = some (.cells #[.string ⟨#[]⟩, .int .u32 0, .int .u32 0, .slice none 0 0] 35 (0, 0)) := (o2.block _ hz1).trans hz0
    have o1' := o1
    have hge := (show ∀ g, (Value.slice A5 m5 c5).ownBlock = some g → W1.heap.size < g from fun g e => Nat.lt_of_lt_of_le hz1 (o1.lt e).1)
    have hgo := (show ∀ y ∈ qs, ∀ ad, y.A = some ad → W1.heap.size < ad.block from fun y hy ad e => Nat.lt_of_lt_of_le hz1 (o5 y hy ad e))
    have HO1 := Lib.hid (o1.mono (show W1.heap.size ≤ w4.heap.size from hS0.size))
    clear o1 o1' o2 o3 o4 o5 hS0
    have HGE := Lib.hid hge
    have HGO := Lib.hid hgo
    clear hge hgo
    go_wp2_with fail
    refine hK.out _ _ hS1 (fun hH1 => ?_)
    clear hK K hH0
    refine wpAnyH_take (i := 9) (v := ?_) rfl (by kernel_rfl) (by kernel_rfl) (by kernel_rfl) (fun _ _ _ h => h) (Or.inl ⟨by kernel_rfl, ?_⟩) hH1 ?_
    rotate_left
    · (intro w' hw'; go_simp; first | done | with_reducible rfl)
    obtain ⟨k1, k2, k3⟩ := four hz5 rfl (.string S) (.int .u32 E) (.int .u32 X) (.slice A5 m5 c5)
    have hS3 := k3 _ _ hS1 (Nat.le_refl _)
    have e0 := cell_at hz5 0 _ rfl
    have e1 := cell_at hz5 1 _ rfl
    have e2 := cell_at hz5 2 _ rfl
    have e3 := cell_at hz5 3 _ rfl
    have f0 := frozen_of_row _ _ 0 _ _ hz5
    have f1 := frozen_of_row _ _ 1 _ _ hz5
    have f2 := frozen_of_row _ _ 2 _ _ hz5
    have f3 := frozen_of_row _ _ 3 _ _ hz5
    have HZ5 := Lib.hid hz5
    clear hz5 hz0
    refine wpAnyH_ready (rs := [11]) (by kernel_rfl) (by simp) ?_
    refine AllReadyH.cons rfl (fun K hK => ?_) AllReadyH.nil
    go_simp
    refine hK _ _ hS3 (fun hH3 => ?_)
    clear hK K hH1
    have HBS : Hid (BSt W1 S E X (nts zs) W1.heap.size (.slice A5 m5 c5) (((((w5).setCell ⟨W1.heap.size, 0, none⟩ (.string S)).setCell ⟨W1.heap.size, 1, none⟩ (.int .u32 E)).setCell ⟨W1.heap.size, 2, none⟩ (.int .u32 X)).setCell ⟨W1.heap.size, 3, none⟩ (.slice A5 m5 c5))) := Lib.hid ⟨k1, qs, HO1.out.grown (row := some W1.heap.size) ⟨by have := k3 _ _ (Below.refl W1.heap.size w5) (Nat.le_refl _); exact this.os, by have := k3 _ _ (Below.refl W1.heap.size w5) (Nat.le_refl _); exact this.tape, by have := k3 _ _ (Below.refl W1.heap.size w5) (Nat.le_refl _); exact this.output, by have := k3 _ _ (Below.refl W1.heap.size w5) (Nat.le_refl _); exact this.size, fun k _ hne => k2 k (fun e => hne (by rw [e]))⟩ (fun b' e e' => by have := HGE.out b' e'; have := Option.some.inj e; omega) (fun y hy ad e h0 e' => by have := HGO.out y hy ad e; have := Option.some.inj e'; omega), by rw [HM.out.2.1, HL.out], fun y hy ad e h0 => ⟨Nat.le_of_lt (HGO.out y hy ad e), by have := HGO.out y hy ad e; omega⟩, fun e => by have := HGE.out _ e; omega, Nat.le_refl _, hS3⟩
    generalize ((((w5).setCell ⟨W1.heap.size, 0, none⟩ (.string S)).setCell ⟨W1.heap.size, 1, none⟩ (.int .u32 E)).setCell ⟨W1.heap.size, 2, none⟩ (.int .u32 X)).setCell ⟨W1.heap.size, 3, none⟩ (.slice A5 m5 c5) = w6 at *
    clear k1 k2 k3 hS1 hS3 HM e0 e1 e2 e3 f0 f1 f2 f3 HZ5 HGE HGO HO1
    refine wpAnyH_done (by kernel_rfl) ?_ _
    refine NoPanic.normal ?_
    go_simp
    clear hH3
    obtain ⟨hp0, qs', o1, hq, hfr, hvp, hpW, hbl⟩ := HBS.out
    obtain ⟨E2, hE2⟩ : ∃ E2 : Nat, E2 = min E 4294967294 + 1 := ⟨_, rfl⟩
    have hE2i : (E2 : Int) = min (E : Int) 4294967294 + 1 := by omega
    have hml : m5 = n := by
      have h1 := congrArg List.length hq
      rw [nts_len, HZL.out] at h1
      obtain ⟨A6, c6, e6, -⟩ := o1.rd fM
      simp at e6
      omega
    have hlb : LB W1 S E2 X _ A5 m5 c5 qs' 0 (w6.setCell ⟨_, 1, none⟩ (.int .u32 (E2 : Nat))) := ⟨by rw [heap_setCell_same _ _ _ _ _ _ hp0]; rfl, o1.below_other hvp (fun y hy ad e h0 => (hfr y hy ad e h0).2), hfr, hvp, hbl.setCell hpW _⟩
    have HLB := Lib.hid hlb
    have HQ := Lib.hid hq
    have HML := Lib.hid hml
    have HPW := Lib.hid hpW
    have hm16 : m5 ≤ 16000000 := by have := HN.out; omega
    have hEl := HEL.out
    have hX1 := HX1.out _ hbl
    have d5 := cell_at hX1 5 _ rfl
    have d1 := cell_at hX1 1 _ rfl
    have e1 := cell_at hp0 1 _ rfl
    have e3 := cell_at hp0 3 _ rfl
    have f1 := frozen_of_row _ _ 1 _ _ hp0
    have HE2 := Lib.hid hE2
    have HE2i := Lib.hid hE2i
    clear hp0 o1 hq hfr hvp hpW hbl hX1 hlb hE2 hE2i hml
    go_wp2_with fail
    rw [← HE2i.out]
    go_loopw [26] (fun i wr => ∃ k : Nat, k ≤ m5 ∧ i = .int .i64 k ∧ Hid (LB W1 S E2 X W1.heap.size A5 m5 c5 qs' k wr)) (fun i _ => m5 - (intOf i).toNat)
    case atStart => exact ⟨0, Nat.zero_le _, rfl, HLB⟩
    case round =>
      obtain ⟨k, hk, rfl, HS⟩ := hrel
      obtain ⟨l1, l2, l3, l4, l5⟩ := HS.out
      have a3 := cell_at l1 3 _ rfl
      by_cases hlt : k < m5
      · obtain ⟨g, rfl, hg⟩ := l2.form' (by omega)
        have hlen : (ruY qs' k).length = m5 := l2.len'
        have hkl : k < (ruY qs' k).length := by omega
        have hyk : (ruY qs' k)[k]? = some (ruY qs' k)[k] := List.getElem?_eq_getElem hkl
        have hcl := (hlen ▸ l2.1 : World.ownsRow wr W1.heap.size 47 4 (.slice (some ⟨g, 0, none⟩) m5 c5) m5 (fl cM (ruY qs' k))).cellAt (k * 4) (by omega)
        have hfz := (hlen ▸ l2.1 : World.ownsRow wr W1.heap.size 47 4 (.slice (some ⟨g, 0, none⟩) m5 c5) m5 (fl cM (ruY qs' k))).frozenAt (k * 4)
        have hca : (fl cM (ruY qs' k))[k * 4]? = some (.int .u32 ((ruY qs' k)[k].n.u : Nat)) := fl_at fM _ k _ hyk 0 _ rfl
        rw [hca] at hcl
        obtain ⟨uu, huu⟩ : ∃ uu, uu = (ruY qs' k)[k].n.u := ⟨_, rfl⟩
        rw [← huu] at hcl
        have HN2 := Lib.hid (show LB W1 S E2 X W1.heap.size (some ⟨g, 0, none⟩) m5 c5 qs' (k + 1) (wr.setCell ⟨g, k * 4, none⟩ (.int .u32 ((k + 1 : Nat) : Nat))) from HS.out.step hkl)
        have hlt' : (k : Int) < (m5 : Int) := by omega
        have hgp : g ≠ W1.heap.size := fun e => l4 (by rw [e]; rfl)
        have e32 := IntWalk.u32_in (k : Nat) (by omega)
        clear l1 l2 l3 l4 l5 hca huu hyk hlen hkl
        go_wp2_with fail
        go_roundw
        case rel => first | exact ⟨k + 1, by omega, by go_num, by simpa using HN2⟩ | ((repeat apply Exists.intro); exact ⟨⟨k + 1, by omega, by go_num, by simpa using HN2⟩, rfl⟩)
        case measure => (show m5 - ((k : Int) + 1).toNat < m5 - k; omega)
      · obtain rfl : k = m5 := by omega
        have a0 := cell_at l1 0 _ rfl
        have a1 := cell_at l1 1 _ rfl
        have a2 := cell_at l1 2 _ rfl
        have g2 := frozen_of_row _ _ 2 _ _ l1
        have hX2 := HX2.out _ l5
        have r0 := cell_at hX2 0 _ rfl
        have s0 := frozen_of_row _ _ 0 _ _ hX2
        have r1 := cell_at hX2 1 _ rfl
        have s1 := frozen_of_row _ _ 1 _ _ hX2
        have r2 := cell_at hX2 2 _ rfl
        have s2 := frozen_of_row _ _ 2 _ _ hX2
        have r3 := cell_at hX2 3 _ rfl
        have s3 := frozen_of_row _ _ 3 _ _ hX2
        have hpb : ¬ b + 1 = W1.heap.size := by have := HPW.out; have := HWS.out; omega
        have hpb' : ¬ W1.heap.size = b + 1 := by have := HPW.out; have := HWS.out; omega
        have e32 := IntWalk.u32_in (k : Nat) (by omega)
        have HX2' := Lib.hid hX2
        clear l1 l2 l3 l4 l5 hX2
        go_wp2_with fail
        obtain ⟨l1, l2, l3, l4, l5⟩ := HS.out
        have hbb := HWS.out
        have hb0 := HB0.out
        have hpw := HPW.out
        have hX3 : (wr.setCell ⟨W1.heap.size, 2, none⟩ (.int .u32 ((k : Int) + 1))).heap[b + 1]? = some (.cells #[.string ⟨#[]⟩, .int .u32 0, .int .u32 0, .slice none 0 0] 35 (0, 0)) := by
          rw [heap_setCell_other _ _ _ _ (by show b + 1 ≠ W1.heap.size; omega)]
          exact HX2'.out
        obtain ⟨k1, k2, k3⟩ := four hX3 rfl (.string S) (.int .u32 (E2 : Nat)) (.int .u32 ((k : Int) + 1)) (.slice A5 k c5)
        have hO := Own.below_other (u := .int .u32 ((k : Int) + 1)) (j := 2) l2 l4 (fun y hy ad e h0 => (l3 y hy ad e h0).2)
        obtain ⟨A6, c6, e6, hc6, -, hR6⟩ := hO.rd fM
        have hm : k = (ruY qs' k).length := by simp at e6; exact e6.2.1
        have ha : A5 = A6 := by simp at e6; exact e6.1
        have hcc : c5 = c6 := by simp at e6; exact e6.2.2
        refine bodyPost_ret (results_cell_row Tryz.results10 _ _ (b + 1) _ _ _ _ rfl k1 Tryz.underlying35 rfl (boxSize _ rfl)) rfl ⟨A5, k, c5, ruY qs' k, ?_, ?_, ?_, ?_, ?_⟩
        · rw [← HE2.out, ← HML.out, Int.natCast_add]
          rfl
        · rw [← hm, ← ha] at hR6
          exact hR6.other _ k2 (fun ad e e' => by
            have h1 := (l2.lt (g := ad.block) (by rw [e]; rfl)).1
            omega) (fun y hy ad e h0 e' => by
            have h1 := (l3 y hy ad e h0).1
            omega)
        · omega
        · rw [ruY_nts, HQ.out, HML.out]
        · exact k3 _ _ (by rw [hb0]; exact HBW.out.trans ((l5.setCell (p := ⟨W1.heap.size, 2, none⟩) hpw _).mono (by omega))) (by omega)
end Go.Proofs.YtfmdhcjniikfdaaGreatDoor.lg
/- Whether UIDs are in order; what a log of a mailbox says. -/
namespace Go.Proofs.YtfmdhcjniikfdaaGreatDoor.lg
open Go.ChangeShapes Go.WideShapes Go.ChangeAt Go.RowKit
open Go.Proofs.YtfmdhcjniikfdaaGreatDoor.codec (Bytes vals)
open Go.Proofs.YtfmdhcjniikfdaaGreatDoor.bod (cell_at)
set_option linter.unusedVariables false
set_option maxRecDepth 100000
set_option linter.unusedSimpArgs false

def ord (X : Nat) (st : Nat × Bool) (n : Nt) : Nat × Bool := (n.u, st.2 && decide (st.1 < n.u ∧ (n.u < X ∨ X = 4294967295)))
def od (X : Nat) (l : List Nt) : Nat × Bool := l.foldl (ord X) (0, true)
theorem od_snoc (X : Nat) (l : List Nt) (n : Nt) : od X (l ++ [n]) = ord X (od X l) n := by simp [od]
theorem od_false {X : Nat} : ∀ (l : List Nt) (st : Nat × Bool), st.2 = false → (l.foldl (ord X) st).2 = false
  | [], st, h => h
  | n :: r, st, h => od_false r _ (by simp [ord, h])
theorem od_stop {X : Nat} {l : List Nt} {i : Nat} (h : (od X (l.take i)).2 = false) : (od X l).2 = false := by
  have e : od X l = (l.drop i).foldl (ord X) (od X (l.take i)) := by
    unfold od
    rw [← List.foldl_append, List.take_append_drop]
  rw [e]
  exact od_false _ _ h
set_option maxHeartbeats 1000000 in
theorem inOrder_any (W : World) (S : ByteArray) (E X : Nat) (A : Option Addr) (n c : Nat) (qs : List Y) (hR : Rd cM 4 W A n qs) (hn : n ≤ 16000000) :
    Calls Tryz.prog 29 #[.agg #[.string S, .int .u32 E, .int .u32 X, .slice A n c]] W fun x w' => x = .returned (.bool (od X (nts qs)).2) ∧ Below W.heap.size W w' := by
  obtain ⟨W1, hW1⟩ : ∃ W1, W1 = W.alloc (.cells #[.string S, .int .u32 E, .int .u32 X, .slice A n c] 35) := ⟨_, rfl⟩
  have HBW := Lib.hid (show Below W.heap.size W W1 by rw [hW1]; exact (Below.refl _ _).alloc (Nat.le_refl _) _)
  have HX1 := Lib.hid (fun (w1 : World) (h : Below W1.heap.size W1 w1) => (bod.boxed (w := W) (o := .cells #[.string S, .int .u32 E, .int .u32 X, .slice A n c] 35) (w1 := w1) (by rw [← hW1]; exact h)).1)
  have HR := Lib.hid (fun (w1 : World) (h : Below W1.heap.size W1 w1) => hR.below (HBW.out.trans (h.mono HBW.out.size)))
  have HL := Lib.hid (show (nts qs).length = n by rw [nts_len, hR.1])
  have HWS := Lib.hid (show W.heap.size < W1.heap.size by rw [hW1]; simp)
  have HW1 := Lib.hid hW1
  have c3 := cell_at (HX1.out _ (Below.refl _ _)) 3 _ rfl
  clear hW1 hR
  go_enter Tryz.func29, Tryz.ntmps29
  go_wp2_with fail
  rw [← HW1.out]
  clear c3
  go_loopw [3, 9] (fun s i wr => ∃ k lu : Nat, k ≤ n ∧ i = .int .i64 k ∧ s = .int .u32 lu ∧ Hid (od X ((nts qs).take k) = (lu, true)) ∧ Hid (Below W1.heap.size W1 wr)) (fun _ i _ => n - (intOf i).toNat)
  case atStart => exact ⟨0, 0, Nat.zero_le _, rfl, rfl, Lib.hid rfl, Lib.hid (Below.refl _ _)⟩
  case round =>
    obtain ⟨k, lu, hk, rfl, rfl, HC, HB⟩ := hrel
    by_cases hlt : k < n
    · obtain ⟨b, o, ⟨⟨tk, te, ts, tu, td, tf, to_⟩, a, A', m', c'⟩, rfl, hx, c0, c1, c2, c3, -⟩ := (HR.out _ HB.out).at4 k hlt
      have HT := Lib.hid ((congrArg (od X) (take_next (nts_at hx))).trans (od_snoc X _ _))
      rw [HC.out] at HT
      simp only [ord, Bool.true_and] at c0 c1 c2 c3 HT
      have hlt' : (k : Int) < (n : Int) := by omega
      have d2 := cell_at (HX1.out _ HB.out) 2 _ rfl
      have hbl : W.heap.size < wr.heap.size := Nat.lt_of_lt_of_le HWS.out HB.out.size
      clear hx
      have stop : ∀ (h : ¬ (lu < tu ∧ (tu < X ∨ X = 4294967295))), Hid ((od X (nts qs)).2 = false) := fun h => Lib.hid (od_stop (i := k + 1) (by rw [HT.out]; exact decide_eq_false h))
      by_cases h2 : lu < tu
      · have h2' : decide (tu ≤ lu) = false := by rw [decide_eq_false_iff_not]; omega
        by_cases h4 : tu < X
        · have h4' : decide (X ≤ tu) = false := by rw [decide_eq_false_iff_not]; omega
          have HE : Hid (od X ((nts qs).take (k + 1)) = (tu, true)) := by rw [HT.out]; exact Lib.hid (by rw [decide_eq_true ⟨h2, .inl h4⟩])
          clear HT stop h2 h4 HC
          go_wp2
          go_roundw
          case rel => first | exact ⟨k + 1, tu, by omega, by go_num, rfl, HE, Lib.hid (HB.out.alloc HB.out.size _)⟩ | ((repeat apply Exists.intro); exact ⟨⟨k + 1, tu, by omega, by go_num, rfl, HE, Lib.hid (HB.out.alloc HB.out.size _)⟩, rfl⟩)
          case measure => (show n - ((k : Int) + 1).toNat < n - k; omega)
        · have h4' : decide (X ≤ tu) = true := by rw [decide_eq_true_iff]; omega
          by_cases h5 : X = 4294967295
          · have h5' : ((X : Int) != 4294967295) = false := by rw [bne_eq_false_iff_eq]; omega
            have HE : Hid (od X ((nts qs).take (k + 1)) = (tu, true)) := by rw [HT.out]; exact Lib.hid (by rw [decide_eq_true ⟨h2, .inr h5⟩])
            clear HT stop h2 h4 h5 HC
            go_wp2
            go_roundw
            case rel => first | exact ⟨k + 1, tu, by omega, by go_num, rfl, HE, Lib.hid (HB.out.alloc HB.out.size _)⟩ | ((repeat apply Exists.intro); exact ⟨⟨k + 1, tu, by omega, by go_num, rfl, HE, Lib.hid (HB.out.alloc HB.out.size _)⟩, rfl⟩)
            case measure => (show n - ((k : Int) + 1).toNat < n - k; omega)
          · have h5' : ((X : Int) != 4294967295) = true := by rw [bne_iff_ne]; omega
            have HE := stop (fun h => by omega)
            clear HT stop h2 h4 h5 HC
            go_wp2
            go_ret
            exact ⟨by rw [HE.out]; rfl, HBW.out.trans ((HB.out.alloc HB.out.size _).mono HBW.out.size)⟩
      · have h2' : decide (tu ≤ lu) = true := by rw [decide_eq_true_iff]; omega
        have HE := stop (fun h => h2 h.1)
        clear HT stop h2 HC
        go_wp2
        go_ret
        exact ⟨by rw [HE.out]; rfl, HBW.out.trans ((HB.out.alloc HB.out.size _).mono HBW.out.size)⟩
    · obtain rfl : k = n := by omega
      have HE : Hid ((od X (nts qs)).2 = true) := by
        have h := HC.out
        rw [List.take_of_length_le (by rw [HL.out]; omega)] at h
        exact Lib.hid (by rw [h])
      clear HC
      go_wp2
      go_ret
      exact ⟨by rw [HE.out]; rfl, HBW.out.trans (HB.out.mono HBW.out.size)⟩
def bx (S : ByteArray) (E : Nat) : Nt := ⟨1, E, S, 0, 0, 0, []⟩
def gn (E X : Nat) : Nt := ⟨3, E, ⟨#[]⟩, X - 1, 0, 0, []⟩
def lu (l : List Nt) : Nat := l.foldl (fun _ n => n.u) 0
theorem lu_snoc (l : List Nt) (n : Nt) : lu (l ++ [n]) = n.u := by simp [lu]
/-- What a log of a mailbox says. -/
def notesB (S : ByteArray) (E X : Nat) (l : List Nt) : List Nt := bx S E :: l ++ (if 0 < X ∧ lu l < X - 1 then [gn E X] else [])
def NF (W1 : World) (S : ByteArray) (E : Nat) (qs : List Y) (k : Nat) (v : Value) (w : World) : Prop := ∃ ys, Own cN 7 W1.heap.size 67 w v ys ∧ nts ys = bx S E :: (nts qs).take k ∧ Below W1.heap.size W1 w ∧ ys.length = k + 1
theorem NF.start (W1 : World) (S : ByteArray) (E : Nat) (qs : List Y) : NF W1 S E qs 0 (.slice (some ⟨W1.heap.size, 0, none⟩) 1 1) (W1.alloc (.cells #[.int .i64 1, .int .u32 E, .string S, .int .u32 0, .int .i64 0, .int .i64 0, .slice none 0 0] 67)) :=
  ⟨[⟨bx S E, 0, none, 0, 0⟩], ⟨⟨rfl, .inr ⟨_, 1, _, rfl, Nat.le_refl _, heap_alloc_new W1 _, Nat.le_refl _, by unfold maxLen; omega, rfl, rfl⟩⟩, fun y hy => by
    simp at hy
    subst hy
    exact ⟨⟨codec.empty_bytes _, fun _ => rfl⟩, fun ad e => by cases e⟩⟩, rfl, (Below.refl _ _).alloc (Nat.le_refl _) _, rfl⟩
theorem NF.more {W1 : World} {S : ByteArray} {E k : Nat} {qs ys : List Y} {v v' : Value} {w w' : World} {y : Y} (hx : qs[k]? = some y) (h1 : Own cN 7 W1.heap.size 67 w v ys) (h2 : nts ys = bx S E :: (nts qs).take k) (h3 : Below W1.heap.size W1 w) (h4 : ys.length = k + 1) (ho : Own cN 7 W1.heap.size 67 w' v' (ys ++ [y])) (hg : w.grownBy w' v.ownBlock) : NF W1 S E qs (k + 1) v' w' :=
  ⟨_, ho, by rw [take_next (nts_at hx)]; show (ys ++ [y]).map Y.n = _; rw [List.map_append]; show nts ys ++ _ = _; rw [h2]; rfl, grown_below h3 h1 hg, by simp; omega⟩
/-- What is a message of this mailbox. -/
def Of2 (S : ByteArray) (E : Nat) (qs : List Y) : Prop := ∀ y ∈ qs, y.n.k = 2 ∧ y.n.e = E ∧ y.n.s = S
set_option maxHeartbeats 2000000 in
theorem notesFor_any (W : World) (S : ByteArray) (E X : Nat) (A : Option Addr) (n c : Nat) (qs : List Y) (hR : Rd cM 4 W A n qs) (hn : n ≤ 16000000) (hX : X < 4294967296) (h2 : Of2 S E qs) :
    Calls Tryz.prog 30 #[.agg #[.string S, .int .u32 E, .int .u32 X, .slice A n c]] W fun x w' => ∃ v ys, x = .returned v ∧ Own cN 7 W.heap.size 67 w' v ys ∧ nts ys = notesB S E X (nts qs) ∧ Below W.heap.size W w' := by
  obtain ⟨W1, hW1⟩ : ∃ W1, W1 = W.alloc (.cells #[.string S, .int .u32 E, .int .u32 X, .slice A n c] 35) := ⟨_, rfl⟩
  have HBW := Lib.hid (show Below W.heap.size W W1 by rw [hW1]; exact (Below.refl _ _).alloc (Nat.le_refl _) _)
  have HX1 := Lib.hid (fun (w1 : World) (h : Below W1.heap.size W1 w1) => (bod.boxed (w := W) (o := .cells #[.string S, .int .u32 E, .int .u32 X, .slice A n c] 35) (w1 := w1) (by rw [← hW1]; exact h)).1)
  have HR0 := Lib.hid (hR.below HBW.out)
  have HR := Lib.hid (fun (w1 : World) (h : Below W1.heap.size W1 w1) => hR.below (HBW.out.trans (h.mono HBW.out.size)))
  have HL := Lib.hid (show (nts qs).length = n by rw [nts_len, hR.1])
  have HWS := Lib.hid (show W.heap.size < W1.heap.size by rw [hW1]; simp)
  have H2 := Lib.hid h2
  have HXX := Lib.hid hX
  have HS0 := Lib.hid (NF.start W1 S E qs)
  have HW1 := Lib.hid hW1
  have hX1 := HX1.out W1 (Below.refl _ _)
  have c0 := cell_at hX1 0 _ rfl
  have c1 := cell_at hX1 1 _ rfl
  have c3 := cell_at hX1 3 _ rfl
  clear hW1 hR h2 hX hX1
  go_enter Tryz.func30, Tryz.ntmps30
  go_wp2_with fail
  rw [← HW1.out]
  have hW1s : W1.heap.size = W.heap.size + 1 := by rw [HW1.out]; simp
  rw [← hW1s]
  clear c0 c1 c3 hW1s
  go_loopw [3, 4, 16] (fun v s i wr => ∃ k : Nat, k ≤ n ∧ i = .int .i64 k ∧ s = .int .u32 (lu ((nts qs).take k) : Nat) ∧ Hid (NF W1 S E qs k v wr)) (fun _ _ i _ => n - (intOf i).toNat)
  case atStart => exact ⟨0, Nat.zero_le _, rfl, rfl, HS0⟩
  case round =>
    obtain ⟨k, hk, rfl, rfl, HS⟩ := hrel
    obtain ⟨ys, s1, s2, s3, s4⟩ := HS.out
    have hX1 := HX1.out wr s3
    have d0 := cell_at hX1 0 _ rfl
    have d1 := cell_at hX1 1 _ rfl
    have d2 := cell_at hX1 2 _ rfl
    have hbl : W.heap.size < wr.heap.size := Nat.lt_of_lt_of_le HWS.out s3.size
    by_cases hlt : k < n
    · obtain ⟨b1, o1, y1, hA1, hx1, -, hoct⟩ := HR0.out.2 k hlt
      obtain ⟨b, o, y, rfl, hx, c0, c1, c2, c3, hoc⟩ := (HR.out _ s3).at4 k hlt
      obtain rfl : y1 = y := by rw [hx] at hx1; exact (Option.some.inj hx1).symm
      have HOA := Lib.hid (oct_apart hoct s1)
      have HOC := Lib.hid hoc
      have h2 := H2.out _ (List.mem_of_getElem? hx)
      have HT := Lib.hid ((congrArg lu (take_next (nts_at hx))).trans (lu_snoc _ _))
      have HX := Lib.hid hx
      obtain ⟨⟨tk, te, ts, tu, td, tf, to_⟩, a, A', m', c'⟩ := y1
      simp only [] at c0 c1 c2 c3 h2 HT
      obtain ⟨rfl, rfl, rfl⟩ := h2
      have hlt' : (k : Int) < (n : Int) := by omega
      have S1 := Lib.hid s1
      have S2 := Lib.hid s2
      have S3 := Lib.hid s3
      have S4 := Lib.hid s4
      have HC2 := Lib.hid (fun (w2 : World) (hgr : (wr.alloc (.cells #[.int .u32 (tu : Nat), .int .i64 td, .int .i64 tf, .slice A' m' c'] 47)).grownBy w2 u3.ownBlock) => show w2.cell? ⟨wr.heap.size, 0, none⟩ = some (.int .u32 (tu : Nat)) from (World.cell?_of_block (w := wr.alloc (.cells #[.int .u32 (tu : Nat), .int .i64 td, .int .i64 tf, .slice A' m' c'] 47)) (a := ⟨wr.heap.size, 0, none⟩) (hgr.block wr.heap.size (by simp) (fun e => Nat.lt_irrefl _ (s1.lt e.symm).2))).trans (cell_at (heap_alloc_new wr _) 0 _ rfl))
      clear hx hx1 hoct hoc hA1 s1 s2 s3 s4 hX1 d2
      go_wp2_with (at_builtin; refine wpList_append_own fN (by decide) (by decide) (by decide) rfl rfl (.tmp 20) (.tmp 27) 74 67 rfl Tryz.underlying74 infoB W1.heap.size u3 ys rfl (S1.out.alloc _) (Nat.le_trans S3.out.size (by simp)) (by have := S4.out; omega) ⟨⟨2, te, ts, tu, td, tf, to_⟩, a, A', m', c'⟩ (0, 0) _ (by simp) rfl _ rfl ⟨HOC.out.1.alloc _, HOC.out.2⟩ HOA.out ?_; intro v' w2 ho hgr hat; have HS2 := Lib.hid (NF.more HX.out (S1.out.alloc _) S2.out (S3.out.alloc S3.out.size _) S4.out ho hgr); have hc2 := HC2.out w2 hgr; clear hgr hat ho)
      go_roundw
      case rel => first | exact ⟨k + 1, by omega, by go_num, by rw [HT.out], HS2⟩ | ((repeat apply Exists.intro); exact ⟨⟨k + 1, by omega, by go_num, by rw [HT.out], HS2⟩, rfl⟩)
      case measure => (show n - ((k : Int) + 1).toNat < n - k; omega)
    · obtain rfl : k = n := by omega
      have HTK : Hid ((nts qs).take k = nts qs) := Lib.hid (List.take_of_length_le (by rw [HL.out]; omega))
      rw [HTK.out] at s2 ⊢
      obtain ⟨U, hU⟩ : ∃ U, U = lu (nts qs) := ⟨_, rfl⟩
      rw [← hU]
      have HU := Lib.hid hU
      clear hU
      have hXX := HXX.out
      have S1 := Lib.hid s1
      have S2 := Lib.hid s2
      have S3 := Lib.hid s3
      have S4 := Lib.hid s4
      have fin0 : Hid (¬ (0 < X ∧ U < X - 1) → notesB S E X (nts qs) = bx S E :: nts qs) := Lib.hid (fun h => by unfold notesB; rw [← HU.out, if_neg h]; simp)
      have fin1 : Hid ((0 < X ∧ U < X - 1) → notesB S E X (nts qs) = (bx S E :: nts qs) ++ [gn E X]) := Lib.hid (fun h => by unfold notesB; rw [← HU.out, if_pos h])
      have HBB := Lib.hid (HBW.out.trans (s3.mono HBW.out.size))
      clear s1 s2 s3 s4 hX1
      by_cases hx0 : X = 0
      · subst hx0
        have HE := Lib.hid (fin0.out (by omega))
        clear fin0 fin1
        go_wp2
        go_ret
        exact ⟨_, ys, rfl, S1.out.mono HBW.out.size, by rw [S2.out, HE.out], HBB.out⟩
      · have x0 : decide ((0 : Int) < (X : Int)) = true := by rw [decide_eq_true_iff]; omega
        have x1 : decide (0 < X) = true := by rw [decide_eq_true_iff]; omega
        have xw := IntWalk.u32_in ((X : Int) - 1) (by omega)
        have xp : (0 : Int) ≤ (X : Int) - 1 := by omega
        by_cases hu : U < X - 1
        · have xu : decide ((U : Int) < (X : Int) - 1) = true := by rw [decide_eq_true_iff]; omega
          have HE := Lib.hid (fin1.out ⟨by omega, hu⟩)
          clear fin0 fin1 hu
          go_wp2_with (at_builtin; refine wpList_append_own fN (by decide) (by decide) (by decide) rfl rfl (.tmp 42) (.tmp 50) 74 67 rfl Tryz.underlying74 infoB W1.heap.size u3 ys rfl S1.out S3.out.size (by have := S4.out; omega) ⟨gn E X, 0, none, 0, 0⟩ (0, 0) _ rfl rfl _ (by simp [cN, gn]; omega) ⟨codec.empty_bytes _, fun _ => rfl⟩ (fun ad e => by cases e) ?_; intro v' w2 ho hgr hat; have HO2 := Lib.hid (And.intro ho (grown_below S3.out S1.out hgr)); clear ho hgr hat)
          go_ret
          exact ⟨_, _, rfl, HO2.out.1.mono HBW.out.size, by show (ys ++ [_]).map Y.n = _; rw [List.map_append]; show nts ys ++ _ = _; rw [S2.out, HE.out]; rfl, HBW.out.trans (HO2.out.2.mono HBW.out.size)⟩
        · have xu : decide ((U : Int) < (X : Int) - 1) = false := by rw [decide_eq_false_iff_not]; omega
          have HE := Lib.hid (fin0.out (by omega))
          clear fin0 fin1 hu
          go_wp2
          go_ret
          exact ⟨_, ys, rfl, S1.out.mono HBW.out.size, by rw [S2.out, HE.out], HBB.out⟩
end Go.Proofs.YtfmdhcjniikfdaaGreatDoor.lg
/- A note as a frame; what is decoded of what was encoded; few; two messages alike. -/
namespace Go.Proofs.YtfmdhcjniikfdaaGreatDoor.bod
open Go.ChangeShapes Go.WideShapes Go.ChangeAt Go.RowKit
open Go.Proofs.YtfmdhcjniikfdaaGreatDoor.codec (Bytes bytesOf bytesOf_length strOf strOf_size numOf)
open Go.Proofs.YtfmdhcjniikfdaaGreatDoor.frm (frameL frameL_length)
set_option linter.unusedVariables false
set_option linter.unusedSimpArgs false
set_option maxRecDepth 100000

theorem formed_kind {k : Int} {e u : Nat} {s : ByteArray} {d f : Int} {n : Nat} (h : formedB k e s u d f n = true) : 1 ≤ k ∧ k ≤ 3 := by
  by_cases h1 : k = 1
  · omega
  · by_cases h2 : k = 2
    · omega
    · by_cases h3 : k = 3
      · omega
      · rw [formed_other h1 h2 h3] at h
        cases h
theorem frameL_lt {k : Nat} {p : List Nat} (hk : k < 256) (hp : ∀ b ∈ p, b < 256) : ∀ b ∈ frameL k p, b < 256 := by
  intro b hb
  rcases List.mem_append.1 hb with h | h
  · rcases List.mem_append.1 h with h | h
    · rcases List.mem_append.1 h with h | h
      · exact frm.first_lt hk b h
      · exact codec.bytesOf_lt _ _ b h
    · exact frm.dig_lt _ b h
  · exact hp b h
/-- Encode of a formed note. -/
theorem encode_good (W : World) (k : Int) (e u : Nat) (s : ByteArray) (d f : Int) (A : Option Addr) (n c : Nat) (o P : List Nat) (N : Nat) (he : e < 4294967296) (hu : u < 4294967296) (hr : Fit W) (hB : Bytes W A n o) (hA : A = none → c = 0) (hf : formedB k e s u d f n = true) (hP : payL k e s u d f o = P) (hN : P.length = N) :
    Calls Tryz.prog 49 #[.agg #[.int .i64 k, .int .u32 e, .string s, .int .u32 u, .int .i64 d, .int .i64 f, .slice A n c]] W fun x w' => ∃ g, x = .returned (.tuple #[.slice (some ⟨g, 0, none⟩) N N, .int .i64 0]) ∧ Bytes w' (some ⟨g, 0, none⟩) N P ∧ Below W.heap.size W w' := by
  have hs := formed_size hf
  refine (encode_any W k e u s d f A n c o (by omega) he hu hr hB hA).mono ?_
  intro x w' h
  unfold EncAns at h
  rw [hB.1, if_pos hf] at h
  obtain ⟨g, N', rfl, h1, -, h2, h3⟩ := h
  rw [hP] at h1 h2
  obtain rfl : N' = N := by omega
  exact ⟨g, rfl, h2, h3⟩
theorem frame_any (W : World) (k e u : Nat) (s : ByteArray) (d f : Int) (A : Option Addr) (n c : Nat) (o P : List Nat) (N M : Nat) (he : e < 4294967296) (hu : u < 4294967296) (hr : Fit W) (hL : sumDoor.Laid W) (hB : Bytes W A n o) (hA : A = none → c = 0) (hf : formedB k e s u d f n = true) (hP : payL k e s u d f o = P) (hN : P.length = N) (hM : 44 + N = M) :
    Calls Tryz.prog 31 #[.agg #[.int .i64 k, .int .u32 e, .string s, .int .u32 u, .int .i64 d, .int .i64 f, .slice A n c]] W fun x w' => ∃ g, x = .returned (.tuple #[.slice (some ⟨g, 0, none⟩) M M, .int .i64 0]) ∧ Bytes w' (some ⟨g, 0, none⟩) M (frameL k P) ∧ Below W.heap.size W w' := by
  have hk := formed_kind hf
  have hPl : N ≤ 20077 := by
    have hf2 := hf
    rw [← hB.1] at hf2
    have := payL_length hf2
    rw [hP] at this
    omega
  obtain ⟨cs, hcs⟩ : ∃ cs : Array Value, cs = #[.int .i64 k, .int .u32 e, .string s, .int .u32 u, .int .i64 d, .int .i64 f, .slice A n c] := ⟨_, rfl⟩
  obtain ⟨W1, hW1⟩ : ∃ W1, W1 = W.alloc (.cells cs 67) := ⟨_, rfl⟩
  have HCS := Lib.hid hcs
  have HBW := Lib.hid (show Below W.heap.size W W1 by rw [hW1]; exact (Below.refl _ _).alloc (Nat.le_refl _) _)
  have HBX := Lib.hid (fun (w1 : World) (h : Below W1.heap.size W1 w1) => (boxed (w := W) (o := .cells cs 67) (w1 := w1) (by rw [← hW1]; exact h)).1)
  have hE := encode_good W1 k e u s d f A n c o P N he hu (hr.below HBW.out) (hB.below hB.lt HBW.out) hA hf hP hN
  rw [← hcs] at hE
  have HE := Lib.hid hE
  have HF := Lib.hid (fun (w1 : World) (g : Nat) (h : Below W1.heap.size W1 w1) (hB1 : Bytes w1 (some ⟨g, 0, none⟩) N P) => frm.frame_good w1 k N N (some ⟨g, 0, none⟩) P (by omega) (by omega) hB1 (by omega) (Nat.le_refl _) (fun e => by cases e) (hL.below hL.lt (HBW.out.trans (h.mono HBW.out.size))))
  have HW1 := Lib.hid hW1
  have HLN := Lib.hid (show (frameL k P).length = M by rw [frameL_length]; omega)
  clear hE hcs hW1 hB hA hr hL he hu hf hP hN hM hk hPl
  go_enter Tryz.func31, Tryz.ntmps31
  go_wp2_with fail
  rw [← HCS.out, ← HW1.out]
  refine HE.out.mono ?_
  rintro x w1 ⟨g, rfl, hB1, hb1⟩
  have HB1 := Lib.hid hb1
  have HF1 := Lib.hid (HF.out w1 g hb1 hB1)
  have c0 := cell_at (HBX.out _ hb1) 0 _ (by rw [HCS.out]; rfl)
  clear hB1 hb1 HE HF
  go_wp2_with fail
  refine HF1.out.mono ?_
  rintro x w2 ⟨v, rfl, hM⟩
  obtain ⟨g2, rfl, h1, h2, h3⟩ := hM.bytes
  rw [HLN.out] at h3 ⊢
  have HX := Lib.hid (And.intro h3 (HBW.out.trans ((HB1.out.trans (h2.mono HB1.out.size)).mono HBW.out.size)))
  clear hM h1 h2 h3
  go_wp2_with fail
  go_ret2
  exact ⟨g2, rfl, HX.out⟩
theorem frame_none (W : World) (k : Int) (e u : Nat) (s : ByteArray) (d f : Int) (A : Option Addr) (n c : Nat) (hs : s.size ≤ 100000) (hr : Fit W) (hf : formedB k e s u d f n = false) :
    Calls Tryz.prog 31 #[.agg #[.int .i64 k, .int .u32 e, .string s, .int .u32 u, .int .i64 d, .int .i64 f, .slice A n c]] W fun x w' => x = .returned (.tuple #[.slice none 0 0, .int .i64 1]) ∧ Below W.heap.size W w' := by
  have HE := Lib.hid (fun w1 hb => encode_none w1 k e u s d f A n c [] hs (hr.below hb) hf)
  have HBW := Lib.hid (fun (o : Obj) => (show Below W.heap.size W (W.alloc o) from (Below.refl _ _).alloc (Nat.le_refl _) _))
  clear hs hr hf
  go_enter Tryz.func31, Tryz.ntmps31
  go_wp2_with fail
  refine (HE.out _ (HBW.out _)).mono ?_
  rintro x w1 ⟨rfl, hb⟩
  have HB := Lib.hid (boxed hb).2
  clear hb HE
  go_wp2_with fail
  go_ret2
  exact ⟨rfl, HB.out⟩
/-- What was encoded is decoded as the same. -/
theorem decode_back (W : World) (k : Int) (e u : Nat) (s : ByteArray) (d f : Int) (g n N : Nat) (o P : List Nat) (he : e < 4294967296) (hu : u < 4294967296) (hr : Fit W) (ho : o.length = n) (hf : formedB k e s u d f n = true) (hP : payL k e s u d f o = P) (hB : Bytes W (some ⟨g, 0, none⟩) N P) :
    Calls Tryz.prog 26 #[.int .i64 k, .slice (some ⟨g, 0, none⟩) N N] W fun x w' => ∃ A' m, x = .returned (.tuple #[.agg #[.int .i64 k, .int .u32 e, .string s, .int .u32 u, .int .i64 d, .int .i64 f, .slice A' m m], .int .i64 0]) ∧ Bytes w' A' m o ∧ Below W.heap.size W w' := by
  subst ho
  have hPl : N ≤ 20077 := by
    have := payL_length hf
    rw [hP] at this
    have := hB.1
    omega
  by_cases h1 : k = 1
  · subst h1
    obtain ⟨k1, k2, k3, k4, k5, k6, k7⟩ := back1 he hf
    rw [hP] at k1 k2 k3
    subst k4 k5 k6 k7
    refine (decode1 W _ N N P hB (by omega) hr).mono ?_
    rintro x w' ⟨rfl, hw⟩
    rw [k1, k2, k3]
    exact ⟨none, 0, rfl, codec.empty_bytes w', hw⟩
  · by_cases h2 : k = 2
    · subst h2
      obtain ⟨k1, k2, k3, k4, k5, k6, k7⟩ := back2 he hu hf
      rw [hP] at k1 k2 k3 k4 k5 k6 k7
      refine (decode2 W _ N N P hB (by omega) hr).mono ?_
      rintro x w' ⟨gg, mm, hmm, rfl, hg, hO, hw⟩
      rw [k1, k2, k3, k4, k5, k6]
      rw [k7] at hO
      exact ⟨some ⟨gg, 0, none⟩, mm, rfl, hO, hw⟩
    · by_cases h3 : k = 3
      · subst h3
        obtain ⟨k1, k2, k3, k4, k5, k6, k7⟩ := back3 he hu hf
        rw [hP] at k1 k2 k3
        subst k4 k5 k6 k7
        refine (decode3 W _ N N P hB (by omega) hr).mono ?_
        rintro x w' ⟨rfl, hw⟩
        rw [k1, k2, k3]
        exact ⟨none, 0, rfl, codec.empty_bytes w', hw⟩
      · rw [formed_other h1 h2 h3] at hf
        cases hf
theorem same_true (W : World) (u : Nat) (d f : Int) (A A' : Option Addr) (n c n' c' : Nat) (o : List Nat) (hB : Bytes W A n o) (hB' : Bytes W A' n' o) :
    Calls Tryz.prog 28 #[.agg #[.int .u32 u, .int .i64 d, .int .i64 f, .slice A n c], .agg #[.int .u32 u, .int .i64 d, .int .i64 f, .slice A' n' c']] W fun x w' => x = .returned (.bool true) ∧ Below W.heap.size W w' := by
  have HB := Lib.hid (fun w' (h : Below W.heap.size W w') => And.intro ((hB.below hB.lt h).text c) ((hB'.below hB'.lt h).text c'))
  clear hB hB'
  have hc := HB.out ((W.alloc (.cells #[.int .u32 u, .int .i64 d, .int .i64 f, .slice A n c] 47)).alloc (.cells #[.int .u32 u, .int .i64 d, .int .i64 f, .slice A' n' c'] 47)) (((Below.refl _ _).alloc (Nat.le_refl _) _).alloc (by simp) _)
  obtain ⟨c1, c2⟩ := hc
  clear HB
  go_enter Tryz.func28, Tryz.ntmps28
  go_wp2_with fail
  go_ret
  exact ⟨rfl, ((Below.refl _ _).alloc (Nat.le_refl _) _).alloc (by simp) _⟩
end Go.Proofs.YtfmdhcjniikfdaaGreatDoor.bod
/- A log of a mailbox. -/
namespace Go.Proofs.YtfmdhcjniikfdaaGreatDoor.lg
open Go.ChangeShapes Go.WideShapes Go.ChangeAt Go.RowKit
open Go.Proofs.YtfmdhcjniikfdaaGreatDoor.codec (Bytes vals)
open Go.Proofs.YtfmdhcjniikfdaaGreatDoor.bod (cell_at Fit formedB)
open Go.Proofs.YtfmdhcjniikfdaaGreatDoor.frm (allF frameL frameL_length)
set_option linter.unusedVariables false
set_option maxRecDepth 100000
set_option linter.unusedSimpArgs false

def frs (l : List Nt) : List (Nat × List Nat) := l.map fun n => (n.k, n.pay)
theorem allF_next {l : List Nt} {k : Nat} {t : Nt} (h : l[k]? = some t) : allF (frs (l.take (k + 1))) = allF (frs (l.take k)) ++ frameL t.k t.pay := by
  rw [take_next h, frs, List.map_append]
  exact frm.allF_snoc _ (t.k, t.pay)
def WS (W2 : World) (ns : List Nt) (k : Nat) (v : Value) (w : World) : Prop := w.ownsRow W2.heap.size 5 1 v (allF (frs (ns.take k))).length (vals (allF (frs (ns.take k)))) ∧ Below W2.heap.size W2 w ∧ ∀ n ∈ ns.take k, n.ok
theorem WS.start (W2 : World) (ns : List Nt) : WS W2 ns 0 (.slice none 0 0) W2 := ⟨⟨rfl, .inl ⟨rfl, rfl⟩⟩, Below.refl _ _, by simp⟩
theorem own_below {w w' : World} {B n : Nat} {v : Value} {M : List Value} (h : w.ownsRow B 5 1 v n M) (hb : Below w.heap.size w w') : w'.ownsRow B 5 1 v n M :=
  h.kept (row := none) ⟨hb.os, hb.tape, hb.output, hb.size, fun i hi _ => hb.block i hi⟩ (by cases hv : v.ownBlock <;> simp)
theorem ownMono {w : World} {B B' e k n : Nat} {v : Value} {M : List Value} (h : w.ownsRow B e k v n M) (hb : B' ≤ B) : w.ownsRow B' e k v n M := ⟨h.1, h.2.imp id fun ⟨g, cap, cur, h1, h2, h3⟩ => ⟨g, cap, cur, h1, Nat.le_trans hb h2, h3⟩⟩
/-- What Write answers. -/
def WAns (W : World) (X : Nat) (l ns : List Nt) (x : Ending) (w' : World) : Prop :=
  (((od X l).2 = false ∨ ∃ t ∈ ns, formedB (t.k : Nat) t.e t.s t.u t.d t.f t.o.length = false) ∧ x = .returned (.tuple #[.slice none 0 0, .int .i64 1]) ∧ Below W.heap.size W w') ∨
  ((od X l).2 = true ∧ (∀ n ∈ ns, n.ok) ∧ ∃ v, x = .returned (.tuple #[v, .int .i64 0]) ∧ w'.ownsRow W.heap.size 5 1 v (allF (frs ns)).length (vals (allF (frs ns))) ∧ Below W.heap.size W w')
set_option maxHeartbeats 2000000 in
theorem write_any (W : World) (S : ByteArray) (E X : Nat) (A : Option Addr) (n c : Nat) (qs : List Y) (hR : Rd cM 4 W A n qs) (hn : n ≤ 16000000) (hE : E < 4294967296) (hX : X < 4294967296) (hU : ∀ y ∈ qs, y.n.u < 4294967296) (hS : S.size ≤ 100000) (h2 : Of2 S E qs) (hr : Fit W) (hL : sumDoor.Laid W)
    (hbd : ∀ k, (∀ t ∈ (notesB S E X (nts qs)).take k, t.ok) → (allF (frs ((notesB S E X (nts qs)).take k))).length ≤ 16000000) :
    Calls Tryz.prog 13 #[.agg #[.string S, .int .u32 E, .int .u32 X, .slice A n c]] W fun x w' => WAns W X (nts qs) (notesB S E X (nts qs)) x w' := by
  obtain ⟨W1, hW1⟩ : ∃ W1, W1 = W.alloc (.cells #[.string S, .int .u32 E, .int .u32 X, .slice A n c] 35) := ⟨_, rfl⟩
  have HBW := Lib.hid (show Below W.heap.size W W1 by rw [hW1]; exact (Below.refl _ _).alloc (Nat.le_refl _) _)
  have HX1 := Lib.hid (fun (w1 : World) (h : Below W1.heap.size W1 w1) => (bod.boxed (w := W) (o := .cells #[.string S, .int .u32 E, .int .u32 X, .slice A n c] 35) (w1 := w1) (by rw [← hW1]; exact h)).1)
  have HR := Lib.hid (fun (w1 : World) (h : Below W1.heap.size W1 w1) => hR.below (HBW.out.trans (h.mono HBW.out.size)))
  have HFit := Lib.hid (fun (w1 : World) (h : Below W1.heap.size W1 w1) => hr.below (HBW.out.trans (h.mono HBW.out.size)))
  have HLaid := Lib.hid (fun (w1 : World) (h : Below W1.heap.size W1 w1) => hL.below hL.lt (HBW.out.trans (h.mono HBW.out.size)))
  have HN := Lib.hid hn
  have HLIM := Lib.hid (And.intro hE (And.intro hX (And.intro hU hS)))
  have H2 := Lib.hid h2
  have HBD := Lib.hid hbd
  have HNL := Lib.hid (show n = qs.length from hR.1.symm)
  have HW1 := Lib.hid hW1
  have HI := Lib.hid (inOrder_any W1 S E X A n c qs (HR.out _ (Below.refl _ _)) hn)
  have hX1 := HX1.out W1 (Below.refl _ _)
  have HXA := Lib.hid hX1
  have c0 := cell_at hX1 0 _ rfl
  have c1 := cell_at hX1 1 _ rfl
  have c2 := cell_at hX1 2 _ rfl
  have c3 := cell_at hX1 3 _ rfl
  clear hW1 hR h2 hX hX1 hU hS hE hr hL hbd hn
  obtain ⟨OD, hod⟩ : ∃ OD, OD = (od X (nts qs)).2 := ⟨_, rfl⟩
  rw [← hod] at HI
  have HOD := Lib.hid hod
  clear hod
  go_enter Tryz.func13, Tryz.ntmps13
  rw [HW1.out] at c0 c1 c2 c3
  go_wp2_with fail
  rw [← HW1.out]
  refine HI.out.mono ?_
  rintro x w1 ⟨rfl, hb1⟩
  have HB1 := Lib.hid hb1
  clear c0 c1 c2 c3 HI
  cases OD with
  | false =>
    clear hb1
    go_wp2_with fail
    go_ret2
    exact .inl ⟨.inl HOD.out.symm, rfl, HBW.out.trans (HB1.out.mono HBW.out.size)⟩
  | true =>
    have hX1 := HX1.out w1 hb1
    have c0 := cell_at hX1 0 _ rfl
    have c1 := cell_at hX1 1 _ rfl
    have c2 := cell_at hX1 2 _ rfl
    have c3 := cell_at hX1 3 _ rfl
    clear hX1
    go_wp2_with fail
    refine (notesFor_any w1 S E X A n c qs (HR.out _ hb1) HN.out HLIM.out.2.1 H2.out).mono ?_
    rintro x w2 ⟨v, ys, rfl, o1, o2, o3⟩
    obtain ⟨A2, c2', rfl, hc2, -, hR2⟩ := o1.rd fN
    have HB2 := Lib.hid (hb1.trans (o3.mono hb1.size))
    have HNB := Lib.hid o2
    have HR2 := Lib.hid hR2
    obtain ⟨ns, hns⟩ : ∃ ns, ns = notesB S E X (nts qs) := ⟨_, rfl⟩
    rw [← hns] at HNB HBD
    have HYL := Lib.hid (show ys.length ≤ 16000002 by
      have h1 := congrArg List.length HNB.out
      rw [nts_len, hns] at h1
      unfold notesB at h1
      have h2 := HN.out
      have h3 := HNL.out
      have h4 : (nts qs).length = n := by rw [nts_len, h3]
      split at h1 <;> simp [h4] at h1 <;> omega)
    have HLM := Lib.hid (show ∀ t ∈ ns, t.e < 4294967296 ∧ t.u < 4294967296 ∧ t.s.size ≤ 100000 by
      intro t ht
      rw [hns] at ht
      unfold notesB at ht
      rcases List.mem_append.1 ht with ht | ht
      · rcases List.mem_cons.1 ht with rfl | ht
        · exact ⟨HLIM.out.1, by show 0 < _; omega, HLIM.out.2.2.2⟩
        · obtain ⟨y, hy, rfl⟩ := List.mem_map.1 ht
          obtain ⟨k1, k2, k3⟩ := H2.out y hy
          exact ⟨by rw [k2]; exact HLIM.out.1, HLIM.out.2.2.1 y hy, by rw [k3]; exact HLIM.out.2.2.2⟩
      · split at ht
        · simp at ht
          subst ht
          exact ⟨HLIM.out.1, by show X - 1 < _; have := HLIM.out.2.1; omega, by show 0 ≤ _; omega⟩
        · cases ht)
    have HSt := Lib.hid (WS.start w2 ns)
    have HNS := Lib.hid hns
    have HYN := Lib.hid (show ns.length = ys.length by rw [← HNB.out, nts_len])
    clear hb1 o1 o2 o3 hR2 hc2 c0 c1 c2 c3 hns
    generalize hN : ys.length = N at *
    clear hN
    go_wp2_with fail
    go_loopw [4, 15] (fun v i wr => ∃ k : Nat, k ≤ N ∧ i = .int .i64 k ∧ Hid (WS w2 ns k v wr)) (fun _ i _ => N - (intOf i).toNat)
    case atStart => exact ⟨0, Nat.zero_le _, rfl, HSt⟩
    case round =>
      obtain ⟨k, hk, rfl, HS⟩ := hrel
      obtain ⟨s1, s2, s3⟩ := HS.out
      by_cases hlt : k < N
      · obtain ⟨b, o, y, rfl, hx, c0, c1, c2, c3, c4, c5, c6, hoc⟩ := (HR2.out.below s2).at7 k hlt
        have hxn : ns[k]? = some y.n := by rw [← HNB.out]; exact nts_at hx
        have hlm := HLM.out y.n (List.mem_of_getElem? hxn)
        have hyl := HYL.out
        obtain ⟨⟨tk, te, ts, tu, td, tf, to_⟩, a, A', m', c'⟩ := y
        simp only [] at c0 c1 c2 c3 c4 c5 c6 hlm hxn
        have hlt' : (k : Int) < (N : Int) := by omega
        obtain ⟨g0, hg0⟩ : ∃ g0, g0 = wr.alloc (.cells #[.int .i64 (tk : Nat), .int .u32 (te : Nat), .string ts, .int .u32 (tu : Nat), .int .i64 td, .int .i64 tf, .slice A' m' c'] 67) := ⟨_, rfl⟩
        have HB0 := Lib.hid (show Below wr.heap.size wr g0 by rw [hg0]; exact (Below.refl _ _).alloc (Nat.le_refl _) _)
        have HG0 := Lib.hid hg0
        have hb0 : Below W1.heap.size W1 g0 := (HB2.out.trans (s2.mono HB2.out.size)).trans (HB0.out.mono (Nat.le_trans HB2.out.size s2.size))
        have hoc0 : Bytes g0 A' m' to_ := hoc.1.below hoc.1.lt HB0.out
        have hXg := fun (w1 : World) (h : Below g0.heap.size g0 w1) => (bod.boxed (w := wr) (o := .cells #[.int .i64 (tk : Nat), .int .u32 (te : Nat), .string ts, .int .u32 (tu : Nat), .int .i64 td, .int .i64 tf, .slice A' m' c'] 67) (w1 := w1) (by rw [← hg0]; exact h)).1
        have hcg0 : ∀ i v, #[Value.int .i64 (tk : Nat), .int .u32 (te : Nat), .string ts, .int .u32 (tu : Nat), .int .i64 td, .int .i64 tf, .slice A' m' c'][i]? = some v → g0.cell? ⟨wr.heap.size, i, none⟩ = some v := fun i v hv => cell_at (hXg g0 (Below.refl _ _)) i v hv
        cases hf : formedB (tk : Nat) te ts tu td tf m' with
        | false =>
          have HD := Lib.hid (bod.frame_none g0 (tk : Nat) te tu ts td tf A' m' c' hlm.2.2 (HFit.out _ hb0) hf)
          have HFF : Hid (∃ t ∈ ns, formedB (t.k : Nat) t.e t.s t.u t.d t.f t.o.length = false) := Lib.hid ⟨_, List.mem_of_getElem? hxn, by rw [hoc.1.1]; exact hf⟩
          have HBB := Lib.hid hb0
          clear hx hxn hlm hoc hoc0 hXg hcg0 hf hg0 hb0 s1 s2 s3
          go_wp2_with fail
          rw [← HG0.out]
          refine HD.out.mono ?_
          rintro x w3 ⟨rfl, hb3⟩
          have HB3 := Lib.hid (HBB.out.trans (hb3.mono HBB.out.size))
          clear hb3 HD
          go_wp2_with fail
          go_ret2
          rw [← HNS.out]
          exact .inl ⟨.inr HFF.out, rfl, HBW.out.trans (HB3.out.mono HBW.out.size)⟩
        | true =>
          have hok : (⟨tk, te, ts, tu, td, tf, to_⟩ : Nt).ok := ⟨by show formedB _ _ _ _ _ _ to_.length = true; rw [hoc.1.1]; exact hf, hlm.1, hlm.2.1⟩
          have HD := Lib.hid (bod.frame_any g0 tk te tu ts td tf A' m' c' to_ _ _ _ hlm.1 hlm.2.1 (HFit.out _ hb0) (HLaid.out _ hb0) hoc0 hoc.2 hf rfl rfl rfl)
          have HAF := Lib.hid (allF_next hxn)
          have HTK := Lib.hid (show ∀ t ∈ ns.take (k + 1), t.ok by
            rw [take_next hxn]
            intro t ht
            rcases List.mem_append.1 ht with ht | ht
            · exact s3 t ht
            · simp at ht
              subst ht
              exact hok)
          have hbd := HBD.out (k + 1) HTK.out
          rw [HAF.out, List.length_append, frameL_length] at hbd
          have HBL := Lib.hid (show (allF (frs (ns.take k))).length + (44 + (bod.payL (tk : Nat) te ts tu td tf to_).length) ≤ 16000000 from hbd)
          have S1 := Lib.hid s1
          have S2 := Lib.hid s2
          clear hx hxn hlm hoc hoc0 hXg hcg0 hf hg0 hb0 s1 s2 s3 hok hbd
          go_wp2_with fail
          rw [← HG0.out]
          refine HD.out.mono ?_
          rintro x w3 ⟨g3, rfl, hB3, hb3⟩
          have HB3 := Lib.hid (HB0.out.trans (hb3.mono HB0.out.size))
          have HBY := Lib.hid hB3
          clear hb3 hB3 HD
          go_wp2_with (at_builtin; refine codec.wpList_append_bytes rfl (.tmp 27) (.tmp 28) rfl w2.heap.size u4 (allF (frs (ns.take k))) rfl (own_below S1.out HB3.out) (Nat.le_trans S2.out.size HB3.out.size) (some ⟨g3, 0, none⟩) _ _ _ rfl HBY.out (fun e => by cases e) (by have := HBL.out; omega) ?_; intro v5 w5 ho hg hnn _; have HW5 : Hid (WS w2 ns (k + 1) v5 w5) := Lib.hid ⟨by rw [HAF.out]; exact ho, (S2.out.trans (HB3.out.mono S2.out.size)).trans ⟨hg.os, hg.tape, hg.output, hg.size, fun i hi => hg.block i (Nat.lt_of_lt_of_le hi (Nat.le_trans S2.out.size HB3.out.size)) (fun e => by have := (S1.out.lt _ e.symm).1; omega)⟩, HTK.out⟩; clear ho hg hnn)
          go_roundw
          case rel => first | exact ⟨k + 1, by omega, by go_num, HW5⟩ | ((repeat apply Exists.intro); exact ⟨⟨k + 1, by omega, by go_num, HW5⟩, rfl⟩)
          case measure => (show N - ((k : Int) + 1).toNat < N - k; omega)
      · obtain rfl : k = N := by omega
        have HTK : Hid (ns.take k = ns) := Lib.hid (List.take_of_length_le (by rw [HYN.out]; omega))
        clear s1 s2 s3
        go_wp2_with fail
        go_ret2
        obtain ⟨s1, s2, s3⟩ := HS.out
        rw [HTK.out] at s1 s3
        have hB := HBW.out.trans (HB2.out.mono HBW.out.size)
        rw [← HNS.out]
        exact .inr ⟨HOD.out.symm, s3, _, rfl, ownMono s1 hB.size, hB.trans (s2.mono hB.size)⟩
end Go.Proofs.YtfmdhcjniikfdaaGreatDoor.lg
