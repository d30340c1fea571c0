/- A message's field, asked the first time. -/
import Derived.Test.YtcepcamedmiinaaGreatDoorMe2
namespace Go.Proofs.YtcepcamedmiinaaGreatDoor.sea
open Go.ChangeShapes Go.WideShapes Go.ChangeAt Go.RowKit Go.Maps Go.WideMaps
open Go.Proofs.YtcepcamedmiinaaGreatDoor.codec (Bytes vals)
open Go.Proofs.YtcepcamedmiinaaGreatDoor.row (Rd Fm)
open Go.Proofs.YtcepcamedmiinaaGreatDoor.hd (Sl)
set_option linter.unusedVariables false
set_option maxRecDepth 100000
set_option linter.unusedSimpArgs false

set_option maxHeartbeats 4000000 in
theorem field_one (n0 mb : Nat) (D : Md) (nm : ByteArray) (hnm : nm = nSUBJECT ∨ nm = nFROM ∨ nm = nTO) (w : World) (dt : Int) (A : Option Addr) (on oc : Nat) (sa se : Value) (fb n : Nat) (M : DataW Value) (hM : MB n0 mb D dt A on oc sa se (.map (some fb)) w)
    (hfb : n0 ≤ fb) (hmb : fb ≠ mb) (hown : w.ownsMap Tryz.prog 9 raw fb n M) (hn : n ≤ cnt M) (hH : Held M) (hF : ∀ nm, hs M nm = true → ∃ g, At M nm.data.toList = .agg #[.slice (some ⟨g, 0, none⟩) (fldV nm D.oct).length (fldV nm D.oct).length, .bool (fldB nm D.oct)] ∧ n0 ≤ g ∧ g < w.heap.size ∧ g ≠ mb ∧ g ≠ fb ∧ Bytes w (some ⟨g, 0, none⟩) (fldV nm D.oct).length (fldV nm D.oct))
    (hno : hs M nm = false) :
    Calls Tryz.prog 34 #[.pointer (some ⟨mb, 0, none⟩), .string nm] w (FieldAns n0 mb D nm w) := by
  have hnz : nm.size ≤ 100 := by rcases hnm with rfl | rfl | rfl <;> decide
  have kept : ∀ w', Below w.heap.size w w' → w'.ownsMap Tryz.prog 9 raw fb n M := fun w' hb => hown.kept (row := none) ⟨hb.os, hb.tape, hb.output, hb.size, fun i hi _ => hb.block i hi⟩ (by simp)
  have hAt : At M nm.data.toList = noVal := by
    unfold hs at hno
    unfold At
    rw [atKey_of_not_has hno]
  obtain ⟨w1, hw1⟩ : ∃ w1, w1 = w.alloc (.cells #[.slice none 0 0, .bool false] 72) := ⟨_, rfl⟩
  have hb1 : Below w.heap.size w w1 := by rw [hw1]; exact (Below.refl _ _).alloc (Nat.le_refl _) _
  have hl1 : (Instr.lookup 50 (.map (some fb)) (.string nm) true).run Tryz.prog w1 = .ok (.tuple #[noVal, .bool false]) w1 := by
    have h9 := look_at (kept w1 hb1) hH nm (by unfold maxLen; omega)
    rw [hAt, hno] at h9
    exact h9
  have hM1 := hM.below hb1
  obtain ⟨_, _, _, _, _, _, _, _, c9, fz⟩ := hM1.cells
  have hlt := hM1.lt.1
  have h4 : w1.heap[w.heap.size]? = some (.cells #[.slice none 0 0, .bool false] 72 (0, 0)) := by rw [hw1]; exact heap_alloc_new _ _
  obtain ⟨w2, hw2⟩ : ∃ w2, w2 = w1.alloc (.cells #[.slice none 0 0, .bool false] 72) := ⟨_, rfl⟩
  have hb2 : Below w1.heap.size w1 w2 := by rw [hw2]; exact (Below.refl _ _).alloc (Nat.le_refl _) _
  have hM2 := hM1.below hb2
  obtain ⟨_, _, e3, _, _, _, _, _, _, _⟩ := hM2.cells
  have HFld := Lib.hid (hd.field_any w2 A on oc D.oct nm hM2.2.1 hM2.2.2.1 hM2.env.room)
  have HM := Lib.hid hM
  have HM2 := Lib.hid hM2
  have HW1 := Lib.hid hw1
  have HW2 := Lib.hid hw2
  have HB1 := Lib.hid hb1
  have HB2 := Lib.hid (hb1.trans (hb2.mono hb1.size))
  have H4 := Lib.hid ((hb2.block _ (Array.getElem?_eq_some_iff.1 h4).1).trans h4)
  have HKp := Lib.hid kept
  have HMap := Lib.hid (And.intro hfb (And.intro hmb (And.intro hn (And.intro hH (And.intro hF hno)))))
  have HNm := Lib.hid hnm
  have HNz := Lib.hid hnz
  have hol : D.oct.length ≤ 60000 := by have := hM.2.1.1.1; have := hM.2.2.1; omega
  have HFl := Lib.hid (fld_len nm D.oct hol)
  have hV : fldV nm D.oct = lowL (nums (hd.strOf (hd.trimL (hd.runF nm (false, []) (hd.linesOf D.oct)).2))) := rfl
  have hIs : fldB nm D.oct = (hd.runF nm (false, []) (hd.linesOf D.oct)).1 := rfl
  have HV := Lib.hid hV
  have HIs := Lib.hid hIs
  rw [← hd.strOf_size] at HFl
  generalize hd.strOf (hd.trimL (hd.runF nm (false, []) (hd.linesOf D.oct)).2) = S at *
  generalize (hd.runF nm (false, []) (hd.linesOf D.oct)).1 = is at *
  clear hM hfb hmb hown hn hH hF hno hnm kept hAt hw1 hw2 hb1 hb2 hM1 hM2 h4 hol hV hIs hnz
  go_enter Tryz.func34, Tryz.ntmps34
  go_upto_region 1 with fail
  rw [← HW1.out]
  go_upto_region 4 with fail
  rw [← HW2.out]
  go_wp2_with fail
  refine HFld.out.mono ?_
  rintro e w3 ⟨rfl, hb3⟩
  have HB3 := Lib.hid (HB2.out.trans (hb3.mono HB2.out.size))
  have HSm := Lib.hid (smallS_any w3 S (by have := HFl.out; omega))
  have HL3 := Lib.hid hb3
  clear hb3
  go_wp2_with fail
  refine HSm.out.mono ?_
  rintro e w4 ⟨g, rfl, h1, h2, h3, hb4⟩
  have HG := Lib.hid (And.intro h1 (And.intro h2 h3))
  have HB4 := Lib.hid (HB3.out.trans (hb4.mono HB3.out.size))
  have HL4 := Lib.hid hb4
  clear h1 h2 h3 hb4
  obtain ⟨w5, hw5⟩ : ∃ w5, w5 = w4.alloc (.cells #[.slice (some ⟨g, 0, none⟩) (nums S).length (nums S).length, .bool is] 72) := ⟨_, rfl⟩
  have hl5 : Below w4.heap.size w4 w5 := by rw [hw5]; exact (Below.refl _ _).alloc (Nat.le_refl _) _
  have hx5 : w5.heap[w4.heap.size]? = some (.cells #[.slice (some ⟨g, 0, none⟩) (nums S).length (nums S).length, .bool is] 72 (0, 0)) := by rw [hw5]; exact heap_alloc_new _ _
  have HB5 := Lib.hid (HB4.out.trans (hl5.mono HB4.out.size))
  have HM5 := Lib.hid (HM.out.below HB5.out)
  have hz : (nums S).length = (fldV nm D.oct).length := by rw [HV.out, lowL_len]
  have hg0 : n0 ≤ g := by have h8 := HG.out.1; have h9 := HM.out.lt; have h7 := HB3.out.size; omega
  have hlt5 := HM5.out.lt.1
  have hgs : g < w5.heap.size := Nat.lt_of_lt_of_le HG.out.2.1 hl5.size
  have hfl := HMap.out.2.2.2.2
  have hgw : w.heap.size ≤ g := by have h8 := HG.out.1; have h7 := HB3.out.size; omega
  have hgm : g ≠ mb := by have h9 := HM.out.lt; omega
  have hown5 := HKp.out w5 HB5.out
  have hfbw : fb < w.heap.size := by have := (HKp.out w (Below.refl _ _)).lt; exact this
  have hgf : g ≠ fb := by omega
  have hBg : Bytes w5 (some ⟨g, 0, none⟩) (fldV nm D.oct).length (fldV nm D.oct) := by
    rw [← hz, HV.out]
    exact bytes_keep HG.out.2.2 (hl5.block g HG.out.2.1)
  have h45 := H4.out
  have h44 : w5.heap[w.heap.size]? = some (.cells #[.slice none 0 0, .bool false] 72 (0, 0)) := by
    have k1 := (Array.getElem?_eq_some_iff.1 H4.out).1
    rw [hl5.block _ (Nat.lt_of_lt_of_le (Nat.lt_of_lt_of_le k1 HL3.out.size) HL4.out.size), HL4.out.block _ (Nat.lt_of_lt_of_le k1 HL3.out.size), HL3.out.block _ k1]
    exact h45
  obtain ⟨_, _, _, _, _, _, _, _, d9, _⟩ := HM5.out.cells
  have hkey : keyOf Tryz.prog 9 (.string nm) = some (.string nm.data.toList) := keyOf_string_mk Tryz.underlying9 (by have := HNz.out; unfold maxLen; omega)
  obtain ⟨w6, hrun, hown6, hg6⟩ := (show w5.drew.ownsMap Tryz.prog 9 raw fb n M from hown5).update keyedS mapT (by have h1 := HMap.out.2.2.1; have h2 := cnt_le M; unfold maxLen; omega) hkey (val := .agg #[.slice (some ⟨g, 0, none⟩) (nums S).length (nums S).length, .bool is]) rfl
  have hne1 : w4.heap.size ≠ fb := by have h1 := HB4.out.size; omega
  have hne2 : w.heap.size ≠ fb := by omega
  have hx6 : w6.heap[w4.heap.size]? = some (.cells #[.slice (some ⟨g, 0, none⟩) (nums S).length (nums S).length, .bool is] 72 (0, 0)) := (hg6.block _ (by show w4.heap.size < w5.heap.size; rw [hw5, size_alloc]; omega) (fun e => hne1 (by cases e; rfl))).trans hx5
  have h46 : w6.heap[w.heap.size]? = some (.cells #[.slice none 0 0, .bool false] 72 (0, 0)) := (hg6.block _ (by show w.heap.size < w5.heap.size; exact (Array.getElem?_eq_some_iff.1 h44).1) (fun e => hne2 (by cases e; rfl))).trans h44
  have HBg6 := Lib.hid (show Bytes w6 (some ⟨g, 0, none⟩) (fldV nm D.oct).length (fldV nm D.oct) from bytes_keep hBg (hg6.block g hgs (fun e => hgf (by cases e; rfl))))
  have t0 := sq.cell_at hx5 0 _ rfl
  have t1 := sq.cell_at hx5 1 _ rfl
  have v0 := sq.cell_at hx6 0 _ rfl
  have v1 := sq.cell_at hx6 1 _ rfl
  have b0 := sq.cell_at h46 0 _ rfl
  have b1 := sq.cell_at h46 1 _ rfl
  have z0 := frozen_of_row _ _ 0 _ _ h46
  have z1 := frozen_of_row _ _ 1 _ _ h46
  have HT := Lib.hid (sq.two h46 rfl (.slice (some ⟨g, 0, none⟩) (nums S).length (nums S).length) (.bool is))
  have HFin := Lib.hid (show MB n0 mb D dt A on oc sa se (.map (some fb)) ((w6.setCell ⟨w.heap.size, 0, none⟩ (.slice (some ⟨g, 0, none⟩) (nums S).length (nums S).length)).setCell ⟨w.heap.size, 1, none⟩ (.bool is)) ∧ Gone n0 mb w ((w6.setCell ⟨w.heap.size, 0, none⟩ (.slice (some ⟨g, 0, none⟩) (nums S).length (nums S).length)).setCell ⟨w.heap.size, 1, none⟩ (.bool is)) ∧ Bytes ((w6.setCell ⟨w.heap.size, 0, none⟩ (.slice (some ⟨g, 0, none⟩) (nums S).length (nums S).length)).setCell ⟨w.heap.size, 1, none⟩ (.bool is)) (some ⟨g, 0, none⟩) (nums S).length (fldV nm D.oct) from by
    have hoth := HT.out.2.1
    have hsz6 := hg6.size
    have h5s : w5.drew.heap.size = w5.heap.size := rfl
    have hgw2 : g ≠ w.heap.size := by
      have k1 := (Array.getElem?_eq_some_iff.1 H4.out).1
      have h8 := HG.out.1
      have h7 := HL3.out.size
      omega
    have hB7 : Bytes ((w6.setCell ⟨w.heap.size, 0, none⟩ (.slice (some ⟨g, 0, none⟩) (nums S).length (nums S).length)).setCell ⟨w.heap.size, 1, none⟩ (.bool is)) (some ⟨g, 0, none⟩) (fldV nm D.oct).length (fldV nm D.oct) := bytes_keep HBg6.out (hoth g hgw2)
    have ht56 : codec.Touch (fun x => x = fb) w5 w6 := ⟨hg6.os, hg6.tape, hg6.output, hg6.size, fun x hx hn => hg6.block x hx (fun e => hn (by cases e; rfl))⟩
    have hs7 : ((w6.setCell ⟨w.heap.size, 0, none⟩ (.slice (some ⟨g, 0, none⟩) (nums S).length (nums S).length)).setCell ⟨w.heap.size, 1, none⟩ (.bool is)).heap.size = w6.heap.size := by simp
    have ht : codec.Touch (fun x => x = fb) w ((w6.setCell ⟨w.heap.size, 0, none⟩ (.slice (some ⟨g, 0, none⟩) (nums S).length (nums S).length)).setCell ⟨w.heap.size, 1, none⟩ (.bool is)) := by
      have hb7 := HT.out.2.2 w.heap.size w6 (Below.refl _ _) (Nat.le_refl _)
      have h5z := HB5.out.size
      refine ⟨by rw [hb7.os, ht56.1, HB5.out.os], by rw [hb7.tape, ht56.2.1, HB5.out.tape], by rw [hb7.output, ht56.2.2.1, HB5.out.output], by rw [hs7]; omega, fun x hx hn => ?_⟩
      rw [hb7.block x hx, ht56.2.2.2.2 x (by omega) hn, HB5.out.block x hx]
    refine ⟨?_, ⟨ht.toBelow _ HM.out.lt.2.2 (fun x hx e => by have := HMap.out.1; omega), fun x cs t m _ hc => (ht.2.2.2.2 x (Array.getElem?_eq_some_iff.1 hc).1 (fun e => by
      obtain ⟨es, clock, k1, _⟩ := HKp.out w (Below.refl _ _)
      rw [e, k1] at hc
      cases hc)).trans hc⟩, by have h := hB7; rw [← hz] at h; exact h⟩
    refine HM.out.put HMap.out.1 HMap.out.2.1 (HKp.out w (Below.refl _ _)).isMap HMap.out.2.2.1 HMap.out.2.2.2.1 hfl.1 HNm.out hfl.2 hg0 (by rw [hs7]; omega) hgm hgf hB7 ?_ ht
    rw [hz] at hown6 ⊢
    rw [HIs.out]
    exact (hown6.setCell (a := ⟨w.heap.size, 0, none⟩) (fun e => hne2 e.symm) _).setCell (a := ⟨w.heap.size, 1, none⟩) (fun e => hne2 e.symm) _)
  have HZ := Lib.hid hz
  have HGs := Lib.hid (And.intro hgw (Nat.lt_of_lt_of_le hgs hg6.size))
  have HW5 := Lib.hid hw5
  have d9' : w5.drew.cell? ⟨mb, 9, none⟩ = some (.map (some fb)) := d9
  have t0' : w5.drew.cell? ⟨w4.heap.size, 0, none⟩ = some (.slice (some ⟨g, 0, none⟩) (nums S).length (nums S).length) := t0
  have t1' : w5.drew.cell? ⟨w4.heap.size, 1, none⟩ = some (.bool is) := t1
  have q3 := map_ne
  clear hl5 hx5 hg0 hlt5 hgs hfl hgw hgm hown5 hfbw hgf hBg h45 h44 hkey hown6 hg6 hne1 hne2 hx6 h46 hz hw5
  generalize (nums S).length = z at *
  go_upto_region 6 with fail
  rw [← HW5.out]
  go_upto_region 8 with fail
  go_region
  all_goals
    go_wp2_with fail
    refine bodyPost_ret (results_cell_row Tryz.results34 _ _ w.heap.size _ _ _ _ rfl HT.out.1 Tryz.underlying72 rfl (valSize _ rfl)) rfl ?_
    exact ⟨g, z, by rw [HIs.out], HFin.out.1.ms, HFin.out.2.1, HFin.out.2.2⟩
end Go.Proofs.YtcepcamedmiinaaGreatDoor.sea
