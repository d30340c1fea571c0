/- A message's field, asked the first time of all. -/
import Derived.Test.YtcepcamedmiinaaGreatDoorMe2
namespace Go.Proofs.YtcepcamedmiinaaGreatDoor.sea
open Go.ChangeShapes Go.WideShapes Go.ChangeAt Go.RowKit Go.Maps Go.WideMaps
open Go.Proofs.YtcepcamedmiinaaGreatDoor.codec (Bytes vals)
open Go.Proofs.YtcepcamedmiinaaGreatDoor.row (Rd Fm)
open Go.Proofs.YtcepcamedmiinaaGreatDoor.hd (Sl)
set_option linter.unusedVariables false
set_option maxRecDepth 100000
set_option linter.unusedSimpArgs false

/-- The first field of all is kept. -/
theorem MB.first {n0 mb : Nat} {D : Md} {dt : Int} {A : Option Addr} {on oc : Nat} {sa se : Value} {w w' : World} {fb : Nat} (h : MB n0 mb D dt A on oc sa se (.map none) w)
    (hx : w'.heap[mb]? = some (.cells (mcells D dt A on oc sa se (.map (some fb))) 52 (0, 0))) (hfb : w.heap.size ≤ fb) (ht : codec.Touch (fun x => x = mb) w w')
    {nm : ByteArray} (hnm : nm = nSUBJECT ∨ nm = nFROM ∨ nm = nTO) {g : Nat} (hg0 : w.heap.size ≤ g) (hg1 : g < w'.heap.size) (hg3 : g ≠ fb) (hB : Bytes w' (some ⟨g, 0, none⟩) (fldV nm D.oct).length (fldV nm D.oct))
    (ho : w'.ownsMap Tryz.prog 9 raw fb 1 ((DataW.map []).put (.string nm.data.toList) (.held (.agg #[.slice (some ⟨g, 0, none⟩) (fldV nm D.oct).length (fldV nm D.oct).length, .bool (fldB nm D.oct)])))) :
    MB n0 mb D dt A on oc sa se (.map (some fb)) w' := by
  have hl := h.lt
  have hm : IsMap (DataW.map [] : DataW Value) := ⟨[], rfl⟩
  have hno : ∀ x, hs (DataW.map [] : DataW Value) x = false := fun x => by simp [hs, Maps.has]
  have hc : cnt (DataW.map [] : DataW Value) = 0 := by unfold cnt; rw [hno, hno, hno]; rfl
  have lz : ∀ v l, Lz n0 mb (.map none) w v l → Lz n0 mb (.map (some fb)) w' v l := fun v l hz => by
    rcases hz with e | ⟨g, k1, k2, k3, k4, k5, k6⟩
    · exact .inl e
    · exact .inr ⟨g, k1, k2, Nat.lt_of_lt_of_le k3 ht.2.2.2.1, k4, fun e => by cases e; omega, bytes_keep k6 (ht.2.2.2.2 g k3 k4)⟩
  obtain ⟨h1, h2, h3, h4, h5, h6, h7, _, w0, h9, h10, h11⟩ := h
  refine ⟨hx, ⟨h2.1.touch (fun a ha h0 e => ?_) ht, h2.2⟩, h3, h4, h5, lz _ _ h6, lz _ _ h7, ?_, w0, h9, h10, h11.trans (ht.toBelow _ (by omega) (fun i hi e => by omega))⟩
  · have := h4 a ha h0
    omega
  · refine .inr ⟨fb, 1, _, rfl, by omega, by omega, ho, by rw [cnt_put hm hnm (hno nm), hc]; exact Nat.le_refl _, Held_put hm (fun s => ⟨noVal, by simp [DataW.atKey]⟩) _ _, fun x hx => ?_⟩
    rw [hs_put hm] at hx
    rw [At_put hm]
    by_cases e : x = nm
    · subst e
      rw [if_pos rfl]
      exact ⟨g, rfl, by omega, hg1, by omega, hg3, hB⟩
    · rw [if_neg e, hno] at hx
      cases hx
set_option maxHeartbeats 4000000 in
theorem field_zero (n0 mb : Nat) (D : Md) (nm : ByteArray) (hnm : nm = nSUBJECT ∨ nm = nFROM ∨ nm = nTO) (w : World) (dt : Int) (A : Option Addr) (on oc : Nat) (sa se : Value) (hM : MB n0 mb D dt A on oc sa se (.map none) w) :
    Calls Tryz.prog 34 #[.pointer (some ⟨mb, 0, none⟩), .string nm] w (FieldAns n0 mb D nm w) := by
  have hnz : nm.size ≤ 100 := by rcases hnm with rfl | rfl | rfl <;> decide
  obtain ⟨w1, hw1⟩ : ∃ w1, w1 = w.alloc (.cells #[.slice none 0 0, .bool false] 72) := ⟨_, rfl⟩
  have hb1 : Below w.heap.size w w1 := by rw [hw1]; exact (Below.refl _ _).alloc (Nat.le_refl _) _
  have hl1 := look_none w1 nm (by unfold maxLen; omega)
  have hM1 := hM.below hb1
  obtain ⟨_, _, _, _, _, _, _, _, c9, fz⟩ := hM1.cells
  have hlt := hM1.lt.1
  have h4 : w1.heap[w.heap.size]? = some (.cells #[.slice none 0 0, .bool false] 72 (0, 0)) := by rw [hw1]; exact heap_alloc_new _ _
  obtain ⟨w2, hw2⟩ : ∃ w2, w2 = w1.alloc (.cells #[.slice none 0 0, .bool false] 72) := ⟨_, rfl⟩
  have hb2 : Below w1.heap.size w1 w2 := by rw [hw2]; exact (Below.refl _ _).alloc (Nat.le_refl _) _
  have hM2 := hM1.below hb2
  obtain ⟨_, _, e3, _, _, _, _, _, _, _⟩ := hM2.cells
  have HFld := Lib.hid (hd.field_any w2 A on oc D.oct nm hM2.2.1 hM2.2.2.1 hM2.env.room)
  have HM := Lib.hid hM
  have HM2 := Lib.hid hM2
  have HW1 := Lib.hid hw1
  have HW2 := Lib.hid hw2
  have HB1 := Lib.hid hb1
  have HB2 := Lib.hid (hb1.trans (hb2.mono hb1.size))
  have H4 := Lib.hid ((hb2.block _ (Array.getElem?_eq_some_iff.1 h4).1).trans h4)
  have HNm := Lib.hid hnm
  have HNz := Lib.hid hnz
  have hol : D.oct.length ≤ 60000 := by have := hM.2.1.1.1; have := hM.2.2.1; omega
  have HFl := Lib.hid (fld_len nm D.oct hol)
  have hV : fldV nm D.oct = lowL (nums (hd.strOf (hd.trimL (hd.runF nm (false, []) (hd.linesOf D.oct)).2))) := rfl
  have hIs : fldB nm D.oct = (hd.runF nm (false, []) (hd.linesOf D.oct)).1 := rfl
  have HV := Lib.hid hV
  have HIs := Lib.hid hIs
  rw [← hd.strOf_size] at HFl
  generalize hd.strOf (hd.trimL (hd.runF nm (false, []) (hd.linesOf D.oct)).2) = S at *
  generalize (hd.runF nm (false, []) (hd.linesOf D.oct)).1 = is at *
  clear hM hnm hw1 hw2 hb1 hb2 hM1 hM2 h4 hol hV hIs hnz
  go_enter Tryz.func34, Tryz.ntmps34
  go_upto_region 1 with fail
  rw [← HW1.out]
  go_upto_region 4 with fail
  rw [← HW2.out]
  go_wp2_with fail
  refine HFld.out.mono ?_
  rintro e w3 ⟨rfl, hb3⟩
  have HB3 := Lib.hid (HB2.out.trans (hb3.mono HB2.out.size))
  have HSm := Lib.hid (smallS_any w3 S (by have := HFl.out; omega))
  have HL3 := Lib.hid hb3
  clear hb3
  go_wp2_with fail
  refine HSm.out.mono ?_
  rintro e w4 ⟨g, rfl, h1, h2, h3, hb4⟩
  have HG := Lib.hid (And.intro h1 (And.intro h2 h3))
  have HB4 := Lib.hid (HB3.out.trans (hb4.mono HB3.out.size))
  have HL4 := Lib.hid hb4
  clear h1 h2 h3 hb4
  obtain ⟨w5, hw5⟩ : ∃ w5, w5 = w4.alloc (.cells #[.slice (some ⟨g, 0, none⟩) (nums S).length (nums S).length, .bool is] 72) := ⟨_, rfl⟩
  have hl5 : Below w4.heap.size w4 w5 := by rw [hw5]; exact (Below.refl _ _).alloc (Nat.le_refl _) _
  have hx5 : w5.heap[w4.heap.size]? = some (.cells #[.slice (some ⟨g, 0, none⟩) (nums S).length (nums S).length, .bool is] 72 (0, 0)) := by rw [hw5]; exact heap_alloc_new _ _
  have HB5 := Lib.hid (HB4.out.trans (hl5.mono HB4.out.size))
  have HM5 := Lib.hid (HM.out.below HB5.out)
  have hz : (nums S).length = (fldV nm D.oct).length := by rw [HV.out, lowL_len]
  have hlt5 := HM5.out.lt.1
  have hgs : g < w5.heap.size := Nat.lt_of_lt_of_le HG.out.2.1 hl5.size
  have hgw : w.heap.size ≤ g := by have h8 := HG.out.1; have h7 := HB3.out.size; omega
  have hml : mb < w.heap.size := HM.out.lt.1
  obtain ⟨_, _, _, _, _, _, _, _, d9, dfz⟩ := HM5.out.cells
  have h44 : w5.heap[w.heap.size]? = some (.cells #[.slice none 0 0, .bool false] 72 (0, 0)) := by
    have k1 := (Array.getElem?_eq_some_iff.1 H4.out).1
    rw [hl5.block _ (Nat.lt_of_lt_of_le (Nat.lt_of_lt_of_le k1 HL3.out.size) HL4.out.size), HL4.out.block _ (Nat.lt_of_lt_of_le k1 HL3.out.size), HL3.out.block _ k1]
    exact H4.out
  -- the map is made
  obtain ⟨fb, hfb⟩ : ∃ fb, fb = w5.heap.size := ⟨_, rfl⟩
  obtain ⟨v5, hv5⟩ : ∃ v5, v5 = (w5.alloc (.map #[] 0)).setCell ⟨mb, 9, none⟩ (.map (some fb)) := ⟨_, rfl⟩
  have hv5s : v5.heap.size = w5.heap.size + 1 := by rw [hv5]; simp
  have hoth5 : ∀ x, x < w5.heap.size → x ≠ mb → v5.heap[x]? = w5.heap[x]? := fun x hx hn => by
    rw [hv5, (set_touch (w5.alloc (.map #[] 0)) mb 9 (.map (some fb))).2.2.2.2 x (by rw [size_alloc]; omega) hn]
    exact alloc_keeps _ _ _ hx
  have hmb5 : v5.heap[mb]? = some (.cells (mcells D dt A on oc sa se (.map (some fb))) 52 (0, 0)) := by
    rw [hv5, heap_setCell_same _ mb 9 _ _ _ ((alloc_keeps _ _ _ hlt5).trans HM5.out.1)]
    rfl
  have hown5 : v5.ownsMap Tryz.prog 9 raw fb 0 (.map []) := by
    rw [hv5, hfb]
    exact (World.ownsMap_made w5 Tryz.prog 9 raw).setCell (a := ⟨mb, 9, none⟩) (by show w5.heap.size ≠ mb; omega) _
  have hos5 : v5.os = w5.os ∧ v5.tape = w5.tape ∧ v5.output = w5.output := by rw [hv5]; exact ⟨rfl, rfl, rfl⟩
  have hkey : keyOf Tryz.prog 9 (.string nm) = some (.string nm.data.toList) := keyOf_string_mk Tryz.underlying9 (by have := HNz.out; unfold maxLen; omega)
  obtain ⟨w6, hrun, hown6, hg6⟩ := (show v5.drew.ownsMap Tryz.prog 9 raw fb 0 (.map []) from hown5).update keyedS mapT (by unfold maxLen; omega) hkey (val := .agg #[.slice (some ⟨g, 0, none⟩) (nums S).length (nums S).length, .bool is]) rfl
  have hne : ∀ x, x < w5.heap.size → x ≠ fb := fun x hx => by omega
  have hg6b : ∀ x, x < w5.heap.size → w6.heap[x]? = v5.heap[x]? := fun x hx => hg6.block x (by show x < v5.heap.size; omega) (fun e => hne x hx (by cases e; rfl))
  have hw4l : w4.heap.size < w5.heap.size := by rw [hw5, size_alloc]; omega
  have hwl : w.heap.size < w5.heap.size := (Array.getElem?_eq_some_iff.1 h44).1
  have hx6 : w6.heap[w4.heap.size]? = some (.cells #[.slice (some ⟨g, 0, none⟩) (nums S).length (nums S).length, .bool is] 72 (0, 0)) := by
    rw [hg6b _ hw4l, hoth5 _ hw4l (by have := HB4.out.size; omega)]; exact hx5
  have h46 : w6.heap[w.heap.size]? = some (.cells #[.slice none 0 0, .bool false] 72 (0, 0)) := by
    rw [hg6b _ hwl, hoth5 _ hwl (by omega)]; exact h44
  have hmb6 : w6.heap[mb]? = some (.cells (mcells D dt A on oc sa se (.map (some fb))) 52 (0, 0)) := (hg6b _ hlt5).trans hmb5
  have t0 : v5.cell? ⟨w4.heap.size, 0, none⟩ = some (.slice (some ⟨g, 0, none⟩) (nums S).length (nums S).length) := sq.cell_at ((hoth5 _ hw4l (by have := HB4.out.size; omega)).trans hx5) 0 _ rfl
  have t1 : v5.cell? ⟨w4.heap.size, 1, none⟩ = some (.bool is) := sq.cell_at ((hoth5 _ hw4l (by have := HB4.out.size; omega)).trans hx5) 1 _ rfl
  have m9 : v5.cell? ⟨mb, 9, none⟩ = some (.map (some fb)) := sq.cell_at hmb5 9 _ rfl
  have v0 := sq.cell_at hx6 0 _ rfl
  have v1 := sq.cell_at hx6 1 _ rfl
  have b0 := sq.cell_at h46 0 _ rfl
  have b1 := sq.cell_at h46 1 _ rfl
  have z0 := frozen_of_row _ _ 0 _ _ h46
  have z1 := frozen_of_row _ _ 1 _ _ h46
  have HT := Lib.hid (sq.two h46 rfl (.slice (some ⟨g, 0, none⟩) (nums S).length (nums S).length) (.bool is))
  have HFin := Lib.hid (show MB n0 mb D dt A on oc sa se (.map (some fb)) ((w6.setCell ⟨w.heap.size, 0, none⟩ (.slice (some ⟨g, 0, none⟩) (nums S).length (nums S).length)).setCell ⟨w.heap.size, 1, none⟩ (.bool is)) ∧ Gone n0 mb w ((w6.setCell ⟨w.heap.size, 0, none⟩ (.slice (some ⟨g, 0, none⟩) (nums S).length (nums S).length)).setCell ⟨w.heap.size, 1, none⟩ (.bool is)) ∧ Bytes ((w6.setCell ⟨w.heap.size, 0, none⟩ (.slice (some ⟨g, 0, none⟩) (nums S).length (nums S).length)).setCell ⟨w.heap.size, 1, none⟩ (.bool is)) (some ⟨g, 0, none⟩) (nums S).length (fldV nm D.oct) from by
    have hoth := HT.out.2.1
    have hsz6 : v5.heap.size ≤ w6.heap.size := hg6.size
    have hgw2 : g ≠ w.heap.size := by
      have k1 := (Array.getElem?_eq_some_iff.1 H4.out).1
      have h8 := HG.out.1
      have h7 := HL3.out.size
      omega
    have hB7 : Bytes ((w6.setCell ⟨w.heap.size, 0, none⟩ (.slice (some ⟨g, 0, none⟩) (nums S).length (nums S).length)).setCell ⟨w.heap.size, 1, none⟩ (.bool is)) (some ⟨g, 0, none⟩) (fldV nm D.oct).length (fldV nm D.oct) := by
      have h5 : Bytes w4 (some ⟨g, 0, none⟩) (fldV nm D.oct).length (fldV nm D.oct) := by
        rw [← hz, HV.out]
        exact HG.out.2.2
      refine bytes_keep h5 ?_
      rw [hoth g hgw2, hg6b g hgs, hoth5 g hgs (by omega), hl5.block g HG.out.2.1]
    have hs7 : ((w6.setCell ⟨w.heap.size, 0, none⟩ (.slice (some ⟨g, 0, none⟩) (nums S).length (nums S).length)).setCell ⟨w.heap.size, 1, none⟩ (.bool is)).heap.size = w6.heap.size := by simp
    have h5z := HB5.out.size
    have ht : codec.Touch (fun x => x = mb) w ((w6.setCell ⟨w.heap.size, 0, none⟩ (.slice (some ⟨g, 0, none⟩) (nums S).length (nums S).length)).setCell ⟨w.heap.size, 1, none⟩ (.bool is)) := by
      have hb7 := HT.out.2.2 w.heap.size w6 (Below.refl _ _) (Nat.le_refl _)
      refine ⟨by rw [hb7.os, hg6.os]; show v5.os = _; rw [hos5.1, HB5.out.os], by rw [hb7.tape, hg6.tape]; show v5.tape = _; rw [hos5.2.1, HB5.out.tape], by rw [hb7.output, hg6.output]; show v5.output = _; rw [hos5.2.2, HB5.out.output], by rw [hs7]; omega, fun x hx hn => ?_⟩
      rw [hb7.block x hx, hg6b x (by omega), hoth5 x (by omega) hn, HB5.out.block x hx]
    refine ⟨?_, ⟨ht.toBelow _ HM.out.lt.2.2 (fun x hx e => by have := HM.out.lt; omega), fun x cs t m hx hc => (ht.2.2.2.2 x (Array.getElem?_eq_some_iff.1 hc).1 hx).trans hc⟩, by have h := hB7; rw [← hz] at h; exact h⟩
    refine HM.out.first ?_ (by omega) ht HNm.out hgw (by rw [hs7]; omega) (by omega) hB7 ?_
    · rw [hoth mb (by omega)]; exact hmb6
    · rw [hz] at hown6 ⊢
      rw [HIs.out]
      exact (hown6.setCell (a := ⟨w.heap.size, 0, none⟩) (by show fb ≠ w.heap.size; omega) _).setCell (a := ⟨w.heap.size, 1, none⟩) (by show fb ≠ w.heap.size; omega) _)
  have HW5 := Lib.hid hw5
  have HV5 := Lib.hid hv5
  have HFb := Lib.hid hfb
  have m9' : v5.drew.cell? ⟨mb, 9, none⟩ = some (.map (some fb)) := m9
  have t0' : v5.drew.cell? ⟨w4.heap.size, 0, none⟩ = some (.slice (some ⟨g, 0, none⟩) (nums S).length (nums S).length) := t0
  have t1' : v5.drew.cell? ⟨w4.heap.size, 1, none⟩ = some (.bool is) := t1
  have q3 := map_eq
  have hmm : ∀ w, (Instr.makeMap 50 none).run Tryz.prog w = .ok (.map (some w.heap.size)) (w.alloc (.map #[] 0)) := fun w => rfl
  have d9a : (w5.alloc (.map #[] 0)).cell? ⟨mb, 9, none⟩ = some (.map none) := by
    have := HM5.out.below ((Below.refl w5.heap.size w5).alloc (Nat.le_refl _) (.map #[] 0))
    obtain ⟨_, _, _, _, _, _, _, _, k9, _⟩ := this.cells
    exact k9
  have dfa : (w5.alloc (.map #[] 0)).frozen? ⟨mb, 9, none⟩ = false := by
    have := HM5.out.below ((Below.refl w5.heap.size w5).alloc (Nat.le_refl _) (.map #[] 0))
    obtain ⟨_, _, _, _, _, _, _, _, _, kf⟩ := this.cells
    exact kf 9
  clear hl5 hx5 hlt5 hgs hgw hml h44 hv5s hoth5 hmb5 hown5 hos5 hkey hown6 hg6 hne hg6b hw4l hwl hx6 h46 hmb6 hz hw5 hv5 hfb m9 t0 t1
  generalize (nums S).length = z at *
  go_upto_region 6 with fail
  rw [← HW5.out]
  go_upto_region 8 with fail
  rw [← HFb.out, ← HV5.out]
  go_region
  all_goals
    go_wp2_with fail
    refine bodyPost_ret (results_cell_row Tryz.results34 _ _ w.heap.size _ _ _ _ rfl HT.out.1 Tryz.underlying72 rfl (valSize _ rfl)) rfl ?_
    exact ⟨g, z, by rw [HIs.out], HFin.out.1.ms, HFin.out.2.1, HFin.out.2.2⟩
end Go.Proofs.YtcepcamedmiinaaGreatDoor.sea
