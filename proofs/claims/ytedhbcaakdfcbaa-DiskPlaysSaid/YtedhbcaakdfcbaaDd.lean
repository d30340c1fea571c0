/- A file laid in its place. -/
import Derived.Test.YtedhbcaakdfcbaaDc
namespace Go.Proofs.Ytedhbcaakdfcbaa.disk
open Go.ChangeShapes Go.WideShapes Go.ChangeAt Go.RowKit Go.Maps Go.WideMaps
set_option linter.unusedVariables false
set_option linter.unusedSimpArgs false

theorem cells_set {l : List Value} {n i j : Nat} {xs : List RF} {u : Value} {x' : RF} (hl : l.take (n * 4) = cellsF xs) (hn : xs.length = n) (hi : i < xs.length) (hj : j < 4) (hx : x'.cells = xs[i].cells.set j u) : (l.set (i * 4 + j) u).take (n * 4) = cellsF (xs.set i x') := by
  refine List.ext_getElem? fun k => ?_
  by_cases hk : k < n * 4
  · obtain ⟨q, r, rfl, hr⟩ : ∃ q r, k = q * 4 + r ∧ r < 4 := ⟨k / 4, k % 4, by omega, by omega⟩
    have hq : q < xs.length := by omega
    have hq' : q < (xs.set i x').length := by simpa using hq
    rw [List.getElem?_take, if_pos hk, cellsF_get _ q r hq' hr]
    have h0 : l[q * 4 + r]? = xs[q].cells[r]? := by
      rw [← cellsF_get xs q r hq hr, ← hl, List.getElem?_take, if_pos hk]
    by_cases hqi : i = q
    · subst hqi
      have e1 : (xs.set i x')[i] = x' := by simp
      rw [e1, hx]
      by_cases hrj : j = r
      · subst hrj
        have h1 : i * 4 + j < l.length := by
          by_cases h : i * 4 + j < l.length
          · exact h
          · rw [List.getElem?_eq_none (by omega)] at h0
            have : j < xs[i].cells.length := by simp [RF.cells]; omega
            rw [List.getElem?_eq_getElem this] at h0
            cases h0
        rw [List.getElem?_set_self h1, List.getElem?_set_self (by simp [RF.cells]; omega)]
      · rw [List.getElem?_set_ne (by omega), List.getElem?_set_ne hrj, h0]
    · have e1 : (xs.set i x')[q] = xs[q] := by rw [List.getElem_set_ne hqi]
      rw [List.getElem?_set_ne (by omega), e1, h0]
  · rw [List.getElem?_eq_none (by simp; omega), List.getElem?_eq_none (by rw [cellsF_length]; simp; omega)]
theorem rows_cell {w : World} {base g n cp i j : Nat} {xs : List RF} {u : Value} {x' : RF} (h : w.ownsRow base 60 4 (.slice (some ⟨g, 0, none⟩) n cp) xs.length (cellsF xs)) (hi : i < xs.length) (hj : j < 4) (hx : x'.cells = xs[i].cells.set j u) :
    (w.setCell ⟨g, i * 4 + j, none⟩ u).ownsRow base 60 4 (.slice (some ⟨g, 0, none⟩) n cp) (xs.set i x').length (cellsF (xs.set i x')) := by
  rcases h.2 with ⟨e, _⟩ | ⟨g', cap', cur, e, hb, hg, hc, hm, hs, ht⟩
  · cases e
  · cases e
    refine ⟨cellsF_length _, .inr ⟨g, cp, cur.setIfInBounds (i * 4 + j) u, by simp, hb, ?_, by simpa using hc, hm, by simpa using hs, ?_⟩⟩
    · exact heap_setCell_same _ g (i * 4 + j) _ 60 _ hg
    · rw [Array.toList_setIfInBounds]
      have := cells_set (n := xs.length) ht rfl hi hj hx
      simpa using this
theorem set_cells4 (w : World) (g o : Nat) (a b c d : Value) : w.setCells g o [a, b, c, d] = (((w.setCell ⟨g, o, none⟩ a).setCell ⟨g, o + 1, none⟩ b).setCell ⟨g, o + 2, none⟩ c).setCell ⟨g, o + 3, none⟩ d := rfl
/-- A file stored in the row. -/
theorem ref_set {w : World} {base p : Nat} {g n cp i : Nat} {cap fuse : Int} {lost : Bool} {xs : List RF} (h : Ref w base p (.slice (some ⟨g, 0, none⟩) n cp) cap fuse lost xs) (hi : i < xs.length) (x : RF) (hB : Bytes w x.A x.n x.f.l) (hA : ∀ ad, x.A = some ad → 0 < x.n → ad.block ≠ p ∧ ad.block ≠ g) (hnil : x.A = none → x.c = 0) (hle : x.n ≤ x.c) :
    Ref (w.setCells g (i * 4) x.cells) base p (.slice (some ⟨g, 0, none⟩) n cp) cap fuse lost (xs.set i x) ∧ Touch (fun j => j = g) w (w.setCells g (i * 4) x.cells) := by
  have hgp : g ≠ p := by obtain ⟨g', e, hh, _⟩ := h.at_ hi; cases e; exact hh
  have e4 : w.setCells g (i * 4) x.cells = (((w.setCell ⟨g, i * 4 + 0, none⟩ (.string x.name)).setCell ⟨g, i * 4 + 1, none⟩ (.slice x.A x.n x.c)).setCell ⟨g, i * 4 + 2, none⟩ (.int .i64 (x.f.safe : Nat))).setCell ⟨g, i * 4 + 3, none⟩ (.bool x.f.ever) := set_cells4 w g (i * 4) _ _ _ _
  rw [e4]
  have r1 := rows_cell (i := i) (j := 0) (u := .string x.name) (x' := { xs[i] with name := x.name }) h.rows hi (by omega) rfl
  have hi1 : i < (xs.set i { xs[i] with name := x.name }).length := by simpa using hi
  have r2 := rows_cell (i := i) (j := 1) (u := .slice x.A x.n x.c) (x' := { xs[i] with name := x.name, A := x.A, n := x.n, c := x.c }) r1 hi1 (by omega) (by simp [RF.cells])
  rw [List.set_set] at r2
  have hi2 : i < (xs.set i { xs[i] with name := x.name, A := x.A, n := x.n, c := x.c }).length := by simpa using hi
  have r3 := rows_cell (i := i) (j := 2) (u := .int .i64 (x.f.safe : Nat)) (x' := { xs[i] with name := x.name, A := x.A, n := x.n, c := x.c, f := ⟨x.f.l, x.f.safe, xs[i].f.ever⟩ }) r2 hi2 (by omega) (by simp [RF.cells])
  rw [List.set_set] at r3
  have hi3 : i < (xs.set i { xs[i] with name := x.name, A := x.A, n := x.n, c := x.c, f := ⟨x.f.l, x.f.safe, xs[i].f.ever⟩ }).length := by simpa using hi
  have r4 := rows_cell (i := i) (j := 3) (u := .bool x.f.ever) (x' := x) r3 hi3 (by omega) (by simp [RF.cells])
  rw [List.set_set] at r4
  have ht := ((((Touch.refl (fun j => j = g) w).setCell ⟨g, i * 4 + 0, none⟩ (.inr rfl) (.string x.name)).setCell ⟨g, i * 4 + 1, none⟩ (.inr rfl) (.slice x.A x.n x.c)).setCell ⟨g, i * 4 + 2, none⟩ (.inr rfl) (.int .i64 (x.f.safe : Nat))).setCell ⟨g, i * 4 + 3, none⟩ (.inr rfl) (.bool x.f.ever)
  have hmem : ∀ y ∈ xs.set i x, y ∈ xs ∨ y = x := fun y hy => List.mem_or_eq_of_mem_set hy
  have hgx : ∀ y ∈ xs, ∀ ad, y.A = some ad → 0 < y.n → ad.block ≠ g := fun y hy ad e h0 e2 => (h.apart y hy ad e h0).2 (by rw [e2]; rfl)
  refine ⟨⟨?_, h.pb, r4, h.vp, fun y hy => ?_, fun y hy ad e h0 => ?_, fun y hy => ?_, fun y hy => ?_, by simpa using h.few⟩, ht⟩
  · exact (ht.2.2.2.2 p h.lt (Ne.symm hgp)).trans h.head
  · rcases hmem y hy with hy | rfl
    · exact (h.bytes y hy).touch (fun ad e h0 => hgx y hy ad e h0) ht
    · exact hB.touch (fun ad e h0 => (hA ad e h0).2) ht
  · rcases hmem y hy with hy | rfl
    · exact h.apart y hy ad e h0
    · exact ⟨(hA ad e h0).1, fun e2 => (hA ad e h0).2 (Option.some.inj e2).symm⟩
  · rcases hmem y hy with hy | rfl
    · exact h.nil_ y hy
    · exact hnil
  · rcases hmem y hy with hy | rfl
    · exact h.le y hy
    · exact hle
theorem Ref.belowS {w w' : World} {base p : Nat} {v : Value} {cap fuse : Int} {lost : Bool} {xs : List RF} (h : Ref w base p v cap fuse lost xs) (hb : Below w.heap.size w w') : Ref w' base p v cap fuse lost xs :=
  ⟨(hb.block p h.lt).trans h.head, h.pb, h.rows.kept (row := none) ⟨hb.os, hb.tape, hb.output, hb.size, fun i hi _ => hb.block i hi⟩ (by cases hv : v.ownBlock <;> simp), h.vp, fun x hx => (h.bytes x hx).belowS hb, h.apart, h.nil_, h.le, h.few⟩
theorem step_store_mid {ops : Array Oper} {o : Oper} {a : Act} {w : World} {K : Act → World → Prop} {Q : Exit → Act → World → Prop} {E : Prop} (hgd : o.guard = none) (ty : TypeId) (x y : Operand) (ho : o.op = .store ty x y)
    (b off : Nat) (cells : Array Value) (hx : a.eval x = .pointer (some ⟨b, off, none⟩)) (hy : a.eval y = .agg cells)
    (ht : w.there b off cells.size) (hi : (Try.prog.info? ty).map (·.size) = some cells.size) (h1 : cells.all (·.oneCell') = true)
    (h : K (a.put o.dst undef) (w.setCells b off cells.toList)) : if Region.wanted o (yielded ops a.tmps) = true then Oper.wp Try.prog o a w K Q else E := by
  have hw : Region.wanted o (yielded ops a.tmps) = true := by simp [Region.wanted, hgd]
  rw [if_pos hw]
  exact wp_store_mid ty x y ho b off cells hx hy ht hi h1 h
theorem size60 (x : RF) : (Try.prog.info? 60).map (·.size) = some x.cells.length := by
  rw [show x.cells.length = 4 from rfl]
  kernel_rfl
theorem one60 (x : RF) : x.cells.toArray.all (·.oneCell') = true := by
  rw [Array.all_eq_true_iff_forall_mem]
  intro u hu
  simp [RF.cells] at hu
  rcases hu with rfl | rfl | rfl | rfl <;> rfl
theorem range60 {w : World} {q : Nat} {x : RF} {t : TypeId} {m : Nat × Nat} (h : w.heap[q]? = some (.cells x.cells.toArray t m)) : w.rangeAt q 0 x.cells := by
  intro j v hv
  rw [Nat.zero_add, cell_of_row _ _ _ _ _ _ h]
  simpa using hv
theorem Ref.there {w : World} {base p : Nat} {g n cp i : Nat} {cap fuse : Int} {lost : Bool} {xs : List RF} (h : Ref w base p (.slice (some ⟨g, 0, none⟩) n cp) cap fuse lost xs) (hi : i < xs.length) (x : RF) : w.there g (i * 4) x.cells.toArray.size := by
  obtain ⟨g', e, _, _, _, c0, c1, c2, c3, hf⟩ := h.at_ hi
  cases e
  intro j hj
  refine ⟨?_, hf _⟩
  have : j = 0 ∨ j = 1 ∨ j = 2 ∨ j = 3 := by simp [RF.cells] at hj; omega
  rcases this with rfl | rfl | rfl | rfl
  · rw [Nat.add_zero, c0]; rfl
  · rw [c1]; rfl
  · rw [c2]; rfl
  · rw [c3]; rfl
set_option maxRecDepth 50000 in
set_option maxHeartbeats 400000 in
theorem put31_at {w : World} {base p : Nat} {v : Value} {cap fuse : Int} {lost : Bool} {xs : List RF} (h : Ref w base p v cap fuse lost xs) (x : RF) (i : Nat) (hi : i < xs.length) (hat : atI xs x.name.data.toList = (i : Nat)) (hB : Bytes w x.A x.n x.f.l) (hA : ∀ ad, x.A = some ad → 0 < x.n → ad.block ≠ p ∧ v.ownBlock ≠ some ad.block) (hnil : x.A = none → x.c = 0) (hle : x.n ≤ x.c) :
    Calls Try.prog 31 #[.pointer (some ⟨p, 0, none⟩), .agg x.cells.toArray] w fun e w' => e = .returned (.tuple #[]) ∧ Ref w' base p v cap fuse lost (xs.set i x) ∧ Touch (fun j => v.ownBlock = some j) w w' := by
  obtain ⟨A, cp, rfl, hcp, _, _⟩ := h.form
  obtain ⟨g, rfl, hgp, _, _, _, _, _, _, _⟩ := h.at_ hi
  have hn1 := h.few
  obtain ⟨o, ho⟩ : ∃ o, o = w.alloc (.cells x.cells.toArray 60) := ⟨_, rfl⟩
  have hb1 : Below w.heap.size w o := by rw [ho]; exact (Below.refl _ _).alloc (Nat.le_refl _) _
  have HR1 := Lib.hid (h.belowS hb1)
  have H27 := Lib.hid (at_any HR1.out x.name)
  rw [hat] at H27
  obtain ⟨d0, d1, d2, d3, hfz⟩ := HR1.out.facts
  have hpl := HR1.out.lt
  have hq0 : o.heap[w.heap.size]? = some (.cells x.cells.toArray 60 (0, 0)) := by rw [ho]; exact heap_alloc_new w _
  have hq1 : w.heap.size < o.heap.size := (Array.getElem?_eq_some_iff.1 hq0).1
  have HD1 := Lib.hid (show ∀ w', Below o.heap.size o w' → w'.cell? ⟨p, 0 + 1, none⟩ = some (.slice (some ⟨g, 0, none⟩) xs.length cp) from fun w' hb => (hb.cell (p := ⟨p, 0 + 1, none⟩) hpl).trans d1)
  have HQ := Lib.hid (show ∀ w', Below o.heap.size o w' → w'.rangeAt w.heap.size 0 x.cells from fun w' hb => range60 ((hb.block _ hq1).trans hq0))
  have hb2 : Below o.heap.size o o.drew := below_draws (Below.refl _ _) 1
  have HSet := Lib.hid (ref_set (HR1.out.belowS hb2) hi x ((hB.belowS hb1).belowS hb2) (fun ad e h0 => ⟨(hA ad e h0).1, fun e2 => (hA ad e h0).2 (by rw [e2]; rfl)⟩) hnil hle)
  have HO := Lib.hid ho
  have HB1 := Lib.hid hb1
  have HE := Lib.hid (show w.alloc (.cells #[.string x.name, .slice x.A x.n x.c, .int .i64 (x.f.safe : Nat), .bool x.f.ever] 60) = o from HO.out.symm)
  have hxn : o.cell? ⟨w.heap.size, 0, none⟩ = some (.string x.name) := by rw [cell_of_row _ _ 0 _ 60 (0, 0) hq0]; rfl
  show Calls Try.prog 31 #[.pointer (some ⟨p, 0, none⟩), .agg #[.string x.name, .slice x.A x.n x.c, .int .i64 (x.f.safe : Nat), .bool x.f.ever]] w _
  clear h hat hB hA hnil hle hb1 hb2 d0 d1 d2 d3 hfz hq0 ho
  go_enter Try.func31, Try.ntmps31
  go_wp2_with fail
  rw [HE.out]
  refine H27.out.mono ?_
  rintro e w1 ⟨rfl, rfl⟩
  clear hxn
  go_wp2_with fail
  refine wp_region_noPanic ?_
  refine held.wp_region_G (S := fun w' => Below o.heap.size o w') 7 (by kernel_rfl) (below_draws (Below.refl _ _) 1) (fun hHeld => ?_)
  refine held.wpAnyG_take (i := 0) (v := ?_) rfl (by kernel_rfl) (by kernel_rfl) (by kernel_rfl) (by kernel_rfl) (fun _ _ _ h => h) (Or.inl ⟨by kernel_rfl, ?_⟩) hHeld ?_
  rotate_left
  · (intro w' hw'; go_simp; first | done | with_reducible rfl)
  refine held.wpAnyG_take (i := 1) (v := ?_) rfl (by kernel_rfl) (by kernel_rfl) (by kernel_rfl) (by kernel_rfl) (fun _ _ _ h => h) (Or.inl ⟨by kernel_rfl, ?_⟩) hHeld ?_
  rotate_left
  · (intro w' hw'; go_simp; first | done | with_reducible rfl)
  refine held.wpAnyG_take (i := 2) (v := ?_) rfl (by kernel_rfl) (by kernel_rfl) (by kernel_rfl) (by kernel_rfl) (fun _ _ _ h => h) (Or.inl ⟨by kernel_rfl, ?_⟩) hHeld ?_
  rotate_left
  · (intro w' hw'; go_simp; first | done | with_reducible rfl)
  refine held.wpAnyG_take (i := 3) (v := ?_) rfl (by kernel_rfl) (by kernel_rfl) (by kernel_rfl) (by kernel_rfl) (fun _ _ _ h => h) (Or.inl ⟨by kernel_rfl, ?_⟩) hHeld ?_
  rotate_left
  · (intro w' hw'; have hc1 := HD1.out w' hw'; go_simp; first | done | with_reducible rfl)
  refine held.wpAnyG_take (i := 4) (v := ?_) rfl (by kernel_rfl) (by kernel_rfl) (by kernel_rfl) (by kernel_rfl) (fun _ _ _ h => h) (Or.inl ⟨by kernel_rfl, ?_⟩) hHeld ?_
  rotate_left
  · (intro w' hw'; go_simp; first | done | with_reducible rfl)
  refine held.wpAnyG_take (i := 5) (v := .agg x.cells.toArray) rfl (by kernel_rfl) (by kernel_rfl) (by kernel_rfl) (by kernel_rfl) (fun _ _ _ h => h) (yieldsIf_load_mid (by kernel_rfl) 60 (.tmp 3) rfl w.heap.size 0 rfl x.cells _ (fun _ hw => HQ.out _ hw) Try.underlying60 rfl (size60 x)) hHeld ?_
  refine held.wpAnyG_take (i := 6) (v := ?_) rfl (by kernel_rfl) (by kernel_rfl) (by kernel_rfl) (by kernel_rfl) (fun _ _ _ h => h) (Or.inl ⟨by kernel_rfl, ?_⟩) hHeld ?_
  rotate_left
  · (intro w' hw'; go_simp; first | done | with_reducible rfl)
  generalize hAA : (Act.put _ _ _ : Act) = aa
  have e18 : aa.eval (.tmp 18) = .pointer (some ⟨g, i * 4, none⟩) := by rw [← hAA]; kernel_rfl
  have e17 : aa.eval (.tmp 17) = .agg x.cells.toArray := by rw [← hAA]; kernel_rfl
  refine held.wpAnyG_end (by kernel_rfl) rfl rfl (fun K hK => ?_)
  refine wp_store_mid 60 (.tmp 18) (.tmp 17) rfl g (i * 4) x.cells.toArray e18 e17 ((HR1.out.belowS (below_draws (Below.refl o.heap.size o) 1)).there hi x) (size60 x) (one60 x) ?_
  refine hK.out _ _ ?_
  clear hK K hHeld e18 e17
  subst hAA
  refine held.wpAnyG_done (by kernel_rfl) ?_ _
  refine NoPanic.normal ?_
  go_simp
  go_wp2
  refine bodyPost_ret (results_none rfl _ _ _) rfl ?_
  exact ⟨rfl, HSet.out.1, ((touch_below HB1.out).drewN 1).trans (HSet.out.2.mono fun i _ e => .inl (by rw [e]; rfl))⟩
end Go.Proofs.Ytedhbcaakdfcbaa.disk
