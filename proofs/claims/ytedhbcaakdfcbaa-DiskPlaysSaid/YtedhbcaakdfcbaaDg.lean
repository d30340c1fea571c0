/- The region that lays the first file. -/
import Derived.Test.YtedhbcaakdfcbaaDe
namespace Go.Proofs.Ytedhbcaakdfcbaa.disk
open Go.ChangeShapes Go.WideShapes Go.ChangeAt Go.RowKit Go.Maps Go.WideMaps
set_option linter.unusedVariables false
set_option linter.unusedSimpArgs false

set_option maxRecDepth 50000 in
set_option maxHeartbeats 4000000 in
theorem reg7_nil {u : World} {base p b0 : Nat} {cap fuse : Int} {lost : Bool} {xs : List RF} (h : Ref u base p (.slice none 0 0) cap fuse lost xs) (hn : 0 = xs.length) (x : RF) (hq : u.heap[b0]? = some (.cells x.cells.toArray 60 (0, 0))) (hB : Bytes u x.A x.n x.f.l) (hA : ∀ ad, x.A = some ad → 0 < x.n → ad.block ≠ p) (hnil : x.A = none → x.c = 0) (hle : x.n ≤ x.c) (hbase : base ≤ u.heap.size) (hfew : xs.length < 1000) (Q : Exit → Act → World → Prop) (c : Code) (hc : (Try.f31.body.bind (pick 7)) = some c) (u2 u4 u6 u7 u8 u9 u10 u11 u12 u13 u14 u15 u16 u17 u18 u19 u20 u21 u22 u23 u24 u25 u26 u27 u28 u29 u30 u31 u32 u33 u34 u35 u36 u37 u38 u39 u40 : Value)
    (hQ : ∀ (t : Array Value) (v : Value) (w : World), Ref w base p v cap fuse lost (xs.take 0 ++ [x] ++ xs.drop 0) → Touch (fun j => j = p) u w → (∀ g, v.ownBlock = some g → u.heap.size ≤ g) → Q .normal { tmps := t, defers := [] } w) :
    Code.wp Try.prog c Q { tmps := #[.pointer (some ⟨p, 0, none⟩), .agg x.cells.toArray, u2, .pointer (some ⟨b0, 0, none⟩), u4, .int .i64 (0 : Nat), u6, u7, u8, u9, u10, u11, u12, u13, u14, u15, u16, u17, u18, u19, u20, u21, u22, u23, u24, u25, u26, u27, u28, u29, u30, u31, u32, u33, u34, u35, u36, u37, u38, u39, u40, undef, undef, undef, undef, undef, undef, undef, undef, undef, undef, undef, undef, undef, undef, undef, undef, undef, undef, undef, undef, undef], defers := [] } u := by
  obtain ⟨A, cq, hform, hcp, hAc, _⟩ := h.form
  injection hform with e1 e2 e3
  subst e1 e3
  clear e2
  obtain ⟨d0, d1, d2, d3, hfz⟩ := h.facts
  have hpl := h.lt
  rw [← hn] at hcp
  have HN := Lib.hid hn
  have HRu := Lib.hid h
  have HPu := Lib.hid (show ∀ w', Below u.heap.size u w' → w'.cell? ⟨p, 0 + 1, none⟩ = some (.slice none 0 0) from fun w' hb => (hb.cell (p := ⟨p, 0 + 1, none⟩) hpl).trans d1)
  have HFz := Lib.hid (show ∀ w', Below u.heap.size u w' → w'.frozen? ⟨p, 0 + 1, none⟩ = false from fun w' hb => by
    have := (hb.block p hpl).trans HRu.out.head
    simp [World.frozen?, this])
  have hq1 : b0 < u.heap.size := (Array.getElem?_eq_some_iff.1 hq).1
  have HQu := Lib.hid (show ∀ w', Below u.heap.size u w' → w'.rangeAt b0 0 x.cells from fun w' hb => range60 ((hb.block _ hq1).trans hq))
  have HBx := Lib.hid hB
  have HAx := Lib.hid hA
  have HNx := Lib.hid (And.intro hnil hle)
  have hxs : xs = [] := List.eq_nil_of_length_eq_zero HN.out.symm
  have HS1 := Lib.hid (show ∀ w', Below u.heap.size u w' → Src w' none 0 0 (xs.take 0) from fun w' hb => ⟨by simp, fun _ => ⟨rfl, rfl⟩, fun ad e => by cases e⟩)
  have HS2 := Lib.hid (show ∀ w', Below u.heap.size u w' → Src w' none 0 0 (xs.drop 0) from fun w' hb => ⟨by rw [hxs]; rfl, fun _ => ⟨rfl, rfl⟩, fun ad e => by cases e⟩)
  have HXs := Lib.hid hxs
  clear h hn hxs hq hB hA hnil hle d0 d1 d2 d3 hfz
  simp only [Try.f31, Option.bind_some, pick, if_true, if_false, reduceCtorEq, Option.or_some, Option.or_none, Option.none_or, Option.some_or, Nat.reduceEqDiff, ite_true, ite_false, reduceIte] at hc
  obtain rfl := Option.some.inj hc
  clear hc
  refine wp_region_noPanic ?_
  refine held.wp_region_G (S := fun w' => Below u.heap.size u w') 21 (by kernel_rfl) (below_draws (Below.refl _ _) 1) (fun hHeld => ?_)
  refine held.wpAnyG_take (i := 0) (v := ?_) rfl (by kernel_rfl) (by kernel_rfl) (by kernel_rfl) (by kernel_rfl) (fun _ _ _ h => h) (Or.inl ⟨by kernel_rfl, ?_⟩) hHeld ?_
  rotate_left
  · (intro w' hw'; go_simp; first | done | with_reducible rfl)
  refine held.wpAnyG_take (i := 2) (v := ?_) rfl (by kernel_rfl) (by kernel_rfl) (by kernel_rfl) (by kernel_rfl) (fun _ _ _ h => h) (Or.inl ⟨by kernel_rfl, ?_⟩) hHeld ?_
  rotate_left
  · (intro w' hw'; go_simp; first | done | with_reducible rfl)
  refine held.wpAnyG_take (i := 3) (v := ?_) rfl (by kernel_rfl) (by kernel_rfl) (by kernel_rfl) (by kernel_rfl) (fun _ _ _ h => h) (Or.inl ⟨by kernel_rfl, ?_⟩) hHeld ?_
  rotate_left
  · (intro w' hw'; go_simp; first | done | with_reducible rfl)
  refine held.wpAnyG_take (i := 4) (v := ?_) rfl (by kernel_rfl) (by kernel_rfl) (by kernel_rfl) (by kernel_rfl) (fun _ _ _ h => h) (Or.inl ⟨by kernel_rfl, ?_⟩) hHeld ?_
  rotate_left
  · (intro w' hw'; go_simp; first | done | with_reducible rfl)
  refine held.wpAnyG_take (i := 5) (v := ?_) rfl (by kernel_rfl) (by kernel_rfl) (by kernel_rfl) (by kernel_rfl) (fun _ _ _ h => h) (Or.inl ⟨by kernel_rfl, ?_⟩) hHeld ?_
  rotate_left
  · (intro w' hw'; have hc1 := HPu.out w' hw'; go_simp; first | done | with_reducible rfl)
  refine held.wpAnyG_take (i := 6) (v := ?_) rfl (by kernel_rfl) (by kernel_rfl) (by kernel_rfl) (by kernel_rfl) (fun _ _ _ h => h) (Or.inl ⟨by kernel_rfl, ?_⟩) hHeld ?_
  rotate_left
  · (intro w' hw'; go_simp; first | done | with_reducible rfl)
  refine held.wpAnyG_take (i := 7) (v := ?_) rfl (by kernel_rfl) (by kernel_rfl) (by kernel_rfl) (by kernel_rfl) (fun _ _ _ h => h) (Or.inl ⟨by kernel_rfl, ?_⟩) hHeld ?_
  rotate_left
  · (intro w' hw'; go_simp; first | done | with_reducible rfl)
  refine held.wpAnyG_take (i := 9) (v := .agg x.cells.toArray) rfl (by kernel_rfl) (by kernel_rfl) (by kernel_rfl) (by kernel_rfl) (fun _ _ _ h => h) (yieldsIf_load_mid (by kernel_rfl) 60 (.tmp 3) rfl b0 0 rfl x.cells _ (fun _ hw => HQu.out _ hw) Try.underlying60 rfl (size60 x)) hHeld ?_
  refine held.wpAnyG_take (i := 12) (v := ?_) rfl (by kernel_rfl) (by kernel_rfl) (by kernel_rfl) (by kernel_rfl) (fun _ _ _ h => h) (Or.inl ⟨by kernel_rfl, ?_⟩) hHeld ?_
  rotate_left
  · (intro w' hw'; go_simp; first | done | with_reducible rfl)
  refine held.wpAnyG_take (i := 13) (v := ?_) rfl (by kernel_rfl) (by kernel_rfl) (by kernel_rfl) (by kernel_rfl) (fun _ _ _ h => h) (Or.inl ⟨by kernel_rfl, ?_⟩) hHeld ?_
  rotate_left
  · (intro w' hw'; go_simp; first | done | with_reducible rfl)
  refine held.wpAnyG_take (i := 14) (v := ?_) rfl (by kernel_rfl) (by kernel_rfl) (by kernel_rfl) (by kernel_rfl) (fun _ _ _ h => h) (Or.inl ⟨by kernel_rfl, ?_⟩) hHeld ?_
  rotate_left
  · (intro w' hw'; go_simp; first | done | with_reducible rfl)
  refine held.wpAnyG_take (i := 15) (v := ?_) rfl (by kernel_rfl) (by kernel_rfl) (by kernel_rfl) (by kernel_rfl) (fun _ _ _ h => h) (Or.inl ⟨by kernel_rfl, ?_⟩) hHeld ?_
  rotate_left
  · (intro w' hw'; have hc1 := HPu.out w' hw'; go_simp; first | done | with_reducible rfl)
  refine held.wpAnyG_take (i := 16) (v := ?_) rfl (by kernel_rfl) (by kernel_rfl) (by kernel_rfl) (by kernel_rfl) (fun _ _ _ h => h) (Or.inl ⟨by kernel_rfl, ?_⟩) hHeld ?_
  rotate_left
  · (intro w' hw'; go_simp; first | done | with_reducible rfl)
  refine held.wpAnyG_take (i := 17) (v := ?_) rfl (by kernel_rfl) (by kernel_rfl) (by kernel_rfl) (by kernel_rfl) (fun _ _ _ h => h) (Or.inl ⟨by kernel_rfl, ?_⟩) hHeld ?_
  rotate_left
  · (intro w' hw'; go_simp; first | done | with_reducible rfl)
  go_simp
  refine held.wpAnyG_ready (rs := [1, 10]) (by kernel_rfl) (by simp) ?_
  refine held.AllReadyG.cons rfl (fun K hK => ?_) (held.AllReadyG.cons rfl (fun K hK => ?_) held.AllReadyG.nil)
  · go_simp
    refine hK.out _ _ (fun _ => (fresh_start (w := u) (base := base) hbase).below) (fun hh => ?_)
    have HF0 := Lib.hid (show Fresh u base (.slice (some ⟨u.heap.size, 0, none⟩) 0 0) [] (u.alloc (.cells #[] 60)).drew from fresh_start hbase)
    have hlt1 : u.heap.size < (u.alloc (.cells #[] 60)).drew.heap.size := by show u.heap.size < (u.alloc _).heap.size; simp
    generalize (u.alloc (.cells #[] 60)).drew = w1 at *
    have hH1 := hh (by decide)
    clear hK K hh
    refine held.wpAnyG_ready (rs := [8, 10]) (by kernel_rfl) (by simp) ?_
    refine held.AllReadyG.cons rfl (fun K hK => ?_) (held.AllReadyG.cons rfl (fun K hK => ?_) held.AllReadyG.nil)
    · refine step_append_files rfl (.tmp 42) (.tmp 48) rfl base (.slice (some ⟨u.heap.size, 0, none⟩) 0 0) [] (by kernel_rfl) HF0.out.rows (Nat.le_trans hbase HF0.out.below.size) none 0 0 (xs.take 0) (by kernel_rfl) (HS1.out _ HF0.out.below) (by simp <;> omega) ?_
      intro v2 w2 ho2 hg2 ha2
      have HF2 := Lib.hid (HF0.out.more ho2 hg2 ha2)
      clear ho2 hg2 ha2
      refine hK.out _ _ (fun _ => HF2.out.below) (fun hh => ?_)
      have hH2 := hh (by decide)
      clear hK K hh
      go_simp
      refine held.wpAnyG_ready (rs := [10]) (by kernel_rfl) (by simp) ?_
      refine held.AllReadyG.cons rfl (fun K hK => ?_) held.AllReadyG.nil
      refine step_build_one rfl (.tmp 50) rfl x (by kernel_rfl) ?_
      have hb3 : Below w2.heap.size w2 (w2.alloc (.cells x.cells.toArray 60)) := (Below.refl _ _).alloc (Nat.le_refl _) _
      have HF3 := Lib.hid (HF2.out.later hb3)
      have HSx := Lib.hid (src_one x (heap_alloc_new w2 (.cells x.cells.toArray 60)))
      clear hb3
      obtain ⟨w3, hw3⟩ : ∃ w3, w3 = w2.alloc (.cells x.cells.toArray 60) := ⟨_, rfl⟩
      rw [← hw3] at HF3 HSx ⊢
      clear hw3
      refine hK.out _ _ (fun _ => HF3.out.below) (fun hh => ?_)
      have hH3 := hh (by decide)
      clear hK K hh
      refine held.wpAnyG_ready (rs := [11]) (by kernel_rfl) (by simp) ?_
      refine held.AllReadyG.cons rfl (fun K hK => ?_) held.AllReadyG.nil
      refine step_append_files rfl (.tmp 49) (.tmp 51) rfl base v2 ([] ++ (xs.take 0)) (by kernel_rfl) HF3.out.rows (Nat.le_trans hbase HF3.out.below.size) (some ⟨w2.heap.size, 0, none⟩) 1 1 [x] (by kernel_rfl) HSx.out (by simp <;> omega) ?_
      intro v5a w5a ho5a hg5a ha5a
      have HF5a := Lib.hid (HF3.out.more ho5a hg5a ha5a)
      clear ho5a hg5a ha5a
      refine hK.out _ _ (fun _ => HF5a.out.below) (fun hh => ?_)
      have hH4 := hh (by decide)
      clear hK K hh
      refine held.wpAnyG_ready (rs := [18]) (by kernel_rfl) (by simp) ?_
      refine held.AllReadyG.cons rfl (fun K hK => ?_) held.AllReadyG.nil
      refine step_append_files rfl (.tmp 52) (.tmp 58) rfl base v5a (([] ++ (xs.take 0)) ++ [x]) (by kernel_rfl) HF5a.out.rows (Nat.le_trans hbase HF5a.out.below.size) none 0 0 (xs.drop 0) (by kernel_rfl) (HS2.out _ HF5a.out.below) (by simp <;> omega) ?_
      intro v5b w5b ho5b hg5b ha5b
      have HF5b := Lib.hid (HF5a.out.more ho5b hg5b ha5b)
      clear ho5b hg5b ha5b
      obtain ⟨A5b, n5b, cp5b, rfl⟩ := HF5b.out.form
      refine hK.out _ _ (fun _ => HF5b.out.below) (fun hh => ?_)
      have hH5 := hh (by decide)
      clear hK K hh
      go_simp
      refine held.wpAnyG_ready (rs := [19]) (by kernel_rfl) (by simp) ?_
      refine held.AllReadyG.cons rfl (fun K hK => ?_) held.AllReadyG.nil
      go_simp
      refine hK.out _ _ (fun _ => hH5) (fun hh => ?_)
      have hH6 := hh (by decide)
      clear hK K hh hH5
      refine held.wpAnyG_take (i := 20) (v := ?_) rfl (by kernel_rfl) (by kernel_rfl) (by kernel_rfl) (by kernel_rfl) (fun _ _ _ h => h) (Or.inl ⟨by kernel_rfl, ?_⟩) hH6 ?_
      rotate_left
      · (intro w' hw'; go_simp; first | done | with_reducible rfl)
      refine held.wpAnyG_ready (rs := [21]) (by kernel_rfl) (by simp) ?_
      refine held.AllReadyG.cons rfl (fun K hK => ?_) held.AllReadyG.nil
      have hc3 := HPu.out _ HF5b.out.below
      have hf3 := HFz.out _ HF5b.out.below
      go_simp
      refine hK.out _ _ (fun hh => absurd rfl hh) (fun _ => ?_)
      clear hK K hH6
      refine held.wpAnyG_done (by kernel_rfl) ?_ _
      refine NoPanic.normal ?_
      have hF := HF5b.out
      have hz : ((([] ++ (xs.take 0)) ++ [x]) ++ (xs.drop 0)) = xs.take 0 ++ [x] ++ xs.drop 0 := by simp
      rw [hz] at hF
      obtain ⟨r1, r2⟩ := ref_files HRu.out hF (fun y hy => by
        rcases List.mem_append.1 hy with hy | hy
        · rcases List.mem_append.1 hy with hy | hy
          · exact HRu.out.lies hF (List.mem_of_mem_take hy)
          · rw [List.mem_singleton] at hy; subst hy; exact lies_new hF HBx.out HAx.out HNx.out
        · exact HRu.out.lies hF (List.mem_of_mem_drop hy)) (by simp <;> omega)
      exact hQ _ _ _ r1 r2 hF.new
    · refine step_build_one rfl (.tmp 50) rfl x (by kernel_rfl) ?_
      have hb3 : Below w1.heap.size w1 (w1.alloc (.cells x.cells.toArray 60)) := (Below.refl _ _).alloc (Nat.le_refl _) _
      have HF3 := Lib.hid (HF0.out.later hb3)
      have HSx := Lib.hid (src_one x (heap_alloc_new w1 (.cells x.cells.toArray 60)))
      clear hb3
      obtain ⟨w3, hw3⟩ : ∃ w3, w3 = w1.alloc (.cells x.cells.toArray 60) := ⟨_, rfl⟩
      rw [← hw3] at HF3 HSx ⊢
      clear hw3
      refine hK.out _ _ (fun _ => HF3.out.below) (fun hh => ?_)
      have hH7 := hh (by decide)
      clear hK K hh
      go_simp
      refine held.wpAnyG_ready (rs := [8]) (by kernel_rfl) (by simp) ?_
      refine held.AllReadyG.cons rfl (fun K hK => ?_) held.AllReadyG.nil
      refine step_append_files rfl (.tmp 42) (.tmp 48) rfl base (.slice (some ⟨u.heap.size, 0, none⟩) 0 0) [] (by kernel_rfl) HF3.out.rows (Nat.le_trans hbase HF3.out.below.size) none 0 0 (xs.take 0) (by kernel_rfl) (HS1.out _ HF3.out.below) (by simp <;> omega) ?_
      intro v2 w2 ho2 hg2 ha2
      have HF2 := Lib.hid (HF3.out.more ho2 hg2 ha2)
      have HSy := Lib.hid (HSx.out.grown hg2 (fun ad e => by cases e; intro e2; have := Option.some.inj e2; simp at this; omega))
      clear ho2 hg2 ha2
      refine hK.out _ _ (fun _ => HF2.out.below) (fun hh => ?_)
      have hH8 := hh (by decide)
      clear hK K hh
      refine held.wpAnyG_ready (rs := [11]) (by kernel_rfl) (by simp) ?_
      refine held.AllReadyG.cons rfl (fun K hK => ?_) held.AllReadyG.nil
      refine step_append_files rfl (.tmp 49) (.tmp 51) rfl base v2 ([] ++ (xs.take 0)) (by kernel_rfl) HF2.out.rows (Nat.le_trans hbase HF2.out.below.size) (some ⟨w1.heap.size, 0, none⟩) 1 1 [x] (by kernel_rfl) HSy.out (by simp <;> omega) ?_
      intro v5a w5a ho5a hg5a ha5a
      have HF5a := Lib.hid (HF2.out.more ho5a hg5a ha5a)
      clear ho5a hg5a ha5a
      refine hK.out _ _ (fun _ => HF5a.out.below) (fun hh => ?_)
      have hH9 := hh (by decide)
      clear hK K hh
      refine held.wpAnyG_ready (rs := [18]) (by kernel_rfl) (by simp) ?_
      refine held.AllReadyG.cons rfl (fun K hK => ?_) held.AllReadyG.nil
      refine step_append_files rfl (.tmp 52) (.tmp 58) rfl base v5a (([] ++ (xs.take 0)) ++ [x]) (by kernel_rfl) HF5a.out.rows (Nat.le_trans hbase HF5a.out.below.size) none 0 0 (xs.drop 0) (by kernel_rfl) (HS2.out _ HF5a.out.below) (by simp <;> omega) ?_
      intro v5b w5b ho5b hg5b ha5b
      have HF5b := Lib.hid (HF5a.out.more ho5b hg5b ha5b)
      clear ho5b hg5b ha5b
      obtain ⟨A5b, n5b, cp5b, rfl⟩ := HF5b.out.form
      refine hK.out _ _ (fun _ => HF5b.out.below) (fun hh => ?_)
      have hH10 := hh (by decide)
      clear hK K hh
      go_simp
      refine held.wpAnyG_ready (rs := [19]) (by kernel_rfl) (by simp) ?_
      refine held.AllReadyG.cons rfl (fun K hK => ?_) held.AllReadyG.nil
      go_simp
      refine hK.out _ _ (fun _ => hH10) (fun hh => ?_)
      have hH11 := hh (by decide)
      clear hK K hh hH10
      refine held.wpAnyG_take (i := 20) (v := ?_) rfl (by kernel_rfl) (by kernel_rfl) (by kernel_rfl) (by kernel_rfl) (fun _ _ _ h => h) (Or.inl ⟨by kernel_rfl, ?_⟩) hH11 ?_
      rotate_left
      · (intro w' hw'; go_simp; first | done | with_reducible rfl)
      refine held.wpAnyG_ready (rs := [21]) (by kernel_rfl) (by simp) ?_
      refine held.AllReadyG.cons rfl (fun K hK => ?_) held.AllReadyG.nil
      have hc3 := HPu.out _ HF5b.out.below
      have hf3 := HFz.out _ HF5b.out.below
      go_simp
      refine hK.out _ _ (fun hh => absurd rfl hh) (fun _ => ?_)
      clear hK K hH11
      refine held.wpAnyG_done (by kernel_rfl) ?_ _
      refine NoPanic.normal ?_
      have hF := HF5b.out
      have hz : ((([] ++ (xs.take 0)) ++ [x]) ++ (xs.drop 0)) = xs.take 0 ++ [x] ++ xs.drop 0 := by simp
      rw [hz] at hF
      obtain ⟨r1, r2⟩ := ref_files HRu.out hF (fun y hy => by
        rcases List.mem_append.1 hy with hy | hy
        · rcases List.mem_append.1 hy with hy | hy
          · exact HRu.out.lies hF (List.mem_of_mem_take hy)
          · rw [List.mem_singleton] at hy; subst hy; exact lies_new hF HBx.out HAx.out HNx.out
        · exact HRu.out.lies hF (List.mem_of_mem_drop hy)) (by simp <;> omega)
      exact hQ _ _ _ r1 r2 hF.new
  · refine step_build_one rfl (.tmp 50) rfl x (by kernel_rfl) ?_
    have hb1 : Below u.heap.size u (u.drew.alloc (.cells x.cells.toArray 60)) := hHeld.alloc (Nat.le_refl _) _
    have HSx := Lib.hid (show Src (u.drew.alloc (.cells x.cells.toArray 60)) (some ⟨u.heap.size, 0, none⟩) 1 1 [x] from src_one x (heap_alloc_new u.drew (.cells x.cells.toArray 60)))
    have hlt1 : u.heap.size < (u.drew.alloc (.cells x.cells.toArray 60)).heap.size := by show u.heap.size < (u.alloc _).heap.size; simp
    obtain ⟨w1, hw1⟩ : ∃ w1, w1 = u.drew.alloc (.cells x.cells.toArray 60) := ⟨_, rfl⟩
    rw [← hw1] at hb1 HSx hlt1 ⊢
    clear hw1
    refine hK.out _ _ (fun _ => hb1) (fun hh => ?_)
    have hH12 := hh (by decide)
    clear hK K hh
    go_simp
    refine held.wpAnyG_ready (rs := [1]) (by kernel_rfl) (by simp) ?_
    refine held.AllReadyG.cons rfl (fun K hK => ?_) held.AllReadyG.nil
    go_simp
    have HF3 := Lib.hid (fresh_here (base := base) hbase hb1)
    have hb2 : Below w1.heap.size w1 (w1.alloc (.cells #[] 60)) := (Below.refl _ _).alloc (Nat.le_refl _) _
    have HSy := Lib.hid (HSx.out.below hb2)
    clear hb2
    obtain ⟨w3, hw3⟩ : ∃ w3, w3 = w1.alloc (.cells #[] 60) := ⟨_, rfl⟩
    rw [← hw3] at HF3 HSy ⊢
    clear hw3
    refine hK.out _ _ (fun _ => HF3.out.below) (fun hh => ?_)
    have hH13 := hh (by decide)
    clear hK K hh
    go_simp
    refine held.wpAnyG_ready (rs := [8]) (by kernel_rfl) (by simp) ?_
    refine held.AllReadyG.cons rfl (fun K hK => ?_) held.AllReadyG.nil
    refine step_append_files rfl (.tmp 42) (.tmp 48) rfl base (.slice (some ⟨w1.heap.size, 0, none⟩) 0 0) [] (by kernel_rfl) HF3.out.rows (Nat.le_trans hbase HF3.out.below.size) none 0 0 (xs.take 0) (by kernel_rfl) (HS1.out _ HF3.out.below) (by simp <;> omega) ?_
    intro v2 w2 ho2 hg2 ha2
    have HF2 := Lib.hid (HF3.out.more ho2 hg2 ha2)
    have HSz := Lib.hid (HSy.out.grown hg2 (fun ad e => by cases e; intro e2; have := Option.some.inj e2; simp at this; omega))
    clear ho2 hg2 ha2
    refine hK.out _ _ (fun _ => HF2.out.below) (fun hh => ?_)
    have hH14 := hh (by decide)
    clear hK K hh
    refine held.wpAnyG_ready (rs := [11]) (by kernel_rfl) (by simp) ?_
    refine held.AllReadyG.cons rfl (fun K hK => ?_) held.AllReadyG.nil
    refine step_append_files rfl (.tmp 49) (.tmp 51) rfl base v2 ([] ++ (xs.take 0)) (by kernel_rfl) HF2.out.rows (Nat.le_trans hbase HF2.out.below.size) (some ⟨u.heap.size, 0, none⟩) 1 1 [x] (by kernel_rfl) HSz.out (by simp <;> omega) ?_
    intro v5a w5a ho5a hg5a ha5a
    have HF5a := Lib.hid (HF2.out.more ho5a hg5a ha5a)
    clear ho5a hg5a ha5a
    refine hK.out _ _ (fun _ => HF5a.out.below) (fun hh => ?_)
    have hH15 := hh (by decide)
    clear hK K hh
    refine held.wpAnyG_ready (rs := [18]) (by kernel_rfl) (by simp) ?_
    refine held.AllReadyG.cons rfl (fun K hK => ?_) held.AllReadyG.nil
    refine step_append_files rfl (.tmp 52) (.tmp 58) rfl base v5a (([] ++ (xs.take 0)) ++ [x]) (by kernel_rfl) HF5a.out.rows (Nat.le_trans hbase HF5a.out.below.size) none 0 0 (xs.drop 0) (by kernel_rfl) (HS2.out _ HF5a.out.below) (by simp <;> omega) ?_
    intro v5b w5b ho5b hg5b ha5b
    have HF5b := Lib.hid (HF5a.out.more ho5b hg5b ha5b)
    clear ho5b hg5b ha5b
    obtain ⟨A5b, n5b, cp5b, rfl⟩ := HF5b.out.form
    refine hK.out _ _ (fun _ => HF5b.out.below) (fun hh => ?_)
    have hH16 := hh (by decide)
    clear hK K hh
    go_simp
    refine held.wpAnyG_ready (rs := [19]) (by kernel_rfl) (by simp) ?_
    refine held.AllReadyG.cons rfl (fun K hK => ?_) held.AllReadyG.nil
    go_simp
    refine hK.out _ _ (fun _ => hH16) (fun hh => ?_)
    have hH17 := hh (by decide)
    clear hK K hh hH16
    refine held.wpAnyG_take (i := 20) (v := ?_) rfl (by kernel_rfl) (by kernel_rfl) (by kernel_rfl) (by kernel_rfl) (fun _ _ _ h => h) (Or.inl ⟨by kernel_rfl, ?_⟩) hH17 ?_
    rotate_left
    · (intro w' hw'; go_simp; first | done | with_reducible rfl)
    refine held.wpAnyG_ready (rs := [21]) (by kernel_rfl) (by simp) ?_
    refine held.AllReadyG.cons rfl (fun K hK => ?_) held.AllReadyG.nil
    have hc3 := HPu.out _ HF5b.out.below
    have hf3 := HFz.out _ HF5b.out.below
    go_simp
    refine hK.out _ _ (fun hh => absurd rfl hh) (fun _ => ?_)
    clear hK K hH17
    refine held.wpAnyG_done (by kernel_rfl) ?_ _
    refine NoPanic.normal ?_
    have hF := HF5b.out
    have hz : ((([] ++ (xs.take 0)) ++ [x]) ++ (xs.drop 0)) = xs.take 0 ++ [x] ++ xs.drop 0 := by simp
    rw [hz] at hF
    obtain ⟨r1, r2⟩ := ref_files HRu.out hF (fun y hy => by
      rcases List.mem_append.1 hy with hy | hy
      · rcases List.mem_append.1 hy with hy | hy
        · exact HRu.out.lies hF (List.mem_of_mem_take hy)
        · rw [List.mem_singleton] at hy; subst hy; exact lies_new hF HBx.out HAx.out HNx.out
      · exact HRu.out.lies hF (List.mem_of_mem_drop hy)) (by simp <;> omega)
    exact hQ _ _ _ r1 r2 hF.new
end Go.Proofs.Ytedhbcaakdfcbaa.disk
