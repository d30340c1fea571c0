/- A file laid between others (the document's put of a new name). -/
import Derived.Test.YtedhbcaakdfcbaaDf
import Derived.Test.YtedhbcaakdfcbaaDg
import Derived.Sort.Walk0
namespace Go.Proofs.Ytedhbcaakdfcbaa.disk
open Go.Sort
open Go.ChangeShapes Go.WideShapes Go.ChangeAt Go.RowKit Go.Maps Go.WideMaps
set_option linter.unusedVariables false
set_option linter.unusedSimpArgs false

set_option maxRecDepth 50000 in
set_option maxHeartbeats 4000000 in
theorem put31_some {w : World} {base p g n cp : Nat} {cap fuse : Int} {lost : Bool} {xs : List RF} (h : Ref w base p (.slice (some ⟨g, 0, none⟩) n cp) cap fuse lost xs) (hn : n = xs.length) (x : RF) (hat : atI xs x.name.data.toList = -1) (hB : Bytes w x.A x.n x.f.l) (hA : ∀ ad, x.A = some ad → 0 < x.n → ad.block ≠ p) (hnil : x.A = none → x.c = 0) (hle : x.n ≤ x.c) (hbase : base ≤ w.heap.size) (hfew : xs.length < 1000) :
    Calls Try.prog 31 #[.pointer (some ⟨p, 0, none⟩), .agg x.cells.toArray] w fun e w' => e = .returned (.tuple #[]) ∧ ∃ v' k, k ≤ xs.length ∧ (∀ j (hj : j < xs.length), j < k → xs[j].name.data.toList < x.name.data.toList) ∧ (∀ (hk : k < xs.length), ¬ xs[k].name.data.toList < x.name.data.toList) ∧ Ref w' base p v' cap fuse lost (xs.take k ++ [x] ++ xs.drop k) ∧ Touch (fun j => j = p) w w' ∧ ∀ g, v'.ownBlock = some g → w.heap.size ≤ g := by
  have hcp : n ≤ cp := by
    obtain ⟨A', cq, hform, hcp, hAc, _⟩ := h.form
    injection hform with e1 e2 e3
    omega
  obtain ⟨o, ho⟩ : ∃ o, o = w.alloc (.cells x.cells.toArray 60) := ⟨_, rfl⟩
  have hb1 : Below w.heap.size w o := by rw [ho]; exact (Below.refl _ _).alloc (Nat.le_refl _) _
  have HR1 := Lib.hid (h.belowS hb1)
  have H27 := Lib.hid (at_any HR1.out x.name)
  rw [hat] at H27
  obtain ⟨d0, d1, d2, d3, hfz⟩ := HR1.out.facts
  have hpl := HR1.out.lt
  have hq0 : o.heap[w.heap.size]? = some (.cells x.cells.toArray 60 (0, 0)) := by rw [ho]; exact heap_alloc_new w _
  have hq1 : w.heap.size < o.heap.size := (Array.getElem?_eq_some_iff.1 hq0).1
  have HN := Lib.hid hn
  have HD1 := Lib.hid (show ∀ w', Below o.heap.size o w' → w'.cell? ⟨p, 0 + 1, none⟩ = some (.slice (some ⟨g, 0, none⟩) n cp) from fun w' hb => (hb.cell (p := ⟨p, 0 + 1, none⟩) hpl).trans d1)
  have HO := Lib.hid ho
  have HB1 := Lib.hid hb1
  have HQ0 := Lib.hid hq0
  have HBx := Lib.hid (hB.belowS hb1)
  have HAx := Lib.hid hA
  have HNx := Lib.hid (And.intro hnil hle)
  have HE := Lib.hid (show w.alloc (.cells #[.string x.name, .slice x.A x.n x.c, .int .i64 (x.f.safe : Nat), .bool x.f.ever] 60) = o from HO.out.symm)
  have HX0 := Lib.hid (show ∀ q, (o.drewN q).cell? ⟨w.heap.size, 0, none⟩ = some (.string x.name) from fun q => by
    have : (o.drewN q).cell? ⟨w.heap.size, 0, none⟩ = o.cell? ⟨w.heap.size, 0, none⟩ := rfl
    rw [this, cell_of_row _ _ 0 _ 60 (0, 0) hq0]; rfl)
  have hn1 : n < 1000 := by omega
  clear h hn
  show Calls Try.prog 31 #[.pointer (some ⟨p, 0, none⟩), .agg #[.string x.name, .slice x.A x.n x.c, .int .i64 (x.f.safe : Nat), .bool x.f.ever]] w _
  clear hat hB hA hnil hle hb1 d0 d1 d2 d3 hfz hq0 ho
  go_enter Try.func31, Try.ntmps31
  go_wp2_with fail
  rw [HE.out]
  refine H27.out.mono ?_
  rintro e w1 ⟨rfl, rfl⟩
  clear H27
  go_wp2_with fail
  go_loopw [5] (fun i wr => ∃ k q : Nat, k ≤ n ∧ i = .int .i64 k ∧ wr = o.drewN q ∧ Hid (∀ j (hj : j < xs.length), j < k → xs[j].name.data.toList < x.name.data.toList)) (fun i _ => n - (intOf i).toNat)
  case atStart => exact ⟨0, 0, Nat.zero_le _, rfl, rfl, fun j _ hj => absurd hj (by omega)⟩
  case round =>
    obtain ⟨k, q, hk, rfl, rfl, hall⟩ := hrel
    have c0 : o.cell? ⟨w.heap.size, 0, none⟩ = some (.string x.name) := HX0.out 0
    have c1 : o.cell? ⟨p, 0 + 1, none⟩ = some (.slice (some ⟨g, 0, none⟩) n cp) := HD1.out _ (Below.refl _ _)
    by_cases hlt : k < n
    · have hkx : k < xs.length := by rw [← HN.out]; exact hlt
      have hr := HR1.out
      obtain ⟨g', hg', hgp, _, _, e0, e1, e2, e3, hf⟩ := hr.at_ hkx
      cases hg'
      have hbl := bytesLess_eq xs[k].name.toList x.name.toList
      rw [ByteArray.toList_eq, ByteArray.toList_eq] at hbl
      have hbl2 : Op.bytesLess xs[k].name.toList x.name.toList = decide (xs[k].name.data.toList < x.name.data.toList) := by rw [ByteArray.toList_eq, ByteArray.toList_eq]; exact hbl
      clear hr e1 e2 e3 hf hbl
      by_cases hless : xs[k].name.data.toList < x.name.data.toList
      · rw [decide_eq_true hless] at hbl2
        have HLess := Lib.hid hless
        have HLt := Lib.hid hlt
        clear hless
        go_wp2_with fail
        have y0 : decide ((k : Int) < (n : Int)) = true := by simp; omega
        have y1 : (0 : Int) ≤ (k : Int) := by omega
        have y2 : (k : Int) < (n : Int) := by omega
        go_quiet (fail)
        go_wp2_with fail
        go_roundw
        case rel =>
          refine ⟨k + 1, q + nq, Nat.succ_le_of_lt HLt.out, rfl, rfl, fun j hj hjk => ?_⟩
          by_cases e : j = k
          · subst e
            exact HLess.out
          · exact hall.out j hj (by omega)
        case measure => have hh := HLt.out; simp [intOf]; omega
      · rw [decide_eq_false hless] at hbl2
        have HLess := Lib.hid hless
        clear hless
        go_wp2_with fail
        have y0 : decide ((k : Int) < (n : Int)) = true := by simp; omega
        have y1 : (0 : Int) ≤ (k : Int) := by omega
        have y2 : (k : Int) < (n : Int) := by omega
        go_quiet (fail)
        go_wp2_with fail
        clear hbl2 y0 y1 y2 e0 c0 c1
        have hbu : Below o.heap.size o _ := below_draws (below_draws (Below.refl _ _) q) nq
        refine reg7 (k := k) (b0 := w.heap.size) (HR1.out.belowS hbu) HN.out hk x HQ0.out (HBx.out.belowS hbu) HAx.out HNx.out.1 HNx.out.2 (Nat.le_trans hbase (Nat.le_trans HB1.out.size hbu.size)) hfew _ _ (by kernel_rfl) _ _ _ _ _ _ _ _ _ _ _ _ _ _ _ _ _ _ _ _ _ _ _ _ _ _ _ _ _ _ _ _ _ _ _ _ _ ?_
        intro t v2 w2 r1 r2 r3
        go_wp2
        go_end0
        exact ⟨rfl, v2, _, Nat.le_of_lt hkx, hall.out, fun _ => HLess.out, r1, ((touch_below HB1.out).trans (touch_below hbu)).trans (r2.mono fun i _ e => .inl e), fun g e => Nat.le_trans (Nat.le_trans HB1.out.size hbu.size) (r3 g e)⟩
    · obtain rfl : k = n := by omega
      go_wp2_with fail
      have y0 : decide ((k : Int) < (k : Int)) = false := by simp
      go_quiet (fail)
      go_wp2_with fail
      clear y0 c0 c1
      have hbu : Below o.heap.size o _ := below_draws (below_draws (Below.refl _ _) q) nq
      refine reg7 (k := k) (b0 := w.heap.size) (HR1.out.belowS hbu) HN.out hk x HQ0.out (HBx.out.belowS hbu) HAx.out HNx.out.1 HNx.out.2 (Nat.le_trans hbase (Nat.le_trans HB1.out.size hbu.size)) hfew _ _ (by kernel_rfl) _ _ _ _ _ _ _ _ _ _ _ _ _ _ _ _ _ _ _ _ _ _ _ _ _ _ _ _ _ _ _ _ _ _ _ _ _ ?_
      intro t v2 w2 r1 r2 r3
      go_wp2
      go_end0
      exact ⟨rfl, v2, _, Nat.le_of_eq HN.out, hall.out, fun hh => absurd hh (by have := HN.out; omega), r1, ((touch_below HB1.out).trans (touch_below hbu)).trans (r2.mono fun i _ e => .inl e), fun g e => Nat.le_trans (Nat.le_trans HB1.out.size hbu.size) (r3 g e)⟩
set_option maxRecDepth 50000 in
set_option maxHeartbeats 4000000 in
theorem put31_nil {w : World} {base p : Nat} {cap fuse : Int} {lost : Bool} {xs : List RF} (h : Ref w base p (.slice none 0 0) cap fuse lost xs) (hn : 0 = xs.length) (x : RF) (hat : atI xs x.name.data.toList = -1) (hB : Bytes w x.A x.n x.f.l) (hA : ∀ ad, x.A = some ad → 0 < x.n → ad.block ≠ p) (hnil : x.A = none → x.c = 0) (hle : x.n ≤ x.c) (hbase : base ≤ w.heap.size) (hfew : xs.length < 1000) :
    Calls Try.prog 31 #[.pointer (some ⟨p, 0, none⟩), .agg x.cells.toArray] w fun e w' => e = .returned (.tuple #[]) ∧ ∃ v' k, k ≤ xs.length ∧ (∀ j (hj : j < xs.length), j < k → xs[j].name.data.toList < x.name.data.toList) ∧ (∀ (hk : k < xs.length), ¬ xs[k].name.data.toList < x.name.data.toList) ∧ Ref w' base p v' cap fuse lost (xs.take k ++ [x] ++ xs.drop k) ∧ Touch (fun j => j = p) w w' ∧ ∀ g, v'.ownBlock = some g → w.heap.size ≤ g := by
  obtain ⟨o, ho⟩ : ∃ o, o = w.alloc (.cells x.cells.toArray 60) := ⟨_, rfl⟩
  have hb1 : Below w.heap.size w o := by rw [ho]; exact (Below.refl _ _).alloc (Nat.le_refl _) _
  have HR1 := Lib.hid (h.belowS hb1)
  have H27 := Lib.hid (at_any HR1.out x.name)
  rw [hat] at H27
  obtain ⟨d0, d1, d2, d3, hfz⟩ := HR1.out.facts
  have hpl := HR1.out.lt
  have hq0 : o.heap[w.heap.size]? = some (.cells x.cells.toArray 60 (0, 0)) := by rw [ho]; exact heap_alloc_new w _
  have hq1 : w.heap.size < o.heap.size := (Array.getElem?_eq_some_iff.1 hq0).1
  have HN := Lib.hid hn
  have HD1 := Lib.hid (show ∀ w', Below o.heap.size o w' → w'.cell? ⟨p, 0 + 1, none⟩ = some (.slice none 0 0) from fun w' hb => (hb.cell (p := ⟨p, 0 + 1, none⟩) hpl).trans d1)
  have HO := Lib.hid ho
  have HB1 := Lib.hid hb1
  have HQ0 := Lib.hid hq0
  have HBx := Lib.hid (hB.belowS hb1)
  have HAx := Lib.hid hA
  have HNx := Lib.hid (And.intro hnil hle)
  have HE := Lib.hid (show w.alloc (.cells #[.string x.name, .slice x.A x.n x.c, .int .i64 (x.f.safe : Nat), .bool x.f.ever] 60) = o from HO.out.symm)
  have HX0 := Lib.hid (show ∀ q, (o.drewN q).cell? ⟨w.heap.size, 0, none⟩ = some (.string x.name) from fun q => by
    have : (o.drewN q).cell? ⟨w.heap.size, 0, none⟩ = o.cell? ⟨w.heap.size, 0, none⟩ := rfl
    rw [this, cell_of_row _ _ 0 _ 60 (0, 0) hq0]; rfl)
  clear h hn
  show Calls Try.prog 31 #[.pointer (some ⟨p, 0, none⟩), .agg #[.string x.name, .slice x.A x.n x.c, .int .i64 (x.f.safe : Nat), .bool x.f.ever]] w _
  clear hat hB hA hnil hle hb1 d0 d1 d2 d3 hfz hq0 ho
  go_enter Try.func31, Try.ntmps31
  go_wp2_with fail
  rw [HE.out]
  refine H27.out.mono ?_
  rintro e w1 ⟨rfl, rfl⟩
  clear H27
  go_wp2_with fail
  go_loopw [5] (fun i wr => i = .int .i64 0 ∧ ∃ q, wr = o.drewN q) (fun i _ => 0)
  case atStart => exact ⟨rfl, 0, rfl⟩
  case round =>
    obtain ⟨rfl, q, rfl⟩ := hrel
    have c1 : o.cell? ⟨p, 0 + 1, none⟩ = some (.slice none 0 0) := HD1.out _ (Below.refl _ _)
    go_wp2_with fail
    go_quiet (fail)
    go_wp2_with fail
    clear c1
    have hbu : Below o.heap.size o _ := below_draws (below_draws (Below.refl _ _) q) nq
    refine reg7_nil (b0 := w.heap.size) (HR1.out.belowS hbu) HN.out x HQ0.out (HBx.out.belowS hbu) HAx.out HNx.out.1 HNx.out.2 (Nat.le_trans hbase (Nat.le_trans HB1.out.size hbu.size)) hfew _ _ (by kernel_rfl) _ _ _ _ _ _ _ _ _ _ _ _ _ _ _ _ _ _ _ _ _ _ _ _ _ _ _ _ _ _ _ _ _ _ _ _ _ ?_
    intro t v2 w2 r1 r2 r3
    go_wp2
    go_end0
    exact ⟨rfl, v2, _, Nat.zero_le _, fun j _ hj => absurd hj (Nat.not_lt_zero _), fun hh => absurd hh (by have := HN.out; omega), r1, ((touch_below HB1.out).trans (touch_below hbu)).trans (r2.mono fun i _ e => .inl e), fun g e => Nat.le_trans (Nat.le_trans HB1.out.size hbu.size) (r3 g e)⟩
/-- A file that isn't there is laid between the others. -/
theorem put31_new {w : World} {base p : Nat} {v : Value} {cap fuse : Int} {lost : Bool} {xs : List RF} (h : Ref w base p v cap fuse lost xs) (x : RF) (hat : atI xs x.name.data.toList = -1) (hB : Bytes w x.A x.n x.f.l) (hA : ∀ ad, x.A = some ad → 0 < x.n → ad.block ≠ p) (hnil : x.A = none → x.c = 0) (hle : x.n ≤ x.c) (hbase : base ≤ w.heap.size) (hfew : xs.length < 1000) :
    Calls Try.prog 31 #[.pointer (some ⟨p, 0, none⟩), .agg x.cells.toArray] w fun e w' => e = .returned (.tuple #[]) ∧ ∃ v' k, k ≤ xs.length ∧ (∀ j (hj : j < xs.length), j < k → xs[j].name.data.toList < x.name.data.toList) ∧ (∀ (hk : k < xs.length), ¬ xs[k].name.data.toList < x.name.data.toList) ∧ Ref w' base p v' cap fuse lost (xs.take k ++ [x] ++ xs.drop k) ∧ Touch (fun j => j = p) w w' ∧ ∀ g, v'.ownBlock = some g → w.heap.size ≤ g := by
  rcases h.rows.2 with ⟨rfl, h0⟩ | ⟨g, cp, cur, rfl, _⟩
  · exact put31_nil (by simpa [h0] using h) h0.symm x hat hB hA hnil hle hbase hfew
  · exact put31_some h rfl x hat hB hA hnil hle hbase hfew
end Go.Proofs.Ytedhbcaakdfcbaa.disk
