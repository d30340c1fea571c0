/- How a file grows, and is cut. -/
import Derived.Test.YtedhbcaakdfcbaaG
namespace Go.Proofs.Ytedhbcaakdfcbaa.disk
open Go.ChangeShapes Go.WideShapes Go.ChangeAt Go.RowKit Go.Maps Go.WideMaps
set_option linter.unusedVariables false
set_option linter.unusedSimpArgs false

/-- Behind an append the old value has what it had. -/
theorem append_keeps {w w' : World} {ty : TypeId} {base : Nat} {v v' : Value} {M : List Nat} (hown : w.ownsRow base 5 1 v M.length (vals M)) {A : Option Addr} {m c : Nat} {L : List Nat} (hB : Bytes w A m L) (hnil : A = none → c = 0) (hbound : M.length + m ≤ 1000000000)
    (hr : (Builtin.append_ #[33, 33] ty #[v, .slice A m c]).run Try.prog w = .ok v' w') : w'.ownsRow base 5 1 v M.length (vals M) := by
  obtain ⟨i0, hi, hz0, hz1, hz2⟩ := info_parts info5
  have hl := hB.1
  rcases hown.2 with e | ⟨g, cap, cur, rfl, hbg, hg, hnc, hcm, hcs, htake⟩
  · exact ⟨hown.1, .inl e⟩
  · have hm : 0 < m → ∃ ad, A = some ad ∧ ∀ j u, (vals L)[j]? = some u → w.cell? (ad.add j) = some u := fun h => hB.cells h
    cases A with
    | none =>
      have hm0 : m = 0 := by
        rcases Nat.eq_zero_or_pos m with h0 | h0
        · exact h0
        · obtain ⟨b, o', e, _⟩ := hB.2.2 h0
          cases e
      have hc := hnil rfl
      subst hm0 hc
      have e0 : (Builtin.append_ #[33, 33] ty #[.slice (some ⟨g, 0, none⟩) M.length cap, .slice none 0 0]).run Try.prog w = .ok (.slice (some ⟨g, 0, none⟩) M.length cap) w := by
        simp [Builtin.append_, run_underlying Try.underlying33, sizeOf, typeInfo, hi, Builtin.lenOf, Builtin.firstCells, hnc, storeCells, loadCells, loadCellsFrom]
      rw [e0] at hr
      cases hr
      exact hown
    | some ad =>
      have hnews : ∀ j u, (vals L)[j]? = some u → w.cell? (ad.add j) = some u := fun j u hu => by
        have hj : j < L.length := by
          have := (List.getElem?_eq_some_iff.1 hu).1
          simpa [vals] using this
        obtain ⟨ad', e, hc⟩ := hm (by omega)
        cases e
        exact hc j u hu
      have hxl : (vals M).length = M.length := vals_length M
      have hyl : (vals L).length = m := by rw [vals_length, hl]
      by_cases hroom : M.length + m ≤ cap
      · have e0 := run_append_room (P := Try.prog) w 33 ty 5 i0 Try.underlying33 hi g M.length cap cur hg ad m c (vals L) (by rw [hz1]; omega) hnews (vals_one L) hroom (by rw [hz1]; omega)
        rw [e0] at hr
        cases hr
        refine ⟨hown.1, .inr ⟨g, cap, _, rfl, hbg, setRow_heap w g cur _ 5 _ hg, hnc, hcm, ?_, ?_⟩⟩
        · simp only [List.size_toArray, List.length_append, List.length_take, List.length_drop, Array.length_toList, hz1]
          omega
        · rw [hz1, htake]
          have : ((vals M) ++ vals L ++ cur.toList.drop (M.length * 1 + (vals L).length)).take (M.length * 1) = vals M := by
            rw [List.append_assoc, Nat.mul_one, ← hxl]
            exact List.take_left
          simpa using this
      · have e0 := run_append_grow (P := Try.prog) w 33 ty 5 i0 (.int .u8 0) Try.underlying33 hi hz0 ⟨g, 0, none⟩ M.length cap (vals M) (by rw [hz1]; omega) (hown.cells (g := g) rfl) ad m c (vals L) (by rw [hz1]; omega) hnews (by omega) (by omega) (growslice_fits (by omega) (by rw [hz2]; omega))
        rw [e0] at hr
        cases hr
        exact hown.kept (row := none) ⟨rfl, rfl, rfl, by simp, fun k hk _ => heap_alloc_old w.drew _ k hk⟩ (by simp [Value.ownBlock])
end Go.Proofs.Ytedhbcaakdfcbaa.disk
