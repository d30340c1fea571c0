/- A file laid on the document's disk, whether its name is there or not. -/
import Derived.Test.YtedhbcaakdfcbaaFb
namespace Go.Proofs.Ytedhbcaakdfcbaa.disk
open Go.ChangeShapes Go.WideShapes Go.ChangeAt Go.RowKit Go.Maps Go.WideMaps
set_option linter.unusedVariables false
set_option linter.unusedSimpArgs false

theorem put31_any {w : World} {base p : Nat} {v : Value} {cap fuse : Int} {lost : Bool} {xs : List RF} (h : Ref w base p v cap fuse lost xs) (hr : Rising (absF xs)) (x : RF) (hB : Bytes w x.A x.n x.f.l) (hA : ∀ ad, x.A = some ad → 0 < x.n → ad.block ≠ p ∧ v.ownBlock ≠ some ad.block) (hnil : x.A = none → x.c = 0) (hle : x.n ≤ x.c) (hbase : base ≤ w.heap.size) (hfew : xs.length < 1000) :
    Calls Try.prog 31 #[.pointer (some ⟨p, 0, none⟩), .agg x.cells.toArray] w fun e w' => e = .returned (.tuple #[]) ∧ ∃ v' xs', Ref w' base p v' cap fuse lost xs' ∧ absF xs' = insL (keyF x) x.f (absF xs) ∧ Touch (RFoot p v xs) w w' ∧ ∀ j, RFoot p v' xs' j → RFoot p v xs j ∨ w.heap.size ≤ j ∨ ∃ ad, x.A = some ad ∧ 0 < x.n ∧ ad.block = j := by
  rcases at_cases hr (keyF x) with ⟨h1, h2, h3⟩ | ⟨i, hi, h1, h2, h3, h4⟩
  · refine (put31_new h x h1 hB (fun ad e h0 => (hA ad e h0).1) hnil hle hbase hfew).mono ?_
    rintro e w' ⟨rfl, v', k, hk, hl, hg, r1, r2, r3⟩
    refine ⟨rfl, v', _, r1, abs_ins k x hk h3 hl hg, r2.mono fun _ _ e => .inl e, fun j hj => ?_⟩
    rcases hj with hj | hj | ⟨y, hy, ad, g1, g2, g3⟩
    · exact .inl (.inl hj)
    · exact .inr (.inl (r3 j hj))
    · rcases List.mem_append.1 hy with hy | hy
      · rcases List.mem_append.1 hy with hy | hy
        · exact .inl (.inr (.inr ⟨y, List.mem_of_mem_take hy, ad, g1, g2, g3⟩))
        · rw [List.mem_singleton] at hy
          subst hy
          exact .inr (.inr ⟨ad, g1, g2, g3⟩)
      · exact .inl (.inr (.inr ⟨y, List.mem_of_mem_drop hy, ad, g1, g2, g3⟩))
  · refine (put31_at h x i hi h1 hB hA hnil hle).mono ?_
    rintro e w' ⟨rfl, r1, r2⟩
    refine ⟨rfl, v, _, r1, abs_set hr hi x h3.symm, r2.mono fun _ _ e => .inr (.inl e), fun j hj => ?_⟩
    rcases hj with hj | hj | ⟨y, hy, ad, g1, g2, g3⟩
    · exact .inl (.inl hj)
    · exact .inl (.inr (.inl hj))
    · rcases List.mem_or_eq_of_mem_set hy with hy | rfl
      · exact .inl (.inr (.inr ⟨y, hy, ad, g1, g2, g3⟩))
      · exact .inr (.inr ⟨ad, g1, g2, g3⟩)
end Go.Proofs.Ytedhbcaakdfcbaa.disk
