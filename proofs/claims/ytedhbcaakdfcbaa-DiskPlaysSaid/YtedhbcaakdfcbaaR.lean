/- Names. -/
import Derived.Test.YtedhbcaakdfcbaaQ
namespace Go.Proofs.Ytedhbcaakdfcbaa.disk
open Go.ChangeShapes Go.WideShapes Go.ChangeAt Go.RowKit Go.Maps Go.WideMaps Go.Sort Go.Shelf
set_option linter.unusedVariables false
set_option linter.unusedSimpArgs false

/-- A list of names, in new memory. -/
def Named (w : World) (fm : FM) (e : Ending) (w' : World) : Prop :=
  ∃ (v : Value) (ns : List (List UInt8)), e = .returned v ∧ Listed fm ns ∧ w'.ownsRow (w.heap.size + 1) 9 1 v ns.length (ns.map encStr) ∧ (v = .slice none 0 0 ↔ ns = []) ∧ Below w.heap.size w w'
set_option maxRecDepth 50000 in
set_option maxHeartbeats 4000000 in
theorem names_any {w : World} {base p : Nat} {mb : Option Nat} {D : DataW Value} {c : Cfg} {fm : FM} {N : Nat} (h : Dsk w base p mb D c fm N) (hN : N ≤ 1000000) :
    Calls Try.prog 14 #[.pointer (some ⟨p, 0, none⟩)] w (Named w fm) := by
  obtain ⟨d0, d1, d2, d3, d4, d5, hf, hlt⟩ := h.facts
  have HS := Lib.hid (sorted35 h hN)
  clear h d0 d1 d3 d4 d5 hf
  refine (callsIn_wide (n := 6)).1 ?_
  have hfK : Fence.wide.fn 36 := trivial
  have hfS : Fence.wide.fn 35 := trivial
  refine callsIn_of_wp Try.func14 rfl trivial ?_ rfl
  simp only [Try.ntmps14, List.size_toArray, List.length_cons, List.length_nil, Nat.reduceAdd, Nat.reduceSub, Array.replicate_succ, Array.replicate_zero, List.push_toArray, List.append_toArray, List.nil_append, List.cons_append]
  gi_wp2_with (first | (gi_at_call 36; refine (keys36 _ _).mono ?_; rintro e w' ⟨rfl, rfl⟩) | (gi_at_call 35; refine HS.out.mono ?_; rintro e w2 ⟨v, ns, rfl, h1, h2, h3, h4⟩; have HA := Lib.hid h1; have HB := Lib.hid h2; have HC := Lib.hid h3; have HE := Lib.hid h4; clear h1 h2 h3 h4))
  go_ret
  exact ⟨v, ns, rfl, HA.out, HB.out, HC.out, ((Below.refl w.heap.size w).alloc (Nat.le_refl _) _).trans (HE.out.mono (Nat.le_succ _))⟩
end Go.Proofs.Ytedhbcaakdfcbaa.disk
