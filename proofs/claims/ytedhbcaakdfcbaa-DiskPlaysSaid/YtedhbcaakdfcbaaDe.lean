/- A file laid between others: what is plain of it. -/
import Derived.Great.BuildSlice
import Derived.Test.YtedhbcaakdfcbaaDd
namespace Go.Proofs.Ytedhbcaakdfcbaa.disk
open Go.ChangeShapes Go.WideShapes Go.ChangeAt Go.RowKit Go.Maps Go.WideMaps
set_option linter.unusedVariables false
set_option linter.unusedSimpArgs false

/-- The region of a number, within a text. -/
def pick (n : Nat) : Code → Option Code
  | .region i o d => if i = n then some (.region i o d) else none
  | .seq a b => (pick n a).or (pick n b)
  | .cond _ a b => (pick n a).or (pick n b)
  | .block _ b => pick n b
  | .loop b => pick n b
  | .scope b => pick n b
  | _ => none
theorem Src.grown {w w' : World} {b : Option Nat} {A : Option Addr} {m c : Nat} {ys : List RF} (h : Src w A m c ys) (hg : w.grownBy w' b) (hne : ∀ ad, A = some ad → b ≠ some ad.block) : Src w' A m c ys := by
  refine ⟨h.1, h.2.1, fun ad e j u hu => ?_⟩
  have h1 := h.2.2 ad e j u hu
  have hl := World.block_lt_of_cell? w _ h1
  have hb := hg.block (ad.add j).block hl (fun e2 => hne ad e (e2.symm.trans (congrArg some (by unfold Addr.add; split <;> rfl))))
  revert h1
  simp only [World.cell?, hb]
  exact id
theorem src_one {w : World} {b : Nat} (x : RF) (h : w.heap[b]? = some (.cells x.cells.toArray 60 (0, 0))) : Src w (some ⟨b, 0, none⟩) 1 1 [x] := by
  refine ⟨rfl, fun e => (by cases e), fun ad e j u hu => ?_⟩
  cases e
  rw [add_none, Nat.zero_add]
  have hu2 : x.cells.toArray[j]? = some u := by simpa [cellsF] using hu
  simp [World.cell?, h, hu2]
theorem fresh_here {u w : World} {base : Nat} (hB : base ≤ u.heap.size) (hb : Below u.heap.size u w) : Fresh u base (.slice (some ⟨w.heap.size, 0, none⟩) 0 0) [] (w.alloc (.cells #[] 60)) := by
  refine ⟨⟨rfl, .inr ⟨w.heap.size, 0, #[], rfl, Nat.le_trans hB hb.size, heap_alloc_new w _, Nat.le_refl _, by simp, rfl, rfl⟩⟩, fun g e => by cases e; exact hb.size, hb.alloc hb.size _⟩
theorem step_build_one {ops : Array Oper} {o : Oper} {a : Act} {w : World} {K : Act → World → Prop} {Q : Exit → Act → World → Prop} {E : Prop} (hgd : o.guard = none) (e : Operand) (ho : o.op = .buildSlice 30 1 #[(0, e)]) (x : RF) (he : a.eval e = .agg x.cells.toArray)
    (h : K (a.put o.dst (.slice (some ⟨w.heap.size, 0, none⟩) 1 1)) (w.alloc (.cells x.cells.toArray 60))) :
    if Region.wanted o (yielded ops a.tmps) = true then Oper.wp Try.prog o a w K Q else E := by
  have hw : Region.wanted o (yielded ops a.tmps) = true := by simp [Region.wanted, hgd]
  rw [if_pos hw]
  obtain ⟨i0, hi, hz0, hz1, hz2⟩ := info_parts info60
  refine wp_buildSlice 30 60 1 #[(0, e)] ho x.cells.toArray i0 _ Try.underlying30 hi hz0 (by rw [hz1]; decide) (by rw [hz1]; decide) ?_ h
  rw [hz1]
  have hm : (#[((0 : Nat), e)].map fun (i, x) => (i, a.eval x)).toList = [(0, a.eval e)] := by simp
  rw [hm, he]
  have hr : Array.range (1 * 4) = #[0, 1, 2, 3] := by kernel_rfl
  rw [hr]
  simp [Instr.fill, RF.cells, Value.cells, List.zipIdx]
theorem lies_new {u w : World} {base p : Nat} {v : Value} {zs : List RF} {x : RF} (hF : Fresh u base v zs w) (hB : Bytes u x.A x.n x.f.l) (hA : ∀ ad, x.A = some ad → 0 < x.n → ad.block ≠ p) (hN : (x.A = none → x.c = 0) ∧ x.n ≤ x.c) : Lies w p w.heap.size x ∧ ∀ ad, x.A = some ad → 0 < x.n → v.ownBlock ≠ some ad.block := by
  refine ⟨⟨hB.belowS hF.below, fun ad e h0 => ⟨hA ad e h0, Nat.lt_of_lt_of_le (hB.lt ad e h0) hF.below.size⟩, hN.1, hN.2⟩, fun ad e h0 e2 => ?_⟩
  have h1 := hF.new _ e2
  have h2 := hB.lt ad e h0
  omega
end Go.Proofs.Ytedhbcaakdfcbaa.disk
