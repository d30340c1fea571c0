/- Clone, of every disk. -/
import Derived.Test.YtedhbcaakdfcbaaW
namespace Go.Proofs.Ytedhbcaakdfcbaa.disk
open Go.ChangeShapes Go.WideShapes Go.ChangeAt Go.RowKit Go.Maps Go.WideMaps Go.Sort Go.Shelf
set_option linter.unusedVariables false
set_option linter.unusedSimpArgs false

theorem len_nil (w : World) (ty : TypeId) : (Builtin.len_ #[52] ty #[.map none]).run Try.prog w = .ok (.int .i64 0) w := by
  simp [Builtin.len_, run_underlying Try.underlying52, Builtin.lenOf]
  rfl
theorem mk52z (w : World) : (Instr.makeMap 52 (some (.int .i64 0))).run Try.prog w = .ok (.map (some w.heap.size)) (w.alloc (.map #[] 0)) := by
  simp [Instr.makeMap, run_underlying Try.underlying52, asInt, asIntOf]
set_option maxRecDepth 50000 in
set_option maxHeartbeats 4000000 in
theorem clone_nil {w : World} {base p : Nat} {D : DataW Value} {c : Cfg} {fm : FM} {N : Nat} (h : Dsk w base p none D c fm N) :
    Calls Try.prog 13 #[.pointer (some ⟨p, 0, none⟩)] w (Cloned w c fm N) := by
  obtain ⟨d0, d1, d2, d3, d4, d5, hf, hlt⟩ := h.facts
  have hm := mk52z
  have hln := len_nil
  have hrg := fun w' => run_range_nilMap (P := Try.prog) w' 52 9 64 Try.underlying52
  have hnx : ∀ o o' ty a b s, (Instr.next (.pointer (some ⟨w.heap.size + 2, 0, none⟩)) false ty).run Try.prog (((w.alloc o).alloc o').alloc (.mapIter none a s b)) = .ok (.tuple #[.bool false]) (((w.alloc o).alloc o').alloc (.mapIter none a s b)) := fun o o' ty a b s => by
    have := run_next_nilMap (P := Try.prog) ((w.alloc o).alloc o') ty a b s
    rw [show ((w.alloc o).alloc o').heap.size = w.heap.size + 2 by simp] at this
    exact this
  have hfm : fm = fun _ => none := by
    funext s
    have hD := h.nomap rfl
    have := h.has s
    subst hD
    cases hs : fm s with
    | none => rfl
    | some f => rw [hs] at this; cases this
  have HFm := Lib.hid hfm
  clear h hfm
  go_enter Try.func13, Try.ntmps13
  go_wp2
  refine wp_loop_rounds 1 ?_
  rw [rounds_succ]
  go_wp2
  go_ret
  have e1 : (w.alloc (.cells #[.int .i64 c.cap, .int .i64 c.used, .map (some (w.heap.size + 1)), .bool c.fused, .int .i64 c.fuse, .bool c.lost] 54)).heap.size = w.heap.size + 1 := Array.size_push _
  have e2 : ∀ o, ((w.alloc (.cells #[.int .i64 c.cap, .int .i64 c.used, .map (some (w.heap.size + 1)), .bool c.fused, .int .i64 c.fuse, .bool c.lost] 54)).alloc o).heap.size = w.heap.size + 2 := fun o => by simp
  refine ⟨w.heap.size + 1, .map [], rfl, ?_, (((Below.refl _ _).alloc (Nat.le_refl _) _).alloc (by rw [e1]; omega) _).alloc (by rw [e2]; omega) _⟩
  rw [HFm.out]
  refine dsk_empty ?_ (Nat.le_refl _) (Nat.le_succ _) (by omega) ?_
  · exact (heap_alloc_old _ _ _ (by rw [e2]; omega)).trans ((heap_alloc_old _ _ _ (by rw [e1]; omega)).trans (heap_alloc_new w _))
  · have := World.ownsMap_made (H := Value) (w.alloc (.cells #[.int .i64 c.cap, .int .i64 c.used, .map (some (w.heap.size + 1)), .bool c.fused, .int .i64 c.fuse, .bool c.lost] 54)) Try.prog 9 raw
    rw [e1] at this
    exact this.alloc _
theorem clone_any {w : World} {base p : Nat} {mb : Option Nat} {D : DataW Value} {c : Cfg} {fm : FM} {N M : Nat} (h : Dsk w base p mb D c fm N) (hM : ∀ s f, fm s = some f → f.l.length ≤ M) (hMM : M ≤ 1000000) (hN : N < 1000000) (hB : base ≤ w.heap.size) :
    Calls Try.prog 13 #[.pointer (some ⟨p, 0, none⟩)] w (Cloned w c fm N) := by
  cases mb with
  | none => exact clone_nil h
  | some b => exact clone_some h hM hMM hN hB
end Go.Proofs.Ytedhbcaakdfcbaa.disk
