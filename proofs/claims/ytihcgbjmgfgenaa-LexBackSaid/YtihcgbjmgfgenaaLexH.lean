/- A command ends, or asks for a literal. -/
import Derived.Test.YtihcgbjmgfgenaaLexG
namespace Go.Proofs.Ytihcgbjmgfgenaa.lx
open Go.ChangeShapes Go.WideShapes Go.ChangeAt Go.RowKit
open Go.Proofs.Ytihcgbjmgfgenaa.codec (Bytes vals)
open Go.Proofs.Ytihcgbjmgfgenaa.row
set_option linter.unusedVariables false
set_option maxRecDepth 100000
set_option linter.unusedSimpArgs false

theorem clone_any (w : World) (A : Option Addr) (n c : Nat) (l : List Nat) (hS : Sl w A n c l) (hn : n ≤ 4000000000) :
    Calls Try.prog 42 #[.slice A n c] w fun e w' => ∃ G k, e = .returned (.slice G n k) ∧ Sl w' G n k l ∧ (∀ i ∈ blk G, w.heap.size ≤ i ∧ i < w'.heap.size) ∧ Below w.heap.size w w' := by
  cases A with
  | none =>
    obtain rfl := hS.2.2.2 rfl
    obtain rfl : n = 0 := by have := hS.2.1; omega
    refine (Try.bytes_Clone_nil 0 0 w).mono ?_
    rintro e w' ⟨rfl, rfl⟩
    exact ⟨none, 0, rfl, hS, by simp [blk], Below.refl _ _⟩
  | some a =>
    refine (Try.bytes_Clone_at a n c (l.map Int.ofNat) w (by rw [List.length_map]; exact hS.1.1) (by omega) (fun i hi => ?_)).mono ?_
    · obtain ⟨b, o, e, hc⟩ := hS.1.2.2 (by omega)
      cases e
      have hi' : i < l.length := by have := hS.1.1; omega
      rw [codec.add_none, hc i hi]
      simp [List.getD, hi']
    · rintro e w' ⟨v, rfl, ho, hne, hb⟩
      rcases ho.2 with ⟨e, _⟩ | ⟨g, cap, cur, e, hB, hg, hc, _⟩
      · exact absurd e hne
      · refine ⟨some ⟨g, 0, none⟩, cap, by rw [e], ⟨⟨hS.1.1, hS.1.2.1, fun _ => ⟨g, 0, rfl, fun i hi => ?_⟩⟩, hc, trivial, fun e => by cases e⟩, fun i hi => by simp [blk] at hi; rw [hi]; exact ⟨hB, (Array.getElem?_eq_some_iff.1 hg).1⟩, hb⟩
        have hi' : i < l.length := by have := hS.1.1; omega
        have := World.ownsRow.cells ho (g := g) (by rw [e]; rfl) i (.int .u8 (l.getD i 0 : Nat)) (by simp [List.getD, hi'])
        rw [codec.add_none] at this
        exact this
theorem unitSize (cs : Array Value) (h : cs.size = 2) : (Try.prog.info? 29).map (·.size) = some cs.size := by
  rw [h]
  kernel_rfl
def unit (k : Nat) (A : Option Addr) (n c : Nat) : Value := .agg #[.int .i64 (k : Nat), .slice A n c]
theorem five {w : World} {g : Nat} {t : TypeId} {cs : Array Value} (h : w.heap[g]? = some (.cells cs t (0, 0))) (hs : cs.size = 5) (v0 v1 v2 v3 v4 : Value) :
    (((((w.setCell ⟨g, 0, none⟩ v0).setCell ⟨g, 1, none⟩ v1).setCell ⟨g, 2, none⟩ v2).setCell ⟨g, 3, none⟩ v3).setCell ⟨g, 4, none⟩ v4).heap[g]? = some (.cells #[v0, v1, v2, v3, v4] t (0, 0)) ∧
    codec.Touch (fun i => i = g) w (((((w.setCell ⟨g, 0, none⟩ v0).setCell ⟨g, 1, none⟩ v1).setCell ⟨g, 2, none⟩ v2).setCell ⟨g, 3, none⟩ v3).setCell ⟨g, 4, none⟩ v4) := by
  refine ⟨?_, (((((codec.Touch.refl (fun i => i = g) w).setCell ⟨g, 0, none⟩ (.inr rfl) _).setCell ⟨g, 1, none⟩ (.inr rfl) _).setCell ⟨g, 2, none⟩ (.inr rfl) _).setCell ⟨g, 3, none⟩ (.inr rfl) _).setCell ⟨g, 4, none⟩ (.inr rfl) _⟩
  rw [heap_setCell_same _ g 4 _ t _ (heap_setCell_same _ g 3 _ t _ (heap_setCell_same _ g 2 _ t _ (heap_setCell_same _ g 1 _ t _ (heap_setCell_same _ g 0 _ t _ h))))]
  obtain ⟨l⟩ := cs
  have hl : l.length = 5 := hs
  match l, hl with
  | [a0, a1, a2, a3, a4], _ => rfl
/-- A command has ended. -/
def EndAns (w : World) (p k : Nat) (l : List Nat) (e : Ending) (w' : World) : Prop :=
  ∃ A n c, e = .returned (unit k A n c) ∧ Sl w' A n c l ∧ (∀ i ∈ blk A, w.heap.size ≤ i ∧ i < w'.heap.size) ∧ Ck w' p [] [] [] 0 false ∧ codec.Touch (fun i => i = p) w w'
set_option maxHeartbeats 1000000 in
theorem end_any (w : World) (p k : Nat) (F done cur : List Nat) (left : Nat) (ret : Bool) (A : Option Addr) (n c : Nat) (l : List Nat) (hC : Ck w p F done cur left ret) (hS : Sl w A n c l) (hAp : ∀ ad, A = some ad → 0 < n → ad.block ≠ p) (hn : n ≤ 10000000) :
    Calls Try.prog 32 #[.pointer (some ⟨p, 0, none⟩), .int .i64 (k : Nat), .slice A n c] w fun e w' => EndAns w p k l e w' := by
  obtain ⟨P, line, came, h1, h2, h3, h4⟩ := hC
  obtain ⟨u, hu⟩ : ∃ u, u = w.heap.size := ⟨_, rfl⟩
  have hlp := (Array.getElem?_eq_some_iff.1 h1).1
  obtain ⟨W1, hW1⟩ : ∃ W1, W1 = ((((w.setCell ⟨p, 0, none⟩ (.pointer none)).setCell ⟨p, 1, none⟩ (.int .i64 0)).setCell ⟨p, 2, none⟩ (.int .i64 0)).setCell ⟨p, 3, none⟩ (.bool false)).setCell ⟨p, 4, none⟩ (.int .i64 0) := ⟨_, rfl⟩
  obtain ⟨g1, g2⟩ := five h1 rfl (.pointer none) (.int .i64 0) (.int .i64 0) (.bool false) (.int .i64 0)
  rw [← hW1] at g1 g2
  have hsz : W1.heap.size = w.heap.size := by rw [hW1]; simp
  obtain ⟨W2, hW2⟩ : ∃ W2, W2 = W1.alloc (.cells #[.int .i64 0, .slice none 0 0] 29) := ⟨_, rfl⟩
  have hb2 : Below W1.heap.size W1 W2 := by rw [hW2]; exact (Below.refl _ _).alloc (Nat.le_refl _) _
  have hu2 : W2.heap[u]? = some (.cells #[.int .i64 0, .slice none 0 0] 29 (0, 0)) := by rw [hW2, hu, ← hsz]; exact heap_alloc_new _ _
  have hS1 : Sl W2 A n c l := ⟨((hS.1.touch (fun ad e h0 => hAp ad e h0) g2).below (hS.1.touch (fun ad e h0 => hAp ad e h0) g2).lt hb2), hS.2⟩
  have HC := Lib.hid (clone_any W2 A n c l hS1 (by omega))
  have HW1 := Lib.hid hW1
  have HW2 := Lib.hid hW2
  have HU := Lib.hid hu
  have hup : u ≠ p := by omega
  have g3 : W2.heap[p]? = some (.cells #[.pointer none, .int .i64 0, .int .i64 0, .bool false, .int .i64 0] 44 (0, 0)) := (hb2.block p (by omega)).trans g1
  have c0 := cell_at h1 0 P rfl
  have c1 := cell_at h1 1 (.int .i64 (came.length : Nat)) rfl
  have c2 := cell_at h1 2 (.int .i64 (line : Nat)) rfl
  have c3 := cell_at h1 3 (.bool ret) rfl
  have c4 := cell_at h1 4 (.int .i64 (left : Nat)) rfl
  have z0 := frozen_of_row _ _ 0 _ _ h1
  have z1 := frozen_of_row _ _ 1 _ _ h1
  have z2 := frozen_of_row _ _ 2 _ _ h1
  have z3 := frozen_of_row _ _ 3 _ _ h1
  have z4 := frozen_of_row _ _ 4 _ _ h1
  have HG := Lib.hid (And.intro g3 (And.intro g2 (And.intro hb2 (And.intro hu2 hsz))))
  have HK := Lib.hid hup
  clear h1 h2 h3 h4 hu hW1 hb2 hW2 g1 g2 g3 hS hS1 hAp hu2 hup hsz
  go_enter Try.func32, Try.ntmps32
  go_wp2_with fail
  rw [← HW1.out, ← HW2.out, ← HU.out]
  refine HC.out.mono ?_
  rintro e w3 ⟨G, d, rfl, hS3, hG3, hb3⟩
  have hu3 : w3.heap[u]? = some (.cells #[.int .i64 0, .slice none 0 0] 29 (0, 0)) := (hb3.block _ (Array.getElem?_eq_some_iff.1 HG.out.2.2.2.1).1).trans HG.out.2.2.2.1
  have d0 := cell_at hu3 0 (.int .i64 0) rfl
  have d1 := cell_at hu3 1 (.slice none 0 0) rfl
  have y0 := frozen_of_row _ _ 0 _ _ hu3
  have y1 := frozen_of_row _ _ 1 _ _ hu3
  have lu := (Array.getElem?_eq_some_iff.1 hu3).1
  have HS3 := Lib.hid (And.intro hS3 (And.intro hG3 hb3))
  have HU3 := Lib.hid hu3
  clear hS3 hG3 hb3 hu3 c0 c1 c2 c3 c4 z0 z1 z2 z3 z4
  go_wp2_with fail
  obtain ⟨k1, k2, k3⟩ := two HU3.out rfl (.int .i64 (k : Nat)) (.slice G n d)
  refine bodyPost_ret (results_cell_row Try.results32 _ _ u _ _ _ _ rfl k1 Try.underlying29 rfl (unitSize _ rfl)) rfl ?_
  obtain ⟨g1, g2, hb2, hu2, hsz⟩ := HG.out
  obtain ⟨hS3, hG3, hb3⟩ := HS3.out
  have hsz2 := hb2.size
  have hu := HU.out
  have hW2u : u < W2.heap.size := (Array.getElem?_eq_some_iff.1 hu2).1
  have hb4 : codec.Touch (fun i => i = p) w w3 := (g2.below hb2).below hb3
  refine ⟨G, n, d, rfl, ⟨hS3.1.kept fun ad e h0 => ?_, hS3.2⟩, fun i hi => ?_, ⟨.pointer none, 0, [], ?_, .inl ⟨rfl, rfl, rfl⟩, by simp, ⟨fun _ => ⟨rfl, rfl⟩, fun h => by simp at h⟩⟩, ?_⟩
  · refine k2 _ ?_
    have := (hG3 ad.block (by rw [e]; simp [blk])).1
    omega
  · have := hG3 i hi
    exact ⟨by omega, by simp; omega⟩
  · rw [k2 _ (Ne.symm HK.out), hb3.block p (Array.getElem?_eq_some_iff.1 g1).1]
    exact g1
  · exact (hb4.setCell ⟨u, 0, none⟩ (.inl (by rw [hu]; exact Nat.le_refl _)) _).setCell ⟨u, 1, none⟩ (.inl (by rw [hu]; exact Nat.le_refl _)) _
end Go.Proofs.Ytihcgbjmgfgenaa.lx
