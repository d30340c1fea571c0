/- Bytes that grow at their end: the first that are written. -/
import Derived.Test.YtihcgbjmgfgenaaLexD
namespace Go.Proofs.Ytihcgbjmgfgenaa.lx
open Go.ChangeShapes Go.WideShapes Go.ChangeAt Go.RowKit
open Go.Proofs.Ytihcgbjmgfgenaa.codec (Bytes vals)
open Go.Proofs.Ytihcgbjmgfgenaa.row
set_option linter.unusedVariables false
set_option maxRecDepth 100000
set_option linter.unusedSimpArgs false

theorem forget {P : Program} {c : Code} {a : Act} {w : World} {Q : Exit → Act → World → Prop} (R : World → Prop) (hR : R w) (h : ∀ w1, R w1 → Code.wp P c Q a w1) : Code.wp P c Q a w := h w hR
theorem put_start {w w3 w' : World} {p s : Nat} {cs cs3 : Array Value} {T : TypeId} {m : List Nat} (hT : codec.Touch (fun i => i = p) w w3) (hs : w.heap.size ≤ s) (hz : cs3.size = cs.size) (hj : ∀ j, 2 ≤ j → cs3[j]? = cs[j]?) (h : Put w3 w' p cs3 T m (s :: blk none)) : Put w w' p cs T m [] := by
  obtain ⟨⟨P', F', cs', h1, h2, h3, h4, h5, h6, h7, h8⟩, h9⟩ := h
  refine ⟨⟨P', F', cs', h1, h2.trans hz, h3, h4, fun j h => (h5 j h).trans (hj j h), h6, h7, fun i hi => .inr ?_⟩, ?_⟩
  · rcases h8 i hi with h | h
    · simp [blk] at h
      omega
    · have := hT.2.2.2.1
      omega
  · refine (hT.mono fun i _ h => .inl h).trans (h9.mono fun i _ h => ?_)
    rcases h with h | h
    · exact .inl (.inl h)
    · simp [blk] at h
      exact .inr (by omega)
theorem fresh_full {w : World} {p : Nat} {cs : Array Value} {T : TypeId} (hp : w.heap[p]? = some (.cells cs T (0, 0))) (h2 : 2 ≤ cs.size) :
    ∀ w3, w3 = ((w.setCell ⟨p, 0, none⟩ (.pointer (some ⟨w.heap.size, 0, none⟩))).alloc (.cells #[.slice none 0 0] 79)) →
      Full w3 w.heap.size none 0 0 [] ∧ w3.heap[p]? = some (.cells (cs.setIfInBounds 0 (.pointer (some ⟨w.heap.size, 0, none⟩))) T (0, 0)) ∧ codec.Touch (fun i => i = p) w w3 ∧ p ≠ w.heap.size := by
  rintro w3 rfl
  have hlt := (Array.getElem?_eq_some_iff.1 hp).1
  have hne : p ≠ w.heap.size := by omega
  have h1 := heap_setCell_same w p 0 cs T (.pointer (some ⟨w.heap.size, 0, none⟩)) hp
  have hT : codec.Touch (fun i => i = p) w (w.setCell ⟨p, 0, none⟩ (.pointer (some ⟨w.heap.size, 0, none⟩))) := (codec.Touch.refl (fun i => i = p) w).setCell ⟨p, 0, none⟩ (.inr rfl) _
  have hs : (w.setCell ⟨p, 0, none⟩ (.pointer (some ⟨w.heap.size, 0, none⟩))).heap.size = w.heap.size := by simp
  generalize w.setCell ⟨p, 0, none⟩ (.pointer (some ⟨w.heap.size, 0, none⟩)) = v at *
  refine ⟨⟨by simp, rfl, ?_, ⟨rfl, .inl ⟨rfl, rfl⟩⟩, by simp [blk]⟩, ?_, ?_, hne⟩
  · rw [← hs]
    exact heap_alloc_new _ _
  · rw [heap_alloc_old _ _ (by omega)]
    exact h1
  · exact hT.alloc _
set_option maxHeartbeats 1000000 in
theorem put_fresh (w : World) (p : Nat) (cs : Array Value) (T : TypeId) (A : Option Addr) (n d : Nat) (m : List Nat) (hp : w.heap[p]? = some (.cells cs T (0, 0))) (h0 : cs[0]? = some (.pointer none)) (h1 : cs[1]? = some (.int .i64 0)) (h2 : 2 ≤ cs.size)
    (hB : Bytes w A n m) (hA : A = none → d = 0) (hAp : ∀ ad, A = some ad → 0 < n → ad.block ≠ p) (hn : n ≤ 10000000) :
    Calls Try.prog 28 #[.pointer (some ⟨p, 0, none⟩), .slice A n d] w fun e w' => e = .returned (.tuple #[]) ∧ Put w w' p cs T m [] := by
  have hc0 := cell_at hp 0 _ h0
  have hlp := (Array.getElem?_eq_some_iff.1 hp).1
  have hfp := frozen_of_row _ _ 0 _ _ hp
  have HB := Lib.hid hB
  have HN := Lib.hid hA
  have HA := Lib.hid hAp
  have HP := Lib.hid hp
  have H0 := Lib.hid h0
  have H1 := Lib.hid h1
  clear hB hA hAp hp h0 h1
  go_enter Try.func28, Try.ntmps28
  go_wp2
  go_quiet (fail)
  have c0 : (w.drewN nq).cell? ⟨p, 0, none⟩ = some (.pointer none) := hc0
  have c1 : (w.drewN nq).frozen? ⟨p, 0, none⟩ = false := hfp
  have c2 : p < (w.drewN nq).heap.size := hlp
  have HP2 : Hid ((w.drewN nq).heap[p]? = some (.cells cs T (0, 0))) := HP
  have HB2 := Lib.hid (HB.out.drewN nq)
  have HT0 := Lib.hid ((codec.Touch.refl (fun i => i = p) w).drewN nq)
  have HS : Hid ((w.drewN nq).heap.size = w.heap.size) := rfl
  generalize w.drewN nq = w2 at *
  clear hc0 hfp hlp HP HB
  have HL := Lib.hid (show Calls Try.prog 33 #[.pointer (some ⟨p, 0, none⟩)] w2 fun e w' => e = .returned (.slice none 0 0) ∧ w' = w2 by
    go_enter Try.func33, Try.ntmps33
    go_wp2
    go_ret
    exact ⟨rfl, rfl⟩)
  go_wp2_with (first | (go_at_call 33; refine HL.out.mono ?_; rintro e w9 ⟨rfl, hw⟩; replace hw := hw.symm; subst hw) | (go_at_call 42; refine (Try.bytes_Clone_nil 0 0 _).mono ?_; rintro e w9 ⟨rfl, hw⟩; replace hw := hw.symm; subst hw))
  refine forget (fun w3 => Full w3 w2.heap.size none 0 0 [] ∧ w3.heap[p]? = some (.cells (cs.setIfInBounds 0 (.pointer (some ⟨w2.heap.size, 0, none⟩))) T (0, 0)) ∧ codec.Touch (fun i => i = p) w2 w3 ∧ p ≠ w2.heap.size) (fresh_full HP2.out h2 _ rfl) ?_
  obtain ⟨s, hs⟩ : ∃ s, s = w2.heap.size := ⟨_, rfl⟩
  rw [← hs]
  rintro w3 ⟨hF3, hP3, hT3, hps⟩
  have HB3 := Lib.hid (HB2.out.touch HA.out hT3)
  have hc30 : (cs.setIfInBounds 0 (.pointer (some ⟨s, 0, none⟩)))[0]? = some (.pointer (some ⟨s, 0, none⟩)) := by rw [Array.getElem?_setIfInBounds_self_of_lt (by omega)]
  have hc31 : (cs.setIfInBounds 0 (.pointer (some ⟨s, 0, none⟩)))[1]? = some (.int .i64 ((0 : Nat) : Nat)) := by rw [Array.getElem?_setIfInBounds_ne (by decide)]; exact H1.out
  have hpF : p ∉ s :: blk none := by simp [blk]; exact hps
  have HE := Lib.hid (fun (w1 : World) (A' : Option Addr) (c' : Nat) ho hg hat N hN => put_end (w1 := w1) (m := m) (A' := A') (c' := c') hF3 hP3 hc30 (by simp; omega) hpF ho hg hat HB3.out.2.1 N hN)
  have HZ := Lib.hid (fun (w' : World) (h : Put w3 w' p (cs.setIfInBounds 0 (.pointer (some ⟨s, 0, none⟩))) T ([] ++ m) (s :: blk none)) => put_start (w := w) (cs := cs) (HT0.out.trans (hT3.mono fun i _ h => .inl h)) (by rw [hs, HS.out]; exact Nat.le_refl _) (by simp) (fun j hj => Array.getElem?_setIfInBounds_ne (by omega)) h)
  have hc0 := cell_at hP3 0 _ hc30
  have hs0 := cell_at hF3.2.2.1 0 (.slice none 0 0) rfl
  have hfs := frozen_of_row _ _ 0 _ _ hF3.2.2.1
  have hfp := frozen_of_row _ _ 1 _ _ hP3
  have hls := hF3.lt s (by simp)
  have hlp := (Array.getElem?_eq_some_iff.1 hP3).1
  have HF := Lib.hid hF3
  have HP := Lib.hid hP3
  have H3 := Lib.hid (And.intro hc30 (And.intro hc31 hpF))
  clear hF3 hP3 hT3 hc30 hc31 hpF hs c0 c1 c2
  obtain ⟨N, hN⟩ : ∃ N, N = ([] ++ m).length := ⟨_, rfl⟩
  have HNN := Lib.hid hN
  clear hN
  go_region_law (refine codec.step_append_bytes rfl (.tmp 42) (.tmp 43) rfl 0 (.slice none 0 0) [] (by simp [Act.eval, Act.put]) (HF.out.2.2.2.1) (Nat.zero_le _) A n d m (by simp [Act.eval, Act.put]) (HB3.out.drewN _) HN.out (by simp; omega) ?_; intro v1 w1 ho hg hnn hat; obtain ⟨A1, c1, rfl⟩ := own_split ho; have HO := Lib.hid ho; have hg2 : w3.grownBy w1 (Value.slice none 0 0).ownBlock := ⟨hg.os, hg.tape, hg.output, hg.size, hg.block⟩; have HG := Lib.hid (And.intro hg2 hat); rw [← HNN.out]; clear ho hnn hat hg; obtain ⟨d0, d1, d2, d3, d4, d5, d6⟩ := put_kept (w1 := w1) HF.out HP.out H3.out.1 H3.out.2.1 H3.out.2.2 hg2; clear hg2)
  all_goals go_wp2
  all_goals
    go_end0
    exact ⟨rfl, HZ.out _ (HE.out w1 A1 c1 HO.out HG.out.1 HG.out.2 N HNN.out)⟩
end Go.Proofs.Ytihcgbjmgfgenaa.lx
