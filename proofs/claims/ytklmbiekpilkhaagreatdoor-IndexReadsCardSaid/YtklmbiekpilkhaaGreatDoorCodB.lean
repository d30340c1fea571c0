/- What putting bytes into an Out does. -/
import Derived.Test.YtklmbiekpilkhaaGreatDoorCodA
namespace Go.Proofs.YtklmbiekpilkhaaGreatDoor.codec
open Go.ChangeShapes Go.WideShapes Go.ChangeAt Go.RowKit
set_option linter.unusedVariables false
set_option maxRecDepth 100000
set_option linter.unusedSimpArgs false

set_option maxHeartbeats 1000000 in
theorem put_full (w : World) (p s g cap : Nat) (l : List Nat) (A : Option Addr) (n c : Nat) (m : List Nat) (h : Full w p s g cap l) (hB : Bytes w A n m) (hn : l.length + n ≤ 10000000) (hA : A = none → c = 0) :
    Calls Tryz.prog 52 #[.pointer (some ⟨p, 0, none⟩), .slice A n c] w fun e w' => e = .returned (.tuple #[]) ∧ ∃ g' cap', Full w' p s g' cap' (l ++ m) ∧ Touch (fun i => i = p ∨ i = s ∨ i = g) w w' ∧ (g' = g ∨ w.heap.size ≤ g') := by
  obtain ⟨hc0, hc1, _, hs0, hf0, hf1, hfs, hlp, hls, hlg, hcap⟩ := h.facts
  have hps := h.2.2.2.1
  have HF := Lib.hid h
  have HB := Lib.hid hB
  have HN := Lib.hid hA
  obtain ⟨k, hk⟩ : ∃ k, k = l.length := ⟨_, rfl⟩
  have HK := Lib.hid hk
  rw [← hk] at hc1 hs0 hcap hn
  clear h hB hk hA
  go_enter Tryz.func52, Tryz.ntmps52
  go_wp2
  go_quiet (fail)
  go_wp2
  go_region_law (refine step_append_bytes rfl (.tmp 42) (.tmp 43) rfl 0 (.slice (some ⟨g, 0, none⟩) k cap) l (by simp [Act.eval, Act.put]) (by rw [HK.out]; exact HF.out.2.2.1) (Nat.zero_le _) A n c m (by simp [Act.eval, Act.put]) (HB.out.drewN _) HN.out (by rw [← HK.out]; omega) ?_; intro v' w1 ho hg hnn hat; obtain ⟨g', cap', rfl, hG, hP1, hS1⟩ := Full.grow (n := n) HF.out ho ⟨hg.os, hg.tape, hg.output, hg.size, hg.block⟩ (by rw [← HK.out]; exact hnn) (by simpa [Value.ownBlock] using hat); obtain ⟨d0, d1, d2, e0, e1, e2⟩ := own_facts hP1 hS1; have HO := Lib.hid ho; have HG := Lib.hid hg; have HT := Lib.hid (And.intro hP1 hS1); clear ho hg hnn hat hP1 hS1)
  all_goals go_wp2
  all_goals
    go_end0
    refine ⟨rfl, g', cap', ?_⟩
  all_goals
    have hgr : w.grownBy w1 (some g) := ⟨HG.out.os, HG.out.tape, HG.out.output, HG.out.size, HG.out.block⟩
    exact put_end HF.out HO.out hgr HT.out hG HB.out.2.1

/-- An Out that has nothing yet. -/
def Fresh (w : World) (p : Nat) : Prop := w.heap[p]? = some (.cells #[.pointer none, .int .i64 0, .bool false] 79 (0, 0))
theorem fresh_full {w : World} {p : Nat} (h : Fresh w p) : ∀ w1, w1 = (((w.setCell ⟨p, 0, none⟩ (.pointer (some ⟨w.heap.size + 1, 0, none⟩))).alloc (.cells (vals []).toArray 5)).alloc (.cells #[.slice (some ⟨w.heap.size, 0, none⟩) 0 0] 163)) → Full w1 p (w.heap.size + 1) w.heap.size 0 [] ∧ Touch (fun i => i = p) w w1 ∧ w1.heap.size = w.heap.size + 2 := by
  have hlt : p < w.heap.size := (Array.getElem?_eq_some_iff.1 h).1
  rintro w1 rfl
  have hs : (w.setCell ⟨p, 0, none⟩ (.pointer (some ⟨w.heap.size + 1, 0, none⟩))).heap.size = w.heap.size := by simp
  have h0 : (w.setCell ⟨p, 0, none⟩ (.pointer (some ⟨w.heap.size + 1, 0, none⟩))).heap[p]? = some (.cells #[.pointer (some ⟨w.heap.size + 1, 0, none⟩), .int .i64 0, .bool false] 79 (0, 0)) := by
    rw [heap_setCell_same _ p 0 _ 79 _ h]
    simp
  have ht := (Touch.refl (fun i => i = p) w).setCell ⟨p, 0, none⟩ (.inr rfl) (.pointer (some ⟨w.heap.size + 1, 0, none⟩))
  generalize w.setCell ⟨p, 0, none⟩ (.pointer (some ⟨w.heap.size + 1, 0, none⟩)) = v at *
  have h2 : ((v.alloc (.cells (vals []).toArray 5)).alloc (.cells #[.slice (some ⟨w.heap.size, 0, none⟩) 0 0] 163)).heap[w.heap.size]? = some (.cells (vals []).toArray 5 (0, 0)) := by
    rw [heap_alloc_old _ _ (by simp [hs]), ← hs]
    exact heap_alloc_new v _
  have h3 : ((v.alloc (.cells (vals []).toArray 5)).alloc (.cells #[.slice (some ⟨w.heap.size, 0, none⟩) 0 0] 163)).heap[w.heap.size + 1]? = some (.cells #[.slice (some ⟨w.heap.size, 0, none⟩) 0 0] 163 (0, 0)) := by
    have := heap_alloc_new (v.alloc (.cells (vals []).toArray 5)) (.cells #[.slice (some ⟨w.heap.size, 0, none⟩) 0 0] 163)
    simpa [hs] using this
  refine ⟨⟨?_, ?_, ?_, by omega, by omega, by omega, by simp⟩, ?_, by simp [hs]⟩
  · rw [heap_alloc_old _ _ (by simp [hs]; omega), heap_alloc_old _ _ (by simp [hs]; omega)]
    exact h0
  · exact h3
  · exact ⟨by simp [vals], .inr ⟨w.heap.size, 0, (vals []).toArray, rfl, Nat.zero_le _, h2, Nat.le_refl _, Nat.zero_le _, by simp [vals], by simp [vals]⟩⟩
  · exact (ht.alloc _).alloc _

theorem forget {P : Program} {c : Code} {a : Act} {w : World} {Q : Exit → Act → World → Prop} (R : World → Prop) (hR : R w) (h : ∀ w1, R w1 → Code.wp P c Q a w1) : Code.wp P c Q a w := h w hR

set_option maxHeartbeats 1000000 in
theorem put_fresh (w : World) (p : Nat) (A : Option Addr) (n c : Nat) (m : List Nat) (h : Fresh w p) (hB : Bytes w A n m) (hn : n ≤ 10000000) (hA : A = none → c = 0) (hAp : ∀ ad, A = some ad → 0 < n → ad.block ≠ p) :
    Calls Tryz.prog 52 #[.pointer (some ⟨p, 0, none⟩), .slice A n c] w fun e w' => e = .returned (.tuple #[]) ∧ ∃ s g' cap', Full w' p s g' cap' m ∧ Touch (fun i => i = p) w w' ∧ w.heap.size ≤ s ∧ w.heap.size ≤ g' := by
  have hc0 : w.cell? ⟨p, 0, none⟩ = some (.pointer none) := by simp [World.cell?, show w.heap[p]? = _ from h]
  have hf : w.frozen? ⟨p, 0, none⟩ = false := by simp [World.frozen?, show w.heap[p]? = _ from h]
  have hlt : p < w.heap.size := (Array.getElem?_eq_some_iff.1 h).1
  have HB := Lib.hid hB
  have HN := Lib.hid hA
  have HA := Lib.hid hAp
  have HF := Lib.hid h
  clear hB hA h hAp
  go_enter Tryz.func52, Tryz.ntmps52
  go_wp2
  go_quiet (fail)
  have d0 : (w.drewN nq).cell? ⟨p, 0, none⟩ = some (.pointer none) := hc0
  have d1 : (w.drewN nq).frozen? ⟨p, 0, none⟩ = false := hf
  have d2 : p < (w.drewN nq).heap.size := hlt
  have HF1 : Hid (Fresh (w.drewN nq) p) := HF.out
  have HB1 := Lib.hid (HB.out.drewN nq)
  have HT0 := Lib.hid ((Touch.refl (fun i => i = p) w).drewN nq)
  have HS : Hid ((w.drewN nq).heap.size = w.heap.size) := rfl
  generalize w.drewN nq = w2 at *
  clear hc0 hf hlt HF HB
  go_wp2_with (first | (go_at_call 84; refine (written_empty _ _ (by simp [d0])).mono ?_; rintro e w1 ⟨rfl, rfl⟩) | (go_at_call 67; refine (copied_any _ none 0 0 [] ⟨rfl, by simp, fun h => absurd h (by omega)⟩ (by omega)).mono ?_; rintro e w1 ⟨rfl, rfl⟩))
  refine forget (fun w3 => Full w3 p (w2.heap.size + 1) w2.heap.size 0 [] ∧ Touch (fun i => i = p) w2 w3 ∧ w3.heap.size = w2.heap.size + 2) (fresh_full HF1.out _ rfl) ?_
  rintro w3 ⟨hF3, hT3, hs3⟩
  have HB3 := Lib.hid (HB1.out.touch HA.out hT3)
  have HT3 := Lib.hid hT3
  obtain ⟨hc0, hc1, _, hs0, hf0, hf1, hfs, hlp, hls, hlg, hcap⟩ := hF3.facts
  have HF := Lib.hid hF3
  have hps := hF3.2.2.2.1
  have HS3 := Lib.hid hs3
  clear HB1 hF3 hT3 d0 d1 d2 HF1 hs3
  simp only [List.length_nil] at hc1 hs0
  obtain ⟨S, hS⟩ : ∃ S, S = w2.heap.size + 1 := ⟨_, rfl⟩
  obtain ⟨G, hG⟩ : ∃ G, G = w2.heap.size := ⟨_, rfl⟩
  rw [← hS, ← hG] at HF
  rw [← hS] at hc0 hs0 hfs hps hls
  rw [← hG] at hs0 hlg
  have HE := Lib.hid (And.intro hS hG)
  clear hS hG
  go_region_law (refine step_append_bytes rfl (.tmp 42) (.tmp 43) rfl 0 (.slice (some ⟨G, 0, none⟩) 0 0) [] (by simp [Act.eval, Act.put]) HF.out.2.2.1 (Nat.zero_le _) A n c m (by simp [Act.eval, Act.put]) (HB3.out.drewN 1) HN.out (by simp; omega) ?_; intro v' w4 ho hg hnn hat; obtain ⟨g', cap', rfl, hG, hP1, hS1⟩ := Full.grow (n := n) HF.out ho ⟨hg.os, hg.tape, hg.output, hg.size, hg.block⟩ hnn (by simpa [Value.ownBlock] using hat); obtain ⟨d0, d1, d2, e0, e1, e2⟩ := own_facts hP1 hS1; have HO := Lib.hid ho; have HG := Lib.hid hg; have HT := Lib.hid (And.intro hP1 hS1); clear ho hg hnn hat hP1 hS1)
  all_goals go_wp2
  all_goals
    go_end0
    have hE := HE.out
    have hS0 := HS.out
    have hS3 := HS3.out
    have hgr : w3.grownBy w4 (some G) := ⟨HG.out.os, HG.out.tape, HG.out.output, HG.out.size, HG.out.block⟩
    obtain ⟨f1, f2, f3⟩ := put_end HF.out HO.out hgr HT.out hG HB3.out.2.1
    simp only [List.length_nil, Nat.zero_add, List.nil_append, Int.zero_add, Int.natCast_zero] at f1 f2
    refine ⟨rfl, S, g', cap', f1, ?_, by omega, by omega⟩
    refine HT0.out.trans ((HT3.out.trans (f2.mono fun i _ h => ?_)).mono fun i _ h => .inl h)
    rcases h with h | h | h
    · exact .inl h
    · exact .inr (by omega)
    · exact .inr (by omega)

/-- An Out that has these bytes, on these blocks. -/
def OutIs (w : World) (p : Nat) (l : List Nat) (F : List Nat) : Prop := (Fresh w p ∧ l = [] ∧ F = [p]) ∨ ∃ s g cap, Full w p s g cap l ∧ F = [p, s, g]
theorem OutIs.lt {w : World} {p : Nat} {l F : List Nat} (h : OutIs w p l F) : ∀ k ∈ F, k < w.heap.size := by
  rcases h with ⟨h, rfl, rfl⟩ | ⟨s, g, cap, h, rfl⟩
  · intro k hk
    simp at hk
    subst hk
    exact (Array.getElem?_eq_some_iff.1 h).1
  · obtain ⟨_, _, _, _, _, _, _, h1, h2, h3, _⟩ := h.facts
    intro k hk
    simp at hk
    rcases hk with rfl | rfl | rfl <;> assumption
theorem OutIs.own {w : World} {p : Nat} {l F : List Nat} (h : OutIs w p l F) : p ∈ F := by
  rcases h with ⟨h, rfl, rfl⟩ | ⟨s, g, cap, h, rfl⟩ <;> simp
theorem OutIs.kept {w w' : World} {p : Nat} {l F : List Nat} (h : OutIs w p l F) (hk : ∀ k ∈ F, w'.heap[k]? = w.heap[k]?) : OutIs w' p l F := by
  rcases h with ⟨h, rfl, rfl⟩ | ⟨s, g, cap, h, rfl⟩
  · exact .inl ⟨(hk p (by simp)).trans h, rfl, rfl⟩
  · refine .inr ⟨s, g, cap, ⟨(hk p (by simp)).trans h.1, (hk s (by simp)).trans h.2.1, ?_, h.2.2.2⟩, rfl⟩
    obtain ⟨h1, h2⟩ := h.2.2.1
    refine ⟨h1, ?_⟩
    rcases h2 with ⟨e, _⟩ | ⟨g', cap', cur, e, hb, hg, rest⟩
    · cases e
    · cases e
      exact .inr ⟨g, cap, cur, rfl, hb, (hk g (by simp)).trans hg, rest⟩
theorem OutIs.touch {G : Nat → Prop} {w w' : World} {p : Nat} {l F : List Nat} (h : OutIs w p l F) (ht : Touch G w w') (hG : ∀ k ∈ F, ¬ G k) : OutIs w' p l F :=
  h.kept fun k hk => ht.2.2.2.2 k (h.lt k hk) (hG k hk)
theorem OutIs.below {w w' : World} {p : Nat} {l F : List Nat} (h : OutIs w p l F) (hb : Below w.heap.size w w') : OutIs w' p l F :=
  h.kept fun k hk => hb.block k (h.lt k hk)
theorem OutIs.head {w : World} {p : Nat} {l F : List Nat} (h : OutIs w p l F) : ∃ x y, w.heap[p]? = some (.cells #[x, y, .bool false] 79 (0, 0)) := by
  rcases h with ⟨h, rfl, rfl⟩ | ⟨s, g, cap, h, rfl⟩
  · exact ⟨_, _, h⟩
  · exact ⟨_, _, h.1⟩
theorem OutIs.good {w : World} {p : Nat} {l F : List Nat} (h : OutIs w p l F) : w.cell? ⟨p, 2, none⟩ = some (.bool false) := by
  obtain ⟨x, y, h⟩ := h.head
  simp [World.cell?, h]
theorem OutIs.small {w : World} {p : Nat} {l F : List Nat} (h : OutIs w p l F) : ∀ b ∈ l, b < 256 := by
  rcases h with ⟨h, rfl, rfl⟩ | ⟨s, g, cap, h, rfl⟩
  · simp
  · exact h.2.2.2.2.2.2

/-- The Out has more bytes now, on its own blocks and new ones; nothing else has changed. -/
def More (w : World) (p : Nat) (l F : List Nat) (w' : World) : Prop := ∃ F', OutIs w' p l F' ∧ Touch (fun k => k ∈ F) w w' ∧ ∀ k ∈ F', k ∈ F ∨ w.heap.size ≤ k
theorem put_any (w : World) (p : Nat) (l F : List Nat) (A : Option Addr) (n c : Nat) (m : List Nat) (h : OutIs w p l F) (hB : Bytes w A n m) (hn : l.length + n ≤ 10000000) (hA : A = none → c = 0) (hAp : ∀ ad, A = some ad → 0 < n → ad.block ∉ F) :
    Calls Tryz.prog 52 #[.pointer (some ⟨p, 0, none⟩), .slice A n c] w fun e w' => e = .returned (.tuple #[]) ∧ More w p (l ++ m) F w' := by
  rcases h with ⟨h, rfl, rfl⟩ | ⟨s, g, cap, h, rfl⟩
  · refine (put_fresh w p A n c m h hB (by simp at hn; omega) hA (fun ad e h0 => by simpa using hAp ad e h0)).mono ?_
    rintro e w' ⟨rfl, s, g', cap', h1, h2, h3, h4⟩
    refine ⟨rfl, [p, s, g'], .inr ⟨s, g', cap', h1, rfl⟩, h2.mono fun i _ h => by simp [h], ?_⟩
    intro k hk
    simp at hk ⊢
    rcases hk with rfl | rfl | rfl
    · exact .inl rfl
    · exact .inr h3
    · exact .inr h4
  · refine (put_full w p s g cap l A n c m h hB hn hA).mono ?_
    rintro e w' ⟨rfl, g', cap', h1, h2, h3⟩
    refine ⟨rfl, [p, s, g'], .inr ⟨s, g', cap', h1, rfl⟩, h2.mono fun i _ h => by simpa using h, ?_⟩
    intro k hk
    simp at hk ⊢
    rcases hk with rfl | rfl | rfl
    · exact .inl (.inl rfl)
    · exact .inl (.inr (.inl rfl))
    · rcases h3 with rfl | h3
      · exact .inl (.inr (.inr rfl))
      · exact .inr h3
/-- A spoilt Out. -/
def Spoilt (w : World) (p : Nat) : Prop := w.heap[p]? = some (.cells #[.pointer none, .int .i64 0, .bool true] 79 (0, 0))
theorem Spoilt.bad {w : World} {p : Nat} (h : Spoilt w p) : w.cell? ⟨p, 2, none⟩ = some (.bool true) := by simp [World.cell?, show w.heap[p]? = _ from h]
theorem spoil {w : World} {p : Nat} {x y z : Value} (h : w.heap[p]? = some (.cells #[x, y, z] 79 (0, 0))) : Spoilt (w.setRow p #[.pointer none, .int .i64 0, .bool true]) p ∧ Touch (fun k => k = p) w (w.setRow p #[.pointer none, .int .i64 0, .bool true]) :=
  ⟨setRow_heap w p _ _ 79 _ h, rfl, rfl, rfl, by simp [World.setRow], fun k _ hk => setRow_other w p k _ hk⟩
end Go.Proofs.YtklmbiekpilkhaaGreatDoor.codec
