/- Bytes that grow at their end: a sheet, what is on it, and how more is written. -/
import Derived.Test.YtihcgbjmgfgenaaLexC
namespace Go.Proofs.Ytihcgbjmgfgenaa.lx
open Go.ChangeShapes Go.WideShapes Go.ChangeAt Go.RowKit
open Go.Proofs.Ytihcgbjmgfgenaa.codec (Bytes vals)
open Go.Proofs.Ytihcgbjmgfgenaa.row
set_option linter.unusedVariables false
set_option maxRecDepth 100000
set_option linter.unusedSimpArgs false

/-- A sheet with these bytes lies behind a pointer, on these blocks. -/
def Full (w : World) (s : Nat) (A : Option Addr) (k c : Nat) (l : List Nat) : Prop :=
  (∀ b ∈ l, b < 256) ∧ k = l.length ∧ w.heap[s]? = some (.cells #[.slice A k c] 79 (0, 0)) ∧ w.ownsRow 0 5 1 (.slice A k c) l.length (vals l) ∧ s ∉ blk A
def Sh (w : World) (P : Value) (l : List Nat) (F : List Nat) : Prop :=
  (P = .pointer none ∧ l = [] ∧ F = []) ∨ ∃ s A k c, P = .pointer (some ⟨s, 0, none⟩) ∧ Full w s A k c l ∧ F = s :: blk A
theorem Full.sl {w : World} {s : Nat} {A : Option Addr} {k c : Nat} {l : List Nat} (h : Full w s A k c l) : Sl w A k c l ∧ (∀ ad, A = some ad → ad = ⟨ad.block, 0, none⟩) := by
  obtain ⟨h1, rfl, h2, h3, h4⟩ := h
  rcases h3.2 with ⟨e, h0⟩ | ⟨g, cap, cur, e, hB, hg, hc, _⟩
  · obtain rfl : l = [] := List.eq_nil_of_length_eq_zero h0
    cases e
    exact ⟨Sl.none w, fun ad e => by cases e⟩
  · cases e
    refine ⟨⟨⟨rfl, h1, fun _ => ⟨g, 0, rfl, fun i hi => ?_⟩⟩, hc, trivial, fun e => by cases e⟩, fun ad e => by cases e; rfl⟩
    have := World.ownsRow.cells h3 (g := g) rfl i (.int .u8 (l.getD i 0 : Nat)) (by simp [vals, List.getD, hi])
    rw [codec.add_none] at this
    exact this
theorem Full.lt {w : World} {s : Nat} {A : Option Addr} {k c : Nat} {l : List Nat} (h : Full w s A k c l) : ∀ i ∈ s :: blk A, i < w.heap.size := by
  obtain ⟨h1, rfl, h2, h3, h4⟩ := h
  intro i hi
  rcases List.mem_cons.1 hi with rfl | hi
  · exact (Array.getElem?_eq_some_iff.1 h2).1
  · cases A with
    | none => simp [blk] at hi
    | some ad =>
      simp [blk] at hi
      subst hi
      exact (h3.lt ad.block rfl).2
theorem Sh.lt {w : World} {P : Value} {l F : List Nat} (h : Sh w P l F) : ∀ i ∈ F, i < w.heap.size := by
  rcases h with ⟨_, _, rfl⟩ | ⟨s, A, k, c, _, h, rfl⟩
  · simp
  · exact h.lt
theorem Full.kept {w w' : World} {s : Nat} {A : Option Addr} {k c : Nat} {l : List Nat} (h : Full w s A k c l) (hk : ∀ i ∈ s :: blk A, w'.heap[i]? = w.heap[i]?) : Full w' s A k c l := by
  obtain ⟨h1, rfl, h2, h3, h4⟩ := h
  refine ⟨h1, rfl, (hk s (by simp)).trans h2, ⟨h3.1, ?_⟩, h4⟩
  rcases h3.2 with e | ⟨g, cap, cur, e, hB, hg, rest⟩
  · exact .inl e
  · injection e with e1 e2 e3
    subst e1 e3
    exact .inr ⟨g, c, cur, rfl, hB, (hk g (by simp [blk])).trans hg, rest⟩
theorem Sh.kept {w w' : World} {P : Value} {l F : List Nat} (h : Sh w P l F) (hk : ∀ i ∈ F, w'.heap[i]? = w.heap[i]?) : Sh w' P l F := by
  rcases h with h | ⟨s, A, k, c, e, h, rfl⟩
  · exact .inl h
  · exact .inr ⟨s, A, k, c, e, h.kept hk, rfl⟩
theorem Sh.below {w w' : World} {P : Value} {l F : List Nat} (h : Sh w P l F) (hb : Below w.heap.size w w') : Sh w' P l F := h.kept fun i hi => hb.block i (h.lt i hi)
theorem Sh.touch {G : Nat → Prop} {w w' : World} {P : Value} {l F : List Nat} (h : Sh w P l F) (ht : codec.Touch G w w') (hG : ∀ i ∈ F, ¬ G i) : Sh w' P l F := h.kept fun i hi => ht.2.2.2.2 i (h.lt i hi) (hG i hi)
theorem Sh.byte {w : World} {P : Value} {l F : List Nat} (h : Sh w P l F) : ∀ b ∈ l, b < 256 := by
  rcases h with ⟨_, rfl, _⟩ | ⟨s, A, k, c, e, h, rfl⟩
  · simp
  · exact h.1
/-- What is on the sheet. -/
theorem all_any (w : World) (p : Nat) (P : Value) (l F : List Nat) (hS : Sh w P l F) (h0 : w.cell? ⟨p, 0, none⟩ = some P) (h1 : w.cell? ⟨p, 0 + 1, none⟩ = some (.int .i64 (l.length : Nat))) :
    Calls Try.prog 33 #[.pointer (some ⟨p, 0, none⟩)] w fun e w' => ∃ A c, e = .returned (.slice A l.length c) ∧ Sl w A l.length c l ∧ (∀ i ∈ blk A, i ∈ F) ∧ Below w.heap.size w w' := by
  rcases hS with ⟨rfl, rfl, rfl⟩ | ⟨s, A, k, c, rfl, h, rfl⟩
  · have HS := Lib.hid (Sl.none w)
    go_enter Try.func33, Try.ntmps33
    go_wp2
    go_ret
    exact ⟨none, 0, rfl, HS.out, by simp [blk], Below.refl _ _⟩
  · obtain ⟨h2, _⟩ := h.sl
    have HS := Lib.hid h2
    have hk := h.2.1
    rw [← hk] at h1 ⊢
    have hs := cell_at h.2.2.1 0 (.slice A k c) rfl
    have hkc : k ≤ c := h2.2.1
    clear h h2 hk
    go_enter Try.func33, Try.ntmps33
    go_wp2
    go_quiet (fail)
    clear h0 h1 hs
    go_wp2
    go_ret
    exact ⟨A, c, rfl, HS.out, fun i hi => by simp [hi], codec.below_draws (Below.refl _ _) _⟩
/-- What writing behind a sheet's bytes leaves. -/
structure Put (w w' : World) (p : Nat) (cs : Array Value) (T : TypeId) (l F : List Nat) : Prop where
  ex : ∃ P' F' cs', w'.heap[p]? = some (.cells cs' T (0, 0)) ∧ cs'.size = cs.size ∧ cs'[0]? = some P' ∧ cs'[1]? = some (.int .i64 (l.length : Nat)) ∧ (∀ j, 2 ≤ j → cs'[j]? = cs[j]?) ∧ Sh w' P' l F' ∧ p ∉ F' ∧ ∀ i ∈ F', i ∈ F ∨ w.heap.size ≤ i
  touch : codec.Touch (fun i => i = p ∨ i ∈ F) w w'
theorem own_split {w : World} {v : Value} {n : Nat} {xs : List Value} (h : w.ownsRow 0 5 1 v n xs) : ∃ A c, v = .slice A n c := by
  rcases h.2 with ⟨e, h0⟩ | ⟨g, cap, cur, e, _⟩
  · exact ⟨none, 0, by rw [h0]; exact e⟩
  · exact ⟨_, cap, e⟩
theorem put_end {w w1 : World} {p s k c : Nat} {A A' : Option Addr} {c' : Nat} {cs : Array Value} {T : TypeId} {l m : List Nat} (h : Full w s A k c l) (hp : w.heap[p]? = some (.cells cs T (0, 0))) (h0 : cs[0]? = some (.pointer (some ⟨s, 0, none⟩))) (h2 : 2 ≤ cs.size) (hpF : p ∉ s :: blk A)
    (ho : w1.ownsRow 0 5 1 (.slice A' (l ++ m).length c') (l ++ m).length (vals (l ++ m))) (hg : w.grownBy w1 (Value.slice A k c).ownBlock) (hat : (Value.slice A' (l ++ m).length c').ownBlock = (Value.slice A k c).ownBlock ∨ (Value.slice A' (l ++ m).length c').ownBlock = some w.heap.size) (hm : ∀ b ∈ m, b < 256) (N : Nat) (hN : N = (l ++ m).length) :
    Put w ((w1.setCell ⟨s, 0, none⟩ (.slice A' N c')).setCell ⟨p, 1, none⟩ (.int .i64 (N : Nat))) p cs T (l ++ m) (s :: blk A) := by
  subst hN
  have hlt := h.lt
  obtain ⟨f1, rfl, f2, f3, f4⟩ := h
  have hps : p ≠ s := fun e => hpF (by simp [e])
  have hsl := hlt s (by simp)
  have hpl := (Array.getElem?_eq_some_iff.1 hp).1
  have hob : ∀ i, (Value.slice A l.length c).ownBlock = some i → i ∈ blk A := fun i e => by
    cases A with
    | none => cases e
    | some ad => cases e; simp [blk]
  have hblk : ∀ i ∈ blk A', i ∈ blk A ∨ i = w.heap.size := fun i hi => by
    cases A' with
    | none => simp [blk] at hi
    | some ad =>
      simp [blk] at hi
      subst hi
      rcases hat with e | e
      · exact .inl (hob _ e.symm)
      · exact .inr (Option.some.inj e)
  have hp1 : w1.heap[p]? = some (.cells cs T (0, 0)) := by
    rw [hg.block p hpl (fun e => hpF (by simp [hob p e.symm]))]
    exact hp
  have hs1 : w1.heap[s]? = some (.cells #[.slice A l.length c] 79 (0, 0)) := by
    rw [hg.block s hsl (fun e => f4 (hob s e.symm))]
    exact f2
  have hsA : s ∉ blk A' := fun hi => by
    rcases hblk s hi with h | h
    · exact f4 h
    · omega
  have hpA : p ∉ blk A' := fun hi => by
    rcases hblk p hi with h | h
    · exact hpF (by simp [h])
    · omega
  refine ⟨⟨.pointer (some ⟨s, 0, none⟩), s :: blk A', cs.setIfInBounds 1 (.int .i64 ((l ++ m).length : Nat)), ?_, by simp, ?_, ?_, ?_, ?_, ?_, ?_⟩, ?_⟩
  · rw [heap_setCell_same _ p 1 cs T _ (by rw [heap_setCell_other _ _ _ _ hps]; exact hp1)]
  · rw [Array.getElem?_setIfInBounds_ne (by decide)]
    exact h0
  · rw [Array.getElem?_setIfInBounds_self_of_lt (by omega)]
  · intro j hj
    rw [Array.getElem?_setIfInBounds_ne (by omega)]
  · refine .inr ⟨s, A', (l ++ m).length, c', rfl, ⟨?_, rfl, ?_, ?_, hsA⟩, rfl⟩
    · intro b hb
      rcases List.mem_append.1 hb with h | h
      · exact f1 b h
      · exact hm b h
    · rw [heap_setCell_other _ _ _ _ (Ne.symm hps), heap_setCell_same _ s 0 _ 79 _ hs1]
      simp
    · have k1 : w1.grownBy (w1.setCell ⟨s, 0, none⟩ (.slice A' (l ++ m).length c')) (some s) := ⟨rfl, rfl, rfl, by simp, fun k _ hk => heap_setCell_other _ _ _ _ (by simpa using hk)⟩
      have k2 : (w1.setCell ⟨s, 0, none⟩ (.slice A' (l ++ m).length c')).grownBy ((w1.setCell ⟨s, 0, none⟩ (.slice A' (l ++ m).length c')).setCell ⟨p, 1, none⟩ (.int .i64 ((l ++ m).length : Nat))) (some p) := ⟨rfl, rfl, rfl, by simp, fun k _ hk => heap_setCell_other _ _ _ _ (by simpa using hk)⟩
      have hne : ∀ q, q ∉ blk A' → (Value.slice A' (l ++ m).length c').ownBlock ≠ some q := fun q hq e => by
        cases A' with
        | none => cases e
        | some ad => cases e; exact hq (by simp [blk])
      exact (ho.kept k1 (.inr (hne s hsA))).kept k2 (.inr (hne p hpA))
  · intro hi
    rcases List.mem_cons.1 hi with h | h
    · exact hps h
    · exact hpA h
  · intro i hi
    rcases List.mem_cons.1 hi with rfl | h
    · exact .inl (by simp)
    · rcases hblk i h with h | h
      · exact .inl (by simp [h])
      · exact .inr (by omega)
  · have ht : codec.Touch (fun i => i = p ∨ i ∈ s :: blk A) w w1 := ⟨hg.os, hg.tape, hg.output, hg.size, fun k hk hn => hg.block k hk (fun e => hn (.inr (by simp [hob k e.symm])))⟩
    exact (ht.setCell ⟨s, 0, none⟩ (.inr (.inr (by simp))) _).setCell ⟨p, 1, none⟩ (.inr (.inl rfl)) _
theorem put_kept {w w1 : World} {p s k c : Nat} {A : Option Addr} {cs : Array Value} {T : TypeId} {l : List Nat} (h : Full w s A k c l) (hp : w.heap[p]? = some (.cells cs T (0, 0))) (h0 : cs[0]? = some (.pointer (some ⟨s, 0, none⟩))) (h1 : cs[1]? = some (.int .i64 (k : Nat))) (hpF : p ∉ s :: blk A) (hg : w.grownBy w1 (Value.slice A k c).ownBlock) :
    w1.cell? ⟨p, 0, none⟩ = some (.pointer (some ⟨s, 0, none⟩)) ∧ w1.cell? ⟨p, 1, none⟩ = some (.int .i64 (k : Nat)) ∧ w1.cell? ⟨s, 0, none⟩ = some (.slice A k c) ∧ w1.frozen? ⟨s, 0, none⟩ = false ∧ w1.frozen? ⟨p, 1, none⟩ = false ∧ s < w1.heap.size ∧ p < w1.heap.size := by
  have hlt := h.lt
  obtain ⟨f1, rfl, f2, f3, f4⟩ := h
  have hsl := hlt s (by simp)
  have hpl := (Array.getElem?_eq_some_iff.1 hp).1
  have hob : ∀ i, (Value.slice A l.length c).ownBlock = some i → i ∈ blk A := fun i e => by
    cases A with
    | none => cases e
    | some ad => cases e; simp [blk]
  have hp1 : w1.heap[p]? = some (.cells cs T (0, 0)) := by
    rw [hg.block p hpl (fun e => hpF (by simp [hob p e.symm]))]
    exact hp
  have hs1 : w1.heap[s]? = some (.cells #[.slice A l.length c] 79 (0, 0)) := by
    rw [hg.block s hsl (fun e => f4 (hob s e.symm))]
    exact f2
  exact ⟨cell_at hp1 0 _ h0, cell_at hp1 1 _ h1, cell_at hs1 0 _ rfl, frozen_of_row _ _ 0 _ _ hs1, frozen_of_row _ _ 1 _ _ hp1, (Array.getElem?_eq_some_iff.1 hs1).1, (Array.getElem?_eq_some_iff.1 hp1).1⟩
set_option maxHeartbeats 1000000 in
theorem put_full (w : World) (p s k c : Nat) (A0 : Option Addr) (cs : Array Value) (T : TypeId) (l : List Nat) (A : Option Addr) (n d : Nat) (m : List Nat) (h : Full w s A0 k c l) (hp : w.heap[p]? = some (.cells cs T (0, 0))) (h0 : cs[0]? = some (.pointer (some ⟨s, 0, none⟩))) (h1 : cs[1]? = some (.int .i64 (l.length : Nat))) (h2 : 2 ≤ cs.size) (hpF : p ∉ s :: blk A0)
    (hB : Bytes w A n m) (hA : A = none → d = 0) (hn : l.length + n ≤ 10000000) :
    Calls Try.prog 28 #[.pointer (some ⟨p, 0, none⟩), .slice A n d] w fun e w' => e = .returned (.tuple #[]) ∧ Put w w' p cs T (l ++ m) (s :: blk A0) := by
  have hc0 := cell_at hp 0 _ h0
  have hc1 : w.cell? ⟨p, 0 + 1, none⟩ = some (.int .i64 (k : Nat)) := cell_at hp 1 _ (by rw [h.2.1]; exact h1)
  have hs0 := cell_at h.2.2.1 0 (.slice A0 k c) rfl
  have hkc : k ≤ c := h.sl.1.2.1
  have hk : k = l.length := h.2.1
  have hfs := frozen_of_row _ _ 0 _ _ h.2.2.1
  have hfp := frozen_of_row _ _ 1 _ _ hp
  have hls := h.lt s (by simp)
  have hlp := (Array.getElem?_eq_some_iff.1 hp).1
  have hps : p ≠ s := fun e => hpF (by simp [e])
  have HE := Lib.hid (fun (w1 : World) (A' : Option Addr) (c' : Nat) ho hg hat N hN => put_end (w1 := w1) (m := m) (A' := A') (c' := c') h hp h0 h2 hpF ho hg hat hB.2.1 N hN)
  have HB := Lib.hid hB
  have HN := Lib.hid hA
  have HK := Lib.hid hk
  have HF := Lib.hid h
  have HP := Lib.hid hp
  have H0 := Lib.hid h0
  have H1 := Lib.hid (show cs[1]? = some (.int .i64 (k : Nat)) by rw [hk]; exact h1)
  have HX := Lib.hid (And.intro hps hpF)
  clear h hp h0 h1 hpF hB hA hk
  go_enter Try.func28, Try.ntmps28
  go_wp2
  go_quiet (fail)
  go_wp2
  obtain ⟨N, hN⟩ : ∃ N, N = (l ++ m).length := ⟨_, rfl⟩
  have HNN := Lib.hid hN
  clear hN
  go_region_law (refine codec.step_append_bytes rfl (.tmp 42) (.tmp 43) rfl 0 (.slice A0 k c) l (by simp [Act.eval, Act.put]) (HF.out.2.2.2.1) (Nat.zero_le _) A n d m (by simp [Act.eval, Act.put]) (HB.out.drewN _) HN.out (by omega) ?_; intro v1 w1 ho hg hnn hat; obtain ⟨A1, c1, rfl⟩ := own_split ho; have HO := Lib.hid ho; have hg2 : w.grownBy w1 (Value.slice A0 k c).ownBlock := ⟨hg.os, hg.tape, hg.output, hg.size, hg.block⟩; have HG := Lib.hid (And.intro hg2 hat); rw [← HNN.out]; clear ho hnn hat hg; obtain ⟨d0, d1, d2, d3, d4, d5, d6⟩ := put_kept (w1 := w1) HF.out HP.out H0.out H1.out HX.out.2 hg2; clear hg2)
  all_goals go_wp2
  all_goals
    go_end0
    exact ⟨rfl, HE.out w1 A1 c1 HO.out HG.out.1 HG.out.2 N HNN.out⟩
end Go.Proofs.Ytihcgbjmgfgenaa.lx
