/- Frames that are laid one behind the other, in memory. -/
import Derived.Test.YtbgnhjmijcpffaaDoorFraQ
namespace Go.Proofs.YtbgnhjmijcpffaaDoor.frm
open Go.ChangeShapes Go.WideShapes Go.ChangeAt Go.RowKit
open Go.Proofs.YtbgnhjmijcpffaaDoor.codec (Bytes vals vals_append vals_length vals_one OutIs More Made New bytesOf byteAt bytesOf_length bytesOf_lt Fits strOf)
set_option linter.unusedVariables false
set_option maxRecDepth 100000
set_option linter.unusedSimpArgs false

/-- A payload that came in. -/
structure P where
  A : Option Addr
  n : Nat
  c : Nat
  p : List Nat
/-- A slice of payloads that came in. -/
def Slices (w : World) (A : Option Addr) (n : Nat) (L : List P) : Prop := L.length = n ∧ ∀ k, k < n → ∃ b o x, A = some ⟨b, o, none⟩ ∧ L[k]? = some x ∧ w.cell? ⟨b, o + k, none⟩ = some (.slice x.A x.n x.c) ∧ Bytes w x.A x.n x.p ∧ x.n ≤ x.c ∧ x.n ≤ maxLen ∧ (x.A = none → x.c = 0)
theorem Slices.below {w w' : World} {A : Option Addr} {n : Nat} {L : List P} (h : Slices w A n L) (hb : Below w.heap.size w w') : Slices w' A n L :=
  ⟨h.1, fun k hk => by
    obtain ⟨b, o, x, h1, h2, h3, h4, h5⟩ := h.2 k hk
    exact ⟨b, o, x, h1, h2, (hb.cell (p := ⟨b, o + k, none⟩) (block_lt_of_cell h3)).trans h3, h4.below h4.lt hb, h5⟩⟩
/-- A record put behind records of the call's own, and what stays. -/
theorem run_append_rec2 (T E : TypeId) (hT : Tryd.prog.underlying T = some (.slice E)) (hE : (Tryd.prog.info? E).map (fun i => (i.zero, i.size, i.bytes)) = some (some (.agg #[.int .i64 0, .int .i64 0, .slice none 0 0]), 3, 40))
    (w : World) (ty : TypeId) (B : Nat) (v : Value) (xs : List X) (h : Recs B E w v xs) (hB : B ≤ w.heap.size) (hn : xs.length ≤ 1000000) (x : X) (m : Nat × Nat) (g : Nat) (hg : g = w.heap.size)
    (hx : Bytes w x.A x.n x.r.pay) (hA : ∀ ad, x.A = some ad → 0 < x.n → v.ownBlock ≠ some ad.block) :
    ∃ v' w', (Builtin.append_ #[T, T] ty #[v, .slice (some ⟨g, 0, none⟩) 1 1]).run Tryd.prog (w.alloc (.cells x.cells.toArray E m)) = .ok v' w' ∧ Recs B E w' v' (xs ++ [x]) ∧ w.grownBy w' v.ownBlock ∧ (v'.ownBlock = v.ownBlock ∨ ∃ g, v'.ownBlock = some g ∧ w.heap.size ≤ g) := by
  obtain ⟨i0, hi, hz0, hz1, hz2⟩ := info_parts hE
  have ha := h.alloc (.cells x.cells.toArray E m)
  obtain ⟨v', w', hr, h1, h2, h3, h4⟩ := run_append_own_at (P := Tryd.prog) (w.alloc (.cells x.cells.toArray E m)) B T ty E i0 _ 3 40 hT hi hz0 hz1 hz2 rfl (by decide) v xs.length (cellsX xs) ha.1 ⟨g, 0, none⟩ 1 1 x.cells rfl (lit_cells x E m hg) (by
    intro u hu
    simp [X.cells] at hu
    rcases hu with rfl | rfl | rfl <;> rfl) (by unfold maxLen; omega) (by omega) (by simp; omega)
  refine ⟨v', w', hr, ha.more h1 h2 h4 (hx.alloc _) hA, ⟨h2.os, h2.tape, h2.output, Nat.le_trans (by simp) h2.size, fun k hk hne => (h2.block k (by simp; omega) hne).trans (heap_alloc_old w _ hk)⟩, ?_⟩
  rcases h4 with h4 | h4
  · exact .inl h4
  · exact .inr ⟨_, h4, by simp⟩
theorem wpList_append_rec2 {ops : Array Oper} {rest : List Oper} {o : Oper} {a : Act} {w : World} {Q : Exit → Act → World → Prop} (hgd : o.guard = none) (s y : Operand) (T E : TypeId)
    (ho : o.op = .call { callee := .builtin .append, args := #[s, y], argTypes := #[T, T] }) (hT : Tryd.prog.underlying T = some (.slice E)) (hE : (Tryd.prog.info? E).map (fun i => (i.zero, i.size, i.bytes)) = some (some (.agg #[.int .i64 0, .int .i64 0, .slice none 0 0]), 3, 40))
    (B : Nat) (v : Value) (xs : List X) (hs : a.eval s = v) (h : Recs B E w v xs) (hB : B ≤ w.heap.size) (hn : xs.length ≤ 1000000) (x : X) (m : Nat × Nat) (g : Nat) (hg : g = w.heap.size) (hy : a.eval y = .slice (some ⟨g, 0, none⟩) 1 1)
    (hx : Bytes w x.A x.n x.r.pay) (hA : ∀ ad, x.A = some ad → 0 < x.n → v.ownBlock ≠ some ad.block)
    (hK : ∀ v' w', Recs B E w' v' (xs ++ [x]) → w.grownBy w' v.ownBlock → (v'.ownBlock = v.ownBlock ∨ ∃ g, v'.ownBlock = some g ∧ w.heap.size ≤ g) → wpList Tryd.prog ops Q rest (a.put o.dst v') w') : wpList Tryd.prog ops Q (o :: rest) a (w.alloc (.cells x.cells.toArray E m)) := by
  obtain ⟨v', w', hr, h1, h2, h3⟩ := run_append_rec2 T E hT hE w o.type B v xs h hB hn x m g hg hx hA
  refine wpList_plain hgd fun _ hK' => ?_
  unfold Oper.wp execOp
  simp only [ho, resolve, invoke, builtin, Sem.run_bind, Sem.run_pure, Result.andThen_ok, List.map_toArray, List.map_cons, List.map_nil, hs, hy, hr]
  exact hK' _ _ (hK v' w' h1 h2 h3)
/-- The frames of the first payloads, and the list of what they are. -/
structure St (W : World) (i : Nat) (v7 v8 : Value) (xs : List X) (fs : List (Nat × List Nat)) (w : World) : Prop where
  recs : Recs W.heap.size 40 w v8 xs
  own : w.ownsRow W.heap.size 5 1 v7 (allF fs).length (vals (allF fs))
  apart : ∀ g, v7.ownBlock = some g → v8.ownBlock ≠ some g
  bel : Below W.heap.size W w
  told : xs.map X.r = recsF 0 fs
  good : GoodF fs
  len : fs.length = i
  old : ∀ x ∈ xs, ∀ ad, x.A = some ad → 0 < x.n → ad.block < W.heap.size
theorem recsF_length : ∀ (fs : List (Nat × List Nat)) (i : Nat), (recsF i fs).length = fs.length
  | [], _ => rfl
  | f :: fs, i => by simp [recsF, recsF_length fs]
theorem allF_lt {fs : List (Nat × List Nat)} (h : GoodF fs) : ∀ x ∈ allF fs, x < 256 := by
  intro x hx
  obtain ⟨f, hf, hx⟩ := List.mem_flatMap.1 hx
  have := h f hf
  exact frameL_lt (by omega) this.2.2.2 x hx
theorem allF_le : ∀ {fs : List (Nat × List Nat)}, GoodF fs → (allF fs).length ≤ fs.length * 2044
  | [], _ => by simp [allF]
  | f :: fs, h => by
    have h1 := allF_le (fs := fs) (fun g hg => h g (by simp [hg]))
    have h2 := h f (by simp)
    simp only [allF, List.flatMap_cons, List.length_append, frameL_length, List.length_cons] at *
    omega
theorem st_start (W : World) : St W 0 (.slice none 0 0) (.slice none 0 0) [] [] W :=
  ⟨Recs.nil _ _ _, ⟨rfl, .inl ⟨rfl, rfl⟩⟩, fun g h => (by cases h), Below.refl _ _, rfl, (by intro f hf; cases hf), rfl, by simp⟩
theorem St.xlen {W w : World} {i : Nat} {v7 v8 : Value} {xs : List X} {fs : List (Nat × List Nat)} (h : St W i v7 v8 xs fs w) : xs.length = i := by
  have := congrArg List.length h.told
  rw [recsF_length, h.len] at this
  simpa using this
/-- What a record behind the others leaves of the bytes. -/
theorem St.mid {W w w1 : World} {i : Nat} {v7 v8 v8' : Value} {xs : List X} {fs : List (Nat × List Nat)} (h : St W i v7 v8 xs fs w) (hg : w.grownBy w1 v8.ownBlock) (hat : v8'.ownBlock = v8.ownBlock ∨ ∃ g, v8'.ownBlock = some g ∧ w.heap.size ≤ g) :
    w1.ownsRow W.heap.size 5 1 v7 (allF fs).length (vals (allF fs)) ∧ (∀ g, v7.ownBlock = some g → v8'.ownBlock ≠ some g) ∧ Below W.heap.size W w1 := by
  refine ⟨h.own.kept hg ?_, fun g hg7 e => ?_, h.bel.trans ⟨hg.os, hg.tape, hg.output, hg.size, fun k hk => hg.block k (Nat.lt_of_lt_of_le hk h.bel.size) (fun e => ?_)⟩⟩
  · cases h7 : v7.ownBlock with
    | none => exact .inl rfl
    | some g => exact .inr (fun e => h.apart g h7 e.symm)
  · rcases hat with hat | ⟨g', h1, h2⟩
    · exact h.apart g hg7 (hat ▸ e)
    · rw [h1] at e
      have := (h.own.lt g hg7).2
      have := Option.some.inj e
      omega
  · have := (h.recs.1.lt _ e.symm).1
    omega
/-- What a frame behind the others leaves. -/
theorem St.step {W w w1 w2 w3 : World} {i k n c : Nat} {v7 v8 v7' v8' : Value} {xs : List X} {fs : List (Nat × List Nat)} {A : Option Addr} {p : List Nat} (h : St W i v7 v8 xs fs w) (hr : Recs W.heap.size 40 w1 v8' (xs ++ [⟨⟨(allF fs).length, k, p⟩, A, n, c⟩]))
    (h7 : w1.ownsRow W.heap.size 5 1 v7 (allF fs).length (vals (allF fs)) ∧ (∀ g, v7.ownBlock = some g → v8'.ownBlock ≠ some g) ∧ Below W.heap.size W w1) (h12 : Below w1.heap.size w1 w2)
    (ho : w3.ownsRow W.heap.size 5 1 v7' (allF fs ++ frameL k p).length (vals (allF fs ++ frameL k p))) (hg : w2.grownBy w3 v7.ownBlock) (hat : v7'.ownBlock = v7.ownBlock ∨ v7'.ownBlock = some w2.heap.size)
    (h1 : 1 ≤ k) (h3 : k ≤ 3) (hp : p.length ≤ 2000) (hlt : ∀ x ∈ p, x < 256) (hA : ∀ ad, A = some ad → 0 < n → ad.block < W.heap.size) : St W (i + 1) v7' v8' (xs ++ [⟨⟨(allF fs).length, k, p⟩, A, n, c⟩]) (fs ++ [(k, p)]) w3 := by
  obtain ⟨o7, ap, bl⟩ := h7
  have hr2 := hr.below h12
  have hold : ∀ x ∈ xs ++ [⟨⟨(allF fs).length, k, p⟩, A, n, c⟩], ∀ ad, x.A = some ad → 0 < x.n → ad.block < W.heap.size := by
    intro x hx
    rcases List.mem_append.1 hx with hx | hx
    · exact h.old x hx
    · simp at hx
      subst hx
      exact hA
  have hB7 : ∀ g, v7.ownBlock = some g → W.heap.size ≤ g := fun g hg => (o7.lt g hg).1
  refine ⟨⟨hr2.1.kept hg ?_, fun x hx => ⟨(hr2.2 x hx).1.kept fun ad e h0 => hg.block _ ((hr2.2 x hx).1.lt ad e h0) (fun e' => ?_), (hr2.2 x hx).2⟩⟩, ?_, fun g hg7 e => ?_, (bl.trans (h12.mono bl.size)).trans ⟨hg.os, hg.tape, hg.output, hg.size, fun k hk => hg.block k (Nat.lt_of_lt_of_le hk (Nat.le_trans bl.size h12.size)) (fun e => ?_)⟩, ?_, ?_, ?_, hold⟩
  · cases h8 : v8'.ownBlock with
    | none => exact .inl rfl
    | some g => exact .inr (fun e => ap g e.symm h8)
  · have a1 := hold x hx ad e h0
    have a2 := hB7 _ e'.symm
    omega
  · rw [allF_snoc]
    exact ho
  · rcases hat with hat | hat
    · exact ap g (hat ▸ hg7) e
    · rw [hat] at hg7
      have a1 := (hr2.1.lt g e).2
      have a2 := Option.some.inj hg7
      omega
  · have := hB7 _ e.symm
    omega
  · rw [recsF_snoc, ← h.told]
    simp
  · intro f hf
    rcases List.mem_append.1 hf with hf | hf
    · exact h.good f hf
    · simp at hf
      subst hf
      exact ⟨h1, h3, hp, hlt⟩
  · simp [h.len]
theorem recsF_at : ∀ (fs : List (Nat × List Nat)) (i m : Nat) (f : Nat × List Nat), fs[m]? = some f → (recsF i fs)[m]? = some ⟨i + (allF (fs.take m)).length, f.1, f.2⟩
  | [], i, m, f, h => by simp at h
  | g :: fs, i, 0, f, h => by
    simp at h
    subst h
    simp [recsF, allF]
  | g :: fs, i, m + 1, f, h => by
    have := recsF_at fs (i + (44 + g.2.length)) m f (by simpa using h)
    simp only [recsF, List.getElem?_cons_succ, this, List.take_succ_cons]
    simp [allF, frameL_length]
    omega
theorem recsF_take : ∀ (fs : List (Nat × List Nat)) (i m : Nat), (recsF i fs).take m = recsF i (fs.take m)
  | [], i, m => by simp [recsF]
  | g :: fs, i, 0 => by simp [recsF]
  | g :: fs, i, m + 1 => by simp [recsF, recsF_take fs]
theorem allF_take {fs : List (Nat × List Nat)} {m : Nat} {f : Nat × List Nat} (h : fs[m]? = some f) : (allF (fs.take (m + 1))).length = (allF (fs.take m)).length + (44 + f.2.length) := by
  rw [List.take_add_one, h]
  simp [allF, frameL_length]
theorem scan_all {fs : List (Nat × List Nat)} (hg : GoodF fs) : scan (allF fs) 0 0 = (recsF 0 fs, (allF fs).length) := by
  have := scan_frames fs [] [] (allF fs) (allF fs).length hg (by simp) (by simp)
  rw [scan_end _ _ _ (Nat.le_refl _)] at this
  simpa using this
theorem scan_cut {fs : List (Nat × List Nat)} (hg : GoodF fs) {m T : Nat} {f : Nat × List Nat} (hm : fs[m]? = some f) (h1 : (allF (fs.take m)).length ≤ T) (h2 : T < (allF (fs.take m)).length + (44 + f.2.length)) :
    scan ((allF fs).take T) 0 0 = (recsF 0 (fs.take m), (allF (fs.take m)).length) := by
  obtain ⟨k, p⟩ := f
  have hmem := List.mem_of_getElem? hm
  have hgf := hg _ hmem
  have hlen : m < fs.length := (List.getElem?_eq_some_iff.1 hm).1
  have e : allF fs = allF (fs.take m) ++ (frameL k p ++ allF (fs.drop (m + 1))) := by
    have h : fs = fs.take m ++ ((k, p) :: fs.drop (m + 1)) := by
      have := List.take_append_drop m fs
      rw [List.drop_eq_getElem_cons hlen, (List.getElem?_eq_some_iff.1 hm).2] at this
      exact this.symm
    have h' := congrArg allF h
    rw [h']
    simp [allF]
  have e2 : (allF fs).take T = [] ++ (allF (fs.take m) ++ (frameL k p).take (T - (allF (fs.take m)).length)) := by
    rw [e, List.take_append, List.take_of_length_le h1, List.take_append]
    have : T - (allF (fs.take m)).length - (frameL k p).length = 0 := by rw [frameL_length]; simp only at h2; omega
    rw [this]
    simp
  have s1 := scan_frames (fs.take m) [] _ _ (allF (fs.take m)).length (fun f hf => hg f (List.mem_of_mem_take hf)) e2 (by simp)
  have s2 := scan_part (allF (fs.take m)) k p (T - (allF (fs.take m)).length) _ hgf.1 hgf.2.1 (by have := hgf.2.2.1; simp only at this; omega) (by simp only at h2; omega) (show (allF fs).take T = _ from e2)
  simp only [List.length_nil] at s1
  rw [s1, s2]
  simp
theorem Reads.below {w w' : World} {A : Option Addr} {n : Nat} {xs : List X} (h : Reads w A n xs) (hb : Below w.heap.size w w') : Reads w' A n xs :=
  ⟨h.1, fun k hk => by
    obtain ⟨b, o, x, h1, h2, h3, h4, h5, h6⟩ := h.2 k hk
    have hl : ∀ j, w'.cell? ⟨b, j, none⟩ = w.cell? ⟨b, j, none⟩ := fun j => hb.cell (p := ⟨b, j, none⟩) (show b < w.heap.size from block_lt_of_cell (a := ⟨b, o + k * 3, none⟩) h3)
    exact ⟨b, o, x, h1, h2, (hl _).trans h3, (hl _).trans h4, (hl _).trans h5, h6.below h6.lt hb⟩⟩
end Go.Proofs.YtbgnhjmijcpffaaDoor.frm
