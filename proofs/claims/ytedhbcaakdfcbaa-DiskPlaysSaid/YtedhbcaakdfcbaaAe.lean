/- What a restart leaves of what was safe; a row of names that grows. -/
import Derived.Test.YtedhbcaakdfcbaaAd
namespace Go.Proofs.Ytedhbcaakdfcbaa.disk
open Go.ChangeShapes Go.WideShapes Go.ChangeAt Go.RowKit Go.Maps Go.WideMaps Go.Sort Go.Shelf
set_option linter.unusedVariables false
set_option linter.unusedSimpArgs false

/-- A file that is wholly safe. -/
abbrev Whole (f : File) : Prop := f.ever = true ∧ f.safe = f.l.length
theorem rstep_whole {keep : List Int} {st : FM × Nat × Int} {k s : List UInt8} {f : File} (h : st.1 s = some f) (hw : Whole f) : (rstep keep st k).1 s = some f := by
  by_cases e : s = k
  · subst e
    have hf : fileAt st.1 s = f := by simp [fileAt, h]
    unfold rstep
    rw [hf, if_pos hw]
    exact h
  · rw [rstep_other e]
    exact h
theorem rfold_whole {keep : List Int} {s : List UInt8} {f : File} (hw : Whole f) : ∀ (ns : List (List UInt8)) (st : FM × Nat × Int), st.1 s = some f → (ns.foldl (rstep keep) st).1 s = some f
  | [], st, h => h
  | k :: ns, st, h => by
    rw [List.foldl_cons]
    exact rfold_whole hw ns _ (rstep_whole h hw)
theorem rstep_made {keep : List Int} {st : FM × Nat × Int} {k : List UInt8} {f : File} (hs : ∀ s f, st.1 s = some f → f.safe ≤ f.l.length) (h : (rstep keep st k).1 k = some f) : Whole f := by
  unfold rstep at h
  split at h
  · rename_i hw
    have hf : fileAt st.1 k = f := by simp only [fileAt]; rw [h]; rfl
    rw [hf] at hw
    exact hw
  · rename_i hw
    simp only [cutFm] at h
    split at h
    · simp [erase] at h
    · simp only [upd, if_true, Option.some.injEq] at h
      subst h
      refine ⟨rfl, ?_⟩
      have hk := keptOf_range keep st.2.1 ((fileAt st.1 k).l.length - (fileAt st.1 k).safe)
      have hsk : (fileAt st.1 k).safe ≤ (fileAt st.1 k).l.length := by
        unfold fileAt
        cases hf : st.1 k with
        | none => exact Nat.le_refl _
        | some g => exact hs k g hf
      simp only [List.length_take]
      omega
theorem rstep_safe {keep : List Int} {st : FM × Nat × Int} {k : List UInt8} (hs : ∀ s f, st.1 s = some f → f.safe ≤ f.l.length) : ∀ s f, (rstep keep st k).1 s = some f → f.safe ≤ f.l.length := by
  intro s f h
  by_cases e : s = k
  · subst e
    exact Nat.le_of_eq (rstep_made hs h).2
  · rw [rstep_other e] at h
    exact hs s f h
theorem rfold_made {keep : List Int} : ∀ (ns : List (List UInt8)) (st : FM × Nat × Int), (∀ s f, st.1 s = some f → f.safe ≤ f.l.length) → (∀ s f, st.1 s = some f → s ∈ ns ∨ Whole f) → ∀ s f, (ns.foldl (rstep keep) st).1 s = some f → Whole f
  | [], st, _, h => fun s f e => (h s f e).elim (fun hh => by simp at hh) id
  | k :: ns, st, hs, h => by
    rw [List.foldl_cons]
    refine rfold_made ns _ (rstep_safe hs) fun s f e => ?_
    by_cases hk : s = k
    · subst hk
      exact .inr (rstep_made hs e)
    · rw [rstep_other hk] at e
      rcases h s f e with hh | hh
      · rcases List.mem_cons.1 hh with h1 | h1
        · exact absurd h1 hk
        · exact .inl h1
      · exact .inr hh
theorem rfold_same {keep : List Int} : ∀ (ns : List (List UInt8)) (st : FM × Nat × Int), (∀ k ∈ ns, Whole (fileAt st.1 k)) → ns.foldl (rstep keep) st = st
  | [], st, _ => rfl
  | k :: ns, st, h => by
    rw [List.foldl_cons]
    have e : rstep keep st k = st := by
      unfold rstep
      rw [if_pos (h k (by simp))]
    rw [e]
    exact rfold_same ns st fun x hx => h x (by simp [hx])
theorem restart_same {keep : List Int} {fm : FM} {u : Int} {ns : List (List UInt8)} (hL : Listed fm ns) (hw : ∀ s f, fm s = some f → Whole f) : (rfold keep fm u ns).1 = fm := by
  unfold rfold
  rw [rfold_same]
  intro k hk
  obtain ⟨f, hf⟩ := Option.isSome_iff_exists.1 ((hL.mem k).1 hk)
  have e : fileAt fm k = f := by simp [fileAt, hf]
  rw [e]
  exact hw k f hf
theorem Dsk.safe_le {w : World} {base p : Nat} {mb : Option Nat} {D : DataW Value} {c : Cfg} {fm : FM} {N : Nat} (h : Dsk w base p mb D c fm N) : ∀ s f, fm s = some f → f.safe ≤ f.l.length := fun s f e => by
  obtain ⟨sl, _, _, _, h4⟩ := h.file s f e
  exact h4
theorem restart_made {keep : List Int} {fm : FM} {u : Int} {ns : List (List UInt8)} (hL : Listed fm ns) (hs : ∀ s f, fm s = some f → f.safe ≤ f.l.length) : ∀ s f, (rfold keep fm u ns).1 s = some f → Whole f :=
  rfold_made ns _ hs fun s f e => .inl ((hL.mem s).2 (by rw [show fm s = some f from e]; rfl))
theorem info9 : (Try.prog.info? 9).map (fun i => (i.zero, i.size, i.bytes)) = some (some (.string ⟨#[]⟩), 1, 16) := by kernel_rfl
/-- A name put behind a row of names of one's own. -/
theorem run_append_name (w : World) (ty : TypeId) (base : Nat) (v : Value) (M : List (List UInt8)) (hown : w.ownsRow base 9 1 v M.length (M.map encStr)) (hbase : base ≤ w.heap.size)
    (g : Nat) (S : ByteArray) (hc : w.cell? ⟨g, 0, none⟩ = some (.string S)) (hbound : M.length ≤ 1000000000) :
    ∃ v' w', (Builtin.append_ #[43, 43] ty #[v, .slice (some ⟨g, 0, none⟩) 1 1]).run Try.prog w = .ok v' w' ∧ w'.ownsRow base 9 1 v' (M ++ [S.data.toList]).length ((M ++ [S.data.toList]).map encStr) ∧ w.grownBy w' v.ownBlock := by
  obtain ⟨i0, hi, hz0, hz1, hz2⟩ := info_parts info9
  obtain ⟨v', w', hr, h1, h2, h3, h4⟩ := run_append_own_at (P := Try.prog) w base 43 ty 9 i0 (.string ⟨#[]⟩) 1 16 Try.underlying43 hi hz0 hz1 hz2 rfl (by decide) v M.length (M.map encStr) hown ⟨g, 0, none⟩ 1 1 [.string S] (by simp) (fun j u hu => by
    rcases j with _ | j
    · simp at hu
      subst hu
      rw [add_none]
      exact hc
    · simp at hu) (by intro u hu; simp at hu; subst hu; rfl) (by unfold maxLen; omega) (by omega) hbase
  refine ⟨v', w', hr, ?_, h2⟩
  rw [List.length_append, List.map_append]
  have e : [S.data.toList].map encStr = [.string S] := by simp [encStr_def]
  rw [e]
  exact h1
theorem wpList_append_name {ops : Array Oper} {rest : List Oper} {o : Oper} {a : Act} {w : World} {Q : Exit → Act → World → Prop} (hgd : o.guard = none) (s x : Operand)
    (ho : o.op = .call { callee := .builtin .append, args := #[s, x], argTypes := #[43, 43] })
    (base : Nat) (v : Value) (M : List (List UInt8)) (hs : a.eval s = v) (hown : w.ownsRow base 9 1 v M.length (M.map encStr)) (hbase : base ≤ w.heap.size)
    (g : Nat) (S : ByteArray) (hx : a.eval x = .slice (some ⟨g, 0, none⟩) 1 1) (hc : w.cell? ⟨g, 0, none⟩ = some (.string S)) (hbound : M.length ≤ 1000000000)
    (h : ∀ v' w', w'.ownsRow base 9 1 v' (M ++ [S.data.toList]).length ((M ++ [S.data.toList]).map encStr) → w.grownBy w' v.ownBlock → wpList Try.prog ops Q rest (a.put o.dst v') w') : wpList Try.prog ops Q (o :: rest) a w :=
  wpList_plain hgd fun _ hK => by
    obtain ⟨v', w', hr, h1, h2⟩ := run_append_name w o.type base v M hown hbase g S hc hbound
    unfold Oper.wp execOp
    simp only [ho, resolve, invoke, builtin, Sem.run_bind, Sem.run_pure, Result.andThen_ok, List.map_toArray, List.map_cons, List.map_nil, hs, hx, hr]
    exact hK _ _ (h v' w' h1 h2)
/-- Names that were found safe, in a row of one's own. -/
structure SafeRow (w0 : World) (fm : FM) (k : Nat) (v : Value) (w : World) : Prop where
  ex : ∃ M : List (List UInt8), w.ownsRow w0.heap.size 9 1 v M.length (M.map encStr) ∧ (∀ s ∈ M, ∃ f, fm s = some f ∧ Whole f) ∧ M.length ≤ k
  below : Below w0.heap.size w0 w
theorem SafeRow.below' {w0 w w' : World} {fm : FM} {v : Value} {k : Nat} (h : SafeRow w0 fm k v w) (hb : Below w.heap.size w w') : SafeRow w0 fm k v w' := by
  obtain ⟨⟨M, h1, h2, h4⟩, h3⟩ := h
  exact ⟨⟨M, h1.kept (row := none) ⟨hb.os, hb.tape, hb.output, hb.size, fun i hi _ => hb.block i hi⟩ (by cases hv : v.ownBlock <;> simp), h2, h4⟩, h3.trans (hb.mono h3.size)⟩
theorem SafeRow.up {w0 w : World} {fm : FM} {v : Value} {k k' : Nat} (h : SafeRow w0 fm k v w) (hk : k ≤ k') : SafeRow w0 fm k' v w := by
  obtain ⟨⟨M, h1, h2, h4⟩, h3⟩ := h
  exact ⟨⟨M, h1, h2, Nat.le_trans h4 hk⟩, h3⟩
theorem SafeRow.add {w0 w w' : World} {fm : FM} {v v' : Value} {M : List (List UInt8)} {s : List UInt8} {f : File} {k : Nat} (hk : M.length ≤ k) (hb : Below w0.heap.size w0 w) (ho : w.ownsRow w0.heap.size 9 1 v M.length (M.map encStr)) (hM : ∀ s ∈ M, ∃ f, fm s = some f ∧ Whole f) (hf : fm s = some f) (hw : Whole f)
    (h1 : w'.ownsRow w0.heap.size 9 1 v' (M ++ [s]).length ((M ++ [s]).map encStr)) (hg : w.grownBy w' v.ownBlock) : SafeRow w0 fm (k + 1) v' w' := by
  refine ⟨⟨M ++ [s], h1, fun x hx => ?_, by simp; omega⟩, hb.trans ⟨hg.os, hg.tape, hg.output, hg.size, fun i hi => hg.block i (Nat.lt_of_lt_of_le hi hb.size) (fun e => by have := (ho.lt _ e.symm).1; omega)⟩⟩
  rcases List.mem_append.1 hx with h | h
  · exact hM x h
  · simp at h
    subst h
    exact ⟨f, hf, hw⟩
theorem SafeRow.names {w0 w : World} {fm : FM} {v : Value} {k : Nat} (h : SafeRow w0 fm k v w) : ∃ A n cp M, v = .slice A n cp ∧ NamesAt w A n M ∧ n ≤ 2 ^ 63 - 1 ∧ (∀ s ∈ M, ∃ f, fm s = some f ∧ Whole f) ∧ (∀ ad, A = some ad → w0.heap.size ≤ ad.block ∧ ad.block < w.heap.size) := by
  obtain ⟨⟨M, h1, h2, h4⟩, h3⟩ := h
  have hl := own_len h1
  rcases h1.2 with ⟨e, h0⟩ | ⟨g, cap, cur, e, hb, hg, _⟩
  · subst e
    exact ⟨none, 0, 0, M, rfl, ⟨h0, fun h => absurd h (by omega)⟩, by omega, h2, fun ad e => by cases e⟩
  · subst e
    exact ⟨_, _, _, M, rfl, namesAt_of h1 rfl, hl, h2, fun ad e => by cases e; exact ⟨hb, (Array.getElem?_eq_some_iff.1 hg).1⟩⟩
theorem listed_len {w : World} {base p : Nat} {mb : Option Nat} {D : DataW Value} {c : Cfg} {fm : FM} {N : Nat} (h : Dsk w base p mb D c fm N) {ns : List (List UInt8)} (hL : Listed fm ns) : ns.length ≤ N := by
  have e := hL.same (listed_of h (List.Perm.refl _))
  rw [e, List.length_mergeSort]
  exact Nat.le_trans (keys_le h) h.sz
theorem NamesAt.touch {F : Nat → Prop} {w w' : World} {A : Option Addr} {n : Nat} {ns : List (List UInt8)} (h : NamesAt w A n ns) (ht : Touch F w w') (hF : ∀ ad, A = some ad → ¬ F ad.block) : NamesAt w' A n ns := by
  refine ⟨h.1, fun h0 => ?_⟩
  obtain ⟨g, e, hc⟩ := h.2 h0
  refine ⟨g, e, fun k hk => ?_⟩
  have := hc k hk
  rw [← this]
  simp [World.cell?, ht.2.2.2.2 g (block_lt_of_cell this) (hF _ e)]
theorem safe_str {w : World} {base p : Nat} {mb : Option Nat} {D : DataW Value} {c : Cfg} {fm : FM} {N : Nat} (s : ByteArray) (h : Dsk w base p mb D c fm N) (f : File) (hf : fm s.data.toList = some f) (b : Bool) (hb : b = decide (Whole f)) :
    Calls Try.prog 17 #[.pointer (some ⟨p, 0, none⟩), .string s] w fun e w' => e = .returned (.bool b) ∧ Below w.heap.size w w' := by
  have hs : s.size ≤ 281474976710656 := by
    have := h.short s.data.toList (by rw [hf]; rfl)
    exact Nat.le_trans (Nat.le_of_eq (size_len s)) this
  refine (safe_any s hs h).mono ?_
  rintro e w' ⟨rfl, hw⟩
  refine ⟨?_, hw⟩
  have e : fileAt fm s.data.toList = f := by simp [fileAt, hf]
  rw [e, hb]
  by_cases h1 : f.ever = true <;> by_cases h2 : f.safe = f.l.length <;> simp [Whole, h1, h2]
end Go.Proofs.Ytedhbcaakdfcbaa.disk
