/- How a file is laid under a name. -/
import Derived.Test.YtedhbcaakdfcbaaC
import Derived.Deep.RegionWith
namespace Go.Proofs.Ytedhbcaakdfcbaa.disk
open Go.ChangeShapes Go.WideShapes Go.ChangeAt Go.RowKit Go.Maps Go.WideMaps
set_option linter.unusedVariables false
set_option linter.unusedSimpArgs false

theorem At_put {D : DataW Value} (hm : IsMap D) (k : List UInt8) (v : Value) (s : List UInt8) : At (D.put (.string k) (.held v)) s = if s = k then v else At D s := by
  by_cases h : s = k
  · subst h
    simp [At, atKey_put_same hm (show WideAt.IsKeyLit (.string s) from trivial)]
  · simp only [if_neg h, At]
    rw [atKey_put_other (lit_ne h)]
theorem Held_put {D : DataW Value} (hm : IsMap D) (h : Held D) (k : List UInt8) (v : Value) : Held (D.put (.string k) (.held v)) := by
  intro s
  by_cases e : s = k
  · subst e
    exact ⟨v, by rw [atKey_put_same hm (show WideAt.IsKeyLit (.string s) from trivial)]⟩
  · rw [atKey_put_other (lit_ne e)]
    exact h s
theorem dsk_put {w w' : World} {base p b n : Nat} {D : DataW Value} {c : Cfg} {fm : FM} {N N' : Nat} (h : Dsk w base p (some b) D c fm N) (k : List UInt8) (v : Value) (f : File) (hk : fm k = none)
    (ho : w'.ownsMap Try.prog 9 raw b n (D.put (.string k) (.held v))) (hg : w.grownBy w' (some b)) (hf : FileIs w base v f) (hp : blk v ≠ some p) (hb : blk v ≠ some b) (ha : ∀ s g, blk (At D s) = some g → blk v ≠ some g) (hN : Maps.size D + 1 ≤ N') (hkl : k.length ≤ 281474976710656) :
    Dsk w' base p (some b) (D.put (.string k) (.held v)) c (upd fm k f) N' := by
  obtain ⟨hb1, hb2, hb3⟩ := h.map b rfl
  have hlt := h.facts.2.2.2.2.2.2.2
  have hT := hb3.tidy keyed9
  refine ⟨(hg.block p hlt (by simpa using Ne.symm hb2)).trans h.head, h.pb, fun e => (by cases e), fun b' e => ?_, Held_put h.isMap h.held k v, ?_, ?_, fun s => ?_, fun s e => ?_, fun s g e => ?_, fun s e => ?_, fun s b' e e2 => ?_, fun s s' g e e' => ?_, fun s e => (by by_cases e2 : s = k; (rw [e2]; exact hkl); (exact h.short s (by simpa [upd, e2] using e)))⟩
  · cases e
    exact ⟨hb1, hb2, own_size ho⟩
  · obtain ⟨es, rfl⟩ := h.isMap
    exact ⟨_, rfl⟩
  · rw [size_put hT, h.has k, hk]
    simpa using hN
  · unfold upd
    by_cases e : s = k
    · subst e
      rw [has_put_same h.isMap (show WideAt.IsKeyLit (.string s) from trivial)]
      simp
    · rw [has_put_other (lit_ne e), if_neg e, h.has s]
  · have e2 : s ≠ k := fun e2 => by simp [upd, e2] at e
    rw [At_put h.isMap, if_neg e2]
    exact h.none_ s (by simpa [upd, e2] using e)
  · rw [At_put h.isMap]
    by_cases e2 : s = k
    · subst e2
      simp [upd] at e
      subst e
      simp only [if_true]
      exact hf.kept hg (blk_ne hb)
    · simp only [if_neg e2]
      exact (h.file s g (by simpa [upd, e2] using e)).kept hg (blk_ne (h.nb s b rfl))
  · rw [At_put h.isMap] at e
    by_cases e2 : s = k
    · rw [if_pos e2] at e; exact hp e
    · rw [if_neg e2] at e; exact h.np s e
  · cases e
    rw [At_put h.isMap] at e2
    by_cases e3 : s = k
    · rw [if_pos e3] at e2; exact hb e2
    · rw [if_neg e3] at e2; exact h.nb s b rfl e2
  · rw [At_put h.isMap] at e e'
    by_cases e2 : s = k
    · by_cases e3 : s' = k
      · rw [e2, e3]
      · rw [if_pos e2] at e; rw [if_neg e3] at e'
        exact absurd e (ha s' g e')
    · by_cases e3 : s' = k
      · rw [if_neg e2] at e; rw [if_pos e3] at e'
        exact absurd e' (ha s g e)
      · rw [if_neg e2] at e; rw [if_neg e3] at e'
        exact h.apart s s' g e e'
theorem Dsk.below {w w' : World} {base p : Nat} {mb : Option Nat} {D : DataW Value} {c : Cfg} {fm : FM} {N : Nat} (h : Dsk w base p mb D c fm N) (hb : Below w.heap.size w w') : Dsk w' base p mb D c fm N := by
  have hg : w.grownBy w' none := ⟨hb.os, hb.tape, hb.output, hb.size, fun k hk _ => hb.block k hk⟩
  refine ⟨(hb.block p h.facts.2.2.2.2.2.2.2).trans h.head, h.pb, h.nomap, fun b e => ?_, h.held, h.isMap, h.sz, h.has, h.none_, fun s f e => (h.file s f e).kept hg (by cases hv : blk (At D s) <;> simp), h.np, h.nb, h.apart, h.short⟩
  obtain ⟨h1, h2, h3⟩ := h.map b e
  exact ⟨h1, h2, h3.kept hg (by simp)⟩
theorem dsk_newMap {w : World} {base p : Nat} {D : DataW Value} {c : Cfg} {fm : FM} {N : Nat} (h : Dsk w base p none D c fm N) (hB : base ≤ w.heap.size) :
    Dsk ((w.alloc (.map #[] 0)).setCell ⟨p, 2, none⟩ (.map (some w.heap.size))) base p (some w.heap.size) D c fm N := by
  have hD := h.nomap rfl
  have hlt := h.facts.2.2.2.2.2.2.2
  subst hD
  have hfm : ∀ s, fm s = none := fun s => by
    have := h.has s
    simpa [Maps.has] using this.symm
  have hno : ∀ s, blk (At (.map []) s) = none := fun s => by rw [h.none_ s (hfm s)]; simp [blk, Value.ownBlock]
  refine ⟨?_, h.pb, fun e => (by cases e), fun b e => ?_, h.held, h.isMap, h.sz, h.has, h.none_, fun s f e => (by rw [hfm s] at e; cases e), fun s e => (by rw [hno s] at e; cases e), fun s b e e2 => (by rw [hno s] at e2; cases e2), fun s s' g e => (by rw [hno s] at e; cases e), h.short⟩
  · rw [heap_setCell_same _ p 2 #[.int .i64 c.cap, .int .i64 c.used, .map none, .bool c.fused, .int .i64 c.fuse, .bool c.lost] 54 _ ((heap_alloc_old w _ _ hlt).trans h.head)]
    simp
  · cases e
    refine ⟨hB, by omega, ?_⟩
    have := (World.ownsMap_made w Try.prog 9 raw).setCell (a := ⟨p, 2, none⟩) (by show w.heap.size ≠ p; omega) (.map (some w.heap.size))
    simpa [Maps.size] using this
def bump (fm : FM) (k : List UInt8) (N : Nat) : Nat := if (fm k).isSome then N else N + 1
theorem map_ne (w : World) (b : Nat) : (binOp BinOp.eql 52 (Value.map (some b)) (Value.map none)).run Try.prog w = .ok (.bool false) w := by kernel_rfl
theorem map_eq (w : World) : (binOp BinOp.eql 52 (Value.map none) (Value.map none)).run Try.prog w = .ok (.bool true) w := by kernel_rfl
theorem box_cells {w : World} {X : Nat} {x y z : Value} (h : w.heap[X]? = some (.cells #[x, y, z] 64 (0, 0))) : w.cell? ⟨X, 0, none⟩ = some x ∧ w.cell? ⟨X, 0 + 1, none⟩ = some y ∧ w.cell? ⟨X, 2, none⟩ = some z :=
  ⟨by simp [World.cell?, h], by simp [World.cell?, h], by simp [World.cell?, h]⟩
/-- What a put asks of the file that comes. -/
structure Comes (w : World) (base p : Nat) (mb : Option Nat) (D : DataW Value) (k : List UInt8) (v : Value) (f : File) : Prop where
  file : FileIs w base v f
  np : blk v ≠ some p
  nb : ∀ b, mb = some b → blk v ≠ some b
  apart : ∀ s g, s ≠ k → blk (At D s) = some g → blk v ≠ some g
theorem comes_del {w : World} {base p : Nat} {mb : Option Nat} {D : DataW Value} {k : List UInt8} {v : Value} {f : File} (h : Comes w base p mb D k v f) : ∀ s g, blk (At (D.del (.string k)) s) = some g → blk v ≠ some g := by
  intro s g e
  rw [At_del] at e
  by_cases e2 : s = k
  · rw [if_pos e2] at e
    simp [blk, Value.ownBlock] at e
  · rw [if_neg e2] at e
    exact h.apart s g e2 e
theorem FileIs.touch {F : Nat → Prop} {w w' : World} {base : Nat} {v : Value} {f : File} (h : FileIs w base v f) (ht : Touch F w w') (hF : ∀ g, blk v = some g → ¬ F g) : FileIs w' base v f := by
  obtain ⟨sl, rfl, ho, h3⟩ := h
  refine ⟨sl, rfl, ⟨ho.1, ?_⟩, h3⟩
  rcases ho.2 with e | ⟨g, cap, cur, e, hb, hg, rest⟩
  · exact .inl e
  · refine .inr ⟨g, cap, cur, e, hb, ?_, rest⟩
    have hv : blk (.agg #[sl, .int .i64 (f.safe : Nat), .bool f.ever]) = some g := by rw [e]; rfl
    exact (ht.2.2.2.2 g (Array.getElem?_eq_some_iff.1 hg).1 (hF g hv)).trans hg
theorem put_step {w1 w2 : World} {base p b X : Nat} {D : DataW Value} {c : Cfg} {fm : FM} {N : Nat} {x y z : Value} (h : Dsk w1 base p (some b) D c fm N) (hb : Below w1.heap.size w1.drew w2) (hx : w1.heap[X]? = some (.cells #[x, y, z] 64 (0, 0))) (s : ByteArray) (hs : s.size ≤ maxLen) (v : Value) (hN : N < 1000000) :
    ∃ w3, Dsk w2 base p (some b) D c fm N ∧ w2.heap[X]? = some (.cells #[x, y, z] 64 (0, 0)) ∧ (Instr.mapUpdate 52 (.map (some b)) (.string s) v).run Try.prog w2 = .ok () w3 ∧ w3.ownsMap Try.prog 9 raw b (Maps.size D + 1) (D.put (.string s.data.toList) (.held v)) ∧ w2.grownBy w3 (some b) := by
  have h2 : Dsk w2 base p (some b) D c fm N := Dsk.below (w := w1.drew) (h.drewN 1) hb
  have hx2 := (hb.block X (Array.getElem?_eq_some_iff.1 hx).1).trans hx
  obtain ⟨w3, hr, ho, hg⟩ := (h2.map b rfl).2.2.update keyed9 Try.underlying52 (by have := h2.sz; unfold maxLen; omega) (keyOf_string_mk Try.underlying9 hs) (val := v) rfl
  exact ⟨w3, h2, hx2, hr, ho, hg⟩
theorem upd_erase (fm : FM) (k : List UInt8) (f : File) : upd (erase fm k) k f = upd fm k f := by
  funext s
  unfold upd erase
  by_cases h : s = k <;> simp [h]
theorem put_done {w w1 w2 w3 : World} {base p b n0 : Nat} {D : DataW Value} {c c1 : Cfg} {fm : FM} {N : Nat} {v : Value} {f : File} {k : List UInt8} {o : Obj} (h : Dsk w base p (some b) D c fm N) (hc : Comes w base p (some b) D k v f) (hT : Touch (fun i => i = p ∨ some b = some i) (w.alloc o) w1) (hb : Below w1.heap.size w1.drew w2)
    (h2 : Dsk w2 base p (some b) (D.del (.string k)) c1 (erase fm k) N) (ho : w3.ownsMap Try.prog 9 raw b n0 ((D.del (.string k)).put (.string k) (.held v))) (hg : w2.grownBy w3 (some b)) (hkl : k.length ≤ 281474976710656) :
    Dsk w3 base p (some b) ((D.del (.string k)).put (.string k) (.held v)) c1 (upd fm k f) (bump fm k N) ∧ Touch (fun i => i = p ∨ i = b) w w3 := by
  have f1 : FileIs w2 base v f := by
    have g1 : FileIs (w.alloc o) base v f := hc.file.kept (World.grownBy_alloc w o none) (by cases hv : blk v <;> simp)
    have g2 : FileIs w1 base v f := g1.touch hT (fun g e hF => by
      rcases hF with rfl | hF
      · exact hc.np e
      · exact hc.nb g hF e)
    have g3 : FileIs w1.drew base v f := g2
    exact g3.kept (row := none) ⟨hb.os, hb.tape, hb.output, hb.size, fun k hk _ => hb.block k hk⟩ (by cases hv : blk v <;> simp)
  have hsz : Maps.size (D.del (.string k)) + 1 ≤ bump fm k N := by
    have hT := (h.map b rfl).2.2.tidy keyed9
    have := size_del (k := .string k) hT
    have hN := h.sz
    rw [h.has k] at this
    unfold bump
    cases hk : (fm k).isSome with
    | true => rw [hk] at this; simp at this ⊢; omega
    | false => rw [hk] at this; simp at this ⊢; omega
  have hd := dsk_put h2 k v f (by simp [erase]) ho hg f1 hc.np (hc.nb b rfl) (comes_del hc) hsz hkl
  rw [upd_erase] at hd
  refine ⟨hd, ?_⟩
  have t1 : Touch (fun i => i = p ∨ i = b) w w1 := by
    have := ((Touch.refl (fun i => i = p ∨ i = b) w).alloc o).trans (hT.mono fun i _ h => .inl (by simpa [eq_comm] using h))
    exact this
  have t2 : Touch (fun i => i = p ∨ i = b) w w1.drew := t1
  refine (t2.below hb).trans ⟨hg.os, hg.tape, hg.output, hg.size, fun i hi hn => hg.block i hi (fun e => hn (.inl (.inr (Option.some.inj e))))⟩
set_option maxRecDepth 50000 in
set_option maxHeartbeats 2000000 in
theorem put_some (w : World) (base p b : Nat) (D : DataW Value) (c : Cfg) (fm : FM) (N : Nat) (s : ByteArray) (hs : s.size ≤ 281474976710656) (A : Option Addr) (n cp : Nat) (sf : Nat) (ev : Bool) (f : File) (h : Dsk w base p (some b) D c fm N)
    (hf : Comes w base p (some b) D s.data.toList (.agg #[.slice A n cp, .int .i64 (sf : Nat), .bool ev]) f) (hN : N < 1000000) :
    Calls Try.prog 42 #[.pointer (some ⟨p, 0, none⟩), .string s, .agg #[.slice A n cp, .int .i64 (sf : Nat), .bool ev]] w fun e w' => e = .returned (.tuple #[]) ∧
      Dsk w' base p (some b) ((D.del (.string s.data.toList)).put (.string s.data.toList) (.held (.agg #[.slice A n cp, .int .i64 (sf : Nat), .bool ev]))) { c with used := wrap64 (wrap64 (c.used - lenAt fm s.data.toList) + n) } (upd fm s.data.toList f) (bump fm s.data.toList N) ∧ Touch (fun k => k = p ∨ k = b) w w' := by
  have HD := Lib.hid h
  have HF := Lib.hid hf
  have hpl := h.facts.2.2.2.2.2.2.2
  have hbl := (h.map b rfl).2.2.lt
  have hmn := fun w' => map_ne w' b
  have HDr := Lib.hid (fun w1 (h1 : Dsk w1 base p (some b) D c fm N) => drop_any w1 base p (some b) D c fm N s (by unfold maxLen; omega) h1)
  clear h hf
  go_enter Try.func42, Try.ntmps42
  go_wp2_with (first | (go_at_call 47; refine (HDr.out _ (HD.out.below ((Below.refl _ _).alloc (Nat.le_refl _) _))).mono ?_; rintro e w1 ⟨rfl, hd1, ht1⟩; have HD1 := Lib.hid hd1; have HT1 := Lib.hid ht1; obtain ⟨d0, d1, d2, d3, d4, d5, hfz, hlt⟩ := hd1.facts; clear hd1 ht1))
  have hx := (HT1.out.2.2.2.2 w.heap.size (by simp) (by simp; omega)).trans (heap_alloc_new w _)
  obtain ⟨x0, x1, x2⟩ := box_cells hx
  have HX := Lib.hid hx
  clear hx
  go_region_with (go_at_call 51; refine (strClone_any _ s hs).mono ?_; rintro e w2 ⟨rfl, hb2⟩; obtain ⟨w3, hd2, hx2, hr3, ho3, hg3⟩ := put_step HD1.out hb2 HX.out s (by unfold maxLen; omega) (.agg #[.slice A n cp, .int .i64 (sf : Nat), .bool ev]) hN; obtain ⟨y0, y1, y2⟩ := box_cells hx2; obtain ⟨f0, f1, f2, f3, f4, f5, hfz2, hlt2⟩ := hd2.facts; have HD2 := Lib.hid hd2; have HX2 := Lib.hid hx2; have HB2 := Lib.hid hb2; have HO3 := Lib.hid ho3; have HG3 := Lib.hid hg3; clear hb2 hx2 ho3 hg3 hd2)
  all_goals
    have hfin := put_done HD.out HF.out HT1.out HB2.out HD2.out HO3.out HG3.out hs
    have hx3 := (HG3.out.block w.heap.size (Array.getElem?_eq_some_iff.1 HX2.out).1 (by simp; omega)).trans HX2.out
    obtain ⟨z0, z1, z2⟩ := box_cells hx3
    obtain ⟨g0, g1, g2, g3, g4, g5, hfz3, hlt3⟩ := hfin.1.facts
    have hfz1 := hfz3 (0 + 1)
    have HFin := Lib.hid hfin
    clear hfin hx3 d0 d1 d2 d3 d4 d5 hfz hlt x0 x1 x2 y0 y1 y2 f0 f1 f2 f3 f4 f5 hfz2 hlt2 hr3 z1 z2 g0 g2 g3 g4 g5 hfz3 HD2 HX2 HB2 HO3 HG3 HX HT1 HD1
    go_wp2
    go_region
    go_wp2
    go_end0
    exact ⟨rfl, (dsk_used HFin.out.1 _).drewN 1, (HFin.out.2.setCell ⟨p, 1, none⟩ (.inr (.inl rfl)) _).drewN 1⟩
end Go.Proofs.Ytedhbcaakdfcbaa.disk
