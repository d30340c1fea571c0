/- How a file is laid under a name, where there was none. -/
import Derived.Test.YtedhbcaakdfcbaaE
namespace Go.Proofs.Ytedhbcaakdfcbaa.disk
open Go.ChangeShapes Go.WideShapes Go.ChangeAt Go.RowKit Go.Maps Go.WideMaps
set_option linter.unusedVariables false
set_option linter.unusedSimpArgs false

theorem dsk_newMap2 {w : World} {base p : Nat} {D : DataW Value} {c : Cfg} {fm : FM} {N : Nat} (h : Dsk w base p none D c fm N) (hB : base ≤ w.heap.size) :
    Dsk ((w.setCell ⟨p, 2, none⟩ (.map (some w.heap.size))).alloc (.map #[] 0)) base p (some w.heap.size) D c fm N := by
  have hD := h.nomap rfl
  have hlt := h.facts.2.2.2.2.2.2.2
  subst hD
  have hfm : ∀ s, fm s = none := fun s => by
    have := h.has s
    simpa [Maps.has] using this.symm
  have hno : ∀ s, blk (At (.map []) s) = none := fun s => by rw [h.none_ s (hfm s)]; simp [blk, Value.ownBlock]
  have hsz : (w.setCell ⟨p, 2, none⟩ (.map (some w.heap.size))).heap.size = w.heap.size := by simp
  refine ⟨?_, h.pb, fun e => (by cases e), fun b e => ?_, h.held, h.isMap, h.sz, h.has, h.none_, fun s f e => (by rw [hfm s] at e; cases e), fun s e => (by rw [hno s] at e; cases e), fun s b e e2 => (by rw [hno s] at e2; cases e2), fun s s' g e => (by rw [hno s] at e; cases e), h.short⟩
  · rw [heap_alloc_old _ _ _ (by rw [hsz]; exact hlt), heap_setCell_same _ p 2 _ 54 _ h.head]
    simp
  · cases e
    refine ⟨hB, by omega, ?_⟩
    have := World.ownsMap_made (w.setCell ⟨p, 2, none⟩ (.map (some w.heap.size))) Try.prog 9 raw
    rw [hsz] at this
    exact this
theorem put_done2 {w w5 w2 w3 : World} {base p B n0 : Nat} {D1 : DataW Value} {c1 : Cfg} {fm1 : FM} {N N' : Nat} {v : Value} {f : File} {k : List UInt8} (hT : Touch (fun i => i = p) w w5) (hb : Below w5.heap.size w5.drew w2) (hf : FileIs w5 base v f)
    (h2 : Dsk w2 base p (some B) D1 c1 fm1 N) (ho : w3.ownsMap Try.prog 9 raw B n0 (D1.put (.string k) (.held v))) (hg : w2.grownBy w3 (some B)) (hk : fm1 k = none) (hnp : blk v ≠ some p) (hnb : blk v ≠ some B) (ha : ∀ s g, blk (At D1 s) = some g → blk v ≠ some g) (hN : Maps.size D1 + 1 ≤ N') (hB : w.heap.size ≤ B) (hkl : k.length ≤ 281474976710656) :
    Dsk w3 base p (some B) (D1.put (.string k) (.held v)) c1 (upd fm1 k f) N' ∧ Touch (fun i => i = p) w w3 := by
  have g3 : FileIs w5.drew base v f := hf
  have f2 : FileIs w2 base v f := g3.kept (row := none) ⟨hb.os, hb.tape, hb.output, hb.size, fun k hk _ => hb.block k hk⟩ (by cases hv : blk v <;> simp)
  refine ⟨dsk_put h2 k v f hk ho hg f2 hnp hnb ha hN hkl, ?_⟩
  have t2 : Touch (fun i => i = p) w w5.drew := hT
  refine (t2.below hb).trans ⟨hg.os, hg.tape, hg.output, hg.size, fun i hi hn => hg.block i hi (fun e => hn (.inr (by have := Option.some.inj e; omega)))⟩
theorem nil_size {w : World} {base p : Nat} {D : DataW Value} {c : Cfg} {fm : FM} {N : Nat} (h : Dsk w base p none D c fm N) (k : List UInt8) : Maps.size (D.del (.string k)) + 1 ≤ bump fm k N := by
  have hD := h.nomap rfl
  subst hD
  have := h.has k
  have hk : (fm k).isSome = false := by simpa [Maps.has] using this.symm
  unfold bump
  rw [hk]
  show 0 + 1 ≤ _
  simp
theorem mk52 (w : World) : (Instr.makeMap 52 none).run Try.prog w = .ok (.map (some w.heap.size)) (w.alloc (.map #[] 0)) := by kernel_rfl
set_option maxRecDepth 50000 in
set_option maxHeartbeats 2000000 in
theorem put_nil (w : World) (base p : Nat) (D : DataW Value) (c : Cfg) (fm : FM) (N : Nat) (s : ByteArray) (hs : s.size ≤ 281474976710656) (A : Option Addr) (n cp : Nat) (sf : Nat) (ev : Bool) (f : File) (h : Dsk w base p none D c fm N)
    (hf : Comes w base p none D s.data.toList (.agg #[.slice A n cp, .int .i64 (sf : Nat), .bool ev]) f) (hN : N < 1000000) (hB : base ≤ w.heap.size) :
    Calls Try.prog 42 #[.pointer (some ⟨p, 0, none⟩), .string s, .agg #[.slice A n cp, .int .i64 (sf : Nat), .bool ev]] w fun e w' => e = .returned (.tuple #[]) ∧
      ∃ b, Dsk w' base p (some b) ((D.del (.string s.data.toList)).put (.string s.data.toList) (.held (.agg #[.slice A n cp, .int .i64 (sf : Nat), .bool ev]))) { c with used := wrap64 (wrap64 (c.used - lenAt fm s.data.toList) + n) } (upd fm s.data.toList f) (bump fm s.data.toList N) ∧ Touch (fun k => k = p) w w' ∧ w.heap.size ≤ b := by
  have HD := Lib.hid h
  have HF := Lib.hid hf
  have hpl := h.facts.2.2.2.2.2.2.2
  have hmn := map_eq
  have hmk := mk52
  have HDr := Lib.hid (fun w1 (h1 : Dsk w1 base p none D c fm N) => drop_any w1 base p none D c fm N s (by unfold maxLen; omega) h1)
  clear h hf
  go_enter Try.func42, Try.ntmps42
  go_wp2_with (first | (go_at_call 47; refine (HDr.out _ (HD.out.below ((Below.refl _ _).alloc (Nat.le_refl _) _))).mono ?_; rintro e w1 ⟨rfl, hd1, ht1⟩; have HD1 := Lib.hid hd1; have HT1 := Lib.hid ht1; obtain ⟨d0, d1, d2, d3, d4, d5, hfz, hlt⟩ := hd1.facts; have hf2 := hfz 2; clear hd1 ht1))
  have hx := (HT1.out.2.2.2.2 w.heap.size (by simp) (by simp; omega)).trans (heap_alloc_new w _)
  have hs1 : w.heap.size + 1 ≤ w1.heap.size := by have := HT1.out.2.2.2.1; simpa using this
  refine forget (fun w5 => Dsk w5 base p (some w1.heap.size) (D.del (.string s.data.toList)) { c with used := wrap64 (c.used - lenAt fm s.data.toList) } (erase fm s.data.toList) N ∧ w5.heap[w.heap.size]? = some (.cells #[.slice A n cp, .int .i64 (sf : Nat), .bool ev] 64 (0, 0)) ∧ Touch (fun k => k = p) w w5 ∧ FileIs w5 base (.agg #[.slice A n cp, .int .i64 (sf : Nat), .bool ev]) f) ?_ ?_
  · have hlt1 : w.heap.size < w1.heap.size := by omega
    have hg5 : w1.grownBy ((w1.setCell ⟨p, 2, none⟩ (.map (some w1.heap.size))).alloc (.map #[] 0)) (some p) := ⟨rfl, rfl, rfl, by simp, fun k hk hne => (heap_alloc_old _ _ _ (by simpa using hk)).trans (heap_setCell_other _ _ _ _ (by simpa using hne))⟩
    have f1 : FileIs (w.alloc (.cells #[.slice A n cp, .int .i64 (sf : Nat), .bool ev] 64)) base (.agg #[.slice A n cp, .int .i64 (sf : Nat), .bool ev]) f := HF.out.file.kept (World.grownBy_alloc w _ none) (by cases hv : blk (.agg #[.slice A n cp, .int .i64 (sf : Nat), .bool ev]) <;> simp)
    have f2 : FileIs w1 base (.agg #[.slice A n cp, .int .i64 (sf : Nat), .bool ev]) f := f1.touch HT1.out (fun g e hF => by
      rcases hF with rfl | hF
      · exact HF.out.np e
      · simp at hF)
    refine ⟨dsk_newMap2 HD1.out (by omega), ?_, ?_, f2.kept hg5 (blk_ne HF.out.np)⟩
    · rw [hg5.block _ hlt1 (by simp; omega)]
      exact hx
    · have t1 : Touch (fun k => k = p) w w1 := ((Touch.refl (fun i => i = p) w).alloc _).trans (HT1.out.mono fun i _ h => .inl (by simpa using h))
      exact t1.trans ⟨hg5.os, hg5.tape, hg5.output, hg5.size, fun k hk hn => hg5.block k hk (fun e => hn (.inl (Option.some.inj e)))⟩
  rintro w5 ⟨hd5, hx5, ht5, hf5⟩
  obtain ⟨B, hBe⟩ : ∃ B, B = w1.heap.size := ⟨_, rfl⟩
  rw [← hBe] at hd5
  have hBw : w.heap.size < B := by omega
  obtain ⟨x0, x1, x2⟩ := box_cells hx5
  have HX := Lib.hid hx5
  have HD5 := Lib.hid hd5
  have HT5 := Lib.hid ht5
  have HF5 := Lib.hid hf5
  have HE := Lib.hid (comes_del HF.out)
  have HNb : Hid (blk (.agg #[.slice A n cp, .int .i64 (sf : Nat), .bool ev]) ≠ some B) := fun e => by
    obtain ⟨sl, e1, ho, _⟩ := HF.out.file
    have e2 : blk (.agg #[.slice A n cp, .int .i64 (sf : Nat), .bool ev]) = sl.ownBlock := by rw [e1]; rfl
    have := (ho.lt B (by rw [← e2]; exact e)).2
    omega
  clear d0 d1 d2 d3 d4 d5 hfz hlt hf2 hx hs1 HT1 HD1
  obtain ⟨d0, d1, d2, d3, d4, d5, hfz, hlt⟩ := hd5.facts
  clear hd5 hx5 ht5 hf5 hBe d0 d1 d3 d4 d5 hfz hlt
  go_region_with (go_at_call 51; refine (strClone_any _ s hs).mono ?_; rintro e w2 ⟨rfl, hb2⟩; obtain ⟨w3, hd2, hx2, hr3, ho3, hg3⟩ := put_step HD5.out hb2 HX.out s (by unfold maxLen; omega) (.agg #[.slice A n cp, .int .i64 (sf : Nat), .bool ev]) hN; obtain ⟨y0, y1, y2⟩ := box_cells hx2; obtain ⟨f0, f1, f2, f3, f4, f5, hfz2, hlt2⟩ := hd2.facts; have HD2 := Lib.hid hd2; have HX2 := Lib.hid hx2; have HB2 := Lib.hid hb2; have HO3 := Lib.hid ho3; have HG3 := Lib.hid hg3; clear hb2 hx2 ho3 hg3 hd2 f0 f1 f3 f4 f5)
  all_goals
    have hfin := put_done2 (f := f) (k := s.data.toList) (N' := bump fm s.data.toList N) HT5.out HB2.out HF5.out HD2.out HO3.out HG3.out (by simp [erase]) HF.out.np HNb.out HE.out (nil_size HD.out s.data.toList) (by omega) hs
    rw [upd_erase] at hfin
    have hx3 := (HG3.out.block w.heap.size (Array.getElem?_eq_some_iff.1 HX2.out).1 (by simp; omega)).trans HX2.out
    obtain ⟨z0, z1, z2⟩ := box_cells hx3
    obtain ⟨g0, g1, g2, g3, g4, g5, hfz3, hlt3⟩ := hfin.1.facts
    have hfz1 := hfz3 (0 + 1)
    have HFin := Lib.hid hfin
    clear hfin hx3 d2 x0 x1 x2 y0 y1 y2 f2 hfz2 hlt2 hr3 z1 z2 g0 g2 g3 g4 g5 hfz3 HD2 HX2 HB2 HO3 HG3 HX
    go_wp2
    go_region
    go_wp2
    go_end0
    exact ⟨rfl, B, (dsk_used HFin.out.1 _).drewN 1, (HFin.out.2.setCell ⟨p, 1, none⟩ (.inr rfl) _).drewN 1, by omega⟩
end Go.Proofs.Ytedhbcaakdfcbaa.disk
