/- A disk in memory, and how a file is laid under a name, and taken away. -/
import Derived.Test.YtedhbcaakdfcbaaB
namespace Go.Proofs.Ytedhbcaakdfcbaa.disk
open Go.ChangeShapes Go.WideShapes Go.ChangeAt Go.RowKit Go.Maps Go.WideMaps
set_option linter.unusedVariables false
set_option linter.unusedSimpArgs false

structure File where
  l : List Nat
  safe : Nat
  ever : Bool
structure Cfg where
  cap : Int
  used : Int
  fused : Bool
  fuse : Int
  lost : Bool
abbrev FM := List UInt8 → Option File
/-- The block of a file's bytes. -/
def blk : Value → Option Nat
  | .agg cs => (cs.getD 0 undef).ownBlock
  | _ => none
/-- A value is a file. -/
def FileIs (w : World) (base : Nat) (v : Value) (f : File) : Prop := ∃ sl, v = .agg #[sl, .int .i64 (f.safe : Nat), .bool f.ever] ∧ w.ownsRow base 5 1 sl f.l.length (vals f.l) ∧ (∀ x ∈ f.l, x < 256) ∧ f.safe ≤ f.l.length
/-- A disk, at p. -/
structure Dsk (w : World) (base p : Nat) (mb : Option Nat) (D : DataW Value) (c : Cfg) (fm : FM) (N : Nat) : Prop where
  head : w.heap[p]? = some (.cells #[.int .i64 c.cap, .int .i64 c.used, .map mb, .bool c.fused, .int .i64 c.fuse, .bool c.lost] 54 (0, 0))
  pb : base ≤ p
  nomap : mb = none → D = .map []
  map : ∀ b, mb = some b → base ≤ b ∧ b ≠ p ∧ w.ownsMap Try.prog 9 raw b (Maps.size D) D
  held : Held D
  isMap : IsMap D
  sz : Maps.size D ≤ N
  has : ∀ s, Maps.has D (.string s) = (fm s).isSome
  none_ : ∀ s, fm s = none → At D s = noFile
  file : ∀ s f, fm s = some f → FileIs w base (At D s) f
  np : ∀ s, blk (At D s) ≠ some p
  nb : ∀ s b, mb = some b → blk (At D s) ≠ some b
  apart : ∀ s s' g, blk (At D s) = some g → blk (At D s') = some g → s = s'
  short : ∀ s, (fm s).isSome = true → s.length ≤ 281474976710656
def Foot (p : Nat) (mb : Option Nat) (D : DataW Value) (k : Nat) : Prop := k = p ∨ mb = some k ∨ ∃ s, blk (At D s) = some k
theorem Dsk.facts {w : World} {base p : Nat} {mb : Option Nat} {D : DataW Value} {c : Cfg} {fm : FM} {N : Nat} (h : Dsk w base p mb D c fm N) :
    w.cell? ⟨p, 0, none⟩ = some (.int .i64 c.cap) ∧ w.cell? ⟨p, 0 + 1, none⟩ = some (.int .i64 c.used) ∧ w.cell? ⟨p, 2, none⟩ = some (.map mb) ∧ w.cell? ⟨p, 3, none⟩ = some (.bool c.fused) ∧ w.cell? ⟨p, 4, none⟩ = some (.int .i64 c.fuse) ∧ w.cell? ⟨p, 5, none⟩ = some (.bool c.lost) ∧
    (∀ j, w.frozen? ⟨p, j, none⟩ = false) ∧ p < w.heap.size := by
  have h := h.head
  exact ⟨by simp [World.cell?, h], by simp [World.cell?, h], by simp [World.cell?, h], by simp [World.cell?, h], by simp [World.cell?, h], by simp [World.cell?, h], fun j => by simp [World.frozen?, h], (Array.getElem?_eq_some_iff.1 h).1⟩
theorem Dsk.look {w : World} {base p : Nat} {mb : Option Nat} {D : DataW Value} {c : Cfg} {fm : FM} {N : Nat} (h : Dsk w base p mb D c fm N) (s : ByteArray) (hs : s.size ≤ maxLen) :
    (Instr.lookup 52 (.map mb) (.string s) false).run Try.prog w = .ok (At D s.data.toList) w ∧ (Instr.lookup 52 (.map mb) (.string s) true).run Try.prog w = .ok (.tuple #[At D s.data.toList, .bool (Maps.has D (.string s.data.toList))]) w := by
  cases mb with
  | none =>
    have hD := h.nomap rfl
    subst hD
    have e1 := Maps.look_nil (w := w) false keyed9 Try.underlying52 (zero64 w) (keyOf_string_mk Try.underlying9 hs)
    have e2 := Maps.look_nil (w := w) true keyed9 Try.underlying52 (zero64 w) (keyOf_string_mk Try.underlying9 hs)
    exact ⟨e1, e2⟩
  | some b => exact ⟨look_at (h.map b rfl).2.2 h.held s hs, look_ok_at (h.map b rfl).2.2 h.held s hs⟩
/-- A file's value, whether it is there or not. -/
theorem Dsk.form {w : World} {base p : Nat} {mb : Option Nat} {D : DataW Value} {c : Cfg} {fm : FM} {N : Nat} (h : Dsk w base p mb D c fm N) (s : List UInt8) :
    ∃ A n cp sf ev, At D s = .agg #[.slice A n cp, .int .i64 (sf : Nat), .bool ev] ∧ n = ((fm s).map (·.l.length)).getD 0 := by
  cases hf : fm s with
  | none => exact ⟨none, 0, 0, 0, false, h.none_ s hf, rfl⟩
  | some f =>
    obtain ⟨sl, e, ho, _, _⟩ := h.file s f hf
    rcases ho.2 with ⟨e1, e2⟩ | ⟨g, cap, cur, e1, _⟩
    · subst e1
      exact ⟨none, 0, 0, f.safe, f.ever, e, by simp [e2]⟩
    · subst e1
      exact ⟨_, _, _, f.safe, f.ever, e, by simp⟩

theorem Dsk.drewN {w : World} {base p : Nat} {mb : Option Nat} {D : DataW Value} {c : Cfg} {fm : FM} {N : Nat} (h : Dsk w base p mb D c fm N) (q : Nat) : Dsk (w.drewN q) base p mb D c fm N :=
  ⟨h.head, h.pb, h.nomap, h.map, h.held, h.isMap, h.sz, h.has, h.none_, h.file, h.np, h.nb, h.apart, h.short⟩
theorem field0 (w : World) (A : Option Addr) (n c : Nat) (y z : Value) : (Instr.field 64 (.agg #[.slice A n c, y, z]) 0).run Try.prog w = .ok (.slice A n c) w := by kernel_rfl
theorem own_size {w : World} {b n : Nat} {D : DataW Value} (h : w.ownsMap Try.prog 9 raw b n D) : w.ownsMap Try.prog 9 raw b (Maps.size D) D := by
  obtain ⟨es, clock, h1, h2, h3, rfl⟩ := h
  exact ⟨es, clock, h1, h2, by simp [Maps.size, length_sorted], rfl⟩
def erase (fm : FM) (k : List UInt8) : FM := fun s => if s = k then none else fm s
def upd (fm : FM) (k : List UInt8) (f : File) : FM := fun s => if s = k then some f else fm s
theorem lit_ne {s k : List UInt8} (h : s ≠ k) : (Lit.string s) ≠ .string k := fun e => h (by cases e; rfl)
theorem At_del (D : DataW Value) (k s : List UInt8) : At (D.del (.string k)) s = if s = k then noFile else At D s := by
  by_cases h : s = k
  · subst h
    simp [At, atKey_del_same]
  · simp only [if_neg h, At]
    rw [atKey_del_other (lit_ne h)]
theorem Held_del {D : DataW Value} (h : Held D) (k : List UInt8) : Held (D.del (.string k)) := by
  intro s
  by_cases e : s = k
  · subst e
    exact ⟨noFile, by rw [atKey_del_same]⟩
  · rw [atKey_del_other (lit_ne e)]
    exact h s
theorem FileIs.kept {w w' : World} {base : Nat} {v : Value} {f : File} {row : Option Nat} (h : FileIs w base v f) (hg : w.grownBy w' row) (hne : blk v = none ∨ blk v ≠ row) : FileIs w' base v f := by
  obtain ⟨sl, rfl, ho, h3⟩ := h
  exact ⟨sl, rfl, ho.kept hg (by simpa [blk] using hne), h3⟩
theorem blk_ne {v : Value} {b : Nat} (h : blk v ≠ some b) : blk v = none ∨ blk v ≠ some b := .inr h
theorem dsk_del {w w' : World} {base p b n : Nat} {D : DataW Value} {c : Cfg} {fm : FM} {N : Nat} (h : Dsk w base p (some b) D c fm N) (k : List UInt8) (ho : w'.ownsMap Try.prog 9 raw b n (D.del (.string k))) (hg : w.grownBy w' (some b)) : Dsk w' base p (some b) (D.del (.string k)) c (erase fm k) N := by
  obtain ⟨hb1, hb2, hb3⟩ := h.map b rfl
  have hlt := h.facts.2.2.2.2.2.2.2
  have hblk : ∀ s, blk (At (D.del (.string k)) s) = none ∨ blk (At (D.del (.string k)) s) = blk (At D s) := fun s => by
    rw [At_del]
    by_cases e : s = k
    · left; simp [e, blk, Value.ownBlock]
    · right; simp [e]
  have hcut : ∀ s g, blk (At (D.del (.string k)) s) = some g → blk (At D s) = some g := fun s g e => by
    rcases hblk s with h1 | h1
    · rw [h1] at e; cases e
    · rw [← h1]; exact e
  refine ⟨(hg.block p hlt (by simpa using Ne.symm hb2)).trans h.head, h.pb, fun e => (by cases e), fun b' e => ?_, Held_del h.held k, ?_, ?_, fun s => ?_, fun s e => ?_, fun s f e => ?_, fun s e => h.np s (hcut s _ e), fun s b' e e2 => h.nb s b' e (hcut s _ e2), fun s s' g e e' => h.apart s s' g (hcut s _ e) (hcut s' _ e'), fun s e => h.short s (by unfold erase at e; split at e; cases e; exact e)⟩
  · cases e
    exact ⟨hb1, hb2, own_size ho⟩
  · obtain ⟨es, rfl⟩ := h.isMap
    exact ⟨_, rfl⟩
  · refine Nat.le_trans ?_ h.sz
    obtain ⟨es, rfl⟩ := h.isMap
    exact List.length_filter_le _ _
  · unfold erase
    by_cases e : s = k
    · subst e
      rw [has_del_same]
      simp
    · rw [has_del_other (lit_ne e), if_neg e, h.has s]
  · rw [At_del]
    by_cases e2 : s = k
    · simp [e2]
    · simp only [if_neg e2]
      exact h.none_ s (by simpa [erase, e2] using e)
  · have hsk : s ≠ k := fun e2 => by simp [erase, e2] at e
    rw [At_del, if_neg hsk]
    exact (h.file s f (by simpa [erase, hsk] using e)).kept hg (blk_ne (h.nb s b rfl))
theorem dsk_del_nil {w : World} {base p : Nat} {D : DataW Value} {c : Cfg} {fm : FM} {N : Nat} (h : Dsk w base p none D c fm N) (k : List UInt8) : Dsk w base p none (D.del (.string k)) c (erase fm k) N := by
  have hD := h.nomap rfl
  subst hD
  have hfm : ∀ s, fm s = none := fun s => by
    have := h.has s
    simpa [Maps.has] using this.symm
  have e : erase fm k = fm := by
    funext s
    unfold erase
    rw [hfm s]
    simp
  rw [e]
  exact h
theorem dsk_used {w : World} {base p : Nat} {mb : Option Nat} {D : DataW Value} {c : Cfg} {fm : FM} {N : Nat} (h : Dsk w base p mb D c fm N) (u : Int) : Dsk (w.setCell ⟨p, 1, none⟩ (.int .i64 u)) base p mb D { c with used := u } fm N := by
  have hg : w.grownBy (w.setCell ⟨p, 1, none⟩ (.int .i64 u)) (some p) := ⟨rfl, rfl, rfl, by simp, fun k _ hk => heap_setCell_other _ _ _ _ (by simpa using hk)⟩
  refine ⟨?_, h.pb, h.nomap, fun b e => ?_, h.held, h.isMap, h.sz, h.has, h.none_, fun s f e => (h.file s f e).kept hg (blk_ne (h.np s)), h.np, h.nb, h.apart, h.short⟩
  · rw [heap_setCell_same _ p 1 _ 54 _ h.head]
    simp
  · obtain ⟨h1, h2, h3⟩ := h.map b e
    exact ⟨h1, h2, h3.kept hg (by simpa using h2)⟩
theorem forget {P : Program} {cd : Code} {a : Act} {w : World} {Q : Exit → Act → World → Prop} (R : World → Prop) (hR : R w) (h : ∀ w1, R w1 → Code.wp P cd Q a w1) : Code.wp P cd Q a w := h w hR
/-- How many bytes there are under a name. -/
def lenAt (fm : FM) (s : List UInt8) : Nat := ((fm s).map (·.l.length)).getD 0
set_option maxRecDepth 50000 in
set_option maxHeartbeats 1000000 in
theorem drop_any (w : World) (base p : Nat) (mb : Option Nat) (D : DataW Value) (c : Cfg) (fm : FM) (N : Nat) (s : ByteArray) (hs : s.size ≤ maxLen) (h : Dsk w base p mb D c fm N) :
    Calls Try.prog 47 #[.pointer (some ⟨p, 0, none⟩), .string s] w fun e w' => e = .returned (.tuple #[]) ∧ Dsk w' base p mb (D.del (.string s.data.toList)) { c with used := wrap64 (c.used - lenAt fm s.data.toList) } (erase fm s.data.toList) N ∧ Touch (fun k => k = p ∨ mb = some k) w w' := by
  obtain ⟨d0, d1, d2, d3, d4, d5, hf, hlt⟩ := h.facts
  obtain ⟨A, n, cp, sf, ev, hat, hn⟩ := h.form s.data.toList
  have hlk : (Instr.lookup 52 (.map mb) (.string s) false).run Try.prog w.drew = .ok (At D s.data.toList) w.drew := ((h.drewN 1).look s hs).1
  rw [hat] at hlk
  have hf1 := hf (0 + 1)
  have hfd := fun w' => field0 w' A n cp (.int .i64 (sf : Nat)) (.bool ev)
  have HD := Lib.hid h
  have hn' : lenAt fm s.data.toList = n := hn.symm
  rw [hn']
  clear h hf hat hn hn'
  go_enter Try.func47, Try.ntmps47
  go_wp2
  go_region
  have HD2 : Hid (Dsk (w.setCell ⟨p, 1, none⟩ (.int .i64 (wrap64 (c.used - n)))).drew base p mb D { c with used := wrap64 (c.used - n) } fm N) := (dsk_used HD.out (wrap64 (c.used - n))).drewN 1
  have HT2 : Hid (Touch (fun k => k = p ∨ mb = some k) w (w.setCell ⟨p, 1, none⟩ (.int .i64 (wrap64 (c.used - n)))).drew) := ((Touch.refl _ w).setCell ⟨p, 1, none⟩ (.inr (.inl rfl)) _).drewN 1
  generalize (w.setCell ⟨p, 1, none⟩ (.int .i64 (wrap64 (c.used - n)))).drew = w2 at *
  clear d0 d1 d2 d3 d4 d5 hf1 hlt hlk hfd HD
  obtain ⟨e0, e1, e2, e3, e4, e5, hf, hlt⟩ := HD2.out.facts
  clear e0 e1 e3 e4 e5 hf hlt
  cases mb with
  | none =>
    have hdr := fun ty => Maps.drop_nil (w := w2) keyed9 Try.underlying52 (keyOf_string_mk Try.underlying9 hs) ty
    go_wp2
    go_end0
    exact ⟨rfl, dsk_del_nil HD2.out _, HT2.out⟩
  | some b =>
    have HK := Lib.hid (keyOf_string_mk Try.underlying9 hs)
    go_wp2_with (at_delete; refine wpList_delete_own _ rfl (.tmp 22) (.tmp 23) 52 9 rfl 64 keyed9 Try.underlying52 raw b _ D rfl (HD2.out.map b rfl).2.2 (.string s) (.string s.data.toList) rfl HK.out ?_; intro w3 ho ht; have HO := Lib.hid ho; have HG := Lib.hid ht.grown; clear ho ht)
    go_end0
    refine ⟨rfl, dsk_del HD2.out _ HO.out HG.out, (HT2.out.trans (F := fun k => k = p ∨ some b = some k) ⟨HG.out.os, HG.out.tape, HG.out.output, HG.out.size, fun k hk hn => HG.out.block k hk (fun e => hn (.inl (.inr e.symm)))⟩).mono fun i _ h => by simpa using h⟩
end Go.Proofs.Ytedhbcaakdfcbaa.disk
