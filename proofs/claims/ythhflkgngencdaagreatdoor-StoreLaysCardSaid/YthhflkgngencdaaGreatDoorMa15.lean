/- What a store begins with: plain mathematics. -/
import Derived.Test.YthhflkgngencdaaGreatDoorMa14
import Derived.Test.YthhflkgngencdaaGreatDoorMa04
import Derived.Test.YthhflkgngencdaaGreatDoorRows
import Derived.Shelf.SlIter.Nil
import Derived.Sort.EncStr
import Derived.Test.YthhflkgngencdaaGreatDoorMa00
import Derived.Test.YthhflkgngencdaaGreatDoorMa02
import Derived.Maps.OwnSet
import Derived.Maps.Views
import Derived.StringKeys
import Derived.Deep.RegionWith
namespace Go.Proofs.YthhflkgngencdaaGreatDoor.sto
open Go.Proofs.YthhflkgngencdaaGreatDoor.bod (named)
open Go.Proofs.YthhflkgngencdaaGreatDoor.frm (frameL allF)
open Go.Proofs.YthhflkgngencdaaGreatDoor.lg (Nt pick livB notesL ntsL nmL epo nxt top cl lives frs AllOk)
open Go.Proofs.YthhflkgngencdaaGreatDoor.idx (E P treeB treeL indexB flsB)
set_option linter.unusedVariables false
set_option maxRecDepth 100000
set_option linter.unusedSimpArgs false

def inbS : ByteArray := ⟨#[73, 78, 66, 79, 88]⟩
theorem named_inb : named inbS = true := by kernel_rfl
def beginL (s : ByteArray) : List Nat := frameL 1 (nb s).pay
theorem nb_all {s : ByteArray} (h : named s = true) : AllOk [nb s] := by
  intro n hn
  simp at hn
  subst hn
  exact ⟨nb_ok h, fun b hb => by simp [nb] at hb⟩
theorem begin_allF (s : ByteArray) : allF (frs [nb s]) = beginL s := by
  have h : allF (frs [nb s]) = allF [] ++ frameL 1 (nb s).pay := frm.allF_snoc [] (1, (nb s).pay)
  rw [h]
  rfl
theorem begin_nts {s : ByteArray} (h : named s = true) : ntsL (beginL s) = [nb s] := by
  rw [← begin_allF]
  exact lg.ntsL_whole (nb_all h)
theorem begin_torn {s : ByteArray} (h : named s = true) : torn (beginL s) = (beginL s).length := by
  unfold torn
  rw [← begin_allF, lg.scan_whole (nb_all h)]
theorem begin_live {s : ByteArray} (h : named s = true) : liveP (beginL s) = [] := by
  unfold liveP
  have hn := begin_nts h
  have hlen : (notesL (beginL s)).length = 1 := by
    have := congrArg List.length hn
    unfold ntsL at this
    simpa using this
  rw [hlen, hn, lg.pick_no (lg.live_not (n := nb s) rfl (by show (1 : Nat) ≠ 2; decide))]
  rfl
theorem begin_len {s : ByteArray} : (beginL s).length = 50 + s.size := by
  unfold beginL
  rw [frm.frameL_length]
  simp [nb, lg.Nt.pay, bod.payL, codec.bytesOf_length, bod.txt_length]
  omega
theorem good_begin {s : ByteArray} (h : named s = true) : GoodL (beginL s) [] := by
  have hn := begin_nts h
  have hl := begin_live h
  have h60 : s.size ≤ 60 := idx.named_60 h
  have hlv : lives [nb s] = [] := by
    unfold lives
    show pick [nb s] (livB [nb s]) (0 + 1) = []
    rw [lg.pick_no (lg.live_not (n := nb s) rfl (by show (1 : Nat) ≠ 2; decide))]
    rfl
  have hep : epo [nb s] = 1 := rfl
  have hnm : nmL [nb s] = s := rfl
  have hnx : nextL (beginL s) = 1 := by unfold nextL; rw [hn]; rfl
  have hne : s ≠ ⟨#[]⟩ := fun e => by
    subst e
    revert h
    decide
  refine ⟨by rw [hn, hlv]; rfl, by rw [hn, hnm]; exact hne, by rw [hn, hnm]; omega, by rw [hn, hep]; decide, by rw [hnx]; decide, by rw [hl]; simp, ?_, ?_⟩
  · rw [hn, hnm, hep, hnx, hl, begin_torn h, begin_len]
    simp [indexB, h, idx.placeB, idx.entriesB, idx.up]
    omega
  · rw [hn, hep, hl]
    rfl
theorem begin_idx {s : ByteArray} (h : named s = true) : (pg.pageL 1 (idxOf (beginL s))).length = 28 + s.size := by
  rw [page_len]
  unfold idxOf
  rw [begin_live h, begin_nts h, show nmL [nb s] = s from rfl]
  simp [idx.indexL, idx.restL, bod.txt_length, codec.bytesOf_length]
  omega
theorem begin_fls {s : ByteArray} (h : named s = true) : (pg.pageL 2 (flsOf (beginL s) [])).length = 18 := by
  rw [page_len]
  unfold flsOf
  rw [begin_live h]
  simp [idx.flsL, idx.restL, codec.bytesOf_length]
def treeI : List Nat := pg.pageL 3 (treeL [⟨0, inbS⟩])
theorem treeI_ok : treeB [⟨0, inbS⟩] = true := by
  simp [treeB, idx.up, named_inb, idx.boxesB]
  rfl
theorem treeI_len : treeI.length = 21 := by
  unfold treeI
  rw [page_len]
  simp [treeL, idx.encP, codec.bytesOf_length, bod.txt_length, inbS]
  rfl
end Go.Proofs.YthhflkgngencdaaGreatDoor.sto
namespace Go.Proofs.YthhflkgngencdaaGreatDoor.dis
open Go.RowKit Go.Maps Go.Sort Go.Shelf
set_option linter.unusedVariables false

/-- How maps.Keys and its iterator are numbered here. -/
def numK : Ren := ⟨fun | 7 => 50 | 10 => 88 | n => n, fun | 23 => 59 | 26 => 9 | 3 => 93 | 28 => 104 | 27 => 103 | 33 => 77 | n => n, fun n => n⟩
/-- .. slices.Sorted, .. -/
def numS : Ren := ⟨fun | 6 => 49 | 8 => 87 | 9 => 48 | 11 => 126 | n => n, fun | 26 => 9 | 28 => 104 | 24 => 57 | 33 => 77 | n => n, fun n => n⟩
theorem laysK : SlLaysZ.n7 Tryz.prog numK where
  mixed := by kernel_rfl
  f7 := ⟨Tryz.f50.name, by kernel_rfl, by kernel_rfl⟩
  f10 := ⟨Tryz.f88.name, by kernel_rfl, by kernel_rfl⟩
  t0 := by kernel_rfl
  a0 := fun _ => by kernel_rfl
  z0 := fun _ => by kernel_rfl
  v0 := fun _ => by kernel_rfl
  t4 := by kernel_rfl
  a4 := fun _ => by kernel_rfl
  z4 := fun _ => by kernel_rfl
  v4 := fun _ => by kernel_rfl
  t23 := by kernel_rfl
  a23 := fun _ => by kernel_rfl
  z23 := fun _ => by kernel_rfl
  v23 := fun _ => by kernel_rfl
  t26 := by kernel_rfl
  a26 := fun _ => by kernel_rfl
  z26 := fun _ => by kernel_rfl
  v26 := fun _ => by kernel_rfl
  t27 := by kernel_rfl
  a27 := fun _ => by kernel_rfl
  z27 := fun _ => by kernel_rfl
  v27 := fun _ => by kernel_rfl
  t28 := by kernel_rfl
  a28 := fun _ => by kernel_rfl
  z28 := fun _ => by kernel_rfl
  v28 := fun _ => by kernel_rfl
  t33 := by kernel_rfl
  a33 := fun _ => by kernel_rfl
  z33 := fun _ => by kernel_rfl
  v33 := fun _ => by kernel_rfl
theorem laysS : SlLaysZ.n6 Tryz.prog numS where
  mixed := by kernel_rfl
  f6 := ⟨Tryz.f49.name, by kernel_rfl, by kernel_rfl⟩
  f8 := ⟨Tryz.f87.name, by kernel_rfl, by kernel_rfl⟩
  f11 := ⟨Tryz.f126.name, by kernel_rfl, by kernel_rfl⟩
  t0 := by kernel_rfl
  a0 := fun _ => by kernel_rfl
  z0 := fun _ => by kernel_rfl
  v0 := fun _ => by kernel_rfl
  t24 := by kernel_rfl
  a24 := fun _ => by kernel_rfl
  z24 := fun _ => by kernel_rfl
  v24 := fun _ => by kernel_rfl
  t26 := by kernel_rfl
  a26 := fun _ => by kernel_rfl
  z26 := fun _ => by kernel_rfl
  v26 := fun _ => by kernel_rfl
  t28 := by kernel_rfl
  a28 := fun _ => by kernel_rfl
  z28 := fun _ => by kernel_rfl
  v28 := fun _ => by kernel_rfl
  i26 := by kernel_rfl
end Go.Proofs.YthhflkgngencdaaGreatDoor.dis
namespace Go.Proofs.YthhflkgngencdaaGreatDoor.dis
open Go.Proofs.YthhflkgngencdaaGreatDoor.codec
open Go.ChangeShapes Go.WideShapes Go.ChangeAt Go.RowKit Go.Maps Go.WideMaps Go.Shelf
set_option linter.unusedVariables false
set_option linter.unusedSimpArgs false

set_option maxHeartbeats 400000 in
theorem strClone_any (w : World) (s : ByteArray) (hs : s.size ≤ 281474976710656) : Calls Tryz.prog 104 #[.string s] w fun e w' => e = .returned (.string s) ∧ Below w.heap.size w w' := by
  go_enter Tryz.func104, Tryz.ntmps104
  go_wp2_with (go_at_call 152; refine (Tryz.stringslite_Clone s w (by omega)).mono ?_; rintro e w1 ⟨rfl, hb⟩)
  go_ret
  exact ⟨rfl, hb⟩

/-- An element of a map, as it is. -/
def raw (v : Value) : Option (DataW Value × List MemPlace) := some (.held v, [])
/-- No file. -/
abbrev noFile : Value := .agg #[.slice none 0 0, .int .i64 0, .bool false]
theorem zero64 (w : World) : (zeroValue 93).run Tryz.prog w = .ok noFile w := by kernel_rfl
theorem keyed9 : Keyed Tryz.prog 9 := string_keyed Tryz.underlying9
/-- What a map has under a name. -/
def At (D : DataW Value) (s : List UInt8) : Value := match D.atKey (.string s) (.held noFile) with | .held v => v | _ => noFile
/-- All elements are held. -/
def Held (D : DataW Value) : Prop := ∀ s, ∃ v, D.atKey (.string s) (.held noFile) = .held v
theorem At_eq {D : DataW Value} (h : Held D) (s : List UInt8) : D.atKey (.string s) (.held noFile) = .held (At D s) := by
  obtain ⟨v, hv⟩ := h s
  simp [At, hv]
theorem look_at {w : World} {b n : Nat} {D : DataW Value} (h : w.ownsMap Tryz.prog 9 raw b n D) (hD : Held D) (s : ByteArray) (hs : s.size ≤ maxLen) :
    (Instr.lookup 59 (.map (some b)) (.string s) false).run Tryz.prog w = .ok (At D s.data.toList) w := by
  obtain ⟨v, ps, hr, hv⟩ := h.lookup keyed9 Tryz.underlying59 (zero64 w) (zd := .held noFile) (zp := []) rfl (keyOf_string_mk Tryz.underlying9 hs)
  rw [hr]
  rw [At_eq hD] at hv
  simp [raw] at hv
  rw [hv.1]
theorem look_ok_at {w : World} {b n : Nat} {D : DataW Value} (h : w.ownsMap Tryz.prog 9 raw b n D) (hD : Held D) (s : ByteArray) (hs : s.size ≤ maxLen) :
    (Instr.lookup 59 (.map (some b)) (.string s) true).run Tryz.prog w = .ok (.tuple #[At D s.data.toList, .bool (has D (.string s.data.toList))]) w := by
  obtain ⟨v, ps, hr, hv⟩ := h.look_ok keyed9 Tryz.underlying59 (zero64 w) (zd := .held noFile) (zp := []) rfl (keyOf_string_mk Tryz.underlying9 hs)
  rw [hr]
  rw [At_eq hD] at hv
  simp [raw] at hv
  rw [hv.1]
end Go.Proofs.YthhflkgngencdaaGreatDoor.dis
namespace Go.Proofs.YthhflkgngencdaaGreatDoor.dis
open Go.Proofs.YthhflkgngencdaaGreatDoor.codec
open Go.ChangeShapes Go.WideShapes Go.ChangeAt Go.RowKit Go.Maps Go.WideMaps
set_option linter.unusedVariables false
set_option linter.unusedSimpArgs false

structure File where
  l : List Nat
  safe : Nat
  ever : Bool
structure Cfg where
  cap : Int
  used : Int
  fused : Bool
  fuse : Int
  lost : Bool
abbrev FM := List UInt8 → Option File
/-- The block of a file's bytes. -/
def blk : Value → Option Nat
  | .agg cs => (cs.getD 0 undef).ownBlock
  | _ => none
/-- A value is a file. -/
def FileIs (w : World) (base : Nat) (v : Value) (f : File) : Prop := ∃ sl, v = .agg #[sl, .int .i64 (f.safe : Nat), .bool f.ever] ∧ w.ownsRow base 5 1 sl f.l.length (vals f.l) ∧ (∀ x ∈ f.l, x < 256) ∧ f.safe ≤ f.l.length
/-- A disk, at p. -/
structure Dsk (w : World) (base p : Nat) (mb : Option Nat) (D : DataW Value) (c : Cfg) (fm : FM) (N : Nat) : Prop where
  head : w.heap[p]? = some (.cells #[.int .i64 c.cap, .int .i64 c.used, .map mb, .bool c.fused, .int .i64 c.fuse, .bool c.lost] 61 (0, 0))
  pb : base ≤ p
  nomap : mb = none → D = .map []
  map : ∀ b, mb = some b → base ≤ b ∧ b ≠ p ∧ w.ownsMap Tryz.prog 9 raw b (Maps.size D) D
  held : Held D
  isMap : IsMap D
  sz : Maps.size D ≤ N
  has : ∀ s, Maps.has D (.string s) = (fm s).isSome
  none_ : ∀ s, fm s = none → At D s = noFile
  file : ∀ s f, fm s = some f → FileIs w base (At D s) f
  np : ∀ s, blk (At D s) ≠ some p
  nb : ∀ s b, mb = some b → blk (At D s) ≠ some b
  apart : ∀ s s' g, blk (At D s) = some g → blk (At D s') = some g → s = s'
  short : ∀ s, (fm s).isSome = true → s.length ≤ 281474976710656
def Foot (p : Nat) (mb : Option Nat) (D : DataW Value) (k : Nat) : Prop := k = p ∨ mb = some k ∨ ∃ s, blk (At D s) = some k
theorem Dsk.facts {w : World} {base p : Nat} {mb : Option Nat} {D : DataW Value} {c : Cfg} {fm : FM} {N : Nat} (h : Dsk w base p mb D c fm N) :
    w.cell? ⟨p, 0, none⟩ = some (.int .i64 c.cap) ∧ w.cell? ⟨p, 0 + 1, none⟩ = some (.int .i64 c.used) ∧ w.cell? ⟨p, 2, none⟩ = some (.map mb) ∧ w.cell? ⟨p, 3, none⟩ = some (.bool c.fused) ∧ w.cell? ⟨p, 4, none⟩ = some (.int .i64 c.fuse) ∧ w.cell? ⟨p, 5, none⟩ = some (.bool c.lost) ∧
    (∀ j, w.frozen? ⟨p, j, none⟩ = false) ∧ p < w.heap.size := by
  have h := h.head
  exact ⟨by simp [World.cell?, h], by simp [World.cell?, h], by simp [World.cell?, h], by simp [World.cell?, h], by simp [World.cell?, h], by simp [World.cell?, h], fun j => by simp [World.frozen?, h], (Array.getElem?_eq_some_iff.1 h).1⟩
theorem Dsk.look {w : World} {base p : Nat} {mb : Option Nat} {D : DataW Value} {c : Cfg} {fm : FM} {N : Nat} (h : Dsk w base p mb D c fm N) (s : ByteArray) (hs : s.size ≤ maxLen) :
    (Instr.lookup 59 (.map mb) (.string s) false).run Tryz.prog w = .ok (At D s.data.toList) w ∧ (Instr.lookup 59 (.map mb) (.string s) true).run Tryz.prog w = .ok (.tuple #[At D s.data.toList, .bool (Maps.has D (.string s.data.toList))]) w := by
  cases mb with
  | none =>
    have hD := h.nomap rfl
    subst hD
    have e1 := Maps.look_nil (w := w) false keyed9 Tryz.underlying59 (zero64 w) (keyOf_string_mk Tryz.underlying9 hs)
    have e2 := Maps.look_nil (w := w) true keyed9 Tryz.underlying59 (zero64 w) (keyOf_string_mk Tryz.underlying9 hs)
    exact ⟨e1, e2⟩
  | some b => exact ⟨look_at (h.map b rfl).2.2 h.held s hs, look_ok_at (h.map b rfl).2.2 h.held s hs⟩
/-- A file's value, whether it is there or not. -/
theorem Dsk.form {w : World} {base p : Nat} {mb : Option Nat} {D : DataW Value} {c : Cfg} {fm : FM} {N : Nat} (h : Dsk w base p mb D c fm N) (s : List UInt8) :
    ∃ A n cp sf ev, At D s = .agg #[.slice A n cp, .int .i64 (sf : Nat), .bool ev] ∧ n = ((fm s).map (·.l.length)).getD 0 := by
  cases hf : fm s with
  | none => exact ⟨none, 0, 0, 0, false, h.none_ s hf, rfl⟩
  | some f =>
    obtain ⟨sl, e, ho, _, _⟩ := h.file s f hf
    rcases ho.2 with ⟨e1, e2⟩ | ⟨g, cap, cur, e1, _⟩
    · subst e1
      exact ⟨none, 0, 0, f.safe, f.ever, e, by simp [e2]⟩
    · subst e1
      exact ⟨_, _, _, f.safe, f.ever, e, by simp⟩

theorem Dsk.drewN {w : World} {base p : Nat} {mb : Option Nat} {D : DataW Value} {c : Cfg} {fm : FM} {N : Nat} (h : Dsk w base p mb D c fm N) (q : Nat) : Dsk (w.drewN q) base p mb D c fm N :=
  ⟨h.head, h.pb, h.nomap, h.map, h.held, h.isMap, h.sz, h.has, h.none_, h.file, h.np, h.nb, h.apart, h.short⟩
theorem field0 (w : World) (A : Option Addr) (n c : Nat) (y z : Value) : (Instr.field 93 (.agg #[.slice A n c, y, z]) 0).run Tryz.prog w = .ok (.slice A n c) w := by kernel_rfl
theorem own_size {w : World} {b n : Nat} {D : DataW Value} (h : w.ownsMap Tryz.prog 9 raw b n D) : w.ownsMap Tryz.prog 9 raw b (Maps.size D) D := by
  obtain ⟨es, clock, h1, h2, h3, rfl⟩ := h
  exact ⟨es, clock, h1, h2, by simp [Maps.size, length_sorted], rfl⟩
def erase (fm : FM) (k : List UInt8) : FM := fun s => if s = k then none else fm s
def upd (fm : FM) (k : List UInt8) (f : File) : FM := fun s => if s = k then some f else fm s
theorem lit_ne {s k : List UInt8} (h : s ≠ k) : (Lit.string s) ≠ .string k := fun e => h (by cases e; rfl)
theorem At_del (D : DataW Value) (k s : List UInt8) : At (D.del (.string k)) s = if s = k then noFile else At D s := by
  by_cases h : s = k
  · subst h
    simp [At, atKey_del_same]
  · simp only [if_neg h, At]
    rw [atKey_del_other (lit_ne h)]
theorem Held_del {D : DataW Value} (h : Held D) (k : List UInt8) : Held (D.del (.string k)) := by
  intro s
  by_cases e : s = k
  · subst e
    exact ⟨noFile, by rw [atKey_del_same]⟩
  · rw [atKey_del_other (lit_ne e)]
    exact h s
theorem FileIs.kept {w w' : World} {base : Nat} {v : Value} {f : File} {row : Option Nat} (h : FileIs w base v f) (hg : w.grownBy w' row) (hne : blk v = none ∨ blk v ≠ row) : FileIs w' base v f := by
  obtain ⟨sl, rfl, ho, h3⟩ := h
  exact ⟨sl, rfl, ho.kept hg (by simpa [blk] using hne), h3⟩
theorem blk_ne {v : Value} {b : Nat} (h : blk v ≠ some b) : blk v = none ∨ blk v ≠ some b := .inr h
theorem dsk_del {w w' : World} {base p b n : Nat} {D : DataW Value} {c : Cfg} {fm : FM} {N : Nat} (h : Dsk w base p (some b) D c fm N) (k : List UInt8) (ho : w'.ownsMap Tryz.prog 9 raw b n (D.del (.string k))) (hg : w.grownBy w' (some b)) : Dsk w' base p (some b) (D.del (.string k)) c (erase fm k) N := by
  obtain ⟨hb1, hb2, hb3⟩ := h.map b rfl
  have hlt := h.facts.2.2.2.2.2.2.2
  have hblk : ∀ s, blk (At (D.del (.string k)) s) = none ∨ blk (At (D.del (.string k)) s) = blk (At D s) := fun s => by
    rw [At_del]
    by_cases e : s = k
    · left; simp [e, blk, Value.ownBlock]
    · right; simp [e]
  have hcut : ∀ s g, blk (At (D.del (.string k)) s) = some g → blk (At D s) = some g := fun s g e => by
    rcases hblk s with h1 | h1
    · rw [h1] at e; cases e
    · rw [← h1]; exact e
  refine ⟨(hg.block p hlt (by simpa using Ne.symm hb2)).trans h.head, h.pb, fun e => (by cases e), fun b' e => ?_, Held_del h.held k, ?_, ?_, fun s => ?_, fun s e => ?_, fun s f e => ?_, fun s e => h.np s (hcut s _ e), fun s b' e e2 => h.nb s b' e (hcut s _ e2), fun s s' g e e' => h.apart s s' g (hcut s _ e) (hcut s' _ e'), fun s e => h.short s (by unfold erase at e; split at e; cases e; exact e)⟩
  · cases e
    exact ⟨hb1, hb2, own_size ho⟩
  · obtain ⟨es, rfl⟩ := h.isMap
    exact ⟨_, rfl⟩
  · refine Nat.le_trans ?_ h.sz
    obtain ⟨es, rfl⟩ := h.isMap
    exact List.length_filter_le _ _
  · unfold erase
    by_cases e : s = k
    · subst e
      rw [has_del_same]
      simp
    · rw [has_del_other (lit_ne e), if_neg e, h.has s]
  · rw [At_del]
    by_cases e2 : s = k
    · simp [e2]
    · simp only [if_neg e2]
      exact h.none_ s (by simpa [erase, e2] using e)
  · have hsk : s ≠ k := fun e2 => by simp [erase, e2] at e
    rw [At_del, if_neg hsk]
    exact (h.file s f (by simpa [erase, hsk] using e)).kept hg (blk_ne (h.nb s b rfl))
theorem dsk_del_nil {w : World} {base p : Nat} {D : DataW Value} {c : Cfg} {fm : FM} {N : Nat} (h : Dsk w base p none D c fm N) (k : List UInt8) : Dsk w base p none (D.del (.string k)) c (erase fm k) N := by
  have hD := h.nomap rfl
  subst hD
  have hfm : ∀ s, fm s = none := fun s => by
    have := h.has s
    simpa [Maps.has] using this.symm
  have e : erase fm k = fm := by
    funext s
    unfold erase
    rw [hfm s]
    simp
  rw [e]
  exact h
theorem dsk_used {w : World} {base p : Nat} {mb : Option Nat} {D : DataW Value} {c : Cfg} {fm : FM} {N : Nat} (h : Dsk w base p mb D c fm N) (u : Int) : Dsk (w.setCell ⟨p, 1, none⟩ (.int .i64 u)) base p mb D { c with used := u } fm N := by
  have hg : w.grownBy (w.setCell ⟨p, 1, none⟩ (.int .i64 u)) (some p) := ⟨rfl, rfl, rfl, by simp, fun k _ hk => heap_setCell_other _ _ _ _ (by simpa using hk)⟩
  refine ⟨?_, h.pb, h.nomap, fun b e => ?_, h.held, h.isMap, h.sz, h.has, h.none_, fun s f e => (h.file s f e).kept hg (blk_ne (h.np s)), h.np, h.nb, h.apart, h.short⟩
  · rw [heap_setCell_same _ p 1 _ 61 _ h.head]
    simp
  · obtain ⟨h1, h2, h3⟩ := h.map b e
    exact ⟨h1, h2, h3.kept hg (by simpa using h2)⟩
theorem forget {P : Program} {cd : Code} {a : Act} {w : World} {Q : Exit → Act → World → Prop} (R : World → Prop) (hR : R w) (h : ∀ w1, R w1 → Code.wp P cd Q a w1) : Code.wp P cd Q a w := h w hR
/-- How many bytes there are under a name. -/
def lenAt (fm : FM) (s : List UInt8) : Nat := ((fm s).map (·.l.length)).getD 0
set_option maxRecDepth 50000 in
set_option maxHeartbeats 1000000 in
theorem drop_any (w : World) (base p : Nat) (mb : Option Nat) (D : DataW Value) (c : Cfg) (fm : FM) (N : Nat) (s : ByteArray) (hs : s.size ≤ maxLen) (h : Dsk w base p mb D c fm N) :
    Calls Tryz.prog 80 #[.pointer (some ⟨p, 0, none⟩), .string s] w fun e w' => e = .returned (.tuple #[]) ∧ Dsk w' base p mb (D.del (.string s.data.toList)) { c with used := wrap64 (c.used - lenAt fm s.data.toList) } (erase fm s.data.toList) N ∧ codec.Touch (fun k => k = p ∨ mb = some k) w w' := by
  obtain ⟨d0, d1, d2, d3, d4, d5, hf, hlt⟩ := h.facts
  obtain ⟨A, n, cp, sf, ev, hat, hn⟩ := h.form s.data.toList
  have hlk : (Instr.lookup 59 (.map mb) (.string s) false).run Tryz.prog w.drew = .ok (At D s.data.toList) w.drew := ((h.drewN 1).look s hs).1
  rw [hat] at hlk
  have hf1 := hf (0 + 1)
  have hfd := fun w' => field0 w' A n cp (.int .i64 (sf : Nat)) (.bool ev)
  have HD := Lib.hid h
  have hn' : lenAt fm s.data.toList = n := hn.symm
  rw [hn']
  clear h hf hat hn hn'
  go_enter Tryz.func80, Tryz.ntmps80
  go_wp2
  go_region
  have HD2 : Hid (Dsk (w.setCell ⟨p, 1, none⟩ (.int .i64 (wrap64 (c.used - n)))).drew base p mb D { c with used := wrap64 (c.used - n) } fm N) := (dsk_used HD.out (wrap64 (c.used - n))).drewN 1
  have HT2 : Hid (codec.Touch (fun k => k = p ∨ mb = some k) w (w.setCell ⟨p, 1, none⟩ (.int .i64 (wrap64 (c.used - n)))).drew) := ((codec.Touch.refl _ w).setCell ⟨p, 1, none⟩ (.inr (.inl rfl)) _).drewN 1
  generalize (w.setCell ⟨p, 1, none⟩ (.int .i64 (wrap64 (c.used - n)))).drew = w2 at *
  clear d0 d1 d2 d3 d4 d5 hf1 hlt hlk hfd HD
  obtain ⟨e0, e1, e2, e3, e4, e5, hf, hlt⟩ := HD2.out.facts
  clear e0 e1 e3 e4 e5 hf hlt
  cases mb with
  | none =>
    have hdr := fun ty => Maps.drop_nil (w := w2) keyed9 Tryz.underlying59 (keyOf_string_mk Tryz.underlying9 hs) ty
    go_wp2
    go_end0
    exact ⟨rfl, dsk_del_nil HD2.out _, HT2.out⟩
  | some b =>
    have HK := Lib.hid (keyOf_string_mk Tryz.underlying9 hs)
    go_wp2_with (at_delete; refine wpList_delete_own _ rfl (.tmp 22) (.tmp 23) 59 9 rfl 93 keyed9 Tryz.underlying59 raw b _ D rfl (HD2.out.map b rfl).2.2 (.string s) (.string s.data.toList) rfl HK.out ?_; intro w3 ho ht; have HO := Lib.hid ho; have HG := Lib.hid ht.grown; clear ho ht)
    go_end0
    refine ⟨rfl, dsk_del HD2.out _ HO.out HG.out, (HT2.out.trans (F := fun k => k = p ∨ some b = some k) ⟨HG.out.os, HG.out.tape, HG.out.output, HG.out.size, fun k hk hn => HG.out.block k hk (fun e => hn (.inl (.inr e.symm)))⟩).mono fun i _ h => by simpa using h⟩
end Go.Proofs.YthhflkgngencdaaGreatDoor.dis
namespace Go.Proofs.YthhflkgngencdaaGreatDoor.dis
open Go.Proofs.YthhflkgngencdaaGreatDoor.codec
open Go.ChangeShapes Go.WideShapes Go.ChangeAt Go.RowKit Go.Maps Go.WideMaps
set_option linter.unusedVariables false
set_option linter.unusedSimpArgs false

theorem At_put {D : DataW Value} (hm : IsMap D) (k : List UInt8) (v : Value) (s : List UInt8) : At (D.put (.string k) (.held v)) s = if s = k then v else At D s := by
  by_cases h : s = k
  · subst h
    simp [At, atKey_put_same hm (show WideAt.IsKeyLit (.string s) from trivial)]
  · simp only [if_neg h, At]
    rw [atKey_put_other (lit_ne h)]
theorem Held_put {D : DataW Value} (hm : IsMap D) (h : Held D) (k : List UInt8) (v : Value) : Held (D.put (.string k) (.held v)) := by
  intro s
  by_cases e : s = k
  · subst e
    exact ⟨v, by rw [atKey_put_same hm (show WideAt.IsKeyLit (.string s) from trivial)]⟩
  · rw [atKey_put_other (lit_ne e)]
    exact h s
theorem dsk_put {w w' : World} {base p b n : Nat} {D : DataW Value} {c : Cfg} {fm : FM} {N N' : Nat} (h : Dsk w base p (some b) D c fm N) (k : List UInt8) (v : Value) (f : File) (hk : fm k = none)
    (ho : w'.ownsMap Tryz.prog 9 raw b n (D.put (.string k) (.held v))) (hg : w.grownBy w' (some b)) (hf : FileIs w base v f) (hp : blk v ≠ some p) (hb : blk v ≠ some b) (ha : ∀ s g, blk (At D s) = some g → blk v ≠ some g) (hN : Maps.size D + 1 ≤ N') (hkl : k.length ≤ 281474976710656) :
    Dsk w' base p (some b) (D.put (.string k) (.held v)) c (upd fm k f) N' := by
  obtain ⟨hb1, hb2, hb3⟩ := h.map b rfl
  have hlt := h.facts.2.2.2.2.2.2.2
  have hT := hb3.tidy keyed9
  refine ⟨(hg.block p hlt (by simpa using Ne.symm hb2)).trans h.head, h.pb, fun e => (by cases e), fun b' e => ?_, Held_put h.isMap h.held k v, ?_, ?_, fun s => ?_, fun s e => ?_, fun s g e => ?_, fun s e => ?_, fun s b' e e2 => ?_, fun s s' g e e' => ?_, fun s e => (by by_cases e2 : s = k; (rw [e2]; exact hkl); (exact h.short s (by simpa [upd, e2] using e)))⟩
  · cases e
    exact ⟨hb1, hb2, own_size ho⟩
  · obtain ⟨es, rfl⟩ := h.isMap
    exact ⟨_, rfl⟩
  · rw [size_put hT, h.has k, hk]
    simpa using hN
  · unfold upd
    by_cases e : s = k
    · subst e
      rw [has_put_same h.isMap (show WideAt.IsKeyLit (.string s) from trivial)]
      simp
    · rw [has_put_other (lit_ne e), if_neg e, h.has s]
  · have e2 : s ≠ k := fun e2 => by simp [upd, e2] at e
    rw [At_put h.isMap, if_neg e2]
    exact h.none_ s (by simpa [upd, e2] using e)
  · rw [At_put h.isMap]
    by_cases e2 : s = k
    · subst e2
      simp [upd] at e
      subst e
      simp only [if_true]
      exact hf.kept hg (blk_ne hb)
    · simp only [if_neg e2]
      exact (h.file s g (by simpa [upd, e2] using e)).kept hg (blk_ne (h.nb s b rfl))
  · rw [At_put h.isMap] at e
    by_cases e2 : s = k
    · rw [if_pos e2] at e; exact hp e
    · rw [if_neg e2] at e; exact h.np s e
  · cases e
    rw [At_put h.isMap] at e2
    by_cases e3 : s = k
    · rw [if_pos e3] at e2; exact hb e2
    · rw [if_neg e3] at e2; exact h.nb s b rfl e2
  · rw [At_put h.isMap] at e e'
    by_cases e2 : s = k
    · by_cases e3 : s' = k
      · rw [e2, e3]
      · rw [if_pos e2] at e; rw [if_neg e3] at e'
        exact absurd e (ha s' g e')
    · by_cases e3 : s' = k
      · rw [if_neg e2] at e; rw [if_pos e3] at e'
        exact absurd e' (ha s g e)
      · rw [if_neg e2] at e; rw [if_neg e3] at e'
        exact h.apart s s' g e e'
theorem Dsk.below {w w' : World} {base p : Nat} {mb : Option Nat} {D : DataW Value} {c : Cfg} {fm : FM} {N : Nat} (h : Dsk w base p mb D c fm N) (hb : Below w.heap.size w w') : Dsk w' base p mb D c fm N := by
  have hg : w.grownBy w' none := ⟨hb.os, hb.tape, hb.output, hb.size, fun k hk _ => hb.block k hk⟩
  refine ⟨(hb.block p h.facts.2.2.2.2.2.2.2).trans h.head, h.pb, h.nomap, fun b e => ?_, h.held, h.isMap, h.sz, h.has, h.none_, fun s f e => (h.file s f e).kept hg (by cases hv : blk (At D s) <;> simp), h.np, h.nb, h.apart, h.short⟩
  obtain ⟨h1, h2, h3⟩ := h.map b e
  exact ⟨h1, h2, h3.kept hg (by simp)⟩
def bump (fm : FM) (k : List UInt8) (N : Nat) : Nat := if (fm k).isSome then N else N + 1
theorem map_ne (w : World) (b : Nat) : (binOp BinOp.eql 59 (Value.map (some b)) (Value.map none)).run Tryz.prog w = .ok (.bool false) w := by kernel_rfl
theorem map_eq (w : World) : (binOp BinOp.eql 59 (Value.map none) (Value.map none)).run Tryz.prog w = .ok (.bool true) w := by kernel_rfl
theorem box_cells {w : World} {X : Nat} {x y z : Value} (h : w.heap[X]? = some (.cells #[x, y, z] 93 (0, 0))) : w.cell? ⟨X, 0, none⟩ = some x ∧ w.cell? ⟨X, 0 + 1, none⟩ = some y ∧ w.cell? ⟨X, 2, none⟩ = some z :=
  ⟨by simp [World.cell?, h], by simp [World.cell?, h], by simp [World.cell?, h]⟩
/-- What a put asks of the file that comes. -/
structure Comes (w : World) (base p : Nat) (mb : Option Nat) (D : DataW Value) (k : List UInt8) (v : Value) (f : File) : Prop where
  file : FileIs w base v f
  np : blk v ≠ some p
  nb : ∀ b, mb = some b → blk v ≠ some b
  apart : ∀ s g, s ≠ k → blk (At D s) = some g → blk v ≠ some g
theorem comes_del {w : World} {base p : Nat} {mb : Option Nat} {D : DataW Value} {k : List UInt8} {v : Value} {f : File} (h : Comes w base p mb D k v f) : ∀ s g, blk (At (D.del (.string k)) s) = some g → blk v ≠ some g := by
  intro s g e
  rw [At_del] at e
  by_cases e2 : s = k
  · rw [if_pos e2] at e
    simp [blk, Value.ownBlock] at e
  · rw [if_neg e2] at e
    exact h.apart s g e2 e
theorem FileIs.touch {F : Nat → Prop} {w w' : World} {base : Nat} {v : Value} {f : File} (h : FileIs w base v f) (ht : codec.Touch F w w') (hF : ∀ g, blk v = some g → ¬ F g) : FileIs w' base v f := by
  obtain ⟨sl, rfl, ho, h3⟩ := h
  refine ⟨sl, rfl, ⟨ho.1, ?_⟩, h3⟩
  rcases ho.2 with e | ⟨g, cap, cur, e, hb, hg, rest⟩
  · exact .inl e
  · refine .inr ⟨g, cap, cur, e, hb, ?_, rest⟩
    have hv : blk (.agg #[sl, .int .i64 (f.safe : Nat), .bool f.ever]) = some g := by rw [e]; rfl
    exact (ht.2.2.2.2 g (Array.getElem?_eq_some_iff.1 hg).1 (hF g hv)).trans hg
theorem put_step {w1 w2 : World} {base p b X : Nat} {D : DataW Value} {c : Cfg} {fm : FM} {N : Nat} {x y z : Value} (h : Dsk w1 base p (some b) D c fm N) (hb : Below w1.heap.size w1.drew w2) (hx : w1.heap[X]? = some (.cells #[x, y, z] 93 (0, 0))) (s : ByteArray) (hs : s.size ≤ maxLen) (v : Value) (hN : N < 1000000) :
    ∃ w3, Dsk w2 base p (some b) D c fm N ∧ w2.heap[X]? = some (.cells #[x, y, z] 93 (0, 0)) ∧ (Instr.mapUpdate 59 (.map (some b)) (.string s) v).run Tryz.prog w2 = .ok () w3 ∧ w3.ownsMap Tryz.prog 9 raw b (Maps.size D + 1) (D.put (.string s.data.toList) (.held v)) ∧ w2.grownBy w3 (some b) := by
  have h2 : Dsk w2 base p (some b) D c fm N := Dsk.below (w := w1.drew) (h.drewN 1) hb
  have hx2 := (hb.block X (Array.getElem?_eq_some_iff.1 hx).1).trans hx
  obtain ⟨w3, hr, ho, hg⟩ := (h2.map b rfl).2.2.update keyed9 Tryz.underlying59 (by have := h2.sz; unfold maxLen; omega) (keyOf_string_mk Tryz.underlying9 hs) (val := v) rfl
  exact ⟨w3, h2, hx2, hr, ho, hg⟩
theorem upd_erase (fm : FM) (k : List UInt8) (f : File) : upd (erase fm k) k f = upd fm k f := by
  funext s
  unfold upd erase
  by_cases h : s = k <;> simp [h]
theorem put_done {w w1 w2 w3 : World} {base p b n0 : Nat} {D : DataW Value} {c c1 : Cfg} {fm : FM} {N : Nat} {v : Value} {f : File} {k : List UInt8} {o : Obj} (h : Dsk w base p (some b) D c fm N) (hc : Comes w base p (some b) D k v f) (hT : codec.Touch (fun i => i = p ∨ some b = some i) (w.alloc o) w1) (hb : Below w1.heap.size w1.drew w2)
    (h2 : Dsk w2 base p (some b) (D.del (.string k)) c1 (erase fm k) N) (ho : w3.ownsMap Tryz.prog 9 raw b n0 ((D.del (.string k)).put (.string k) (.held v))) (hg : w2.grownBy w3 (some b)) (hkl : k.length ≤ 281474976710656) :
    Dsk w3 base p (some b) ((D.del (.string k)).put (.string k) (.held v)) c1 (upd fm k f) (bump fm k N) ∧ codec.Touch (fun i => i = p ∨ i = b) w w3 := by
  have f1 : FileIs w2 base v f := by
    have g1 : FileIs (w.alloc o) base v f := hc.file.kept (World.grownBy_alloc w o none) (by cases hv : blk v <;> simp)
    have g2 : FileIs w1 base v f := g1.touch hT (fun g e hF => by
      rcases hF with rfl | hF
      · exact hc.np e
      · exact hc.nb g hF e)
    have g3 : FileIs w1.drew base v f := g2
    exact g3.kept (row := none) ⟨hb.os, hb.tape, hb.output, hb.size, fun k hk _ => hb.block k hk⟩ (by cases hv : blk v <;> simp)
  have hsz : Maps.size (D.del (.string k)) + 1 ≤ bump fm k N := by
    have hT := (h.map b rfl).2.2.tidy keyed9
    have := size_del (k := .string k) hT
    have hN := h.sz
    rw [h.has k] at this
    unfold bump
    cases hk : (fm k).isSome with
    | true => rw [hk] at this; simp at this ⊢; omega
    | false => rw [hk] at this; simp at this ⊢; omega
  have hd := dsk_put h2 k v f (by simp [erase]) ho hg f1 hc.np (hc.nb b rfl) (comes_del hc) hsz hkl
  rw [upd_erase] at hd
  refine ⟨hd, ?_⟩
  have t1 : codec.Touch (fun i => i = p ∨ i = b) w w1 := by
    have := ((codec.Touch.refl (fun i => i = p ∨ i = b) w).alloc o).trans (hT.mono fun i _ h => .inl (by simpa [eq_comm] using h))
    exact this
  have t2 : codec.Touch (fun i => i = p ∨ i = b) w w1.drew := t1
  refine (t2.below hb).trans ⟨hg.os, hg.tape, hg.output, hg.size, fun i hi hn => hg.block i hi (fun e => hn (.inl (.inr (Option.some.inj e))))⟩
set_option maxRecDepth 50000 in
set_option maxHeartbeats 2000000 in
theorem put_some (w : World) (base p b : Nat) (D : DataW Value) (c : Cfg) (fm : FM) (N : Nat) (s : ByteArray) (hs : s.size ≤ 281474976710656) (A : Option Addr) (n cp : Nat) (sf : Nat) (ev : Bool) (f : File) (h : Dsk w base p (some b) D c fm N)
    (hf : Comes w base p (some b) D s.data.toList (.agg #[.slice A n cp, .int .i64 (sf : Nat), .bool ev]) f) (hN : N < 1000000) :
    Calls Tryz.prog 83 #[.pointer (some ⟨p, 0, none⟩), .string s, .agg #[.slice A n cp, .int .i64 (sf : Nat), .bool ev]] w fun e w' => e = .returned (.tuple #[]) ∧
      Dsk w' base p (some b) ((D.del (.string s.data.toList)).put (.string s.data.toList) (.held (.agg #[.slice A n cp, .int .i64 (sf : Nat), .bool ev]))) { c with used := wrap64 (wrap64 (c.used - lenAt fm s.data.toList) + n) } (upd fm s.data.toList f) (bump fm s.data.toList N) ∧ codec.Touch (fun k => k = p ∨ k = b) w w' := by
  have HD := Lib.hid h
  have HF := Lib.hid hf
  have hpl := h.facts.2.2.2.2.2.2.2
  have hbl := (h.map b rfl).2.2.lt
  have hmn := fun w' => map_ne w' b
  have HDr := Lib.hid (fun w1 (h1 : Dsk w1 base p (some b) D c fm N) => drop_any w1 base p (some b) D c fm N s (by unfold maxLen; omega) h1)
  clear h hf
  go_enter Tryz.func83, Tryz.ntmps83
  go_wp2_with (first | (go_at_call 80; refine (HDr.out _ (HD.out.below ((Below.refl _ _).alloc (Nat.le_refl _) _))).mono ?_; rintro e w1 ⟨rfl, hd1, ht1⟩; have HD1 := Lib.hid hd1; have HT1 := Lib.hid ht1; obtain ⟨d0, d1, d2, d3, d4, d5, hfz, hlt⟩ := hd1.facts; clear hd1 ht1))
  have hx := (HT1.out.2.2.2.2 w.heap.size (by simp) (by simp; omega)).trans (heap_alloc_new w _)
  obtain ⟨x0, x1, x2⟩ := box_cells hx
  have HX := Lib.hid hx
  clear hx
  go_region_with (go_at_call 104; refine (strClone_any _ s hs).mono ?_; rintro e w2 ⟨rfl, hb2⟩; obtain ⟨w3, hd2, hx2, hr3, ho3, hg3⟩ := put_step HD1.out hb2 HX.out s (by unfold maxLen; omega) (.agg #[.slice A n cp, .int .i64 (sf : Nat), .bool ev]) hN; obtain ⟨y0, y1, y2⟩ := box_cells hx2; obtain ⟨f0, f1, f2, f3, f4, f5, hfz2, hlt2⟩ := hd2.facts; have HD2 := Lib.hid hd2; have HX2 := Lib.hid hx2; have HB2 := Lib.hid hb2; have HO3 := Lib.hid ho3; have HG3 := Lib.hid hg3; clear hb2 hx2 ho3 hg3 hd2)
  all_goals
    have hfin := put_done HD.out HF.out HT1.out HB2.out HD2.out HO3.out HG3.out hs
    have hx3 := (HG3.out.block w.heap.size (Array.getElem?_eq_some_iff.1 HX2.out).1 (by simp; omega)).trans HX2.out
    obtain ⟨z0, z1, z2⟩ := box_cells hx3
    obtain ⟨g0, g1, g2, g3, g4, g5, hfz3, hlt3⟩ := hfin.1.facts
    have hfz1 := hfz3 (0 + 1)
    have HFin := Lib.hid hfin
    clear hfin hx3 d0 d1 d2 d3 d4 d5 hfz hlt x0 x1 x2 y0 y1 y2 f0 f1 f2 f3 f4 f5 hfz2 hlt2 hr3 z1 z2 g0 g2 g3 g4 g5 hfz3 HD2 HX2 HB2 HO3 HG3 HX HT1 HD1
    go_wp2
    go_region
    go_wp2
    go_end0
    exact ⟨rfl, (dsk_used HFin.out.1 _).drewN 1, (HFin.out.2.setCell ⟨p, 1, none⟩ (.inr (.inl rfl)) _).drewN 1⟩
end Go.Proofs.YthhflkgngencdaaGreatDoor.dis
namespace Go.Proofs.YthhflkgngencdaaGreatDoor.dis
open Go.Proofs.YthhflkgngencdaaGreatDoor.codec
open Go.ChangeShapes Go.WideShapes Go.ChangeAt Go.RowKit Go.Maps Go.WideMaps
set_option linter.unusedVariables false
set_option linter.unusedSimpArgs false

theorem dsk_newMap2 {w : World} {base p : Nat} {D : DataW Value} {c : Cfg} {fm : FM} {N : Nat} (h : Dsk w base p none D c fm N) (hB : base ≤ w.heap.size) :
    Dsk ((w.setCell ⟨p, 2, none⟩ (.map (some w.heap.size))).alloc (.map #[] 0)) base p (some w.heap.size) D c fm N := by
  have hD := h.nomap rfl
  have hlt := h.facts.2.2.2.2.2.2.2
  subst hD
  have hfm : ∀ s, fm s = none := fun s => by
    have := h.has s
    simpa [Maps.has] using this.symm
  have hno : ∀ s, blk (At (.map []) s) = none := fun s => by rw [h.none_ s (hfm s)]; simp [blk, Value.ownBlock]
  have hsz : (w.setCell ⟨p, 2, none⟩ (.map (some w.heap.size))).heap.size = w.heap.size := by simp
  refine ⟨?_, h.pb, fun e => (by cases e), fun b e => ?_, h.held, h.isMap, h.sz, h.has, h.none_, fun s f e => (by rw [hfm s] at e; cases e), fun s e => (by rw [hno s] at e; cases e), fun s b e e2 => (by rw [hno s] at e2; cases e2), fun s s' g e => (by rw [hno s] at e; cases e), h.short⟩
  · rw [Below.heap_alloc _ _ _ (by rw [hsz]; exact hlt), heap_setCell_same _ p 2 _ 61 _ h.head]
    simp
  · cases e
    refine ⟨hB, by omega, ?_⟩
    have := World.ownsMap_made (w.setCell ⟨p, 2, none⟩ (.map (some w.heap.size))) Tryz.prog 9 raw
    rw [hsz] at this
    exact this
theorem put_done2 {w w5 w2 w3 : World} {base p B n0 : Nat} {D1 : DataW Value} {c1 : Cfg} {fm1 : FM} {N N' : Nat} {v : Value} {f : File} {k : List UInt8} (hT : codec.Touch (fun i => i = p) w w5) (hb : Below w5.heap.size w5.drew w2) (hf : FileIs w5 base v f)
    (h2 : Dsk w2 base p (some B) D1 c1 fm1 N) (ho : w3.ownsMap Tryz.prog 9 raw B n0 (D1.put (.string k) (.held v))) (hg : w2.grownBy w3 (some B)) (hk : fm1 k = none) (hnp : blk v ≠ some p) (hnb : blk v ≠ some B) (ha : ∀ s g, blk (At D1 s) = some g → blk v ≠ some g) (hN : Maps.size D1 + 1 ≤ N') (hB : w.heap.size ≤ B) (hkl : k.length ≤ 281474976710656) :
    Dsk w3 base p (some B) (D1.put (.string k) (.held v)) c1 (upd fm1 k f) N' ∧ codec.Touch (fun i => i = p) w w3 := by
  have g3 : FileIs w5.drew base v f := hf
  have f2 : FileIs w2 base v f := g3.kept (row := none) ⟨hb.os, hb.tape, hb.output, hb.size, fun k hk _ => hb.block k hk⟩ (by cases hv : blk v <;> simp)
  refine ⟨dsk_put h2 k v f hk ho hg f2 hnp hnb ha hN hkl, ?_⟩
  have t2 : codec.Touch (fun i => i = p) w w5.drew := hT
  refine (t2.below hb).trans ⟨hg.os, hg.tape, hg.output, hg.size, fun i hi hn => hg.block i hi (fun e => hn (.inr (by have := Option.some.inj e; omega)))⟩
theorem nil_size {w : World} {base p : Nat} {D : DataW Value} {c : Cfg} {fm : FM} {N : Nat} (h : Dsk w base p none D c fm N) (k : List UInt8) : Maps.size (D.del (.string k)) + 1 ≤ bump fm k N := by
  have hD := h.nomap rfl
  subst hD
  have := h.has k
  have hk : (fm k).isSome = false := by simpa [Maps.has] using this.symm
  unfold bump
  rw [hk]
  show 0 + 1 ≤ _
  simp
theorem mk52 (w : World) : (Instr.makeMap 59 none).run Tryz.prog w = .ok (.map (some w.heap.size)) (w.alloc (.map #[] 0)) := by kernel_rfl
set_option maxRecDepth 50000 in
set_option maxHeartbeats 2000000 in
theorem put_nil (w : World) (base p : Nat) (D : DataW Value) (c : Cfg) (fm : FM) (N : Nat) (s : ByteArray) (hs : s.size ≤ 281474976710656) (A : Option Addr) (n cp : Nat) (sf : Nat) (ev : Bool) (f : File) (h : Dsk w base p none D c fm N)
    (hf : Comes w base p none D s.data.toList (.agg #[.slice A n cp, .int .i64 (sf : Nat), .bool ev]) f) (hN : N < 1000000) (hB : base ≤ w.heap.size) :
    Calls Tryz.prog 83 #[.pointer (some ⟨p, 0, none⟩), .string s, .agg #[.slice A n cp, .int .i64 (sf : Nat), .bool ev]] w fun e w' => e = .returned (.tuple #[]) ∧
      ∃ b, Dsk w' base p (some b) ((D.del (.string s.data.toList)).put (.string s.data.toList) (.held (.agg #[.slice A n cp, .int .i64 (sf : Nat), .bool ev]))) { c with used := wrap64 (wrap64 (c.used - lenAt fm s.data.toList) + n) } (upd fm s.data.toList f) (bump fm s.data.toList N) ∧ codec.Touch (fun k => k = p) w w' ∧ w.heap.size ≤ b := by
  have HD := Lib.hid h
  have HF := Lib.hid hf
  have hpl := h.facts.2.2.2.2.2.2.2
  have hmn := map_eq
  have hmk := mk52
  have HDr := Lib.hid (fun w1 (h1 : Dsk w1 base p none D c fm N) => drop_any w1 base p none D c fm N s (by unfold maxLen; omega) h1)
  clear h hf
  go_enter Tryz.func83, Tryz.ntmps83
  go_wp2_with (first | (go_at_call 80; refine (HDr.out _ (HD.out.below ((Below.refl _ _).alloc (Nat.le_refl _) _))).mono ?_; rintro e w1 ⟨rfl, hd1, ht1⟩; have HD1 := Lib.hid hd1; have HT1 := Lib.hid ht1; obtain ⟨d0, d1, d2, d3, d4, d5, hfz, hlt⟩ := hd1.facts; have hf2 := hfz 2; clear hd1 ht1))
  have hx := (HT1.out.2.2.2.2 w.heap.size (by simp) (by simp; omega)).trans (heap_alloc_new w _)
  have hs1 : w.heap.size + 1 ≤ w1.heap.size := by have := HT1.out.2.2.2.1; simpa using this
  refine forget (fun w5 => Dsk w5 base p (some w1.heap.size) (D.del (.string s.data.toList)) { c with used := wrap64 (c.used - lenAt fm s.data.toList) } (erase fm s.data.toList) N ∧ w5.heap[w.heap.size]? = some (.cells #[.slice A n cp, .int .i64 (sf : Nat), .bool ev] 93 (0, 0)) ∧ codec.Touch (fun k => k = p) w w5 ∧ FileIs w5 base (.agg #[.slice A n cp, .int .i64 (sf : Nat), .bool ev]) f) ?_ ?_
  · have hlt1 : w.heap.size < w1.heap.size := by omega
    have hg5 : w1.grownBy ((w1.setCell ⟨p, 2, none⟩ (.map (some w1.heap.size))).alloc (.map #[] 0)) (some p) := ⟨rfl, rfl, rfl, by simp, fun k hk hne => (Below.heap_alloc _ _ _ (by simpa using hk)).trans (heap_setCell_other _ _ _ _ (by simpa using hne))⟩
    have f1 : FileIs (w.alloc (.cells #[.slice A n cp, .int .i64 (sf : Nat), .bool ev] 93)) base (.agg #[.slice A n cp, .int .i64 (sf : Nat), .bool ev]) f := HF.out.file.kept (World.grownBy_alloc w _ none) (by cases hv : blk (.agg #[.slice A n cp, .int .i64 (sf : Nat), .bool ev]) <;> simp)
    have f2 : FileIs w1 base (.agg #[.slice A n cp, .int .i64 (sf : Nat), .bool ev]) f := f1.touch HT1.out (fun g e hF => by
      rcases hF with rfl | hF
      · exact HF.out.np e
      · simp at hF)
    refine ⟨dsk_newMap2 HD1.out (by omega), ?_, ?_, f2.kept hg5 (blk_ne HF.out.np)⟩
    · rw [hg5.block _ hlt1 (by simp; omega)]
      exact hx
    · have t1 : codec.Touch (fun k => k = p) w w1 := ((codec.Touch.refl (fun i => i = p) w).alloc _).trans (HT1.out.mono fun i _ h => .inl (by simpa using h))
      exact t1.trans ⟨hg5.os, hg5.tape, hg5.output, hg5.size, fun k hk hn => hg5.block k hk (fun e => hn (.inl (Option.some.inj e)))⟩
  rintro w5 ⟨hd5, hx5, ht5, hf5⟩
  obtain ⟨B, hBe⟩ : ∃ B, B = w1.heap.size := ⟨_, rfl⟩
  rw [← hBe] at hd5
  have hBw : w.heap.size < B := by omega
  obtain ⟨x0, x1, x2⟩ := box_cells hx5
  have HX := Lib.hid hx5
  have HD5 := Lib.hid hd5
  have HT5 := Lib.hid ht5
  have HF5 := Lib.hid hf5
  have HE := Lib.hid (comes_del HF.out)
  have HNb : Hid (blk (.agg #[.slice A n cp, .int .i64 (sf : Nat), .bool ev]) ≠ some B) := fun e => by
    obtain ⟨sl, e1, ho, _⟩ := HF.out.file
    have e2 : blk (.agg #[.slice A n cp, .int .i64 (sf : Nat), .bool ev]) = sl.ownBlock := by rw [e1]; rfl
    have := (ho.lt B (by rw [← e2]; exact e)).2
    omega
  clear d0 d1 d2 d3 d4 d5 hfz hlt hf2 hx hs1 HT1 HD1
  obtain ⟨d0, d1, d2, d3, d4, d5, hfz, hlt⟩ := hd5.facts
  clear hd5 hx5 ht5 hf5 hBe d0 d1 d3 d4 d5 hfz hlt
  go_region_with (go_at_call 104; refine (strClone_any _ s hs).mono ?_; rintro e w2 ⟨rfl, hb2⟩; obtain ⟨w3, hd2, hx2, hr3, ho3, hg3⟩ := put_step HD5.out hb2 HX.out s (by unfold maxLen; omega) (.agg #[.slice A n cp, .int .i64 (sf : Nat), .bool ev]) hN; obtain ⟨y0, y1, y2⟩ := box_cells hx2; obtain ⟨f0, f1, f2, f3, f4, f5, hfz2, hlt2⟩ := hd2.facts; have HD2 := Lib.hid hd2; have HX2 := Lib.hid hx2; have HB2 := Lib.hid hb2; have HO3 := Lib.hid ho3; have HG3 := Lib.hid hg3; clear hb2 hx2 ho3 hg3 hd2 f0 f1 f3 f4 f5)
  all_goals
    have hfin := put_done2 (f := f) (k := s.data.toList) (N' := bump fm s.data.toList N) HT5.out HB2.out HF5.out HD2.out HO3.out HG3.out (by simp [erase]) HF.out.np HNb.out HE.out (nil_size HD.out s.data.toList) (by omega) hs
    rw [upd_erase] at hfin
    have hx3 := (HG3.out.block w.heap.size (Array.getElem?_eq_some_iff.1 HX2.out).1 (by simp; omega)).trans HX2.out
    obtain ⟨z0, z1, z2⟩ := box_cells hx3
    obtain ⟨g0, g1, g2, g3, g4, g5, hfz3, hlt3⟩ := hfin.1.facts
    have hfz1 := hfz3 (0 + 1)
    have HFin := Lib.hid hfin
    clear hfin hx3 d2 x0 x1 x2 y0 y1 y2 f2 hfz2 hlt2 hr3 z1 z2 g0 g2 g3 g4 g5 hfz3 HD2 HX2 HB2 HO3 HG3 HX
    go_wp2
    go_region
    go_wp2
    go_end0
    exact ⟨rfl, B, (dsk_used HFin.out.1 _).drewN 1, (HFin.out.2.setCell ⟨p, 1, none⟩ (.inr rfl) _).drewN 1, by omega⟩
end Go.Proofs.YthhflkgngencdaaGreatDoor.dis
namespace Go.Proofs.YthhflkgngencdaaGreatDoor.dis
open Go.Proofs.YthhflkgngencdaaGreatDoor.codec
open Go.ChangeShapes Go.WideShapes Go.ChangeAt Go.RowKit Go.Maps Go.WideMaps
set_option linter.unusedVariables false
set_option linter.unusedSimpArgs false

theorem power_any {w : World} {base p : Nat} {mb : Option Nat} {D : DataW Value} {c : Cfg} {fm : FM} {N : Nat} (h : Dsk w base p mb D c fm N) :
    Calls Tryz.prog 42 #[.pointer (some ⟨p, 0, none⟩)] w fun e w' => e = .returned (.int .i64 (if c.lost then 6 else 0)) ∧ w = w' := by
  obtain ⟨d0, d1, d2, d3, d4, d5, hf, hlt⟩ := h.facts
  clear h
  cases hl : c.lost with
  | true =>
    rw [hl] at d5
    go_enter Tryz.func42, Tryz.ntmps42
    go_wp2
    go_ret
    exact ⟨rfl, rfl⟩
  | false =>
    rw [hl] at d5
    go_enter Tryz.func42, Tryz.ntmps42
    go_wp2
    go_ret
    exact ⟨rfl, rfl⟩
/-- A cell of the disk's own is another. -/
theorem dsk_own {w : World} {base p j : Nat} {mb : Option Nat} {D : DataW Value} {c c' : Cfg} {fm : FM} {N : Nat} {v : Value} (h : Dsk w base p mb D c fm N)
    (hj : (#[.int .i64 c.cap, .int .i64 c.used, .map mb, .bool c.fused, .int .i64 c.fuse, .bool c.lost] : Array Value).setIfInBounds j v = #[.int .i64 c'.cap, .int .i64 c'.used, .map mb, .bool c'.fused, .int .i64 c'.fuse, .bool c'.lost]) : Dsk (w.setCell ⟨p, j, none⟩ v) base p mb D c' fm N := by
  have hg : w.grownBy (w.setCell ⟨p, j, none⟩ v) (some p) := ⟨rfl, rfl, rfl, by simp, fun k _ hk => heap_setCell_other _ _ _ _ (by simpa using hk)⟩
  refine ⟨?_, h.pb, h.nomap, fun b e => ?_, h.held, h.isMap, h.sz, h.has, h.none_, fun s f e => (h.file s f e).kept hg (blk_ne (h.np s)), h.np, h.nb, h.apart, h.short⟩
  · rw [heap_setCell_same _ p j _ 61 _ h.head, hj]
  · obtain ⟨h1, h2, h3⟩ := h.map b e
    exact ⟨h1, h2, h3.kept hg (by simpa using h2)⟩
/-- What a change does to the fuse: whether the power goes. -/
def goes (c : Cfg) : Bool := c.fused && !(decide (0 < c.fuse))
def burnt (c : Cfg) : Cfg := if c.fused then (if 0 < c.fuse then { c with fuse := wrap64 (c.fuse - 1) } else { c with lost := true }) else c
set_option maxRecDepth 20000 in
theorem powerGoes_any {w : World} {base p : Nat} {mb : Option Nat} {D : DataW Value} {c : Cfg} {fm : FM} {N : Nat} (h : Dsk w base p mb D c fm N) :
    Calls Tryz.prog 79 #[.pointer (some ⟨p, 0, none⟩)] w fun e w' => e = .returned (.bool (goes c)) ∧ Dsk w' base p mb D (burnt c) fm N ∧ codec.Touch (fun k => k = p) w w' := by
  obtain ⟨d0, d1, d2, d3, d4, d5, hf, hlt⟩ := h.facts
  have hf4 := hf 4
  have hf5 := hf 5
  have HD := Lib.hid h
  obtain ⟨cap, used, fused, fuse, lost⟩ := c
  simp only at d3 d4 d5
  clear h hf d0 d1 d2
  cases fused with
  | false =>
    go_enter Tryz.func79, Tryz.ntmps79
    go_wp2
    go_ret
    exact ⟨rfl, HD.out, codec.Touch.refl _ _⟩
  | true =>
    by_cases h0 : 0 < fuse
    · have HB : Hid (burnt ⟨cap, used, true, fuse, lost⟩ = ⟨cap, used, true, wrap64 (fuse - 1), lost⟩ ∧ goes ⟨cap, used, true, fuse, lost⟩ = false) := by
        exact ⟨by simp [burnt, h0], by simp [goes, h0]⟩
      go_enter Tryz.func79, Tryz.ntmps79
      go_wp2
      go_ret
      refine ⟨by rw [HB.out.2]; rfl, ?_, (codec.Touch.refl (fun k => k = p) w).setCell ⟨p, 4, none⟩ (.inr rfl) _⟩
      rw [HB.out.1]
      exact dsk_own HD.out rfl
    · have HB : Hid (burnt ⟨cap, used, true, fuse, lost⟩ = ⟨cap, used, true, fuse, true⟩ ∧ goes ⟨cap, used, true, fuse, lost⟩ = true) := by
        exact ⟨by simp [burnt, h0], by simp [goes, h0]⟩
      go_enter Tryz.func79, Tryz.ntmps79
      go_wp2
      go_ret
      refine ⟨by rw [HB.out.2]; rfl, ?_, (codec.Touch.refl (fun k => k = p) w).setCell ⟨p, 5, none⟩ (.inr rfl) _⟩
      rw [HB.out.1]
      exact dsk_own HD.out rfl
set_option maxRecDepth 20000 in
theorem made_any (w : World) (A : Option Addr) (n cp : Nat) : Calls Tryz.prog 84 #[.slice A n cp] w fun e w' => e = .returned (.agg #[.slice A n cp, .int .i64 (n : Nat), .bool true]) ∧ Below w.heap.size w w' := by
  go_enter Tryz.func84, Tryz.ntmps84
  go_wp2
  refine bodyPost_ret (v := .agg #[.slice A n cp, .int .i64 (n : Nat), .bool true]) (by simp [results, Tryz.results84, go_sem]) rfl ⟨rfl, ?_⟩
  exact (Below.refl _ _).alloc (Nat.le_refl _) _
set_option maxRecDepth 20000 in
theorem whole_any (w : World) (A : Option Addr) (n cp sf : Nat) (ev : Bool) : Calls Tryz.prog 43 #[.agg #[.slice A n cp, .int .i64 (sf : Nat), .bool ev]] w fun e w' => e = .returned (.bool (ev && decide (sf = n))) ∧ Below w.heap.size w w' := by
  cases ev with
  | false =>
    go_enter Tryz.func43, Tryz.ntmps43
    go_wp2
    go_ret
    exact ⟨rfl, (Below.refl _ _).alloc (Nat.le_refl _) _⟩
  | true =>
    have hd : ((sf : Int) == (n : Int)) = decide (sf = n) := by
      by_cases e : sf = n
      · simp [e]
      · have : ¬ ((sf : Int) = (n : Int)) := by omega
        simp [e, this]
    go_enter Tryz.func43, Tryz.ntmps43
    go_wp2
    go_ret
    exact ⟨by rw [Bool.true_and, ← hd]; rfl, (Below.refl _ _).alloc (Nat.le_refl _) _⟩

set_option maxRecDepth 20000 in
set_option maxHeartbeats 1000000 in
theorem find_lost {w : World} {base p : Nat} {mb : Option Nat} {D : DataW Value} {c : Cfg} {fm : FM} {N : Nat} (h : Dsk w base p mb D c fm N) (s : ByteArray) (hl : c.lost = true) :
    Calls Tryz.prog 46 #[.pointer (some ⟨p, 0, none⟩), .string s] w fun e w' => e = .returned (.tuple #[noFile, .int .i64 6]) ∧ Below w.heap.size w w' := by
  have HP := Lib.hid (fun (w1 : World) (hb : Below w.heap.size w w1) => power_any (h.below hb))
  rw [hl] at HP
  simp only [if_true] at HP
  clear h
  go_enter Tryz.func46, Tryz.ntmps46
  go_wp2_with (go_at_call 42; refine (HP.out _ ((Below.refl _ _).alloc (Nat.le_refl _) _)).mono ?_; rintro e w1 ⟨rfl, rfl⟩)
  refine bodyPost_ret (v := .tuple #[noFile, .int .i64 6]) (by simp [results, Tryz.results46, go_sem]) rfl ⟨rfl, ?_⟩
  exact (Below.refl _ _).alloc (Nat.le_refl _) _
set_option maxRecDepth 20000 in
set_option maxHeartbeats 1000000 in
theorem find_none {w : World} {base p : Nat} {mb : Option Nat} {D : DataW Value} {c : Cfg} {fm : FM} {N : Nat} (h : Dsk w base p mb D c fm N) (s : ByteArray) (hs : s.size ≤ maxLen) (hl : c.lost = false) (hk : fm s.data.toList = none) :
    Calls Tryz.prog 46 #[.pointer (some ⟨p, 0, none⟩), .string s] w fun e w' => e = .returned (.tuple #[noFile, .int .i64 7]) ∧ Below w.heap.size w w' := by
  have HP := Lib.hid (fun (w1 : World) (hb : Below w.heap.size w w1) => power_any (h.below hb))
  rw [hl] at HP
  simp only [Bool.false_eq_true, if_false] at HP
  have hw1 : Below w.heap.size w (w.alloc (.cells #[.slice none 0 0, .int .i64 0, .bool false] 93)) := (Below.refl _ _).alloc (Nat.le_refl _) _
  have hlk := ((h.below hw1).look s hs).2
  rw [h.none_ _ hk, h.has, hk] at hlk
  obtain ⟨d0, d1, d2, d3, d4, d5, hf, hlt⟩ := (h.below hw1).facts
  clear h hf d0 d1 d3 d4 d5 hw1
  simp only [Option.isSome_none] at hlk
  go_enter Tryz.func46, Tryz.ntmps46
  go_wp2_with (go_at_call 42; refine (HP.out _ ((Below.refl _ _).alloc (Nat.le_refl _) _)).mono ?_; rintro e w1 ⟨rfl, rfl⟩)
  refine bodyPost_ret (v := .tuple #[noFile, .int .i64 7]) (by simp [results, Tryz.results46, go_sem]) rfl ⟨rfl, ?_⟩
  exact ((Below.refl _ _).alloc (Nat.le_refl _) _).alloc (by simp) _
set_option maxRecDepth 20000 in
set_option maxHeartbeats 1000000 in
theorem find_some {w : World} {base p : Nat} {mb : Option Nat} {D : DataW Value} {c : Cfg} {fm : FM} {N : Nat} (h : Dsk w base p mb D c fm N) (s : ByteArray) (hs : s.size ≤ maxLen) (hl : c.lost = false) (f : File) (hk : fm s.data.toList = some f) :
    Calls Tryz.prog 46 #[.pointer (some ⟨p, 0, none⟩), .string s] w fun e w' => e = .returned (.tuple #[At D s.data.toList, .int .i64 0]) ∧ Below w.heap.size w w' := by
  have HP := Lib.hid (fun (w1 : World) (hb : Below w.heap.size w w1) => power_any (h.below hb))
  rw [hl] at HP
  simp only [Bool.false_eq_true, if_false] at HP
  have hw1 : Below w.heap.size w (w.alloc (.cells #[.slice none 0 0, .int .i64 0, .bool false] 93)) := (Below.refl _ _).alloc (Nat.le_refl _) _
  have hlk := ((h.below hw1).look s hs).2
  obtain ⟨A, n, cp, sf, ev, hat, hn⟩ := h.form s.data.toList
  clear hn
  rw [h.has, hk, hat] at hlk
  rw [hat]
  obtain ⟨d0, d1, d2, d3, d4, d5, hf, hlt⟩ := (h.below hw1).facts
  clear h hf d0 d1 d3 d4 d5 hw1
  simp only [Option.isSome_some] at hlk
  go_enter Tryz.func46, Tryz.ntmps46
  go_wp2_with (go_at_call 42; refine (HP.out _ ((Below.refl _ _).alloc (Nat.le_refl _) _)).mono ?_; rintro e w1 ⟨rfl, rfl⟩)
  refine bodyPost_ret (v := .tuple #[.agg #[.slice A n cp, .int .i64 (sf : Nat), .bool ev], .int .i64 0]) (by simp [results, Tryz.results46, go_sem]) rfl ⟨rfl, ?_⟩
  exact ((Below.refl _ _).alloc (Nat.le_refl _) _).alloc (by simp) _
end Go.Proofs.YthhflkgngencdaaGreatDoor.dis
namespace Go.Proofs.YthhflkgngencdaaGreatDoor.dis
open Go.Proofs.YthhflkgngencdaaGreatDoor.codec
open Go.ChangeShapes Go.WideShapes Go.ChangeAt Go.RowKit Go.Maps Go.WideMaps
set_option linter.unusedVariables false
set_option linter.unusedSimpArgs false

/-- Behind an append the old value has what it had. -/
theorem append_keeps {w w' : World} {ty : TypeId} {base : Nat} {v v' : Value} {M : List Nat} (hown : w.ownsRow base 5 1 v M.length (vals M)) {A : Option Addr} {m c : Nat} {L : List Nat} (hB : Bytes w A m L) (hnil : A = none → c = 0) (hbound : M.length + m ≤ 1000000000)
    (hr : (Builtin.append_ #[40, 40] ty #[v, .slice A m c]).run Tryz.prog w = .ok v' w') : w'.ownsRow base 5 1 v M.length (vals M) := by
  obtain ⟨i0, hi, hz0, hz1, hz2⟩ := info_parts info5
  have hl := hB.1
  rcases hown.2 with e | ⟨g, cap, cur, rfl, hbg, hg, hnc, hcm, hcs, htake⟩
  · exact ⟨hown.1, .inl e⟩
  · have hm : 0 < m → ∃ ad, A = some ad ∧ ∀ j u, (vals L)[j]? = some u → w.cell? (ad.add j) = some u := fun h => hB.cells h
    cases A with
    | none =>
      have hm0 : m = 0 := by
        rcases Nat.eq_zero_or_pos m with h0 | h0
        · exact h0
        · obtain ⟨b, o', e, _⟩ := hB.2.2 h0
          cases e
      have hc := hnil rfl
      subst hm0 hc
      have e0 : (Builtin.append_ #[40, 40] ty #[.slice (some ⟨g, 0, none⟩) M.length cap, .slice none 0 0]).run Tryz.prog w = .ok (.slice (some ⟨g, 0, none⟩) M.length cap) w := by
        simp [Builtin.append_, run_underlying Tryz.underlying40, sizeOf, typeInfo, hi, Builtin.lenOf, Builtin.firstCells, hnc, storeCells, loadCells, loadCellsFrom]
      rw [e0] at hr
      cases hr
      exact hown
    | some ad =>
      have hnews : ∀ j u, (vals L)[j]? = some u → w.cell? (ad.add j) = some u := fun j u hu => by
        have hj : j < L.length := by
          have := (List.getElem?_eq_some_iff.1 hu).1
          simpa [vals] using this
        obtain ⟨ad', e, hc⟩ := hm (by omega)
        cases e
        exact hc j u hu
      have hxl : (vals M).length = M.length := vals_length M
      have hyl : (vals L).length = m := by rw [vals_length, hl]
      by_cases hroom : M.length + m ≤ cap
      · have e0 := run_append_room (P := Tryz.prog) w 40 ty 5 i0 Tryz.underlying40 hi g M.length cap cur hg ad m c (vals L) (by rw [hz1]; omega) hnews (vals_one L) hroom (by rw [hz1]; omega)
        rw [e0] at hr
        cases hr
        refine ⟨hown.1, .inr ⟨g, cap, _, rfl, hbg, setRow_heap w g cur _ 5 _ hg, hnc, hcm, ?_, ?_⟩⟩
        · simp only [List.size_toArray, List.length_append, List.length_take, List.length_drop, Array.length_toList, hz1]
          omega
        · rw [hz1, htake]
          have : ((vals M) ++ vals L ++ cur.toList.drop (M.length * 1 + (vals L).length)).take (M.length * 1) = vals M := by
            rw [List.append_assoc, Nat.mul_one, ← hxl]
            exact List.take_left
          simpa using this
      · have e0 := run_append_grow (P := Tryz.prog) w 40 ty 5 i0 (.int .u8 0) Tryz.underlying40 hi hz0 ⟨g, 0, none⟩ M.length cap (vals M) (by rw [hz1]; omega) (hown.cells (g := g) rfl) ad m c (vals L) (by rw [hz1]; omega) hnews (by omega) (by omega) (growslice_fits (by omega) (by rw [hz2]; omega))
        rw [e0] at hr
        cases hr
        exact hown.kept (row := none) ⟨rfl, rfl, rfl, by simp, fun k hk _ => Below.heap_alloc w.drew _ k hk⟩ (by simp [Value.ownBlock])
end Go.Proofs.YthhflkgngencdaaGreatDoor.dis
