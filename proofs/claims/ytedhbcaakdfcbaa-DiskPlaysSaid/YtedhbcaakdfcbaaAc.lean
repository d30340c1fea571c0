/- Names and bytes that are read back. -/
import Derived.Test.YtedhbcaakdfcbaaAa
import Derived.Laws.BytesArg
import Derived.Shelf.Bytes.SlSmallAll
import Derived.Lib.ConvBytes
namespace Go.Proofs.Ytedhbcaakdfcbaa.disk
open Go.ChangeShapes Go.WideShapes Go.ChangeAt Go.RowKit Go.Maps Go.WideMaps Go.Sort Go.Shelf
set_option linter.unusedVariables false
set_option linter.unusedSimpArgs false

def textOf (l : List Nat) : ByteArray := ⟨(l.map UInt8.ofNat).toArray⟩
theorem strOfNums_text (l : List Nat) : strOfNums (l.map Int.ofNat) = textOf l := by
  simp only [strOfNums, textOf, List.map_map]
  rfl
/-- Bytes as a text. -/
theorem Bytes.text {w : World} {A : Option Addr} {n : Nat} {l : List Nat} (h : Bytes w A n l) (c : Nat) : (convert 33 9 (.slice A n c)).run Try.prog w = .ok (.string (textOf l)) w := by
  rcases Nat.eq_zero_or_pos n with h0 | h0
  · subst h0
    obtain rfl : l = [] := List.eq_nil_of_length_eq_zero h.1
    rw [run_convert_bytes_zero w 33 5 Try.underlying33 Try.underlying5 A c 9 Try.underlying9]
    rfl
  · obtain ⟨b, o, rfl, hc⟩ := h.2.2 h0
    have hl := h.1
    rw [run_convert_bytes_arg (P := Try.prog) w 33 5 Try.underlying33 Try.underlying5 b o n c (l.map Int.ofNat) (by simpa using hl) (fun i hi => by
      rw [hc i hi]
      have hi' : i < l.length := by omega
      simp [List.getD, hi']) 9 Try.underlying9, strOfNums_text]
theorem textOf_inj {a b : List Nat} (ha : ∀ x ∈ a, x < 256) (hb : ∀ x ∈ b, x < 256) (h : textOf a = textOf b) : a = b := by
  unfold textOf at h
  have h1 : a.map UInt8.ofNat = b.map UInt8.ofNat := by
    have := congrArg ByteArray.data h
    simpa using this
  have h2 := congrArg (List.map UInt8.toNat) h1
  simp only [List.map_map] at h2
  have e : ∀ l : List Nat, (∀ x ∈ l, x < 256) → l.map (UInt8.toNat ∘ UInt8.ofNat) = l := by
    intro l hl
    calc l.map (UInt8.toNat ∘ UInt8.ofNat) = l.map id := List.map_congr_left (fun x hx => by simp [Nat.mod_eq_of_lt (hl x hx)])
      _ = l := by simp
  rwa [e a ha, e b hb] at h2
/-- A list of names that lies somewhere. -/
def NamesAt (w : World) (A : Option Addr) (n : Nat) (ns : List (List UInt8)) : Prop := ns.length = n ∧ (0 < n → ∃ g, A = some ⟨g, 0, none⟩ ∧ ∀ k, k < n → w.cell? ⟨g, k, none⟩ = some (encStr (ns.getD k [])))
theorem namesAt_of {w : World} {B : Nat} {A : Option Addr} {n cp : Nat} {ns : List (List UInt8)} (h : w.ownsRow B 9 1 (.slice A n cp) ns.length (ns.map encStr)) (hn : ns.length = n) : NamesAt w A n ns := by
  refine ⟨hn, fun h0 => ?_⟩
  rcases h.2 with ⟨e, h1⟩ | ⟨g, cap, cur, e, hb, hg, hc, hm, hs, ht⟩
  · omega
  · cases e
    refine ⟨g, rfl, fun k hk => ?_⟩
    have hk' : k < ns.length := by omega
    have hv : (ns.map encStr)[k]? = some (encStr (ns.getD k [])) := by
      simp [List.getD, List.getElem?_eq_getElem hk']
    have h2 : cur[k]? = (ns.map encStr)[k]? := by
      rw [← ht, List.getElem?_take, if_pos (by omega)]
      simp
    simp [World.cell?, hg, h2, hv]
theorem NamesAt.below {w w' : World} {A : Option Addr} {n : Nat} {ns : List (List UInt8)} (h : NamesAt w A n ns) (hb : Below w.heap.size w w') : NamesAt w' A n ns := by
  refine ⟨h.1, fun h0 => ?_⟩
  obtain ⟨g, e, hc⟩ := h.2 h0
  refine ⟨g, e, fun k hk => ?_⟩
  have := hc k hk
  exact (hb.cell (p := ⟨g, k, none⟩) (block_lt_of_cell this)).trans this
theorem Bytes.belowS {w w' : World} {A : Option Addr} {n : Nat} {l : List Nat} (h : Bytes w A n l) (hb : Below w.heap.size w w') : Bytes w' A n l := h.below (fun ad e h0 => h.lt ad e h0) hb
/-- What reading a file that is there answers. -/
def rdL (c : Cfg) (f : File) : List Nat := if c.lost then [] else f.l
def rdE (c : Cfg) : Int := if c.lost then 6 else 0
theorem empty_b (w : World) : Bytes w none 0 [] := ⟨rfl, by simp, fun h => absurd h (by omega)⟩
set_option maxRecDepth 50000 in
set_option maxHeartbeats 4000000 in
theorem read_lost {w : World} {base p : Nat} {mb : Option Nat} {D : DataW Value} {c : Cfg} {fm : FM} {N : Nat} (s : ByteArray) (hs : s.size ≤ 281474976710656) (h : Dsk w base p mb D c fm N) (hl : c.lost = true) :
    Calls Try.prog 16 #[.pointer (some ⟨p, 0, none⟩), .string s] w fun e w' => e = .returned (.tuple #[.slice none 0 0, .int .i64 6]) ∧ Below w.heap.size w w' := by
  have H37 := Lib.hid (find_lost h s hl)
  clear h
  go_enter Try.func16, Try.ntmps16
  go_wp2_with (go_at_call 37; refine H37.out.mono ?_; rintro e w1 ⟨rfl, hb⟩; have HB := Lib.hid hb; clear hb)
  go_ret2
  exact ⟨rfl, HB.out.trans (((Below.refl _ _).alloc (Nat.le_refl _) _).mono HB.out.size)⟩
theorem read_at {w : World} {base p : Nat} {mb : Option Nat} {D : DataW Value} {c : Cfg} {fm : FM} {N : Nat} (s : List UInt8) (h : Dsk w base p mb D c fm N) (f : File) (hf : fm s = some f) (hm : f.l.length ≤ 1000000) :
    Calls Try.prog 16 #[.pointer (some ⟨p, 0, none⟩), encStr s] w fun e w' => ∃ A m, e = .returned (.tuple #[.slice A m m, .int .i64 (rdE c)]) ∧ Bytes w' A m (rdL c f) ∧ Below w.heap.size w w' := by
  have hs : (ByteArray.mk s.toArray).size ≤ 281474976710656 := by
    have := h.short s (by rw [hf]; rfl)
    simpa [ByteArray.size] using this
  rw [encStr_def]
  cases hl : c.lost with
  | true =>
    refine (read_lost ⟨s.toArray⟩ hs h hl).mono ?_
    rintro e w' ⟨rfl, hb⟩
    exact ⟨none, 0, by rw [show rdE c = 6 by simp [rdE, hl]], by rw [show rdL c f = [] by simp [rdL, hl]]; exact empty_b w', hb⟩
  | false =>
    refine (read_some ⟨s.toArray⟩ hs h hl f (by simpa using hf) hm).mono ?_
    rintro e w' ⟨g, rfl, hg, hr, hb⟩
    have h256 := (h.whole s)
    refine ⟨some ⟨g, 0, none⟩, f.l.length, by rw [show rdE c = 0 by simp [rdE, hl]], ?_, hb⟩
    rw [show rdL c f = f.l by simp [rdL, hl]]
    refine ⟨rfl, ?_, fun h0 => ⟨g, 0, rfl, fun i hi => ?_⟩⟩
    · obtain ⟨A, n, cp, hat, hown, h256, hsf, hn, hcp⟩ := h.whole s
      rw [fileAt_some hf] at h256
      exact h256
    · simp [World.cell?, hr, vals, List.getD, hi]
theorem bytes_ext {a b : ByteArray} (h : a.data.toList = b.data.toList) : a = b := by
  obtain ⟨⟨a⟩⟩ := a
  obtain ⟨⟨b⟩⟩ := b
  simp at h
  rw [h]
theorem NamesAt.at_ {w : World} {A : Option Addr} {n : Nat} {ns : List (List UInt8)} (h : NamesAt w A n ns) {k : Nat} (hk : k < n) :
    ∃ g B, A = some ⟨g, 0, none⟩ ∧ (B : ByteArray).data.toList = ns.getD k [] ∧ ns.getD k [] ∈ ns ∧ w.cell? ⟨g, k, none⟩ = some (.string B) := by
  obtain ⟨g, e, hc⟩ := h.2 (by omega)
  have hk' : k < ns.length := by have := h.1; omega
  refine ⟨g, ⟨(ns.getD k []).toArray⟩, e, by simp, ?_, by rw [hc k hk, encStr_def]⟩
  have : ns.getD k [] = ns[k] := by simp [List.getD, hk']
  rw [this]
  exact List.getElem_mem hk'
theorem read_str {w : World} {base p : Nat} {mb : Option Nat} {D : DataW Value} {c : Cfg} {fm : FM} {N : Nat} (s : ByteArray) (h : Dsk w base p mb D c fm N) (f : File) (hf : fm s.data.toList = some f) (hm : f.l.length ≤ 1000000) :
    Calls Try.prog 16 #[.pointer (some ⟨p, 0, none⟩), .string s] w fun e w' => ∃ A m, e = .returned (.tuple #[.slice A m m, .int .i64 (rdE c)]) ∧ Bytes w' A m (rdL c f) ∧ Below w.heap.size w w' := by
  have := read_at s.data.toList h f hf hm
  rw [encStr_def] at this
  exact this
theorem own_len {w : World} {B : Nat} {v : Value} {n : Nat} {l : List Value} (h : w.ownsRow B 9 1 v n l) : n ≤ 2 ^ 63 - 1 := by
  rcases h.2 with ⟨e, h1⟩ | ⟨g, cap, cur, e, hb, hg, hc, hm, hs, ht⟩
  · omega
  · unfold maxLen at hm
    omega
end Go.Proofs.Ytedhbcaakdfcbaa.disk
