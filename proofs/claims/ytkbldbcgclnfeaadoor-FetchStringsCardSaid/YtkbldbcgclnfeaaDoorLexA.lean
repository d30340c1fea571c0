/- Bytes as texts, and slices of them. -/
import Derived.Test.YtkbldbcgclnfeaaDoorLexM
import Derived.Test.YtkbldbcgclnfeaaDoorCodA
import Derived.Laws.BytesArg
import Derived.Lib.ConvBytes
import Derived.Lib.Bytes
import Derived.Lib.Index
import Derived.Test.YtkbldbcgclnfeaaDoorRow
namespace Go.Proofs.YtkbldbcgclnfeaaDoor.lx
open Go.ChangeShapes Go.WideShapes Go.ChangeAt Go.RowKit
open Go.Proofs.YtkbldbcgclnfeaaDoor.codec (Bytes vals)
open Go.Proofs.YtkbldbcgclnfeaaDoor.row
set_option linter.unusedVariables false
set_option maxRecDepth 100000
set_option linter.unusedSimpArgs false

def strOf (l : List Nat) : ByteArray := ⟨(l.map UInt8.ofNat).toArray⟩
theorem strOfNums_nat (l : List Nat) : strOfNums (l.map Int.ofNat) = strOf l := by
  simp only [strOfNums, strOf, List.map_map]
  rfl
theorem strOf_size (a : List Nat) : (strOf a).size = a.length := by simp [strOf, ByteArray.size]
theorem no_bytes (w : World) (src e : TypeId) (hs : Tryd.prog.underlying src = some (.slice e)) (he : Tryd.prog.underlying e = some (.int .u8)) (p : Option Addr) (c : Nat) (dst : TypeId) (hd : Tryd.prog.underlying dst = some .string) :
    (convert src dst (.slice p 0 c)).run Tryd.prog w = .ok (.string ⟨#[]⟩) w := by
  rw [run_convert_bytes_string w src dst e _ 0 c hs he hd]
  cases p <;> simp [Conv.bytesToString, loadCells]
  all_goals rfl
/-- Bytes as a text. -/
theorem Bytes.text {w : World} {A : Option Addr} {n : Nat} {l : List Nat} (h : Bytes w A n l) (c : Nat) : (convert 27 9 (.slice A n c)).run Tryd.prog w = .ok (.string (strOf l)) w := by
  rcases Nat.eq_zero_or_pos n with h0 | h0
  · subst h0
    obtain rfl : l = [] := List.eq_nil_of_length_eq_zero h.1
    rw [no_bytes w 27 5 Tryd.underlying27 Tryd.underlying5 A c 9 Tryd.underlying9]
    rfl
  · obtain ⟨b, o, rfl, hc⟩ := h.2.2 h0
    have hl := h.1
    rw [run_convert_bytes_arg (P := Tryd.prog) w 27 5 Tryd.underlying27 Tryd.underlying5 b o n c (l.map Int.ofNat) (by simpa using hl) (fun i hi => by
      rw [hc i hi]
      have hi' : i < l.length := by omega
      simp [List.getD, hi']) 9 Tryd.underlying9, strOfNums_nat]
theorem strOf_inj {a b : List Nat} (ha : ∀ x ∈ a, x < 256) (hb : ∀ x ∈ b, x < 256) (h : strOf a = strOf b) : a = b := by
  unfold strOf at h
  have h1 : a.map UInt8.ofNat = b.map UInt8.ofNat := by
    have := congrArg ByteArray.data h
    simpa using this
  have h2 := congrArg (List.map UInt8.toNat) h1
  simp only [List.map_map] at h2
  have e : ∀ l : List Nat, (∀ x ∈ l, x < 256) → l.map (UInt8.toNat ∘ UInt8.ofNat) = l := by
    intro l hl
    calc l.map (UInt8.toNat ∘ UInt8.ofNat) = l.map id := List.map_congr_left (fun x hx => by simp [Nat.mod_eq_of_lt (hl x hx)])
      _ = l := by simp
  rwa [e a ha, e b hb] at h2
def byt (s : ByteArray) (i : Nat) : Nat := (s.data[i]!).toNat
theorem byt_at (s : ByteArray) (i : Nat) (h : i < s.size) : (s[i]'h).toNat = byt s i := by
  unfold byt
  congr 1
  exact (getElem!_pos s.data i h).symm
theorem byt_lt (s : ByteArray) (i : Nat) : byt s i < 256 := UInt8.toNat_lt _
theorem byt_strOf {l : List Nat} (hl : ∀ x ∈ l, x < 256) {i b : Nat} (h : l[i]? = some b) : byt (strOf l) i = b := by
  obtain ⟨h1, h2⟩ := List.getElem?_eq_some_iff.1 h
  have h3 := hl b (h2 ▸ List.getElem_mem h1)
  unfold byt strOf
  simp [h1, h2]
  omega
/-- A slice that came in, or a part of one. -/
def Sl (w : World) (A : Option Addr) (n c : Nat) (l : List Nat) : Prop := Bytes w A n l ∧ n ≤ c ∧ True ∧ (A = none → c = 0)
theorem Sl.below {w w' : World} {A : Option Addr} {n c : Nat} {l : List Nat} (h : Sl w A n c l) (hb : Below w.heap.size w w') : Sl w' A n c l := ⟨h.1.below h.1.lt hb, h.2⟩
theorem Bytes.part {w : World} {A : Option Addr} {n : Nat} {l : List Nat} (h : Bytes w A n l) (k : Nat) (hk : k ≤ n) : Bytes w A k (l.take k) := by
  obtain ⟨h1, h2, h3⟩ := h
  refine ⟨by rw [List.length_take]; omega, fun b hb => h2 b (List.mem_of_mem_take hb), fun h0 => ?_⟩
  obtain ⟨b, o, e, hc⟩ := h3 (by omega)
  refine ⟨b, o, e, fun i hi => ?_⟩
  rw [hc i (by omega)]
  simp [List.getD, List.getElem?_take, hi]
theorem Bytes.rest {w : World} {A : Option Addr} {n : Nat} {l : List Nat} (h : Bytes w A n l) (k : Nat) (hk : k ≤ n) (A' : Option Addr) (hA : ∀ b o, A = some ⟨b, o, none⟩ → k < n → A' = some ⟨b, o + k, none⟩) : Bytes w A' (n - k) (l.drop k) := by
  obtain ⟨h1, h2, h3⟩ := h
  refine ⟨by rw [List.length_drop]; omega, fun b hb => h2 b (List.mem_of_mem_drop hb), fun h0 => ?_⟩
  obtain ⟨b, o, e, hc⟩ := h3 (by omega)
  refine ⟨b, o + k, hA b o e (by omega), fun i hi => ?_⟩
  rw [Nat.add_assoc, hc (k + i) (by omega)]
  simp [List.getD]
theorem Sl.part {w : World} {A : Option Addr} {n c : Nat} {l : List Nat} (h : Sl w A n c l) (k : Nat) (hk : k ≤ n) : Sl w A k c (l.take k) := ⟨Bytes.part h.1 k hk, by have := h.2.1; omega, h.2.2⟩
theorem Sl.rest {w : World} {A : Option Addr} {n c : Nat} {l : List Nat} (h : Sl w A n c l) (k : Nat) (hk : k ≤ n) : Sl w (if c = k then A else A.map fun x => x.add k) (n - k) (c - k) (l.drop k) := by
  refine ⟨Bytes.rest h.1 k hk _ ?_, by have := h.2.1; omega, trivial, fun e => ?_⟩
  · rintro b o rfl hlt
    rw [if_neg (by have := h.2.1; omega)]
    simp [codec.add_none]
  · split at e
    · omega
    · cases A with
      | none => have := h.2.2.2 rfl; omega
      | some a => simp at e
theorem Sl.none (w : World) : Sl w .none 0 0 [] := ⟨⟨rfl, by simp, fun h => absurd h (Nat.lt_irrefl 0)⟩, Nat.le_refl _, trivial, fun _ => rfl⟩
/-- A library's variable holds some number. -/
def Room (w : World) : Prop := ∃ m, w.cell? ⟨0, 0, none⟩ = some (.int .i64 m)
theorem Room.below {w w' : World} (h : Room w) (hb : Below w.heap.size w w') : Room w' := by
  obtain ⟨m, hm⟩ := h
  exact ⟨m, (hb.cell (p := ⟨0, 0, none⟩) (block_lt_of_cell hm)).trans hm⟩
/-- Where a byte stands first, or else the end. -/
def ix (s : Nat) : List Nat → Nat
  | [] => 0
  | b :: r => if b = s then 0 else ix s r + 1
theorem ix_le (s : Nat) : ∀ l : List Nat, ix s l ≤ l.length
  | [] => Nat.le_refl _
  | b :: r => by
    have := ix_le s r
    rw [ix, List.length_cons]
    split <;> omega
def octs (l : List Nat) : List UInt8 := l.map UInt8.ofNat
theorem octs_of (l : List Nat) : Lib.bytesOf (l.map Int.ofNat) = octs l := by
  simp only [Lib.bytesOf, octs, List.map_map]
  rfl
theorem oct_inj {a b : Nat} (ha : a < 256) (hb : b < 256) (h : UInt8.ofNat a = UInt8.ofNat b) : a = b := by
  have := congrArg UInt8.toNat h
  simp [Nat.mod_eq_of_lt ha, Nat.mod_eq_of_lt hb] at this
  omega
theorem index_ix (s : Nat) (hs : s < 256) : ∀ l : List Nat, (∀ x ∈ l, x < 256) → Lib.index (octs l) [UInt8.ofNat s] = if ix s l < l.length then (ix s l : Int) else -1
  | [], _ => by simp [octs, Lib.index]
  | b :: r, hl => by
    have ih := index_ix s hs r (fun x hx => hl x (List.mem_cons_of_mem _ hx))
    have hb : b < 256 := hl b List.mem_cons_self
    rw [show octs (b :: r) = UInt8.ofNat b :: octs r from rfl, Lib.index]
    by_cases h : b = s
    · subst h
      simp [List.isPrefixOf, ix]
    · have hp : ([UInt8.ofNat s] : List UInt8).isPrefixOf (UInt8.ofNat b :: octs r) = false := by
        simp [List.isPrefixOf]
        exact fun e => h (oct_inj hs hb e).symm
      rw [hp, ih, ix, if_neg h, List.length_cons]
      by_cases h2 : ix s r < r.length
      · have hne : (((ix s r : Nat) : Int) == -1) = false := by rw [beq_eq_false_iff_ne]; omega
        simp [h2, hne]
      · simp [h2]
theorem nums_byte {l : List Nat} (h : ∀ x ∈ l, x < 256) : ∀ x ∈ l.map Int.ofNat, 0 ≤ x ∧ x < 256 := by
  intro x hx
  obtain ⟨y, hy, rfl⟩ := List.mem_map.1 hx
  have := h y hy
  exact ⟨Int.natCast_nonneg _, by show (y : Int) < 256; omega⟩
theorem sep_in {w : World} {g s : Nat} (hg : w.cell? ⟨g, 0, none⟩ = some (.int .u8 (s : Nat))) (hs : s < 256) : Bytes w (some ⟨g, 0, none⟩) 1 [s] :=
  ⟨rfl, by simpa using hs, fun _ => ⟨g, 0, rfl, fun i hi => by
    obtain rfl : i = 0 := by omega
    exact hg⟩⟩
theorem byte_at {w : World} {b o n k : Nat} {l : List Nat} (h : Bytes w (some ⟨b, o, none⟩) n l) (hk : k < n) : ∃ x : Nat, l[k]? = some x ∧ x < 256 ∧ w.cell? ⟨b, o + k, none⟩ = some (.int .u8 (x : Nat)) := by
  obtain ⟨h1, h2, h3⟩ := h
  obtain ⟨b', o', e, hc⟩ := h3 (by omega)
  cases e
  have hkl : k < l.length := by omega
  refine ⟨l[k], List.getElem?_eq_getElem hkl, h2 _ (List.getElem_mem hkl), ?_⟩
  rw [hc k hk]
  simp [List.getD, hkl]
theorem strOf_take (l : List Nat) (m : Nat) : (strOf l).extract 0 m = strOf (l.take m) := by
  apply ByteArray.ext
  rw [ByteArray.data_extract]
  unfold strOf
  simp [List.map_take]
theorem own_len {α : Type} {F : α → List Value} {K B : Nat} {E : TypeId} {w : World} {A : Option Addr} {m c : Nat} {ys : List α} (h : Own F K B E w (.slice A m c) ys) : ys.length = m := by
  rcases h.2 with ⟨e, h0⟩ | ⟨g, cap, cur, e, hB, _⟩
  · simp at e
    omega
  · simp at e
    omega
theorem own_form {α : Type} {F : α → List Value} {K B : Nat} {E : TypeId} {w : World} {v : Value} {ys : List α} (h : Own F K B E w v ys) (hm : 0 < ys.length) : ∃ g c, v = .slice (some ⟨g, 0, none⟩) ys.length c ∧ B ≤ g ∧ g < w.heap.size := by
  rcases h.2 with ⟨e, h0⟩ | ⟨g, cap, cur, e, hB, hg, _⟩
  · omega
  · exact ⟨g, cap, e, hB, (Array.getElem?_eq_some_iff.1 hg).1⟩
theorem cell_at {w : World} {b : Nat} {cs : Array Value} {t : TypeId} {m : Nat × Nat} (h : w.heap[b]? = some (.cells cs t m)) (i : Nat) (v : Value) (hv : cs[i]? = some v) : w.cell? ⟨b, i, none⟩ = some v := by
  simp [World.cell?, h, hv]
/-- What then lies in a part that is stored whole. -/
theorem two {w : World} {g : Nat} {t : TypeId} {cs : Array Value} (h : w.heap[g]? = some (.cells cs t (0, 0))) (hs : cs.size = 2) (v0 v1 : Value) :
    ((w.setCell ⟨g, 0, none⟩ v0).setCell ⟨g, 1, none⟩ v1).heap[g]? = some (.cells #[v0, v1] t (0, 0)) ∧
    (∀ k, k ≠ g → ((w.setCell ⟨g, 0, none⟩ v0).setCell ⟨g, 1, none⟩ v1).heap[k]? = w.heap[k]?) ∧
    ∀ (B : Nat) (a : World), Below B a w → B ≤ g → Below B a ((w.setCell ⟨g, 0, none⟩ v0).setCell ⟨g, 1, none⟩ v1) := by
  refine ⟨?_, fun k hk => by rw [heap_setCell_other _ _ _ _ hk, heap_setCell_other _ _ _ _ hk], fun B a hb hg => (hb.setCell (p := ⟨g, 0, none⟩) hg _).setCell (p := ⟨g, 1, none⟩) hg _⟩
  rw [heap_setCell_same _ g 1 _ t _ (heap_setCell_same _ g 0 _ t _ h)]
  obtain ⟨l⟩ := cs
  have hl : l.length = 2 := hs
  match l, hl with
  | [a0, a1], _ => rfl
theorem results_cell_tmp {P : Program} {fn : Func} {p q : Tmp} {ty : TypeId} (h : fn.results = #[.cell p ty, .tmp q]) (tmps : Array Value) (w : World) (g : Nat) (t : TypeId) (cs : Array Value) (fr : Nat × Nat) (d : TypeDesc)
    (hp : tmps.getD p undef = .pointer (some ⟨g, 0, none⟩)) (hg : w.heap[g]? = some (.cells cs t fr))
    (hu : P.underlying ty = some d) (hd : (match d with | .struct _ | .array _ _ => true | _ => false) = true) (hi : (P.info? ty).map (·.size) = some cs.size) :
    (results fn tmps).run P w = .ok (.tuple #[.agg cs, tmps.getD q undef]) w := by
  have hp' : tmps[p]?.getD undef = .pointer (some ⟨g, 0, none⟩) := by simpa using hp
  simp [results, h, hp', asAddr, run_loadVar_row w g t ty cs fr d hg hu hd hi]
end Go.Proofs.YtkbldbcgclnfeaaDoor.lx
