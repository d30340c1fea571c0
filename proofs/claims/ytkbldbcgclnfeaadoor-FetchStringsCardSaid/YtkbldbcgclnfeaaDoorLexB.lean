/- What only reads: first, where a byte stands, pieces up to a line feed, the literal that a line asks for. -/
import Derived.Test.YtkbldbcgclnfeaaDoorLexA
import Derived.Test.YtkbldbcgclnfeaaDoorFetS
import Derived.Deep.DeepCutAuto
import Derived.Deep.CutBlock
import Derived.Deep.RegionHeld3
namespace Go.Proofs.YtkbldbcgclnfeaaDoor.lx
open Go.ChangeShapes Go.WideShapes Go.ChangeAt Go.RowKit
open Go.Proofs.YtkbldbcgclnfeaaDoor.codec (Bytes vals)
open Go.Proofs.YtkbldbcgclnfeaaDoor.row
set_option linter.unusedVariables false
set_option maxRecDepth 100000
set_option linter.unusedSimpArgs false

theorem Bytes.into {w : World} {A : Option Addr} {n : Nat} {l : List Nat} (h : Bytes w A n l) : Lib.BytesIn w A n (l.map Int.ofNat) := fun h0 => by
  obtain ⟨b, o, e, hc⟩ := h.2.2 h0
  refine ⟨b, o, e, fun i hi => ?_⟩
  have hi' : i < l.length := by have := h.1; omega
  rw [hc i hi]
  simp [List.getD, hi']

def blk : Option Addr → List Nat
  | none => []
  | some ad => [ad.block]
theorem blk_rest (A : Option Addr) (c k : Nat) : ∀ i ∈ blk (if c = k then A else A.map fun x => x.add k), i ∈ blk A := by
  intro i hi
  split at hi
  · exact hi
  · cases A with
    | none => exact hi
    | some ad =>
      simp [blk, Addr.add] at hi ⊢
      split at hi <;> exact hi
theorem ix_at {s : Nat} : ∀ {l : List Nat}, ix s l < l.length → l[ix s l]? = some s ∧ ∀ x ∈ l.take (ix s l), x ≠ s
  | [], h => by simp at h
  | b :: r, h => by
    rw [ix] at h ⊢
    by_cases hb : b = s
    · rw [if_pos hb] at h ⊢
      simp [hb]
    · rw [if_neg hb] at h ⊢
      have := ix_at (s := s) (l := r) (by rw [List.length_cons] at h; omega)
      refine ⟨by simpa using this.1, ?_⟩
      rw [List.take_succ_cons]
      intro x hx
      rcases List.mem_cons.1 hx with rfl | hx
      · exact hb
      · exact this.2 x hx
theorem ix_none {s : Nat} : ∀ {l : List Nat}, ¬ ix s l < l.length → ∀ x ∈ l, x ≠ s
  | [], _ => by simp
  | b :: r, h => by
    rw [ix] at h
    by_cases hb : b = s
    · rw [if_pos hb] at h
      simp at h
    · rw [if_neg hb, List.length_cons] at h
      intro x hx
      rcases List.mem_cons.1 hx with rfl | hx
      · exact hb
      · exact ix_none (by omega) x hx
theorem indexByte_ix (s : Nat) (hs : s < 256) (l : List Nat) (hl : ∀ x ∈ l, x < 256) : Lib.indexByte (octs l) (UInt8.ofNat s) = if ix s l < l.length then (ix s l : Int) else -1 := by
  rw [← Lib.index_one, index_ix s hs l hl]
theorem ixb_any (w : World) (A : Option Addr) (n c s : Nat) (l : List Nat) (hS : Sl w A n c l) (hs : s < 256) :
    Calls Tryd.prog 38 #[.slice A n c, .int .u8 (s : Nat)] w fun e w' => e = .returned (.int .i64 (if ix s l < n then (ix s l : Int) else -1)) ∧ w' = w := by
  have hlen := hS.1.1
  cases A with
  | none =>
    obtain rfl := hS.2.2.2 rfl
    obtain rfl : n = 0 := by have := hS.2.1; omega
    refine (Tryd.bytes_IndexByte_nil (s : Nat) w).mono ?_
    rintro e w' ⟨rfl, rfl⟩
    exact ⟨by simp, rfl⟩
  | some a =>
    refine (Tryd.bytes_IndexByte_at a n c (l.map Int.ofNat) (s : Nat) w (by rw [List.length_map]; exact hlen) (fun i hi => ?_)).mono ?_
    · obtain ⟨b, o, e, hc⟩ := hS.1.2.2 (by omega)
      cases e
      have hi' : i < l.length := by omega
      rw [codec.add_none, hc i hi]
      simp [List.getD, hi']
    · rintro e w' ⟨rfl, rfl⟩
      refine ⟨?_, rfl⟩
      rw [octs_of, show ((s : Nat) : Int).toNat.toUInt8 = UInt8.ofNat s from rfl, indexByte_ix s hs l hS.1.2.1, hlen]
/-- Where the first piece ends. -/
def cutN (l : List Nat) : Nat := if ix 10 l < l.length then ix 10 l + 1 else l.length
theorem cutN_le (l : List Nat) : cutN l ≤ l.length := by unfold cutN; split <;> omega
theorem cutN_pos {l : List Nat} (h : 0 < l.length) : 0 < cutN l := by unfold cutN; split <;> omega
/-- A piece is bytes none of which is a line feed, and one. -/
theorem cut_piece {l : List Nat} (h : 0 < l.length) : ∃ q x, l.take (cutN l) = q ++ [x] ∧ ∀ y ∈ q, y ≠ 10 := by
  unfold cutN
  split
  · rename_i hi
    obtain ⟨h1, h2⟩ := ix_at hi
    exact ⟨_, 10, by rw [List.take_add_one, h1]; rfl, h2⟩
  · rename_i hi
    rw [List.take_length]
    have hn : l ≠ [] := List.length_pos_iff.1 h
    refine ⟨l.dropLast, l.getLast hn, (List.dropLast_concat_getLast hn).symm, fun y hy => ix_none hi y (List.dropLast_subset l hy)⟩
end Go.Proofs.YtkbldbcgclnfeaaDoor.lx
