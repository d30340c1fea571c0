/- What only reads: first, where a byte stands, pieces up to a line feed, the literal that a line asks for. -/
import Derived.Test.YtihcgbjmgfgenaaLexA
import Derived.Deep.DeepCutAuto
import Derived.Deep.CutBlock
import Derived.Deep.RegionHeld3
namespace Go.Proofs.Ytihcgbjmgfgenaa.lx
open Go.ChangeShapes Go.WideShapes Go.ChangeAt Go.RowKit
open Go.Proofs.Ytihcgbjmgfgenaa.codec (Bytes vals)
open Go.Proofs.Ytihcgbjmgfgenaa.row
set_option linter.unusedVariables false
set_option maxRecDepth 100000
set_option linter.unusedSimpArgs false

def blk : Option Addr → List Nat
  | none => []
  | some ad => [ad.block]
theorem blk_rest (A : Option Addr) (c k : Nat) : ∀ i ∈ blk (if c = k then A else A.map fun x => x.add k), i ∈ blk A := by
  intro i hi
  split at hi
  · exact hi
  · cases A with
    | none => exact hi
    | some ad =>
      simp [blk, Addr.add] at hi ⊢
      split at hi <;> exact hi
set_option maxHeartbeats 400000 in
theorem first_any (w : World) (A : Option Addr) (n c k : Nat) (hnc : n ≤ c) (hk : k ≤ 1000) :
    Calls Try.prog 35 #[.slice A n c, .int .i64 (k : Nat)] w fun e w' => e = .returned (.slice A (min k n) c) ∧ w' = w := by
  go_enter Try.func35, Try.ntmps35
  go_wp2
  go_ret
  exact ⟨by rw [← show (min (k : Int) (n : Int)).toNat = min k n by omega]; rfl, rfl⟩
theorem ix_at {s : Nat} : ∀ {l : List Nat}, ix s l < l.length → l[ix s l]? = some s ∧ ∀ x ∈ l.take (ix s l), x ≠ s
  | [], h => by simp at h
  | b :: r, h => by
    rw [ix] at h ⊢
    by_cases hb : b = s
    · rw [if_pos hb] at h ⊢
      simp [hb]
    · rw [if_neg hb] at h ⊢
      have := ix_at (s := s) (l := r) (by rw [List.length_cons] at h; omega)
      refine ⟨by simpa using this.1, ?_⟩
      rw [List.take_succ_cons]
      intro x hx
      rcases List.mem_cons.1 hx with rfl | hx
      · exact hb
      · exact this.2 x hx
theorem ix_none {s : Nat} : ∀ {l : List Nat}, ¬ ix s l < l.length → ∀ x ∈ l, x ≠ s
  | [], _ => by simp
  | b :: r, h => by
    rw [ix] at h
    by_cases hb : b = s
    · rw [if_pos hb] at h
      simp at h
    · rw [if_neg hb, List.length_cons] at h
      intro x hx
      rcases List.mem_cons.1 hx with rfl | hx
      · exact hb
      · exact ix_none (by omega) x hx
theorem indexByte_ix (s : Nat) (hs : s < 256) (l : List Nat) (hl : ∀ x ∈ l, x < 256) : Lib.indexByte (octs l) (UInt8.ofNat s) = if ix s l < l.length then (ix s l : Int) else -1 := by
  rw [← Lib.index_one, index_ix s hs l hl]
theorem ixb_any (w : World) (A : Option Addr) (n c s : Nat) (l : List Nat) (hS : Sl w A n c l) (hs : s < 256) :
    Calls Try.prog 29 #[.slice A n c, .int .u8 (s : Nat)] w fun e w' => e = .returned (.int .i64 (if ix s l < n then (ix s l : Int) else -1)) ∧ w' = w := by
  have hlen := hS.1.1
  cases A with
  | none =>
    obtain rfl := hS.2.2.2 rfl
    obtain rfl : n = 0 := by have := hS.2.1; omega
    refine (Try.bytes_IndexByte_nil (s : Nat) w).mono ?_
    rintro e w' ⟨rfl, rfl⟩
    exact ⟨by simp, rfl⟩
  | some a =>
    refine (Try.bytes_IndexByte_at a n c (l.map Int.ofNat) (s : Nat) w (by rw [List.length_map]; exact hlen) (fun i hi => ?_)).mono ?_
    · obtain ⟨b, o, e, hc⟩ := hS.1.2.2 (by omega)
      cases e
      have hi' : i < l.length := by omega
      rw [codec.add_none, hc i hi]
      simp [List.getD, hi']
    · rintro e w' ⟨rfl, rfl⟩
      refine ⟨?_, rfl⟩
      rw [octs_of, show ((s : Nat) : Int).toNat.toUInt8 = UInt8.ofNat s from rfl, indexByte_ix s hs l hS.1.2.1, hlen]
/-- Where the first piece ends. -/
def cutN (l : List Nat) : Nat := if ix 10 l < l.length then ix 10 l + 1 else l.length
theorem cutN_le (l : List Nat) : cutN l ≤ l.length := by unfold cutN; split <;> omega
theorem cutN_pos {l : List Nat} (h : 0 < l.length) : 0 < cutN l := by unfold cutN; split <;> omega
/-- A piece is bytes none of which is a line feed, and one. -/
theorem cut_piece {l : List Nat} (h : 0 < l.length) : ∃ q x, l.take (cutN l) = q ++ [x] ∧ ∀ y ∈ q, y ≠ 10 := by
  unfold cutN
  split
  · rename_i hi
    obtain ⟨h1, h2⟩ := ix_at hi
    exact ⟨_, 10, by rw [List.take_add_one, h1]; rfl, h2⟩
  · rename_i hi
    rw [List.take_length]
    have hn : l ≠ [] := List.length_pos_iff.1 h
    refine ⟨l.dropLast, l.getLast hn, (List.dropLast_concat_getLast hn).symm, fun y hy => ix_none hi y (List.dropLast_subset l hy)⟩
set_option maxHeartbeats 1000000 in
theorem cutPiece_any (w : World) (A : Option Addr) (n c : Nat) (l : List Nat) (hS : Sl w A n c l) (hn : n ≤ 1000000000) :
    Calls Try.prog 20 #[.slice A n c] w fun e w' => ∃ R d q, e = .returned (.tuple #[.slice A (cutN l) c, .slice R (n - cutN l) d]) ∧ w' = w.drewN q ∧ ∀ w0, Sl w0 A n c l → Sl w0 R (n - cutN l) d (l.drop (cutN l)) ∧ ∀ i ∈ blk R, i ∈ blk A := by
  have HI := Lib.hid (ixb_any w A n c 10 l hS (by decide))
  have hlen := hS.1.1
  have hnc := hS.2.1
  have hR : ∀ m, m ≤ n → ∀ w0, Sl w0 A n c l → Sl w0 (if c = m then A else A.map fun x => x.add m) (n - m) (c - m) (l.drop m) ∧ ∀ i ∈ blk (if c = m then A else A.map fun x => x.add m), i ∈ blk A := fun m hm w0 h0 => ⟨h0.rest m hm, blk_rest A c m⟩
  have hle := cutN_le l
  rw [hlen] at hle
  obtain ⟨m, hm⟩ : ∃ m, m = cutN l := ⟨_, rfl⟩
  rw [← hm] at hle ⊢
  have HR := Lib.hid (hR m hle)
  have hA0 := hS.2.2.2
  unfold cutN at hm
  rw [hlen] at hm
  generalize ix 10 l = k at *
  clear hS hR hlen
  have HA0 := Lib.hid hA0
  clear hA0
  by_cases h : k < n
  · rw [if_pos h] at HI hm
    have q1 : (((m : Nat) : Int) == 0) = false := by rw [beq_eq_false_iff_ne]; omega
    have e1 : IntKind.i64.wrap ((k : Int) + 1) = (m : Int) := (IntWalk.i64_in _ (by omega)).trans (by omega)
    have b1 : (0 : Int) ≤ (m : Int) := by omega
    clear hm h
    by_cases hc : c = m
    · have e2 : c - m = 0 := by omega
      have HE := Lib.hid (And.intro hc e2)
      clear hc
      go_enter Try.func20, Try.ntmps20
      go_wp2_with fail
      refine HI.out.mono ?_
      rintro e w2 ⟨rfl, hw⟩
      replace hw := hw.symm
      subst hw
      go_wp2_with fail
      go_quiet (fail)
      clear e1 q1
      go_wp2_with fail
      go_ret2
      refine ⟨_, _, _, rfl, rfl, ?_⟩
      have := HR.out
      rw [if_pos HE.out.1] at this
      simpa [HE.out.2] using this
    · have e2 : ¬ c - m = 0 := by omega
      have HE := Lib.hid hc
      clear hc
      go_enter Try.func20, Try.ntmps20
      go_wp2_with fail
      refine HI.out.mono ?_
      rintro e w2 ⟨rfl, hw⟩
      replace hw := hw.symm
      subst hw
      go_wp2_with fail
      go_quiet (fail)
      clear e1 q1
      go_wp2_with fail
      go_ret2
      refine ⟨_, _, _, rfl, rfl, ?_⟩
      have := HR.out
      rw [if_neg HE.out] at this
      exact this
  · rw [if_neg h] at HI hm
    subst hm
    have q1 : (((-1 : Int) + 1) == 0) = true := rfl
    have e1 : IntKind.i64.wrap ((-1 : Int) + 1) = 0 := by decide
    clear h
    by_cases hc : c = m
    · have e2 : c - m = 0 := by omega
      have HE := Lib.hid (And.intro hc e2)
      clear hc
      go_enter Try.func20, Try.ntmps20
      go_wp2_with fail
      refine HI.out.mono ?_
      rintro e w2 ⟨rfl, hw⟩
      replace hw := hw.symm
      subst hw
      go_wp2_with fail
      go_quiet (fail)
      clear e1 q1
      go_wp2_with fail
      go_ret2
      rw [Nat.sub_self]
      refine ⟨_, _, _, rfl, rfl, ?_⟩
      have := HR.out
      rw [if_pos HE.out.1] at this
      simpa [HE.out.2] using this
    · have e2 : ¬ c - m = 0 := by omega
      have HE := Lib.hid hc
      clear hc
      go_enter Try.func20, Try.ntmps20
      go_wp2_with fail
      refine HI.out.mono ?_
      rintro e w2 ⟨rfl, hw⟩
      replace hw := hw.symm
      subst hw
      go_wp2_with fail
      go_quiet (fail)
      clear e1 q1
      go_wp2_with fail
      go_ret2
      rw [Nat.sub_self]
      refine ⟨_, _, _, rfl, rfl, ?_⟩
      have := HR.out
      rw [if_neg HE.out] at this
      rw [Nat.sub_self] at this
      exact this
end Go.Proofs.Ytihcgbjmgfgenaa.lx
