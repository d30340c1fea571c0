/- What the parts of the digest answer. -/
import Derived.Test.YtdbdeplabipfaaaGreatDoorRows
import Derived.Test.YtdbdeplabipfaaaGreatDoorSumM
import Derived.WalkKit
import Derived.ProofKit
import Derived.OpenShut
import Derived.ChangeOld
import Derived.Below
import Derived.Outline
import Derived.WalkSpells
import Derived.Lib.Hide
import Derived.Deep.QuietTactic
import Derived.BigQuiet
import Derived.Deep.OwnRows
import Derived.Deep.WholeRow
import Derived.StillTailTactics
import Derived.Lib.SlBytesConst
namespace Go.Proofs.YtdbdeplabipfaaaGreatDoor.sumDoor
open Go.ChangeShapes Go.WideShapes Go.ChangeAt Go.RowKit Go.Proofs.YtdbdeplabipfaaaGreatDoor.sumPlain
set_option linter.unusedVariables false
set_option maxRecDepth 100000

theorem ret_int {k : IntKind} {a b : Int} (h : a = b) : Ending.returned (.int k a) = .returned (.int k b) := by rw [h]
theorem below_draws {B : Nat} {a w : World} (h : Below B a w) (n : Nat) : Below B a (w.drewN n) := ⟨h.os, h.tape, h.output, h.size, h.block⟩
/-- Eight words as a value. -/
def cells8 (k : IntKind) (s : Eight) : Array Value := #[.int k s.a, .int k s.b, .int k s.c, .int k s.d, .int k s.e, .int k s.f, .int k s.g, .int k s.h]
/-- Numbers as cells. -/
def cellsOf (k : IntKind) (l : List Nat) : Array Value := (l.map fun x => Value.int k (x : Nat)).toArray

/-- The slice reads as these bytes. -/
def Bytes (w : World) (A : Option Addr) (n : Nat) (l : List Nat) : Prop :=
  l.length = n ∧ (∀ b ∈ l, b < 256) ∧ (0 < n → ∃ b o, A = some ⟨b, o, none⟩ ∧ ∀ i, i < n → w.cell? ⟨b, o + i, none⟩ = some (.int .u8 (l.getD i 0 : Nat)))
theorem getD_lt256 {l : List Nat} (h : ∀ x ∈ l, x < 256) (i : Nat) : l.getD i 0 < 256 := by
  by_cases hi : i < l.length
  · have : l.getD i 0 = l[i] := by simp [List.getD, hi]
    rw [this]
    exact h _ (List.getElem_mem hi)
  · have : l.getD i 0 = 0 := by simp [List.getD, List.getElem?_eq_none (Nat.le_of_not_lt hi)]
    omega
theorem Bytes.lt {w : World} {A : Option Addr} {n : Nat} {l : List Nat} (h : Bytes w A n l) : ∀ ad, A = some ad → 0 < n → ad.block < w.heap.size := by
  rintro ad rfl hn
  obtain ⟨b, o, e, hc⟩ := h.2.2 hn
  cases e
  exact block_lt_of_cell (hc 0 hn)
theorem Bytes.below {w w' : World} {A : Option Addr} {n B : Nat} {l : List Nat} (h : Bytes w A n l) (hA : ∀ ad, A = some ad → 0 < n → ad.block < B) (hb : Below B w w') : Bytes w' A n l := by
  obtain ⟨h1, h2, h3⟩ := h
  refine ⟨h1, h2, fun hn => ?_⟩
  obtain ⟨b, o, rfl, hc⟩ := h3 hn
  refine ⟨b, o, rfl, fun i hi => ?_⟩
  exact (hb.cell (p := ⟨b, o + i, none⟩) (hA ⟨b, o, none⟩ rfl hn)).trans (hc i hi)
/-- One byte of them. -/
theorem Bytes.at_ {w : World} {b o n : Nat} {l : List Nat} (h : Bytes w (some ⟨b, o, none⟩) n l) (i : Nat) (hi : i < n) :
    ∃ x : Nat, l.getD i 0 = x ∧ x < 256 ∧ w.cell? ⟨b, o + i, none⟩ = some (.int .u8 (x : Nat)) := by
  obtain ⟨b', o', e, hc⟩ := h.2.2 (by omega)
  cases e
  exact ⟨_, rfl, getD_lt256 h.2.1 i, hc i hi⟩

theorem rot_i (x n : Nat) (hx : x < 4294967296) (h1 : 1 ≤ n) (hn : n ≤ 31) : bits .or .u32 ((x : Int) / 2 ^ n) ((x : Int) * 2 ^ (32 - n) % 4294967296) = ((rot x n : Nat) : Int) := by
  have := u32_or_nat (x / 2 ^ n) (x * 2 ^ (32 - n) % 4294967296) (div_lt32 _ hx) (Nat.mod_lt _ (by omega))
  unfold rot
  rw [← this]
  simp

theorem trn_i (x n : Nat) (hx : x < 4294967296) (h1 : 1 ≤ n) (hn : n ≤ 31) : bits .and .u64 (bits .or .u64 ((x : Int) / 2 ^ n) (IntKind.u64.wrap ((x : Int) * 2 ^ (32 - n)))) 4294967295 = ((rot x n : Nat) : Int) := by
  have hp : x * 2 ^ (32 - n) < 18446744073709551616 := by
    have h2 : 2 ^ (32 - n) ≤ 2 ^ 31 := Nat.pow_le_pow_right (by omega) (by omega)
    calc x * 2 ^ (32 - n) ≤ x * 2 ^ 31 := Nat.mul_le_mul_left _ h2
      _ < 18446744073709551616 := by omega
  have hw : IntKind.u64.wrap ((x : Int) * 2 ^ (32 - n)) = ((x * 2 ^ (32 - n) : Nat) : Int) := by
    have e : (x : Int) * 2 ^ (32 - n) = ((x * 2 ^ (32 - n) : Nat) : Int) := by simp
    rw [e]
    generalize x * 2 ^ (32 - n) = m at *
    simp only [IntKind.wrap, IntKind.bits, IntKind.signed]
    simp
    omega
  have hd : x / 2 ^ n < 18446744073709551616 := by have := div_lt32 (2 ^ n) hx; omega
  have ho : bits .or .u64 ((x : Int) / 2 ^ n) ((x * 2 ^ (32 - n) : Nat) : Int) = ((x / 2 ^ n ||| x * 2 ^ (32 - n) : Nat) : Int) := by
    have := u64_or_nat (x / 2 ^ n) (x * 2 ^ (32 - n)) hd hp
    rw [← this]
    simp
  rw [hw, ho]
  have h3 := u64_and_nat (x / 2 ^ n ||| x * 2 ^ (32 - n)) 4294967295 (Nat.or_lt_two_pow (n := 64) hd hp) (by omega)
  have h4 : bits .and .u64 ((x / 2 ^ n ||| x * 2 ^ (32 - n) : Nat) : Int) 4294967295 = ((x / 2 ^ n ||| x * 2 ^ (32 - n)) &&& 4294967295 : Nat) := h3
  rw [h4, nat_mask32]
  unfold rot
  have h5 : (x / 2 ^ n ||| x * 2 ^ (32 - n)) % 2 ^ 32 = (x / 2 ^ n % 2 ^ 32) ||| (x * 2 ^ (32 - n) % 2 ^ 32) := Nat.or_mod_two_pow
  have h6 : x / 2 ^ n % 2 ^ 32 = x / 2 ^ n := Nat.mod_eq_of_lt (div_lt32 _ hx)
  have h7 : (4294967296 : Nat) = 2 ^ 32 := by decide
  rw [h7, h5, h6]

set_option maxHeartbeats 400000 in
theorem rotated_any (w : World) (x n : Nat) (hx : x < 4294967296) (h1 : 1 ≤ n) (hn : n ≤ 31) :
    Calls Tryz.prog 74 #[.int .u32 x, .int .u64 n] w fun e w' => e = .returned (.int .u32 (rot x n : Nat)) ∧ w = w' := by
  have HR := Lib.hid (rot_i x n hx h1 hn)
  go_enter Tryz.func74, Tryz.ntmps74
  go_wp2
  go_ret
  exact ⟨ret_int HR.out, rfl⟩

theorem rotated_i (w : World) (x : Nat) (m : Int) (n : Nat) (hm : m = n) (hx : x < 4294967296) (h1 : 1 ≤ n) (hn : n ≤ 31) :
    Calls Tryz.prog 74 #[.int .u32 x, .int .u64 m] w fun e w' => e = .returned (.int .u32 (rot x n : Nat)) ∧ w = w' := by
  subst hm
  exact rotated_any w x n hx h1 hn

set_option maxHeartbeats 400000 in
theorem turned_any (w : World) (x n : Nat) (hx : x < 4294967296) (h1 : 1 ≤ n) (hn : n ≤ 31) :
    Calls Tryz.prog 47 #[.int .u64 x, .int .u64 n] w fun e w' => e = .returned (.int .u64 (rot x n : Nat)) ∧ w = w' := by
  have HR := Lib.hid (trn_i x n hx h1 hn)
  go_enter Tryz.func47, Tryz.ntmps47
  go_wp2
  go_ret
  exact ⟨ret_int HR.out, rfl⟩

theorem turned_i (w : World) (x : Nat) (m : Int) (n : Nat) (hm : m = n) (hx : x < 4294967296) (h1 : 1 ≤ n) (hn : n ≤ 31) :
    Calls Tryz.prog 47 #[.int .u64 x, .int .u64 m] w fun e w' => e = .returned (.int .u64 (rot x n : Nat)) ∧ w = w' := by
  subst hm
  exact turned_any w x n hx h1 hn

set_option maxHeartbeats 400000 in
theorem firstState_any (w : World) :
    Calls Tryz.prog 57 #[] w fun e w' => e = .returned (.agg (cells8 .u32 seed8)) ∧ Below w.heap.size w w' := by
  go_enter Tryz.func57, Tryz.ntmps57
  go_wp2
  exact bodyPost_ret (v := .agg (cells8 .u32 seed8)) (by simp [results, Tryz.results57, go_sem]; rfl) rfl ⟨rfl, (Below.refl _ _).alloc (Nat.le_refl _) _⟩

end Go.Proofs.YtdbdeplabipfaaaGreatDoor.sumDoor
