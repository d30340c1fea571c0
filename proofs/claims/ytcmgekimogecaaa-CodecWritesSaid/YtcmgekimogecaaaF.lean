/- The items that come in, and how many they are. -/
import Derived.Test.YtcmgekimogecaaaE
namespace Go.Proofs.Ytcmgekimogecaaa.codec
open Go.ChangeShapes Go.WideShapes Go.ChangeAt Go.RowKit
set_option linter.unusedVariables false
set_option linter.unusedSimpArgs false

/-- Something that is put. -/
structure Item where
  kind : Nat
  v : Int
  size : Int
  at_ : Option Addr
  len : Nat
  cap : Nat
  b : List Nat
deriving Inhabited
/-- An item, as it lies in memory. -/
structure ItemIs (w : World) (b o : Nat) (x : Item) : Prop where
  kind : w.cell? ⟨b, o, none⟩ = some (.int .u8 (x.kind : Nat))
  v : w.cell? ⟨b, o + 1, none⟩ = some (.int .i64 x.v)
  size : w.cell? ⟨b, o + 2, none⟩ = some (.int .i64 x.size)
  sl : w.cell? ⟨b, o + 3, none⟩ = some (.slice x.at_ x.len x.cap)
  bytes : Bytes w x.at_ x.len x.b
  le : x.len ≤ x.cap
  max : x.len ≤ maxLen
  nil : x.at_ = none → x.cap = 0
  lowV : -9223372036854775808 ≤ x.v
  topV : x.v ≤ 9223372036854775807
  lowS : -9223372036854775808 ≤ x.size
  topS : x.size ≤ 9223372036854775807
  k256 : x.kind < 256
/-- A slice of items that came in. -/
def Items (w : World) (A : Option Addr) (n : Nat) (L : List Item) : Prop :=
  L.length = n ∧ n ≤ maxLen ∧ (0 < n → ∃ b o, A = some ⟨b, o, none⟩ ∧ ∀ i, i < n → ItemIs w b (o + i * 4) (L.getD i default))

theorem ItemIs.below {w w' : World} {b o B : Nat} {x : Item} (h : ItemIs w b o x) (hB : w.heap.size ≤ B) (hb : Below B w w') : ItemIs w' b o x := by
  have hlt : b < w.heap.size := block_lt_of_cell h.kind
  have e : ∀ j, w'.cell? ⟨b, j, none⟩ = w.cell? ⟨b, j, none⟩ := fun j => hb.cell (p := ⟨b, j, none⟩) (by show b < B; omega)
  exact ⟨(e _).trans h.kind, (e _).trans h.v, (e _).trans h.size, (e _).trans h.sl, h.bytes.below (fun ad e hn => Nat.lt_of_lt_of_le (h.bytes.lt ad e hn) hB) hb, h.le, h.max, h.nil, h.lowV, h.topV, h.lowS, h.topS, h.k256⟩
theorem Items.at_ {w : World} {A : Option Addr} {n : Nat} {L : List Item} (h : Items w A n L) {k : Nat} (hk : k < n) : ∃ b o x, A = some ⟨b, o, none⟩ ∧ x = L.getD k default ∧ ItemIs w b (o + k * 4) x := by
  obtain ⟨b, o, rfl, hc⟩ := h.2.2 (by omega)
  exact ⟨b, o, _, rfl, rfl, hc k hk⟩

def SomeBool (w : World) (e : Ending) (w' : World) : Prop := ∃ b : Bool, e = .returned (.bool b) ∧ w = w'
set_option maxHeartbeats 1000000 in
theorem few_some (w : World) (A : Option Addr) (n c : Nat) (L : List Item) (h : Items w A n L) :
    Calls Try.prog 7 #[.slice A n c] w (SomeBool w) := by
  have hn := h.2.1
  unfold maxLen at hn
  have HI := Lib.hid h
  clear h
  go_enter Try.func7, Try.ntmps7
  go_wp2
  go_loopw [3, 7] (fun v i wr => ∃ k : Nat, k ≤ n ∧ i = .int .i64 k ∧ (∃ z : Int, v = .int .i64 z) ∧ wr = w) (fun _ i _ => n - (intOf i).toNat)
  case atStart => exact ⟨0, by omega, rfl, ⟨0, rfl⟩, rfl⟩
  case round =>
    obtain ⟨k, hk, rfl, ⟨z, rfl⟩, rfl⟩ := hrel
    by_cases hlt : k < n
    · obtain ⟨b', o', x, rfl, hx, hi⟩ := HI.out.at_ hlt
      have hsl := hi.sl
      clear hi hx
      go_wp2
      · go_ret
        exact ⟨_, rfl, rfl⟩
      · go_roundw
        case rel => exact ⟨k + 1, by omega, rfl, ⟨_, rfl⟩, trivial⟩
        case measure => simp [intOf]; omega
      · go_ret
        exact ⟨_, rfl, rfl⟩
    · obtain rfl : k = n := by omega
      go_wp2
      go_ret
      exact ⟨_, rfl, rfl⟩
def tot (L : List Item) : Nat := (L.map (·.len)).sum
theorem tot_take (L : List Item) (k : Nat) (hk : k < L.length) : tot (L.take (k + 1)) = tot (L.take k) + (L.getD k default).len := by
  have : L.take (k + 1) = L.take k ++ [L.getD k default] := by
    rw [List.take_add_one]
    simp [List.getD, hk]
  rw [this]
  simp [tot]
theorem tot_le (L : List Item) (k : Nat) : tot (L.take k) ≤ tot L := by
  have := List.take_append_drop k L
  have e : tot L = tot (L.take k) + tot (L.drop k) := by
    unfold tot
    rw [← List.sum_append_nat, ← List.map_append, this]
  omega
set_option maxHeartbeats 1000000 in
theorem few_exact (w : World) (A : Option Addr) (n c : Nat) (L : List Item) (h : Items w A n L) (hs : ∀ x ∈ L, x.len ≤ 140737488355328) :
    Calls Try.prog 7 #[.slice A n c] w fun e w' => e = .returned (.bool (decide (n ≤ 100 ∧ tot L ≤ 200000))) ∧ w = w' := by
  have hn := h.2.1
  unfold maxLen at hn
  have HI := Lib.hid h
  have HS := Lib.hid hs
  clear h hs
  obtain ⟨R, hR⟩ : ∃ R, R = decide (n ≤ 100 ∧ tot L ≤ 200000) := ⟨_, rfl⟩
  have HR := Lib.hid hR
  rw [← hR]
  clear hR
  go_enter Try.func7, Try.ntmps7
  go_wp2
  go_loopw [3, 7] (fun v i wr => ∃ k z : Nat, k ≤ n ∧ k ≤ 100 ∧ i = .int .i64 k ∧ v = .int .i64 z ∧ z = tot (L.take k) ∧ z ≤ 200000 ∧ wr = w) (fun _ i _ => n - (intOf i).toNat)
  case atStart => exact ⟨0, 0, by omega, by omega, rfl, rfl, by simp [tot], by omega, rfl⟩
  case round =>
    obtain ⟨k, z, hk, hk1, rfl, rfl, hz, hz2, rfl⟩ := hrel
    by_cases hlt : k < n
    · obtain ⟨b', o', x, rfl, hx, hi⟩ := HI.out.at_ hlt
      have hkl : k < L.length := by have := HI.out.1; omega
      have hxl : x.len ≤ 140737488355328 := HS.out x (by rw [hx]; simp [List.getD, hkl])
      have HZ := Lib.hid (show tot (L.take (k + 1)) = z + x.len by rw [tot_take L k hkl, ← hz, hx])
      have hsl := hi.sl
      clear hi hx hz
      by_cases hbig : k = 100 ∨ 200000 < z + x.len
      · have HF : Hid (R = false) := by
          rw [HR.out, decide_eq_false_iff_not]
          have := tot_le L (k + 1)
          rw [HZ.out] at this
          rintro ⟨h1, h2⟩
          omega
        rcases hbig with rfl | hbig
        · go_wp2
          go_ret
          exact ⟨by rw [HF.out]; rfl, rfl⟩
        · by_cases h100 : k = 100
          · subst h100
            go_wp2
            go_ret
            exact ⟨by rw [HF.out]; rfl, rfl⟩
          · go_wp2
            go_ret
            exact ⟨by rw [HF.out]; rfl, rfl⟩
      · have h1 : k < 100 := by omega
        have h2 : z + x.len ≤ 200000 := by omega
        clear hbig
        go_wp2
        go_roundw
        case rel => exact ⟨k + 1, z + x.len, by omega, by omega, rfl, rfl, HZ.out.symm, h2, trivial⟩
        case measure => simp [intOf]; omega
    · obtain rfl : k = n := by omega
      have HT : Hid (R = true) := by
        rw [HR.out, decide_eq_true_eq]
        refine ⟨hk1, ?_⟩
        rw [List.take_of_length_le (by have := HI.out.1; omega)] at hz
        omega
      clear hz
      go_wp2
      go_ret
      exact ⟨by rw [HT.out]; rfl, rfl⟩
end Go.Proofs.Ytcmgekimogecaaa.codec
