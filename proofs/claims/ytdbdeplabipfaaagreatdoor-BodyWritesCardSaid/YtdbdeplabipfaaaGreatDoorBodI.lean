/- What Decode answers, in one; the document's bytes of what was read; awake. -/
import Derived.Test.YtdbdeplabipfaaaGreatDoorBodG
import Derived.Test.YtdbdeplabipfaaaGreatDoorBodH
import Derived.Test.YtdbdeplabipfaaaGreatDoorBodD
import Derived.Test.YtdbdeplabipfaaaGreatDoorBodF
namespace Go.Proofs.YtdbdeplabipfaaaGreatDoor.bod
open Go.ChangeShapes Go.WideShapes Go.ChangeAt Go.RowKit
open Go.Proofs.YtdbdeplabipfaaaGreatDoor.codec (Bytes bytesOf bytesOf_length strOf strOf_size numOf)
open Go.Proofs.YtdbdeplabipfaaaGreatDoor.rd
set_option linter.unusedVariables false
set_option linter.unusedSimpArgs false
set_option maxRecDepth 100000

/-- A note that a payload of these bytes says. -/
def Said (W : World) (k : Int) (e u : Nat) (s : ByteArray) (d f : Int) (A : Option Addr) (m : Nat) (o L : List Nat) : Prop :=
  (formedB k e s u d f m = true ∧ payL k e s u d f o = L ∧ e < 4294967296 ∧ u < 4294967296) ∧ Bytes W A m o ∧ (A = none → m = 0)
theorem Said.below {W w : World} {k : Int} {e u : Nat} {s : ByteArray} {d f : Int} {A : Option Addr} {m : Nat} {o L : List Nat} (h : Said W k e u s d f A m o L) (hb : Below W.heap.size W w) : Said w k e u s d f A m o L :=
  ⟨h.1, h.2.1.below h.2.1.lt hb, h.2.2⟩
theorem dec_any (W : World) (k : Int) (A : Option Addr) (n c : Nat) (L : List Nat) (hB : Bytes W A n L) (hn : n ≤ 25000) (hr : Fit W) :
    Calls Tryz.prog 10 #[.int .i64 k, .slice A n c] W fun x w' => (x = .returned (.tuple #[.agg zeroN, .int .i64 2]) ∨ ∃ e u s d f A' m o, x = .returned (.tuple #[.agg #[.int .i64 k, .int .u32 (e : Nat), .string s, .int .u32 (u : Nat), .int .i64 d, .int .i64 f, .slice A' m m], .int .i64 0]) ∧ Said w' k e u s d f A' m o L) ∧ Below W.heap.size W w' := by
  have hb := hB.2.1
  by_cases h1 : k = 1
  · subst h1
    refine (decode1 W A n c L hB (by omega) hr).mono ?_
    rintro x w' ⟨rfl, hw⟩
    refine ⟨?_, hw⟩
    cases h : ok1 L
    · exact Or.inl rfl
    · obtain ⟨k1, k2⟩ := says1 hb h
      exact Or.inr ⟨_, 0, _, _, _, none, 0, [], rfl, ⟨k1, k2, ep_lt hb, by omega⟩, codec.empty_bytes w', fun _ => rfl⟩
  · by_cases h2 : k = 2
    · subst h2
      refine (decode2 W A n c L hB (by omega) hr).mono ?_
      rintro x w' ⟨gg, mm, hmm, rfl, hg, hO, hw⟩
      refine ⟨?_, hw⟩
      cases h : ok2 L
      · exact Or.inl rfl
      · obtain ⟨k1, k2⟩ := says2 hb h
        rw [← hmm] at k1
        exact Or.inr ⟨_, _, _, _, _, some ⟨gg, 0, none⟩, mm, _, rfl, ⟨k1, k2, ep_lt hb, uid_lt hb⟩, hO, fun e => by cases e⟩
    · by_cases h3 : k = 3
      · subst h3
        refine (decode3 W A n c L hB (by omega) hr).mono ?_
        rintro x w' ⟨rfl, hw⟩
        refine ⟨?_, hw⟩
        cases h : ok3 L
        · exact Or.inl rfl
        · obtain ⟨k1, k2⟩ := says3 hb h
          exact Or.inr ⟨_, _, _, _, _, none, 0, [], rfl, ⟨k1, k2, ep_lt hb, uid_lt hb⟩, codec.empty_bytes w', fun _ => rfl⟩
      · refine (decode0 W k h1 h2 h3 A n c L hB (by omega) hr).mono ?_
        rintro x w' ⟨rfl, hw⟩
        exact ⟨Or.inl rfl, hw⟩
theorem formed_size {k : Int} {e u : Nat} {s : ByteArray} {d f : Int} {n : Nat} (h : formedB k e s u d f n = true) : s.size ≤ 60 ∧ n ≤ 20000 := by
  unfold formedB at h
  split at h
  · simp only [emptyB, Bool.and_eq_true, decide_eq_true_eq] at h
    have := named_size h.2.1
    omega
  · split at h
    · simp only [fitsB, Bool.and_eq_true, decide_eq_true_eq] at h
      have := named_size h.2.1
      omega
    · split at h
      · simp only [emptyB, Bool.and_eq_true, decide_eq_true_eq] at h
        omega
      · cases h
theorem payL_pos (k : Int) (e u : Nat) (s : ByteArray) (d f : Int) (o : List Nat) : 0 < (payL k e s u d f o).length := by
  unfold payL
  split
  · simp [bytesOf_length, txt_length]; omega
  · split
    · simp [bytesOf_length, txt_length]; omega
    · simp [bytesOf_length]
/-- The document's bytes of a formed note. -/
theorem bytes_any (W : World) (k : Int) (e u : Nat) (s : ByteArray) (d f : Int) (A : Option Addr) (n c : Nat) (o : List Nat) (hf : formedB k e s u d f n = true) (he : e < 4294967296) (hu : u < 4294967296) (hB : Bytes W A n o) (hA : A = none → c = 0) :
    Calls Tryz.prog 11 #[.agg #[.int .i64 k, .int .u32 e, .string s, .int .u32 u, .int .i64 d, .int .i64 f, .slice A n c]] W fun x w' => ∃ v, x = .returned v ∧ Mine W v (payL k e s u d f o) w' := by
  have hs := formed_size hf
  have hln := hB.1
  by_cases h1 : k = 1
  · subst h1
    rw [formed_one] at hf
    simp only [emptyB, Bool.and_eq_true, decide_eq_true_eq] at hf
    obtain rfl : o = [] := List.eq_nil_of_length_eq_zero (by omega)
    have := bytes1 W e u s d f A n c [] hs he hB hA
    simpa [payL] using this
  · by_cases h2 : k = 2
    · subst h2
      rw [formed_two] at hf
      simp only [fitsB, Bool.and_eq_true, decide_eq_true_eq] at hf
      obtain ⟨-, -, -, ⟨h4, h5⟩, ⟨h6, h7⟩, h8⟩ := hf
      obtain ⟨d, rfl⟩ := Int.eq_ofNat_of_zero_le h4
      obtain ⟨f, rfl⟩ := Int.eq_ofNat_of_zero_le h6
      have := bytes2 W e u s d f A n c o hs he hu (by omega) (by omega) hB hA
      have hfb : bytesOf f 1 = [f] := by simp [bytesOf, codec.byteAt]; omega
      simpa [payL, hfb] using this
    · by_cases h3 : k = 3
      · subst h3
        rw [formed_three] at hf
        simp only [emptyB, Bool.and_eq_true, decide_eq_true_eq] at hf
        obtain rfl : o = [] := List.eq_nil_of_length_eq_zero (by omega)
        have := bytes3 W e u s d f A n c [] hs he hu hB hA
        simpa [payL] using this
      · rw [formed_other h1 h2 h3] at hf
        cases hf
/-- As a slice of known length. -/
theorem bytes_said (W : World) (k : Int) (e u : Nat) (s : ByteArray) (d f : Int) (A : Option Addr) (m : Nat) (o L : List Nat) (n : Nat) (h : Said W k e u s d f A m o L) (hn : L.length = n) (hl : ∀ b ∈ L, b < 256) :
    Calls Tryz.prog 11 #[.agg #[.int .i64 k, .int .u32 e, .string s, .int .u32 u, .int .i64 d, .int .i64 f, .slice A m m]] W fun x w' => ∃ g cap, x = .returned (.slice (some ⟨g, 0, none⟩) n cap) ∧ Bytes w' (some ⟨g, 0, none⟩) n L ∧ Below W.heap.size W w' := by
  obtain ⟨⟨k1, rfl, k3, k4⟩, hB, hA⟩ := h
  refine (bytes_any W k e u s d f A m m o k1 k3 k4 hB hA).mono ?_
  rintro x w' ⟨v, rfl, hM⟩
  obtain ⟨g, cap, rfl, -, -⟩ := hM.form n hn (by have := payL_pos k e u s d f o; omega)
  exact ⟨g, cap, rfl, hM.bytes hn hl, hM.2⟩
theorem awake_any (W : World) (hr : Fit W) :
    Calls Tryz.prog 4 #[] W fun x w' => x = .returned (.bool true) ∧ Below W.heap.size W w' := by
  have HE := Lib.hid (encode3 W 1 2 ⟨#[]⟩ 0 0 none 0 0 (by decide) (by decide) (by decide) hr (by decide))
  clear hr
  go_enter Tryz.func4, Tryz.ntmps4
  go_wp2_with (go_at_call 6; refine HE.out.mono ?_; rintro x w1 ⟨g, rfl, -, -, hb⟩; have HB := Lib.hid hb; clear hb)
  go_ret
  exact ⟨rfl, HB.out⟩
end Go.Proofs.YtdbdeplabipfaaaGreatDoor.bod
