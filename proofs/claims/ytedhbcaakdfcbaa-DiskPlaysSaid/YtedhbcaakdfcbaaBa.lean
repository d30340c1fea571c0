/- Which names are right: exactly. -/
import Derived.Test.YtedhbcaakdfcbaaAe
namespace Go.Proofs.Ytedhbcaakdfcbaa.disk
open Go.ChangeShapes Go.WideShapes Go.ChangeAt Go.RowKit Go.Maps Go.WideMaps
set_option linter.unusedVariables false
set_option linter.unusedSimpArgs false

def okByte (c : UInt8) : Bool := decide ((97 ≤ c.toNat ∧ c.toNat ≤ 122) ∨ (48 ≤ c.toNat ∧ c.toNat ≤ 57) ∨ c.toNat = 46)
def nameB (s : List UInt8) : Bool := decide (1 ≤ s.length) && (decide (s.length ≤ 40) && s.all okByte)
theorem nameB_short {s : List UInt8} (h : s.length < 1) : nameB s = false := by
  unfold nameB
  rw [decide_eq_false (by omega), Bool.false_and]
theorem nameB_long {s : List UInt8} (h : 40 < s.length) : nameB s = false := by
  unfold nameB
  rw [show decide (s.length ≤ 40) = false from decide_eq_false (by omega), Bool.false_and, Bool.and_false]
theorem nameB_bad {s : List UInt8} {k : Nat} (hk : k < s.length) (h : okByte s[k] = false) : nameB s = false := by
  have : s.all okByte = false := by
    rw [List.all_eq_false]
    exact ⟨s[k], List.getElem_mem hk, by rw [h]; decide⟩
  unfold nameB
  rw [this, Bool.and_false, Bool.and_false]
theorem nameB_good {s : List UInt8} (h1 : ¬ s.length < 1) (h2 : ¬ 40 < s.length) (h : s.all okByte = true) : nameB s = true := by
  unfold nameB
  rw [h, decide_eq_true (by omega), decide_eq_true (by omega)]
  rfl
theorem all_step {s : List UInt8} {k : Nat} (hk : k < s.length) (h : (s.take k).all okByte = true) (h2 : okByte s[k] = true) : (s.take (k + 1)).all okByte = true := by
  rw [List.take_succ_eq_append_getElem hk, List.all_append, h]
  simp [h2]
theorem byte_get (s : ByteArray) (k : Nat) (hk : k < s.size) : s[k] = s.data.toList[k]'(by rw [← size_len]; exact hk) := by
  simp [ByteArray.getElem_eq_getElem_data]
set_option maxRecDepth 20000 in
set_option maxHeartbeats 2000000 in
theorem isName_any (w : World) (s : ByteArray) (hs : s.size ≤ 281474976710656) : Calls Try.prog 45 #[.string s] w fun e w' => e = .returned (.bool (nameB s.data.toList)) ∧ w = w' := by
  have HSz := Lib.hid (size_len s)
  by_cases h1 : s.size < 1
  · have HR := Lib.hid (nameB_short (s := s.data.toList) (by rw [← HSz.out]; exact h1))
    rw [HR.out]
    go_enter Try.func45, Try.ntmps45
    go_wp2
    go_ret
    exact ⟨rfl, rfl⟩
  · by_cases h2 : 40 < s.size
    · have HR := Lib.hid (nameB_long (s := s.data.toList) (by rw [← HSz.out]; exact h2))
      rw [HR.out]
      go_enter Try.func45, Try.ntmps45
      go_wp2
      go_ret
      exact ⟨rfl, rfl⟩
    · have HG := Lib.hid (nameB_good (s := s.data.toList) (by rw [← HSz.out]; exact h1) (by rw [← HSz.out]; exact h2))
      have HB := Lib.hid (fun k hk => nameB_bad (s := s.data.toList) (k := k) hk)
      have HA := Lib.hid (fun k hk => all_step (s := s.data.toList) (k := k) hk)
      generalize nameB s.data.toList = nb at *
      go_enter Try.func45, Try.ntmps45
      go_wp2
      go_loopw [15] (fun i wr => ∃ k : Nat, k ≤ s.size ∧ i = .int .i64 k ∧ wr = w ∧ Hid ((s.data.toList.take k).all okByte = true)) (fun i _ => s.size - (intOf i).toNat)
      case atStart => exact ⟨0, by omega, rfl, rfl, by show _ = _; simp⟩
      case round =>
        obtain ⟨k, hk, rfl, rfl, hall⟩ := hrel
        by_cases hlt : k < s.size
        · have hlt' : k < s.data.toList.length := by rw [← HSz.out]; exact hlt
          have HX := byte_get s k hlt
          have HGood : Hid (okByte (s[k]'hlt) = true → (s.data.toList.take (k + 1)).all okByte = true) := fun h => HA.out k hlt' hall.out (by rw [← HX]; exact h)
          have HBad : Hid (okByte (s[k]'hlt) = false → nb = false) := fun h => HB.out k hlt' (by rw [← HX]; exact h)
          have HDef : Hid (okByte (s[k]'hlt) = decide ((97 ≤ (s[k]'hlt).toNat ∧ (s[k]'hlt).toNat ≤ 122) ∨ (48 ≤ (s[k]'hlt).toNat ∧ (s[k]'hlt).toNat ≤ 57) ∨ (s[k]'hlt).toNat = 46)) := rfl
          have hcase : (s[k]'hlt).toNat < 46 ∨ (s[k]'hlt).toNat = 46 ∨ (s[k]'hlt).toNat = 47 ∨ (48 ≤ (s[k]'hlt).toNat ∧ (s[k]'hlt).toNat ≤ 57) ∨ (58 ≤ (s[k]'hlt).toNat ∧ (s[k]'hlt).toNat < 97) ∨ (97 ≤ (s[k]'hlt).toNat ∧ (s[k]'hlt).toNat ≤ 122) ∨ 122 < (s[k]'hlt).toNat := by omega
          clear HX hlt'
          have HLt := Lib.hid hlt
          rcases hcase with hx | hx | hx | hx | hx | hx | hx
          all_goals have HXx := Lib.hid hx
          · have hf := HBad.out (by rw [HDef.out]; exact decide_eq_false (by omega))
            have hz : (((s[k]'hlt).toNat : Int) == 46) = false := by simp; omega
            subst hf
            go_wp2
            go_ret
            exact ⟨rfl, rfl⟩
          · have hz : (((s[k]'hlt).toNat : Int) == 46) = true := by simp; omega
            have HOk := Lib.hid (HGood.out (by rw [HDef.out]; exact decide_eq_true (by omega)))
            go_wp2
            go_roundw
            case rel => exact ⟨k + 1, by have := HLt.out; omega, rfl, trivial, HOk.out⟩
            case measure => have := HLt.out; simp [intOf]; omega
          · have hf := HBad.out (by rw [HDef.out]; exact decide_eq_false (by omega))
            have hz : (((s[k]'hlt).toNat : Int) == 46) = false := by simp; omega
            subst hf
            go_wp2
            go_ret
            exact ⟨rfl, rfl⟩
          · have HOk := Lib.hid (HGood.out (by rw [HDef.out]; exact decide_eq_true (by omega)))
            go_wp2
            go_roundw
            case rel => exact ⟨k + 1, by have := HLt.out; omega, rfl, trivial, HOk.out⟩
            case measure => have := HLt.out; simp [intOf]; omega
          · have hf := HBad.out (by rw [HDef.out]; exact decide_eq_false (by omega))
            have hz : (((s[k]'hlt).toNat : Int) == 46) = false := by simp; omega
            have hz2 : decide (((s[k]'hlt).toNat : Int) ≤ 57) = false := by simp; omega
            subst hf
            go_wp2
            go_ret
            exact ⟨rfl, rfl⟩
          · have HOk := Lib.hid (HGood.out (by rw [HDef.out]; exact decide_eq_true (by omega)))
            go_wp2
            go_roundw
            case rel => exact ⟨k + 1, by have := HLt.out; omega, rfl, trivial, HOk.out⟩
            case measure => have := HLt.out; simp [intOf]; omega
          · have hf := HBad.out (by rw [HDef.out]; exact decide_eq_false (by omega))
            have hz : (((s[k]'hlt).toNat : Int) == 46) = false := by simp; omega
            have hz2 : decide (((s[k]'hlt).toNat : Int) ≤ 57) = false := by simp; omega
            have hz3 : decide (((s[k]'hlt).toNat : Int) ≤ 122) = false := by simp; omega
            subst hf
            go_wp2
            go_ret
            exact ⟨rfl, rfl⟩
        · obtain rfl : k = s.size := by omega
          have he : nb = true := HG.out (by rw [← hall.out, List.take_of_length_le (by rw [← HSz.out]; exact Nat.le_refl _)])
          subst he
          go_wp2
          go_ret
          exact ⟨rfl, rfl⟩
end Go.Proofs.Ytedhbcaakdfcbaa.disk
