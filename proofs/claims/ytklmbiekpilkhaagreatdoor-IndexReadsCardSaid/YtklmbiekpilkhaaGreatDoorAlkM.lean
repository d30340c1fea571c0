/- Texts in any letters: plain mathematics. -/
import Derived.Lib.Fold
import Derived.Lib.Strings
namespace Go.Proofs.YtklmbiekpilkhaaGreatDoor.alk
open Go.Lib
set_option linter.unusedVariables false
set_option linter.unusedSimpArgs false

/-- Byte i of s. -/
def byt (s : ByteArray) (i : Nat) : Nat := (s.data[i]!).toNat
theorem byt_at (s : ByteArray) (i : Nat) (h : i < s.size) : (s[i]'h).toNat = byt s i := by
  unfold byt
  rw [getElem!_pos s.data i (by simpa using h)]; rfl
theorem byt_lt (s : ByteArray) (i : Nat) : byt s i < 256 := UInt8.toNat_lt _
theorem byt_of (l : List UInt8) (i : Nat) : byt ⟨l.toArray⟩ i = (l.getD i 0).toNat := by
  unfold byt
  by_cases h : i < l.length
  · rw [getElem!_pos _ i (by simpa using h), List.getD, List.getElem?_eq_getElem h]
    simp
  · rw [getElem!_neg _ i (by simpa using h), List.getD, List.getElem?_eq_none (by omega)]
    rfl
theorem byt_list (s : ByteArray) (i : Nat) (h : i < s.data.toList.length) : (s.data.toList[i]).toNat = byt s i := by
  unfold byt
  rw [getElem!_pos s.data i (by simpa using h)]
  simp

def low (c : Nat) : Nat := if 65 ≤ c ∧ c ≤ 90 then c + 32 else c
def alike (s t : ByteArray) : Bool := decide (s.size = t.size) && (List.range s.size).all fun i => low (byt s i) == low (byt t i)
theorem alike_false (s t : ByteArray) (i : Nat) (h : i < s.size) (hne : (low (byt s i) == low (byt t i)) = false) : alike s t = false := by
  unfold alike
  have : ((List.range s.size).all fun i => low (byt s i) == low (byt t i)) = false := by
    rw [List.all_eq_false]
    exact ⟨i, List.mem_range.2 h, by simp [hne]⟩
  rw [this, Bool.and_false]
theorem alike_true (s t : ByteArray) (h : s.size = t.size) (he : ∀ i, i < s.size → (low (byt s i) == low (byt t i)) = true) : alike s t = true := by
  unfold alike
  simp only [h, decide_true, Bool.true_and, List.all_eq_true, List.mem_range]
  intro i hi
  exact he i (by omega)
theorem alike_size (s t : ByteArray) (h : s.size ≠ t.size) : alike s t = false := by
  unfold alike
  simp [h]
theorem alike_iff (s t : ByteArray) : alike s t = true ↔ s.size = t.size ∧ ∀ i, i < s.size → low (byt s i) = low (byt t i) := by
  unfold alike
  simp only [Bool.and_eq_true, decide_eq_true_eq, List.all_eq_true, List.mem_range, beq_iff_eq]
/-- Two that are like one are like each other. -/
theorem alike_both {s t u : ByteArray} (h : alike s t = true) (k : alike s u = true) : alike t u = true := by
  rw [alike_iff] at *
  exact ⟨h.1.symm.trans k.1, fun i hi => (h.2 i (by omega)).symm.trans (k.2 i (by omega))⟩

theorem fold_low (x y : UInt8) : foldEq x y = (low x.toNat == low y.toNat) := by
  have hx := UInt8.toNat_lt x
  have hy := UInt8.toNat_lt y
  rw [Bool.eq_iff_iff]
  unfold foldEq low
  simp only [decide_eq_true_eq, beq_iff_eq]
  split <;> split <;> omega
theorem equalFold_map : ∀ (s t : List UInt8), equalFold s t = (s.map (fun c => low c.toNat) == t.map (fun c => low c.toNat))
  | [], [] => rfl
  | [], _ :: _ => rfl
  | _ :: _, [] => rfl
  | x :: s, y :: t => by
    rw [equalFold, equalFold_map s t, fold_low]
    simp
theorem byt_extract (s : ByteArray) (a b i : Nat) (h : a + i < b) (hb : b ≤ s.size) : byt (s.extract a b) i = byt s (a + i) := by
  have h1 : i < (s.extract a b).size := by rw [ByteArray.size_extract]; omega
  rw [← byt_at _ i h1, ← byt_at s (a + i) (by omega), ByteArray.getElem_extract]
theorem alike_fold (s t : ByteArray) (h : s.size = t.size) : alike s t = equalFold s.data.toList t.data.toList := by
  rw [equalFold_map, Bool.eq_iff_iff, alike_iff, beq_iff_eq]
  have hs : s.data.toList.length = s.size := (Lib.size_eq s).symm
  have ht : t.data.toList.length = t.size := (Lib.size_eq t).symm
  constructor
  · rintro ⟨-, hh⟩
    apply List.ext_getElem
    · simp only [List.length_map]; omega
    · intro i h1 h2
      simp only [List.length_map] at h1 h2
      rw [List.getElem_map, List.getElem_map, byt_list s i h1, byt_list t i h2]
      exact hh i (by omega)
  · intro hh
    refine ⟨h, fun i hi => ?_⟩
    have h1 : i < s.data.toList.length := by omega
    have h2 : i < t.data.toList.length := by omega
    have e := congrArg (fun l => l[i]?) hh
    simp only [List.getElem?_map, List.getElem?_eq_getElem h1, List.getElem?_eq_getElem h2, Option.map_some, Option.some.injEq] at e
    rw [byt_list s i h1, byt_list t i h2] at e
    exact e
theorem low_high (x y : Nat) (hx : 128 ≤ x) (hy : y < 128) : low y ≠ low x := by
  unfold low
  split <;> split <;> omega
end Go.Proofs.YtklmbiekpilkhaaGreatDoor.alk
