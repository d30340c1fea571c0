/- A text's time, as the document reads it: where the signs stand as they must. -/
import Derived.Test.YtehecgkmckoolaaDoorDatI
namespace Go.Proofs.YtehecgkmckoolaaDoor.dat
open Go.ChangeShapes Go.WideShapes Go.ChangeAt Go.RowKit
open Go.Lib (dg itoa byteCells strCells)
set_option linter.unusedVariables false
set_option linter.unusedSimpArgs false

theorem numI_le (s : ByteArray) (k n : Nat) (hn : n ≤ 4) : -1 ≤ numI (digs s k n) ∧ numI (digs s k n) < 10000 := by
  cases h : digs s k n with
  | none => simp [numI]
  | some v =>
    have := digs_lt s k n v h
    have h2 : 10 ^ n ≤ 10 ^ 4 := Nat.pow_le_pow_right (by omega) hn
    simp only [numI]
    omega
theorem numI_some {o : Option Nat} {z : Int} (h : numI o = z) (h0 : 0 ≤ z) : ∃ v : Nat, o = some v ∧ z = v := by
  cases o with
  | none => simp [numI] at h; omega
  | some v => exact ⟨v, rfl, h.symm⟩
/-- The day's digits, as the document takes them. -/
def dayD (s : ByteArray) : Option Nat := if byt s 0 = 32 then digs s 1 1 else digs s 0 2
theorem first_any (s : ByteArray) (hs : s.size = 26) (hb : byt s 0 = 32) (w : World) :
    Calls Tryd.prog 32 #[.string ((s.extract 0 2).extract 1 2)] w fun e w' => e = .returned (.int .i64 (numI (dayD s))) ∧ w' = w := by
  have h1 : (s.extract 0 2).extract 1 2 = s.extract 1 2 := by rw [ByteArray.extract_extract]; rfl
  have h2 : dayD s = digs (s.extract 1 2) 0 1 := by unfold dayD; rw [if_pos hb, digs_extract s 1 2 (by omega) 1 (by omega)]
  rw [h1, h2]
  exact number_any w _ 1 (by rw [ByteArray.size_extract]; omega) (by omega)
theorem first_two (s : ByteArray) (hs : s.size = 26) (hb : ¬ byt s 0 = 32) (w : World) :
    Calls Tryd.prog 32 #[.string (s.extract 0 2)] w fun e w' => e = .returned (.int .i64 (numI (dayD s))) ∧ w' = w := by
  have h2 : dayD s = digs (s.extract 0 2) 0 2 := by unfold dayD; rw [if_neg hb, digs_extract s 0 2 (by omega) 2 (by omega)]
  rw [h2]
  exact number_any w _ 2 (by rw [ByteArray.size_extract]; omega) (by omega)
theorem piece_any (s : ByteArray) (hs : s.size = 26) (a b n : Nat) (hab : a + n = b) (hb : b ≤ 26) (hn : n ≤ 4) (w : World) :
    Calls Tryd.prog 32 #[.string (s.extract a b)] w fun e w' => e = .returned (.int .i64 (numI (digs s a n))) ∧ w' = w := by
  rw [← digs_extract s a b (by omega) n (by omega)]
  exact number_any w _ n (by rw [ByteArray.size_extract]; omega) hn
theorem month_alike (s : ByteArray) (hs : s.size = 26) (m : Nat) (h0 : 1 ≤ m) (h1 : m ≤ 12) (w : World) :
    Calls Tryd.prog 31 #[.string (s.extract 3 6), .string ⟨(nameL m).toArray⟩] w fun e w' => e = .returned (.bool (decide (codeOf m = code s 3))) ∧ Drew w w' := by
  have hz : (s.extract 3 6).size = 3 := by rw [ByteArray.size_extract]; omega
  have hnz : (⟨(nameL m).toArray⟩ : ByteArray).size = 3 := nameL_length h0 h1
  have h := alike_any w (s.extract 3 6) ⟨(nameL m).toArray⟩ (by omega) (by omega)
  rw [alike_name _ m h0 h1 hz, code_extract s 3 (by omega)] at h
  exact h

theorem dayD_some {s : ByteArray} {d m y h i e zh zm : Nat} (f : Fm s d m y h i e zh zm) : dayD s = some d := by
  have := f.day
  unfold dayD
  split at this
  · rename_i hc'; rw [if_pos hc']; exact this
  · rename_i hc'; rw [if_neg hc']; exact this
/-- What is told where all is as it must be. -/
theorem tells_of {s : ByteArray} (hm : Marks s) {dI hI iI eI aI bI T : Int} {mm y : Nat} (h1 : numI (dayD s) = dI) (h2 : numI (digs s 7 4) = (y : Int)) (h3 : numI (digs s 12 2) = hI) (h4 : numI (digs s 15 2) = iI) (h5 : numI (digs s 18 2) = eI)
    (h6 : numI (digs s 22 2) = aI) (h7 : numI (digs s 24 2) = bI) (hmo : mon (code s 3) = mm) (hm0 : mm ≠ 0) (b1 : 1 ≤ dI) (b2 : dI ≤ (daysN y mm : Nat)) (b3 : 0 ≤ hI ∧ hI ≤ 23) (b4 : 0 ≤ iI ∧ iI ≤ 59) (b5 : 0 ≤ eI ∧ eI ≤ 59)
    (b6 : 0 ≤ aI ∧ aI ≤ 14) (b7 : 0 ≤ bI ∧ bI ≤ 59) (hT : T = (nY y + (cum y (mm - 1) : Nat) + dI - 1) * 86400 + hI * 3600 + iI * 60 + eI - (if byt s 21 = 43 then aI * 3600 + bI * 60 else -(aI * 3600 + bI * 60))) :
    (0 ≤ T ∧ T ≤ 253402300799 → Par s T true) ∧ (¬ (0 ≤ T ∧ T ≤ 253402300799) → Par s 0 false) := by
  obtain ⟨d, o1, rfl⟩ := numI_some h1 (by omega)
  obtain ⟨y', o2, hy'⟩ := numI_some h2 (by omega)
  obtain rfl : y = y' := by omega
  obtain ⟨h, o3, rfl⟩ := numI_some h3 b3.1
  obtain ⟨i, o4, rfl⟩ := numI_some h4 b4.1
  obtain ⟨e, o5, rfl⟩ := numI_some h5 b5.1
  obtain ⟨zh, o6, rfl⟩ := numI_some h6 b6.1
  obtain ⟨zm, o7, rfl⟩ := numI_some h7 b7.1
  obtain ⟨m1, m2, m3, m4, m5, m6, m7, m8⟩ := hm
  have hf : Fm s d mm y h i e zh zm := ⟨m1, m2, m3, m4, m5, m6, m7, m8, by
    unfold dayD at o1
    split at o1
    · rename_i hc'; rw [if_pos hc']; exact o1
    · rename_i hc'; rw [if_neg hc']; exact o1, hmo, hm0, o2, o3, by omega, o4, by omega, o5, by omega, o6, by omega, o7, by omega⟩
  have hTT : T = timeOf s d mm y h i e zh zm := by
    rw [hT]
    unfold timeOf ahead
    split <;> omega
  refine ⟨fun hr => .inl ⟨rfl, d, mm, y, h, i, e, zh, zm, hf, by omega, by omega, hTT, hr.1, hr.2⟩, fun hr => par_none fun d' m' y' h' i' e' zh' zm' f q1 q2 q3 q4 => ?_⟩
  obtain ⟨rfl, rfl, rfl, rfl, rfl, rfl, rfl, rfl⟩ := f.same hf
  rw [← hTT] at q3 q4
  exact hr ⟨q3, q4⟩
end Go.Proofs.YtehecgkmckoolaaDoor.dat
