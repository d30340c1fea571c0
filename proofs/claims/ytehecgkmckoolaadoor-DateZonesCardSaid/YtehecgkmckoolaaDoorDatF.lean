/- The month of three letters; a text's time, as the program reads it. -/
import Derived.Test.YtehecgkmckoolaaDoorDatE
import Derived.Test.YtehecgkmckoolaaDoorDatQ
namespace Go.Proofs.YtehecgkmckoolaaDoor.dat
open Go.ChangeShapes Go.WideShapes Go.ChangeAt Go.RowKit
open Go.Lib (dg itoa byteCells strCells)
set_option linter.unusedVariables false
set_option linter.unusedSimpArgs false

/-- The letters of the names of the months. -/
def letters : List Nat := [74, 97, 110, 70, 101, 98, 77, 114, 65, 112, 121, 117, 108, 103, 83, 79, 99, 116, 78, 111, 118, 68]
def swap (c : Nat) : Nat := if 97 ≤ c then c - 32 else c + 32
theorem letters_plain : ∀ c ∈ letters, c = 83 ∨ (c < 128 ∧ swap c < 128 ∧ swap c ≠ c ∧ asciiL.getD c 0 = (swap c : Int) ∧ asciiL.getD (swap c) 0 = (c : Int)) := by decide +kernel
theorem name_letters : ∀ m, 1 ≤ m → m ≤ 12 → ∀ j, j < 3 → byt ⟨(nameL m).toArray⟩ j ∈ letters := by
  intro m h0 h1 j hj
  have hj3 : j = 0 ∨ j = 1 ∨ j = 2 := by omega
  rcases twelve h0 h1 with rfl | rfl | rfl | rfl | rfl | rfl | rfl | rfl | rfl | rfl | rfl | rfl <;> rcases hj3 with rfl | rfl | rfl <;> decide +kernel
theorem name_low (m : Nat) (h0 : 1 ≤ m) (h1 : m ≤ 12) (j : Nat) (hj : j < 3) : byt ⟨(nameL m).toArray⟩ j < 128 ∧ (Plain (byt ⟨(nameL m).toArray⟩ j) ∨ byt ⟨(nameL m).toArray⟩ j = 83) := by
  rcases letters_plain _ (name_letters m h0 h1 j hj) with h | ⟨a, b, c, d, e⟩
  · rw [h]; exact ⟨by omega, .inr rfl⟩
  · exact ⟨a, .inl ⟨_, a, b, c, d, e⟩⟩
theorem low_high (x y : Nat) (hx : 128 ≤ x) (hy : y < 128) : low y ≠ low x := by
  unfold low
  split <;> split <;> omega
/-- Of three bytes and a month's name the library's comparison answers whether they are the same letters. -/
theorem fold_month (w : World) (s : ByteArray) (m : Nat) (hs : s.size = 3) (h0 : 1 ≤ m) (h1 : m ≤ 12) (hF : Fold w) :
    Calls Tryd.prog 41 #[.string s, .string ⟨(nameL m).toArray⟩] w fun e w' => e = .returned (.bool (decide (codeOf m = code s 0))) ∧ Below w.heap.size w w' := by
  have hnz : (⟨(nameL m).toArray⟩ : ByteArray).size = 3 := nameL_length h0 h1
  have hl := name_low m h0 h1
  by_cases hhi : ∃ j, j < 3 ∧ 128 ≤ byt s j
  · have hne : codeOf m ≠ code s 0 := by
      obtain ⟨j, hj, hb⟩ := hhi
      intro he
      have hk := low_high _ _ hb (hl j hj).1
      unfold codeOf code at he
      simp only [Prod.mk.injEq, Nat.zero_add] at he
      have hj3 : j = 0 ∨ j = 1 ∨ j = 2 := by omega
      rcases hj3 with rfl | rfl | rfl
      · exact hk he.1
      · exact hk he.2.1
      · exact hk he.2.2
    rw [decide_eq_false hne]
    exact fold_high w s _ hs hnz hF hhi hl
  · have hasc : ∀ (l : ByteArray), l.size = 3 → (∀ j, j < 3 → byt l j < 128) → ∀ (j : Nat) b, l.data.toList[j]? = some b → b.toNat < 128 := by
      intro l hlz hb j b hj
      have hj3 : j < 3 := by
        have := (List.getElem?_eq_some_iff.1 hj).1
        rw [← Lib.size_eq] at this
        omega
      have := hb j hj3
      unfold byt at this
      rw [getElem!_pos l.data j (show j < l.size by omega)] at this
      obtain ⟨h', e⟩ := List.getElem?_eq_some_iff.1 hj
      rw [← e]
      simpa using this
    refine (Tryd.strings_EqualFold s ⟨(nameL m).toArray⟩ w (by omega) (hasc s hs fun j hj => ?_) (hasc _ hnz fun j hj => (hl j hj).1)).mono ?_
    · rcases Nat.lt_or_ge (byt s j) 128 with h | h
      · exact h
      · exact absurd ⟨j, hj, h⟩ hhi
    · rintro e w' ⟨rfl, rfl⟩
      refine ⟨?_, Below.refl _ _⟩
      rw [← alike_name s m h0 h1 hs, alike_fold s _ hs hnz]
theorem St.on {w w' : World} {p : Nat} {s : ByteArray} {o : Option Nat} (h : St w p s o) (hb : Below w.heap.size w w') : St w' p s o := by
  have hlt := h.lt
  have e : w'.heap[p]? = w.heap[p]? := hb.block p hlt
  cases o with
  | none =>
    obtain ⟨k, hk, hc⟩ := h
    exact ⟨k, hk, e.trans hc⟩
  | some k => exact ⟨h.1, e.trans h.2⟩
def monOf (s : ByteArray) : Nat := if s.size = 3 then mon (code s 0) else 0
set_option maxHeartbeats 1600000 in
theorem monthOf_any (w : World) (s : ByteArray) (hz : s.size ≤ 1000) (hF : Fold w) :
    Calls Tryd.prog 37 #[.string s] w fun e w' => e = .returned (.int .i64 (monOf s : Nat)) ∧ Below w.heap.size w w' := by
  unfold monOf
  by_cases hs : s.size = 3
  · rw [if_pos hs]
    have hs3 : ((s.size : Int) == 3) = true := by rw [beq_iff_eq]; omega
    obtain ⟨c, hc⟩ : ∃ c, code s 0 = c := ⟨_, rfl⟩
    have HF := Lib.hid hF
    have HE := Lib.hid (fun (w : World) (m : Nat) (h0 : 1 ≤ m) (h1 : m ≤ 12) (hF : Fold w) => fold_month w s m hs h0 h1 hF)
    rw [hc] at HE ⊢
    clear hF hc
    go_enter Tryd.func37, Tryd.ntmps37
    go_wp2
    go_loopw [3] (fun x wr => ∃ m : Nat, 1 ≤ m ∧ m ≤ 13 ∧ x = .int .i64 m ∧ Hid (∀ j, 1 ≤ j → j < m → codeOf j ≠ c) ∧ Hid (Below w.heap.size w wr)) (fun x _ => 13 - (intOf x).toNat)
    case atStart => exact ⟨1, Nat.le_refl _, by omega, rfl, fun j h0 h1 => by omega, Below.refl _ _⟩
    case round =>
      obtain ⟨m, m0, m1, rfl, hh, hb⟩ := hrel
      by_cases hm : m ≤ 12
      · have hmn := Lib.hid (fun w => monthName_any w m m0 hm)
        have HFr := Lib.hid (HF.out.below hb.out)
        have HEm := Lib.hid (fun w h => HE.out w m m0 hm h)
        by_cases he : codeOf m = c
        · rw [decide_eq_true he] at HEm
          have hres : mon c = m := by rw [← he]; exact mon_code m0 hm
          have HR := Lib.hid hres
          clear he hres
          go_wp2_with (first
            | (go_at_call 16; refine (hmn.out _).mono ?_; rintro e w1 ⟨rfl, hw⟩; replace hw := hw.symm; subst hw)
            | (go_at_call 41; refine (HEm.out _ HFr.out).mono ?_; rintro e w2 ⟨rfl, hb2⟩))
          go_ret
          rw [HR.out]
          exact ⟨rfl, hb.out.trans (hb2.mono hb.out.size)⟩
        · rw [decide_eq_false he] at HEm
          have HN := Lib.hid (show ∀ j, 1 ≤ j → j < m + 1 → codeOf j ≠ c by
            intro j h0 h1
            rcases Nat.lt_succ_iff_lt_or_eq.1 h1 with h' | rfl
            · exact hh.out j h0 h'
            · exact he)
          clear he hh
          go_wp2_with (first
            | (go_at_call 16; refine (hmn.out _).mono ?_; rintro e w1 ⟨rfl, hw⟩; replace hw := hw.symm; subst hw)
            | (go_at_call 41; refine (HEm.out _ HFr.out).mono ?_; rintro e w2 ⟨rfl, hb2⟩))
          exact ⟨⟨m + 1, by omega, by omega, by simp, HN.out, hb.out.trans (hb2.mono hb.out.size)⟩, by simp [intOf]; omega⟩
      · have hres : mon c = 0 := lastM_none c 12 fun j h0 h1 => hh.out j h0 (by omega)
        go_wp2
        go_ret
        rw [hres]
        exact ⟨rfl, hb.out⟩
  · rw [if_neg hs]
    have hs3 : ((s.size : Int) == 3) = false := by rw [beq_eq_false_iff_ne]; omega
    go_enter Tryd.func37, Tryd.ntmps37
    go_wp2
    go_loop [3] (fun x => ∃ m : Nat, 1 ≤ m ∧ m ≤ 13 ∧ x = .int .i64 m) (fun x => 13 - (intOf x).toNat)
    case atStart => exact ⟨1, Nat.le_refl _, by omega, rfl⟩
    case round =>
      obtain ⟨m, m0, m1, rfl⟩ := hrel
      by_cases hm : m ≤ 12
      · go_wp2
        exact ⟨⟨m + 1, by omega, by omega, by simp⟩, by simp [intOf]; omega⟩
      · go_wp2
        go_ret
        exact ⟨rfl, Below.refl _ _⟩
theorem monOf_take (s : ByteArray) (o : Option Nat) : monOf (tkS s 3 o) = monV s o := by
  cases o with
  | none => rfl
  | some k =>
    by_cases hk : k + 3 ≤ s.size
    · have e1 : tkS s 3 (some k) = s.extract k (k + 3) := by simp only [tkS]; rw [if_pos hk]
      rw [e1]
      unfold monOf monV
      simp only [Option.bind_some]
      rw [if_pos hk, if_pos (by rw [ByteArray.size_extract]; omega), code_extract s k hk]
      rfl
    · have e1 : tkS s 3 (some k) = ⟨#[]⟩ := by simp only [tkS]; rw [if_neg hk]
      rw [e1]
      unfold monOf monV
      simp only [Option.bind_some]
      rw [if_neg hk]
      rfl
theorem month_take (w : World) (p : Nat) (s : ByteArray) (o : Option Nat) (hz : s.size ≤ 1000) (h : St w p s o) (hF : Fold w) (hp : ∀ w', Below p w w' → Fold w') :
    Calls Tryd.prog 25 #[.pointer (some ⟨p, 0, none⟩)] w fun e w' => e = .returned (.int .i64 (monV s o : Nat)) ∧ St w' p s (monO s o) ∧ Below p w w' := by
  have HT := Lib.hid (take_any w p s o 3 (by omega) hz h)
  have hsz : (tkS s 3 o).size ≤ 1000 := by
    cases o with
    | none => exact Nat.zero_le _
    | some k =>
      simp only [tkS]
      split
      · rw [ByteArray.size_extract]; omega
      · exact Nat.zero_le _
  have HM := Lib.hid (fun w h => monthOf_any w (tkS s 3 o) hsz h)
  rw [monOf_take] at HM
  have HP := Lib.hid hp
  have hcase : (monV s o = 0 ∧ monO s o = none) ∨ (monV s o ≠ 0 ∧ monO s o = tk s 3 o) := by
    cases o with
    | none => exact .inl ⟨rfl, rfl⟩
    | some k =>
      unfold monV monO tk
      simp only [Option.bind_some]
      by_cases hk : k + 3 ≤ s.size
      · rw [if_pos hk, if_pos hk]
        by_cases hm : mon (code s k) = 0
        · exact .inl ⟨hm, by rw [if_neg (fun h => h.2 hm)]⟩
        · exact .inr ⟨hm, by rw [if_pos ⟨hk, hm⟩]⟩
      · rw [if_neg hk]
        exact .inl ⟨rfl, by rw [if_neg (fun h => hk h.1)]⟩
  have hm12 := monV_le s o
  obtain ⟨m, hm⟩ : ∃ m, monV s o = m := ⟨_, rfl⟩
  obtain ⟨r, hr⟩ : ∃ r, tkS s 3 o = r := ⟨_, rfl⟩
  rw [hm] at HM hcase hm12 ⊢
  rw [hr] at HM HT
  clear hm hr h hF hp hsz
  rcases hcase with ⟨rfl, e⟩ | ⟨hne, e⟩
  · rw [e]
    clear e
    go_enter Tryd.func25, Tryd.ntmps25
    go_wp2_with (first
      | (go_at_call 36; refine HT.out.mono ?_; rintro e w1 ⟨rfl, hst, hb⟩)
      | (go_at_call 37; refine (HM.out _ (HP.out _ hb)).mono ?_; rintro e w2 ⟨rfl, hb2⟩; have hst2 := hst.on (hb2.mono (Nat.le_refl _)); obtain ⟨f1, bv, c1⟩ := hst2.free; have hbad := Lib.hid hst2.bad))
    go_ret
    exact ⟨rfl, hbad.out.1, hb.trans ((hb2.mono (Nat.le_of_lt hst.lt)).trans hbad.out.2)⟩
  · rw [e]
    have hm0 : ((m : Int) == 0) = false := by rw [beq_eq_false_iff_ne]; omega
    clear e
    go_enter Tryd.func25, Tryd.ntmps25
    go_wp2_with (first
      | (go_at_call 36; refine HT.out.mono ?_; rintro e w1 ⟨rfl, hst, hb⟩)
      | (go_at_call 37; refine (HM.out _ (HP.out _ hb)).mono ?_; rintro e w2 ⟨rfl, hb2⟩; have hst2 := hst.on (hb2.mono (Nat.le_refl _))))
    go_ret
    exact ⟨rfl, hst2, hb.trans (hb2.mono (Nat.le_of_lt hst.lt))⟩
end Go.Proofs.YtehecgkmckoolaaDoor.dat
