/- The month of three letters; a text's time, as the program reads it. -/
import Derived.Test.YtbhpgghbpibalaaGreatDoorMb4
import Derived.Test.YtbhpgghbpibalaaGreatDoorMb5
namespace Go.Proofs.YtbhpgghbpibalaaGreatDoor.dat
open Go.ChangeShapes Go.WideShapes Go.ChangeAt Go.RowKit
open Go.Lib (dg itoa byteCells strCells)
set_option linter.unusedVariables false
set_option linter.unusedSimpArgs false

/-- The letters of the names of the months. -/
def letters : List Nat := [74, 97, 110, 70, 101, 98, 77, 114, 65, 112, 121, 117, 108, 103, 83, 79, 99, 116, 78, 111, 118, 68]
def swap (c : Nat) : Nat := if 97 ≤ c then c - 32 else c + 32
theorem letters_plain : ∀ c ∈ letters, c = 83 ∨ (c < 128 ∧ swap c < 128 ∧ swap c ≠ c ∧ asciiL.getD c 0 = (swap c : Int) ∧ asciiL.getD (swap c) 0 = (c : Int)) := by decide +kernel
theorem name_letters : ∀ m, 1 ≤ m → m ≤ 12 → ∀ j, j < 3 → byt ⟨(nameL m).toArray⟩ j ∈ letters := by
  intro m h0 h1 j hj
  have hj3 : j = 0 ∨ j = 1 ∨ j = 2 := by omega
  rcases twelve h0 h1 with rfl | rfl | rfl | rfl | rfl | rfl | rfl | rfl | rfl | rfl | rfl | rfl <;> rcases hj3 with rfl | rfl | rfl <;> decide +kernel
theorem name_low (m : Nat) (h0 : 1 ≤ m) (h1 : m ≤ 12) (j : Nat) (hj : j < 3) : byt ⟨(nameL m).toArray⟩ j < 128 ∧ (Plain (byt ⟨(nameL m).toArray⟩ j) ∨ byt ⟨(nameL m).toArray⟩ j = 83) := by
  rcases letters_plain _ (name_letters m h0 h1 j hj) with h | ⟨a, b, c, d, e⟩
  · rw [h]; exact ⟨by omega, .inr rfl⟩
  · exact ⟨a, .inl ⟨_, a, b, c, d, e⟩⟩
theorem low_high (x y : Nat) (hx : 128 ≤ x) (hy : y < 128) : low y ≠ low x := by
  unfold low
  split <;> split <;> omega
/-- Of three bytes and a month's name the library's comparison answers whether they are the same letters. -/
theorem fold_month (w : World) (s : ByteArray) (m : Nat) (hs : s.size = 3) (h0 : 1 ≤ m) (h1 : m ≤ 12) (hF : Fold w) :
    Calls Tryz.prog 72 #[.string s, .string ⟨(nameL m).toArray⟩] w fun e w' => e = .returned (.bool (decide (codeOf m = code s 0))) ∧ Below w.heap.size w w' := by
  have hnz : (⟨(nameL m).toArray⟩ : ByteArray).size = 3 := nameL_length h0 h1
  have hl := name_low m h0 h1
  by_cases hhi : ∃ j, j < 3 ∧ 128 ≤ byt s j
  · have hne : codeOf m ≠ code s 0 := by
      obtain ⟨j, hj, hb⟩ := hhi
      intro he
      have hk := low_high _ _ hb (hl j hj).1
      unfold codeOf code at he
      simp only [Prod.mk.injEq, Nat.zero_add] at he
      have hj3 : j = 0 ∨ j = 1 ∨ j = 2 := by omega
      rcases hj3 with rfl | rfl | rfl
      · exact hk he.1
      · exact hk he.2.1
      · exact hk he.2.2
    rw [decide_eq_false hne]
    exact fold_high w s _ hs hnz hF hhi hl
  · have hasc : ∀ (l : ByteArray), l.size = 3 → (∀ j, j < 3 → byt l j < 128) → ∀ (j : Nat) b, l.data.toList[j]? = some b → b.toNat < 128 := by
      intro l hlz hb j b hj
      have hj3 : j < 3 := by
        have := (List.getElem?_eq_some_iff.1 hj).1
        rw [← Lib.size_eq] at this
        omega
      have := hb j hj3
      unfold byt at this
      rw [getElem!_pos l.data j (show j < l.size by omega)] at this
      obtain ⟨h', e⟩ := List.getElem?_eq_some_iff.1 hj
      rw [← e]
      simpa using this
    refine (Tryz.strings_EqualFold s ⟨(nameL m).toArray⟩ w (by omega) (hasc s hs fun j hj => ?_) (hasc _ hnz fun j hj => (hl j hj).1)).mono ?_
    · rcases Nat.lt_or_ge (byt s j) 128 with h | h
      · exact h
      · exact absurd ⟨j, hj, h⟩ hhi
    · rintro e w' ⟨rfl, rfl⟩
      refine ⟨?_, Below.refl _ _⟩
      rw [← alike_name s m h0 h1 hs, alike_fold s _ hs hnz]
theorem St.on {w w' : World} {p : Nat} {s : ByteArray} {o : Option Nat} (h : St w p s o) (hb : Below w.heap.size w w') : St w' p s o := by
  have hlt := h.lt
  have e : w'.heap[p]? = w.heap[p]? := hb.block p hlt
  cases o with
  | none =>
    obtain ⟨k, hk, hc⟩ := h
    exact ⟨k, hk, e.trans hc⟩
  | some k => exact ⟨h.1, e.trans h.2⟩
def monOf (s : ByteArray) : Nat := if s.size = 3 then mon (code s 0) else 0
set_option maxHeartbeats 1600000 in
theorem monthOf_any (w : World) (s : ByteArray) (hz : s.size ≤ 5000) (hF : Fold w) :
    Calls Tryz.prog 107 #[.string s] w fun e w' => e = .returned (.int .i64 (monOf s : Nat)) ∧ Below w.heap.size w w' := by
  unfold monOf
  by_cases hs : s.size = 3
  · rw [if_pos hs]
    have hs3 : ((s.size : Int) == 3) = true := by rw [beq_iff_eq]; omega
    obtain ⟨c, hc⟩ : ∃ c, code s 0 = c := ⟨_, rfl⟩
    have HF := Lib.hid hF
    have HE := Lib.hid (fun (w : World) (m : Nat) (h0 : 1 ≤ m) (h1 : m ≤ 12) (hF : Fold w) => fold_month w s m hs h0 h1 hF)
    rw [hc] at HE ⊢
    clear hF hc
    go_enter Tryz.func107, Tryz.ntmps107
    go_wp2
    go_loopw [3] (fun x wr => ∃ m : Nat, 1 ≤ m ∧ m ≤ 13 ∧ x = .int .i64 m ∧ Hid (∀ j, 1 ≤ j → j < m → codeOf j ≠ c) ∧ Hid (Below w.heap.size w wr)) (fun x _ => 13 - (intOf x).toNat)
    case atStart => exact ⟨1, Nat.le_refl _, by omega, rfl, fun j h0 h1 => by omega, Below.refl _ _⟩
    case round =>
      obtain ⟨m, m0, m1, rfl, hh, hb⟩ := hrel
      by_cases hm : m ≤ 12
      · have hmn := Lib.hid (fun w => monthName_any w m m0 hm)
        have HFr := Lib.hid (HF.out.below hb.out)
        have HEm := Lib.hid (fun w h => HE.out w m m0 hm h)
        by_cases he : codeOf m = c
        · rw [decide_eq_true he] at HEm
          have hres : mon c = m := by rw [← he]; exact mon_code m0 hm
          have HR := Lib.hid hres
          clear he hres
          go_wp2_with (first
            | (go_at_call 117; refine (hmn.out _).mono ?_; rintro e w1 ⟨rfl, hw⟩; replace hw := hw.symm; subst hw)
            | (go_at_call 72; refine (HEm.out _ HFr.out).mono ?_; rintro e w2 ⟨rfl, hb2⟩))
          go_ret
          rw [HR.out]
          exact ⟨rfl, hb.out.trans (hb2.mono hb.out.size)⟩
        · rw [decide_eq_false he] at HEm
          have HN := Lib.hid (show ∀ j, 1 ≤ j → j < m + 1 → codeOf j ≠ c by
            intro j h0 h1
            rcases Nat.lt_succ_iff_lt_or_eq.1 h1 with h' | rfl
            · exact hh.out j h0 h'
            · exact he)
          clear he hh
          go_wp2_with (first
            | (go_at_call 117; refine (hmn.out _).mono ?_; rintro e w1 ⟨rfl, hw⟩; replace hw := hw.symm; subst hw)
            | (go_at_call 72; refine (HEm.out _ HFr.out).mono ?_; rintro e w2 ⟨rfl, hb2⟩))
          exact ⟨⟨m + 1, by omega, by omega, by simp, HN.out, hb.out.trans (hb2.mono hb.out.size)⟩, by simp [intOf]; omega⟩
      · have hres : mon c = 0 := lastM_none c 12 fun j h0 h1 => hh.out j h0 (by omega)
        go_wp2
        go_ret
        rw [hres]
        exact ⟨rfl, hb.out⟩
  · rw [if_neg hs]
    have hs3 : ((s.size : Int) == 3) = false := by rw [beq_eq_false_iff_ne]; omega
    go_enter Tryz.func107, Tryz.ntmps107
    go_wp2
    go_loop [3] (fun x => ∃ m : Nat, 1 ≤ m ∧ m ≤ 13 ∧ x = .int .i64 m) (fun x => 13 - (intOf x).toNat)
    case atStart => exact ⟨1, Nat.le_refl _, by omega, rfl⟩
    case round =>
      obtain ⟨m, m0, m1, rfl⟩ := hrel
      by_cases hm : m ≤ 12
      · go_wp2
        exact ⟨⟨m + 1, by omega, by omega, by simp⟩, by simp [intOf]; omega⟩
      · go_wp2
        go_ret
        exact ⟨rfl, Below.refl _ _⟩
theorem monOf_take (s : ByteArray) (o : Option Nat) : monOf (tkS s 3 o) = monV s o := by
  cases o with
  | none => rfl
  | some k =>
    by_cases hk : k + 3 ≤ s.size
    · have e1 : tkS s 3 (some k) = s.extract k (k + 3) := by simp only [tkS]; rw [if_pos hk]
      rw [e1]
      unfold monOf monV
      simp only [Option.bind_some]
      rw [if_pos hk, if_pos (by rw [ByteArray.size_extract]; omega), code_extract s k hk]
      rfl
    · have e1 : tkS s 3 (some k) = ⟨#[]⟩ := by simp only [tkS]; rw [if_neg hk]
      rw [e1]
      unfold monOf monV
      simp only [Option.bind_some]
      rw [if_neg hk]
      rfl
theorem month_take (w : World) (p : Nat) (s : ByteArray) (o : Option Nat) (hz : s.size ≤ 5000) (h : St w p s o) (hF : Fold w) (hp : ∀ w', Below p w w' → Fold w') :
    Calls Tryz.prog 91 #[.pointer (some ⟨p, 0, none⟩)] w fun e w' => e = .returned (.int .i64 (monV s o : Nat)) ∧ St w' p s (monO s o) ∧ Below p w w' := by
  have HT := Lib.hid (take_any w p s o 3 (by omega) hz h)
  have hsz : (tkS s 3 o).size ≤ 5000 := by
    cases o with
    | none => exact Nat.zero_le _
    | some k =>
      simp only [tkS]
      split
      · rw [ByteArray.size_extract]; omega
      · exact Nat.zero_le _
  have HM := Lib.hid (fun w h => monthOf_any w (tkS s 3 o) hsz h)
  rw [monOf_take] at HM
  have HP := Lib.hid hp
  have hcase : (monV s o = 0 ∧ monO s o = none) ∨ (monV s o ≠ 0 ∧ monO s o = tk s 3 o) := by
    cases o with
    | none => exact .inl ⟨rfl, rfl⟩
    | some k =>
      unfold monV monO tk
      simp only [Option.bind_some]
      by_cases hk : k + 3 ≤ s.size
      · rw [if_pos hk, if_pos hk]
        by_cases hm : mon (code s k) = 0
        · exact .inl ⟨hm, by rw [if_neg (fun h => h.2 hm)]⟩
        · exact .inr ⟨hm, by rw [if_pos ⟨hk, hm⟩]⟩
      · rw [if_neg hk]
        exact .inl ⟨rfl, by rw [if_neg (fun h => hk h.1)]⟩
  have hm12 := monV_le s o
  obtain ⟨m, hm⟩ : ∃ m, monV s o = m := ⟨_, rfl⟩
  obtain ⟨r, hr⟩ : ∃ r, tkS s 3 o = r := ⟨_, rfl⟩
  rw [hm] at HM hcase hm12 ⊢
  rw [hr] at HM HT
  clear hm hr h hF hp hsz
  rcases hcase with ⟨rfl, e⟩ | ⟨hne, e⟩
  · rw [e]
    clear e
    go_enter Tryz.func91, Tryz.ntmps91
    go_wp2_with (first
      | (go_at_call 106; refine HT.out.mono ?_; rintro e w1 ⟨rfl, hst, hb⟩)
      | (go_at_call 107; refine (HM.out _ (HP.out _ hb)).mono ?_; rintro e w2 ⟨rfl, hb2⟩; have hst2 := hst.on (hb2.mono (Nat.le_refl _)); obtain ⟨f1, bv, c1⟩ := hst2.free; have hbad := Lib.hid hst2.bad))
    go_ret
    exact ⟨rfl, hbad.out.1, hb.trans ((hb2.mono (Nat.le_of_lt hst.lt)).trans hbad.out.2)⟩
  · rw [e]
    have hm0 : ((m : Int) == 0) = false := by rw [beq_eq_false_iff_ne]; omega
    clear e
    go_enter Tryz.func91, Tryz.ntmps91
    go_wp2_with (first
      | (go_at_call 106; refine HT.out.mono ?_; rintro e w1 ⟨rfl, hst, hb⟩)
      | (go_at_call 107; refine (HM.out _ (HP.out _ hb)).mono ?_; rintro e w2 ⟨rfl, hb2⟩; have hst2 := hst.on (hb2.mono (Nat.le_refl _))))
    go_ret
    exact ⟨rfl, hst2, hb.trans (hb2.mono (Nat.le_of_lt hst.lt))⟩
end Go.Proofs.YtbhpgghbpibalaaGreatDoor.dat
namespace Go.Proofs.YtbhpgghbpibalaaGreatDoor.dat
open Go.ChangeShapes Go.WideShapes Go.ChangeAt Go.RowKit
open Go.Lib (dg itoa byteCells strCells)
set_option linter.unusedVariables false
set_option linter.unusedSimpArgs false

theorem zonV_in (s : ByteArray) (o : Option Nat) : -400000 ≤ zonV s o ∧ zonV s o ≤ 400000 := by
  have h1 : zonH s o < 100 := numV_lt s 2 _
  have h2 : zonM s o < 100 := numV_lt s 2 _
  unfold zonV
  split
  · omega
  · split <;> omega
/-- What is answered of s. -/
def Ans (w : World) (s : ByteArray) (e : Ending) (w' : World) : Prop := ∃ t ok, e = .returned (.tuple #[.int .i64 t, .bool ok]) ∧ Par s t ok ∧ Below w.heap.size w w'
theorem Ans.mk {w : World} {s : ByteArray} {e : Ending} {w' : World} (t : Int) (ok : Bool) (h1 : e = .returned (.tuple #[.int .i64 t, .bool ok])) (h2 : Par s t ok) (h3 : Below w.heap.size w w') : Ans w s e w' := ⟨t, ok, h1, h2, h3⟩
set_option maxHeartbeats 6400000 in
theorem parse_any (w : World) (s : ByteArray) (hz : s.size ≤ 5000) (hF : Fold w) :
    Calls Tryz.prog 74 #[.string s] w (Ans w s) := by
  have c1 := fun (w1 : World) (h : St w1 w.heap.size s (some 0)) => day_take w1 w.heap.size s hz h
  have c2 := fun (w1 : World) (h : St w1 w.heap.size s (dayO s)) => mark_any w1 w.heap.size s (dayO s) 45 (by omega) hz h
  have c3 := fun (w1 : World) (h : St w1 w.heap.size s (o2 s)) (hb : Below w.heap.size w w1) => month_take w1 w.heap.size s (o2 s) hz h (hF.below hb) (fun w' hb' => hF.below (hb.trans hb'))
  have c4 := fun (w1 : World) (h : St w1 w.heap.size s (monO s (o2 s))) => mark_any w1 w.heap.size s (monO s (o2 s)) 45 (by omega) hz h
  have c5 := fun (w1 : World) (h : St w1 w.heap.size s (o4 s)) => num_any w1 w.heap.size s (o4 s) 4 9999 (by omega) (by omega) hz (by omega) h
  have c6 := fun (w1 : World) (h : St w1 w.heap.size s (numO s 4 9999 (o4 s))) => mark_any w1 w.heap.size s (numO s 4 9999 (o4 s)) 32 (by omega) hz h
  have c7 := fun (w1 : World) (h : St w1 w.heap.size s (o6 s)) => num_any w1 w.heap.size s (o6 s) 2 23 (by omega) (by omega) hz (by omega) h
  have c8 := fun (w1 : World) (h : St w1 w.heap.size s (numO s 2 23 (o6 s))) => mark_any w1 w.heap.size s (numO s 2 23 (o6 s)) 58 (by omega) hz h
  have c9 := fun (w1 : World) (h : St w1 w.heap.size s (o8 s)) => num_any w1 w.heap.size s (o8 s) 2 59 (by omega) (by omega) hz (by omega) h
  have c10 := fun (w1 : World) (h : St w1 w.heap.size s (numO s 2 59 (o8 s))) => mark_any w1 w.heap.size s (numO s 2 59 (o8 s)) 58 (by omega) hz h
  have c11 := fun (w1 : World) (h : St w1 w.heap.size s (o10 s)) => num_any w1 w.heap.size s (o10 s) 2 59 (by omega) (by omega) hz (by omega) h
  have c12 := fun (w1 : World) (h : St w1 w.heap.size s (numO s 2 59 (o10 s))) => mark_any w1 w.heap.size s (numO s 2 59 (o10 s)) 32 (by omega) hz h
  have c13 := fun (w1 : World) (h : St w1 w.heap.size s (o12 s)) => zone_take w1 w.heap.size s (o12 s) hz h
  have c14 := fun (w1 : World) (h : St w1 w.heap.size s (o13 s)) => done_any w1 w.heap.size s (o13 s) hz h
  rw [show mk s 45 (dayO s) = o2 s from rfl] at c2
  rw [show mk s 45 (monO s (o2 s)) = o4 s from rfl] at c4
  rw [show mk s 32 (numO s 4 9999 (o4 s)) = o6 s from rfl] at c6
  rw [show mk s 58 (numO s 2 23 (o6 s)) = o8 s from rfl] at c8
  rw [show mk s 58 (numO s 2 59 (o8 s)) = o10 s from rfl] at c10
  rw [show mk s 32 (numO s 2 59 (o10 s)) = o12 s from rfl] at c12
  rw [show zonO s (o12 s) = o13 s from rfl] at c13
  have bD := dayV_lt s
  have bM := monV_le s (o2 s)
  have bY := numV_lt s 4 (o4 s)
  have bH := numV_lt s 2 (o6 s)
  have bI := numV_lt s 2 (o8 s)
  have bE := numV_lt s 2 (o10 s)
  have bZ := zonV_in s (o12 s)
  have hfm := fun h => chain_fm (s := s) h
  have hno : o13 s ≠ some s.size → ∀ d m y h i e zh zm, Fm s d m y h i e zh zm → ¬ d ≤ daysN y m := fun hn d m y h i e zh zm f hd => hn (chain_of f hd)
  obtain ⟨D, hD⟩ : ∃ x, dayV s = x := ⟨_, rfl⟩
  obtain ⟨M, hM⟩ : ∃ x, monV s (o2 s) = x := ⟨_, rfl⟩
  obtain ⟨Y, hY⟩ : ∃ x, numV s 4 (o4 s) = x := ⟨_, rfl⟩
  obtain ⟨H, hH⟩ : ∃ x, numV s 2 (o6 s) = x := ⟨_, rfl⟩
  obtain ⟨I, hI⟩ : ∃ x, numV s 2 (o8 s) = x := ⟨_, rfl⟩
  obtain ⟨E, hE⟩ : ∃ x, numV s 2 (o10 s) = x := ⟨_, rfl⟩
  obtain ⟨Z, hZ⟩ : ∃ x, zonV s (o12 s) = x := ⟨_, rfl⟩
  rw [hD] at c1 bD
  rw [hM] at c3 bM
  rw [hY] at c5 bY
  rw [hH] at c7 bH
  rw [hI] at c9 bI
  rw [hE] at c11 bE
  rw [hZ] at c13 bZ
  rw [hD, hM, hY, hH, hI, hE, hZ] at hfm
  have C1 := Lib.hid c1; have C2 := Lib.hid c2; have C3 := Lib.hid c3; have C4 := Lib.hid c4; have C5 := Lib.hid c5; have C6 := Lib.hid c6; have C7 := Lib.hid c7; have C8 := Lib.hid c8; have C9 := Lib.hid c9; have C10 := Lib.hid c10; have C11 := Lib.hid c11; have C12 := Lib.hid c12; have C13 := Lib.hid c13; have C14 := Lib.hid c14
  have HFM := Lib.hid hfm; have HNO := Lib.hid hno
  clear c1 c2 c3 c4 c5 c6 c7 c8 c9 c10 c11 c12 c13 c14 hfm hno hD hM hY hH hI hE hZ hF
  have hY4 : Y < 10000 := bY
  have hlen := Lib.hid (fun w => length_any w Y M (by omega) (by omega))
  have hdo := Lib.hid (fun w (h0 : 1 ≤ M) => dayOf_any w Y M D (by omega) h0 bM (by omega))
  have hti := Lib.hid (fun w => isTime_any w ((nY Y + D - 1 + (cum Y (M - 1) : Nat)) * 86400 + H * 3600 + I * 60 + E - Z))
  have hst0 : St (w.alloc (.cells #[.string s, .bool false] 124)) w.heap.size s (some 0) := ⟨Nat.zero_le _, by rw [heap_alloc_new]; simp⟩
  have hst := hst0
  have hb : Below w.heap.size w (w.alloc (.cells #[.string s, .bool false] 124)) := (Below.refl _ _).alloc (Nat.le_refl _) _
  clear hst0
  by_cases hdn : o13 s = some s.size
  · rw [decide_eq_true hdn] at C14
    obtain ⟨hf, hz13⟩ := HFM.out hdn
    have hM1 : 1 ≤ M := by have := hf.m0; omega
    have hK1 := nY_bounds Y (by omega)
    have hK2 := cum_le Y (M - 1)
    have hT : timeOf s D M Y H I E (zonH s (o12 s)) (zonM s (o12 s)) = (nY Y + D - 1 + (cum Y (M - 1) : Nat)) * 86400 + H * 3600 + I * 60 + E - Z := by
      unfold timeOf
      rw [hz13]
    have huniq : ∀ d m y h i e zh zm, Fm s d m y h i e zh zm → d = D ∧ m = M ∧ y = Y ∧ timeOf s d m y h i e zh zm = timeOf s D M Y H I E (zonH s (o12 s)) (zonM s (o12 s)) := fun d m y h i e zh zm f => by
      obtain ⟨rfl, rfl, rfl, rfl, rfl, rfl, rfl, rfl⟩ := f.same hf
      exact ⟨rfl, rfl, rfl, rfl⟩
    have hyes : 1 ≤ D → D ≤ daysN Y M → ∀ T, T = (nY Y + D - 1 + (cum Y (M - 1) : Nat)) * 86400 + H * 3600 + I * 60 + E - Z → 0 ≤ T ∧ T ≤ 253402300799 → Par s T true := fun h1 h2 T h3 h4 =>
      .inl ⟨rfl, D, M, Y, H, I, E, _, _, hf, h1, h2, h3.trans hT.symm, h4.1, h4.2⟩
    have hnon : (D < 1 ∨ daysN Y M < D ∨ ¬ (0 ≤ (nY Y + D - 1 + (cum Y (M - 1) : Nat)) * 86400 + H * 3600 + I * 60 + E - Z ∧ (nY Y + D - 1 + (cum Y (M - 1) : Nat)) * 86400 + H * 3600 + I * 60 + E - Z ≤ 253402300799)) → Par s 0 false := fun hh =>
      par_none fun d m y h i e zh zm f h1 h2 h3 h4 => by
        obtain ⟨rfl, rfl, rfl, ht⟩ := huniq d m y h i e zh zm f
        rw [ht, hT] at h3 h4
        omega
    obtain ⟨K, hK⟩ : ∃ K, nY Y + (D : Int) - 1 + ((cum Y (M - 1) : Nat) : Int) = K := ⟨_, rfl⟩
    have hKb : -720000 ≤ K ∧ K ≤ 2934000 := by omega
    rw [hK] at hyes hnon hdo hti
    have HY := Lib.hid hyes
    have HN := Lib.hid hnon
    obtain ⟨l, hl⟩ : ∃ l, daysN Y M = l := ⟨_, rfl⟩
    rw [hl] at HY HN hlen
    have hl31 : l ≤ 31 := by have := (daysN_pos Y M).2; omega
    clear hdn hf hz13 hK1 hK2 hT huniq hyes hnon hK hl HFM HNO
    by_cases hD1 : D < 1
    · have hpar := Lib.hid (HN.out (.inl hD1))
      go_enter Tryz.func74, Tryz.ntmps74
      go_wp2_with (first
      | (go_at_call 89; with_reducible refine Calls.mono (C1.out _ hst) ?_; clear hst; rintro e w1 ⟨rfl, hst, hb1⟩; replace hb := hb.trans hb1; clear hb1)
      | (go_at_call 90; with_reducible refine Calls.mono (C2.out _ hst) ?_; clear hst; rintro e w1 ⟨rfl, hst, hb1⟩; replace hb := hb.trans hb1; clear hb1)
      | (go_at_call 91; with_reducible refine Calls.mono (C3.out _ hst hb) ?_; clear hst; rintro e w1 ⟨rfl, hst, hb1⟩; replace hb := hb.trans hb1; clear hb1)
      | (go_at_call 90; with_reducible refine Calls.mono (C4.out _ hst) ?_; clear hst; rintro e w1 ⟨rfl, hst, hb1⟩; replace hb := hb.trans hb1; clear hb1)
      | (go_at_call 92; with_reducible refine Calls.mono (C5.out _ hst) ?_; clear hst; rintro e w1 ⟨rfl, hst, hb1⟩; replace hb := hb.trans hb1; clear hb1)
      | (go_at_call 90; with_reducible refine Calls.mono (C6.out _ hst) ?_; clear hst; rintro e w1 ⟨rfl, hst, hb1⟩; replace hb := hb.trans hb1; clear hb1)
      | (go_at_call 92; with_reducible refine Calls.mono (C7.out _ hst) ?_; clear hst; rintro e w1 ⟨rfl, hst, hb1⟩; replace hb := hb.trans hb1; clear hb1)
      | (go_at_call 90; with_reducible refine Calls.mono (C8.out _ hst) ?_; clear hst; rintro e w1 ⟨rfl, hst, hb1⟩; replace hb := hb.trans hb1; clear hb1)
      | (go_at_call 92; with_reducible refine Calls.mono (C9.out _ hst) ?_; clear hst; rintro e w1 ⟨rfl, hst, hb1⟩; replace hb := hb.trans hb1; clear hb1)
      | (go_at_call 90; with_reducible refine Calls.mono (C10.out _ hst) ?_; clear hst; rintro e w1 ⟨rfl, hst, hb1⟩; replace hb := hb.trans hb1; clear hb1)
      | (go_at_call 92; with_reducible refine Calls.mono (C11.out _ hst) ?_; clear hst; rintro e w1 ⟨rfl, hst, hb1⟩; replace hb := hb.trans hb1; clear hb1)
      | (go_at_call 90; with_reducible refine Calls.mono (C12.out _ hst) ?_; clear hst; rintro e w1 ⟨rfl, hst, hb1⟩; replace hb := hb.trans hb1; clear hb1)
      | (go_at_call 93; with_reducible refine Calls.mono (C13.out _ hst) ?_; clear hst; rintro e w1 ⟨rfl, hst, hb1⟩; replace hb := hb.trans hb1; clear hb1)
      | (go_at_call 94; with_reducible refine Calls.mono (C14.out _ hst) ?_; rintro e w1 ⟨rfl, hw⟩; replace hw := hw.symm; subst hw)
      | (go_at_call 95; with_reducible refine Calls.mono (hlen.out _) ?_; rintro e w1 ⟨rfl, hw⟩; replace hw := hw.symm; subst hw)
      | (go_at_call 96; with_reducible refine Calls.mono (hdo.out _ hM1) ?_; rintro e w1 ⟨rfl, hw⟩; replace hw := hw.symm; subst hw)
      | (go_at_call 97; refine Calls.mono (hti.out _) ?_; rintro e w1 ⟨rfl, hw⟩; replace hw := hw.symm; subst hw))
      go_ret2
      exact Ans.mk 0 false rfl hpar.out hb
    · by_cases hDl : l < D
      · have hpar := Lib.hid (HN.out (.inr (.inl hDl)))
        go_enter Tryz.func74, Tryz.ntmps74
        go_wp2_with (first
      | (go_at_call 89; with_reducible refine Calls.mono (C1.out _ hst) ?_; clear hst; rintro e w1 ⟨rfl, hst, hb1⟩; replace hb := hb.trans hb1; clear hb1)
      | (go_at_call 90; with_reducible refine Calls.mono (C2.out _ hst) ?_; clear hst; rintro e w1 ⟨rfl, hst, hb1⟩; replace hb := hb.trans hb1; clear hb1)
      | (go_at_call 91; with_reducible refine Calls.mono (C3.out _ hst hb) ?_; clear hst; rintro e w1 ⟨rfl, hst, hb1⟩; replace hb := hb.trans hb1; clear hb1)
      | (go_at_call 90; with_reducible refine Calls.mono (C4.out _ hst) ?_; clear hst; rintro e w1 ⟨rfl, hst, hb1⟩; replace hb := hb.trans hb1; clear hb1)
      | (go_at_call 92; with_reducible refine Calls.mono (C5.out _ hst) ?_; clear hst; rintro e w1 ⟨rfl, hst, hb1⟩; replace hb := hb.trans hb1; clear hb1)
      | (go_at_call 90; with_reducible refine Calls.mono (C6.out _ hst) ?_; clear hst; rintro e w1 ⟨rfl, hst, hb1⟩; replace hb := hb.trans hb1; clear hb1)
      | (go_at_call 92; with_reducible refine Calls.mono (C7.out _ hst) ?_; clear hst; rintro e w1 ⟨rfl, hst, hb1⟩; replace hb := hb.trans hb1; clear hb1)
      | (go_at_call 90; with_reducible refine Calls.mono (C8.out _ hst) ?_; clear hst; rintro e w1 ⟨rfl, hst, hb1⟩; replace hb := hb.trans hb1; clear hb1)
      | (go_at_call 92; with_reducible refine Calls.mono (C9.out _ hst) ?_; clear hst; rintro e w1 ⟨rfl, hst, hb1⟩; replace hb := hb.trans hb1; clear hb1)
      | (go_at_call 90; with_reducible refine Calls.mono (C10.out _ hst) ?_; clear hst; rintro e w1 ⟨rfl, hst, hb1⟩; replace hb := hb.trans hb1; clear hb1)
      | (go_at_call 92; with_reducible refine Calls.mono (C11.out _ hst) ?_; clear hst; rintro e w1 ⟨rfl, hst, hb1⟩; replace hb := hb.trans hb1; clear hb1)
      | (go_at_call 90; with_reducible refine Calls.mono (C12.out _ hst) ?_; clear hst; rintro e w1 ⟨rfl, hst, hb1⟩; replace hb := hb.trans hb1; clear hb1)
      | (go_at_call 93; with_reducible refine Calls.mono (C13.out _ hst) ?_; clear hst; rintro e w1 ⟨rfl, hst, hb1⟩; replace hb := hb.trans hb1; clear hb1)
      | (go_at_call 94; with_reducible refine Calls.mono (C14.out _ hst) ?_; rintro e w1 ⟨rfl, hw⟩; replace hw := hw.symm; subst hw)
      | (go_at_call 95; with_reducible refine Calls.mono (hlen.out _) ?_; rintro e w1 ⟨rfl, hw⟩; replace hw := hw.symm; subst hw)
      | (go_at_call 96; with_reducible refine Calls.mono (hdo.out _ hM1) ?_; rintro e w1 ⟨rfl, hw⟩; replace hw := hw.symm; subst hw)
      | (go_at_call 97; refine Calls.mono (hti.out _) ?_; rintro e w1 ⟨rfl, hw⟩; replace hw := hw.symm; subst hw))
        go_ret2
        exact Ans.mk 0 false rfl hpar.out hb
      · by_cases hT : 0 ≤ K * 86400 + H * 3600 + I * 60 + E - Z ∧ K * 86400 + H * 3600 + I * 60 + E - Z ≤ 253402300799
        · rw [decide_eq_true hT] at hti
          have hpar := Lib.hid (HY.out (by omega) (by omega) _ rfl hT)
          clear hT
          go_enter Tryz.func74, Tryz.ntmps74
          go_wp2_with (first
      | (go_at_call 89; with_reducible refine Calls.mono (C1.out _ hst) ?_; clear hst; rintro e w1 ⟨rfl, hst, hb1⟩; replace hb := hb.trans hb1; clear hb1)
      | (go_at_call 90; with_reducible refine Calls.mono (C2.out _ hst) ?_; clear hst; rintro e w1 ⟨rfl, hst, hb1⟩; replace hb := hb.trans hb1; clear hb1)
      | (go_at_call 91; with_reducible refine Calls.mono (C3.out _ hst hb) ?_; clear hst; rintro e w1 ⟨rfl, hst, hb1⟩; replace hb := hb.trans hb1; clear hb1)
      | (go_at_call 90; with_reducible refine Calls.mono (C4.out _ hst) ?_; clear hst; rintro e w1 ⟨rfl, hst, hb1⟩; replace hb := hb.trans hb1; clear hb1)
      | (go_at_call 92; with_reducible refine Calls.mono (C5.out _ hst) ?_; clear hst; rintro e w1 ⟨rfl, hst, hb1⟩; replace hb := hb.trans hb1; clear hb1)
      | (go_at_call 90; with_reducible refine Calls.mono (C6.out _ hst) ?_; clear hst; rintro e w1 ⟨rfl, hst, hb1⟩; replace hb := hb.trans hb1; clear hb1)
      | (go_at_call 92; with_reducible refine Calls.mono (C7.out _ hst) ?_; clear hst; rintro e w1 ⟨rfl, hst, hb1⟩; replace hb := hb.trans hb1; clear hb1)
      | (go_at_call 90; with_reducible refine Calls.mono (C8.out _ hst) ?_; clear hst; rintro e w1 ⟨rfl, hst, hb1⟩; replace hb := hb.trans hb1; clear hb1)
      | (go_at_call 92; with_reducible refine Calls.mono (C9.out _ hst) ?_; clear hst; rintro e w1 ⟨rfl, hst, hb1⟩; replace hb := hb.trans hb1; clear hb1)
      | (go_at_call 90; with_reducible refine Calls.mono (C10.out _ hst) ?_; clear hst; rintro e w1 ⟨rfl, hst, hb1⟩; replace hb := hb.trans hb1; clear hb1)
      | (go_at_call 92; with_reducible refine Calls.mono (C11.out _ hst) ?_; clear hst; rintro e w1 ⟨rfl, hst, hb1⟩; replace hb := hb.trans hb1; clear hb1)
      | (go_at_call 90; with_reducible refine Calls.mono (C12.out _ hst) ?_; clear hst; rintro e w1 ⟨rfl, hst, hb1⟩; replace hb := hb.trans hb1; clear hb1)
      | (go_at_call 93; with_reducible refine Calls.mono (C13.out _ hst) ?_; clear hst; rintro e w1 ⟨rfl, hst, hb1⟩; replace hb := hb.trans hb1; clear hb1)
      | (go_at_call 94; with_reducible refine Calls.mono (C14.out _ hst) ?_; rintro e w1 ⟨rfl, hw⟩; replace hw := hw.symm; subst hw)
      | (go_at_call 95; with_reducible refine Calls.mono (hlen.out _) ?_; rintro e w1 ⟨rfl, hw⟩; replace hw := hw.symm; subst hw)
      | (go_at_call 96; with_reducible refine Calls.mono (hdo.out _ hM1) ?_; rintro e w1 ⟨rfl, hw⟩; replace hw := hw.symm; subst hw)
      | (go_at_call 97; refine Calls.mono (hti.out _) ?_; rintro e w1 ⟨rfl, hw⟩; replace hw := hw.symm; subst hw))
          go_ret2
          exact Ans.mk _ true rfl hpar.out hb
        · have hpar := Lib.hid (HN.out (.inr (.inr hT)))
          rw [decide_eq_false hT] at hti
          clear hT
          go_enter Tryz.func74, Tryz.ntmps74
          go_wp2_with (first
      | (go_at_call 89; with_reducible refine Calls.mono (C1.out _ hst) ?_; clear hst; rintro e w1 ⟨rfl, hst, hb1⟩; replace hb := hb.trans hb1; clear hb1)
      | (go_at_call 90; with_reducible refine Calls.mono (C2.out _ hst) ?_; clear hst; rintro e w1 ⟨rfl, hst, hb1⟩; replace hb := hb.trans hb1; clear hb1)
      | (go_at_call 91; with_reducible refine Calls.mono (C3.out _ hst hb) ?_; clear hst; rintro e w1 ⟨rfl, hst, hb1⟩; replace hb := hb.trans hb1; clear hb1)
      | (go_at_call 90; with_reducible refine Calls.mono (C4.out _ hst) ?_; clear hst; rintro e w1 ⟨rfl, hst, hb1⟩; replace hb := hb.trans hb1; clear hb1)
      | (go_at_call 92; with_reducible refine Calls.mono (C5.out _ hst) ?_; clear hst; rintro e w1 ⟨rfl, hst, hb1⟩; replace hb := hb.trans hb1; clear hb1)
      | (go_at_call 90; with_reducible refine Calls.mono (C6.out _ hst) ?_; clear hst; rintro e w1 ⟨rfl, hst, hb1⟩; replace hb := hb.trans hb1; clear hb1)
      | (go_at_call 92; with_reducible refine Calls.mono (C7.out _ hst) ?_; clear hst; rintro e w1 ⟨rfl, hst, hb1⟩; replace hb := hb.trans hb1; clear hb1)
      | (go_at_call 90; with_reducible refine Calls.mono (C8.out _ hst) ?_; clear hst; rintro e w1 ⟨rfl, hst, hb1⟩; replace hb := hb.trans hb1; clear hb1)
      | (go_at_call 92; with_reducible refine Calls.mono (C9.out _ hst) ?_; clear hst; rintro e w1 ⟨rfl, hst, hb1⟩; replace hb := hb.trans hb1; clear hb1)
      | (go_at_call 90; with_reducible refine Calls.mono (C10.out _ hst) ?_; clear hst; rintro e w1 ⟨rfl, hst, hb1⟩; replace hb := hb.trans hb1; clear hb1)
      | (go_at_call 92; with_reducible refine Calls.mono (C11.out _ hst) ?_; clear hst; rintro e w1 ⟨rfl, hst, hb1⟩; replace hb := hb.trans hb1; clear hb1)
      | (go_at_call 90; with_reducible refine Calls.mono (C12.out _ hst) ?_; clear hst; rintro e w1 ⟨rfl, hst, hb1⟩; replace hb := hb.trans hb1; clear hb1)
      | (go_at_call 93; with_reducible refine Calls.mono (C13.out _ hst) ?_; clear hst; rintro e w1 ⟨rfl, hst, hb1⟩; replace hb := hb.trans hb1; clear hb1)
      | (go_at_call 94; with_reducible refine Calls.mono (C14.out _ hst) ?_; rintro e w1 ⟨rfl, hw⟩; replace hw := hw.symm; subst hw)
      | (go_at_call 95; with_reducible refine Calls.mono (hlen.out _) ?_; rintro e w1 ⟨rfl, hw⟩; replace hw := hw.symm; subst hw)
      | (go_at_call 96; with_reducible refine Calls.mono (hdo.out _ hM1) ?_; rintro e w1 ⟨rfl, hw⟩; replace hw := hw.symm; subst hw)
      | (go_at_call 97; refine Calls.mono (hti.out _) ?_; rintro e w1 ⟨rfl, hw⟩; replace hw := hw.symm; subst hw))
          go_ret2
          exact Ans.mk 0 false rfl hpar.out hb
  · rw [decide_eq_false hdn] at C14
    have hpar : Par s 0 false := par_none fun d m y h i e zh zm f h1 h2 _ _ => HNO.out hdn d m y h i e zh zm f h2
    have HPAR := Lib.hid hpar
    clear hdn hpar
    go_enter Tryz.func74, Tryz.ntmps74
    go_wp2_with (first
      | (go_at_call 89; with_reducible refine Calls.mono (C1.out _ hst) ?_; clear hst; rintro e w1 ⟨rfl, hst, hb1⟩; replace hb := hb.trans hb1; clear hb1)
      | (go_at_call 90; with_reducible refine Calls.mono (C2.out _ hst) ?_; clear hst; rintro e w1 ⟨rfl, hst, hb1⟩; replace hb := hb.trans hb1; clear hb1)
      | (go_at_call 91; with_reducible refine Calls.mono (C3.out _ hst hb) ?_; clear hst; rintro e w1 ⟨rfl, hst, hb1⟩; replace hb := hb.trans hb1; clear hb1)
      | (go_at_call 90; with_reducible refine Calls.mono (C4.out _ hst) ?_; clear hst; rintro e w1 ⟨rfl, hst, hb1⟩; replace hb := hb.trans hb1; clear hb1)
      | (go_at_call 92; with_reducible refine Calls.mono (C5.out _ hst) ?_; clear hst; rintro e w1 ⟨rfl, hst, hb1⟩; replace hb := hb.trans hb1; clear hb1)
      | (go_at_call 90; with_reducible refine Calls.mono (C6.out _ hst) ?_; clear hst; rintro e w1 ⟨rfl, hst, hb1⟩; replace hb := hb.trans hb1; clear hb1)
      | (go_at_call 92; with_reducible refine Calls.mono (C7.out _ hst) ?_; clear hst; rintro e w1 ⟨rfl, hst, hb1⟩; replace hb := hb.trans hb1; clear hb1)
      | (go_at_call 90; with_reducible refine Calls.mono (C8.out _ hst) ?_; clear hst; rintro e w1 ⟨rfl, hst, hb1⟩; replace hb := hb.trans hb1; clear hb1)
      | (go_at_call 92; with_reducible refine Calls.mono (C9.out _ hst) ?_; clear hst; rintro e w1 ⟨rfl, hst, hb1⟩; replace hb := hb.trans hb1; clear hb1)
      | (go_at_call 90; with_reducible refine Calls.mono (C10.out _ hst) ?_; clear hst; rintro e w1 ⟨rfl, hst, hb1⟩; replace hb := hb.trans hb1; clear hb1)
      | (go_at_call 92; with_reducible refine Calls.mono (C11.out _ hst) ?_; clear hst; rintro e w1 ⟨rfl, hst, hb1⟩; replace hb := hb.trans hb1; clear hb1)
      | (go_at_call 90; with_reducible refine Calls.mono (C12.out _ hst) ?_; clear hst; rintro e w1 ⟨rfl, hst, hb1⟩; replace hb := hb.trans hb1; clear hb1)
      | (go_at_call 93; with_reducible refine Calls.mono (C13.out _ hst) ?_; clear hst; rintro e w1 ⟨rfl, hst, hb1⟩; replace hb := hb.trans hb1; clear hb1)
      | (go_at_call 94; with_reducible refine Calls.mono (C14.out _ hst) ?_; rintro e w1 ⟨rfl, hw⟩; replace hw := hw.symm; subst hw)
      | (go_at_call 95; with_reducible refine Calls.mono (hlen.out _) ?_; rintro e w1 ⟨rfl, hw⟩; replace hw := hw.symm; subst hw)
      | (go_at_call 96; with_reducible refine Calls.mono (hdo.out _ hM1) ?_; rintro e w1 ⟨rfl, hw⟩; replace hw := hw.symm; subst hw)
      | (go_at_call 97; refine Calls.mono (hti.out _) ?_; rintro e w1 ⟨rfl, hw⟩; replace hw := hw.symm; subst hw))
    go_ret2
    exact Ans.mk 0 false rfl HPAR.out hb
end Go.Proofs.YtbhpgghbpibalaaGreatDoor.dat
