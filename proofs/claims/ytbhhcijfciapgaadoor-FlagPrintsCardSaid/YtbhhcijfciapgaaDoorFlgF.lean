/- The flag of a name, the flags of names, as the program reads them. -/
import Derived.Test.YtbhhcijfciapgaaDoorAlkE
import Derived.Test.YtbhhcijfciapgaaDoorFlgP
namespace Go.Proofs.YtbhhcijfciapgaaDoor.flg
open Go.ChangeShapes Go.WideShapes Go.ChangeAt Go.RowKit Go.Proofs.YtbhhcijfciapgaaDoor.alk
set_option linter.unusedVariables false
set_option linter.unusedSimpArgs false

/-- The letters of the names. -/
def letters : List Nat := [92, 83, 101, 110, 65, 115, 119, 114, 100, 70, 108, 97, 103, 68, 116, 102]
def swap (c : Nat) : Nat := if 97 ≤ c then c - 32 else c + 32
theorem letters_plain : ∀ c ∈ letters, c = 83 ∨ c = 115 ∨ (c < 128 ∧ asciiL.getD c 0 = (c : Int)) ∨ (c < 128 ∧ swap c < 128 ∧ swap c ≠ c ∧ asciiL.getD c 0 = (swap c : Int) ∧ asciiL.getD (swap c) 0 = (c : Int)) := by decide +kernel
theorem name_letters : ∀ k, k < 5 → ∀ j, j < (nm k).length → byt (nmS k) j ∈ letters := by decide +kernel
theorem name_low (k : Nat) (hk : k < 5) (j : Nat) (hj : j < (nm k).length) : byt (nmS k) j < 128 ∧ (Plain (byt (nmS k) j) ∨ byt (nmS k) j = 83 ∨ byt (nmS k) j = 115 ∨ Fixed (byt (nmS k) j)) := by
  rcases letters_plain _ (name_letters k hk j hj) with h | h | h | ⟨a, b, c, d, e⟩
  · rw [h]; exact ⟨by omega, .inr (.inl rfl)⟩
  · rw [h]; exact ⟨by omega, .inr (.inr (.inl rfl))⟩
  · exact ⟨h.1, .inr (.inr (.inr h))⟩
  · exact ⟨a, .inl ⟨_, a, b, c, d, e⟩⟩
/-- Of a text as long as a name the library's comparison answers whether they are the same letters. -/
theorem fold_name (w : World) (s : ByteArray) (k : Nat) (hk : k < 5) (hs : s.size = (nmS k).size) (hF : Fold w) :
    Calls Tryd.prog 17 #[.string s, .string (nmS k)] w fun e w' => e = .returned (.bool (alike s (nmS k))) ∧ Below w.heap.size w w' := by
  have hl := name_low k hk
  have hnl := nm_len k hk
  have hnz : (nmS k).size = (nm k).length := nmS_size k
  by_cases hhi : ∃ j, j < (nm k).length ∧ 128 ≤ byt s j
  · have hne : alike s (nmS k) = false := by
      obtain ⟨j, hj, hb⟩ := hhi
      refine alike_false s _ j (by omega) ?_
      have := low_high _ _ hb (hl j hj).1
      simp only [beq_eq_false_iff_ne]
      exact fun h => this h.symm
    rw [hne]
    exact fold_high w s _ (nm k).length (by omega) (hs.trans hnz) hnz hF hhi hl
  · have hasc : ∀ (l : ByteArray), l.size = (nm k).length → (∀ j, j < (nm k).length → byt l j < 128) → ∀ (j : Nat) b, l.data.toList[j]? = some b → b.toNat < 128 := by
      intro l hlz hb j b hj
      have hj3 : j < (nm k).length := by
        have := (List.getElem?_eq_some_iff.1 hj).1
        rw [← Lib.size_eq] at this
        omega
      have := hb j hj3
      obtain ⟨h', e⟩ := List.getElem?_eq_some_iff.1 hj
      rw [← byt_list l j h', e] at this
      exact this
    refine (Tryd.strings_EqualFold s (nmS k) w (by omega) (hasc s (hs.trans hnz) fun j hj => ?_) (hasc _ hnz fun j hj => (hl j hj).1)).mono ?_
    · rcases Nat.lt_or_ge (byt s j) 128 with h | h
      · exact h
      · exact absurd ⟨j, hj, h⟩ hhi
    · rintro e w' ⟨rfl, rfl⟩
      rw [alike_fold s _ hs]
      exact ⟨rfl, Below.refl _ _⟩

/-- The tables that are read. -/
structure Tab (w : World) : Prop where
  fold : Fold w
  names : Names w
theorem Tab.below {w w' : World} (h : Tab w) (hb : Below w.heap.size w w') : Tab w' := ⟨h.fold.below hb, h.names.below hb⟩

theorem pow_wrap (k : Nat) (hk : k < 5) : wrap64 ((2 : Int) ^ k) = ((2 ^ k : Nat) : Int) := by
  rcases five_cases hk with rfl | rfl | rfl | rfl | rfl <;> kernel_rfl
set_option maxHeartbeats 3200000 in
theorem bitOf_any (w : World) (s : ByteArray) (hT : Tab w) :
    Calls Tryd.prog 14 #[.string s] w fun e w' => e = .returned (.int .i64 (bitN s : Nat)) ∧ Below w.heap.size w w' := by
  obtain ⟨t, fr, hN⟩ := hT.names
  have HC := Lib.hid hN
  have HF := Lib.hid hT.fold
  have HI := Lib.hid (fun k hk w => index_five k hk w)
  clear hN hT
  go_enter Tryd.func14, Tryd.ntmps14
  go_wp2_with (refine wpList_load_row rfl 32 (.global 0) rfl 0 rfl t names5 fr _ HC.out Tryd.underlying32 rfl rfl ?_)
  go_loopw [6] (fun i wr => ∃ k : Nat, k ≤ 5 ∧ i = .int .i64 k ∧ Hid (∀ j, j < k → alike s (nmS j) = false) ∧ Hid (Below w.heap.size w wr)) (fun i _ => 5 - (intOf i).toNat)
  case atStart => exact ⟨0, Nat.zero_le _, rfl, fun j h => absurd h (Nat.not_lt_zero _), Below.refl _ _⟩
  case round =>
    obtain ⟨k, hk, rfl, hh, hb⟩ := hrel
    by_cases hk5 : k < 5
    · have hI := HI.out k hk5
      have HE := Lib.hid (fun (w : World) (hs : s.size = (nmS k).size) (hF : Fold w) => fold_name w s k hk5 hs hF)
      have HFr := Lib.hid (HF.out.below hb.out)
      have HIT := Lib.hid (bitN_hit s k hk5 hh.out)
      have HNX := Lib.hid (show alike s (nmS k) = false → ∀ j, j < k + 1 → alike s (nmS j) = false by
        intro h j hj
        rcases Nat.lt_succ_iff_lt_or_eq.1 hj with h' | rfl
        · exact hh.out j h'
        · exact h)
      have HSZ := Lib.hid (alike_size s (nmS k))
      obtain ⟨q, hq⟩ : ∃ q, nmS k = q := ⟨_, rfl⟩
      rw [hq] at hI HE HIT HNX HSZ
      clear hq
      by_cases hs : s.size = q.size
      · have hsb : ((s.size : Int) == (q.size : Int)) = true := by rw [beq_iff_eq]; omega
        have HS := Lib.hid hs
        clear hs
        cases ha : alike s q
        · rw [ha] at HE HNX
          have HN := Lib.hid (HNX.out rfl)
          clear ha HNX HIT HSZ
          unfold names5
          go_wp2_with (go_at_call 17; refine (HE.out _ HS.out HFr.out).mono ?_; rintro e w2 ⟨rfl, hb2⟩)
          exact ⟨⟨k + 1, hk5, by simp, HN.out, hb.out.trans (hb2.mono hb.out.size)⟩, by simp [intOf]; omega⟩
        · rw [ha] at HE HIT
          have HR := Lib.hid (HIT.out rfl)
          clear ha HNX HIT HSZ
          unfold names5
          go_wp2_with (go_at_call 17; refine (HE.out _ HS.out HFr.out).mono ?_; rintro e w2 ⟨rfl, hb2⟩)
          go_ret
          rw [HR.out]
          exact ⟨congrArg (fun z => Ending.returned (Value.int .i64 z)) (pow_wrap k hk5), hb.out.trans (hb2.mono hb.out.size)⟩
      · have hsb : ((s.size : Int) == (q.size : Int)) = false := by rw [beq_eq_false_iff_ne]; omega
        have HN := Lib.hid (HNX.out (HSZ.out hs))
        clear hs HNX HIT HSZ HE
        unfold names5
        go_wp2
        exact ⟨⟨k + 1, hk5, by simp, HN.out, hb.out⟩, by simp [intOf]; omega⟩
    · obtain rfl : k = 5 := by omega
      have HR := Lib.hid (bitN_none s hh.out)
      go_wp2
      go_ret
      rw [HR.out]
      exact ⟨rfl, hb.out⟩
end Go.Proofs.YtbhhcijfciapgaaDoor.flg
