/- What the document's own answers for names are: Up, Norm. -/
import Derived.Test.YtklmbiekpilkhaaDoorNamA
namespace Go.Proofs.YtklmbiekpilkhaaDoor.nam
open Go.ChangeShapes Go.WideShapes Go.ChangeAt Go.RowKit
set_option linter.unusedVariables false
set_option linter.unusedSimpArgs false

theorem normS_bad (s : ByteArray) (h : normOk s = false) : normS s = ⟨#[]⟩ := by
  unfold normS
  rw [h]; rfl
theorem ok_bad (s : ByteArray) (h : goodL s.data.toList = false) : normOk s = false := by
  unfold normOk
  rw [h, Bool.and_false]

set_option maxHeartbeats 1600000 in
theorem rNorm_any (w : World) (s : ByteArray) (hs : s.size ≤ 100000) :
    Calls Tryd.prog 10 #[.string s] w fun e w' => e = .returned (.tuple #[.string (normS s), .bool (normOk s)]) ∧ Drew w w' := by
  go_enter Tryd.func10, Tryd.ntmps10
  go_wp2
  go_loop [9, 4] (fun vi vl => ∃ (k l : Nat), k ≤ s.size ∧ l < 256 ∧ vi = .int .i64 k ∧ vl = .int .u8 l ∧ Hid (runL true (s.data.toList.take k) = some (decide (l = 47)))) (fun vi _ => s.size - (intOf vi).toNat)
  case atStart => exact ⟨0, 47, Nat.zero_le _, by decide, rfl, rfl, show runL true (s.data.toList.take 0) = some (decide (47 = 47)) by simp [runL]⟩
  case round =>
    obtain ⟨k, l, hk, hl, rfl, rfl, hh⟩ := hrel
    by_cases hkl : k < s.size
    · obtain ⟨c, hc⟩ : ∃ c, byt s k = c := ⟨_, rfl⟩
      have hc256 : c < 256 := hc ▸ byt_lt s k
      have e1 : (s[k]).toNat = c := by rw [byt_at]; exact hc
      have HC := Lib.hid hc
      clear hc
      by_cases h47 : c = 47
      · subst h47
        by_cases hl47 : l = 47
        · subst hl47
          have hb := ok_bad s (run_stroke_stroke s k hkl (hh.out.trans (by simp)) HC.out)
          have hb2 := normS_bad s hb
          go_wp2
          go_ret2
          first | exact ⟨rfl, Drew.refl _⟩ | (rw [hb, hb2]; exact ⟨rfl, Drew.refl _⟩)
        · have hr := run_stroke s k hkl (hh.out.trans (by simp [hl47])) HC.out
          have HR := Lib.hid hr
          clear hr
          have hl47' : ((l : Int) == 47) = false := by simp; omega
          go_wp2
          exact ⟨⟨k + 1, 47, hkl, by decide, by simp, rfl, HR.out⟩, by simp [intOf]; omega⟩
      · obtain ⟨lc, hlc⟩ : ∃ lc, low c = lc := ⟨_, rfl⟩
        have hsm := fun w => small_any w c hc256
        rw [hlc] at hsm
        cases hn : nameB c
        · have hb := ok_bad s (run_bad s k hkl _ hh.out (by rw [HC.out]; exact h47) (by rw [HC.out]; exact hn))
          have hb2 := normS_bad s hb
          have h1 : c ≠ 46 ∧ c ≠ 95 ∧ c ≠ 45 ∧ ¬ (97 ≤ lc ∧ lc ≤ 122) ∧ ¬ (48 ≤ c ∧ c ≤ 57) := by
            unfold nameB at hn
            unfold low at hlc
            simp only [decide_eq_false_iff_not] at hn
            split at hlc <;> omega
          have g1 : ((c : Int) == 46) = false := by simp; omega
          have g2 : ((c : Int) == 95) = false := by simp; omega
          have g3 : ((c : Int) == 45) = false := by simp; omega
          have g4 : ((c : Int) == 47) = false := by simp; omega
          clear hn hlc
          go_wp2_with (go_at_call 22; refine (hsm _).mono ?_; rintro e w' ⟨rfl, rfl⟩)
          all_goals first
            | (exfalso; simp at *; omega)
            | (go_ret2; first | exact ⟨rfl, Drew.refl _⟩ | (rw [hb, hb2]; exact ⟨rfl, Drew.refl _⟩))
        · have hr := run_good s k hkl _ hh.out (by rw [HC.out]; exact h47) (by rw [HC.out]; exact hn)
          have hr' : runL true (s.data.toList.take (k + 1)) = some (decide (c = 47)) := by rw [hr]; simp [h47]
          have HR := Lib.hid hr'
          clear hr hr'
          have h1 : c = 46 ∨ c = 95 ∨ c = 45 ∨ (97 ≤ lc ∧ lc ≤ 122) ∨ (48 ≤ c ∧ c ≤ 57) := by
            unfold nameB at hn
            unfold low at hlc
            simp only [decide_eq_true_eq] at hn
            split at hlc <;> omega
          have H1 := Lib.hid h1
          clear hn hlc h1
          have g4 : ((c : Int) == 47) = false := by simp; omega
          go_wp2_with (go_at_call 22; refine (hsm _).mono ?_; rintro e w' ⟨rfl, rfl⟩)
          all_goals first
            | exact ⟨⟨k + 1, c, hkl, hc256, by simp, by first | rfl | (congr 1; omega), HR.out⟩, by simp [intOf]; omega⟩
            | (exfalso; have h1 := H1.out; simp at *; omega)
    · have hend := run_end s _ (by rw [show s.size = k by omega]; exact hh.out)
      have hin : (⟨#[105, 110, 98, 111, 120]⟩ : ByteArray) = inbox := rfl
      have hk60 : normOk s = (decide (s.size ≤ 60) && !decide (l = 47)) := by unfold normOk; rw [hend]
      by_cases hl47 : l = 47
      · subst hl47
        have hb : normOk s = false := by rw [hk60]; simp
        have hb2 := normS_bad s hb
        clear hk60
        go_wp2
        go_ret2
        first | exact ⟨rfl, Drew.refl _⟩ | (rw [hb, hb2]; exact ⟨rfl, Drew.refl _⟩)
      · have hl47' : ((l : Int) == 47) = false := by simp; omega
        by_cases h60 : s.size ≤ 60
        · have hb : normOk s = true := by rw [hk60]; simp [h60, hl47]
          have hb2 : normS s = if alike s inbox then INBOX else s := by unfold normS; rw [hb]; rfl
          clear hk60
          cases ha : alike s inbox
          · have hb3 : normS s = s := by rw [hb2, ha]; rfl
            clear hb2
            have HA := Lib.hid ha
            clear ha
            go_wp2_with (go_at_call 23; refine (alike_any _ s inbox hs (by decide)).mono ?_; rintro e w' ⟨rfl, hd⟩; rw [HA.out])
            go_ret2
            first | exact ⟨rfl, hd⟩ | (rw [hb, hb3]; exact ⟨rfl, hd⟩)
          · have hb3 : normS s = INBOX := by rw [hb2, ha]; rfl
            clear hb2
            have HA := Lib.hid ha
            clear ha
            go_wp2_with (go_at_call 23; refine (alike_any _ s inbox hs (by decide)).mono ?_; rintro e w' ⟨rfl, hd⟩; rw [HA.out])
            go_ret2
            first | exact ⟨rfl, hd⟩ | (rw [hb, hb3]; exact ⟨rfl, hd⟩)
        · have hb : normOk s = false := by rw [hk60]; simp [h60]
          have hb2 := normS_bad s hb
          clear hk60
          go_wp2
          go_ret2
          first | exact ⟨rfl, Drew.refl _⟩ | (rw [hb, hb2]; exact ⟨rfl, Drew.refl _⟩)
end Go.Proofs.YtklmbiekpilkhaaDoor.nam
