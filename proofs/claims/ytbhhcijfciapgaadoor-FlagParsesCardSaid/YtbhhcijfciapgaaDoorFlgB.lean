/- The names of flags, as the document tells them. -/
import Derived.Test.YtbhhcijfciapgaaDoorFlgA
namespace Go.Proofs.YtbhhcijfciapgaaDoor.flg
open Go.ChangeShapes Go.WideShapes Go.ChangeAt Go.RowKit Go.Proofs.YtbhhcijfciapgaaDoor.alk
set_option linter.unusedVariables false
set_option linter.unusedSimpArgs false

def accS (m k : Nat) : ByteArray := ⟨(accL m k).toArray⟩
theorem accS_size (m k : Nat) (h : k ≤ 5) : (accS m k).size ≤ 50 := by
  have := acc_len m k h
  have e : (accS m k).size = (accL m k).length := rfl
  omega
theorem text_cat (a b : List UInt8) : (⟨a.toArray⟩ : ByteArray) ++ ⟨b.toArray⟩ = ⟨(a ++ b).toArray⟩ := by
  apply ByteArray.ext
  simp
theorem accS_off (m k : Nat) (h : m.testBit k = false) : accS m (k + 1) = accS m k := by
  unfold accS
  rw [show accL m (k + 1) = (if m.testBit k then (if accL m k = [] then [] else accL m k ++ [32]) ++ nm k else accL m k) from rfl, h]; rfl
theorem accS_first (m k : Nat) (h : m.testBit k = true) (he : accL m k = []) : accS m (k + 1) = accS m k ++ nmS k ∧ accS m k = ⟨#[]⟩ := by
  have e0 : accS m k = ⟨#[]⟩ := by unfold accS; rw [he]
  refine ⟨?_, e0⟩
  unfold accS
  rw [show accL m (k + 1) = (if m.testBit k then (if accL m k = [] then [] else accL m k ++ [32]) ++ nm k else accL m k) from rfl, h, if_pos rfl, if_pos he, he]
  exact (text_cat [] (nm k)).symm
theorem accS_more (m k : Nat) (h : m.testBit k = true) (he : accL m k ≠ []) : accS m (k + 1) = accS m k ++ ⟨#[32]⟩ ++ nmS k := by
  unfold accS
  rw [show accL m (k + 1) = (if m.testBit k then (if accL m k = [] then [] else accL m k ++ [32]) ++ nm k else accL m k) from rfl, h, if_pos rfl, if_neg he]
  show _ = (⟨(accL m k).toArray⟩ ++ ⟨[32].toArray⟩ : ByteArray) ++ ⟨(nm k).toArray⟩
  rw [text_cat, text_cat]
theorem print_acc (m : Nat) (h : m < 32) : (⟨(printL m).toArray⟩ : ByteArray) = ⟨#[40]⟩ ++ accS m 5 ++ ⟨#[41]⟩ := by
  unfold printL accS
  rw [acc_all m h]
  show _ = (⟨[40].toArray⟩ ++ ⟨(lists m).toArray⟩ : ByteArray) ++ ⟨[41].toArray⟩
  rw [text_cat, text_cat]
  rfl

set_option maxHeartbeats 1600000 in
theorem flags_any (w : World) (x : Int) :
    Calls Tryd.prog 10 #[.int .i64 x] w fun e w' => e = .returned (.string ⟨(printL (five x)).toArray⟩) ∧ w' = w := by
  obtain ⟨m, hm⟩ : ∃ m, five x = m := ⟨_, rfl⟩
  have hm32 : m < 32 := hm ▸ five_lt x
  have HFL := Lib.hid (fun (k : Nat) (hk : k < 5) w => flag_any w k hk)
  have HX := Lib.hid (fun (k : Nat) (hk : k < 5) (b : Bool) (h : m.testBit k = b) => bit_and x k (b := b) (by rw [bitB_five x k hk, hm]; exact h))
  have HP := Lib.hid (print_acc m hm32)
  rw [hm]
  clear hm hm32
  go_enter Tryd.func10, Tryd.ntmps10
  go_wp2
  go_loop [3, 5] (fun s i => ∃ k : Nat, k ≤ 5 ∧ i = .int .i64 k ∧ s = .string (accS m k)) (fun _ i => 5 - (intOf i).toNat)
  case atStart => exact ⟨0, Nat.zero_le _, rfl, rfl⟩
  case round =>
    obtain ⟨k, hk, rfl, rfl⟩ := hrel
    have hs := accS_size m k hk
    by_cases hk5 : k < 5
    · have HF := Lib.hid (HFL.out k hk5)
      have hnz := nm_len k hk5
      rw [← nmS_size] at hnz
      have hX0 := HX.out k hk5
      obtain ⟨q, hq⟩ : ∃ q, nmS k = q := ⟨_, rfl⟩
      cases hb : m.testBit k
      · have hX := hX0 _ hb
        have HS := Lib.hid (accS_off m k hb)
        obtain ⟨s, hss⟩ : ∃ s, accS m k = s := ⟨_, rfl⟩
        rw [hss] at HS hs ⊢
        simp only [Bool.false_eq_true, if_false] at hX
        clear hX0 hb hq hnz hss
        go_wp2
        exact ⟨⟨k + 1, hk5, by simp, by rw [HS.out]⟩, by simp [intOf]; omega⟩
      · have hX := hX0 _ hb
        simp only [if_true] at hX
        by_cases he : accL m k = []
        · have h2 := accS_first m k hb he
          have HS := Lib.hid h2.1
          rw [h2.2] at HS ⊢
          rw [hq] at HF HS hnz
          clear hX0 hb hq he h2
          go_wp2_with (go_at_call 7; refine (HF.out _).mono ?_; rintro e w' ⟨rfl, hw⟩; replace hw := hw.symm; subst hw)
          exact ⟨⟨k + 1, hk5, by simp, by rw [HS.out]⟩, by simp [intOf]; omega⟩
        · have HS := Lib.hid (accS_more m k hb he)
          have hne : (!(accS m k).toList.isEmpty) = true := by
            rw [ByteArray.toList_eq]
            show (!(accL m k).isEmpty) = true
            cases h : accL m k
            · exact absurd h he
            · rfl
          obtain ⟨s, hss⟩ : ∃ s, accS m k = s := ⟨_, rfl⟩
          rw [hss] at HS hne hs ⊢
          rw [hq] at HF HS hnz
          clear hX0 hb hq he hss
          go_wp2_with (go_at_call 7; refine (HF.out _).mono ?_; rintro e w' ⟨rfl, hw⟩; replace hw := hw.symm; subst hw)
          exact ⟨⟨k + 1, hk5, by simp, by rw [HS.out]⟩, by simp [intOf]; omega⟩
    · obtain rfl : k = 5 := by omega
      obtain ⟨s, hss⟩ : ∃ s, accS m 5 = s := ⟨_, rfl⟩
      rw [hss] at HP hs ⊢
      clear hss
      go_wp2
      go_ret
      rw [HP.out]
      exact ⟨rfl, rfl⟩
end Go.Proofs.YtbhhcijfciapgaaDoor.flg
