/- Numbers of sets, as the document reads them. -/
import Derived.Test.YtmooeadeihgbdaaSqD
namespace Go.Proofs.Ytmooeadeihgbdaa.sq
open Go.ChangeShapes Go.WideShapes Go.ChangeAt Go.RowKit
open Go.Proofs.Ytmooeadeihgbdaa.row
set_option linter.unusedVariables false
set_option maxRecDepth 100000
set_option linter.unusedSimpArgs false

def numI : Option Nat → Int
  | some v => v
  | none => -1
set_option maxHeartbeats 1000000 in
theorem number_any (w : World) (s : ByteArray) (hs : s.size ≤ 10) :
    Calls Try.prog 24 #[.string s] w fun e w' => e = .returned (.int .i64 (numI (digs s.data.toList))) ∧ w' = w := by
  go_enter Try.func24, Try.ntmps24
  go_wp2
  go_loop [3, 7] (fun x i => ∃ k v : Nat, k ≤ s.size ∧ i = .int .i64 k ∧ x = .int .i64 v ∧ Hid (digs (s.data.toList.take k) = some v)) (fun _ i => s.size - (intOf i).toNat)
  case atStart => exact ⟨0, 0, Nat.zero_le _, rfl, rfl, Lib.hid rfl⟩
  case round =>
    obtain ⟨k, v, hk, rfl, rfl, HD⟩ := hrel
    by_cases hkl : k < s.size
    · obtain ⟨c, hc, hcb⟩ := byt_some s k hkl
      have e1 : (s[k]).toNat = c.toNat := by rw [byt_at, hcb]
      by_cases hd : digB c.toNat = true
      · have hd2 : 48 ≤ c.toNat ∧ c.toNat ≤ 57 := of_decide_eq_true hd
        have HX := Lib.hid (show digs (s.data.toList.take (k + 1)) = some (10 * v + (c.toNat - 48)) by rw [digs_next hc, HD.out, step, Option.bind_some, if_pos hd])
        obtain ⟨m, hm⟩ : ∃ m, m = c.toNat := ⟨_, rfl⟩
        rw [← hm] at e1 HX hd2
        have hv : v < 1000000000 := by
          have h1 := digs_lt HD.out
          rw [List.length_take] at h1
          have h2 : 10 ^ (min k s.data.toList.length) ≤ 10 ^ 9 := Nat.pow_le_pow_right (by decide) (by omega)
          have h3 : (10 : Nat) ^ 9 = 1000000000 := by decide
          omega
        have q1 : decide ((m : Int) < 48) = false := decide_eq_false (by omega)
        have q2 : decide ((57 : Int) < m) = false := decide_eq_false (by omega)
        clear hc hcb hd
        obtain ⟨d, hd⟩ : ∃ d, d = m - 48 := ⟨_, rfl⟩
        obtain ⟨y, hy⟩ : ∃ y, y = 10 * v := ⟨_, rfl⟩
        obtain ⟨x, hx⟩ : ∃ x, x = y + d := ⟨_, rfl⟩
        have q3 : IntKind.u8.wrap ((m : Int) - 48) = (d : Int) := (IntWalk.u8_in _ (by omega)).trans (by omega)
        have q4 : IntKind.i64.wrap (d : Int) = (d : Int) := IntWalk.i64_in _ (by omega)
        have q5 : IntKind.i64.wrap ((v : Int) * 10) = (y : Int) := (IntWalk.i64_in _ (by omega)).trans (by omega)
        have q6 : IntKind.i64.wrap ((y : Int) + (d : Int)) = (x : Int) := (IntWalk.i64_in _ (by omega)).trans (by omega)
        have HX2 := Lib.hid (show digs (s.data.toList.take (k + 1)) = some x by rw [HX.out, hx, hy, hd])
        clear hd2 hm HX hd hy hx hv
        go_wp2
        all_goals clear q1 q2 q3 q4 q5 q6
        go_round
        case rel => first | exact ⟨k + 1, x, by omega, by go_num, rfl, HX2⟩ | ((repeat apply Exists.intro); exact ⟨⟨k + 1, x, by omega, by go_num, rfl, HX2⟩, rfl⟩)
        case measure => (show s.size - ((k : Int) + 1).toNat < s.size - k; omega)
      · have HN := Lib.hid (digs_bad hc (by simpa using hd))
        have hd2 : ¬ (48 ≤ c.toNat ∧ c.toNat ≤ 57) := fun h => hd (decide_eq_true h)
        obtain ⟨m, hm⟩ : ∃ m, m = c.toNat := ⟨_, rfl⟩
        rw [← hm] at e1 hd2
        clear hc hcb hd hm
        go_wp2
        all_goals first
          | (exfalso; omega)
          | (go_ret; rw [HN.out]; exact ⟨rfl, rfl⟩)
    · obtain rfl : k = s.size := by omega
      have HE := Lib.hid (show digs s.data.toList = some v by have := HD.out; rwa [← len_eq, List.take_length] at this)
      go_wp2
      go_ret
      rw [HE.out]
      exact ⟨rfl, rfl⟩
set_option maxHeartbeats 1000000 in
theorem one_any (w : World) (s : ByteArray) (hs : s.size ≤ 1000000) :
    Calls Try.prog 16 #[.string s] w fun e w' => e = .returned (numV s.data.toList) ∧ w' = w := by
  by_cases h1 : s.data.toList = [42]
  · rw [numV_some (v := 0) (by unfold numL; rw [if_pos h1])]
    have hq : (s.toList == [42]) = true := by rw [ByteArray.toList_eq, h1]; rfl
    clear h1
    go_enter Try.func16, Try.ntmps16
    go_wp2
    go_ret2
    exact ⟨rfl, rfl⟩
  · have hq : (s.toList == [42]) = false := by rw [ByteArray.toList_eq, beq_eq_false_iff_ne]; exact h1
    by_cases h0 : 0 < s.size
    · by_cases hl : 10 < s.size
      · rw [numV_none (numL_long (by rw [len_eq]; exact hl))]
        have p1 : decide ((s.size : Int) < 1) = false := decide_eq_false (by omega)
        have p2 : decide ((10 : Int) < s.size) = true := decide_eq_true (by omega)
        clear h1 h0
        go_enter Try.func16, Try.ntmps16
        go_wp2
        all_goals first | (exfalso; omega) | (go_ret2; exact ⟨rfl, rfl⟩)
      · obtain ⟨c0, hc0, he0, hne⟩ := first_at s h0
        have p1 : decide ((s.size : Int) < 1) = false := decide_eq_false (by omega)
        have p2 : decide ((10 : Int) < s.size) = false := decide_eq_false (by omega)
        by_cases h48 : c0.toNat = 48
        · rw [numV_none (by unfold numL; rw [if_neg h1, if_pos (.inr (by rw [hc0]; exact congrArg some (UInt8.toNat.inj (by simpa using h48))))])]
          have q1 : (((s[0]'h0).toNat : Int) == 48) = true := by rw [he0, beq_iff_eq]; omega
          clear h1 he0 hc0 h48 hne
          go_enter Try.func16, Try.ntmps16
          go_wp2
          all_goals first | (exfalso; omega) | (go_ret2; exact ⟨rfl, rfl⟩)
        · have q1 : (((s[0]'h0).toNat : Int) == 48) = false := by rw [he0, beq_eq_false_iff_ne]; omega
          have h2 : ¬ (s.data.toList = [] ∨ s.data.toList[0]? = some 48) := by
            rintro (h | h)
            · exact hne h
            · rw [hc0] at h
              cases h
              exact h48 rfl
          have HM := Lib.hid (fun w => number_any w s (by omega))
          cases hd : digs s.data.toList with
          | none =>
            rw [numV_none (numL_bad h1 hd)]
            rw [hd] at HM
            clear h1 he0 hc0 h48 hne h2 hd
            go_enter Try.func16, Try.ntmps16
            go_wp2_with (go_at_call 24; refine (HM.out _).mono ?_; rintro e w1 ⟨rfl, hw⟩; replace hw := hw.symm; subst hw)
            all_goals first | (exfalso; omega) | (go_ret2; exact ⟨rfl, rfl⟩)
          | some v =>
            have hv1 : 1 ≤ v := by
              match hl : s.data.toList, hc0 with
              | c :: r, hc0 =>
                simp at hc0
                subst hc0
                rw [hl] at hd
                exact Nat.le_trans (Nat.pow_pos (by decide)) (digs_first h48 hd)
            have hvm : v < 10000000000 := by
              have h3 := digs_lt hd
              have h4 : 10 ^ s.data.toList.length ≤ 10 ^ 10 := Nat.pow_le_pow_right (by decide) (by rw [len_eq]; omega)
              have h5 : (10 : Nat) ^ 10 = 10000000000 := by decide
              omega
            rw [hd] at HM
            have p3 : decide ((numI (some v)) < 1) = false := decide_eq_false (by show ¬ (v : Int) < 1; omega)
            by_cases hv : v ≤ 4294967295
            · rw [numV_some (numL_is h1 h2 hd hv)]
              have p4 : decide ((4294967295 : Int) < numI (some v)) = false := decide_eq_false (by show ¬ (4294967295 : Int) < v; omega)
              have p5 : IntKind.u32.wrap (numI (some v)) = (v : Int) := IntWalk.u32_in _ (by show 0 ≤ (v : Int) ∧ (v : Int) ≤ 4294967295; omega)
              clear h1 he0 hc0 h48 hne h2 hd hv1 hvm hv
              generalize numI (some v) = z at *
              go_enter Try.func16, Try.ntmps16
              go_wp2_with (go_at_call 24; refine (HM.out _).mono ?_; rintro e w1 ⟨rfl, hw⟩; replace hw := hw.symm; subst hw)
              all_goals first | (go_ret2; exact ⟨rfl, rfl⟩) | (clear p5; simp at p1 p2 p3 p4; exfalso; omega)
            · rw [numV_none (by unfold numL; rw [if_neg h1, if_neg h2, hd]; exact if_neg hv)]
              have p4 : decide ((4294967295 : Int) < numI (some v)) = true := decide_eq_true (by show (4294967295 : Int) < v; omega)
              clear h1 he0 hc0 h48 hne h2 hd hv1 hvm hv
              generalize numI (some v) = z at *
              go_enter Try.func16, Try.ntmps16
              go_wp2_with (go_at_call 24; refine (HM.out _).mono ?_; rintro e w1 ⟨rfl, hw⟩; replace hw := hw.symm; subst hw)
              all_goals first | (go_ret2; exact ⟨rfl, rfl⟩) | (simp at p1 p2 p3 p4; exfalso; omega)
    · have he : s.data.toList = [] := List.eq_nil_of_length_eq_zero (by rw [len_eq]; omega)
      rw [numV_none (by unfold numL; rw [if_neg h1, if_pos (.inl he)])]
      have p1 : decide ((s.size : Int) < 1) = true := decide_eq_true (by omega)
      clear h1 he
      go_enter Try.func16, Try.ntmps16
      go_wp2
      all_goals first | (exfalso; omega) | (go_ret2; exact ⟨rfl, rfl⟩)
end Go.Proofs.Ytmooeadeihgbdaa.sq
