/- Numbers of sets, as both read them. -/
import Derived.Test.YtmooeadeihgbdaaSqN
import Derived.Test.YtmooeadeihgbdaaSqA
import Derived.Test.YtmooeadeihgbdaaSqS
namespace Go.Proofs.Ytmooeadeihgbdaa.sq
open Go.ChangeShapes Go.WideShapes Go.ChangeAt Go.RowKit
open Go.Proofs.Ytmooeadeihgbdaa.row
set_option linter.unusedVariables false
set_option maxRecDepth 100000
set_option linter.unusedSimpArgs false

/-- What reading a number answers. -/
def numV (l : List UInt8) : Value := .tuple #[.int .u32 ((numL l).getD 0 : Nat), .bool (numL l).isSome]
theorem numV_none {l : List UInt8} (h : numL l = none) : numV l = .tuple #[.int .u32 0, .bool false] := by unfold numV; rw [h]; rfl
theorem numV_some {l : List UInt8} {v : Nat} (h : numL l = some v) : numV l = .tuple #[.int .u32 (v : Nat), .bool true] := by unfold numV; rw [h]; rfl
theorem first_at (s : ByteArray) (h : 0 < s.size) : ∃ c : UInt8, s.data.toList[0]? = some c ∧ (s[0]'h).toNat = c.toNat ∧ s.data.toList ≠ [] := by
  obtain ⟨c, hc, he⟩ := byt_some s 0 h
  exact ⟨c, hc, by rw [byt_at, he], fun e => by rw [e] at hc; cases hc⟩
set_option maxHeartbeats 1000000 in
theorem pnum_any (w : World) (s : ByteArray) (hs : s.size ≤ 1000000) :
    Calls Try.prog 23 #[.string s] w fun e w' => e = .returned (numV s.data.toList) ∧ w' = w := by
  by_cases h1 : s.data.toList = [42]
  · rw [numV_some (v := 0) (by unfold numL; rw [if_pos h1])]
    have hq : (s.toList == [42]) = true := by rw [ByteArray.toList_eq, h1]; rfl
    clear h1
    go_enter Try.func23, Try.ntmps23
    go_wp2
    go_ret2
    exact ⟨rfl, rfl⟩
  · have hq : (s.toList == [42]) = false := by rw [ByteArray.toList_eq, beq_eq_false_iff_ne]; exact h1
    by_cases h0 : 0 < s.size
    · obtain ⟨c0, hc0, he0, hne⟩ := first_at s h0
      have hn : ¬ s.toList = [] := by rw [ByteArray.toList_eq]; exact hne
      have hi : s.toList.isEmpty = false := by rw [List.isEmpty_eq_false_iff]; exact hn
      by_cases h48 : c0.toNat = 48
      · rw [numV_none (by unfold numL; rw [if_neg h1, if_pos (.inr (by rw [hc0]; exact congrArg some (UInt8.toNat.inj (by simpa using h48))))])]
        have q1 : (((s[0]'h0).toNat : Int) == 48) = true := by rw [he0, beq_iff_eq]; omega
        clear h1 he0 hc0 h48 hne
        go_enter Try.func23, Try.ntmps23
        go_wp2
        go_ret2
        exact ⟨rfl, rfl⟩
      · have q1 : (((s[0]'h0).toNat : Int) == 48) = false := by rw [he0, beq_eq_false_iff_ne]; omega
        have H2 := Lib.hid (show ¬ (s.data.toList = [] ∨ s.data.toList[0]? = some 48) by
          rintro (h | h)
          · exact hne h
          · rw [hc0] at h
            cases h
            exact h48 rfl)
        have H1 := Lib.hid h1
        clear h1 he0 hc0 h48 hne
        go_enter Try.func23, Try.ntmps23
        go_wp2
        clear hq q1 hn hi
        go_loop [4, 17] (fun x i => ∃ k v : Nat, k ≤ s.size ∧ i = .int .i64 k ∧ x = .int .u64 v ∧ Hid (v ≤ 4294967295) ∧ Hid (digs (s.data.toList.take k) = some v)) (fun _ i => s.size - (intOf i).toNat)
        case atStart => exact ⟨0, 0, Nat.zero_le _, rfl, rfl, Lib.hid (by omega), Lib.hid rfl⟩
        case round =>
          obtain ⟨k, v, hk, rfl, rfl, HV, HD⟩ := hrel
          by_cases hkl : k < s.size
          · obtain ⟨c, hc, hcb⟩ := byt_some s k hkl
            have e1 : (s[k]).toNat = c.toNat := by rw [byt_at, hcb]
            have HC := Lib.hid hc
            by_cases hd : digB c.toNat = true
            · have hd2 : 48 ≤ c.toNat ∧ c.toNat ≤ 57 := of_decide_eq_true hd
              have HX := Lib.hid (show digs (s.data.toList.take (k + 1)) = some (10 * v + (c.toNat - 48)) by rw [digs_next hc, HD.out, step, Option.bind_some, if_pos hd])
              obtain ⟨m, hm⟩ : ∃ m, m = c.toNat := ⟨_, rfl⟩
              rw [← hm] at e1 HX hd2
              have q1 : decide ((m : Int) < 48) = false := decide_eq_false (by omega)
              have q2 : decide ((57 : Int) < m) = false := decide_eq_false (by omega)
              clear hc hcb hd
              obtain ⟨d, hd⟩ : ∃ d, d = m - 48 := ⟨_, rfl⟩
              obtain ⟨y, hy⟩ : ∃ y, y = 10 * v := ⟨_, rfl⟩
              obtain ⟨x, hx⟩ : ∃ x, x = y + d := ⟨_, rfl⟩
              have q3 : IntKind.u8.wrap ((m : Int) - 48) = (d : Int) := (IntWalk.u8_in _ (by omega)).trans (by omega)
              have q4 : IntKind.u64.wrap (d : Int) = (d : Int) := IntWalk.u64_in _ (by omega)
              have q5 : IntKind.u64.wrap (10 * (v : Int)) = (y : Int) := (IntWalk.u64_in _ (by have := HV.out; omega)).trans (by omega)
              have q6 : IntKind.u64.wrap ((y : Int) + (d : Int)) = (x : Int) := (IntWalk.u64_in _ (by have := HV.out; omega)).trans (by omega)
              have HX2 := Lib.hid (show digs (s.data.toList.take (k + 1)) = some x by rw [HX.out, hx, hy, hd])
              clear hd2 hm HX hd hy hx
              go_wp2
              all_goals clear q1 q2 q3 q4 q5 q6
              all_goals first
                | (go_ret2; rw [numV_none (numL_great H1.out HX2.out (by omega))]; exact ⟨rfl, rfl⟩)
                | (go_round
                   case rel => first | exact ⟨k + 1, x, by omega, by go_num, rfl, Lib.hid (by omega), HX2⟩ | ((repeat apply Exists.intro); exact ⟨⟨k + 1, x, by omega, by go_num, rfl, Lib.hid (by omega), HX2⟩, rfl⟩)
                   case measure => (show s.size - ((k : Int) + 1).toNat < s.size - k; omega))
            · have HN := Lib.hid (numL_bad H1.out (digs_bad hc (by simpa using hd)))
              have hd2 : ¬ (48 ≤ c.toNat ∧ c.toNat ≤ 57) := fun h => hd (decide_eq_true h)
              obtain ⟨m, hm⟩ : ∃ m, m = c.toNat := ⟨_, rfl⟩
              rw [← hm] at e1 hd2
              clear hc hcb hd hm
              go_wp2
              all_goals first
                | (exfalso; omega)
                | (go_ret2; rw [numV_none HN.out]; exact ⟨rfl, rfl⟩)
          · obtain rfl : k = s.size := by omega
            have HE := Lib.hid (show numL s.data.toList = some v from numL_is H1.out H2.out (by have := HD.out; rwa [← len_eq, List.take_length] at this) HV.out)
            have q6 : IntKind.u32.wrap (v : Int) = (v : Int) := IntWalk.u32_in _ (by have := HV.out; omega)
            go_wp2
            go_ret2
            rw [numV_some HE.out]
            exact ⟨rfl, rfl⟩
    · have he : s.data.toList = [] := List.eq_nil_of_length_eq_zero (by rw [len_eq]; omega)
      rw [numV_none (by unfold numL; rw [if_neg h1, if_pos (.inl he)])]
      have hn : s.toList = [] := by rw [ByteArray.toList_eq]; exact he
      have hi : s.toList.isEmpty = true := by rw [hn]; rfl
      clear h1 he
      go_enter Try.func23, Try.ntmps23
      go_wp2
      go_ret2
      exact ⟨rfl, rfl⟩
end Go.Proofs.Ytmooeadeihgbdaa.sq
