/- The statement: whether a text is a tag; awake; the walk. -/
import Derived.Test.YtbhpgghbpibalaaGreatDoorMpn
namespace Go.Proofs.YtbhpgghbpibalaaGreatDoor.par
open Go.ChangeShapes Go.WideShapes Go.ChangeAt Go.RowKit
open Go.Proofs.YtbhpgghbpibalaaGreatDoor.codec (Bytes vals)
open Go.Proofs.YtbhpgghbpibalaaGreatDoor.row
open Go.Proofs.YtbhpgghbpibalaaGreatDoor.lx (Tk cT fT Fit tok_at octs Sl Room own_slice ix)
set_option linter.unusedVariables false
set_option maxRecDepth 100000
set_option linter.unusedSimpArgs false

set_option maxHeartbeats 6400000 in
theorem tagged_any (w : World) (l : List Nat) (hl : ∀ x ∈ l, x < 256) (hn : l.length ≤ 3000) :
    Calls Tryz.prog 5 #[.string (lx.strOf l)] w fun e w' => e = .returned (.bool (tagB l)) ∧ w' = w := by
  have HL := Lib.hid hl
  have hz := lx.strOf_size l
  obtain ⟨S, hS⟩ : ∃ S, lx.strOf l = S := ⟨_, rfl⟩
  rw [hS] at hz ⊢
  have HS := Lib.hid hS
  have HZ := Lib.hid hz
  have hz3 : S.size ≤ 3000 := by omega
  clear hS hz hl
  go_enter Tryz.func5, Tryz.ntmps5
  go_wp2
  go_loop [7] (fun i => ∃ k : Nat, k ≤ S.size ∧ i = .int .i64 k ∧ Hid ((l.take k).all tagC = true)) (fun i => S.size - (intOf i).toNat)
  case atStart => exact ⟨0, Nat.zero_le _, rfl, Lib.hid (by simp)⟩
  case round =>
    obtain ⟨k, hk, rfl, hh⟩ := hrel
    by_cases hkn : k < S.size
    · have hkl : k < l.length := by rw [← HZ.out]; exact hkn
      obtain ⟨x, hx⟩ : ∃ x, l[k] = x := ⟨_, rfl⟩
      have hxl : l[k]? = some x := by rw [List.getElem?_eq_getElem hkl, hx]
      have l1 : (k : Int) < (S.size : Int) := by omega
      have e1 : (S[k]).toNat = x := by rw [lx.byt_at, ← HS.out]; exact lx.byt_strOf HL.out hxl
      have HN := Lib.hid (show tagC x = true → (l.take (k + 1)).all tagC = true from fun h => by
        rw [List.take_add_one, hxl, List.all_append, hh.out]
        simp [h])
      have HF := Lib.hid (show tagC x = false → tagB l = false from fun h => by
        unfold tagB
        rw [show l.all tagC = false from List.all_eq_false.2 ⟨x, List.mem_of_getElem? hxl, by simp [h]⟩]
        simp)
      clear hx hxl hkl
      have hc7 : x ≤ 47 ∨ (48 ≤ x ∧ x ≤ 57) ∨ (58 ≤ x ∧ x ≤ 64) ∨ (65 ≤ x ∧ x ≤ 90) ∨ (91 ≤ x ∧ x ≤ 96) ∨ (97 ≤ x ∧ x ≤ 122) ∨ 123 ≤ x := by omega
      rcases hc7 with hc7 | hc7 | hc7 | hc7 | hc7 | hc7 | hc7
      · have ht : tagC x = false := by unfold tagC; simp; omega
        have q0 : decide ((48 : Int) ≤ (x : Int)) = false := decide_eq_false (by omega)
        have q1 : decide ((x : Int) ≤ 57) = true := decide_eq_true (by omega)
        have q2 : decide ((97 : Int) ≤ (x : Int)) = false := decide_eq_false (by omega)
        have q3 : decide ((x : Int) ≤ 122) = true := decide_eq_true (by omega)
        have q4 : decide ((65 : Int) ≤ (x : Int)) = false := decide_eq_false (by omega)
        have q5 : decide ((x : Int) ≤ 90) = true := decide_eq_true (by omega)
        have HZ2 := Lib.hid (HF.out ht)
        clear HN HF ht hc7
        go_wp2
        go_ret
        rw [HZ2.out]
        exact ⟨rfl, rfl⟩
      · have ht : tagC x = true := by unfold tagC; simp; omega
        have q0 : decide ((48 : Int) ≤ (x : Int)) = true := decide_eq_true (by omega)
        have q1 : decide ((x : Int) ≤ 57) = true := decide_eq_true (by omega)
        have q2 : decide ((97 : Int) ≤ (x : Int)) = false := decide_eq_false (by omega)
        have q3 : decide ((x : Int) ≤ 122) = true := decide_eq_true (by omega)
        have q4 : decide ((65 : Int) ≤ (x : Int)) = false := decide_eq_false (by omega)
        have q5 : decide ((x : Int) ≤ 90) = true := decide_eq_true (by omega)
        have HZ2 := Lib.hid (HN.out ht)
        clear HN HF ht hc7
        go_wp2
        all_goals clear q0 q1 q2 q3 q4 q5
        go_round
        case rel => first | exact ⟨k + 1, by omega, by go_num, HZ2⟩ | ((repeat apply Exists.intro); exact ⟨⟨k + 1, by omega, by go_num, HZ2⟩, rfl⟩)
        case measure => (show S.size - ((k : Int) + 1).toNat < S.size - k; omega)
      · have ht : tagC x = false := by unfold tagC; simp; omega
        have q0 : decide ((48 : Int) ≤ (x : Int)) = true := decide_eq_true (by omega)
        have q1 : decide ((x : Int) ≤ 57) = false := decide_eq_false (by omega)
        have q2 : decide ((97 : Int) ≤ (x : Int)) = false := decide_eq_false (by omega)
        have q3 : decide ((x : Int) ≤ 122) = true := decide_eq_true (by omega)
        have q4 : decide ((65 : Int) ≤ (x : Int)) = false := decide_eq_false (by omega)
        have q5 : decide ((x : Int) ≤ 90) = true := decide_eq_true (by omega)
        have HZ2 := Lib.hid (HF.out ht)
        clear HN HF ht hc7
        go_wp2
        go_ret
        rw [HZ2.out]
        exact ⟨rfl, rfl⟩
      · have ht : tagC x = true := by unfold tagC; simp; omega
        have q0 : decide ((48 : Int) ≤ (x : Int)) = true := decide_eq_true (by omega)
        have q1 : decide ((x : Int) ≤ 57) = false := decide_eq_false (by omega)
        have q2 : decide ((97 : Int) ≤ (x : Int)) = false := decide_eq_false (by omega)
        have q3 : decide ((x : Int) ≤ 122) = true := decide_eq_true (by omega)
        have q4 : decide ((65 : Int) ≤ (x : Int)) = true := decide_eq_true (by omega)
        have q5 : decide ((x : Int) ≤ 90) = true := decide_eq_true (by omega)
        have HZ2 := Lib.hid (HN.out ht)
        clear HN HF ht hc7
        go_wp2
        all_goals clear q0 q1 q2 q3 q4 q5
        go_round
        case rel => first | exact ⟨k + 1, by omega, by go_num, HZ2⟩ | ((repeat apply Exists.intro); exact ⟨⟨k + 1, by omega, by go_num, HZ2⟩, rfl⟩)
        case measure => (show S.size - ((k : Int) + 1).toNat < S.size - k; omega)
      · have ht : tagC x = false := by unfold tagC; simp; omega
        have q0 : decide ((48 : Int) ≤ (x : Int)) = true := decide_eq_true (by omega)
        have q1 : decide ((x : Int) ≤ 57) = false := decide_eq_false (by omega)
        have q2 : decide ((97 : Int) ≤ (x : Int)) = false := decide_eq_false (by omega)
        have q3 : decide ((x : Int) ≤ 122) = true := decide_eq_true (by omega)
        have q4 : decide ((65 : Int) ≤ (x : Int)) = true := decide_eq_true (by omega)
        have q5 : decide ((x : Int) ≤ 90) = false := decide_eq_false (by omega)
        have HZ2 := Lib.hid (HF.out ht)
        clear HN HF ht hc7
        go_wp2
        go_ret
        rw [HZ2.out]
        exact ⟨rfl, rfl⟩
      · have ht : tagC x = true := by unfold tagC; simp; omega
        have q0 : decide ((48 : Int) ≤ (x : Int)) = true := decide_eq_true (by omega)
        have q1 : decide ((x : Int) ≤ 57) = false := decide_eq_false (by omega)
        have q2 : decide ((97 : Int) ≤ (x : Int)) = true := decide_eq_true (by omega)
        have q3 : decide ((x : Int) ≤ 122) = true := decide_eq_true (by omega)
        have q4 : decide ((65 : Int) ≤ (x : Int)) = true := decide_eq_true (by omega)
        have q5 : decide ((x : Int) ≤ 90) = false := decide_eq_false (by omega)
        have HZ2 := Lib.hid (HN.out ht)
        clear HN HF ht hc7
        go_wp2
        all_goals clear q0 q1 q2 q3 q4 q5
        go_round
        case rel => first | exact ⟨k + 1, by omega, by go_num, HZ2⟩ | ((repeat apply Exists.intro); exact ⟨⟨k + 1, by omega, by go_num, HZ2⟩, rfl⟩)
        case measure => (show S.size - ((k : Int) + 1).toNat < S.size - k; omega)
      · have ht : tagC x = false := by unfold tagC; simp; omega
        have q0 : decide ((48 : Int) ≤ (x : Int)) = true := decide_eq_true (by omega)
        have q1 : decide ((x : Int) ≤ 57) = false := decide_eq_false (by omega)
        have q2 : decide ((97 : Int) ≤ (x : Int)) = true := decide_eq_true (by omega)
        have q3 : decide ((x : Int) ≤ 122) = false := decide_eq_false (by omega)
        have q4 : decide ((65 : Int) ≤ (x : Int)) = true := decide_eq_true (by omega)
        have q5 : decide ((x : Int) ≤ 90) = false := decide_eq_false (by omega)
        have HZ2 := Lib.hid (HF.out ht)
        clear HN HF ht hc7
        go_wp2
        go_ret
        rw [HZ2.out]
        exact ⟨rfl, rfl⟩
    · have hke : k = S.size := by omega
      have HA := Lib.hid (show l.all tagC = true by
        have := hh.out
        rwa [hke, List.take_of_length_le (by rw [HZ.out]; exact Nat.le_refl _)] at this)
      have HT := Lib.hid (show tagB l = (decide ((0 : Int) < (S.size : Int)) && decide ((S.size : Int) < 21)) by
        unfold tagB
        rw [HA.out, Bool.and_true, ← HZ.out]
        congr 1 <;> exact decide_eq_decide.2 (by omega))
      have l1 : ¬ ((k : Int) < (S.size : Int)) := by omega
      clear hke
      by_cases h0 : S.size = 0
      · have h1 : decide ((0 : Int) < (S.size : Int)) = false := decide_eq_false (by omega)
        have HT2 := Lib.hid (show tagB l = false by rw [HT.out, h1]; rfl)
        go_wp2
        all_goals first | (exfalso; omega) | (go_ret; rw [HT2.out]; exact ⟨rfl, rfl⟩)
      · have h1 : decide ((0 : Int) < (S.size : Int)) = true := decide_eq_true (by omega)
        by_cases h2 : S.size < 21
        · have h3 : decide ((S.size : Int) < 21) = true := decide_eq_true (by omega)
          have HT2 := Lib.hid (show tagB l = true by rw [HT.out, h1, h3]; rfl)
          go_wp2
          all_goals first | (exfalso; omega) | (go_ret; rw [HT2.out]; exact ⟨rfl, rfl⟩)
        · have h3 : decide ((S.size : Int) < 21) = false := decide_eq_false (by omega)
          have HT2 := Lib.hid (show tagB l = false by rw [HT.out, h1, h3]; rfl)
          go_wp2
          all_goals first | (exfalso; omega) | (go_ret; rw [HT2.out]; exact ⟨rfl, rfl⟩)
end Go.Proofs.YtbhpgghbpibalaaGreatDoor.par
