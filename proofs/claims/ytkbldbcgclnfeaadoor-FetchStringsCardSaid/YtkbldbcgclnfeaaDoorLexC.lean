/- The literal that a line asks for, as the program reads it. -/
import Derived.Test.YtkbldbcgclnfeaaDoorLexB
namespace Go.Proofs.YtkbldbcgclnfeaaDoor.lx
open Go.ChangeShapes Go.WideShapes Go.ChangeAt Go.RowKit
open Go.Proofs.YtkbldbcgclnfeaaDoor.codec (Bytes vals)
open Go.Proofs.YtkbldbcgclnfeaaDoor.row
set_option linter.unusedVariables false
set_option maxRecDepth 100000
set_option linter.unusedSimpArgs false

theorem lenL_short {r : List Nat} (h : ¬ (2 ≤ r.length ∧ r.length ≤ 7)) : lenL r = none := by
  unfold lenL
  rw [if_neg (fun hh => h ⟨hh.1, hh.2.1⟩)]
theorem lenL_end {r : List Nat} {m x : Nat} (hm : r.length = m + 1) (hx : r[m]? = some x) (h : x ≠ 125) : lenL r = none := by
  unfold lenL
  rw [if_neg (fun hh => h (by
    have := hh.2.2.1
    rw [List.getLast?_eq_getElem?, hm, Nat.add_sub_cancel, hx] at this
    simpa using this))]
theorem lenL_bad {r : List Nat} {m k x : Nat} (hm : r.length = m + 1) (hx : r[k]? = some x) (hk : k < m) (h : isDig x = false) : lenL r = none := by
  unfold lenL
  rw [if_neg (fun hh => by
    have h1 : r.dropLast[k]? = some x := by rw [List.getElem?_dropLast, if_pos (by omega)]; exact hx
    have := List.all_eq_true.1 hh.2.2.2 x (List.mem_of_getElem? h1)
    rw [h] at this
    cases this)]
theorem lenL_is {r : List Nat} {m x : Nat} (hm : r.length = m + 1) (hx : r[m]? = some x) (h : x = 125) (h1 : 1 ≤ m) (h6 : m ≤ 6) (hd : ∀ x ∈ r.take m, isDig x = true) : lenL r = some (valL (r.take m)) := by
  unfold lenL
  rw [show r.dropLast = r.take m by rw [List.dropLast_eq_take, hm]; rfl]
  rw [if_pos ⟨by omega, by omega, by rw [List.getLast?_eq_getElem?, hm, Nat.add_sub_cancel, hx, h], by simpa using hd⟩]
def lenV (l : List Nat) : Value := .tuple #[.int .i64 ((lenL l).getD 0 : Nat), .bool (lenL l).isSome]
set_option maxHeartbeats 1000000 in
theorem litLen_any (w : World) (A : Option Addr) (n c : Nat) (l : List Nat) (hB : Bytes w A n l) (hnc : n ≤ c) (hn : n ≤ 1000000000) :
    Calls Tryd.prog 28 #[.slice A n c] w fun e w' => e = .returned (lenV l) ∧ w' = w := by
  have hlen := hB.1
  by_cases h2 : 2 ≤ n ∧ n ≤ 7
  · obtain ⟨m, rfl⟩ : ∃ m, n = m + 1 := ⟨n - 1, by omega⟩
    obtain ⟨b, o, rfl, -⟩ := hB.2.2 (by omega)
    have q1 : decide ((m : Int) < 1) = false := decide_eq_false (by omega)
    have q2 : decide ((6 : Int) < (m : Int)) = false := decide_eq_false (by omega)
    have e1 : IntKind.i64.wrap ((m : Int) + 1 - 1) = (m : Int) := (IntWalk.i64_in _ (by omega)).trans (by omega)
    obtain ⟨x, hx, hx2, hxc⟩ := byte_at hB (show m < m + 1 by omega)
    have l1 : (m : Int) < ((m : Int) + 1) := by omega
    by_cases h125 : x = 125
    · have q3 : ((x : Int) != 125) = false := by rw [bne_eq_false_iff_eq]; omega
      have HX := Lib.hid (And.intro hlen (And.intro hx h125))
      have H2 := Lib.hid h2
      have HB := Lib.hid hB
      clear hx h125 hx2 hlen hB h2
      go_enter Tryd.func28, Tryd.ntmps28
      go_wp2
      clear q1 q2 q3 hxc e1
      go_loop [5, 28] (fun x i => ∃ k v : Nat, k ≤ m ∧ i = .int .i64 k ∧ x = .int .i64 v ∧ Hid (v = valL (l.take k)) ∧ Hid (∀ y ∈ l.take k, isDig y = true)) (fun _ i => m - (intOf i).toNat)
      case atStart => exact ⟨0, 0, Nat.zero_le _, rfl, rfl, Lib.hid rfl, Lib.hid (by simp)⟩
      case round =>
        obtain ⟨k, v, hk, rfl, rfl, HV, HD⟩ := hrel
        by_cases hkl : k < m
        · have hkl2 : (k : Int) < (m : Int) := by omega
          obtain ⟨y, hy, hy2, hyc⟩ := byte_at HB.out (show k < m + 1 by omega)
          by_cases hd : isDig y = true
          · have hd2 := isDig_iff.1 hd
            have HV2 := Lib.hid (show 10 * v + (y - 48) = valL (l.take (k + 1)) by rw [List.take_add_one, hy]; show _ = valL (l.take k ++ [y]); rw [valL_snoc, HV.out])
            have HD2 := Lib.hid (show ∀ z ∈ l.take (k + 1), isDig z = true by
              intro z hz
              rw [List.take_add_one, hy] at hz
              rcases List.mem_append.1 hz with hz | hz
              · exact HD.out z hz
              · simp at hz; rw [hz]; exact hd)
            have hvb : v < 1000000 := by
              have h1 := valL_lt (l.take k) HD.out
              have h2 : (10 : Nat) ^ (l.take k).length ≤ 10 ^ 6 := Nat.pow_le_pow_right (by decide) (by rw [List.length_take]; have := H2.out; omega)
              rw [← HV.out] at h1
              omega
            obtain ⟨d, hd3⟩ : ∃ d, d = y - 48 := ⟨_, rfl⟩
            obtain ⟨z, hz⟩ : ∃ z, z = 10 * v := ⟨_, rfl⟩
            obtain ⟨x1, hx1⟩ : ∃ x1, x1 = z + d := ⟨_, rfl⟩
            have q1 : decide ((y : Int) < 48) = false := decide_eq_false (by omega)
            have q2 : decide ((57 : Int) < y) = false := decide_eq_false (by omega)
            have q3 : IntKind.u8.wrap ((y : Int) - 48) = (d : Int) := (IntWalk.u8_in _ (by omega)).trans (by omega)
            have q4 : IntKind.i64.wrap (d : Int) = (d : Int) := IntWalk.i64_in _ (by omega)
            have q5 : IntKind.i64.wrap (10 * (v : Int)) = (z : Int) := (IntWalk.i64_in _ (by omega)).trans (by omega)
            have q6 : IntKind.i64.wrap ((z : Int) + (d : Int)) = (x1 : Int) := (IntWalk.i64_in _ (by omega)).trans (by omega)
            have HV3 := Lib.hid (show x1 = valL (l.take (k + 1)) by rw [← HV2.out, hx1, hz, hd3])
            clear hd hd2 hvb hd3 hz hx1 hy hy2
            go_wp2
            clear q1 q2 q3 q4 q5 q6 hyc
            go_round
            case rel => first | exact ⟨k + 1, x1, by omega, by go_num, rfl, HV3, HD2⟩ | ((repeat apply Exists.intro); exact ⟨⟨k + 1, x1, by omega, by go_num, rfl, HV3, HD2⟩, rfl⟩)
            case measure => (show m - ((k : Int) + 1).toNat < m - k; omega)
          · have HN := Lib.hid (lenL_bad HX.out.1 hy hkl (by simpa using hd))
            have hd2 : ¬ (48 ≤ y ∧ y ≤ 57) := fun h => hd (isDig_iff.2 h)
            clear hd hy hy2
            go_wp2
            all_goals first
              | (exfalso; omega)
              | (go_ret2; unfold lenV; rw [HN.out]; exact ⟨rfl, rfl⟩)
        · obtain rfl : k = m := by omega
          have HE := Lib.hid (lenL_is HX.out.1 HX.out.2.1 HX.out.2.2 (by have := H2.out; omega) (by have := H2.out; omega) HD.out)
          go_wp2
          go_ret2
          unfold lenV
          rw [HE.out, ← HV.out]
          exact ⟨rfl, rfl⟩
    · have HN := Lib.hid (lenL_end hlen hx h125)
      have q3 : ((x : Int) != 125) = true := by rw [bne_iff_ne]; omega
      clear hx h125 hx2 hlen hB h2
      go_enter Tryd.func28, Tryd.ntmps28
      go_wp2
      go_ret2
      unfold lenV
      rw [HN.out]
      exact ⟨rfl, rfl⟩
  · have HN := Lib.hid (lenL_short (r := l) (by rw [hlen]; exact h2))
    obtain ⟨i, hi⟩ : ∃ i : Int, i = (n : Int) - 1 := ⟨_, rfl⟩
    have e1 : IntKind.i64.wrap ((n : Int) - 1) = i := (IntWalk.i64_in _ (by omega)).trans (by omega)
    by_cases h1 : n < 2
    · have q1 : decide (i < 1) = true := decide_eq_true (by omega)
      clear hi h2 h1 hlen hB hn hnc
      go_enter Tryd.func28, Tryd.ntmps28
      go_wp2
      go_ret2
      unfold lenV
      rw [HN.out]
      exact ⟨rfl, rfl⟩
    · have q1 : decide (i < 1) = false := decide_eq_false (by omega)
      have q2 : decide (6 < i) = true := decide_eq_true (by omega)
      clear hi h2 h1 hlen hB hn hnc
      go_enter Tryd.func28, Tryd.ntmps28
      go_wp2
      go_ret2
      unfold lenV
      rw [HN.out]
      exact ⟨rfl, rfl⟩
/-- Where a byte stands last. -/
def LastAt (s : Nat) (l : List Nat) (i : Int) : Prop := (i = -1 ∧ ∀ x ∈ l, x ≠ s) ∨ ∃ k : Nat, i = (k : Int) ∧ k < l.length ∧ l[k]? = some s ∧ ∀ x ∈ l.drop (k + 1), x ≠ s
def litV (l : List Nat) : Value := .tuple #[.int .i64 ((litL l).getD 0 : Nat), .bool (litL l).isSome]
theorem last_behind {l : List Nat} {k s : Nat} (h1 : l[k]? = some s) (h2 : ∀ x ∈ l.drop (k + 1), x ≠ s) : behind s l = some (l.drop (k + 1)) := by
  obtain ⟨g1, g2⟩ := List.getElem?_eq_some_iff.1 h1
  have e : l = l.take k ++ s :: l.drop (k + 1) := by
    have h3 := List.drop_eq_getElem_cons g1
    rw [g2] at h3
    rw [← h3, List.take_append_drop]
  have h4 := behind_at h2 (l.take k)
  rw [← e] at h4
  exact h4
end Go.Proofs.YtkbldbcgclnfeaaDoor.lx
