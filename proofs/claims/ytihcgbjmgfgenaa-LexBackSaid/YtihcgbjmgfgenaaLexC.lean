/- The literal that a line asks for, as the program reads it. -/
import Derived.Test.YtihcgbjmgfgenaaLexB
namespace Go.Proofs.Ytihcgbjmgfgenaa.lx
open Go.ChangeShapes Go.WideShapes Go.ChangeAt Go.RowKit
open Go.Proofs.Ytihcgbjmgfgenaa.codec (Bytes vals)
open Go.Proofs.Ytihcgbjmgfgenaa.row
set_option linter.unusedVariables false
set_option maxRecDepth 100000
set_option linter.unusedSimpArgs false

theorem lenL_short {r : List Nat} (h : ¬ (2 ≤ r.length ∧ r.length ≤ 7)) : lenL r = none := by
  unfold lenL
  rw [if_neg (fun hh => h ⟨hh.1, hh.2.1⟩)]
theorem lenL_end {r : List Nat} {m x : Nat} (hm : r.length = m + 1) (hx : r[m]? = some x) (h : x ≠ 125) : lenL r = none := by
  unfold lenL
  rw [if_neg (fun hh => h (by
    have := hh.2.2.1
    rw [List.getLast?_eq_getElem?, hm, Nat.add_sub_cancel, hx] at this
    simpa using this))]
theorem lenL_bad {r : List Nat} {m k x : Nat} (hm : r.length = m + 1) (hx : r[k]? = some x) (hk : k < m) (h : isDig x = false) : lenL r = none := by
  unfold lenL
  rw [if_neg (fun hh => by
    have h1 : r.dropLast[k]? = some x := by rw [List.getElem?_dropLast, if_pos (by omega)]; exact hx
    have := List.all_eq_true.1 hh.2.2.2 x (List.mem_of_getElem? h1)
    rw [h] at this
    cases this)]
theorem lenL_is {r : List Nat} {m x : Nat} (hm : r.length = m + 1) (hx : r[m]? = some x) (h : x = 125) (h1 : 1 ≤ m) (h6 : m ≤ 6) (hd : ∀ x ∈ r.take m, isDig x = true) : lenL r = some (valL (r.take m)) := by
  unfold lenL
  rw [show r.dropLast = r.take m by rw [List.dropLast_eq_take, hm]; rfl]
  rw [if_pos ⟨by omega, by omega, by rw [List.getLast?_eq_getElem?, hm, Nat.add_sub_cancel, hx, h], by simpa using hd⟩]
def lenV (l : List Nat) : Value := .tuple #[.int .i64 ((lenL l).getD 0 : Nat), .bool (lenL l).isSome]
set_option maxHeartbeats 1000000 in
theorem litLen_any (w : World) (A : Option Addr) (n c : Nat) (l : List Nat) (hB : Bytes w A n l) (hnc : n ≤ c) (hn : n ≤ 1000000000) :
    Calls Try.prog 40 #[.slice A n c] w fun e w' => e = .returned (lenV l) ∧ w' = w := by
  have hlen := hB.1
  by_cases h2 : 2 ≤ n ∧ n ≤ 7
  · obtain ⟨m, rfl⟩ : ∃ m, n = m + 1 := ⟨n - 1, by omega⟩
    obtain ⟨b, o, rfl, -⟩ := hB.2.2 (by omega)
    have q1 : decide ((m : Int) < 1) = false := decide_eq_false (by omega)
    have q2 : decide ((6 : Int) < (m : Int)) = false := decide_eq_false (by omega)
    have e1 : IntKind.i64.wrap ((m : Int) + 1 - 1) = (m : Int) := (IntWalk.i64_in _ (by omega)).trans (by omega)
    obtain ⟨x, hx, hx2, hxc⟩ := byte_at hB (show m < m + 1 by omega)
    have l1 : (m : Int) < ((m : Int) + 1) := by omega
    by_cases h125 : x = 125
    · have q3 : ((x : Int) != 125) = false := by rw [bne_eq_false_iff_eq]; omega
      have HX := Lib.hid (And.intro hlen (And.intro hx h125))
      have H2 := Lib.hid h2
      have HB := Lib.hid hB
      clear hx h125 hx2 hlen hB h2
      go_enter Try.func40, Try.ntmps40
      go_wp2
      clear q1 q2 q3 hxc e1
      go_loop [5, 28] (fun x i => ∃ k v : Nat, k ≤ m ∧ i = .int .i64 k ∧ x = .int .i64 v ∧ Hid (v = valL (l.take k)) ∧ Hid (∀ y ∈ l.take k, isDig y = true)) (fun _ i => m - (intOf i).toNat)
      case atStart => exact ⟨0, 0, Nat.zero_le _, rfl, rfl, Lib.hid rfl, Lib.hid (by simp)⟩
      case round =>
        obtain ⟨k, v, hk, rfl, rfl, HV, HD⟩ := hrel
        by_cases hkl : k < m
        · have hkl2 : (k : Int) < (m : Int) := by omega
          obtain ⟨y, hy, hy2, hyc⟩ := byte_at HB.out (show k < m + 1 by omega)
          by_cases hd : isDig y = true
          · have hd2 := isDig_iff.1 hd
            have HV2 := Lib.hid (show 10 * v + (y - 48) = valL (l.take (k + 1)) by rw [List.take_add_one, hy]; show _ = valL (l.take k ++ [y]); rw [valL_snoc, HV.out])
            have HD2 := Lib.hid (show ∀ z ∈ l.take (k + 1), isDig z = true by
              intro z hz
              rw [List.take_add_one, hy] at hz
              rcases List.mem_append.1 hz with hz | hz
              · exact HD.out z hz
              · simp at hz; rw [hz]; exact hd)
            have hvb : v < 1000000 := by
              have h1 := valL_lt (l.take k) HD.out
              have h2 : (10 : Nat) ^ (l.take k).length ≤ 10 ^ 6 := Nat.pow_le_pow_right (by decide) (by rw [List.length_take]; have := H2.out; omega)
              rw [← HV.out] at h1
              omega
            obtain ⟨d, hd3⟩ : ∃ d, d = y - 48 := ⟨_, rfl⟩
            obtain ⟨z, hz⟩ : ∃ z, z = 10 * v := ⟨_, rfl⟩
            obtain ⟨x1, hx1⟩ : ∃ x1, x1 = z + d := ⟨_, rfl⟩
            have q1 : decide ((y : Int) < 48) = false := decide_eq_false (by omega)
            have q2 : decide ((57 : Int) < y) = false := decide_eq_false (by omega)
            have q3 : IntKind.u8.wrap ((y : Int) - 48) = (d : Int) := (IntWalk.u8_in _ (by omega)).trans (by omega)
            have q4 : IntKind.i64.wrap (d : Int) = (d : Int) := IntWalk.i64_in _ (by omega)
            have q5 : IntKind.i64.wrap (10 * (v : Int)) = (z : Int) := (IntWalk.i64_in _ (by omega)).trans (by omega)
            have q6 : IntKind.i64.wrap ((z : Int) + (d : Int)) = (x1 : Int) := (IntWalk.i64_in _ (by omega)).trans (by omega)
            have HV3 := Lib.hid (show x1 = valL (l.take (k + 1)) by rw [← HV2.out, hx1, hz, hd3])
            clear hd hd2 hvb hd3 hz hx1 hy hy2
            go_wp2
            clear q1 q2 q3 q4 q5 q6 hyc
            go_round
            case rel => first | exact ⟨k + 1, x1, by omega, by go_num, rfl, HV3, HD2⟩ | ((repeat apply Exists.intro); exact ⟨⟨k + 1, x1, by omega, by go_num, rfl, HV3, HD2⟩, rfl⟩)
            case measure => (show m - ((k : Int) + 1).toNat < m - k; omega)
          · have HN := Lib.hid (lenL_bad HX.out.1 hy hkl (by simpa using hd))
            have hd2 : ¬ (48 ≤ y ∧ y ≤ 57) := fun h => hd (isDig_iff.2 h)
            clear hd hy hy2
            go_wp2
            all_goals first
              | (exfalso; omega)
              | (go_ret2; unfold lenV; rw [HN.out]; exact ⟨rfl, rfl⟩)
        · obtain rfl : k = m := by omega
          have HE := Lib.hid (lenL_is HX.out.1 HX.out.2.1 HX.out.2.2 (by have := H2.out; omega) (by have := H2.out; omega) HD.out)
          go_wp2
          go_ret2
          unfold lenV
          rw [HE.out, ← HV.out]
          exact ⟨rfl, rfl⟩
    · have HN := Lib.hid (lenL_end hlen hx h125)
      have q3 : ((x : Int) != 125) = true := by rw [bne_iff_ne]; omega
      clear hx h125 hx2 hlen hB h2
      go_enter Try.func40, Try.ntmps40
      go_wp2
      go_ret2
      unfold lenV
      rw [HN.out]
      exact ⟨rfl, rfl⟩
  · have HN := Lib.hid (lenL_short (r := l) (by rw [hlen]; exact h2))
    obtain ⟨i, hi⟩ : ∃ i : Int, i = (n : Int) - 1 := ⟨_, rfl⟩
    have e1 : IntKind.i64.wrap ((n : Int) - 1) = i := (IntWalk.i64_in _ (by omega)).trans (by omega)
    by_cases h1 : n < 2
    · have q1 : decide (i < 1) = true := decide_eq_true (by omega)
      clear hi h2 h1 hlen hB hn hnc
      go_enter Try.func40, Try.ntmps40
      go_wp2
      go_ret2
      unfold lenV
      rw [HN.out]
      exact ⟨rfl, rfl⟩
    · have q1 : decide (i < 1) = false := decide_eq_false (by omega)
      have q2 : decide (6 < i) = true := decide_eq_true (by omega)
      clear hi h2 h1 hlen hB hn hnc
      go_enter Try.func40, Try.ntmps40
      go_wp2
      go_ret2
      unfold lenV
      rw [HN.out]
      exact ⟨rfl, rfl⟩
/-- Where a byte stands last. -/
def LastAt (s : Nat) (l : List Nat) (i : Int) : Prop := (i = -1 ∧ ∀ x ∈ l, x ≠ s) ∨ ∃ k : Nat, i = (k : Int) ∧ k < l.length ∧ l[k]? = some s ∧ ∀ x ∈ l.drop (k + 1), x ≠ s
set_option maxHeartbeats 1000000 in
theorem lastIx_any (w : World) (A : Option Addr) (n c s : Nat) (l : List Nat) (hB : Bytes w A n l) (hn : n ≤ 1000000000) (hs : s < 256) :
    Calls Try.prog 47 #[.slice A n c, .int .u8 (s : Nat)] w fun e w' => ∃ i : Int, e = .returned (.int .i64 i) ∧ LastAt s l i ∧ w' = w := by
  have HL := Lib.hid hB.1
  have HB := Lib.hid hB
  clear hB
  go_enter Try.func47, Try.ntmps47
  go_wp2
  go_loop [5] (fun i => ∃ k : Int, -1 ≤ k ∧ k < n ∧ i = .int .i64 k ∧ Hid (∀ x ∈ l.drop (k + 1).toNat, x ≠ s)) (fun i => (intOf i + 1).toNat)
  case atStart => exact ⟨(n : Int) - 1, by omega, by omega, by first | rfl | (congr 1; exact (IntWalk.i64_in _ (by omega))), Lib.hid (by rw [List.drop_of_length_le (by have := HL.out; omega)]; simp)⟩
  case round =>
    obtain ⟨k, h1, hkn, rfl, HD⟩ := hrel
    by_cases hk : 0 ≤ k
    · obtain ⟨j, rfl⟩ := Int.eq_ofNat_of_zero_le hk
      obtain ⟨b, o, rfl, -⟩ := HB.out.2.2 (by omega)
      obtain ⟨y, hy, hy2, hyc⟩ := byte_at HB.out (show j < n by omega)
      by_cases h : y = s
      · have HZ := Lib.hid (show LastAt s l (j : Int) from .inr ⟨j, rfl, by have := HL.out; omega, by rw [hy, h], by have := HD.out; rwa [show ((j : Int) + 1).toNat = j + 1 by omega] at this⟩)
        have q1 : ((y : Int) == (s : Int)) = true := by rw [beq_iff_eq]; omega
        clear hy hy2 h
        go_wp2
        go_ret
        exact ⟨_, rfl, HZ.out, rfl⟩
      · have q1 : ((y : Int) == (s : Int)) = false := by rw [beq_eq_false_iff_ne]; omega
        have HD2 := Lib.hid (show ∀ x ∈ l.drop j, x ≠ s by
          have h2 := HD.out
          rw [show ((j : Int) + 1).toNat = j + 1 by omega] at h2
          obtain ⟨g1, g2⟩ := List.getElem?_eq_some_iff.1 hy
          rw [List.drop_eq_getElem_cons g1, g2]
          intro x hx
          rcases List.mem_cons.1 hx with rfl | hx
          · exact h
          · exact h2 x hx)
        clear hy hy2 h
        go_wp2
        go_round
        case rel => first | exact ⟨(j : Int) - 1, by omega, by omega, by go_num, Lib.hid (by rw [show ((j : Int) - 1 + 1).toNat = j by omega]; exact HD2.out)⟩ | ((repeat apply Exists.intro); exact ⟨⟨(j : Int) - 1, by omega, by omega, by go_num, Lib.hid (by rw [show ((j : Int) - 1 + 1).toNat = j by omega]; exact HD2.out)⟩, rfl⟩)
        case measure => (show ((j : Int) - 1 + 1).toNat < ((j : Int) + 1).toNat; omega)
    · obtain rfl : k = -1 := by omega
      have HZ := Lib.hid (show LastAt s l (-1) from .inl ⟨rfl, by have := HD.out; simpa using this⟩)
      go_wp2
      go_ret
      exact ⟨_, rfl, HZ.out, rfl⟩
theorem lastIx_bytes (w : World) (A : Option Addr) (n c s : Nat) (l : List Nat) (hB : Bytes w A n l) (hn : n ≤ 1000000000) (hs : s < 256) :
    Calls Try.prog 44 #[.slice A n c, .int .u8 (s : Nat)] w fun e w' => ∃ i : Int, e = .returned (.int .i64 i) ∧ LastAt s l i ∧ w' = w := by
  have HC := Lib.hid (lastIx_any w A n c s l hB hn hs)
  clear hB
  go_enter Try.func44, Try.ntmps44
  go_wp2_with fail
  refine HC.out.mono ?_
  rintro e w1 ⟨i, rfl, hi, hw⟩
  replace hw := hw.symm
  subst hw
  have HI := Lib.hid hi
  clear hi
  go_wp2
  go_ret
  exact ⟨i, rfl, HI.out, rfl⟩
def litV (l : List Nat) : Value := .tuple #[.int .i64 ((litL l).getD 0 : Nat), .bool (litL l).isSome]
theorem last_behind {l : List Nat} {k s : Nat} (h1 : l[k]? = some s) (h2 : ∀ x ∈ l.drop (k + 1), x ≠ s) : behind s l = some (l.drop (k + 1)) := by
  obtain ⟨g1, g2⟩ := List.getElem?_eq_some_iff.1 h1
  have e : l = l.take k ++ s :: l.drop (k + 1) := by
    have h3 := List.drop_eq_getElem_cons g1
    rw [g2] at h3
    rw [← h3, List.take_append_drop]
  have h4 := behind_at h2 (l.take k)
  rw [← e] at h4
  exact h4
set_option maxHeartbeats 1000000 in
theorem lastLit_any (w : World) (A : Option Addr) (n c : Nat) (l : List Nat) (hS : Sl w A n c l) (hn : n ≤ 1000000000) :
    Calls Try.prog 34 #[.slice A n c] w fun e w' => e = .returned (litV l) ∧ w' = w := by
  have HC := Lib.hid (lastIx_bytes w A n c 123 l hS.1 hn (by decide))
  have HL := Lib.hid hS.1.1
  have HS := Lib.hid hS
  have hnc := hS.2.1
  clear hS
  go_enter Try.func34, Try.ntmps34
  go_wp2_with fail
  refine HC.out.mono ?_
  rintro e w1 ⟨i, rfl, hi, hw⟩
  replace hw := hw.symm
  subst hw
  rcases hi with ⟨rfl, h⟩ | ⟨k, rfl, hk, h1, h2⟩
  · have HN := Lib.hid (show litL l = none by unfold litL; rw [behind_none h]; rfl)
    clear h
    go_wp2
    go_ret2
    unfold litV
    rw [HN.out]
    exact ⟨rfl, rfl⟩
  · have HN := Lib.hid (show litL l = lenL (l.drop (k + 1)) by unfold litL; rw [last_behind h1 h2]; rfl)
    rw [HL.out] at hk
    have e1 : IntKind.i64.wrap ((k : Int) + 1) = (k : Int) + 1 := IntWalk.i64_in _ (by omega)
    have t1 : ((k : Int) + 1).toNat = k + 1 := by omega
    have b1 : (0 : Int) ≤ (k : Int) + 1 := by omega
    have b2 : (k : Int) + 1 ≤ (n : Int) := by omega
    have q0 : decide ((k : Int) < 0) = false := decide_eq_false (by omega)
    have HB := Lib.hid (fun m (hm : m ≤ n) => HS.out.rest m hm)
    have HK := Lib.hid hk
    clear h1 h2
    by_cases hc : c = k + 1
    · have h3 := HB.out (k + 1) (by have := HK.out; omega)
      rw [if_pos hc] at h3
      have HT := Lib.hid (litLen_any w A (n - (k + 1)) (c - (k + 1)) _ h3.1 (by omega) (by omega))
      have e2 : c - (k + 1) = 0 := by omega
      have e3 : n - (k + 1) = 0 := by omega
      rw [e2, e3] at HT
      clear h3 hc hk
      go_wp2_with fail
      refine HT.out.mono ?_
      rintro e w1 ⟨rfl, hw⟩
      replace hw := hw.symm
      subst hw
      unfold lenV
      rw [← HN.out]
      go_wp2
      go_ret2
      unfold litV
      exact ⟨rfl, rfl⟩
    · have h3 := HB.out (k + 1) (by have := HK.out; omega)
      rw [if_neg hc] at h3
      have HT := Lib.hid (litLen_any w _ (n - (k + 1)) (c - (k + 1)) _ h3.1 (by omega) (by omega))
      have e2 : ¬ c - (k + 1) = 0 := by omega
      clear h3 hc hk
      go_wp2_with fail
      refine HT.out.mono ?_
      rintro e w1 ⟨rfl, hw⟩
      replace hw := hw.symm
      subst hw
      unfold lenV
      rw [← HN.out]
      go_wp2
      go_ret2
      unfold litV
      exact ⟨rfl, rfl⟩
end Go.Proofs.Ytihcgbjmgfgenaa.lx
