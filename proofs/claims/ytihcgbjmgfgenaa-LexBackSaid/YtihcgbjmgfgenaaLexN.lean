/- The document's reading of a line: the literal that it asks for, and its first bytes. -/
import Derived.Test.YtihcgbjmgfgenaaLexL
namespace Go.Proofs.Ytihcgbjmgfgenaa.lx
open Go.ChangeShapes Go.WideShapes Go.ChangeAt Go.RowKit
open Go.Proofs.Ytihcgbjmgfgenaa.codec (Bytes vals)
open Go.Proofs.Ytihcgbjmgfgenaa.row
set_option linter.unusedVariables false
set_option maxRecDepth 100000
set_option linter.unusedSimpArgs false

theorem strOf_rest (l : List Nat) (a b : Nat) (hb : l.length ≤ b) : (strOf l).extract a b = strOf (l.drop a) := by
  apply ByteArray.ext
  rw [ByteArray.data_extract]
  apply Array.toList_inj.1
  rw [Array.toList_extract, List.extract_eq_take_drop]
  show ((l.map UInt8.ofNat).drop a).take (b - a) = (l.drop a).map UInt8.ofNat
  rw [List.map_drop, List.take_of_length_le (by rw [List.length_drop, List.length_map]; omega)]
theorem strOf_append (a b : List Nat) : strOf a ++ strOf b = strOf (a ++ b) := by
  apply ByteArray.ext
  rw [ByteArray.data_append]
  simp [strOf]
theorem some_any (w : World) (l : List Nat) (s : ByteArray) (hs : s = strOf l) :
    Calls Try.prog 14 #[.string s] w fun e w' => e = .returned (.string (strOf (l.take 100))) ∧ w' = w := by
  have hE : s.extract 0 (min s.size 100) = strOf (l.take 100) := by
    rw [hs, strOf_take, strOf_size]
    congr 1
    rw [List.take_eq_take_iff]
    omega
  have HE := Lib.hid hE
  have e1 : min (s.size : Int) 100 = ((min s.size 100 : Nat) : Int) := by omega
  obtain ⟨k, hk⟩ : ∃ k, k = min s.size 100 := ⟨_, rfl⟩
  rw [← hk] at e1 HE
  have hks : k ≤ s.size := by omega
  clear hs hE hk
  go_enter Try.func14, Try.ntmps14
  go_wp2
  go_ret
  exact ⟨by first | (rw [← HE.out]; rfl) | (simp [← HE.out]), rfl⟩
theorem foldl_val (ds : List Nat) (v : Nat) : ds.foldl (fun n c => 10 * n + (c - 48)) v = v * 10 ^ ds.length + valL ds := by
  unfold valL
  induction ds generalizing v with
  | nil => simp
  | cons x r ih =>
    rw [List.foldl_cons, List.foldl_cons, ih, ih (10 * 0 + (x - 48)), List.length_cons, Nat.pow_succ]
    rw [Nat.add_mul, Nat.mul_zero, Nat.zero_add, Nat.mul_comm 10 v, Nat.mul_assoc v 10, Nat.mul_comm 10]
    omega
theorem valL_cons (x : Nat) (ds : List Nat) : valL (x :: ds) = valL ds + 10 ^ ds.length * (x - 48) := by
  show (x :: ds).foldl (fun n c => 10 * n + (c - 48)) 0 = _
  rw [List.foldl_cons, foldl_val, Nat.mul_zero, Nat.zero_add, Nat.mul_comm]
  omega
def wantsZ (l : List Nat) : Int := match litL l with
  | some n => (n : Int)
  | none => -1
/-- The last cnt bytes ahead of the end. -/
def tl (l : List Nat) (m cnt : Nat) : List Nat := (l.take m).drop (m - cnt)
theorem tl_length {l : List Nat} {m cnt : Nat} (hm : m ≤ l.length) (hc : cnt ≤ m) : (tl l m cnt).length = cnt := by
  unfold tl
  rw [List.length_drop, List.length_take]
  omega
theorem tl_next {l : List Nat} {m cnt y : Nat} (hm : m ≤ l.length) (hc : cnt < m) (hy : l[m - 1 - cnt]? = some y) : tl l m (cnt + 1) = y :: tl l m cnt := by
  unfold tl
  have h1 : (l.take m)[m - (cnt + 1)]? = some y := by
    rw [List.getElem?_take, if_pos (by omega), show m - (cnt + 1) = m - 1 - cnt by omega]
    exact hy
  obtain ⟨g1, g2⟩ := List.getElem?_eq_some_iff.1 h1
  rw [List.drop_eq_getElem_cons g1, g2, show m - (cnt + 1) + 1 = m - cnt by omega]
theorem tl_form {l : List Nat} {m cnt : Nat} (hl : l.length = m + 1) (hx : l[m]? = some 125) (hc : cnt ≤ m) : l = l.take (m - cnt) ++ tl l m cnt ++ [125] := by
  have h1 : l.take (m - cnt) ++ tl l m cnt = l.take m := by
    have h2 := List.take_append_drop (m - cnt) (l.take m)
    rw [List.take_take, show min (m - cnt) m = m - cnt by omega] at h2
    exact h2
  rw [h1]
  have h3 := List.take_append_drop m l
  obtain ⟨g1, g2⟩ := List.getElem?_eq_some_iff.1 hx
  rw [List.drop_eq_getElem_cons g1, g2, List.drop_of_length_le (by omega)] at h3
  exact h3.symm
theorem pre_last {l : List Nat} {m cnt y : Nat} (hc : cnt < m) (hy : l[m - 1 - cnt]? = some y) : l.take (m - cnt) = l.take (m - cnt - 1) ++ [y] := by
  have h : m - cnt = (m - 1 - cnt) + 1 := by omega
  rw [h, List.take_add_one, hy]
  simp
theorem wants_head {l : List Nat} {m cnt : Nat} (hl : l.length = m + 1) (hx : l[m]? = some 125) (hc : cnt = m) (hd : ∀ x ∈ tl l m cnt, isDig x = true) : litL l = none := by
  rw [tl_form hl hx (Nat.le_of_eq hc)]
  refine litL_none hd (.inl ?_)
  rw [hc, Nat.sub_self]
  rfl
theorem wants_bad {l : List Nat} {m cnt y : Nat} (hl : l.length = m + 1) (hx : l[m]? = some 125) (hc : cnt < m) (hd : ∀ x ∈ tl l m cnt, isDig x = true) (hy : l[m - 1 - cnt]? = some y)
    (h : (isDig y = false ∧ (y ≠ 123 ∨ cnt = 0)) ∨ 7 ≤ cnt) : litL l = none := by
  rw [tl_form hl hx (Nat.le_of_lt hc)]
  refine litL_none hd (.inr ?_)
  rw [tl_length (by omega) (Nat.le_of_lt hc)]
  rcases h with ⟨h1, h2⟩ | h
  · exact .inl ⟨_, y, pre_last hc hy, h1, h2⟩
  · exact .inr h
theorem wants_good {l : List Nat} {m cnt : Nat} (hl : l.length = m + 1) (hx : l[m]? = some 125) (hc : cnt < m) (hd : ∀ x ∈ tl l m cnt, isDig x = true) (hy : l[m - 1 - cnt]? = some 123) (h1 : 1 ≤ cnt) (h6 : cnt ≤ 6) : litL l = some (valL (tl l m cnt)) := by
  have hlen := tl_length (l := l) (m := m) (cnt := cnt) (by omega) (Nat.le_of_lt hc)
  have h2 := litL_at (l.take (m - cnt - 1)) (tl l m cnt) (by omega) (by omega) hd
  have h3 := tl_form hl hx (Nat.le_of_lt hc)
  rw [pre_last hc hy] at h3
  have h4 : l = l.take (m - cnt - 1) ++ 123 :: (tl l m cnt ++ [125]) := by
    rw [List.append_assoc, List.append_assoc] at h3
    exact h3
  rw [← h4] at h2
  exact h2
set_option maxHeartbeats 2000000 in
theorem wants_any (w : World) (l : List Nat) (s : ByteArray) (hs : s = strOf l) (hb : ∀ x ∈ l, x < 256) (hn : l.length ≤ 1000000) :
    Calls Try.prog 13 #[.string s] w fun e w' => e = .returned (.int .i64 (wantsZ l)) ∧ w' = w := by
  have hsz : s.size = l.length := by rw [hs, strOf_size]
  have hat : ∀ (i y : Nat) (h : i < s.size), l[i]? = some y → (s[i]'h).toNat = y := fun i y h hy => by
    rw [byt_at, hs]
    exact byt_strOf hb hy
  rcases Nat.eq_zero_or_pos l.length with h0 | h0
  · obtain rfl : l = [] := List.eq_nil_of_length_eq_zero h0
    have hn : s.toList = [] := by rw [ByteArray.toList_eq, hs]; rfl
    have hi : s.toList.isEmpty = true := by rw [hn]; rfl
    clear hsz hat hs
    go_enter Try.func13, Try.ntmps13
    go_wp2
    go_ret
    exact ⟨rfl, rfl⟩
  · obtain ⟨m, hm⟩ : ∃ m, l.length = m + 1 := ⟨l.length - 1, by omega⟩
    have hne : ¬ s.toList = [] := by
      rw [ByteArray.toList_eq, hs]
      intro e
      have e2 : l = [] := by simpa [strOf] using e
      rw [e2] at hm
      simp at hm
    have hi : s.toList.isEmpty = false := by rw [List.isEmpty_eq_false_iff]; exact hne
    obtain ⟨x, hx⟩ : ∃ x, l[m]? = some x := ⟨_, List.getElem?_eq_getElem (by omega)⟩
    rw [hm] at hsz
    have hms : m < s.size := by omega
    have e0 := hat m x hms hx
    have e1 : IntKind.i64.wrap ((s.size : Int) - 1) = (m : Int) := (IntWalk.i64_in _ (by omega)).trans (by omega)
    have HM := Lib.hid (And.intro hm (And.intro hx hsz))
    have HAt := Lib.hid hat
    have HS := Lib.hid hs
    clear hs hat
    by_cases h125 : x = 125
    · have q1 : ((x : Int) != 125) = false := by rw [bne_eq_false_iff_eq]; omega
      have e2 : IntKind.i64.wrap ((s.size : Int) - 2) = (m : Int) - 1 := (IntWalk.i64_in _ (by omega)).trans (by omega)
      have H125 := Lib.hid h125
      clear hx h125 h0 hm
      clear hsz
      go_enter Try.func13, Try.ntmps13
      go_wp2
      clear hne hi e0 e1 e2 q1 hms
      go_loop [3, 4, 5, 6] (fun i n b c => ∃ (cnt : Nat) (q : Int) (v p : Nat), cnt ≤ 7 ∧ cnt ≤ m ∧ i = .int .i64 q ∧ n = .int .i64 v ∧ b = .int .i64 p ∧ c = .int .i64 cnt ∧ Hid (q = (m : Int) - 1 - cnt ∧ v = valL (tl l m cnt) ∧ p = 10 ^ cnt ∧ ∀ x ∈ tl l m cnt, isDig x = true)) (fun i _ _ _ => (intOf i + 1).toNat)
      case atStart =>
        refine ⟨0, (m : Int) - 1, 0, 1, by omega, Nat.zero_le _, rfl, rfl, rfl, rfl, Lib.hid ⟨by omega, ?_, rfl, ?_⟩⟩
        · have := tl_length (l := l) (m := m) (cnt := 0) (by have := HM.out.1; omega) (Nat.zero_le _)
          rw [List.eq_nil_of_length_eq_zero this]
          rfl
        · have := tl_length (l := l) (m := m) (cnt := 0) (by have := HM.out.1; omega) (Nat.zero_le _)
          rw [List.eq_nil_of_length_eq_zero this]
          simp
      case round =>
        obtain ⟨cnt, q, v, p, hc7, hcm, rfl, rfl, rfl, rfl, HQ⟩ := hrel
        by_cases hlt : cnt < m
        · obtain ⟨j, hj⟩ : ∃ j, j = m - 1 - cnt := ⟨_, rfl⟩
          obtain ⟨y, hy⟩ : ∃ y, l[j]? = some y := ⟨_, List.getElem?_eq_getElem (by have := HM.out.1; omega)⟩
          have hjs : j < s.size := by have := HM.out.2.2; omega
          have e0 := HAt.out j y hjs hy
          obtain rfl : q = (j : Int) := by have := HQ.out.1; omega
          have hy256 : y < 256 := hb y (List.mem_of_getElem? hy)
          rw [hj] at hy
          have HY := Lib.hid hy
          have HJ := Lib.hid (And.intro hj hlt)
          clear hj hy hlt hb
          by_cases hd : 48 ≤ y ∧ y ≤ 57 ∧ cnt < 7
          · obtain ⟨d1, d2, d3⟩ := hd
            have q1 : decide ((48 : Int) ≤ (y : Int)) = true := decide_eq_true (by omega)
            have q2 : decide ((y : Int) ≤ 57) = true := decide_eq_true (by omega)
            have q3 : decide ((cnt : Int) < 7) = true := decide_eq_true (by omega)
            have q4 : decide (cnt < 7) = true := decide_eq_true (by omega)
            obtain ⟨Q1, Q2, Q3, Q4⟩ := HQ.out
            have hp6 : p ≤ 1000000 := by
              rw [Q3]
              exact Nat.pow_le_pow_right (n := 10) (by decide) (show cnt ≤ 6 by omega)
            have hml := HM.out.1
            have hv := valL_lt _ Q4
            rw [tl_length (by omega) hcm, ← Q2, ← Q3] at hv
            have HD : isDig y = true := isDig_iff.2 ⟨d1, d2⟩
            obtain ⟨hj, hlt⟩ := HJ.out
            have HQ2 := Lib.hid (show v + p * (y - 48) = valL (tl l m (cnt + 1)) ∧ p * 10 = 10 ^ (cnt + 1) ∧ ∀ x ∈ tl l m (cnt + 1), isDig x = true from by
              rw [tl_next (by omega) hlt HY.out, valL_cons, tl_length (by omega) hcm, Q2, Q3]
              refine ⟨rfl, rfl, fun x hx => ?_⟩
              rcases List.mem_cons.1 hx with rfl | hx
              · exact HD
              · exact Q4 x hx)
            obtain ⟨d, hdd⟩ : ∃ d, d = y - 48 := ⟨_, rfl⟩
            obtain ⟨z, hz⟩ : ∃ z, z = p * d := ⟨_, rfl⟩
            have hzb : z ≤ 9000000 := by
              have := Nat.mul_le_mul hp6 (show d ≤ 9 by omega)
              omega
            obtain ⟨v2, hv2⟩ : ∃ v2, v2 = v + z := ⟨_, rfl⟩
            obtain ⟨p2, hp2⟩ : ∃ p2, p2 = p * 10 := ⟨_, rfl⟩
            obtain ⟨j1, hj1⟩ : ∃ j1 : Int, j1 = (j : Int) - 1 := ⟨_, rfl⟩
            have e3 : IntKind.u8.wrap ((y : Int) - 48) = (d : Int) := (IntWalk.u8_in _ (by omega)).trans (by omega)
            have e4 : IntKind.i64.wrap (d : Int) = (d : Int) := IntWalk.i64_in _ (by omega)
            have e5 : IntKind.i64.wrap ((p : Int) * (d : Int)) = (z : Int) := by
              rw [← Int.natCast_mul, ← hz]
              exact IntWalk.i64_in _ (by omega)
            have e6 : IntKind.i64.wrap ((v : Int) + (z : Int)) = (v2 : Int) := (IntWalk.i64_in _ (by omega)).trans (by omega)
            have e7 : IntKind.i64.wrap ((p : Int) * 10) = (p2 : Int) := (IntWalk.i64_in _ (by omega)).trans (by omega)
            have e8 : IntKind.i64.wrap ((j : Int) - 1) = j1 := (IntWalk.i64_in _ (by omega)).trans (by omega)
            have e9 : IntKind.i64.wrap ((cnt : Int) + 1) = (cnt : Int) + 1 := IntWalk.i64_in _ (by omega)
            have HZ := Lib.hid (show j1 = (m : Int) - 1 - ((cnt + 1 : Nat) : Int) ∧ v2 = valL (tl l m (cnt + 1)) ∧ p2 = 10 ^ (cnt + 1) ∧ ∀ x ∈ tl l m (cnt + 1), isDig x = true from by
              refine ⟨by omega, ?_, ?_, HQ2.out.2.2⟩
              · rw [hv2, hz, hdd]
                exact HQ2.out.1
              · rw [hp2]
                exact HQ2.out.2.1)
            have HC := Lib.hid (show cnt + 1 ≤ 7 ∧ cnt + 1 ≤ m ∧ j1 = (j : Int) - 1 by omega)
            clear d1 d2 d3 Q1 Q2 Q3 Q4 hp6 hml hv HD hj hlt hdd hz hzb hv2 hp2 hj1 hy256
            go_wp2
            clear e3 e4 e5 e6 e7 e8 e9 q1 q2 q3 q4 e0
            go_round
            case rel => first | exact ⟨cnt + 1, j1, v2, p2, HC.out.1, HC.out.2.1, rfl, rfl, rfl, by go_num, HZ⟩ | ((repeat apply Exists.intro); exact ⟨⟨cnt + 1, j1, v2, p2, HC.out.1, HC.out.2.1, rfl, rfl, rfl, by go_num, HZ⟩, rfl⟩)
            case measure => (show (j1 + 1).toNat < ((j : Int) + 1).toNat; have := HC.out.2.2; omega)
          · have HN : Hid ((y = 123 ∧ 1 ≤ cnt ∧ cnt ≤ 6 ∧ wantsZ l = (v : Int)) ∨ (¬ (y = 123 ∧ 1 ≤ cnt ∧ cnt ≤ 6) ∧ wantsZ l = -1)) := Lib.hid (by
              obtain ⟨Q1, Q2, Q3, Q4⟩ := HQ.out
              have h125 := HM.out.2.1
              rw [H125.out] at h125
              by_cases hg : y = 123 ∧ 1 ≤ cnt ∧ cnt ≤ 6
              · refine .inl ⟨hg.1, hg.2.1, hg.2.2, ?_⟩
                have hy := HY.out
                rw [hg.1] at hy
                unfold wantsZ
                rw [wants_good HM.out.1 h125 HJ.out.2 Q4 hy hg.2.1 hg.2.2, Q2]
              · refine .inr ⟨hg, ?_⟩
                unfold wantsZ
                rw [wants_bad HM.out.1 h125 HJ.out.2 Q4 HY.out (by
                  by_cases h7 : 7 ≤ cnt
                  · exact .inr h7
                  · refine .inl ⟨?_, by omega⟩
                    cases hdd : isDig y with
                    | false => rfl
                    | true => exact absurd (isDig_iff.1 hdd) (by omega))])
            have q0 : decide ((j : Int) < 0) = false := decide_eq_false (by omega)
            rcases HN.out with ⟨g1, g2, g3, hW⟩ | ⟨hg, hW⟩
            · have hg : True := trivial
              have q1 : decide ((48 : Int) ≤ (y : Int)) = true := decide_eq_true (by omega)
              have q2 : decide ((y : Int) ≤ 57) = false := decide_eq_false (by omega)
              have q5 : ((y : Int) != 123) = false := by rw [bne_eq_false_iff_eq]; omega
              have q6 : decide ((cnt : Int) < 1) = false := decide_eq_false (by omega)
              have q6b : decide (cnt < 1) = false := decide_eq_false (by omega)
              have q7 : decide ((6 : Int) < (cnt : Int)) = false := decide_eq_false (by omega)
              have q7b : decide (6 < cnt) = false := decide_eq_false (by omega)
              clear g1 g2 g3
              clear hd hg hy256
              go_wp2
              go_ret
              exact ⟨by first | rfl | (rw [hW]; rfl), rfl⟩
            · by_cases g1 : y = 123
              · by_cases g2 : cnt = 0
                · have q1 : decide ((48 : Int) ≤ (y : Int)) = true := decide_eq_true (by omega)
                  have q2 : decide ((y : Int) ≤ 57) = false := decide_eq_false (by omega)
                  have q5 : ((y : Int) != 123) = false := by rw [bne_eq_false_iff_eq]; omega
                  have q6 : decide ((cnt : Int) < 1) = true := decide_eq_true (by omega)
                  have q6b : decide (cnt < 1) = true := decide_eq_true (by omega)
                  clear g1 g2
                  clear hd hg hy256
                  go_wp2
                  go_ret
                  exact ⟨by first | rfl | (rw [hW]; rfl), rfl⟩
                · have q1 : decide ((48 : Int) ≤ (y : Int)) = true := decide_eq_true (by omega)
                  have q2 : decide ((y : Int) ≤ 57) = false := decide_eq_false (by omega)
                  have q5 : ((y : Int) != 123) = false := by rw [bne_eq_false_iff_eq]; omega
                  have q6 : decide ((cnt : Int) < 1) = false := decide_eq_false (by omega)
                  have q6b : decide (cnt < 1) = false := decide_eq_false (by omega)
                  have q7 : decide ((6 : Int) < (cnt : Int)) = true := decide_eq_true (by omega)
                  have q7b : decide (6 < cnt) = true := decide_eq_true (by omega)
                  clear g1 g2
                  clear hd hg hy256
                  go_wp2
                  go_ret
                  exact ⟨by first | rfl | (rw [hW]; rfl), rfl⟩
              · by_cases g2 : y < 48
                · have q1 : decide ((48 : Int) ≤ (y : Int)) = false := decide_eq_false (by omega)
                  have q5 : ((y : Int) != 123) = true := by rw [bne_iff_ne]; omega
                  clear g1 g2
                  clear hd hg hy256
                  go_wp2
                  go_ret
                  exact ⟨by first | rfl | (rw [hW]; rfl), rfl⟩
                · by_cases g3 : 57 < y
                  · have q1 : decide ((48 : Int) ≤ (y : Int)) = true := decide_eq_true (by omega)
                    have q2 : decide ((y : Int) ≤ 57) = false := decide_eq_false (by omega)
                    have q5 : ((y : Int) != 123) = true := by rw [bne_iff_ne]; omega
                    clear g1 g2 g3
                    clear hd hg hy256
                    go_wp2
                    go_ret
                    exact ⟨by first | rfl | (rw [hW]; rfl), rfl⟩
                  · have q1 : decide ((48 : Int) ≤ (y : Int)) = true := decide_eq_true (by omega)
                    have q2 : decide ((y : Int) ≤ 57) = true := decide_eq_true (by omega)
                    have q3 : decide ((cnt : Int) < 7) = false := decide_eq_false (by omega)
                    have q4 : decide (cnt < 7) = false := decide_eq_false (by omega)
                    have q5 : ((y : Int) != 123) = true := by rw [bne_iff_ne]; omega
                    clear g1 g2 g3
                    clear hd hg hy256
                    go_wp2
                    go_ret
                    exact ⟨by first | rfl | (rw [hW]; rfl), rfl⟩
        · obtain rfl : cnt = m := by omega
          have HW := Lib.hid (show wantsZ l = -1 by
            obtain ⟨Q1, Q2, Q3, Q4⟩ := HQ.out
            have h125 := HM.out.2.1
            rw [H125.out] at h125
            unfold wantsZ
            rw [wants_head HM.out.1 h125 rfl Q4])
          obtain rfl : q = -1 := by have := HQ.out.1; omega
          clear hb hlt
          go_wp2
          go_ret
          exact ⟨by rw [HW.out]; rfl, rfl⟩
    · have HN := Lib.hid (show wantsZ l = -1 by
        unfold wantsZ
        rw [litL_end (by rw [List.getLast?_eq_getElem?, hm, Nat.add_sub_cancel, hx]; simpa using h125)])
      have q1 : ((x : Int) != 125) = true := by rw [bne_iff_ne]; omega
      clear hx h125 h0 hm hsz
      go_enter Try.func13, Try.ntmps13
      go_wp2
      go_ret
      exact ⟨by rw [HN.out]; rfl, rfl⟩
end Go.Proofs.Ytihcgbjmgfgenaa.lx
