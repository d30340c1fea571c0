/- A set, as the document reads it. -/
import Derived.Test.YtmooeadeihgbdaaSqJ
import Derived.Test.YtmooeadeihgbdaaSqE
import Derived.Test.YtmooeadeihgbdaaSqG
namespace Go.Proofs.Ytmooeadeihgbdaa.sq
open Go.ChangeShapes Go.WideShapes Go.ChangeAt Go.RowKit
open Go.Proofs.Ytmooeadeihgbdaa.row
set_option linter.unusedVariables false
set_option maxRecDepth 100000
set_option linter.unusedSimpArgs false

theorem splitC_size {c : UInt8} : ∀ {l p : List UInt8}, p ∈ splitC c l → p.length ≤ l.length
  | [], p, h => by
    simp [splitC] at h
    subst h
    exact Nat.le_refl _
  | b :: l, p, h => by
    rw [splitC] at h
    split at h
    · rcases List.mem_cons.1 h with rfl | h
      · exact Nat.zero_le _
      · have := splitC_size h
        rw [List.length_cons]
        omega
    · rcases List.mem_cons.1 h with rfl | h
      · have h2 : (splitC c l).headD [] ∈ splitC c l := by
          have := splitC_ne c l
          cases hs : splitC c l with
          | nil => exact absurd hs this
          | cons a r => simp
        have := splitC_size h2
        rw [List.length_cons, List.length_cons]
        omega
      · have := splitC_size (List.mem_of_mem_tail h)
        rw [List.length_cons]
        omega
theorem splitC_count {c : UInt8} : ∀ l : List UInt8, (splitC c l).length ≤ l.length + 1
  | [] => by simp [splitC]
  | b :: l => by
    have := splitC_count (c := c) l
    have h2 := List.length_pos_iff.2 (splitC_ne c l)
    rw [splitC]
    split
    · rw [List.length_cons, List.length_cons]; omega
    · rw [List.length_cons, List.length_tail, List.length_cons]; omega
theorem atS {w : World} {A : Option Addr} {n : Nat} {ys : List ByteArray} (h : Rd cS 1 w A n ys) (k : Nat) (hk : k < n) : ∃ b o y, A = some ⟨b, o, none⟩ ∧ ys[k]? = some y ∧ w.cell? ⟨b, o + k, none⟩ = some (.string y) := by
  obtain ⟨b, o, y, h1, h2, h3⟩ := h.2 k hk
  exact ⟨b, o, y, h1, h2, by have := h3 0 _ rfl; simpa using this⟩
theorem partL_of {q a z : List UInt8} {f t m : Nat} {b d : Bool} (ha : (splitC 58 q).headD [] = a) (hz : (splitC 58 q).getLastD [] = z) (hm : (splitC 58 q).length = m)
    (h1 : b = true → numL a = some f) (h2 : b = false → numL a = none) (h3 : d = true → numL z = some t) (h4 : d = false → numL z = none) : partL q = if b = true ∧ d = true ∧ m ≤ 2 then some ⟨f, t⟩ else none := by
  rw [partL_doc, ha, hz, hm]
  cases b with
  | false => rw [h2 rfl]; simp
  | true =>
    rw [h1 rfl]
    cases d with
    | false => rw [h4 rfl]; simp
    | true =>
      rw [h3 rfl]
      by_cases h : 2 < m
      · simp [h]
      · simp [h, show m ≤ 2 by omega]
theorem parts_drop {pl : List (List UInt8)} {k : Nat} {q : List UInt8} (h : pl[k]? = some q) : parts (pl.drop k) = (partL q).bind fun x => (parts (pl.drop (k + 1))).map fun l => x :: l := by
  obtain ⟨h1, h2⟩ := List.getElem?_eq_some_iff.1 h
  rw [List.drop_eq_getElem_cons h1, h2, parts]
  cases partL q with
  | none => rfl
  | some x => cases parts (pl.drop (k + 1)) <;> rfl
/-- Parts that have been read. -/
def DS (W : World) (l : List UInt8) (k : Nat) (acc : List X) (v : Value) (w : World) : Prop :=
  Own cX 2 W.heap.size 31 w v acc ∧ Below W.heap.size W w ∧ acc.length ≤ k ∧ setL l = (parts ((splitC 44 l).drop k)).map fun r => acc ++ r
theorem last_at {α β : Type} {f : α → β} {l : List α} {y : α} {m : Nat} {d : β} (hm : l.length = m + 1) (h : l[m]? = some y) : (l.map f).getLastD d = f y := by
  rw [List.getLastD_eq_getLast?, List.getLast?_map, List.getLast?_eq_getElem?, hm, Nat.add_sub_cancel, h]
  rfl
set_option maxHeartbeats 4000000 in
theorem rset_any (W : World) (s : ByteArray) (hs : s.size ≤ 1000000) :
    Calls Try.prog 8 #[.string s] W fun e w' => SetAns W (setL s.data.toList) e w' := by
  have HC := Lib.hid (split_any W s 44 hs)
  go_enter Try.func8, Try.ntmps8
  go_wp2_with fail
  refine HC.out.mono ?_
  rintro e w1 ⟨A, c1, ps, rfl, hR, hps, hb⟩
  have HR := Lib.hid hR
  have HB := Lib.hid hb
  have HP := Lib.hid hps
  obtain ⟨n, hn⟩ : ∃ n, n = ps.length := ⟨_, rfl⟩
  rw [← hn] at HR ⊢
  have HN := Lib.hid (show (splitC 44 s.data.toList).length = n by rw [show s.data.toList = toL s from rfl, ← hps, List.length_map, hn])
  clear hR hb hps hn
  by_cases h100 : n ≤ 100
  · have q1 : decide ((100 : Int) < (n : Int)) = false := decide_eq_false (by omega)
    have HD0 := Lib.hid (show DS w1 s.data.toList 0 [] (.slice none 0 0) w1 from ⟨Own.nil _ _ _ _ _, Below.refl _ _, Nat.zero_le _, by
      unfold setL
      rw [if_pos (by rw [HN.out]; exact h100), List.drop_zero]
      cases parts (splitC 44 s.data.toList) <;> rfl⟩)
    go_wp2_with fail
    clear q1
    go_loopw [5, 19] (fun v i wr => ∃ (k : Nat) (acc : List X), k ≤ n ∧ i = .int .i64 k ∧ Hid (DS w1 s.data.toList k acc v wr) ∧ Hid (Below w1.heap.size w1 wr)) (fun _ i _ => n - (intOf i).toNat)
    case atStart => exact ⟨0, [], Nat.zero_le _, rfl, HD0, Lib.hid (Below.refl _ _)⟩
    case round =>
      obtain ⟨k, acc, hk, rfl, HD, HL⟩ := hrel
      by_cases hlt : k < n
      · obtain ⟨b, o, y, rfl, hy, c0⟩ := atS (HR.out.below HL.out) k hlt
        have hlt' : (k : Int) < (n : Int) := by omega
        have hq : (splitC 44 s.data.toList)[k]? = some (toL y) := by
          rw [show s.data.toList = toL s from rfl, ← HP.out, List.getElem?_map, hy]; rfl
        have hys : y.size ≤ 1000000 := by
          have h1 := splitC_size (List.mem_of_getElem? hq)
          rw [show (toL y).length = y.size from len_eq y, len_eq] at h1
          omega
        have HQ := Lib.hid (parts_drop hq)
        have HSp := Lib.hid (split_any wr y 58 hys)
        clear hy
        go_wp2_with fail
        refine HSp.out.mono ?_
        rintro e w2 ⟨B, c2, rs, rfl, hR2, hrs, hb2⟩
        obtain ⟨m, hm⟩ : ∃ m, rs.length = m + 1 := by
          have h1 := congrArg List.length hrs
          have h2 := List.length_pos_iff.2 (splitC_ne 58 (toL y))
          rw [List.length_map] at h1
          exact ⟨rs.length - 1, by omega⟩
        obtain ⟨m1, hm1⟩ : ∃ m1, m1 = rs.length := ⟨_, rfl⟩
        rw [← hm1] at hR2 ⊢
        obtain ⟨b2, o2, y0, rfl, hy0, d0⟩ := atS hR2 0 (by omega)
        obtain ⟨b3, o3, y1, he3, hy1, d1⟩ := atS hR2 m (by omega)
        cases he3
        have hy0s : y0.size ≤ 1000000 := by
          have h1 := splitC_size (c := 58) (l := toL y) (p := toL y0) (by rw [← hrs]; exact List.mem_map.2 ⟨y0, List.mem_of_getElem? hy0, rfl⟩)
          rw [show (toL y).length = y.size from len_eq y, show (toL y0).length = y0.size from len_eq y0] at h1
          omega
        have hy1s : y1.size ≤ 1000000 := by
          have h1 := splitC_size (c := 58) (l := toL y) (p := toL y1) (by rw [← hrs]; exact List.mem_map.2 ⟨y1, List.mem_of_getElem? hy1, rfl⟩)
          rw [show (toL y).length = y.size from len_eq y, show (toL y1).length = y1.size from len_eq y1] at h1
          omega
        have hhd : (splitC 58 (toL y)).headD [] = y0.data.toList := by
          rw [← hrs]
          cases rs with
          | nil => cases hy0
          | cons a r => simp at hy0; subst hy0; rfl
        have hlst : (splitC 58 (toL y)).getLastD [] = y1.data.toList := by
          rw [← hrs]; exact last_at hm hy1
        have hlen : (splitC 58 (toL y)).length = m1 := by rw [← hrs, List.length_map, hm1]
        obtain ⟨f, p, e1, f1, f2⟩ := numV_form y0.data.toList
        obtain ⟨t, q, e2, t1, t2⟩ := numV_form y1.data.toList
        have HPa := Lib.hid (partL_of hhd hlst hlen f1 f2 t1 t2)
        have H0 := Lib.hid (fun w => one_any w y0 hy0s)
        have H1 := Lib.hid (fun w => one_any w y1 hy1s)
        rw [e1] at H0
        rw [e2] at H1
        have HB2 := Lib.hid (HD.out.2.1.trans (hb2.mono HD.out.2.1.size))
        have HL2 := Lib.hid (HL.out.trans (hb2.mono HL.out.size))
        have HO2 := Lib.hid (HD.out.1.below hb2)
        have p1 : (0 : Int) < (m1 : Int) := by omega
        have p2 : IntKind.i64.wrap ((m1 : Int) - 1) = (m : Int) := (IntWalk.i64_in _ (by
          have h1 := splitC_count (c := 58) (toL y)
          rw [hlen, show (toL y).length = y.size from len_eq y] at h1
          omega)).trans (by omega)
        have p3 : (m : Int) < (m1 : Int) := by omega
        rw [Nat.add_zero] at d0
        have HDe := Lib.hid HD.out.2.2.2
        have HDl := Lib.hid HD.out.2.2.1
        clear hR2 hrs hb2 hm hm1 hy0 hy1 hy0s hy1s hhd hlst hlen e1 e2 f1 f2 t1 t2 hq hys
        cases p with
        | false =>
          have HF := Lib.hid (show setL s.data.toList = none by rw [HDe.out, HQ.out, HPa.out]; simp)
          go_wp2_with (go_at_call 16; first | (with_reducible refine Calls.mono (H0.out _) ?_; rintro e w3 ⟨rfl, hw⟩; replace hw := hw.symm; subst hw) | (with_reducible refine Calls.mono (H1.out _) ?_; rintro e w3 ⟨rfl, hw⟩; replace hw := hw.symm; subst hw))
          go_ret2
          exact ⟨HB.out.trans (HB2.out.mono HB.out.size), .inl ⟨HF.out, rfl⟩⟩
        | true =>
          cases q with
          | false =>
            have HF := Lib.hid (show setL s.data.toList = none by rw [HDe.out, HQ.out, HPa.out]; simp)
            go_wp2_with (go_at_call 16; first | (with_reducible refine Calls.mono (H0.out _) ?_; rintro e w3 ⟨rfl, hw⟩; replace hw := hw.symm; subst hw) | (with_reducible refine Calls.mono (H1.out _) ?_; rintro e w3 ⟨rfl, hw⟩; replace hw := hw.symm; subst hw))
            go_ret2
            exact ⟨HB.out.trans (HB2.out.mono HB.out.size), .inl ⟨HF.out, rfl⟩⟩
          | true =>
            by_cases h2 : 2 < m1
            · have p4 : decide ((2 : Int) < (m1 : Int)) = true := decide_eq_true (by omega)
              have HF := Lib.hid (show setL s.data.toList = none by rw [HDe.out, HQ.out, HPa.out]; simp; omega)
              go_wp2_with (go_at_call 16; first | (with_reducible refine Calls.mono (H0.out _) ?_; rintro e w3 ⟨rfl, hw⟩; replace hw := hw.symm; subst hw) | (with_reducible refine Calls.mono (H1.out _) ?_; rintro e w3 ⟨rfl, hw⟩; replace hw := hw.symm; subst hw))
              go_ret2
              exact ⟨HB.out.trans (HB2.out.mono HB.out.size), .inl ⟨HF.out, rfl⟩⟩
            · have p4 : decide ((2 : Int) < (m1 : Int)) = false := decide_eq_false (by omega)
              have HN1 := Lib.hid (show setL s.data.toList = (parts ((splitC 44 s.data.toList).drop (k + 1))).map fun r => (acc ++ [⟨f, t⟩]) ++ r by
                rw [HDe.out, HQ.out, HPa.out, if_pos ⟨rfl, rfl, by omega⟩, Option.bind_some, Option.map_map]
                congr 1
                funext r
                simp)
              have HM : Hid (acc.length ≤ 20000000) := Lib.hid (by have := HDl.out; omega)
              have HM1 : Hid ((acc ++ [(⟨f, t⟩ : X)]).length ≤ k + 1) := Lib.hid (by rw [List.length_append]; have := HDl.out; simp; omega)
              clear h2
              go_wp2_with first
                | (go_at_call 16; first | (with_reducible refine Calls.mono (H0.out _) ?_; rintro e w3 ⟨rfl, hw⟩; replace hw := hw.symm; subst hw) | (with_reducible refine Calls.mono (H1.out _) ?_; rintro e w3 ⟨rfl, hw⟩; replace hw := hw.symm; subst hw))
                | (at_builtin; refine row.wpList_append_own fX (by decide) (by decide) (by_ := 8) (by decide) (z := .agg #[.int .u32 0, .int .u32 0]) rfl rfl (.tmp 55) (.tmp 59) 26 31 rfl Try.underlying26 infoX w1.heap.size u5 _ rfl HO2.out HB2.out.size HM.out ⟨f, t⟩ (0, 0) _ (by simp) rfl _ rfl ?_; intro v1 w4 ho hg h3; have HS1 := Lib.hid (show DS w1 s.data.toList (k + 1) (acc ++ [⟨f, t⟩]) v1 w4 from ⟨ho, grown_below HB2.out HO2.out hg, HM1.out, HN1.out⟩); have HL4 := Lib.hid (show Below w1.heap.size w1 w4 from HS1.out.2.1); clear ho hg h3)
              go_roundw
              case rel => first | exact ⟨k + 1, acc ++ [⟨f, t⟩], by omega, by go_num, HS1, HL4⟩ | ((repeat apply Exists.intro); exact ⟨⟨k + 1, acc ++ [⟨f, t⟩], by omega, by go_num, HS1, HL4⟩, rfl⟩)
              case measure => (show n - ((k : Int) + 1).toNat < n - k; omega)
      · obtain rfl : k = n := by omega
        obtain ⟨ho, hb, hl, he⟩ := HD.out
        rw [List.drop_of_length_le (by rw [HN.out]; exact Nat.le_refl _)] at he
        obtain ⟨A', c', rfl, _, _, hR'⟩ := ho.rd fX
        have HF := Lib.hid (show SetAns W (setL s.data.toList) (.returned (.tuple #[.slice A' acc.length c', .bool true])) wr from ⟨HB.out.trans (hb.mono HB.out.size), .inr ⟨acc, A', c', by rw [he]; simp [parts], rfl, hR'⟩⟩)
        clear ho hb hl he hR'
        go_wp2
        go_ret2
        exact HF.out
  · have q1 : decide ((100 : Int) < (n : Int)) = true := decide_eq_true (by omega)
    have HF := Lib.hid (show setL s.data.toList = none by unfold setL; rw [if_neg (by rw [HN.out]; exact h100)])
    clear h100
    go_wp2_with fail
    go_ret2
    exact ⟨HB.out, .inl ⟨HF.out, rfl⟩⟩
end Go.Proofs.Ytmooeadeihgbdaa.sq
