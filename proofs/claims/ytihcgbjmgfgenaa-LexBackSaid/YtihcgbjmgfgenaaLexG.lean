/- A piece of a line is taken; a command ends. -/
import Derived.Test.YtihcgbjmgfgenaaLexF
namespace Go.Proofs.Ytihcgbjmgfgenaa.lx
open Go.ChangeShapes Go.WideShapes Go.ChangeAt Go.RowKit
open Go.Proofs.Ytihcgbjmgfgenaa.codec (Bytes vals)
open Go.Proofs.Ytihcgbjmgfgenaa.row
set_option linter.unusedVariables false
set_option maxRecDepth 100000
set_option linter.unusedSimpArgs false

theorem Ck.reset {w : World} {p : Nat} {F done cur : List Nat} {left : Nat} {ret : Bool} (h : Ck w p F done cur left ret) (r : Bool) : Ck (w.setCell ⟨p, 3, none⟩ (.bool r)) p F done cur left r ∧ codec.Touch (fun i => i = p) w (w.setCell ⟨p, 3, none⟩ (.bool r)) := by
  obtain ⟨P, line, came, h1, h2, h3, h4⟩ := h
  refine ⟨⟨P, line, came, heap_setCell_same w p 3 _ _ (.bool r) h1, h2.kept fun i hi => ?_, h3, h4⟩, (codec.Touch.refl (fun i => i = p) w).setCell ⟨p, 3, none⟩ (.inr rfl) _⟩
  exact heap_setCell_other _ _ _ _ (fun e => h3 (by simp at e; rw [← e]; exact hi))
theorem Ck.facts {w : World} {p : Nat} {F done cur : List Nat} {left : Nat} {ret : Bool} (h : Ck w p F done cur left ret) :
    w.cell? ⟨p, 0 + 3, none⟩ = some (.bool ret) ∧ w.frozen? ⟨p, 3, none⟩ = false ∧ w.cell? ⟨p, 0 + 4, none⟩ = some (.int .i64 (left : Nat)) ∧ p < w.heap.size := by
  obtain ⟨P, line, came, h1, h2, h3, h4⟩ := h
  exact ⟨cell_at h1 3 _ rfl, frozen_of_row _ _ 3 _ _ h1, cell_at h1 4 _ rfl, (Array.getElem?_eq_some_iff.1 h1).1⟩
theorem last_snoc {cur q : List Nat} {m : Nat} (hq : q.length = m + 1) : (cur ++ q).getLast? = q[m]? := by
  have hne : q ≠ [] := by intro e; rw [e] at hq; simp at hq
  rw [List.getLast?_eq_getElem?, List.length_append, hq, List.getElem?_append_right (by omega)]
  congr 1
  omega
set_option maxHeartbeats 1000000 in
theorem takePiece_any (w : World) (p : Nat) (F done cur : List Nat) (left : Nat) (A : Option Addr) (n c : Nat) (q : List Nat) (x : Nat) (hC : Ck w p F done cur left (decide (cur.getLast? = some 13))) (hS : Sl w A n c (q ++ [x])) (hAp : ∀ ad, A = some ad → 0 < n → ad.block ≠ p ∧ ad.block ∉ F) (hb : done.length + cur.length + n ≤ 1000000) :
    Calls Try.prog 21 #[.pointer (some ⟨p, 0, none⟩), .slice A n c] w fun e w' => e = .returned (.bool (decide (x = 10 ∧ (cur ++ q).getLast? = some 13))) ∧ Step w w' p F done (cur ++ (q ++ [x])) left (decide (x = 13)) := by
  have hlen := hS.1.1
  rw [List.length_append] at hlen
  obtain ⟨m, hm⟩ : ∃ m, m = q.length := ⟨_, rfl⟩
  have hn : n = m + 1 := by rw [hm]; exact hlen.symm
  obtain ⟨bb, o, rfl, -⟩ := hS.1.2.2 (by omega)
  have hnc := hS.2.1
  have hmc : m ≤ c := by omega
  obtain ⟨x', hx, hx2, hxc⟩ := byte_at hS.1 (show m < n by omega)
  obtain rfl : x' = x := by
    rw [hm, List.getElem?_append_right (Nat.le_refl _), Nat.sub_self] at hx
    exact (Option.some.inj hx).symm
  have hne := (hAp _ rfl (by omega)).1
  have hbp : bb ≠ p := hne
  have l1 : (m : Int) < (n : Int) := by omega
  have e1 : IntKind.i64.wrap ((n : Int) - 1) = (m : Int) := (IntWalk.i64_in _ (by omega)).trans (by omega)
  obtain ⟨f3, z3, f4, lp⟩ := hC.facts
  have HKp := Lib.hid (fun (W : World) (hw : codec.Touch (fun i => i = p) w W) (hc : Ck W p F done cur left (decide (x' = 13))) => (show Calls Try.prog 30 #[.pointer (some ⟨p, 0, none⟩), .slice (some ⟨bb, o, none⟩) n c] W fun e w' => e = .returned (.tuple #[]) ∧ Step w w' p F done (cur ++ (q ++ [x'])) left (decide (x' = 13)) by
    refine (keep_any W p F done cur left _ _ n c (q ++ [x']) hc ⟨hS.1.touch (fun ad e h0 => (hAp ad e h0).1) hw, hS.2⟩ hAp hb).mono ?_
    rintro e w' ⟨h1, h2⟩
    exact ⟨h1, Step.trans (fun i hi => .inl hi) (hw.mono fun i _ h => .inl h) h2⟩))
  have q13 : ((x' : Int) == 13) = decide (x' = 13) := by
    by_cases h : x' = 13
    · rw [decide_eq_true h, beq_iff_eq]; omega
    · rw [decide_eq_false h, beq_eq_false_iff_ne]; omega
  have q10 : ((x' : Int) == 10) = decide (x' = 10) := by
    by_cases h : x' = 10
    · rw [decide_eq_true h, beq_iff_eq]; omega
    · rw [decide_eq_false h, beq_eq_false_iff_ne]; omega
  generalize decide (x' = 13) = b13 at *
  generalize hb10 : decide (x' = 10) = b10 at *
  have HC := Lib.hid hC
  have HM := Lib.hid (And.intro hm hn)
  by_cases h0 : m = 0
  · obtain rfl : q = [] := List.eq_nil_of_length_eq_zero (by omega)
    have HE := Lib.hid (show decide (x' = 10 ∧ (cur ++ []).getLast? = some 13) = (decide (cur.getLast? = some 13) && b10) by
      rw [List.append_nil, ← hb10, Bool.decide_and, Bool.and_comm])
    generalize hret : decide (cur.getLast? = some 13) = ret at *
    have q3 : decide (0 < m) = false := decide_eq_false (by omega)
    clear hC hS hAp hm hne hx hx2 hlen hb10 hret hn h0
    have HW := Lib.hid (fun k => (HC.out.below (codec.below_draws (Below.refl _ _) k)).reset b13)
    cases ret
    all_goals
      go_enter Try.func21, Try.ntmps21
      go_wp2
      go_quiet (fail)
      go_wp2_with fail
      refine (HKp.out _ (HW.out nq).2 (HW.out nq).1).mono ?_
      rintro e w1 ⟨rfl, hq⟩
      have HQ := Lib.hid hq
      clear hq
      go_wp2_with fail
      go_ret
      exact ⟨by rw [HE.out]; rfl, HQ.out⟩
  · obtain ⟨m1, hm1⟩ : ∃ m1, m1 = m - 1 := ⟨_, rfl⟩
    obtain ⟨y, hy, hy2, hyc⟩ := byte_at hS.1 (show m1 < n by omega)
    have q3 : decide (0 < m) = true := decide_eq_true (by omega)
    have e2 : IntKind.i64.wrap ((m : Int) - 1) = (m1 : Int) := (IntWalk.i64_in _ (by omega)).trans (by omega)
    have l2 : (m1 : Int) < (m : Int) := by omega
    have q14 : ((y : Int) == 13) = decide ((cur ++ q).getLast? = some 13) := by
      rw [last_snoc (m := m1) (by omega), ← List.getElem?_append_left (l₂ := [x']) (by omega), hy]
      by_cases h : y = 13
      · rw [h]; rfl
      · rw [decide_eq_false (by simpa using h), beq_eq_false_iff_ne]; omega
    have HE := Lib.hid (show decide (x' = 10 ∧ (cur ++ q).getLast? = some 13) = (decide ((cur ++ q).getLast? = some 13) && b10) by
      rw [← hb10, Bool.decide_and, Bool.and_comm])
    generalize hret : decide ((cur ++ q).getLast? = some 13) = ret at *
    generalize hret2 : decide (cur.getLast? = some 13) = ret2 at *
    have HW := Lib.hid (fun k => (HC.out.below (codec.below_draws (Below.refl _ _) k)).reset ret)
    clear hC hS hAp hm hne hx hx2 hlen hb10 hret hret2 hn h0 hy hy2 hm1
    have HW2 := Lib.hid (fun k => ((HW.out k).1.reset b13))
    cases ret
    all_goals
      go_enter Try.func21, Try.ntmps21
      go_wp2
      go_quiet (fail)
      go_wp2_with fail
      refine (HKp.out _ (codec.Touch.trans (HW.out nq).2 ((HW2.out nq).2.mono fun i _ h => .inl h)) (HW2.out nq).1).mono ?_
      rintro e w1 ⟨rfl, hq⟩
      have HQ := Lib.hid hq
      clear hq
      go_wp2_with fail
      go_ret
      exact ⟨by rw [HE.out]; rfl, HQ.out⟩
end Go.Proofs.Ytihcgbjmgfgenaa.lx
