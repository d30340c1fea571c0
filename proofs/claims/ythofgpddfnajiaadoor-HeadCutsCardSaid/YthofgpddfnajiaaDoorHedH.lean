/- The lines of a head, one by one. -/
import Derived.RangeFuncNested
import Derived.RangeFuncBound
import Derived.RangeFuncCalls
import Derived.RangeFuncLeaves
import Derived.RangeFuncBox
import Derived.Shelf.Abstract
import Derived.Shelf.RegionOpen
import Derived.WalkKit
import Derived.OwnWalkIn
import Derived.TacticsInMore
import Derived.LoopNIn
import Derived.LoopIn
import Derived.Maps.AppendAt
import Derived.Test.YthofgpddfnajiaaDoorHedG
namespace Go.Proofs.YthofgpddfnajiaaDoor.hd
open Go.ChangeShapes Go.WideShapes Go.ChangeAt Go.RowKit Go.Shelf
open Go.Proofs.YthofgpddfnajiaaDoor.codec (Bytes vals)
set_option linter.unusedVariables false
set_option maxRecDepth 100000
set_option linter.unusedSimpArgs false

attribute [local go_sem] Oper.semAt_some
/-- The lines of a head. -/
def linesF : Nat → List Nat → List (List Nat)
  | 0, _ => []
  | k + 1, l => if l.length = 0 then [] else if (ln l).length = 0 then [] else ln l :: linesF k (l.drop (nx l))
theorem linesF_more : ∀ (k m : Nat) (l : List Nat), l.length ≤ k → l.length ≤ m → linesF k l = linesF m l
  | 0, 0, l, _, _ => rfl
  | 0, m + 1, l, h, _ => by rw [linesF, linesF, if_pos (by omega)]
  | k + 1, 0, l, _, h => by rw [linesF, linesF, if_pos (by omega)]
  | k + 1, m + 1, l, h1, h2 => by
    rw [linesF, linesF]
    by_cases h0 : l.length = 0
    · rw [if_pos h0, if_pos h0]
    · have hx := nx_pos (l := l) (by omega)
      rw [if_neg h0, if_neg h0, linesF_more k m (l.drop (nx l)) (by rw [List.length_drop]; omega) (by rw [List.length_drop]; omega)]
def linesOf (l : List Nat) : List (List Nat) := linesF l.length l
theorem linesOf_nil {l : List Nat} (h : l.length = 0) : linesOf l = [] := by
  unfold linesOf
  rw [h, linesF]
theorem linesOf_stop {l : List Nat} (h : (ln l).length = 0) : linesOf l = [] := by
  unfold linesOf
  cases hl : l.length with
  | zero => rw [linesF]
  | succ k => rw [linesF, if_neg (by omega), if_pos h]
theorem linesOf_more {l : List Nat} (h0 : 0 < l.length) (h : 0 < (ln l).length) : linesOf l = ln l :: linesOf (l.drop (nx l)) := by
  have hx := nx_pos h0
  unfold linesOf
  obtain ⟨k, hk⟩ : ∃ k, l.length = k + 1 := ⟨l.length - 1, by omega⟩
  rw [hk, linesF, if_neg (by omega), if_neg (by omega), linesF_more k (l.drop (nx l)).length (l.drop (nx l)) (by rw [List.length_drop]; omega) (Nat.le_refl _)]
/-- A line, where it lies. -/
abbrev Lin (W0 : World) := { x : Option Addr × Nat × List Nat // Sl W0 x.1 x.2.2.length x.2.1 x.2.2 ∧ 0 < x.2.2.length ∧ x.2.2.length ≤ 10000 }
def linV {W0 : World} (x : Lin W0) : Value := .slice x.1.1 x.1.2.2.length x.1.2.1
def sliceLen' : Value → Nat
  | .slice _ n _ => n
  | _ => 0
theorem grown_of {w w' : World} (hb : Below w.heap.size w w') : w.grownBy w' none := ⟨hb.os, hb.tape, hb.output, hb.size, fun i hi _ => hb.block i hi⟩
theorem ln_le (l : List Nat) : (ln l).length ≤ l.length := by
  unfold ln
  have h1 := chop_le (l.take (lf l))
  rw [List.length_take] at h1
  omega
theorem Sl.below' {w w' : World} {A : Option Addr} {n c : Nat} {l : List Nat} (h : Sl w A n c l) (hb : Below w.heap.size w w') : Sl w' A n c l := h.below hb
theorem Room.below' {w w' : World} (h : Room w) (hb : Below w.heap.size w w') : Room w' := h.below hb
set_option maxHeartbeats 2000000 in
theorem lines1_in (n : Nat) (hn : 2 ≤ n) (k Bn : Nat) (W0 : World) (A : Option Addr) (N c : Nat) (l : List Nat) (hS : Sl W0 A N c l) (hN : N ≤ 10000) (hr : Room W0) (J Jx : List (Lin W0) → World → Prop) (W : World)
    (hJ : AbidesFrom W.heap.size J)
    (hY : ∀ pre x W1, J pre W1 → pre.length < N + 1 → YieldAt Fence.wide (n - 1) Tryd.prog k #[linV x] W1 fun e W' =>
      (e = .returned (.bool true) ∧ J (pre ++ [x]) W' ∧ Below W0.heap.size W1 W') ∨ (e = .returned (.bool false) ∧ Jx (pre ++ [x]) W'))
    (hb : Below W0.heap.size W0 W) (hBn : W.cell? ⟨Bn, 0, none⟩ = some (.slice A N c)) (h0 : J [] W) :
    CallsIn Fence.wide n Tryd.prog 18 #[.func (.yield k) #[] #[], .pointer (some ⟨Bn, 0, none⟩)] W fun e W' => (∃ v, e = .returned v) ∧
      ((∃ ys, ys.map (·.1.2.2) = linesOf l ∧ J ys W') ∨ (∃ pre, pre.map (·.1.2.2) <+: linesOf l ∧ Jx pre W')) := by
  have HS := Lib.hid hS
  have HN := Lib.hid hN
  have HR := Lib.hid hr
  have HJ := Lib.hid hJ
  have HY := Lib.hid hY
  have HB := Lib.hid hb
  have HJ0 := Lib.hid h0
  clear hS hN hr hJ hY hb h0
  refine callsIn_of_wp Tryd.func18 rfl trivial ?_ rfl
  simp only [Tryd.ntmps18, List.size_toArray, List.length_cons, List.length_nil, Nat.reduceAdd, Nat.reduceSub, Array.replicate_succ, Array.replicate_zero, List.push_toArray, List.append_toArray, List.nil_append, List.cons_append]
  gi_wp2
  gi_loopw [3, 4] (fun r lx wr => ∃ (p : Nat) (pre : List (Lin W0)) (R : Option Addr) (m d : Nat), r = .slice R m d ∧ Hid (m + p = N) ∧ Hid (Sl W0 R m d (l.drop p)) ∧ Hid (linesOf l = pre.map (·.1.2.2) ++ linesOf (l.drop p)) ∧ Hid (pre.length ≤ p) ∧ Hid (J pre wr) ∧ Hid (Below W0.heap.size W0 wr)) (fun r _ _ => sliceLen' r)
  case atStart => exact ⟨0, [], A, N, c, rfl, Lib.hid (Nat.add_zero N), HS, Lib.hid rfl, Lib.hid (Nat.le_refl _), HJ0, HB⟩
  case round =>
    obtain ⟨p, pre, R, m, d, rfl, HM, HSr, HL, HP, HJp, HB1⟩ := hrel
    by_cases h0 : 0 < m
    · have h0i : (0 : Int) < (m : Int) := by omega
      have HH0 := Lib.hid h0
      have HA := Lib.hid (line_any2 wr R m d (l.drop p) (HSr.out.below' HB1.out) (by have := HM.out; have := HN.out; omega) (HR.out.below' HB1.out))
      clear h0
      gi_wp2
      refine ⟨trivial, fun _ => by omega, ?_⟩
      refine (callsIn_wide.2 HA.out).mono ?_
      rintro e w2 ⟨R2, m2, d2, rfl, hm2, hs2, hb2⟩
      have HM2 := Lib.hid (show m2 + (p + nx (l.drop p)) = N by have := HM.out; omega)
      have HS2 := Lib.hid (show Sl W0 R2 m2 d2 (l.drop (p + nx (l.drop p))) by rw [← drop_nx]; exact hs2 W0 HSr.out)
      have HB2 := Lib.hid (HB1.out.trans (hb2.mono HB1.out.size))
      have HJ2 := Lib.hid (HJ.out pre wr w2 none HJp.out (grown_of hb2) (fun r e => by cases e))
      have hx := nx_pos (l := l.drop p) (by rw [← HSr.out.1.1] at HH0; exact HH0.out)
      have HLt := Lib.hid (show m2 < m by omega)
      have HX := Lib.hid hx
      clear hm2 hs2 hb2 hx
      by_cases hz : (ln (l.drop p)).length = 0
      · have HE := Lib.hid (show pre.map (·.1.2.2) = linesOf l by rw [HL.out, linesOf_stop hz, List.append_nil])
        rw [hz]
        clear hz
        gi_wp2
        refine ⟨fun _ h => (by cases h), ?_⟩
        gi_wp2
        refine bodyPost_ret (results_none rfl _ _ _) rfl ?_
        exact ⟨⟨_, rfl⟩, .inl ⟨pre, HE.out, HJ2.out⟩⟩
      · have hp : Sl W0 R (ln (l.drop p)).length d (ln (l.drop p)) ∧ 0 < (ln (l.drop p)).length ∧ (ln (l.drop p)).length ≤ 10000 := by
          have h0 := ln_le (l.drop p)
          have h2 := HSr.out.1.1
          have h1 := HSr.out.part (ln (l.drop p)).length (by omega)
          rw [← ln_take] at h1
          exact ⟨h1, by omega, by have := HM.out; have := HN.out; omega⟩
        obtain ⟨x, hx⟩ : ∃ x : Lin W0, x.1 = (R, d, ln (l.drop p)) := ⟨⟨(R, d, ln (l.drop p)), hp⟩, rfl⟩
        have hlv : linV x = .slice R (ln (l.drop p)).length d := by unfold linV; rw [hx]
        have hlx : x.1.2.2 = ln (l.drop p) := by rw [hx]
        clear hp
        obtain ⟨fn, tmps, assign, body, hy, hRd⟩ := HY.out pre x w2 HJ2.out (by have := HP.out; have := HM.out; omega)
        rw [hlv] at hy
        have HLn := Lib.hid (show linesOf l = (pre ++ [x]).map (·.1.2.2) ++ linesOf (l.drop (p + nx (l.drop p))) by
          rw [HL.out, linesOf_more (l := l.drop p) (by rw [HSr.out.1.1]; exact HH0.out) (by omega), drop_nx, List.map_append, List.append_assoc, ← hlx]
          rfl)
        have HPn := Lib.hid (show (pre ++ [x]).length ≤ p + nx (l.drop p) by rw [List.length_append]; have := HP.out; have := HX.out; simp; omega)
        have hz1 : ¬ (((ln (l.drop p)).length : Int) = 0) := by omega
        have hz2 : ((((ln (l.drop p)).length : Nat) : Int) == 0) = false := by rw [beq_eq_false_iff_ne]; omega
        have HRd := Lib.hid hRd
        generalize (ln (l.drop p)).length = q at *
        clear hlv hlx hx hRd
        gi_wp2
        refine ⟨fun _ => by omega, ?_⟩
        refine HRd.out.mono ?_
        rintro e W3 (⟨rfl, hJ3, hk3⟩ | ⟨rfl, hJx3⟩)
        · have HJ3 := Lib.hid hJ3
          have HB3 := Lib.hid (HB2.out.trans hk3)
          clear hJ3 hk3
          gi_wp2
          go_roundw
          case rel => first | exact ⟨p + nx (l.drop p), pre ++ [x], R2, m2, d2, rfl, HM2, HS2, HLn, HPn, HJ3, HB3⟩ | ((repeat apply Exists.intro); exact ⟨⟨p + nx (l.drop p), pre ++ [x], R2, m2, d2, rfl, HM2, HS2, HLn, HPn, HJ3, HB3⟩, rfl⟩)
          case measure => exact HLt.out
        · have HE := Lib.hid (show (pre ++ [x]).map (·.1.2.2) <+: linesOf l from ⟨_, HLn.out.symm⟩)
          have HJ3 := Lib.hid hJx3
          clear hJx3
          gi_wp2
          refine bodyPost_ret (results_none rfl _ _ _) rfl ?_
          exact ⟨⟨_, rfl⟩, .inr ⟨pre ++ [x], HE.out, HJ3.out⟩⟩
    · obtain rfl : m = 0 := by omega
      have HE := Lib.hid (show pre.map (·.1.2.2) = linesOf l by rw [HL.out, linesOf_nil (l := l.drop p) (by rw [← HSr.out.1.1]), List.append_nil])
      clear h0
      gi_wp2
      go_end0
      exact ⟨⟨_, rfl⟩, .inl ⟨pre, HE.out, HJp.out⟩⟩
theorem lines_stops (n : Nat) (hn : 2 ≤ n) (Bn : Nat) (W0 : World) (A : Option Addr) (N c : Nat) (l : List Nat) (hS : Sl W0 A N c l) (hN : N ≤ 10000) (hr : Room W0) (w : World) (hBn : Bn < w.heap.size) (h0 : W0.heap.size ≤ w.heap.size) (hb : Below W0.heap.size W0 w)
    (hc : w.cell? ⟨Bn, 0, none⟩ = some (.slice A N c)) :
    SeqStopsK Fence.wide n Tryd.prog 18 #[.pointer (some ⟨Bn, 0, none⟩)] (fun x : Lin W0 => #[linV x]) (Below W0.heap.size) (fun ys => ys.map (·.1.2.2) = linesOf l) (fun pre => pre.map (·.1.2.2) <+: linesOf l) (N + 1) w := fun k J Jx W hW hJ _ hY hJ0 =>
  lines1_in n hn k Bn W0 A N c l hS hN hr J Jx W hJ hY (hb.trans (hW.mono h0)) ((hW.cell (p := ⟨Bn, 0, none⟩) hBn).trans hc) hJ0
end Go.Proofs.YthofgpddfnajiaaDoor.hd
