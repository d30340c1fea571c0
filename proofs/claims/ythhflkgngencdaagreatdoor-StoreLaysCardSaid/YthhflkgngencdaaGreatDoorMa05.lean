/- Indices and flags: when they are formed, walked (the second part). -/
import Derived.Test.YthhflkgngencdaaGreatDoorMa04
import Derived.Lib.ItoaNum
import Derived.Lib.Fold
import Derived.Lib.Strings
import Derived.Test.YthhflkgngencdaaGreatDoorRows
import Derived.Test.YthhflkgngencdaaGreatDoorMa02
import Derived.WalkKit
import Derived.ProofKit
import Derived.OpenShut
import Derived.ShutString
import Derived.ChangeOld
import Derived.Below
import Derived.Outline
import Derived.WalkSpells
import Derived.Lib.Hide
import Derived.Deep.QuietTactic
import Derived.BigQuiet
import Derived.Deep.OwnRows
import Derived.Deep.WholeRow
import Derived.StillTailTactics
import Derived.Deep.RegionLaw
namespace Go.Proofs.YthhflkgngencdaaGreatDoor.idx
open Go.ChangeShapes Go.WideShapes Go.ChangeAt Go.RowKit
open Go.Proofs.YthhflkgngencdaaGreatDoor.row
set_option linter.unusedVariables false
set_option maxRecDepth 100000
set_option linter.unusedSimpArgs false

def wrongE (x : Nat) (e : E) : Bool := !belowB e.u x || !placeB e.a
def wrongM (e : E) : Bool := !flagsB e.a
theorem areFlags_any (w : World) (f : Int) :
    Calls Tryz.prog 252 #[.int .i64 f] w fun e w' => e = .returned (.bool (flagsB f)) ∧ Below w.heap.size w w' := by
  have hC := flg.change_any w 0 f 0
  rw [show flg.chgN (flg.five 0) (flg.five f) (flg.kind 0) = flg.five f from rfl] at hC
  have hv : decide ((flg.five f : Int) = f) = flagsB f := by
    unfold flagsB
    rw [decide_eq_decide]
    unfold flg.five
    omega
  rw [← hv]
  generalize flg.five f = g at *
  have HC := Lib.hid hC
  clear hC hv
  go_enter Tryz.func252, Tryz.ntmps252
  go_wp2_with (go_at_call 112; refine HC.out.mono ?_; rintro e w1 ⟨rfl, hw⟩; replace hw := hw.symm; subst hw)
  go_ret
  exact ⟨by rfl, Below.refl _ _⟩
theorem wrongM_any (w : World) (u : Nat) (a : Int) :
    Calls Tryz.prog 251 #[.agg #[.int .u32 u, .int .i64 a]] w fun e w' => e = .returned (.bool (wrongM ⟨u, a⟩)) ∧ Below w.heap.size w w' := by
  have HF := Lib.hid (areFlags_any (w.alloc (.cells #[.int .u32 u, .int .i64 a] 218)) a)
  go_enter Tryz.func251, Tryz.ntmps251
  go_wp2_with (go_at_call 252; refine HF.out.mono ?_; rintro e w1 ⟨rfl, hb⟩)
  go_ret
  exact ⟨rfl, (boxed hb).2⟩
theorem wrongE_any (w : World) (u : Nat) (a : Int) (b x : Nat) (hx : x < 4294967296) (hc : w.cell? ⟨b, 0, none⟩ = some (.int .u32 (x : Nat))) :
    Calls Tryz.prog 246 #[.agg #[.int .u32 u, .int .i64 a], .pointer (some ⟨b, 0, none⟩)] w fun e w' => e = .returned (.bool (wrongE x ⟨u, a⟩)) ∧ Below w.heap.size w w' := by
  have HF := Lib.hid (below_any (w.alloc (.cells #[.int .u32 u, .int .i64 a] 261)) u x hx)
  have HB := block_lt_of_cell hc
  unfold wrongE
  cases hb : belowB u x
  · rw [hb] at HF
    clear hb hx
    go_enter Tryz.func246, Tryz.ntmps246
    go_wp2_with (go_at_call 247; refine HF.out.mono ?_; rintro e w1 ⟨rfl, hb⟩)
    go_ret
    exact ⟨rfl, (boxed hb).2⟩
  · rw [hb] at HF
    clear hb hx
    go_enter Tryz.func246, Tryz.ntmps246
    go_wp2_with (first
      | (go_at_call 247; refine HF.out.mono ?_; rintro e w1 ⟨rfl, hb⟩; have d1 := cell_at (boxed hb).1 1 _ rfl; have HB1 := Lib.hid (boxed hb).2; clear hb)
      | (go_at_call 226; refine (place_any _ a).mono ?_; rintro e w2 ⟨rfl, hb⟩; have HB2 := Lib.hid (HB1.out.trans (hb.mono HB1.out.size)); clear hb))
    go_ret
    exact ⟨rfl, HB2.out⟩
set_option maxHeartbeats 1000000 in
theorem indexFE_any (W : World) (A : Option Addr) (n c : Nat) (ps : List E) (hR : Rd cE 2 W A n ps) (hn : n ≤ 1000000) (b0 q0 : Nat) (hq0 : q0 < 4294967296) (hcx : W.cell? ⟨b0, 0, none⟩ = some (.int .u32 (q0 : Nat))) :
    Calls Tryz.prog 270 #[.slice A n c, .func (.func 246) #[] #[.pointer (some ⟨b0, 0, none⟩)]] W fun e w' => (∃ z : Int, e = .returned (.int .i64 z) ∧ decide (0 ≤ z) = ps.any (wrongE q0)) ∧ Below W.heap.size W w' := by
  have HR := Lib.hid hR
  have HCX := Lib.hid hcx
  have HXL := Lib.hid hq0
  clear hR hcx hq0
  go_enter Tryz.func270, Tryz.ntmps270
  go_wp2
  go_loopw [8] (fun i wr => ∃ k : Nat, k ≤ n ∧ i = .int .i64 k ∧ Hid (∀ j x, j < k → ps[j]? = some x → (wrongE q0) x = false) ∧ Hid (Below W.heap.size W wr)) (fun i _ => n - (intOf i).toNat)
  case atStart => exact ⟨0, Nat.zero_le _, rfl, Lib.hid (fun j x h => absurd h (Nat.not_lt_zero _)), Lib.hid (Below.refl _ _)⟩
  case round =>
    obtain ⟨k, hk, rfl, HU, HB⟩ := hrel
    by_cases hlt : k < n
    · obtain ⟨b, o, ⟨m, a⟩, rfl, hx, c0, c1⟩ := atE (HR.out.below HB.out) k hlt
      simp only at c0 c1
      have hlt' : (k : Int) < (n : Int) := by omega
      have hW := wrongE_any wr m a b0 q0 HXL.out (by rw [HB.out.cell (p := ⟨b0, 0, none⟩) (block_lt_of_cell HCX.out)]; exact HCX.out)
      have HX := Lib.hid hx
      clear hx
      cases hp : wrongE q0 ⟨m, a⟩
      · rw [hp] at hW
        have HW := Lib.hid hW
        have HP := Lib.hid hp
        clear hW hp
        go_wp2_with (go_at_call 246; refine HW.out.mono ?_; rintro e w1 ⟨rfl, hb⟩; have HB1 := Lib.hid hb; clear hb)
        go_roundw
        case rel =>
          have hU : ∀ j x, j < k + 1 → ps[j]? = some x → (wrongE q0) x = false := fun j x hj hx => by
            rcases Nat.lt_succ_iff_lt_or_eq.1 hj with h | rfl
            · exact HU.out j x h hx
            · rw [HX.out] at hx
              cases hx
              exact HP.out
          first | exact ⟨k + 1, by omega, by go_num, Lib.hid hU, Lib.hid (HB.out.trans (HB1.out.mono HB.out.size))⟩ | ((repeat apply Exists.intro); exact ⟨⟨k + 1, by omega, by go_num, Lib.hid hU, Lib.hid (HB.out.trans (HB1.out.mono HB.out.size))⟩, rfl⟩)
        case measure => (show n - ((k : Int) + 1).toNat < n - k; omega)
      · rw [hp] at hW
        have HW := Lib.hid hW
        have HP := Lib.hid (any_yes HX.out hp)
        clear hW hp
        go_wp2_with (go_at_call 246; refine HW.out.mono ?_; rintro e w1 ⟨rfl, hb⟩; have HB1 := Lib.hid hb; clear hb)
        go_ret
        exact ⟨⟨_, rfl, by rw [HP.out]; exact decide_eq_true (by omega)⟩, HB.out.trans (HB1.out.mono HB.out.size)⟩
    · obtain rfl : k = n := by omega
      have hA : ps.any (wrongE q0) = false := any_no fun j x hx => HU.out j x (by have := (List.getElem?_eq_some_iff.1 hx).1; have := HR.out.1; omega) hx
      have HA := Lib.hid hA
      clear hA
      go_wp2
      go_ret
      exact ⟨⟨_, rfl, by rw [HA.out]; rfl⟩, HB.out⟩
theorem containsFE_any (W : World) (A : Option Addr) (n c : Nat) (ps : List E) (hR : Rd cE 2 W A n ps) (hn : n ≤ 1000000) (b0 q0 : Nat) (hq0 : q0 < 4294967296) (hcx : W.cell? ⟨b0, 0, none⟩ = some (.int .u32 (q0 : Nat))) :
    Calls Tryz.prog 250 #[.slice A n c, .func (.func 246) #[] #[.pointer (some ⟨b0, 0, none⟩)]] W fun e w' => e = .returned (.bool (ps.any (wrongE q0))) ∧ Below W.heap.size W w' := by
  have HI := Lib.hid (indexFE_any W A n c ps hR hn b0 q0 hq0 hcx)
  clear hR hcx
  go_enter Tryz.func250, Tryz.ntmps250
  go_wp2_with (go_at_call 270; refine HI.out.mono ?_; rintro e w1 ⟨⟨z, rfl, hz⟩, hb⟩; have HB1 := Lib.hid hb; have HZ := Lib.hid hz; clear hb hz)
  go_ret
  exact ⟨by rw [← HZ.out]; rfl, HB1.out⟩
set_option maxHeartbeats 1000000 in
theorem indexFM_any (W : World) (A : Option Addr) (n c : Nat) (ps : List E) (hR : Rd cE 2 W A n ps) (hn : n ≤ 1000000) :
    Calls Tryz.prog 271 #[.slice A n c, .func (.func 251) #[] #[]] W fun e w' => (∃ z : Int, e = .returned (.int .i64 z) ∧ decide (0 ≤ z) = ps.any wrongM) ∧ Below W.heap.size W w' := by
  have HR := Lib.hid hR
  clear hR
  go_enter Tryz.func271, Tryz.ntmps271
  go_wp2
  go_loopw [8] (fun i wr => ∃ k : Nat, k ≤ n ∧ i = .int .i64 k ∧ Hid (∀ j x, j < k → ps[j]? = some x → wrongM x = false) ∧ Hid (Below W.heap.size W wr)) (fun i _ => n - (intOf i).toNat)
  case atStart => exact ⟨0, Nat.zero_le _, rfl, Lib.hid (fun j x h => absurd h (Nat.not_lt_zero _)), Lib.hid (Below.refl _ _)⟩
  case round =>
    obtain ⟨k, hk, rfl, HU, HB⟩ := hrel
    by_cases hlt : k < n
    · obtain ⟨b, o, ⟨m, a⟩, rfl, hx, c0, c1⟩ := atE (HR.out.below HB.out) k hlt
      simp only at c0 c1
      have hlt' : (k : Int) < (n : Int) := by omega
      have hW := wrongM_any wr m a
      have HX := Lib.hid hx
      clear hx
      cases hp : wrongM ⟨m, a⟩
      · rw [hp] at hW
        have HW := Lib.hid hW
        have HP := Lib.hid hp
        clear hW hp
        go_wp2_with (go_at_call 251; refine HW.out.mono ?_; rintro e w1 ⟨rfl, hb⟩; have HB1 := Lib.hid hb; clear hb)
        go_roundw
        case rel =>
          have hU : ∀ j x, j < k + 1 → ps[j]? = some x → wrongM x = false := fun j x hj hx => by
            rcases Nat.lt_succ_iff_lt_or_eq.1 hj with h | rfl
            · exact HU.out j x h hx
            · rw [HX.out] at hx
              cases hx
              exact HP.out
          first | exact ⟨k + 1, by omega, by go_num, Lib.hid hU, Lib.hid (HB.out.trans (HB1.out.mono HB.out.size))⟩ | ((repeat apply Exists.intro); exact ⟨⟨k + 1, by omega, by go_num, Lib.hid hU, Lib.hid (HB.out.trans (HB1.out.mono HB.out.size))⟩, rfl⟩)
        case measure => (show n - ((k : Int) + 1).toNat < n - k; omega)
      · rw [hp] at hW
        have HW := Lib.hid hW
        have HP := Lib.hid (any_yes HX.out hp)
        clear hW hp
        go_wp2_with (go_at_call 251; refine HW.out.mono ?_; rintro e w1 ⟨rfl, hb⟩; have HB1 := Lib.hid hb; clear hb)
        go_ret
        exact ⟨⟨_, rfl, by rw [HP.out]; exact decide_eq_true (by omega)⟩, HB.out.trans (HB1.out.mono HB.out.size)⟩
    · obtain rfl : k = n := by omega
      have hA : ps.any wrongM = false := any_no fun j x hx => HU.out j x (by have := (List.getElem?_eq_some_iff.1 hx).1; have := HR.out.1; omega) hx
      have HA := Lib.hid hA
      clear hA
      go_wp2
      go_ret
      exact ⟨⟨_, rfl, by rw [HA.out]; rfl⟩, HB.out⟩
theorem containsFM_any (W : World) (A : Option Addr) (n c : Nat) (ps : List E) (hR : Rd cE 2 W A n ps) (hn : n ≤ 1000000) :
    Calls Tryz.prog 255 #[.slice A n c, .func (.func 251) #[] #[]] W fun e w' => e = .returned (.bool (ps.any wrongM)) ∧ Below W.heap.size W w' := by
  have HI := Lib.hid (indexFM_any W A n c ps hR hn)
  clear hR
  go_enter Tryz.func255, Tryz.ntmps255
  go_wp2_with (go_at_call 271; refine HI.out.mono ?_; rintro e w1 ⟨⟨z, rfl, hz⟩, hb⟩; have HB1 := Lib.hid hb; have HZ := Lib.hid hz; clear hb hz)
  go_ret
  exact ⟨by rw [← HZ.out]; rfl, HB1.out⟩
def okE (es : List E) : Prop := ∀ e ∈ es, e.u < 4294967296
set_option maxHeartbeats 1000000 in
theorem areMarks_any (W : World) (A : Option Addr) (n c : Nat) (es : List E) (hR : Rd cE 2 W A n es) (hn : n ≤ 1000000) (hok : okE es) :
    Calls Tryz.prog 228 #[.slice A n c] W fun e w' => e = .returned (.bool (marksB es)) ∧ Below W.heap.size W w' := by
  have HI := Lib.hid (riseM_any W A n c es hR hn hok)
  have HC := Lib.hid (fun (w : World) (hb : Below W.heap.size W w) => containsFM_any w A n c es (hR.below hb) hn)
  have hT : marksB es = (decide (n ≤ 500) && ((up 0 (es.map uI)).2 && !(es.any wrongM))) := by rw [← hR.1]; rfl
  rw [hT]
  clear hR hT
  by_cases h5 : n ≤ 500
  · have d5 : decide (n ≤ 500) = true := decide_eq_true h5
    have d6 : decide ((n : Int) ≤ 500) = true := by rw [decide_eq_true_iff]; omega
    rw [d5]
    clear h5
    cases h1 : (up 0 (es.map uI)).2
    · rw [h1] at HI
      clear h1
      go_enter Tryz.func228, Tryz.ntmps228
      go_wp2_with (go_at_call 253; refine HI.out.mono ?_; rintro e w1 ⟨rfl, hb⟩; have HB1 := Lib.hid hb; clear hb)
      go_ret
      exact ⟨rfl, HB1.out⟩
    · rw [h1] at HI
      clear h1
      go_enter Tryz.func228, Tryz.ntmps228
      go_wp2_with (first
        | (go_at_call 253; refine HI.out.mono ?_; rintro e w1 ⟨rfl, hb⟩; have HB1 := Lib.hid hb; clear hb)
        | (go_at_call 255; refine (HC.out w1 HB1.out).mono ?_; rintro e w2 ⟨rfl, hb⟩; have HB2 := Lib.hid (HB1.out.trans (hb.mono HB1.out.size)); clear hb))
      go_ret
      exact ⟨rfl, HB2.out⟩
  · have d5 : decide (n ≤ 500) = false := decide_eq_false h5
    have d6 : decide ((n : Int) ≤ 500) = false := by rw [decide_eq_false_iff_not]; omega
    rw [d5]
    clear h5
    go_enter Tryz.func228, Tryz.ntmps228
    go_wp2
    go_ret
    exact ⟨rfl, Below.refl _ _⟩
set_option maxHeartbeats 1000000 in
theorem areEntries_any (W : World) (A : Option Addr) (n c : Nat) (es : List E) (hR : Rd cE 2 W A n es) (hn : n ≤ 1000000) (hok : okE es) (x : Nat) (hx : x < 4294967296) :
    Calls Tryz.prog 227 #[.slice A n c, .int .u32 x] W fun e w' => e = .returned (.bool (entriesB es x)) ∧ Below W.heap.size W w' := by
  obtain ⟨W1, hW1⟩ : ∃ W1, W1 = W.alloc (.cells #[.int .u32 (x : Nat)] 39) := ⟨_, rfl⟩
  have HBW := Lib.hid (show Below W.heap.size W W1 by rw [hW1]; exact (Below.refl _ _).alloc (Nat.le_refl _) _)
  have hc1 : W1.cell? ⟨W.heap.size, 0, none⟩ = some (.int .u32 (x : Nat)) := by rw [hW1]; exact cell_at (heap_alloc_new W _) 0 _ rfl
  have HI := Lib.hid (riseE_any W1 A n c es (hR.below HBW.out) hn hok)
  have HC := Lib.hid (fun (w : World) (hb : Below W1.heap.size W1 w) => containsFE_any w A n c es ((hR.below HBW.out).below hb) hn W.heap.size x hx (by rw [hb.cell (p := ⟨W.heap.size, 0, none⟩) (block_lt_of_cell hc1)]; exact hc1))
  have hT : entriesB es x = (decide (n ≤ 500) && ((up 0 (es.map uI)).2 && !(es.any (wrongE x)))) := by rw [← hR.1]; rfl
  rw [hT]
  have HW1 := Lib.hid hW1
  clear hR hT hc1 hW1
  by_cases h5 : n ≤ 500
  · have d5 : decide (n ≤ 500) = true := decide_eq_true h5
    have d6 : decide ((n : Int) ≤ 500) = true := by rw [decide_eq_true_iff]; omega
    rw [d5]
    clear h5
    cases h1 : (up 0 (es.map uI)).2
    · rw [h1] at HI
      clear h1
      go_enter Tryz.func227, Tryz.ntmps227
      go_wp2_with (go_at_call 248; rw [← HW1.out]; refine HI.out.mono ?_; rintro e w1 ⟨rfl, hb⟩; have HB1 := Lib.hid hb; clear hb)
      go_ret
      exact ⟨rfl, HBW.out.trans (HB1.out.mono HBW.out.size)⟩
    · rw [h1] at HI
      clear h1
      go_enter Tryz.func227, Tryz.ntmps227
      go_wp2_with (first
        | (go_at_call 248; rw [← HW1.out]; refine HI.out.mono ?_; rintro e w1 ⟨rfl, hb⟩; have HB1 := Lib.hid hb; clear hb)
        | (go_at_call 250; refine (HC.out w1 HB1.out).mono ?_; rintro e w2 ⟨rfl, hb⟩; have HB2 := Lib.hid (HB1.out.trans (hb.mono HB1.out.size)); clear hb))
      go_ret
      exact ⟨rfl, HBW.out.trans (HB2.out.mono HBW.out.size)⟩
  · have d5 : decide (n ≤ 500) = false := decide_eq_false h5
    have d6 : decide ((n : Int) ≤ 500) = false := by rw [decide_eq_false_iff_not]; omega
    rw [d5]
    clear h5
    go_enter Tryz.func227, Tryz.ntmps227
    go_wp2
    go_ret
    exact ⟨rfl, by first | exact HBW.out | (rw [← HW1.out]; exact HBW.out)⟩
set_option maxHeartbeats 1000000 in
theorem formedFlags_any (W : World) (e0 : Nat) (A : Option Addr) (n c : Nat) (es : List E) (hR : Rd cE 2 W A n es) (hn : n ≤ 1000000) (hok : okE es) :
    Calls Tryz.prog 202 #[.agg #[.int .u32 e0, .slice A n c]] W fun e w' => e = .returned (.bool (flsB e0 es)) ∧ Below W.heap.size W w' := by
  obtain ⟨W1, hW1⟩ : ∃ W1, W1 = W.alloc (.cells #[.int .u32 (e0 : Nat), .slice A n c] 210) := ⟨_, rfl⟩
  have HBW := Lib.hid (show Below W.heap.size W W1 by rw [hW1]; exact (Below.refl _ _).alloc (Nat.le_refl _) _)
  have HM := Lib.hid (areMarks_any W1 A n c es (hR.below HBW.out) hn hok)
  have HW1 := Lib.hid hW1
  unfold flsB
  clear hR hW1
  by_cases h0 : e0 = 0
  · subst h0
    have d0 : decide ((0 : Nat) ≠ 0) = false := by decide
    rw [d0]
    go_enter Tryz.func202, Tryz.ntmps202
    go_wp2
    go_ret
    exact ⟨rfl, by have := HBW.out; rw [HW1.out] at this; exact this⟩
  · have d0 : decide (e0 ≠ 0) = true := decide_eq_true h0
    have d1 : ((e0 : Int) != 0) = true := by rw [bne_iff_ne]; omega
    rw [d0]
    clear h0
    go_enter Tryz.func202, Tryz.ntmps202
    go_wp2_with (go_at_call 228; rw [← HW1.out]; refine HM.out.mono ?_; rintro e w1 ⟨rfl, hb⟩; have HB1 := Lib.hid hb; clear hb)
    go_ret
    exact ⟨rfl, HBW.out.trans (HB1.out.mono HBW.out.size)⟩
end Go.Proofs.YthhflkgngencdaaGreatDoor.idx
namespace Go.Proofs.YthhflkgngencdaaGreatDoor.idx
open Go.ChangeShapes Go.WideShapes Go.ChangeAt Go.RowKit
open Go.Proofs.YthhflkgngencdaaGreatDoor.row
open Go.Proofs.YthhflkgngencdaaGreatDoor.codec (Bytes OutIs More bytesOf bytesOf_length strOf)
open Go.Proofs.YthhflkgngencdaaGreatDoor.bod (named nums txt nums_length nums_lt strOf_nums)
set_option linter.unusedVariables false
set_option maxRecDepth 100000
set_option linter.unusedSimpArgs false

theorem ob_out {W w : World} {b : Nat} {cs : Array Value} {t : TypeId} (hb : Below W.heap.size W w) (hc : w.heap[b]? = some (.cells cs t (0, 0))) : Ob W w.heap.size [] [w.heap.size] b cs t (w.alloc (.cells #[.pointer none, .int .i64 0, .bool false] 154)) := by
  have hlt : b < w.heap.size := (Array.getElem?_eq_some_iff.1 hc).1
  exact ⟨ou_start hb, fun h => by simp at h; omega, (Below.heap_alloc _ _ _ hlt).trans hc⟩
set_option maxHeartbeats 1000000 in
theorem formedIndex_any (W : World) (s : ByteArray) (e0 x : Nat) (t : Int) (A : Option Addr) (n c : Nat) (es : List E) (hR : Rd cE 2 W A n es) (hn : n ≤ 1000000) (hok : okE es) (hx : x < 4294967296) (hr : nam.Room W) :
    Calls Tryz.prog 201 #[.agg #[.string s, .int .u32 e0, .int .u32 x, .int .i64 t, .slice A n c]] W fun e w' => e = .returned (.bool (indexB s e0 x t es)) ∧ Below W.heap.size W w' := by
  obtain ⟨W1, hW1⟩ : ∃ W1, W1 = W.alloc (.cells #[.string s, .int .u32 (e0 : Nat), .int .u32 (x : Nat), .int .i64 t, .slice A n c] 208) := ⟨_, rfl⟩
  have HBW := Lib.hid (show Below W.heap.size W W1 by rw [hW1]; exact (Below.refl _ _).alloc (Nat.le_refl _) _)
  have HRC := Lib.hid (fun (w1 : World) (h : Below W1.heap.size W1 w1) => (boxed (w := W) (o := .cells #[.string s, .int .u32 (e0 : Nat), .int .u32 (x : Nat), .int .i64 t, .slice A n c] 208) (w1 := w1) (by rw [← hW1]; exact h)).1)
  have HN := Lib.hid (isName_any W1 s (hr.below HBW.out))
  have HP := Lib.hid (fun w => place_any w t)
  have HE := Lib.hid (fun (w : World) (hb : Below W1.heap.size W1 w) => areEntries_any w A n c es ((hR.below HBW.out).below hb) hn hok x hx)
  have HW1 := Lib.hid hW1
  unfold indexB
  clear hR hW1 hr hok
  cases hn1 : named s
  · rw [hn1] at HN
    clear hn1
    go_enter Tryz.func201, Tryz.ntmps201
    go_wp2_with (first | (go_at_call 132; rw [← HW1.out]; refine HN.out.mono ?_; rintro e w1 ⟨rfl, hb⟩; have k1 := cell_at (HRC.out _ hb) 1 _ rfl; have k2 := cell_at (HRC.out _ hb) 2 _ rfl; have k3 := cell_at (HRC.out _ hb) 3 _ rfl; have HB1 := Lib.hid hb; clear hb))
    go_ret
    exact ⟨rfl, HBW.out.trans (HB1.out.mono HBW.out.size)⟩
  · rw [hn1] at HN
    clear hn1
    by_cases h0 : e0 = 0
    · have d0 : decide (e0 ≠ 0) = false := by rw [decide_eq_false_iff_not]; omega
      have d1 : ((e0 : Int) != 0) = false := by rw [bne_eq_false_iff_eq]; omega
      rw [d0]
      clear h0
      go_enter Tryz.func201, Tryz.ntmps201
      go_wp2_with (first | (go_at_call 132; rw [← HW1.out]; refine HN.out.mono ?_; rintro e w1 ⟨rfl, hb⟩; have k1 := cell_at (HRC.out _ hb) 1 _ rfl; have k2 := cell_at (HRC.out _ hb) 2 _ rfl; have k3 := cell_at (HRC.out _ hb) 3 _ rfl; have HB1 := Lib.hid hb; clear hb))
      go_ret
      exact ⟨rfl, HBW.out.trans (HB1.out.mono HBW.out.size)⟩
    · have d0 : decide (e0 ≠ 0) = true := decide_eq_true h0
      have d1 : ((e0 : Int) != 0) = true := by rw [bne_iff_ne]; omega
      rw [d0]
      clear h0
      by_cases hx0 : x = 0
      · have d2 : decide (x ≠ 0) = false := by rw [decide_eq_false_iff_not]; omega
        have d3 : ((x : Int) != 0) = false := by rw [bne_eq_false_iff_eq]; omega
        rw [d2]
        clear hx0
        go_enter Tryz.func201, Tryz.ntmps201
        go_wp2_with (first | (go_at_call 132; rw [← HW1.out]; refine HN.out.mono ?_; rintro e w1 ⟨rfl, hb⟩; have k1 := cell_at (HRC.out _ hb) 1 _ rfl; have k2 := cell_at (HRC.out _ hb) 2 _ rfl; have k3 := cell_at (HRC.out _ hb) 3 _ rfl; have HB1 := Lib.hid hb; clear hb))
        go_ret
        exact ⟨rfl, HBW.out.trans (HB1.out.mono HBW.out.size)⟩
      · have d2 : decide (x ≠ 0) = true := decide_eq_true hx0
        have d3 : ((x : Int) != 0) = true := by rw [bne_iff_ne]; omega
        rw [d2]
        clear hx0
        cases hp : placeB t
        · rw [hp] at HP
          clear hp
          go_enter Tryz.func201, Tryz.ntmps201
          go_wp2_with (first | (go_at_call 132; rw [← HW1.out]; refine HN.out.mono ?_; rintro e w1 ⟨rfl, hb⟩; have k1 := cell_at (HRC.out _ hb) 1 _ rfl; have k2 := cell_at (HRC.out _ hb) 2 _ rfl; have k3 := cell_at (HRC.out _ hb) 3 _ rfl; have HB1 := Lib.hid hb; clear hb) | (go_at_call 226; refine (HP.out _).mono ?_; rintro e w2 ⟨rfl, hb⟩; have HB2 := Lib.hid (HB1.out.trans (hb.mono HB1.out.size)); have k4 := cell_at (HRC.out _ HB2.out) 4 _ rfl; have k5 := cell_at (HRC.out _ HB2.out) 2 _ rfl; clear hb))
          go_ret
          exact ⟨rfl, HBW.out.trans (HB2.out.mono HBW.out.size)⟩
        · rw [hp] at HP
          clear hp
          go_enter Tryz.func201, Tryz.ntmps201
          go_wp2_with (first | (go_at_call 132; rw [← HW1.out]; refine HN.out.mono ?_; rintro e w1 ⟨rfl, hb⟩; have k1 := cell_at (HRC.out _ hb) 1 _ rfl; have k2 := cell_at (HRC.out _ hb) 2 _ rfl; have k3 := cell_at (HRC.out _ hb) 3 _ rfl; have HB1 := Lib.hid hb; clear hb) | (go_at_call 226; refine (HP.out _).mono ?_; rintro e w2 ⟨rfl, hb⟩; have HB2 := Lib.hid (HB1.out.trans (hb.mono HB1.out.size)); have k4 := cell_at (HRC.out _ HB2.out) 4 _ rfl; have k5 := cell_at (HRC.out _ HB2.out) 2 _ rfl; clear hb) | (go_at_call 227; refine (HE.out w2 HB2.out).mono ?_; rintro e w3 ⟨rfl, hb⟩; have HB3 := Lib.hid (HB2.out.trans (hb.mono HB2.out.size)); clear hb))
          go_ret
          exact ⟨rfl, HBW.out.trans (HB3.out.mono HBW.out.size)⟩
theorem entries_mem {l : List E} {x : Nat} (h : entriesB l x = true) : l.length ≤ 500 ∧ ∀ e ∈ l, 0 ≤ e.a ∧ e.a ≤ 4294967295 := by
  unfold entriesB at h
  simp only [Bool.and_eq_true, decide_eq_true_eq, Bool.not_eq_true', List.any_eq_false, Bool.or_eq_true, not_or] at h
  refine ⟨h.1, fun e he => ?_⟩
  have := (h.2.2 e he).2
  simpa [placeB] using this
theorem marks_mem {l : List E} (h : marksB l = true) : l.length ≤ 500 ∧ ∀ e ∈ l, 0 ≤ e.a ∧ e.a < 32 := by
  unfold marksB at h
  simp only [Bool.and_eq_true, decide_eq_true_eq, Bool.not_eq_true', List.any_eq_false] at h
  refine ⟨h.1, fun e he => ?_⟩
  have := h.2.2 e he
  simpa [flagsB] using this
theorem encE_len (k : Nat) (e : E) : (encE k e).length = 4 + k := by simp [encE, bytesOf_length]
/-- A head, and the first j things. -/
def runK (H : List Nat) (k : Nat) (es : List E) (j : Nat) : List Nat := H ++ (es.take j).flatMap (encE k)
theorem runK_zero (H : List Nat) (k : Nat) (es : List E) : runK H k es 0 = H := by simp [runK]
theorem runK_next {H : List Nat} {k : Nat} {es : List E} {j : Nat} {e : E} (h : es[j]? = some e) : runK H k es (j + 1) = (runK H k es j ++ bytesOf e.u 4) ++ bytesOf e.a.toNat k := by
  unfold runK
  rw [take_next h, List.flatMap_append, List.flatMap_singleton, encE]
  simp only [List.append_assoc]
theorem runK_len (H : List Nat) (k : Nat) (es : List E) (j : Nat) (hk : k ≤ 4) (he : es.length ≤ 500) : (runK H k es j).length ≤ H.length + 4000 := by
  unfold runK
  have := flat_len (encE k) 8 (es.take j) fun e he => by rw [encE_len]; omega
  rw [List.length_take] at this
  rw [List.length_append]
  have : 8 * min j es.length ≤ 8 * 500 := Nat.mul_le_mul_left _ (by omega)
  omega
end Go.Proofs.YthhflkgngencdaaGreatDoor.idx
namespace Go.Proofs.YthhflkgngencdaaGreatDoor.idx
open Go.ChangeShapes Go.WideShapes Go.ChangeAt Go.RowKit
open Go.Proofs.YthhflkgngencdaaGreatDoor.row
open Go.Proofs.YthhflkgngencdaaGreatDoor.codec (Bytes OutIs More bytesOf bytesOf_length strOf)
open Go.Proofs.YthhflkgngencdaaGreatDoor.bod (named nums txt nums_length nums_lt strOf_nums)
set_option linter.unusedVariables false
set_option maxRecDepth 100000
set_option linter.unusedSimpArgs false

set_option maxHeartbeats 4000000 in
theorem putFlags_good (W : World) (e0 : Nat) (A : Option Addr) (n c : Nat) (es : List E) (hR : Rd cE 2 W A n es) (hn : n ≤ 1000000) (hok : okE es) (he : e0 < 4294967296) (h : flsB e0 es = true) :
    Calls Tryz.prog 173 #[.agg #[.int .u32 e0, .slice A n c]] W fun e w' => PutAns W 2 (flsL e0 es) e w' := by
  have h2 := h
  unfold flsB at h2
  simp only [Bool.and_eq_true] at h2
  have hm := marks_mem h2.2
  have HH : ∃ H, H = bytesOf e0 4 ++ bytesOf n 2 := ⟨_, rfl⟩
  obtain ⟨H, hH⟩ := HH
  have HHL : Hid (H.length ≤ 76) := Lib.hid (by rw [hH]; simp only [List.length_append, bytesOf_length]; omega)
  have HHE : Hid (runK H 1 es n = flsL e0 es) := Lib.hid (by
    unfold runK flsL restL
    rw [hH, List.take_of_length_le (by rw [hR.1]; omega), hR.1]
    simp only [List.append_assoc])
  obtain ⟨W1, hW1⟩ : ∃ W1, W1 = W.alloc (.cells #[.int .u32 (e0 : Nat), .slice A n c] 210) := ⟨_, rfl⟩
  have HBW := Lib.hid (show Below W.heap.size W W1 by rw [hW1]; exact (Below.refl _ _).alloc (Nat.le_refl _) _)
  have HF := Lib.hid (formedFlags_any W1 e0 A n c es (hR.below HBW.out) hn hok)
  have HW1 := Lib.hid hW1
  rw [h] at HF
  have HRC := Lib.hid (fun (w1 : World) (h : Below W1.heap.size W1 w1) => (boxed (w := W) (o := .cells #[.int .u32 (e0 : Nat), .slice A n c] 210) (w1 := w1) (by rw [← hW1]; exact h)).1)
  have HR := Lib.hid hR
  have HOK := Lib.hid hok
  have HM := Lib.hid hm.2
  have hn500 : n ≤ 500 := by have := hm.1; rw [hR.1] at this; exact this
  have HEL := Lib.hid hm.1
  have HHH := Lib.hid hH
  have HK := Lib.hid (fun j => runK_len H 1 es j (by decide) hm.1)
  clear h h2 hR hW1 hok hm hH hn
  go_enter Tryz.func173, Tryz.ntmps173
  go_wp2_with (go_at_call 202; rw [← HW1.out]; refine HF.out.mono ?_; rintro e w1 ⟨rfl, hb⟩; have HB1 := Lib.hid (HBW.out.trans (hb.mono HBW.out.size)); have HO := Lib.hid (ob_out HB1.out (HRC.out _ hb)); have j0 := HO.out.cell 0 _ rfl; clear hb)
  refine (ob_N HO.out e0 4 (by simp only [List.length_append, List.length_nil, bytesOf_length]; omega) (by decide) (by decide) (by omega)).mono ?_
  rintro e w2 ⟨rfl, F2, ho⟩
  have HO2 := Lib.hid ho
  have i01 := ho.cell 1 _ rfl
  clear ho j0
  go_wp2_with fail
  refine (ob_N HO2.out n 2 (by simp only [List.length_append, List.length_nil, bytesOf_length]; omega) (by decide) (by decide) (by omega)).mono ?_
  rintro e w3 ⟨rfl, F3, ho⟩
  have HO3 := Lib.hid ho
  have i11 := ho.cell 1 _ rfl
  clear ho i01
  go_wp2_with fail
  go_loopw [21] (fun i wr => ∃ k : Nat, k ≤ n ∧ i = .int .i64 k ∧ Hid (∃ F, Ou W w1.heap.size (runK H 1 es k) F wr)) (fun i _ => n - (intOf i).toNat)
  case atStart => exact ⟨0, Nat.zero_le _, rfl, Lib.hid ⟨F3, by rw [runK_zero, HHH.out]; have := HO3.out.1; simpa using this⟩⟩
  case round =>
    obtain ⟨k, hk, rfl, HS⟩ := hrel
    by_cases hlt : k < n
    · obtain ⟨F, hs⟩ := HS.out
      obtain ⟨b, o, ⟨u, a⟩, rfl, hy, c0, c1⟩ := atE (HR.out.below hs.2.2) k hlt
      have hlt' : (k : Int) < (n : Int) := by omega
      have hu : u < 4294967296 := HOK.out _ (List.mem_of_getElem? hy)
      obtain ⟨m0, m1⟩ := HM.out _ (List.mem_of_getElem? hy)
      simp only at c0 c1 m0 m1
      obtain ⟨v, rfl⟩ := Int.eq_ofNat_of_zero_le m0
      have HT := Lib.hid (runK_next (H := H) (k := 1) hy)
      have HS1 := Lib.hid (ob_start hs #[.int .u32 (u : Nat), .int .i64 v] 218)
      have HV := Lib.hid (show v < 256 ^ 1 by omega)
      clear hy hs m0 m1
      go_wp2_with fail
      refine (ob_N HS1.out u 4 (by have := HK.out k; have := HHL.out; omega) (by decide) (by decide) (by omega)).mono ?_
      rintro e w8 ⟨rfl, F8, ho⟩
      have HO8 := Lib.hid ho
      have c2 := ho.cell 1 _ rfl
      clear ho
      go_wp2_with fail
      refine (ob_N HO8.out v 1 (by rw [List.length_append, bytesOf_length]; have := HK.out k; have := HHL.out; omega) (by decide) (by decide) HV.out).mono ?_
      rintro e w9 ⟨rfl, F9, ho⟩
      have HO9 := Lib.hid (show ∃ F, Ou W w1.heap.size (runK H 1 es (k + 1)) F w9 from ⟨F9, by rw [HT.out]; exact ho.1⟩)
      clear ho c2
      go_wp2_with fail
      go_roundw
      case rel => first | exact ⟨k + 1, by omega, by go_num, HO9⟩ | ((repeat apply Exists.intro); exact ⟨⟨k + 1, by omega, by go_num, HO9⟩, rfl⟩)
      case measure => (show n - ((k : Int) + 1).toNat < n - k; omega)
    · obtain rfl : k = n := by omega
      obtain ⟨F, hs⟩ := HS.out
      rw [HHE.out] at hs
      have HP := Lib.hid (put_any hs 2 (by decide) (by decide) _ rfl (by rw [← HHE.out]; have := HK.out k; have := HHL.out; omega))
      clear hs
      go_wp2_with (go_at_call 94; refine HP.out.mono ?_; rintro e w10 ⟨g, mm, rfl, hm⟩; have HM3 := Lib.hid hm; clear hm)
      go_ret2
      exact ⟨g, mm, rfl, HM3.out⟩
end Go.Proofs.YthhflkgngencdaaGreatDoor.idx
namespace Go.Proofs.YthhflkgngencdaaGreatDoor.idx
open Go.ChangeShapes Go.WideShapes Go.ChangeAt Go.RowKit
open Go.Proofs.YthhflkgngencdaaGreatDoor.row
open Go.Proofs.YthhflkgngencdaaGreatDoor.codec (Bytes OutIs More bytesOf bytesOf_length strOf)
open Go.Proofs.YthhflkgngencdaaGreatDoor.bod (named nums txt nums_length nums_lt strOf_nums)
set_option linter.unusedVariables false
set_option maxRecDepth 100000
set_option linter.unusedSimpArgs false

set_option maxHeartbeats 4000000 in
theorem putIndex_good (W : World) (s : ByteArray) (e0 x : Nat) (t : Int) (A : Option Addr) (n c : Nat) (es : List E) (hR : Rd cE 2 W A n es) (hn : n ≤ 1000000) (hok : okE es) (he : e0 < 4294967296) (hx : x < 4294967296) (hr : nam.Room W) (h : indexB s e0 x t es = true) :
    Calls Tryz.prog 171 #[.agg #[.string s, .int .u32 e0, .int .u32 x, .int .i64 t, .slice A n c]] W fun e w' => PutAns W 1 (indexL s e0 x t.toNat es) e w' := by
  have h2 := h
  unfold indexB at h2
  simp only [Bool.and_eq_true] at h2
  have hs60 := named_60 h2.1
  have hpl : 0 ≤ t ∧ t ≤ 4294967295 := by have := h2.2.2.2.1; simpa [placeB] using this
  obtain ⟨tn, rfl⟩ := Int.eq_ofNat_of_zero_le hpl.1
  have hm := entries_mem h2.2.2.2.2
  have HH : ∃ H, H = (((txt s ++ bytesOf e0 4) ++ bytesOf x 4) ++ bytesOf tn 4) ++ bytesOf n 2 := ⟨_, rfl⟩
  obtain ⟨H, hH⟩ := HH
  have HHL : Hid (H.length ≤ 76) := Lib.hid (by rw [hH]; simp only [List.length_append, bytesOf_length, txt, nums_length]; omega)
  have HHE : Hid (runK H 4 es n = indexL s e0 x (Int.toNat (tn : Int)) es) := Lib.hid (by
    unfold runK indexL restL
    rw [hH, List.take_of_length_le (by rw [hR.1]; omega), hR.1, Int.toNat_natCast]
    simp only [List.append_assoc])
  obtain ⟨W1, hW1⟩ : ∃ W1, W1 = W.alloc (.cells #[.string s, .int .u32 (e0 : Nat), .int .u32 (x : Nat), .int .i64 (tn : Int), .slice A n c] 208) := ⟨_, rfl⟩
  have HBW := Lib.hid (show Below W.heap.size W W1 by rw [hW1]; exact (Below.refl _ _).alloc (Nat.le_refl _) _)
  have HF := Lib.hid (formedIndex_any W1 s e0 x (tn : Int) A n c es (hR.below HBW.out) hn hok hx (hr.below HBW.out))
  have HW1 := Lib.hid hW1
  rw [h] at HF
  have HRC := Lib.hid (fun (w1 : World) (h : Below W1.heap.size W1 w1) => (boxed (w := W) (o := .cells #[.string s, .int .u32 (e0 : Nat), .int .u32 (x : Nat), .int .i64 (tn : Int), .slice A n c] 208) (w1 := w1) (by rw [← hW1]; exact h)).1)
  have HR := Lib.hid hR
  have HOK := Lib.hid hok
  have HM := Lib.hid hm.2
  have hn500 : n ≤ 500 := by have := hm.1; rw [hR.1] at this; exact this
  have HEL := Lib.hid hm.1
  have HHH := Lib.hid hH
  have HS60 := Lib.hid hs60
  have HK := Lib.hid (fun j => runK_len H 4 es j (by decide) hm.1)
  have hpl2 := hpl.2
  clear hpl hs60
  clear h h2 hR hW1 hr hok hm hH hn
  go_enter Tryz.func171, Tryz.ntmps171
  go_wp2_with (go_at_call 201; rw [← HW1.out]; refine HF.out.mono ?_; rintro e w1 ⟨rfl, hb⟩; have HB1 := Lib.hid (HBW.out.trans (hb.mono HBW.out.size)); have HO := Lib.hid (ob_out HB1.out (HRC.out _ hb)); have j0 := HO.out.cell 0 _ rfl; clear hb)
  refine (ob_Text HO.out s (by have := HS60.out; simp only [List.length_append, List.length_nil, bytesOf_length, txt, nums_length]; omega) (by have := HS60.out; omega)).mono ?_
  rintro e w2 ⟨rfl, F2, ho⟩
  have HO2 := Lib.hid ho
  have i01 := ho.cell 1 _ rfl
  clear ho j0
  go_wp2_with fail
  refine (ob_N HO2.out e0 4 (by have := HS60.out; simp only [List.length_append, List.length_nil, bytesOf_length, txt, nums_length]; omega) (by decide) (by decide) (by omega)).mono ?_
  rintro e w3 ⟨rfl, F3, ho⟩
  have HO3 := Lib.hid ho
  have i12 := ho.cell 2 _ rfl
  clear ho i01
  go_wp2_with fail
  refine (ob_N HO3.out x 4 (by have := HS60.out; simp only [List.length_append, List.length_nil, bytesOf_length, txt, nums_length]; omega) (by decide) (by decide) (by omega)).mono ?_
  rintro e w4 ⟨rfl, F4, ho⟩
  have HO4 := Lib.hid ho
  have i23 := ho.cell 3 _ rfl
  clear ho i12
  go_wp2_with fail
  refine (ob_N HO4.out tn 4 (by have := HS60.out; simp only [List.length_append, List.length_nil, bytesOf_length, txt, nums_length]; omega) (by decide) (by decide) (by omega)).mono ?_
  rintro e w5 ⟨rfl, F5, ho⟩
  have HO5 := Lib.hid ho
  have i34 := ho.cell 4 _ rfl
  clear ho i23
  go_wp2_with fail
  refine (ob_N HO5.out n 2 (by have := HS60.out; simp only [List.length_append, List.length_nil, bytesOf_length, txt, nums_length]; omega) (by decide) (by decide) (by omega)).mono ?_
  rintro e w6 ⟨rfl, F6, ho⟩
  have HO6 := Lib.hid ho
  have i44 := ho.cell 4 _ rfl
  clear ho i34
  go_wp2_with fail
  go_loopw [31] (fun i wr => ∃ k : Nat, k ≤ n ∧ i = .int .i64 k ∧ Hid (∃ F, Ou W w1.heap.size (runK H 4 es k) F wr)) (fun i _ => n - (intOf i).toNat)
  case atStart => exact ⟨0, Nat.zero_le _, rfl, Lib.hid ⟨F6, by rw [runK_zero, HHH.out]; have := HO6.out.1; simpa using this⟩⟩
  case round =>
    obtain ⟨k, hk, rfl, HS⟩ := hrel
    by_cases hlt : k < n
    · obtain ⟨F, hs⟩ := HS.out
      obtain ⟨b, o, ⟨u, a⟩, rfl, hy, c0, c1⟩ := atE (HR.out.below hs.2.2) k hlt
      have hlt' : (k : Int) < (n : Int) := by omega
      have hu : u < 4294967296 := HOK.out _ (List.mem_of_getElem? hy)
      obtain ⟨m0, m1⟩ := HM.out _ (List.mem_of_getElem? hy)
      simp only at c0 c1 m0 m1
      obtain ⟨v, rfl⟩ := Int.eq_ofNat_of_zero_le m0
      have HT := Lib.hid (runK_next (H := H) (k := 4) hy)
      have HS1 := Lib.hid (ob_start hs #[.int .u32 (u : Nat), .int .i64 v] 261)
      have HV := Lib.hid (show v < 256 ^ 4 by omega)
      clear hy hs m0 m1
      go_wp2_with fail
      refine (ob_N HS1.out u 4 (by have := HK.out k; have := HHL.out; omega) (by decide) (by decide) (by omega)).mono ?_
      rintro e w8 ⟨rfl, F8, ho⟩
      have HO8 := Lib.hid ho
      have c2 := ho.cell 1 _ rfl
      clear ho
      go_wp2_with fail
      refine (ob_N HO8.out v 4 (by rw [List.length_append, bytesOf_length]; have := HK.out k; have := HHL.out; omega) (by decide) (by decide) HV.out).mono ?_
      rintro e w9 ⟨rfl, F9, ho⟩
      have HO9 := Lib.hid (show ∃ F, Ou W w1.heap.size (runK H 4 es (k + 1)) F w9 from ⟨F9, by rw [HT.out]; exact ho.1⟩)
      clear ho c2
      go_wp2_with fail
      go_roundw
      case rel => first | exact ⟨k + 1, by omega, by go_num, HO9⟩ | ((repeat apply Exists.intro); exact ⟨⟨k + 1, by omega, by go_num, HO9⟩, rfl⟩)
      case measure => (show n - ((k : Int) + 1).toNat < n - k; omega)
    · obtain rfl : k = n := by omega
      obtain ⟨F, hs⟩ := HS.out
      rw [HHE.out] at hs
      have HP := Lib.hid (put_any hs 1 (by decide) (by decide) _ rfl (by rw [← HHE.out]; have := HK.out k; have := HHL.out; omega))
      clear hs
      go_wp2_with (go_at_call 94; refine HP.out.mono ?_; rintro e w10 ⟨g, mm, rfl, hm⟩; have HM3 := Lib.hid hm; clear hm)
      go_ret2
      exact ⟨g, mm, rfl, HM3.out⟩
end Go.Proofs.YthhflkgngencdaaGreatDoor.idx
namespace Go.Proofs.YthhflkgngencdaaGreatDoor.dat
open Go.Lib
set_option linter.unusedVariables false
set_option linter.unusedSimpArgs false

/-- Byte i of s. -/
def byt (s : ByteArray) (i : Nat) : Nat := (s.data[i]!).toNat
theorem byt_at (s : ByteArray) (i : Nat) (h : i < s.size) : (s[i]'h).toNat = byt s i := by
  unfold byt
  rw [getElem!_pos s.data i (by simpa using h)]; rfl
/-! ### Years and months -/
def leapN (y : Nat) : Bool := decide (y % 4 = 0 ∧ (y % 100 ≠ 0 ∨ y % 400 = 0))
def ylen (y : Nat) : Nat := if leapN y then 366 else 365
def daysN (y m : Nat) : Nat := if m = 2 then (if leapN y then 29 else 28) else if m = 4 ∨ m = 6 ∨ m = 9 ∨ m = 11 then 30 else 31
theorem daysN_pos (y m : Nat) : 28 ≤ daysN y m ∧ daysN y m ≤ 31 := by
  unfold daysN
  split
  · split <;> omega
  · split <;> omega
/-- The days of the first months. -/
def cum (y : Nat) : Nat → Nat
  | 0 => 0
  | k + 1 => cum y k + daysN y (k + 1)
theorem cum12 (y : Nat) : cum y 12 = ylen y := by
  unfold ylen
  cases h : leapN y <;> simp [cum, daysN, h]
theorem cum_mono (y : Nat) {a b : Nat} (h : a ≤ b) : cum y a ≤ cum y b := by
  induction b with
  | zero => obtain rfl : a = 0 := by omega
            exact Nat.le_refl _
  | succ b ih =>
    by_cases e : a = b + 1
    · subst e; exact Nat.le_refl _
    · have := ih (by omega)
      simp only [cum]; omega
theorem cum_step (y k : Nat) (h : 1 ≤ k) : cum y k = cum y (k - 1) + daysN y k := by
  obtain ⟨j, rfl⟩ : ∃ j, k = j + 1 := ⟨k - 1, by omega⟩
  rfl
theorem cum_le (y k : Nat) : cum y k ≤ 31 * k := by
  induction k with
  | zero => exact Nat.le_refl _
  | succ k ih => have := (daysN_pos y (k + 1)).2; simp only [cum]; omega
/-- The day, from 1970 on, that a year begins with. -/
def nY (y : Nat) : Int := 365 * ((y : Int) - 1) + ((y : Int) - 1).tdiv 4 - ((y : Int) - 1).tdiv 100 + ((y : Int) - 1).tdiv 400 - 719162
theorem nY_nat (x : Nat) : nY (x + 1) = 365 * (x : Int) + ((x / 4 : Nat) : Int) - ((x / 100 : Nat) : Int) + ((x / 400 : Nat) : Int) - 719162 := by
  unfold nY
  rw [show (((x + 1 : Nat) : Int) - 1) = (x : Int) by omega]
  rfl
theorem nY_zero : nY 0 = -719527 := by decide
theorem nY_1970 : nY 1970 = 0 := by decide
theorem nY_10000 : nY 10000 = 2932897 := by decide
theorem nY_succ (y : Nat) (h : 1 ≤ y) : nY (y + 1) = nY y + ylen y := by
  obtain ⟨x, rfl⟩ : ∃ x, y = x + 1 := ⟨y - 1, by omega⟩
  rw [nY_nat, nY_nat]
  unfold ylen leapN
  by_cases h1 : (x + 1) % 4 = 0 ∧ ((x + 1) % 100 ≠ 0 ∨ (x + 1) % 400 = 0)
  · rw [if_pos (by simpa using h1)]
    omega
  · rw [if_neg (by simpa using h1)]
    omega
theorem nY_mono {a b : Nat} (h1 : 1 ≤ a) (h : a ≤ b) : nY a ≤ nY b := by
  induction b with
  | zero => omega
  | succ b ih =>
    by_cases e : a = b + 1
    · subst e; exact Int.le_refl _
    · have := ih (by omega)
      have := nY_succ b (by omega)
      omega
theorem nY_bounds (y : Nat) (h : y ≤ 10000) : -719527 ≤ nY y ∧ nY y ≤ 2932897 := by
  rcases y with _ | x
  · rw [nY_zero]; omega
  · rw [nY_nat]; omega
theorem nY_near (k : Nat) (h : k ≤ 8030) : nY (1970 + k) ≤ 366 * k := by
  rw [show 1970 + k = (1969 + k) + 1 by omega, nY_nat]
  omega
theorem year_at : ∀ (n : Nat) (d : Int), 0 ≤ d → d < nY (1970 + n) → ∃ Y, 1970 ≤ Y ∧ Y < 1970 + n ∧ nY Y ≤ d ∧ d < nY (Y + 1)
  | 0, d, h0, h => by rw [show 1970 + 0 = 1970 from rfl, nY_1970] at h; omega
  | n + 1, d, h0, h => by
    by_cases h' : d < nY (1970 + n)
    · obtain ⟨Y, a, b, c, e⟩ := year_at n d h0 h'
      exact ⟨Y, a, by omega, c, e⟩
    · exact ⟨1970 + n, by omega, by omega, by omega, h⟩
theorem month_at (y : Nat) : ∀ (n r : Nat), r < cum y n → ∃ M, 1 ≤ M ∧ M ≤ n ∧ cum y (M - 1) ≤ r ∧ r < cum y M
  | 0, r, h => by simp [cum] at h
  | n + 1, r, h => by
    by_cases h' : r < cum y n
    · obtain ⟨M, a, b, c, d⟩ := month_at y n r h'
      exact ⟨M, a, by omega, c, d⟩
    · exact ⟨n + 1, by omega, Nat.le_refl _, by simpa using h', h⟩
/-- What a day is. -/
structure Civ (day : Int) (Y M D : Nat) : Prop where
  y0 : 1970 ≤ Y
  y1 : Y ≤ 9999
  m0 : 1 ≤ M
  m1 : M ≤ 12
  d0 : 1 ≤ D
  d1 : D ≤ daysN Y M
  eq : day = nY Y + (cum Y (M - 1) : Nat) + D - 1
theorem civ_at (d : Int) (h0 : 0 ≤ d) (h1 : d ≤ 2932896) : ∃ Y M D, Civ d Y M D := by
  obtain ⟨Y, a, b, c, e⟩ := year_at 8030 d h0 (by rw [show 1970 + 8030 = 10000 from rfl, nY_10000]; omega)
  obtain ⟨r, hr⟩ := Int.eq_ofNat_of_zero_le (show 0 ≤ d - nY Y by omega)
  have hy := nY_succ Y (by omega)
  obtain ⟨M, m0, m1, c0, c1⟩ := month_at Y 12 r (by rw [cum12]; omega)
  have hs := cum_step Y M m0
  exact ⟨Y, M, r - cum Y (M - 1) + 1, a, by omega, m0, m1, by omega, by omega, by omega⟩
theorem Civ.next {d : Int} {Y M D : Nat} (h : Civ d Y M D) : d < nY (Y + 1) := by
  have h1 := nY_succ Y (by have := h.y0; omega)
  have h2 := cum_mono Y h.m1
  have h3 := cum_step Y M h.m0
  rw [cum12] at h2
  have := h.eq; have := h.d1; have := h.d0
  omega
theorem Civ.first {d : Int} {Y M D : Nat} (h : Civ d Y M D) : nY Y ≤ d := by
  have := h.eq; have := h.d0
  omega
theorem Civ.year {d : Int} {Y M D : Nat} (h : Civ d Y M D) {y : Nat} (hy : y ≤ Y) (h1 : 1 ≤ y) : nY (y + 1) ≤ d ↔ y < Y := by
  constructor
  · intro h2
    have h3 := h.next
    rcases Nat.lt_or_ge y Y with h4 | h4
    · exact h4
    · obtain rfl : y = Y := by omega
      omega
  · intro h2
    have := nY_mono (a := y + 1) (b := Y) (by omega) (by omega)
    have := h.first
    omega
/-- Behind the first k - 1 months there are still so many days. -/
theorem Civ.month {d : Int} {Y M D : Nat} (h : Civ d Y M D) {k : Nat} (hk : 1 ≤ k) (hM : k ≤ M) : cum Y (k - 1) ≤ cum Y (M - 1) ∧ (daysN Y k < cum Y (M - 1) + D - cum Y (k - 1) ↔ k < M) := by
  have h1 := cum_mono Y (show k - 1 ≤ M - 1 by omega)
  have h2 := cum_step Y k hk
  refine ⟨h1, ?_⟩
  constructor
  · intro h3
    rcases Nat.lt_or_ge k M with h4 | h4
    · exact h4
    · obtain rfl : k = M := by omega
      have := h.d1
      omega
  · intro h3
    have := cum_mono Y (show k ≤ M - 1 by omega)
    have := h.d0
    omega

/-! ### The text -/
def nameL : Nat → List UInt8
  | 1 => [74, 97, 110] | 2 => [70, 101, 98] | 3 => [77, 97, 114] | 4 => [65, 112, 114] | 5 => [77, 97, 121] | 6 => [74, 117, 110]
  | 7 => [74, 117, 108] | 8 => [65, 117, 103] | 9 => [83, 101, 112] | 10 => [79, 99, 116] | 11 => [78, 111, 118] | 12 => [68, 101, 99] | _ => []
theorem twelve {m : Nat} (h0 : 1 ≤ m) (h1 : m ≤ 12) : m = 1 ∨ m = 2 ∨ m = 3 ∨ m = 4 ∨ m = 5 ∨ m = 6 ∨ m = 7 ∨ m = 8 ∨ m = 9 ∨ m = 10 ∨ m = 11 ∨ m = 12 := by omega
theorem nameL_length {m : Nat} (h0 : 1 ≤ m) (h1 : m ≤ 12) : (nameL m).length = 3 := by
  rcases twelve h0 h1 with rfl | rfl | rfl | rfl | rfl | rfl | rfl | rfl | rfl | rfl | rfl | rfl <;> rfl
def two (v : Nat) : List UInt8 := [dg v 1, dg v 0]
def four (v : Nat) : List UInt8 := [dg v 3, dg v 2, dg v 1, dg v 0]
def tensB (D : Nat) : UInt8 := if D < 10 then 32 else dg D 1
/-- What stands ahead of the zone. -/
def headL (Y M D s : Nat) : List UInt8 :=
  tensB D :: dg D 0 :: 45 :: (nameL M ++ 45 :: (four Y ++ 32 :: (two (s / 3600) ++ 58 :: (two (s / 60 % 60) ++ 58 :: two (s % 60)))))
def textL (Y M D s : Nat) : List UInt8 := headL Y M D s ++ [32, 43, 48, 48, 48, 48]
theorem itoa_four {Y : Nat} (h0 : 1000 ≤ Y) (h1 : Y ≤ 9999) : itoa (Y : Int) = four Y := by
  unfold itoa
  rw [if_neg (by omega), show ((Y : Int)).toNat = Y by omega, decDigits_eq, nDigits_unique 3 Y (by omega) (by omega)]
  rfl
end Go.Proofs.YthhflkgngencdaaGreatDoor.dat
namespace Go.Proofs.YthhflkgngencdaaGreatDoor.dat
open Go.ChangeShapes Go.WideShapes Go.ChangeAt Go.RowKit
open Go.Lib (dg itoa byteCells strCells)
set_option linter.unusedVariables false
set_option linter.unusedSimpArgs false

theorem isLeap_any (w : World) (y : Nat) (hy : y ≤ 10001) :
    Calls Tryz.prog 281 #[.int .i64 y] w fun e w' => e = .returned (.bool (leapN y)) ∧ w' = w := by
  go_enter Tryz.func281, Tryz.ntmps281
  go_wp2
  all_goals (go_ret; refine ⟨congrArg (fun b => Ending.returned (Value.bool b)) ?_, rfl⟩; rw [Bool.eq_iff_iff]; simp [leapN] at * <;> omega)
theorem length_any (w : World) (y m : Nat) (hy : y ≤ 10001) (hm : m ≤ 100) :
    Calls Tryz.prog 276 #[.int .i64 y, .int .i64 m] w fun e w' => e = .returned (.int .i64 (daysN y m : Nat)) ∧ w' = w := by
  have h := fun w => isLeap_any w y hy
  unfold daysN
  by_cases h2 : m = 2
  · subst h2
    cases hl : leapN y <;> rw [hl] at h <;>
    · go_enter Tryz.func276, Tryz.ntmps276
      go_wp2_with (go_at_call 281; refine (h _).mono ?_; rintro e w' ⟨rfl, rfl⟩)
      go_ret
      exact ⟨rfl, rfl⟩
  · rw [if_neg h2]
    by_cases h4 : m = 4 ∨ m = 6 ∨ m = 9 ∨ m = 11
    · rw [if_pos h4]
      rcases h4 with rfl | rfl | rfl | rfl <;>
      · go_enter Tryz.func276, Tryz.ntmps276
        go_wp2
        go_ret
        exact ⟨rfl, rfl⟩
    · rw [if_neg h4]
      have e2 : ((m : Int) == 2) = false := by simp; omega
      have e4 : ((m : Int) == 4) = false := by simp; omega
      have e6 : ((m : Int) == 6) = false := by simp; omega
      have e9 : ((m : Int) == 9) = false := by simp; omega
      have e11 : ((m : Int) == 11) = false := by simp; omega
      go_enter Tryz.func276, Tryz.ntmps276
      go_wp2
      go_ret
      exact ⟨rfl, rfl⟩
theorem tdiv_in (p : Int) (n : Int) (hn : 1 ≤ n) (h : -1 ≤ p ∧ p ≤ 10001) : -1 ≤ p.tdiv n ∧ p.tdiv n ≤ 10001 := by
  rcases Int.lt_or_le p 0 with h0 | h0
  · obtain rfl : p = -1 := by omega
    rw [Int.neg_tdiv]
    have h1 : Int.tdiv 1 n = 1 / n := Int.tdiv_eq_ediv_of_nonneg (by omega)
    have h2 : (1 : Int) / n ≤ 1 := Int.ediv_le_self _ (by omega)
    have h3 : 0 ≤ (1 : Int) / n := Int.ediv_nonneg (by omega) (by omega)
    omega
  · rw [Int.tdiv_eq_ediv_of_nonneg h0]
    have h2 : p / n ≤ p := Int.ediv_le_self _ (by omega)
    have h3 : 0 ≤ p / n := Int.ediv_nonneg (by omega) (by omega)
    omega
theorem newYear_any (w : World) (y : Nat) (hy : y ≤ 10001) :
    Calls Tryz.prog 275 #[.int .i64 y] w fun e w' => e = .returned (.int .i64 (nY y)) ∧ w' = w := by
  have a1 := tdiv_in ((y : Int) - 1) 4 (by omega) (by omega)
  have a2 := tdiv_in ((y : Int) - 1) 100 (by omega) (by omega)
  have a3 := tdiv_in ((y : Int) - 1) 400 (by omega) (by omega)
  have w1 := IntWalk.wrap64_in (365 * ((y : Int) - 1) + ((y : Int) - 1).tdiv 4) (by omega)
  have w2 := IntWalk.wrap64_in (365 * ((y : Int) - 1) + ((y : Int) - 1).tdiv 4 - ((y : Int) - 1).tdiv 100) (by omega)
  have w3 := IntWalk.wrap64_in (365 * ((y : Int) - 1) + ((y : Int) - 1).tdiv 4 - ((y : Int) - 1).tdiv 100 + ((y : Int) - 1).tdiv 400) (by omega)
  have w4 := IntWalk.wrap64_in (365 * ((y : Int) - 1) + ((y : Int) - 1).tdiv 4 - ((y : Int) - 1).tdiv 100 + ((y : Int) - 1).tdiv 400 - 719162) (by omega)
  have W1 := Lib.hid w1; have W2 := Lib.hid w2; have W3 := Lib.hid w3; have W4 := Lib.hid w4
  clear w1 w2 w3 w4 a1 a2 a3
  unfold nY
  go_enter Tryz.func275, Tryz.ntmps275
  go_wp2
  rw [W1.out, W2.out, W3.out, W4.out]
  go_ret
  exact ⟨rfl, rfl⟩

theorem isTime_any (w : World) (t : Int) :
    Calls Tryz.prog 263 #[.int .i64 t] w fun e w' => e = .returned (.bool (decide (0 ≤ t ∧ t ≤ 253402300799))) ∧ w' = w := by
  go_enter Tryz.func263, Tryz.ntmps263
  go_wp2
  all_goals (go_ret; refine ⟨congrArg (fun b => Ending.returned (Value.bool b)) ?_, rfl⟩; rw [Bool.eq_iff_iff]; simp at * <;> omega)

theorem dg0_nat (v : Nat) : (dg v 0).toNat = 48 + v % 10 := by
  unfold dg
  rw [UInt8.toNat_ofNat', show 10 ^ 0 = 1 from rfl, Nat.div_one]
  omega
theorem dg_nat (v j : Nat) : (dg v j).toNat = 48 + v / 10 ^ j % 10 := by
  unfold dg
  rw [UInt8.toNat_ofNat']
  omega
theorem digit_any (w : World) (v : Nat) (hv : v < 100000) :
    Calls Tryz.prog 266 #[.int .i64 v] w fun e w' => e = .returned (.int .u8 ((dg v 0).toNat : Nat)) ∧ w' = w := by
  rw [dg0_nat]
  go_enter Tryz.func266, Tryz.ntmps266
  go_wp2
  go_ret
  exact ⟨by congr 2 <;> omega, rfl⟩
theorem tens_any (w : World) (v : Nat) (hv : v < 100) :
    Calls Tryz.prog 265 #[.int .i64 v] w fun e w' => e = .returned (.int .u8 ((tensB v).toNat : Nat)) ∧ w' = w := by
  unfold tensB
  by_cases h : v < 10
  · rw [if_pos h]
    go_enter Tryz.func265, Tryz.ntmps265
    go_wp2
    go_ret
    exact ⟨rfl, rfl⟩
  · rw [if_neg h, dg_nat, show 10 ^ 1 = 10 from rfl]
    go_enter Tryz.func265, Tryz.ntmps265
    go_wp2
    go_ret
    rw [show ((48 + v / 10 % 10 : Nat) : Int) = 48 + (v : Int) / 10 by omega]
    exact ⟨rfl, rfl⟩
theorem monthName_any (w : World) (m : Nat) (h0 : 1 ≤ m) (h1 : m ≤ 12) :
    Calls Tryz.prog 267 #[.int .i64 m] w fun e w' => e = .returned (.string ⟨(nameL m).toArray⟩) ∧ w' = w := by
  rcases twelve h0 h1 with rfl | rfl | rfl | rfl | rfl | rfl | rfl | rfl | rfl | rfl | rfl | rfl <;>
  · go_enter Tryz.func267, Tryz.ntmps267
    go_wp2
    go_ret
    exact ⟨by first | rfl | kernel_rfl | decide, rfl⟩
theorem civil_any (w : World) (d : Int) (Y M D : Nat) (h : Civ d Y M D) (h0 : 0 ≤ d) (h1 : d ≤ 2932896) :
    Calls Tryz.prog 264 #[.int .i64 d] w fun e w' => e = .returned (.tuple #[.int .i64 Y, .int .i64 M, .int .i64 D]) ∧ w' = w := by
  obtain ⟨n, rfl⟩ := Int.eq_ofNat_of_zero_le h0
  have hY0 := h.y0; have hY1 := h.y1; have hM0 := h.m0; have hM1 := h.m1; have hD0 := h.d0; have hD1 := h.d1
  have hst : 1970 + n / 366 ≤ Y := by
    have hk := nY_near (n / 366) (by omega)
    rcases Nat.lt_or_ge Y (1970 + n / 366) with h' | h'
    · have := (h.next)
      have := nY_mono (a := Y + 1) (b := 1970 + n / 366) (by omega) (by omega)
      omega
    · exact h'
  have HC := Lib.hid h
  have hdn := daysN_pos Y M
  clear h
  go_enter Tryz.func264, Tryz.ntmps264
  go_wp2
  go_loop [2] (fun x => ∃ y : Nat, 1970 ≤ y ∧ y ≤ Y ∧ x = .int .i64 y) (fun x => Y - (intOf x).toNat)
  case atStart => exact ⟨1970 + n / 366, by omega, hst, by congr 1⟩
  case round =>
    obtain ⟨y, y0, y1, rfl⟩ := hrel
    have hb := nY_bounds (y + 1) (by omega)
    have hi := HC.out.year y1 (by omega)
    have hn := fun w => newYear_any w (y + 1) (by omega)
    obtain ⟨z, hz⟩ : ∃ z, nY (y + 1) = z := ⟨_, rfl⟩
    rw [hz] at hb hi hn
    rw [show (((y + 1 : Nat) : Int)) = (y : Int) + 1 by omega] at hn
    have HN := Lib.hid hn
    clear hn hz
    by_cases hy : y < Y
    · have hzn : z ≤ (n : Int) := hi.2 hy
      clear hi
      go_wp2_with (go_at_call 275; refine (HN.out _).mono ?_; rintro e w' ⟨rfl, rfl⟩)
      exact ⟨⟨y + 1, by omega, hy, by simp⟩, by simp [intOf]; omega⟩
    · obtain rfl : y = Y := by omega
      have hzn : ¬ z ≤ (n : Int) := fun hh => hy (hi.1 hh)
      clear hi
      have hf := HC.out.first
      have he := HC.out.eq
      have hb2 := nY_bounds y (by omega)
      have hn2 := fun w => newYear_any w y (by omega)
      obtain ⟨z2, hz2⟩ : ∃ z, nY y = z := ⟨_, rfl⟩
      rw [hz2] at hf he hb2 hn2
      have HN2 := Lib.hid hn2
      have hcl := cum_le y (M - 1)
      clear hn2 hz2
      obtain ⟨cM, hcM⟩ : ∃ c, cum y (M - 1) = c := ⟨_, rfl⟩
      have HCM := Lib.hid hcM
      rw [hcM] at he hcl
      clear hcM
      go_wp2_with (first | (go_at_call 275; with_reducible refine Calls.mono (HN.out _) ?_; rintro e w' ⟨rfl, rfl⟩) | (go_at_call 275; with_reducible refine Calls.mono (HN2.out _) ?_; rintro e w' ⟨rfl, rfl⟩))
      go_loop [3, 4] (fun x r => ∃ k : Nat, 1 ≤ k ∧ k ≤ M ∧ x = .int .i64 k ∧ r = .int .i64 ((cM + D : Nat) - (cum y (k - 1) : Nat) : Int)) (fun x _ => M - (intOf x).toNat)
      case atStart => exact ⟨1, Nat.le_refl _, hM0, rfl, by simp [cum]; omega⟩
      case round =>
        obtain ⟨k, k0, k1, rfl, rfl⟩ := hrel
        obtain ⟨hm1, hm2⟩ := HC.out.month k0 k1
        have hl := daysN_pos y k
        have hs := cum_step y k k0
        rw [HCM.out] at hm1 hm2
        obtain ⟨c, hcc⟩ : ∃ c, cum y (k - 1) = c := ⟨_, rfl⟩
        obtain ⟨l, hll⟩ : ∃ l, daysN y k = l := ⟨_, rfl⟩
        have hlen := fun w => length_any w y k (by omega) (by omega)
        rw [hll] at hlen hl hs hm2
        rw [hcc] at hm1 hm2 hs ⊢
        have HS := Lib.hid hs
        have HL := Lib.hid hlen
        have HLL := Lib.hid hll
        have HCC := Lib.hid hcc
        clear hlen hll hcc hs
        by_cases hkM : k < M
        · have hlt : (l : Int) < ((cM + D : Nat) : Int) - (c : Int) := by have := hm2.2 hkM; omega
          clear hm2
          go_wp2_with (go_at_call 276; refine (HL.out _).mono ?_; rintro e w' ⟨rfl, rfl⟩)
          exact ⟨⟨k + 1, by omega, hkM, by simp, by rw [show k + 1 - 1 = k by omega, HS.out]; congr 1; omega⟩, by simp [intOf]; omega⟩
        · obtain rfl : k = M := by omega
          obtain rfl : cM = c := HCM.out.symm.trans HCC.out
          have hlt : ¬ (l : Int) < ((cM + D : Nat) : Int) - (cM : Int) := by rw [HLL.out] at hD1; omega
          clear hm2
          go_wp2_with (go_at_call 276; refine (HL.out _).mono ?_; rintro e w' ⟨rfl, rfl⟩)
          go_ret3
          rw [show (cM : Int) + (D : Int) - (cM : Int) = (D : Int) by omega]
          exact ⟨rfl, rfl⟩
end Go.Proofs.YthhflkgngencdaaGreatDoor.dat
namespace Go.Proofs.YthhflkgngencdaaGreatDoor.dat
open Go.ChangeShapes Go.WideShapes Go.ChangeAt Go.RowKit
open Go.Lib (dg itoa byteCells strCells)
set_option linter.unusedVariables false
set_option linter.unusedSimpArgs false

end Go.Proofs.YthhflkgngencdaaGreatDoor.dat
