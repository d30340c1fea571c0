/- Indices and flags: when they are formed, walked (the second part). -/
import Derived.Test.YtklmbiekpilkhaaGreatDoorIdxK
namespace Go.Proofs.YtklmbiekpilkhaaGreatDoor.idx
open Go.ChangeShapes Go.WideShapes Go.ChangeAt Go.RowKit
open Go.Proofs.YtklmbiekpilkhaaGreatDoor.row
set_option linter.unusedVariables false
set_option maxRecDepth 100000
set_option linter.unusedSimpArgs false

def wrongE (x : Nat) (e : E) : Bool := !belowB e.u x || !placeB e.a
def wrongM (e : E) : Bool := !flagsB e.a
theorem areFlags_any (w : World) (f : Int) :
    Calls Tryz.prog 75 #[.int .i64 f] w fun e w' => e = .returned (.bool (flagsB f)) ∧ Below w.heap.size w w' := by
  have hC := flg.change_any w 0 f 0
  rw [show flg.chgN (flg.five 0) (flg.five f) (flg.kind 0) = flg.five f from rfl] at hC
  have hv : decide ((flg.five f : Int) = f) = flagsB f := by
    unfold flagsB
    rw [decide_eq_decide]
    unfold flg.five
    omega
  rw [← hv]
  generalize flg.five f = g at *
  have HC := Lib.hid hC
  clear hC hv
  go_enter Tryz.func75, Tryz.ntmps75
  go_wp2_with (go_at_call 102; refine HC.out.mono ?_; rintro e w1 ⟨rfl, hw⟩; replace hw := hw.symm; subst hw)
  go_ret
  exact ⟨by rfl, Below.refl _ _⟩
theorem wrongM_any (w : World) (u : Nat) (a : Int) :
    Calls Tryz.prog 74 #[.agg #[.int .u32 u, .int .i64 a]] w fun e w' => e = .returned (.bool (wrongM ⟨u, a⟩)) ∧ Below w.heap.size w w' := by
  have HF := Lib.hid (areFlags_any (w.alloc (.cells #[.int .u32 u, .int .i64 a] 66)) a)
  go_enter Tryz.func74, Tryz.ntmps74
  go_wp2_with (go_at_call 75; refine HF.out.mono ?_; rintro e w1 ⟨rfl, hb⟩)
  go_ret
  exact ⟨rfl, (boxed hb).2⟩
theorem wrongE_any (w : World) (u : Nat) (a : Int) (b x : Nat) (hx : x < 4294967296) (hc : w.cell? ⟨b, 0, none⟩ = some (.int .u32 (x : Nat))) :
    Calls Tryz.prog 69 #[.agg #[.int .u32 u, .int .i64 a], .pointer (some ⟨b, 0, none⟩)] w fun e w' => e = .returned (.bool (wrongE x ⟨u, a⟩)) ∧ Below w.heap.size w w' := by
  have HF := Lib.hid (below_any (w.alloc (.cells #[.int .u32 u, .int .i64 a] 64)) u x hx)
  have HB := block_lt_of_cell hc
  unfold wrongE
  cases hb : belowB u x
  · rw [hb] at HF
    clear hb hx
    go_enter Tryz.func69, Tryz.ntmps69
    go_wp2_with (go_at_call 70; refine HF.out.mono ?_; rintro e w1 ⟨rfl, hb⟩)
    go_ret
    exact ⟨rfl, (boxed hb).2⟩
  · rw [hb] at HF
    clear hb hx
    go_enter Tryz.func69, Tryz.ntmps69
    go_wp2_with (first
      | (go_at_call 70; refine HF.out.mono ?_; rintro e w1 ⟨rfl, hb⟩; have d1 := cell_at (boxed hb).1 1 _ rfl; have HB1 := Lib.hid (boxed hb).2; clear hb)
      | (go_at_call 42; refine (place_any _ a).mono ?_; rintro e w2 ⟨rfl, hb⟩; have HB2 := Lib.hid (HB1.out.trans (hb.mono HB1.out.size)); clear hb))
    go_ret
    exact ⟨rfl, HB2.out⟩
set_option maxHeartbeats 1000000 in
theorem indexFE_any (W : World) (A : Option Addr) (n c : Nat) (ps : List E) (hR : Rd cE 2 W A n ps) (hn : n ≤ 1000000) (b0 q0 : Nat) (hq0 : q0 < 4294967296) (hcx : W.cell? ⟨b0, 0, none⟩ = some (.int .u32 (q0 : Nat))) :
    Calls Tryz.prog 101 #[.slice A n c, .func (.func 69) #[] #[.pointer (some ⟨b0, 0, none⟩)]] W fun e w' => (∃ z : Int, e = .returned (.int .i64 z) ∧ decide (0 ≤ z) = ps.any (wrongE q0)) ∧ Below W.heap.size W w' := by
  have HR := Lib.hid hR
  have HCX := Lib.hid hcx
  have HXL := Lib.hid hq0
  clear hR hcx hq0
  go_enter Tryz.func101, Tryz.ntmps101
  go_wp2
  go_loopw [8] (fun i wr => ∃ k : Nat, k ≤ n ∧ i = .int .i64 k ∧ Hid (∀ j x, j < k → ps[j]? = some x → (wrongE q0) x = false) ∧ Hid (Below W.heap.size W wr)) (fun i _ => n - (intOf i).toNat)
  case atStart => exact ⟨0, Nat.zero_le _, rfl, Lib.hid (fun j x h => absurd h (Nat.not_lt_zero _)), Lib.hid (Below.refl _ _)⟩
  case round =>
    obtain ⟨k, hk, rfl, HU, HB⟩ := hrel
    by_cases hlt : k < n
    · obtain ⟨b, o, ⟨m, a⟩, rfl, hx, c0, c1⟩ := atE (HR.out.below HB.out) k hlt
      simp only at c0 c1
      have hlt' : (k : Int) < (n : Int) := by omega
      have hW := wrongE_any wr m a b0 q0 HXL.out (by rw [HB.out.cell (p := ⟨b0, 0, none⟩) (block_lt_of_cell HCX.out)]; exact HCX.out)
      have HX := Lib.hid hx
      clear hx
      cases hp : wrongE q0 ⟨m, a⟩
      · rw [hp] at hW
        have HW := Lib.hid hW
        have HP := Lib.hid hp
        clear hW hp
        go_wp2_with (go_at_call 69; refine HW.out.mono ?_; rintro e w1 ⟨rfl, hb⟩; have HB1 := Lib.hid hb; clear hb)
        go_roundw
        case rel =>
          have hU : ∀ j x, j < k + 1 → ps[j]? = some x → (wrongE q0) x = false := fun j x hj hx => by
            rcases Nat.lt_succ_iff_lt_or_eq.1 hj with h | rfl
            · exact HU.out j x h hx
            · rw [HX.out] at hx
              cases hx
              exact HP.out
          first | exact ⟨k + 1, by omega, by go_num, Lib.hid hU, Lib.hid (HB.out.trans (HB1.out.mono HB.out.size))⟩ | ((repeat apply Exists.intro); exact ⟨⟨k + 1, by omega, by go_num, Lib.hid hU, Lib.hid (HB.out.trans (HB1.out.mono HB.out.size))⟩, rfl⟩)
        case measure => (show n - ((k : Int) + 1).toNat < n - k; omega)
      · rw [hp] at hW
        have HW := Lib.hid hW
        have HP := Lib.hid (any_yes HX.out hp)
        clear hW hp
        go_wp2_with (go_at_call 69; refine HW.out.mono ?_; rintro e w1 ⟨rfl, hb⟩; have HB1 := Lib.hid hb; clear hb)
        go_ret
        exact ⟨⟨_, rfl, by rw [HP.out]; exact decide_eq_true (by omega)⟩, HB.out.trans (HB1.out.mono HB.out.size)⟩
    · obtain rfl : k = n := by omega
      have hA : ps.any (wrongE q0) = false := any_no fun j x hx => HU.out j x (by have := (List.getElem?_eq_some_iff.1 hx).1; have := HR.out.1; omega) hx
      have HA := Lib.hid hA
      clear hA
      go_wp2
      go_ret
      exact ⟨⟨_, rfl, by rw [HA.out]; rfl⟩, HB.out⟩
theorem containsFE_any (W : World) (A : Option Addr) (n c : Nat) (ps : List E) (hR : Rd cE 2 W A n ps) (hn : n ≤ 1000000) (b0 q0 : Nat) (hq0 : q0 < 4294967296) (hcx : W.cell? ⟨b0, 0, none⟩ = some (.int .u32 (q0 : Nat))) :
    Calls Tryz.prog 73 #[.slice A n c, .func (.func 69) #[] #[.pointer (some ⟨b0, 0, none⟩)]] W fun e w' => e = .returned (.bool (ps.any (wrongE q0))) ∧ Below W.heap.size W w' := by
  have HI := Lib.hid (indexFE_any W A n c ps hR hn b0 q0 hq0 hcx)
  clear hR hcx
  go_enter Tryz.func73, Tryz.ntmps73
  go_wp2_with (go_at_call 101; refine HI.out.mono ?_; rintro e w1 ⟨⟨z, rfl, hz⟩, hb⟩; have HB1 := Lib.hid hb; have HZ := Lib.hid hz; clear hb hz)
  go_ret
  exact ⟨by rw [← HZ.out]; rfl, HB1.out⟩
set_option maxHeartbeats 1000000 in
theorem indexFM_any (W : World) (A : Option Addr) (n c : Nat) (ps : List E) (hR : Rd cE 2 W A n ps) (hn : n ≤ 1000000) :
    Calls Tryz.prog 103 #[.slice A n c, .func (.func 74) #[] #[]] W fun e w' => (∃ z : Int, e = .returned (.int .i64 z) ∧ decide (0 ≤ z) = ps.any wrongM) ∧ Below W.heap.size W w' := by
  have HR := Lib.hid hR
  clear hR
  go_enter Tryz.func103, Tryz.ntmps103
  go_wp2
  go_loopw [8] (fun i wr => ∃ k : Nat, k ≤ n ∧ i = .int .i64 k ∧ Hid (∀ j x, j < k → ps[j]? = some x → wrongM x = false) ∧ Hid (Below W.heap.size W wr)) (fun i _ => n - (intOf i).toNat)
  case atStart => exact ⟨0, Nat.zero_le _, rfl, Lib.hid (fun j x h => absurd h (Nat.not_lt_zero _)), Lib.hid (Below.refl _ _)⟩
  case round =>
    obtain ⟨k, hk, rfl, HU, HB⟩ := hrel
    by_cases hlt : k < n
    · obtain ⟨b, o, ⟨m, a⟩, rfl, hx, c0, c1⟩ := atE (HR.out.below HB.out) k hlt
      simp only at c0 c1
      have hlt' : (k : Int) < (n : Int) := by omega
      have hW := wrongM_any wr m a
      have HX := Lib.hid hx
      clear hx
      cases hp : wrongM ⟨m, a⟩
      · rw [hp] at hW
        have HW := Lib.hid hW
        have HP := Lib.hid hp
        clear hW hp
        go_wp2_with (go_at_call 74; refine HW.out.mono ?_; rintro e w1 ⟨rfl, hb⟩; have HB1 := Lib.hid hb; clear hb)
        go_roundw
        case rel =>
          have hU : ∀ j x, j < k + 1 → ps[j]? = some x → wrongM x = false := fun j x hj hx => by
            rcases Nat.lt_succ_iff_lt_or_eq.1 hj with h | rfl
            · exact HU.out j x h hx
            · rw [HX.out] at hx
              cases hx
              exact HP.out
          first | exact ⟨k + 1, by omega, by go_num, Lib.hid hU, Lib.hid (HB.out.trans (HB1.out.mono HB.out.size))⟩ | ((repeat apply Exists.intro); exact ⟨⟨k + 1, by omega, by go_num, Lib.hid hU, Lib.hid (HB.out.trans (HB1.out.mono HB.out.size))⟩, rfl⟩)
        case measure => (show n - ((k : Int) + 1).toNat < n - k; omega)
      · rw [hp] at hW
        have HW := Lib.hid hW
        have HP := Lib.hid (any_yes HX.out hp)
        clear hW hp
        go_wp2_with (go_at_call 74; refine HW.out.mono ?_; rintro e w1 ⟨rfl, hb⟩; have HB1 := Lib.hid hb; clear hb)
        go_ret
        exact ⟨⟨_, rfl, by rw [HP.out]; exact decide_eq_true (by omega)⟩, HB.out.trans (HB1.out.mono HB.out.size)⟩
    · obtain rfl : k = n := by omega
      have hA : ps.any wrongM = false := any_no fun j x hx => HU.out j x (by have := (List.getElem?_eq_some_iff.1 hx).1; have := HR.out.1; omega) hx
      have HA := Lib.hid hA
      clear hA
      go_wp2
      go_ret
      exact ⟨⟨_, rfl, by rw [HA.out]; rfl⟩, HB.out⟩
theorem containsFM_any (W : World) (A : Option Addr) (n c : Nat) (ps : List E) (hR : Rd cE 2 W A n ps) (hn : n ≤ 1000000) :
    Calls Tryz.prog 78 #[.slice A n c, .func (.func 74) #[] #[]] W fun e w' => e = .returned (.bool (ps.any wrongM)) ∧ Below W.heap.size W w' := by
  have HI := Lib.hid (indexFM_any W A n c ps hR hn)
  clear hR
  go_enter Tryz.func78, Tryz.ntmps78
  go_wp2_with (go_at_call 103; refine HI.out.mono ?_; rintro e w1 ⟨⟨z, rfl, hz⟩, hb⟩; have HB1 := Lib.hid hb; have HZ := Lib.hid hz; clear hb hz)
  go_ret
  exact ⟨by rw [← HZ.out]; rfl, HB1.out⟩
def okE (es : List E) : Prop := ∀ e ∈ es, e.u < 4294967296
set_option maxHeartbeats 1000000 in
theorem areMarks_any (W : World) (A : Option Addr) (n c : Nat) (es : List E) (hR : Rd cE 2 W A n es) (hn : n ≤ 1000000) (hok : okE es) :
    Calls Tryz.prog 44 #[.slice A n c] W fun e w' => e = .returned (.bool (marksB es)) ∧ Below W.heap.size W w' := by
  have HI := Lib.hid (riseM_any W A n c es hR hn hok)
  have HC := Lib.hid (fun (w : World) (hb : Below W.heap.size W w) => containsFM_any w A n c es (hR.below hb) hn)
  have hT : marksB es = (decide (n ≤ 500) && ((up 0 (es.map uI)).2 && !(es.any wrongM))) := by rw [← hR.1]; rfl
  rw [hT]
  clear hR hT
  by_cases h5 : n ≤ 500
  · have d5 : decide (n ≤ 500) = true := decide_eq_true h5
    have d6 : decide ((n : Int) ≤ 500) = true := by rw [decide_eq_true_iff]; omega
    rw [d5]
    clear h5
    cases h1 : (up 0 (es.map uI)).2
    · rw [h1] at HI
      clear h1
      go_enter Tryz.func44, Tryz.ntmps44
      go_wp2_with (go_at_call 76; refine HI.out.mono ?_; rintro e w1 ⟨rfl, hb⟩; have HB1 := Lib.hid hb; clear hb)
      go_ret
      exact ⟨rfl, HB1.out⟩
    · rw [h1] at HI
      clear h1
      go_enter Tryz.func44, Tryz.ntmps44
      go_wp2_with (first
        | (go_at_call 76; refine HI.out.mono ?_; rintro e w1 ⟨rfl, hb⟩; have HB1 := Lib.hid hb; clear hb)
        | (go_at_call 78; refine (HC.out w1 HB1.out).mono ?_; rintro e w2 ⟨rfl, hb⟩; have HB2 := Lib.hid (HB1.out.trans (hb.mono HB1.out.size)); clear hb))
      go_ret
      exact ⟨rfl, HB2.out⟩
  · have d5 : decide (n ≤ 500) = false := decide_eq_false h5
    have d6 : decide ((n : Int) ≤ 500) = false := by rw [decide_eq_false_iff_not]; omega
    rw [d5]
    clear h5
    go_enter Tryz.func44, Tryz.ntmps44
    go_wp2
    go_ret
    exact ⟨rfl, Below.refl _ _⟩
set_option maxHeartbeats 1000000 in
theorem areEntries_any (W : World) (A : Option Addr) (n c : Nat) (es : List E) (hR : Rd cE 2 W A n es) (hn : n ≤ 1000000) (hok : okE es) (x : Nat) (hx : x < 4294967296) :
    Calls Tryz.prog 43 #[.slice A n c, .int .u32 x] W fun e w' => e = .returned (.bool (entriesB es x)) ∧ Below W.heap.size W w' := by
  obtain ⟨W1, hW1⟩ : ∃ W1, W1 = W.alloc (.cells #[.int .u32 (x : Nat)] 24) := ⟨_, rfl⟩
  have HBW := Lib.hid (show Below W.heap.size W W1 by rw [hW1]; exact (Below.refl _ _).alloc (Nat.le_refl _) _)
  have hc1 : W1.cell? ⟨W.heap.size, 0, none⟩ = some (.int .u32 (x : Nat)) := by rw [hW1]; exact cell_at (heap_alloc_new W _) 0 _ rfl
  have HI := Lib.hid (riseE_any W1 A n c es (hR.below HBW.out) hn hok)
  have HC := Lib.hid (fun (w : World) (hb : Below W1.heap.size W1 w) => containsFE_any w A n c es ((hR.below HBW.out).below hb) hn W.heap.size x hx (by rw [hb.cell (p := ⟨W.heap.size, 0, none⟩) (block_lt_of_cell hc1)]; exact hc1))
  have hT : entriesB es x = (decide (n ≤ 500) && ((up 0 (es.map uI)).2 && !(es.any (wrongE x)))) := by rw [← hR.1]; rfl
  rw [hT]
  have HW1 := Lib.hid hW1
  clear hR hT hc1 hW1
  by_cases h5 : n ≤ 500
  · have d5 : decide (n ≤ 500) = true := decide_eq_true h5
    have d6 : decide ((n : Int) ≤ 500) = true := by rw [decide_eq_true_iff]; omega
    rw [d5]
    clear h5
    cases h1 : (up 0 (es.map uI)).2
    · rw [h1] at HI
      clear h1
      go_enter Tryz.func43, Tryz.ntmps43
      go_wp2_with (go_at_call 71; rw [← HW1.out]; refine HI.out.mono ?_; rintro e w1 ⟨rfl, hb⟩; have HB1 := Lib.hid hb; clear hb)
      go_ret
      exact ⟨rfl, HBW.out.trans (HB1.out.mono HBW.out.size)⟩
    · rw [h1] at HI
      clear h1
      go_enter Tryz.func43, Tryz.ntmps43
      go_wp2_with (first
        | (go_at_call 71; rw [← HW1.out]; refine HI.out.mono ?_; rintro e w1 ⟨rfl, hb⟩; have HB1 := Lib.hid hb; clear hb)
        | (go_at_call 73; refine (HC.out w1 HB1.out).mono ?_; rintro e w2 ⟨rfl, hb⟩; have HB2 := Lib.hid (HB1.out.trans (hb.mono HB1.out.size)); clear hb))
      go_ret
      exact ⟨rfl, HBW.out.trans (HB2.out.mono HBW.out.size)⟩
  · have d5 : decide (n ≤ 500) = false := decide_eq_false h5
    have d6 : decide ((n : Int) ≤ 500) = false := by rw [decide_eq_false_iff_not]; omega
    rw [d5]
    clear h5
    go_enter Tryz.func43, Tryz.ntmps43
    go_wp2
    go_ret
    exact ⟨rfl, by first | exact HBW.out | (rw [← HW1.out]; exact HBW.out)⟩
set_option maxHeartbeats 1000000 in
theorem formedFlags_any (W : World) (e0 : Nat) (A : Option Addr) (n c : Nat) (es : List E) (hR : Rd cE 2 W A n es) (hn : n ≤ 1000000) (hok : okE es) :
    Calls Tryz.prog 22 #[.agg #[.int .u32 e0, .slice A n c]] W fun e w' => e = .returned (.bool (flsB e0 es)) ∧ Below W.heap.size W w' := by
  obtain ⟨W1, hW1⟩ : ∃ W1, W1 = W.alloc (.cells #[.int .u32 (e0 : Nat), .slice A n c] 33) := ⟨_, rfl⟩
  have HBW := Lib.hid (show Below W.heap.size W W1 by rw [hW1]; exact (Below.refl _ _).alloc (Nat.le_refl _) _)
  have HM := Lib.hid (areMarks_any W1 A n c es (hR.below HBW.out) hn hok)
  have HW1 := Lib.hid hW1
  unfold flsB
  clear hR hW1
  by_cases h0 : e0 = 0
  · subst h0
    have d0 : decide ((0 : Nat) ≠ 0) = false := by decide
    rw [d0]
    go_enter Tryz.func22, Tryz.ntmps22
    go_wp2
    go_ret
    exact ⟨rfl, by have := HBW.out; rw [HW1.out] at this; exact this⟩
  · have d0 : decide (e0 ≠ 0) = true := decide_eq_true h0
    have d1 : ((e0 : Int) != 0) = true := by rw [bne_iff_ne]; omega
    rw [d0]
    clear h0
    go_enter Tryz.func22, Tryz.ntmps22
    go_wp2_with (go_at_call 44; rw [← HW1.out]; refine HM.out.mono ?_; rintro e w1 ⟨rfl, hb⟩; have HB1 := Lib.hid hb; clear hb)
    go_ret
    exact ⟨rfl, HBW.out.trans (HB1.out.mono HBW.out.size)⟩
end Go.Proofs.YtklmbiekpilkhaaGreatDoor.idx
