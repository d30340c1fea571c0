/- Indices and flags: when they are formed, walked. -/
import Derived.Test.YtklmbiekpilkhaaGreatDoorMi2
import Derived.Test.YtklmbiekpilkhaaGreatDoorMc2
namespace Go.Proofs.YtklmbiekpilkhaaGreatDoor.idx
open Go.ChangeShapes Go.WideShapes Go.ChangeAt Go.RowKit
open Go.Proofs.YtklmbiekpilkhaaGreatDoor.row
set_option linter.unusedVariables false
set_option maxRecDepth 100000
set_option linter.unusedSimpArgs false

def uI (e : E) : Int := (e.u : Int)
theorem below_any (w : World) (u x : Nat) (hx : x < 4294967296) :
    Calls Tryz.prog 70 #[.int .u32 u, .int .u32 x] w fun e w' => e = .returned (.bool (belowB u x)) ∧ Below w.heap.size w w' := by
  unfold belowB
  by_cases h1 : u < x
  · have d1 : decide (u < x) = true := decide_eq_true h1
    rw [d1]
    clear h1
    go_enter Tryz.func70, Tryz.ntmps70
    go_wp2
    go_ret
    exact ⟨rfl, Below.refl _ _⟩
  · have d1 : decide (u < x) = false := decide_eq_false h1
    rw [d1]
    by_cases h2 : x = 4294967295
    · have d2 : ((x : Int) == 4294967295) = true := by rw [beq_iff_eq]; omega
      rw [decide_eq_true h2]
      clear h1 h2 hx
      go_enter Tryz.func70, Tryz.ntmps70
      go_wp2
      go_ret
      exact ⟨rfl, Below.refl _ _⟩
    · have d2 : ((x : Int) == 4294967295) = false := by rw [beq_eq_false_iff_ne]; omega
      rw [decide_eq_false h2]
      clear h1 h2 hx
      go_enter Tryz.func70, Tryz.ntmps70
      go_wp2
      go_ret
      exact ⟨rfl, Below.refl _ _⟩
theorem place_any (w : World) (a : Int) :
    Calls Tryz.prog 42 #[.int .i64 a] w fun e w' => e = .returned (.bool (placeB a)) ∧ Below w.heap.size w w' := by
  unfold placeB
  by_cases h1 : 0 ≤ a
  · have d1 : decide ((0 : Int) ≤ a) = true := decide_eq_true h1
    rw [d1]
    by_cases h2 : a ≤ 4294967295
    · have d2 : decide (a ≤ (4294967295 : Int)) = true := decide_eq_true h2
      rw [d2]
      clear h1 h2
      go_enter Tryz.func42, Tryz.ntmps42
      go_wp2
      go_ret
      exact ⟨rfl, Below.refl _ _⟩
    · have d2 : decide (a ≤ (4294967295 : Int)) = false := decide_eq_false h2
      rw [d2]
      clear h1 h2
      go_enter Tryz.func42, Tryz.ntmps42
      go_wp2
      go_ret
      exact ⟨rfl, Below.refl _ _⟩
  · have d1 : decide ((0 : Int) ≤ a) = false := decide_eq_false h1
    rw [d1]
    clear h1
    go_enter Tryz.func42, Tryz.ntmps42
    go_wp2
    go_ret
    exact ⟨rfl, Below.refl _ _⟩
theorem uidE_any (w : World) (u : Nat) (a : Int) (hu : u < 4294967296) :
    Calls Tryz.prog 72 #[.agg #[.int .u32 u, .int .i64 a]] w fun e w' => e = .returned (.int .i64 u) ∧ Below w.heap.size w w' := by
  go_enter Tryz.func72, Tryz.ntmps72
  go_wp2
  go_ret
  exact ⟨rfl, (Below.refl _ _).alloc (Nat.le_refl _) _⟩
set_option maxHeartbeats 1000000 in
theorem riseE_any (W : World) (A : Option Addr) (n c : Nat) (ps : List E) (hR : Rd cE 2 W A n ps) (hn : n ≤ 1000000) (hok : ∀ e ∈ ps, e.u < 4294967296) :
    Calls Tryz.prog 71 #[.slice A n c, .int .i64 1, .func (.func 72) #[] #[]] W fun e w' => e = .returned (.bool (up 0 (ps.map uI)).2) ∧ Below W.heap.size W w' := by
  have HR := Lib.hid hR
  have HOK := Lib.hid hok
  clear hR hok
  go_enter Tryz.func71, Tryz.ntmps71
  go_wp2
  go_loopw [7, 15] (fun s i wr => ∃ k : Nat, k ≤ n ∧ i = .int .i64 k ∧ s = .int .i64 (up 0 ((ps.map uI).take k)).1 ∧ Hid ((up 0 ((ps.map uI).take k)).2 = true) ∧ Hid (Below W.heap.size W wr)) (fun _ i _ => n - (intOf i).toNat)
  case atStart => exact ⟨0, Nat.zero_le _, rfl, rfl, Lib.hid rfl, Lib.hid (Below.refl _ _)⟩
  case round =>
    obtain ⟨k, hk, rfl, rfl, HU, HB⟩ := hrel
    by_cases hlt : k < n
    · obtain ⟨b, o, ⟨m, a⟩, rfl, hx, c0, c1⟩ := atE (HR.out.below HB.out) k hlt
      have hm : m < 4294967296 := HOK.out _ (List.mem_of_getElem? hx)
      have hT := congrArg (up 0) (take_next (map_at uI hx))
      simp only [up_snoc, HU.out, Bool.true_and, uI] at hT
      have HT := Lib.hid hT
      simp only at c0 c1
      have hlt' : (k : Int) < (n : Int) := by omega
      have HN := Lib.hid (fun w => uidE_any w m a hm)
      clear hx hT hm
      generalize (up 0 ((ps.map uI).take k)).1 = g at *
      by_cases hg : g < (m : Int)
      · have hd : decide ((m : Int) ≤ g) = false := decide_eq_false (by omega)
        have HS := Lib.hid (show (up 0 ((ps.map uI).take (k + 1))) = ((m : Int), true) by rw [HT.out, decide_eq_true hg])
        clear HT hg
        go_wp2_with (go_at_call 72; refine (HN.out _).mono ?_; rintro e w1 ⟨rfl, hb⟩; have HB1 := Lib.hid (boxed hb).2; clear hb)
        go_roundw
        case rel => first | exact ⟨k + 1, by omega, by go_num, by rw [HS.out], Lib.hid (by rw [HS.out]), Lib.hid (HB.out.trans (HB1.out.mono HB.out.size))⟩ | ((repeat apply Exists.intro); exact ⟨⟨k + 1, by omega, by go_num, by rw [HS.out], Lib.hid (by rw [HS.out]), Lib.hid (HB.out.trans (HB1.out.mono HB.out.size))⟩, rfl⟩)
        case measure => (show n - ((k : Int) + 1).toNat < n - k; omega)
      · have hd : decide ((m : Int) ≤ g) = true := decide_eq_true (by omega)
        have HS := Lib.hid (show (up 0 (ps.map uI)).2 = false from up_stop (i := k + 1) (by rw [HT.out, decide_eq_false hg]))
        clear HT hg
        go_wp2_with (go_at_call 72; refine (HN.out _).mono ?_; rintro e w1 ⟨rfl, hb⟩; have HB1 := Lib.hid (boxed hb).2; clear hb)
        go_ret
        exact ⟨by rw [HS.out]; rfl, HB.out.trans (HB1.out.mono HB.out.size)⟩
    · obtain rfl : k = n := by omega
      have HE : Hid ((ps.map uI).take k = ps.map uI) := Lib.hid (List.take_of_length_le (by rw [List.length_map, HR.out.1]; omega))
      go_wp2
      go_ret
      exact ⟨by rw [← HE.out, HU.out]; rfl, HB.out⟩
theorem uidM_any (w : World) (u : Nat) (a : Int) (hu : u < 4294967296) :
    Calls Tryz.prog 77 #[.agg #[.int .u32 u, .int .i64 a]] w fun e w' => e = .returned (.int .i64 u) ∧ Below w.heap.size w w' := by
  go_enter Tryz.func77, Tryz.ntmps77
  go_wp2
  go_ret
  exact ⟨rfl, (Below.refl _ _).alloc (Nat.le_refl _) _⟩
set_option maxHeartbeats 1000000 in
theorem riseM_any (W : World) (A : Option Addr) (n c : Nat) (ps : List E) (hR : Rd cE 2 W A n ps) (hn : n ≤ 1000000) (hok : ∀ e ∈ ps, e.u < 4294967296) :
    Calls Tryz.prog 76 #[.slice A n c, .int .i64 1, .func (.func 77) #[] #[]] W fun e w' => e = .returned (.bool (up 0 (ps.map uI)).2) ∧ Below W.heap.size W w' := by
  have HR := Lib.hid hR
  have HOK := Lib.hid hok
  clear hR hok
  go_enter Tryz.func76, Tryz.ntmps76
  go_wp2
  go_loopw [7, 15] (fun s i wr => ∃ k : Nat, k ≤ n ∧ i = .int .i64 k ∧ s = .int .i64 (up 0 ((ps.map uI).take k)).1 ∧ Hid ((up 0 ((ps.map uI).take k)).2 = true) ∧ Hid (Below W.heap.size W wr)) (fun _ i _ => n - (intOf i).toNat)
  case atStart => exact ⟨0, Nat.zero_le _, rfl, rfl, Lib.hid rfl, Lib.hid (Below.refl _ _)⟩
  case round =>
    obtain ⟨k, hk, rfl, rfl, HU, HB⟩ := hrel
    by_cases hlt : k < n
    · obtain ⟨b, o, ⟨m, a⟩, rfl, hx, c0, c1⟩ := atE (HR.out.below HB.out) k hlt
      have hm : m < 4294967296 := HOK.out _ (List.mem_of_getElem? hx)
      have hT := congrArg (up 0) (take_next (map_at uI hx))
      simp only [up_snoc, HU.out, Bool.true_and, uI] at hT
      have HT := Lib.hid hT
      simp only at c0 c1
      have hlt' : (k : Int) < (n : Int) := by omega
      have HN := Lib.hid (fun w => uidM_any w m a hm)
      clear hx hT hm
      generalize (up 0 ((ps.map uI).take k)).1 = g at *
      by_cases hg : g < (m : Int)
      · have hd : decide ((m : Int) ≤ g) = false := decide_eq_false (by omega)
        have HS := Lib.hid (show (up 0 ((ps.map uI).take (k + 1))) = ((m : Int), true) by rw [HT.out, decide_eq_true hg])
        clear HT hg
        go_wp2_with (go_at_call 77; refine (HN.out _).mono ?_; rintro e w1 ⟨rfl, hb⟩; have HB1 := Lib.hid (boxed hb).2; clear hb)
        go_roundw
        case rel => first | exact ⟨k + 1, by omega, by go_num, by rw [HS.out], Lib.hid (by rw [HS.out]), Lib.hid (HB.out.trans (HB1.out.mono HB.out.size))⟩ | ((repeat apply Exists.intro); exact ⟨⟨k + 1, by omega, by go_num, by rw [HS.out], Lib.hid (by rw [HS.out]), Lib.hid (HB.out.trans (HB1.out.mono HB.out.size))⟩, rfl⟩)
        case measure => (show n - ((k : Int) + 1).toNat < n - k; omega)
      · have hd : decide ((m : Int) ≤ g) = true := decide_eq_true (by omega)
        have HS := Lib.hid (show (up 0 (ps.map uI)).2 = false from up_stop (i := k + 1) (by rw [HT.out, decide_eq_false hg]))
        clear HT hg
        go_wp2_with (go_at_call 77; refine (HN.out _).mono ?_; rintro e w1 ⟨rfl, hb⟩; have HB1 := Lib.hid (boxed hb).2; clear hb)
        go_ret
        exact ⟨by rw [HS.out]; rfl, HB.out.trans (HB1.out.mono HB.out.size)⟩
    · obtain rfl : k = n := by omega
      have HE : Hid ((ps.map uI).take k = ps.map uI) := Lib.hid (List.take_of_length_le (by rw [List.length_map, HR.out.1]; omega))
      go_wp2
      go_ret
      exact ⟨by rw [← HE.out, HU.out]; rfl, HB.out⟩
end Go.Proofs.YtklmbiekpilkhaaGreatDoor.idx
namespace Go.Proofs.YtklmbiekpilkhaaGreatDoor.idx
open Go.ChangeShapes Go.WideShapes Go.ChangeAt Go.RowKit
open Go.Proofs.YtklmbiekpilkhaaGreatDoor.row
set_option linter.unusedVariables false
set_option maxRecDepth 100000
set_option linter.unusedSimpArgs false

def wrongE (x : Nat) (e : E) : Bool := !belowB e.u x || !placeB e.a
def wrongM (e : E) : Bool := !flagsB e.a
theorem areFlags_any (w : World) (f : Int) :
    Calls Tryz.prog 75 #[.int .i64 f] w fun e w' => e = .returned (.bool (flagsB f)) ∧ Below w.heap.size w w' := by
  have hC := flg.change_any w 0 f 0
  rw [show flg.chgN (flg.five 0) (flg.five f) (flg.kind 0) = flg.five f from rfl] at hC
  have hv : decide ((flg.five f : Int) = f) = flagsB f := by
    unfold flagsB
    rw [decide_eq_decide]
    unfold flg.five
    omega
  rw [← hv]
  generalize flg.five f = g at *
  have HC := Lib.hid hC
  clear hC hv
  go_enter Tryz.func75, Tryz.ntmps75
  go_wp2_with (go_at_call 102; refine HC.out.mono ?_; rintro e w1 ⟨rfl, hw⟩; replace hw := hw.symm; subst hw)
  go_ret
  exact ⟨by rfl, Below.refl _ _⟩
theorem wrongM_any (w : World) (u : Nat) (a : Int) :
    Calls Tryz.prog 74 #[.agg #[.int .u32 u, .int .i64 a]] w fun e w' => e = .returned (.bool (wrongM ⟨u, a⟩)) ∧ Below w.heap.size w w' := by
  have HF := Lib.hid (areFlags_any (w.alloc (.cells #[.int .u32 u, .int .i64 a] 66)) a)
  go_enter Tryz.func74, Tryz.ntmps74
  go_wp2_with (go_at_call 75; refine HF.out.mono ?_; rintro e w1 ⟨rfl, hb⟩)
  go_ret
  exact ⟨rfl, (boxed hb).2⟩
theorem wrongE_any (w : World) (u : Nat) (a : Int) (b x : Nat) (hx : x < 4294967296) (hc : w.cell? ⟨b, 0, none⟩ = some (.int .u32 (x : Nat))) :
    Calls Tryz.prog 69 #[.agg #[.int .u32 u, .int .i64 a], .pointer (some ⟨b, 0, none⟩)] w fun e w' => e = .returned (.bool (wrongE x ⟨u, a⟩)) ∧ Below w.heap.size w w' := by
  have HF := Lib.hid (below_any (w.alloc (.cells #[.int .u32 u, .int .i64 a] 64)) u x hx)
  have HB := block_lt_of_cell hc
  unfold wrongE
  cases hb : belowB u x
  · rw [hb] at HF
    clear hb hx
    go_enter Tryz.func69, Tryz.ntmps69
    go_wp2_with (go_at_call 70; refine HF.out.mono ?_; rintro e w1 ⟨rfl, hb⟩)
    go_ret
    exact ⟨rfl, (boxed hb).2⟩
  · rw [hb] at HF
    clear hb hx
    go_enter Tryz.func69, Tryz.ntmps69
    go_wp2_with (first
      | (go_at_call 70; refine HF.out.mono ?_; rintro e w1 ⟨rfl, hb⟩; have d1 := cell_at (boxed hb).1 1 _ rfl; have HB1 := Lib.hid (boxed hb).2; clear hb)
      | (go_at_call 42; refine (place_any _ a).mono ?_; rintro e w2 ⟨rfl, hb⟩; have HB2 := Lib.hid (HB1.out.trans (hb.mono HB1.out.size)); clear hb))
    go_ret
    exact ⟨rfl, HB2.out⟩
set_option maxHeartbeats 1000000 in
theorem indexFE_any (W : World) (A : Option Addr) (n c : Nat) (ps : List E) (hR : Rd cE 2 W A n ps) (hn : n ≤ 1000000) (b0 q0 : Nat) (hq0 : q0 < 4294967296) (hcx : W.cell? ⟨b0, 0, none⟩ = some (.int .u32 (q0 : Nat))) :
    Calls Tryz.prog 101 #[.slice A n c, .func (.func 69) #[] #[.pointer (some ⟨b0, 0, none⟩)]] W fun e w' => (∃ z : Int, e = .returned (.int .i64 z) ∧ decide (0 ≤ z) = ps.any (wrongE q0)) ∧ Below W.heap.size W w' := by
  have HR := Lib.hid hR
  have HCX := Lib.hid hcx
  have HXL := Lib.hid hq0
  clear hR hcx hq0
  go_enter Tryz.func101, Tryz.ntmps101
  go_wp2
  go_loopw [8] (fun i wr => ∃ k : Nat, k ≤ n ∧ i = .int .i64 k ∧ Hid (∀ j x, j < k → ps[j]? = some x → (wrongE q0) x = false) ∧ Hid (Below W.heap.size W wr)) (fun i _ => n - (intOf i).toNat)
  case atStart => exact ⟨0, Nat.zero_le _, rfl, Lib.hid (fun j x h => absurd h (Nat.not_lt_zero _)), Lib.hid (Below.refl _ _)⟩
  case round =>
    obtain ⟨k, hk, rfl, HU, HB⟩ := hrel
    by_cases hlt : k < n
    · obtain ⟨b, o, ⟨m, a⟩, rfl, hx, c0, c1⟩ := atE (HR.out.below HB.out) k hlt
      simp only at c0 c1
      have hlt' : (k : Int) < (n : Int) := by omega
      have hW := wrongE_any wr m a b0 q0 HXL.out (by rw [HB.out.cell (p := ⟨b0, 0, none⟩) (block_lt_of_cell HCX.out)]; exact HCX.out)
      have HX := Lib.hid hx
      clear hx
      cases hp : wrongE q0 ⟨m, a⟩
      · rw [hp] at hW
        have HW := Lib.hid hW
        have HP := Lib.hid hp
        clear hW hp
        go_wp2_with (go_at_call 69; refine HW.out.mono ?_; rintro e w1 ⟨rfl, hb⟩; have HB1 := Lib.hid hb; clear hb)
        go_roundw
        case rel =>
          have hU : ∀ j x, j < k + 1 → ps[j]? = some x → (wrongE q0) x = false := fun j x hj hx => by
            rcases Nat.lt_succ_iff_lt_or_eq.1 hj with h | rfl
            · exact HU.out j x h hx
            · rw [HX.out] at hx
              cases hx
              exact HP.out
          first | exact ⟨k + 1, by omega, by go_num, Lib.hid hU, Lib.hid (HB.out.trans (HB1.out.mono HB.out.size))⟩ | ((repeat apply Exists.intro); exact ⟨⟨k + 1, by omega, by go_num, Lib.hid hU, Lib.hid (HB.out.trans (HB1.out.mono HB.out.size))⟩, rfl⟩)
        case measure => (show n - ((k : Int) + 1).toNat < n - k; omega)
      · rw [hp] at hW
        have HW := Lib.hid hW
        have HP := Lib.hid (any_yes HX.out hp)
        clear hW hp
        go_wp2_with (go_at_call 69; refine HW.out.mono ?_; rintro e w1 ⟨rfl, hb⟩; have HB1 := Lib.hid hb; clear hb)
        go_ret
        exact ⟨⟨_, rfl, by rw [HP.out]; exact decide_eq_true (by omega)⟩, HB.out.trans (HB1.out.mono HB.out.size)⟩
    · obtain rfl : k = n := by omega
      have hA : ps.any (wrongE q0) = false := any_no fun j x hx => HU.out j x (by have := (List.getElem?_eq_some_iff.1 hx).1; have := HR.out.1; omega) hx
      have HA := Lib.hid hA
      clear hA
      go_wp2
      go_ret
      exact ⟨⟨_, rfl, by rw [HA.out]; rfl⟩, HB.out⟩
theorem containsFE_any (W : World) (A : Option Addr) (n c : Nat) (ps : List E) (hR : Rd cE 2 W A n ps) (hn : n ≤ 1000000) (b0 q0 : Nat) (hq0 : q0 < 4294967296) (hcx : W.cell? ⟨b0, 0, none⟩ = some (.int .u32 (q0 : Nat))) :
    Calls Tryz.prog 73 #[.slice A n c, .func (.func 69) #[] #[.pointer (some ⟨b0, 0, none⟩)]] W fun e w' => e = .returned (.bool (ps.any (wrongE q0))) ∧ Below W.heap.size W w' := by
  have HI := Lib.hid (indexFE_any W A n c ps hR hn b0 q0 hq0 hcx)
  clear hR hcx
  go_enter Tryz.func73, Tryz.ntmps73
  go_wp2_with (go_at_call 101; refine HI.out.mono ?_; rintro e w1 ⟨⟨z, rfl, hz⟩, hb⟩; have HB1 := Lib.hid hb; have HZ := Lib.hid hz; clear hb hz)
  go_ret
  exact ⟨by rw [← HZ.out]; rfl, HB1.out⟩
set_option maxHeartbeats 1000000 in
theorem indexFM_any (W : World) (A : Option Addr) (n c : Nat) (ps : List E) (hR : Rd cE 2 W A n ps) (hn : n ≤ 1000000) :
    Calls Tryz.prog 103 #[.slice A n c, .func (.func 74) #[] #[]] W fun e w' => (∃ z : Int, e = .returned (.int .i64 z) ∧ decide (0 ≤ z) = ps.any wrongM) ∧ Below W.heap.size W w' := by
  have HR := Lib.hid hR
  clear hR
  go_enter Tryz.func103, Tryz.ntmps103
  go_wp2
  go_loopw [8] (fun i wr => ∃ k : Nat, k ≤ n ∧ i = .int .i64 k ∧ Hid (∀ j x, j < k → ps[j]? = some x → wrongM x = false) ∧ Hid (Below W.heap.size W wr)) (fun i _ => n - (intOf i).toNat)
  case atStart => exact ⟨0, Nat.zero_le _, rfl, Lib.hid (fun j x h => absurd h (Nat.not_lt_zero _)), Lib.hid (Below.refl _ _)⟩
  case round =>
    obtain ⟨k, hk, rfl, HU, HB⟩ := hrel
    by_cases hlt : k < n
    · obtain ⟨b, o, ⟨m, a⟩, rfl, hx, c0, c1⟩ := atE (HR.out.below HB.out) k hlt
      simp only at c0 c1
      have hlt' : (k : Int) < (n : Int) := by omega
      have hW := wrongM_any wr m a
      have HX := Lib.hid hx
      clear hx
      cases hp : wrongM ⟨m, a⟩
      · rw [hp] at hW
        have HW := Lib.hid hW
        have HP := Lib.hid hp
        clear hW hp
        go_wp2_with (go_at_call 74; refine HW.out.mono ?_; rintro e w1 ⟨rfl, hb⟩; have HB1 := Lib.hid hb; clear hb)
        go_roundw
        case rel =>
          have hU : ∀ j x, j < k + 1 → ps[j]? = some x → wrongM x = false := fun j x hj hx => by
            rcases Nat.lt_succ_iff_lt_or_eq.1 hj with h | rfl
            · exact HU.out j x h hx
            · rw [HX.out] at hx
              cases hx
              exact HP.out
          first | exact ⟨k + 1, by omega, by go_num, Lib.hid hU, Lib.hid (HB.out.trans (HB1.out.mono HB.out.size))⟩ | ((repeat apply Exists.intro); exact ⟨⟨k + 1, by omega, by go_num, Lib.hid hU, Lib.hid (HB.out.trans (HB1.out.mono HB.out.size))⟩, rfl⟩)
        case measure => (show n - ((k : Int) + 1).toNat < n - k; omega)
      · rw [hp] at hW
        have HW := Lib.hid hW
        have HP := Lib.hid (any_yes HX.out hp)
        clear hW hp
        go_wp2_with (go_at_call 74; refine HW.out.mono ?_; rintro e w1 ⟨rfl, hb⟩; have HB1 := Lib.hid hb; clear hb)
        go_ret
        exact ⟨⟨_, rfl, by rw [HP.out]; exact decide_eq_true (by omega)⟩, HB.out.trans (HB1.out.mono HB.out.size)⟩
    · obtain rfl : k = n := by omega
      have hA : ps.any wrongM = false := any_no fun j x hx => HU.out j x (by have := (List.getElem?_eq_some_iff.1 hx).1; have := HR.out.1; omega) hx
      have HA := Lib.hid hA
      clear hA
      go_wp2
      go_ret
      exact ⟨⟨_, rfl, by rw [HA.out]; rfl⟩, HB.out⟩
theorem containsFM_any (W : World) (A : Option Addr) (n c : Nat) (ps : List E) (hR : Rd cE 2 W A n ps) (hn : n ≤ 1000000) :
    Calls Tryz.prog 78 #[.slice A n c, .func (.func 74) #[] #[]] W fun e w' => e = .returned (.bool (ps.any wrongM)) ∧ Below W.heap.size W w' := by
  have HI := Lib.hid (indexFM_any W A n c ps hR hn)
  clear hR
  go_enter Tryz.func78, Tryz.ntmps78
  go_wp2_with (go_at_call 103; refine HI.out.mono ?_; rintro e w1 ⟨⟨z, rfl, hz⟩, hb⟩; have HB1 := Lib.hid hb; have HZ := Lib.hid hz; clear hb hz)
  go_ret
  exact ⟨by rw [← HZ.out]; rfl, HB1.out⟩
def okE (es : List E) : Prop := ∀ e ∈ es, e.u < 4294967296
set_option maxHeartbeats 1000000 in
theorem areMarks_any (W : World) (A : Option Addr) (n c : Nat) (es : List E) (hR : Rd cE 2 W A n es) (hn : n ≤ 1000000) (hok : okE es) :
    Calls Tryz.prog 44 #[.slice A n c] W fun e w' => e = .returned (.bool (marksB es)) ∧ Below W.heap.size W w' := by
  have HI := Lib.hid (riseM_any W A n c es hR hn hok)
  have HC := Lib.hid (fun (w : World) (hb : Below W.heap.size W w) => containsFM_any w A n c es (hR.below hb) hn)
  have hT : marksB es = (decide (n ≤ 500) && ((up 0 (es.map uI)).2 && !(es.any wrongM))) := by rw [← hR.1]; rfl
  rw [hT]
  clear hR hT
  by_cases h5 : n ≤ 500
  · have d5 : decide (n ≤ 500) = true := decide_eq_true h5
    have d6 : decide ((n : Int) ≤ 500) = true := by rw [decide_eq_true_iff]; omega
    rw [d5]
    clear h5
    cases h1 : (up 0 (es.map uI)).2
    · rw [h1] at HI
      clear h1
      go_enter Tryz.func44, Tryz.ntmps44
      go_wp2_with (go_at_call 76; refine HI.out.mono ?_; rintro e w1 ⟨rfl, hb⟩; have HB1 := Lib.hid hb; clear hb)
      go_ret
      exact ⟨rfl, HB1.out⟩
    · rw [h1] at HI
      clear h1
      go_enter Tryz.func44, Tryz.ntmps44
      go_wp2_with (first
        | (go_at_call 76; refine HI.out.mono ?_; rintro e w1 ⟨rfl, hb⟩; have HB1 := Lib.hid hb; clear hb)
        | (go_at_call 78; refine (HC.out w1 HB1.out).mono ?_; rintro e w2 ⟨rfl, hb⟩; have HB2 := Lib.hid (HB1.out.trans (hb.mono HB1.out.size)); clear hb))
      go_ret
      exact ⟨rfl, HB2.out⟩
  · have d5 : decide (n ≤ 500) = false := decide_eq_false h5
    have d6 : decide ((n : Int) ≤ 500) = false := by rw [decide_eq_false_iff_not]; omega
    rw [d5]
    clear h5
    go_enter Tryz.func44, Tryz.ntmps44
    go_wp2
    go_ret
    exact ⟨rfl, Below.refl _ _⟩
set_option maxHeartbeats 1000000 in
theorem areEntries_any (W : World) (A : Option Addr) (n c : Nat) (es : List E) (hR : Rd cE 2 W A n es) (hn : n ≤ 1000000) (hok : okE es) (x : Nat) (hx : x < 4294967296) :
    Calls Tryz.prog 43 #[.slice A n c, .int .u32 x] W fun e w' => e = .returned (.bool (entriesB es x)) ∧ Below W.heap.size W w' := by
  obtain ⟨W1, hW1⟩ : ∃ W1, W1 = W.alloc (.cells #[.int .u32 (x : Nat)] 24) := ⟨_, rfl⟩
  have HBW := Lib.hid (show Below W.heap.size W W1 by rw [hW1]; exact (Below.refl _ _).alloc (Nat.le_refl _) _)
  have hc1 : W1.cell? ⟨W.heap.size, 0, none⟩ = some (.int .u32 (x : Nat)) := by rw [hW1]; exact cell_at (heap_alloc_new W _) 0 _ rfl
  have HI := Lib.hid (riseE_any W1 A n c es (hR.below HBW.out) hn hok)
  have HC := Lib.hid (fun (w : World) (hb : Below W1.heap.size W1 w) => containsFE_any w A n c es ((hR.below HBW.out).below hb) hn W.heap.size x hx (by rw [hb.cell (p := ⟨W.heap.size, 0, none⟩) (block_lt_of_cell hc1)]; exact hc1))
  have hT : entriesB es x = (decide (n ≤ 500) && ((up 0 (es.map uI)).2 && !(es.any (wrongE x)))) := by rw [← hR.1]; rfl
  rw [hT]
  have HW1 := Lib.hid hW1
  clear hR hT hc1 hW1
  by_cases h5 : n ≤ 500
  · have d5 : decide (n ≤ 500) = true := decide_eq_true h5
    have d6 : decide ((n : Int) ≤ 500) = true := by rw [decide_eq_true_iff]; omega
    rw [d5]
    clear h5
    cases h1 : (up 0 (es.map uI)).2
    · rw [h1] at HI
      clear h1
      go_enter Tryz.func43, Tryz.ntmps43
      go_wp2_with (go_at_call 71; rw [← HW1.out]; refine HI.out.mono ?_; rintro e w1 ⟨rfl, hb⟩; have HB1 := Lib.hid hb; clear hb)
      go_ret
      exact ⟨rfl, HBW.out.trans (HB1.out.mono HBW.out.size)⟩
    · rw [h1] at HI
      clear h1
      go_enter Tryz.func43, Tryz.ntmps43
      go_wp2_with (first
        | (go_at_call 71; rw [← HW1.out]; refine HI.out.mono ?_; rintro e w1 ⟨rfl, hb⟩; have HB1 := Lib.hid hb; clear hb)
        | (go_at_call 73; refine (HC.out w1 HB1.out).mono ?_; rintro e w2 ⟨rfl, hb⟩; have HB2 := Lib.hid (HB1.out.trans (hb.mono HB1.out.size)); clear hb))
      go_ret
      exact ⟨rfl, HBW.out.trans (HB2.out.mono HBW.out.size)⟩
  · have d5 : decide (n ≤ 500) = false := decide_eq_false h5
    have d6 : decide ((n : Int) ≤ 500) = false := by rw [decide_eq_false_iff_not]; omega
    rw [d5]
    clear h5
    go_enter Tryz.func43, Tryz.ntmps43
    go_wp2
    go_ret
    exact ⟨rfl, by first | exact HBW.out | (rw [← HW1.out]; exact HBW.out)⟩
set_option maxHeartbeats 1000000 in
theorem formedFlags_any (W : World) (e0 : Nat) (A : Option Addr) (n c : Nat) (es : List E) (hR : Rd cE 2 W A n es) (hn : n ≤ 1000000) (hok : okE es) :
    Calls Tryz.prog 22 #[.agg #[.int .u32 e0, .slice A n c]] W fun e w' => e = .returned (.bool (flsB e0 es)) ∧ Below W.heap.size W w' := by
  obtain ⟨W1, hW1⟩ : ∃ W1, W1 = W.alloc (.cells #[.int .u32 (e0 : Nat), .slice A n c] 33) := ⟨_, rfl⟩
  have HBW := Lib.hid (show Below W.heap.size W W1 by rw [hW1]; exact (Below.refl _ _).alloc (Nat.le_refl _) _)
  have HM := Lib.hid (areMarks_any W1 A n c es (hR.below HBW.out) hn hok)
  have HW1 := Lib.hid hW1
  unfold flsB
  clear hR hW1
  by_cases h0 : e0 = 0
  · subst h0
    have d0 : decide ((0 : Nat) ≠ 0) = false := by decide
    rw [d0]
    go_enter Tryz.func22, Tryz.ntmps22
    go_wp2
    go_ret
    exact ⟨rfl, by have := HBW.out; rw [HW1.out] at this; exact this⟩
  · have d0 : decide (e0 ≠ 0) = true := decide_eq_true h0
    have d1 : ((e0 : Int) != 0) = true := by rw [bne_iff_ne]; omega
    rw [d0]
    clear h0
    go_enter Tryz.func22, Tryz.ntmps22
    go_wp2_with (go_at_call 44; rw [← HW1.out]; refine HM.out.mono ?_; rintro e w1 ⟨rfl, hb⟩; have HB1 := Lib.hid hb; clear hb)
    go_ret
    exact ⟨rfl, HBW.out.trans (HB1.out.mono HBW.out.size)⟩
end Go.Proofs.YtklmbiekpilkhaaGreatDoor.idx
namespace Go.Proofs.YtklmbiekpilkhaaGreatDoor.idx
open Go.ChangeShapes Go.WideShapes Go.ChangeAt Go.RowKit
open Go.Proofs.YtklmbiekpilkhaaGreatDoor.row
open Go.Proofs.YtklmbiekpilkhaaGreatDoor.codec (Bytes OutIs More bytesOf bytesOf_length strOf)
open Go.Proofs.YtklmbiekpilkhaaGreatDoor.bod (named nums txt nums_length nums_lt strOf_nums)
set_option linter.unusedVariables false
set_option maxRecDepth 100000
set_option linter.unusedSimpArgs false

def cX (s : ByteArray) (e x : Nat) (t : Int) (A : Option Addr) (n c : Nat) : Array Value := #[.string s, .int .u32 (e : Nat), .int .u32 (x : Nat), .int .i64 t, .slice A n c]
def cFl (e : Nat) (A : Option Addr) (n c : Nat) : Array Value := #[.int .u32 (e : Nat), .slice A n c]
theorem ob_out {W w : World} {b : Nat} {cs : Array Value} {t : TypeId} (hb : Below W.heap.size W w) (hc : w.heap[b]? = some (.cells cs t (0, 0))) : Ob W w.heap.size [] [w.heap.size] b cs t (w.alloc (.cells #[.pointer none, .int .i64 0, .bool false] 79)) := by
  have hlt : b < w.heap.size := (Array.getElem?_eq_some_iff.1 hc).1
  exact ⟨ou_start hb, fun h => by simp at h; omega, (Below.heap_alloc _ _ _ hlt).trans hc⟩
set_option maxHeartbeats 1000000 in
theorem formedIndex_any (W : World) (s : ByteArray) (e0 x : Nat) (t : Int) (A : Option Addr) (n c : Nat) (es : List E) (hR : Rd cE 2 W A n es) (hn : n ≤ 1000000) (hok : okE es) (hx : x < 4294967296) (hr : nam.Room W) :
    Calls Tryz.prog 21 #[.agg #[.string s, .int .u32 e0, .int .u32 x, .int .i64 t, .slice A n c]] W fun e w' => e = .returned (.bool (indexB s e0 x t es)) ∧ Below W.heap.size W w' := by
  obtain ⟨W1, hW1⟩ : ∃ W1, W1 = W.alloc (.cells #[.string s, .int .u32 (e0 : Nat), .int .u32 (x : Nat), .int .i64 t, .slice A n c] 27) := ⟨_, rfl⟩
  have HBW := Lib.hid (show Below W.heap.size W W1 by rw [hW1]; exact (Below.refl _ _).alloc (Nat.le_refl _) _)
  have HRC := Lib.hid (fun (w1 : World) (h : Below W1.heap.size W1 w1) => (boxed (w := W) (o := .cells #[.string s, .int .u32 (e0 : Nat), .int .u32 (x : Nat), .int .i64 t, .slice A n c] 27) (w1 := w1) (by rw [← hW1]; exact h)).1)
  have HN := Lib.hid (isName_any W1 s (hr.below HBW.out))
  have HP := Lib.hid (fun w => place_any w t)
  have HE := Lib.hid (fun (w : World) (hb : Below W1.heap.size W1 w) => areEntries_any w A n c es ((hR.below HBW.out).below hb) hn hok x hx)
  have HW1 := Lib.hid hW1
  unfold indexB
  clear hR hW1 hr hok
  cases hn1 : named s
  · rw [hn1] at HN
    clear hn1
    go_enter Tryz.func21, Tryz.ntmps21
    go_wp2_with (first | (go_at_call 41; rw [← HW1.out]; refine HN.out.mono ?_; rintro e w1 ⟨rfl, hb⟩; have k1 := cell_at (HRC.out _ hb) 1 _ rfl; have k2 := cell_at (HRC.out _ hb) 2 _ rfl; have k3 := cell_at (HRC.out _ hb) 3 _ rfl; have HB1 := Lib.hid hb; clear hb))
    go_ret
    exact ⟨rfl, HBW.out.trans (HB1.out.mono HBW.out.size)⟩
  · rw [hn1] at HN
    clear hn1
    by_cases h0 : e0 = 0
    · have d0 : decide (e0 ≠ 0) = false := by rw [decide_eq_false_iff_not]; omega
      have d1 : ((e0 : Int) != 0) = false := by rw [bne_eq_false_iff_eq]; omega
      rw [d0]
      clear h0
      go_enter Tryz.func21, Tryz.ntmps21
      go_wp2_with (first | (go_at_call 41; rw [← HW1.out]; refine HN.out.mono ?_; rintro e w1 ⟨rfl, hb⟩; have k1 := cell_at (HRC.out _ hb) 1 _ rfl; have k2 := cell_at (HRC.out _ hb) 2 _ rfl; have k3 := cell_at (HRC.out _ hb) 3 _ rfl; have HB1 := Lib.hid hb; clear hb))
      go_ret
      exact ⟨rfl, HBW.out.trans (HB1.out.mono HBW.out.size)⟩
    · have d0 : decide (e0 ≠ 0) = true := decide_eq_true h0
      have d1 : ((e0 : Int) != 0) = true := by rw [bne_iff_ne]; omega
      rw [d0]
      clear h0
      by_cases hx0 : x = 0
      · have d2 : decide (x ≠ 0) = false := by rw [decide_eq_false_iff_not]; omega
        have d3 : ((x : Int) != 0) = false := by rw [bne_eq_false_iff_eq]; omega
        rw [d2]
        clear hx0
        go_enter Tryz.func21, Tryz.ntmps21
        go_wp2_with (first | (go_at_call 41; rw [← HW1.out]; refine HN.out.mono ?_; rintro e w1 ⟨rfl, hb⟩; have k1 := cell_at (HRC.out _ hb) 1 _ rfl; have k2 := cell_at (HRC.out _ hb) 2 _ rfl; have k3 := cell_at (HRC.out _ hb) 3 _ rfl; have HB1 := Lib.hid hb; clear hb))
        go_ret
        exact ⟨rfl, HBW.out.trans (HB1.out.mono HBW.out.size)⟩
      · have d2 : decide (x ≠ 0) = true := decide_eq_true hx0
        have d3 : ((x : Int) != 0) = true := by rw [bne_iff_ne]; omega
        rw [d2]
        clear hx0
        cases hp : placeB t
        · rw [hp] at HP
          clear hp
          go_enter Tryz.func21, Tryz.ntmps21
          go_wp2_with (first | (go_at_call 41; rw [← HW1.out]; refine HN.out.mono ?_; rintro e w1 ⟨rfl, hb⟩; have k1 := cell_at (HRC.out _ hb) 1 _ rfl; have k2 := cell_at (HRC.out _ hb) 2 _ rfl; have k3 := cell_at (HRC.out _ hb) 3 _ rfl; have HB1 := Lib.hid hb; clear hb) | (go_at_call 42; refine (HP.out _).mono ?_; rintro e w2 ⟨rfl, hb⟩; have HB2 := Lib.hid (HB1.out.trans (hb.mono HB1.out.size)); have k4 := cell_at (HRC.out _ HB2.out) 4 _ rfl; have k5 := cell_at (HRC.out _ HB2.out) 2 _ rfl; clear hb))
          go_ret
          exact ⟨rfl, HBW.out.trans (HB2.out.mono HBW.out.size)⟩
        · rw [hp] at HP
          clear hp
          go_enter Tryz.func21, Tryz.ntmps21
          go_wp2_with (first | (go_at_call 41; rw [← HW1.out]; refine HN.out.mono ?_; rintro e w1 ⟨rfl, hb⟩; have k1 := cell_at (HRC.out _ hb) 1 _ rfl; have k2 := cell_at (HRC.out _ hb) 2 _ rfl; have k3 := cell_at (HRC.out _ hb) 3 _ rfl; have HB1 := Lib.hid hb; clear hb) | (go_at_call 42; refine (HP.out _).mono ?_; rintro e w2 ⟨rfl, hb⟩; have HB2 := Lib.hid (HB1.out.trans (hb.mono HB1.out.size)); have k4 := cell_at (HRC.out _ HB2.out) 4 _ rfl; have k5 := cell_at (HRC.out _ HB2.out) 2 _ rfl; clear hb) | (go_at_call 43; refine (HE.out w2 HB2.out).mono ?_; rintro e w3 ⟨rfl, hb⟩; have HB3 := Lib.hid (HB2.out.trans (hb.mono HB2.out.size)); clear hb))
          go_ret
          exact ⟨rfl, HBW.out.trans (HB3.out.mono HBW.out.size)⟩
theorem entries_mem {l : List E} {x : Nat} (h : entriesB l x = true) : l.length ≤ 500 ∧ ∀ e ∈ l, 0 ≤ e.a ∧ e.a ≤ 4294967295 := by
  unfold entriesB at h
  simp only [Bool.and_eq_true, decide_eq_true_eq, Bool.not_eq_true', List.any_eq_false, Bool.or_eq_true, not_or] at h
  refine ⟨h.1, fun e he => ?_⟩
  have := (h.2.2 e he).2
  simpa [placeB] using this
theorem marks_mem {l : List E} (h : marksB l = true) : l.length ≤ 500 ∧ ∀ e ∈ l, 0 ≤ e.a ∧ e.a < 32 := by
  unfold marksB at h
  simp only [Bool.and_eq_true, decide_eq_true_eq, Bool.not_eq_true', List.any_eq_false] at h
  refine ⟨h.1, fun e he => ?_⟩
  have := h.2.2 e he
  simpa [flagsB] using this
theorem encE_len (k : Nat) (e : E) : (encE k e).length = 4 + k := by simp [encE, bytesOf_length]
/-- A head, and the first j things. -/
def runK (H : List Nat) (k : Nat) (es : List E) (j : Nat) : List Nat := H ++ (es.take j).flatMap (encE k)
theorem runK_zero (H : List Nat) (k : Nat) (es : List E) : runK H k es 0 = H := by simp [runK]
theorem runK_next {H : List Nat} {k : Nat} {es : List E} {j : Nat} {e : E} (h : es[j]? = some e) : runK H k es (j + 1) = (runK H k es j ++ bytesOf e.u 4) ++ bytesOf e.a.toNat k := by
  unfold runK
  rw [take_next h, List.flatMap_append, List.flatMap_singleton, encE]
  simp only [List.append_assoc]
theorem runK_len (H : List Nat) (k : Nat) (es : List E) (j : Nat) (hk : k ≤ 4) (he : es.length ≤ 500) : (runK H k es j).length ≤ H.length + 4000 := by
  unfold runK
  have := flat_len (encE k) 8 (es.take j) fun e he => by rw [encE_len]; omega
  rw [List.length_take] at this
  rw [List.length_append]
  have : 8 * min j es.length ≤ 8 * 500 := Nat.mul_le_mul_left _ (by omega)
  omega
set_option maxHeartbeats 1000000 in
theorem putIndex_none (W : World) (s : ByteArray) (e0 x : Nat) (t : Int) (A : Option Addr) (n c : Nat) (es : List E) (hR : Rd cE 2 W A n es) (hn : n ≤ 1000000) (hok : okE es) (he : e0 < 4294967296) (hx : x < 4294967296) (hr : nam.Room W) (h : indexB s e0 x t es = false) :
    Calls Tryz.prog 9 #[.agg #[.string s, .int .u32 e0, .int .u32 x, .int .i64 t, .slice A n c]] W fun e w' => e = .returned (.tuple #[.slice none 0 0, .int .i64 1]) ∧ Below W.heap.size W w' := by
  obtain ⟨W1, hW1⟩ : ∃ W1, W1 = W.alloc (.cells #[.string s, .int .u32 (e0 : Nat), .int .u32 (x : Nat), .int .i64 t, .slice A n c] 27) := ⟨_, rfl⟩
  have HBW := Lib.hid (show Below W.heap.size W W1 by rw [hW1]; exact (Below.refl _ _).alloc (Nat.le_refl _) _)
  have HF := Lib.hid (formedIndex_any W1 s e0 x t A n c es (hR.below HBW.out) hn hok hx (hr.below HBW.out))
  have HW1 := Lib.hid hW1
  rw [h] at HF
  clear h hR hW1 hr hok
  go_enter Tryz.func9, Tryz.ntmps9
  go_wp2_with (go_at_call 21; rw [← HW1.out]; refine HF.out.mono ?_; rintro e w1 ⟨rfl, hb⟩; have HB1 := Lib.hid (HBW.out.trans (hb.mono HBW.out.size)); clear hb)
  go_ret2
  exact ⟨rfl, HB1.out⟩
set_option maxHeartbeats 1000000 in
theorem putFlags_none (W : World) (e0 : Nat) (A : Option Addr) (n c : Nat) (es : List E) (hR : Rd cE 2 W A n es) (hn : n ≤ 1000000) (hok : okE es) (he : e0 < 4294967296) (h : flsB e0 es = false) :
    Calls Tryz.prog 10 #[.agg #[.int .u32 e0, .slice A n c]] W fun e w' => e = .returned (.tuple #[.slice none 0 0, .int .i64 1]) ∧ Below W.heap.size W w' := by
  obtain ⟨W1, hW1⟩ : ∃ W1, W1 = W.alloc (.cells #[.int .u32 (e0 : Nat), .slice A n c] 33) := ⟨_, rfl⟩
  have HBW := Lib.hid (show Below W.heap.size W W1 by rw [hW1]; exact (Below.refl _ _).alloc (Nat.le_refl _) _)
  have HF := Lib.hid (formedFlags_any W1 e0 A n c es (hR.below HBW.out) hn hok)
  have HW1 := Lib.hid hW1
  rw [h] at HF
  clear h hR hW1 hok
  go_enter Tryz.func10, Tryz.ntmps10
  go_wp2_with (go_at_call 22; rw [← HW1.out]; refine HF.out.mono ?_; rintro e w1 ⟨rfl, hb⟩; have HB1 := Lib.hid (HBW.out.trans (hb.mono HBW.out.size)); clear hb)
  go_ret2
  exact ⟨rfl, HB1.out⟩
end Go.Proofs.YtklmbiekpilkhaaGreatDoor.idx
namespace Go.Proofs.YtklmbiekpilkhaaGreatDoor.idx
open Go.ChangeShapes Go.WideShapes Go.ChangeAt Go.RowKit
open Go.Proofs.YtklmbiekpilkhaaGreatDoor.row
open Go.Proofs.YtklmbiekpilkhaaGreatDoor.codec (Bytes OutIs More bytesOf bytesOf_length strOf)
open Go.Proofs.YtklmbiekpilkhaaGreatDoor.bod (named nums txt nums_length nums_lt strOf_nums)
set_option linter.unusedVariables false
set_option maxRecDepth 100000
set_option linter.unusedSimpArgs false

set_option maxHeartbeats 4000000 in
theorem putFlags_good (W : World) (e0 : Nat) (A : Option Addr) (n c : Nat) (es : List E) (hR : Rd cE 2 W A n es) (hn : n ≤ 1000000) (hok : okE es) (he : e0 < 4294967296) (h : flsB e0 es = true) :
    Calls Tryz.prog 10 #[.agg #[.int .u32 e0, .slice A n c]] W fun e w' => PutAns W 2 (flsL e0 es) e w' := by
  have h2 := h
  unfold flsB at h2
  simp only [Bool.and_eq_true] at h2
  have hm := marks_mem h2.2
  have HH : ∃ H, H = bytesOf e0 4 ++ bytesOf n 2 := ⟨_, rfl⟩
  obtain ⟨H, hH⟩ := HH
  have HHL : Hid (H.length ≤ 76) := Lib.hid (by rw [hH]; simp only [List.length_append, bytesOf_length]; omega)
  have HHE : Hid (runK H 1 es n = flsL e0 es) := Lib.hid (by
    unfold runK flsL restL
    rw [hH, List.take_of_length_le (by rw [hR.1]; omega), hR.1]
    simp only [List.append_assoc])
  obtain ⟨W1, hW1⟩ : ∃ W1, W1 = W.alloc (.cells #[.int .u32 (e0 : Nat), .slice A n c] 33) := ⟨_, rfl⟩
  have HBW := Lib.hid (show Below W.heap.size W W1 by rw [hW1]; exact (Below.refl _ _).alloc (Nat.le_refl _) _)
  have HF := Lib.hid (formedFlags_any W1 e0 A n c es (hR.below HBW.out) hn hok)
  have HW1 := Lib.hid hW1
  rw [h] at HF
  have HRC := Lib.hid (fun (w1 : World) (h : Below W1.heap.size W1 w1) => (boxed (w := W) (o := .cells #[.int .u32 (e0 : Nat), .slice A n c] 33) (w1 := w1) (by rw [← hW1]; exact h)).1)
  have HR := Lib.hid hR
  have HOK := Lib.hid hok
  have HM := Lib.hid hm.2
  have hn500 : n ≤ 500 := by have := hm.1; rw [hR.1] at this; exact this
  have HEL := Lib.hid hm.1
  have HHH := Lib.hid hH
  have HK := Lib.hid (fun j => runK_len H 1 es j (by decide) hm.1)
  clear h h2 hR hW1 hok hm hH hn
  go_enter Tryz.func10, Tryz.ntmps10
  go_wp2_with (go_at_call 22; rw [← HW1.out]; refine HF.out.mono ?_; rintro e w1 ⟨rfl, hb⟩; have HB1 := Lib.hid (HBW.out.trans (hb.mono HBW.out.size)); have HO := Lib.hid (ob_out HB1.out (HRC.out _ hb)); have j0 := HO.out.cell 0 _ rfl; clear hb)
  refine (ob_N HO.out e0 4 (by simp only [List.length_append, List.length_nil, bytesOf_length]; omega) (by decide) (by decide) (by omega)).mono ?_
  rintro e w2 ⟨rfl, F2, ho⟩
  have HO2 := Lib.hid ho
  have i01 := ho.cell 1 _ rfl
  clear ho j0
  go_wp2_with fail
  refine (ob_N HO2.out n 2 (by simp only [List.length_append, List.length_nil, bytesOf_length]; omega) (by decide) (by decide) (by omega)).mono ?_
  rintro e w3 ⟨rfl, F3, ho⟩
  have HO3 := Lib.hid ho
  have i11 := ho.cell 1 _ rfl
  clear ho i01
  go_wp2_with fail
  go_loopw [21] (fun i wr => ∃ k : Nat, k ≤ n ∧ i = .int .i64 k ∧ Hid (∃ F, Ou W w1.heap.size (runK H 1 es k) F wr)) (fun i _ => n - (intOf i).toNat)
  case atStart => exact ⟨0, Nat.zero_le _, rfl, Lib.hid ⟨F3, by rw [runK_zero, HHH.out]; have := HO3.out.1; simpa using this⟩⟩
  case round =>
    obtain ⟨k, hk, rfl, HS⟩ := hrel
    by_cases hlt : k < n
    · obtain ⟨F, hs⟩ := HS.out
      obtain ⟨b, o, ⟨u, a⟩, rfl, hy, c0, c1⟩ := atE (HR.out.below hs.2.2) k hlt
      have hlt' : (k : Int) < (n : Int) := by omega
      have hu : u < 4294967296 := HOK.out _ (List.mem_of_getElem? hy)
      obtain ⟨m0, m1⟩ := HM.out _ (List.mem_of_getElem? hy)
      simp only at c0 c1 m0 m1
      obtain ⟨v, rfl⟩ := Int.eq_ofNat_of_zero_le m0
      have HT := Lib.hid (runK_next (H := H) (k := 1) hy)
      have HS1 := Lib.hid (ob_start hs #[.int .u32 (u : Nat), .int .i64 v] 66)
      have HV := Lib.hid (show v < 256 ^ 1 by omega)
      clear hy hs m0 m1
      go_wp2_with fail
      refine (ob_N HS1.out u 4 (by have := HK.out k; have := HHL.out; omega) (by decide) (by decide) (by omega)).mono ?_
      rintro e w8 ⟨rfl, F8, ho⟩
      have HO8 := Lib.hid ho
      have c2 := ho.cell 1 _ rfl
      clear ho
      go_wp2_with fail
      refine (ob_N HO8.out v 1 (by rw [List.length_append, bytesOf_length]; have := HK.out k; have := HHL.out; omega) (by decide) (by decide) HV.out).mono ?_
      rintro e w9 ⟨rfl, F9, ho⟩
      have HO9 := Lib.hid (show ∃ F, Ou W w1.heap.size (runK H 1 es (k + 1)) F w9 from ⟨F9, by rw [HT.out]; exact ho.1⟩)
      clear ho c2
      go_wp2_with fail
      go_roundw
      case rel => first | exact ⟨k + 1, by omega, by go_num, HO9⟩ | ((repeat apply Exists.intro); exact ⟨⟨k + 1, by omega, by go_num, HO9⟩, rfl⟩)
      case measure => (show n - ((k : Int) + 1).toNat < n - k; omega)
    · obtain rfl : k = n := by omega
      obtain ⟨F, hs⟩ := HS.out
      rw [HHE.out] at hs
      have HP := Lib.hid (put_any hs 2 (by decide) (by decide) _ rfl (by rw [← HHE.out]; have := HK.out k; have := HHL.out; omega))
      clear hs
      go_wp2_with (go_at_call 26; refine HP.out.mono ?_; rintro e w10 ⟨g, mm, rfl, hm⟩; have HM3 := Lib.hid hm; clear hm)
      go_ret2
      exact ⟨g, mm, rfl, HM3.out⟩
end Go.Proofs.YtklmbiekpilkhaaGreatDoor.idx
namespace Go.Proofs.YtklmbiekpilkhaaGreatDoor.idx
open Go.ChangeShapes Go.WideShapes Go.ChangeAt Go.RowKit
open Go.Proofs.YtklmbiekpilkhaaGreatDoor.row
open Go.Proofs.YtklmbiekpilkhaaGreatDoor.codec (Bytes OutIs More bytesOf bytesOf_length strOf)
open Go.Proofs.YtklmbiekpilkhaaGreatDoor.bod (named nums txt nums_length nums_lt strOf_nums)
set_option linter.unusedVariables false
set_option maxRecDepth 100000
set_option linter.unusedSimpArgs false

set_option maxHeartbeats 4000000 in
theorem putIndex_good (W : World) (s : ByteArray) (e0 x : Nat) (t : Int) (A : Option Addr) (n c : Nat) (es : List E) (hR : Rd cE 2 W A n es) (hn : n ≤ 1000000) (hok : okE es) (he : e0 < 4294967296) (hx : x < 4294967296) (hr : nam.Room W) (h : indexB s e0 x t es = true) :
    Calls Tryz.prog 9 #[.agg #[.string s, .int .u32 e0, .int .u32 x, .int .i64 t, .slice A n c]] W fun e w' => PutAns W 1 (indexL s e0 x t.toNat es) e w' := by
  have h2 := h
  unfold indexB at h2
  simp only [Bool.and_eq_true] at h2
  have hs60 := named_60 h2.1
  have hpl : 0 ≤ t ∧ t ≤ 4294967295 := by have := h2.2.2.2.1; simpa [placeB] using this
  obtain ⟨tn, rfl⟩ := Int.eq_ofNat_of_zero_le hpl.1
  have hm := entries_mem h2.2.2.2.2
  have HH : ∃ H, H = (((txt s ++ bytesOf e0 4) ++ bytesOf x 4) ++ bytesOf tn 4) ++ bytesOf n 2 := ⟨_, rfl⟩
  obtain ⟨H, hH⟩ := HH
  have HHL : Hid (H.length ≤ 76) := Lib.hid (by rw [hH]; simp only [List.length_append, bytesOf_length, txt, nums_length]; omega)
  have HHE : Hid (runK H 4 es n = indexL s e0 x (Int.toNat (tn : Int)) es) := Lib.hid (by
    unfold runK indexL restL
    rw [hH, List.take_of_length_le (by rw [hR.1]; omega), hR.1, Int.toNat_natCast]
    simp only [List.append_assoc])
  obtain ⟨W1, hW1⟩ : ∃ W1, W1 = W.alloc (.cells #[.string s, .int .u32 (e0 : Nat), .int .u32 (x : Nat), .int .i64 (tn : Int), .slice A n c] 27) := ⟨_, rfl⟩
  have HBW := Lib.hid (show Below W.heap.size W W1 by rw [hW1]; exact (Below.refl _ _).alloc (Nat.le_refl _) _)
  have HF := Lib.hid (formedIndex_any W1 s e0 x (tn : Int) A n c es (hR.below HBW.out) hn hok hx (hr.below HBW.out))
  have HW1 := Lib.hid hW1
  rw [h] at HF
  have HRC := Lib.hid (fun (w1 : World) (h : Below W1.heap.size W1 w1) => (boxed (w := W) (o := .cells #[.string s, .int .u32 (e0 : Nat), .int .u32 (x : Nat), .int .i64 (tn : Int), .slice A n c] 27) (w1 := w1) (by rw [← hW1]; exact h)).1)
  have HR := Lib.hid hR
  have HOK := Lib.hid hok
  have HM := Lib.hid hm.2
  have hn500 : n ≤ 500 := by have := hm.1; rw [hR.1] at this; exact this
  have HEL := Lib.hid hm.1
  have HHH := Lib.hid hH
  have HS60 := Lib.hid hs60
  have HK := Lib.hid (fun j => runK_len H 4 es j (by decide) hm.1)
  have hpl2 := hpl.2
  clear hpl hs60
  clear h h2 hR hW1 hr hok hm hH hn
  go_enter Tryz.func9, Tryz.ntmps9
  go_wp2_with (go_at_call 21; rw [← HW1.out]; refine HF.out.mono ?_; rintro e w1 ⟨rfl, hb⟩; have HB1 := Lib.hid (HBW.out.trans (hb.mono HBW.out.size)); have HO := Lib.hid (ob_out HB1.out (HRC.out _ hb)); have j0 := HO.out.cell 0 _ rfl; clear hb)
  refine (ob_Text HO.out s (by have := HS60.out; simp only [List.length_append, List.length_nil, bytesOf_length, txt, nums_length]; omega) (by have := HS60.out; omega)).mono ?_
  rintro e w2 ⟨rfl, F2, ho⟩
  have HO2 := Lib.hid ho
  have i01 := ho.cell 1 _ rfl
  clear ho j0
  go_wp2_with fail
  refine (ob_N HO2.out e0 4 (by have := HS60.out; simp only [List.length_append, List.length_nil, bytesOf_length, txt, nums_length]; omega) (by decide) (by decide) (by omega)).mono ?_
  rintro e w3 ⟨rfl, F3, ho⟩
  have HO3 := Lib.hid ho
  have i12 := ho.cell 2 _ rfl
  clear ho i01
  go_wp2_with fail
  refine (ob_N HO3.out x 4 (by have := HS60.out; simp only [List.length_append, List.length_nil, bytesOf_length, txt, nums_length]; omega) (by decide) (by decide) (by omega)).mono ?_
  rintro e w4 ⟨rfl, F4, ho⟩
  have HO4 := Lib.hid ho
  have i23 := ho.cell 3 _ rfl
  clear ho i12
  go_wp2_with fail
  refine (ob_N HO4.out tn 4 (by have := HS60.out; simp only [List.length_append, List.length_nil, bytesOf_length, txt, nums_length]; omega) (by decide) (by decide) (by omega)).mono ?_
  rintro e w5 ⟨rfl, F5, ho⟩
  have HO5 := Lib.hid ho
  have i34 := ho.cell 4 _ rfl
  clear ho i23
  go_wp2_with fail
  refine (ob_N HO5.out n 2 (by have := HS60.out; simp only [List.length_append, List.length_nil, bytesOf_length, txt, nums_length]; omega) (by decide) (by decide) (by omega)).mono ?_
  rintro e w6 ⟨rfl, F6, ho⟩
  have HO6 := Lib.hid ho
  have i44 := ho.cell 4 _ rfl
  clear ho i34
  go_wp2_with fail
  go_loopw [31] (fun i wr => ∃ k : Nat, k ≤ n ∧ i = .int .i64 k ∧ Hid (∃ F, Ou W w1.heap.size (runK H 4 es k) F wr)) (fun i _ => n - (intOf i).toNat)
  case atStart => exact ⟨0, Nat.zero_le _, rfl, Lib.hid ⟨F6, by rw [runK_zero, HHH.out]; have := HO6.out.1; simpa using this⟩⟩
  case round =>
    obtain ⟨k, hk, rfl, HS⟩ := hrel
    by_cases hlt : k < n
    · obtain ⟨F, hs⟩ := HS.out
      obtain ⟨b, o, ⟨u, a⟩, rfl, hy, c0, c1⟩ := atE (HR.out.below hs.2.2) k hlt
      have hlt' : (k : Int) < (n : Int) := by omega
      have hu : u < 4294967296 := HOK.out _ (List.mem_of_getElem? hy)
      obtain ⟨m0, m1⟩ := HM.out _ (List.mem_of_getElem? hy)
      simp only at c0 c1 m0 m1
      obtain ⟨v, rfl⟩ := Int.eq_ofNat_of_zero_le m0
      have HT := Lib.hid (runK_next (H := H) (k := 4) hy)
      have HS1 := Lib.hid (ob_start hs #[.int .u32 (u : Nat), .int .i64 v] 64)
      have HV := Lib.hid (show v < 256 ^ 4 by omega)
      clear hy hs m0 m1
      go_wp2_with fail
      refine (ob_N HS1.out u 4 (by have := HK.out k; have := HHL.out; omega) (by decide) (by decide) (by omega)).mono ?_
      rintro e w8 ⟨rfl, F8, ho⟩
      have HO8 := Lib.hid ho
      have c2 := ho.cell 1 _ rfl
      clear ho
      go_wp2_with fail
      refine (ob_N HO8.out v 4 (by rw [List.length_append, bytesOf_length]; have := HK.out k; have := HHL.out; omega) (by decide) (by decide) HV.out).mono ?_
      rintro e w9 ⟨rfl, F9, ho⟩
      have HO9 := Lib.hid (show ∃ F, Ou W w1.heap.size (runK H 4 es (k + 1)) F w9 from ⟨F9, by rw [HT.out]; exact ho.1⟩)
      clear ho c2
      go_wp2_with fail
      go_roundw
      case rel => first | exact ⟨k + 1, by omega, by go_num, HO9⟩ | ((repeat apply Exists.intro); exact ⟨⟨k + 1, by omega, by go_num, HO9⟩, rfl⟩)
      case measure => (show n - ((k : Int) + 1).toNat < n - k; omega)
    · obtain rfl : k = n := by omega
      obtain ⟨F, hs⟩ := HS.out
      rw [HHE.out] at hs
      have HP := Lib.hid (put_any hs 1 (by decide) (by decide) _ rfl (by rw [← HHE.out]; have := HK.out k; have := HHL.out; omega))
      clear hs
      go_wp2_with (go_at_call 26; refine HP.out.mono ?_; rintro e w10 ⟨g, mm, rfl, hm⟩; have HM3 := Lib.hid hm; clear hm)
      go_ret2
      exact ⟨g, mm, rfl, HM3.out⟩
end Go.Proofs.YtklmbiekpilkhaaGreatDoor.idx
