/- Indices and flags: when they are formed, walked. -/
import Derived.Test.YtklmbiekpilkhaaGreatDoorIdxG
import Derived.Test.YtklmbiekpilkhaaGreatDoorFlgA
namespace Go.Proofs.YtklmbiekpilkhaaGreatDoor.idx
open Go.ChangeShapes Go.WideShapes Go.ChangeAt Go.RowKit
open Go.Proofs.YtklmbiekpilkhaaGreatDoor.row
set_option linter.unusedVariables false
set_option maxRecDepth 100000
set_option linter.unusedSimpArgs false

def uI (e : E) : Int := (e.u : Int)
theorem below_any (w : World) (u x : Nat) (hx : x < 4294967296) :
    Calls Tryz.prog 70 #[.int .u32 u, .int .u32 x] w fun e w' => e = .returned (.bool (belowB u x)) ∧ Below w.heap.size w w' := by
  unfold belowB
  by_cases h1 : u < x
  · have d1 : decide (u < x) = true := decide_eq_true h1
    rw [d1]
    clear h1
    go_enter Tryz.func70, Tryz.ntmps70
    go_wp2
    go_ret
    exact ⟨rfl, Below.refl _ _⟩
  · have d1 : decide (u < x) = false := decide_eq_false h1
    rw [d1]
    by_cases h2 : x = 4294967295
    · have d2 : ((x : Int) == 4294967295) = true := by rw [beq_iff_eq]; omega
      rw [decide_eq_true h2]
      clear h1 h2 hx
      go_enter Tryz.func70, Tryz.ntmps70
      go_wp2
      go_ret
      exact ⟨rfl, Below.refl _ _⟩
    · have d2 : ((x : Int) == 4294967295) = false := by rw [beq_eq_false_iff_ne]; omega
      rw [decide_eq_false h2]
      clear h1 h2 hx
      go_enter Tryz.func70, Tryz.ntmps70
      go_wp2
      go_ret
      exact ⟨rfl, Below.refl _ _⟩
theorem place_any (w : World) (a : Int) :
    Calls Tryz.prog 42 #[.int .i64 a] w fun e w' => e = .returned (.bool (placeB a)) ∧ Below w.heap.size w w' := by
  unfold placeB
  by_cases h1 : 0 ≤ a
  · have d1 : decide ((0 : Int) ≤ a) = true := decide_eq_true h1
    rw [d1]
    by_cases h2 : a ≤ 4294967295
    · have d2 : decide (a ≤ (4294967295 : Int)) = true := decide_eq_true h2
      rw [d2]
      clear h1 h2
      go_enter Tryz.func42, Tryz.ntmps42
      go_wp2
      go_ret
      exact ⟨rfl, Below.refl _ _⟩
    · have d2 : decide (a ≤ (4294967295 : Int)) = false := decide_eq_false h2
      rw [d2]
      clear h1 h2
      go_enter Tryz.func42, Tryz.ntmps42
      go_wp2
      go_ret
      exact ⟨rfl, Below.refl _ _⟩
  · have d1 : decide ((0 : Int) ≤ a) = false := decide_eq_false h1
    rw [d1]
    clear h1
    go_enter Tryz.func42, Tryz.ntmps42
    go_wp2
    go_ret
    exact ⟨rfl, Below.refl _ _⟩
theorem uidE_any (w : World) (u : Nat) (a : Int) (hu : u < 4294967296) :
    Calls Tryz.prog 72 #[.agg #[.int .u32 u, .int .i64 a]] w fun e w' => e = .returned (.int .i64 u) ∧ Below w.heap.size w w' := by
  go_enter Tryz.func72, Tryz.ntmps72
  go_wp2
  go_ret
  exact ⟨rfl, (Below.refl _ _).alloc (Nat.le_refl _) _⟩
set_option maxHeartbeats 1000000 in
theorem riseE_any (W : World) (A : Option Addr) (n c : Nat) (ps : List E) (hR : Rd cE 2 W A n ps) (hn : n ≤ 1000000) (hok : ∀ e ∈ ps, e.u < 4294967296) :
    Calls Tryz.prog 71 #[.slice A n c, .int .i64 1, .func (.func 72) #[] #[]] W fun e w' => e = .returned (.bool (up 0 (ps.map uI)).2) ∧ Below W.heap.size W w' := by
  have HR := Lib.hid hR
  have HOK := Lib.hid hok
  clear hR hok
  go_enter Tryz.func71, Tryz.ntmps71
  go_wp2
  go_loopw [7, 15] (fun s i wr => ∃ k : Nat, k ≤ n ∧ i = .int .i64 k ∧ s = .int .i64 (up 0 ((ps.map uI).take k)).1 ∧ Hid ((up 0 ((ps.map uI).take k)).2 = true) ∧ Hid (Below W.heap.size W wr)) (fun _ i _ => n - (intOf i).toNat)
  case atStart => exact ⟨0, Nat.zero_le _, rfl, rfl, Lib.hid rfl, Lib.hid (Below.refl _ _)⟩
  case round =>
    obtain ⟨k, hk, rfl, rfl, HU, HB⟩ := hrel
    by_cases hlt : k < n
    · obtain ⟨b, o, ⟨m, a⟩, rfl, hx, c0, c1⟩ := atE (HR.out.below HB.out) k hlt
      have hm : m < 4294967296 := HOK.out _ (List.mem_of_getElem? hx)
      have hT := congrArg (up 0) (take_next (map_at uI hx))
      simp only [up_snoc, HU.out, Bool.true_and, uI] at hT
      have HT := Lib.hid hT
      simp only at c0 c1
      have hlt' : (k : Int) < (n : Int) := by omega
      have HN := Lib.hid (fun w => uidE_any w m a hm)
      clear hx hT hm
      generalize (up 0 ((ps.map uI).take k)).1 = g at *
      by_cases hg : g < (m : Int)
      · have hd : decide ((m : Int) ≤ g) = false := decide_eq_false (by omega)
        have HS := Lib.hid (show (up 0 ((ps.map uI).take (k + 1))) = ((m : Int), true) by rw [HT.out, decide_eq_true hg])
        clear HT hg
        go_wp2_with (go_at_call 72; refine (HN.out _).mono ?_; rintro e w1 ⟨rfl, hb⟩; have HB1 := Lib.hid (boxed hb).2; clear hb)
        go_roundw
        case rel => first | exact ⟨k + 1, by omega, by go_num, by rw [HS.out], Lib.hid (by rw [HS.out]), Lib.hid (HB.out.trans (HB1.out.mono HB.out.size))⟩ | ((repeat apply Exists.intro); exact ⟨⟨k + 1, by omega, by go_num, by rw [HS.out], Lib.hid (by rw [HS.out]), Lib.hid (HB.out.trans (HB1.out.mono HB.out.size))⟩, rfl⟩)
        case measure => (show n - ((k : Int) + 1).toNat < n - k; omega)
      · have hd : decide ((m : Int) ≤ g) = true := decide_eq_true (by omega)
        have HS := Lib.hid (show (up 0 (ps.map uI)).2 = false from up_stop (i := k + 1) (by rw [HT.out, decide_eq_false hg]))
        clear HT hg
        go_wp2_with (go_at_call 72; refine (HN.out _).mono ?_; rintro e w1 ⟨rfl, hb⟩; have HB1 := Lib.hid (boxed hb).2; clear hb)
        go_ret
        exact ⟨by rw [HS.out]; rfl, HB.out.trans (HB1.out.mono HB.out.size)⟩
    · obtain rfl : k = n := by omega
      have HE : Hid ((ps.map uI).take k = ps.map uI) := Lib.hid (List.take_of_length_le (by rw [List.length_map, HR.out.1]; omega))
      go_wp2
      go_ret
      exact ⟨by rw [← HE.out, HU.out]; rfl, HB.out⟩
theorem uidM_any (w : World) (u : Nat) (a : Int) (hu : u < 4294967296) :
    Calls Tryz.prog 77 #[.agg #[.int .u32 u, .int .i64 a]] w fun e w' => e = .returned (.int .i64 u) ∧ Below w.heap.size w w' := by
  go_enter Tryz.func77, Tryz.ntmps77
  go_wp2
  go_ret
  exact ⟨rfl, (Below.refl _ _).alloc (Nat.le_refl _) _⟩
set_option maxHeartbeats 1000000 in
theorem riseM_any (W : World) (A : Option Addr) (n c : Nat) (ps : List E) (hR : Rd cE 2 W A n ps) (hn : n ≤ 1000000) (hok : ∀ e ∈ ps, e.u < 4294967296) :
    Calls Tryz.prog 76 #[.slice A n c, .int .i64 1, .func (.func 77) #[] #[]] W fun e w' => e = .returned (.bool (up 0 (ps.map uI)).2) ∧ Below W.heap.size W w' := by
  have HR := Lib.hid hR
  have HOK := Lib.hid hok
  clear hR hok
  go_enter Tryz.func76, Tryz.ntmps76
  go_wp2
  go_loopw [7, 15] (fun s i wr => ∃ k : Nat, k ≤ n ∧ i = .int .i64 k ∧ s = .int .i64 (up 0 ((ps.map uI).take k)).1 ∧ Hid ((up 0 ((ps.map uI).take k)).2 = true) ∧ Hid (Below W.heap.size W wr)) (fun _ i _ => n - (intOf i).toNat)
  case atStart => exact ⟨0, Nat.zero_le _, rfl, rfl, Lib.hid rfl, Lib.hid (Below.refl _ _)⟩
  case round =>
    obtain ⟨k, hk, rfl, rfl, HU, HB⟩ := hrel
    by_cases hlt : k < n
    · obtain ⟨b, o, ⟨m, a⟩, rfl, hx, c0, c1⟩ := atE (HR.out.below HB.out) k hlt
      have hm : m < 4294967296 := HOK.out _ (List.mem_of_getElem? hx)
      have hT := congrArg (up 0) (take_next (map_at uI hx))
      simp only [up_snoc, HU.out, Bool.true_and, uI] at hT
      have HT := Lib.hid hT
      simp only at c0 c1
      have hlt' : (k : Int) < (n : Int) := by omega
      have HN := Lib.hid (fun w => uidM_any w m a hm)
      clear hx hT hm
      generalize (up 0 ((ps.map uI).take k)).1 = g at *
      by_cases hg : g < (m : Int)
      · have hd : decide ((m : Int) ≤ g) = false := decide_eq_false (by omega)
        have HS := Lib.hid (show (up 0 ((ps.map uI).take (k + 1))) = ((m : Int), true) by rw [HT.out, decide_eq_true hg])
        clear HT hg
        go_wp2_with (go_at_call 77; refine (HN.out _).mono ?_; rintro e w1 ⟨rfl, hb⟩; have HB1 := Lib.hid (boxed hb).2; clear hb)
        go_roundw
        case rel => first | exact ⟨k + 1, by omega, by go_num, by rw [HS.out], Lib.hid (by rw [HS.out]), Lib.hid (HB.out.trans (HB1.out.mono HB.out.size))⟩ | ((repeat apply Exists.intro); exact ⟨⟨k + 1, by omega, by go_num, by rw [HS.out], Lib.hid (by rw [HS.out]), Lib.hid (HB.out.trans (HB1.out.mono HB.out.size))⟩, rfl⟩)
        case measure => (show n - ((k : Int) + 1).toNat < n - k; omega)
      · have hd : decide ((m : Int) ≤ g) = true := decide_eq_true (by omega)
        have HS := Lib.hid (show (up 0 (ps.map uI)).2 = false from up_stop (i := k + 1) (by rw [HT.out, decide_eq_false hg]))
        clear HT hg
        go_wp2_with (go_at_call 77; refine (HN.out _).mono ?_; rintro e w1 ⟨rfl, hb⟩; have HB1 := Lib.hid (boxed hb).2; clear hb)
        go_ret
        exact ⟨by rw [HS.out]; rfl, HB.out.trans (HB1.out.mono HB.out.size)⟩
    · obtain rfl : k = n := by omega
      have HE : Hid ((ps.map uI).take k = ps.map uI) := Lib.hid (List.take_of_length_le (by rw [List.length_map, HR.out.1]; omega))
      go_wp2
      go_ret
      exact ⟨by rw [← HE.out, HU.out]; rfl, HB.out⟩
end Go.Proofs.YtklmbiekpilkhaaGreatDoor.idx
