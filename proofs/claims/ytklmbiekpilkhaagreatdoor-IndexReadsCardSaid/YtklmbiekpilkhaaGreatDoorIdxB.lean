/- Trees: whether their numbers rise, whether one is wrong, their names. -/
import Derived.Test.YtklmbiekpilkhaaGreatDoorIdxA
namespace Go.Proofs.YtklmbiekpilkhaaGreatDoor.idx
open Go.ChangeShapes Go.WideShapes Go.ChangeAt Go.RowKit
open Go.Proofs.YtklmbiekpilkhaaGreatDoor.row
set_option linter.unusedVariables false
set_option maxRecDepth 100000
set_option linter.unusedSimpArgs false

set_option maxHeartbeats 1000000 in
theorem riseP_any (W : World) (A : Option Addr) (n c : Nat) (ps : List P) (hR : Rd cP 2 W A n ps) (hn : n ≤ 1000000) :
    Calls Tryz.prog 46 #[.slice A n c, .int .i64 0, .func (.func 47) #[] #[]] W fun e w' => e = .returned (.bool (up (-1) (ps.map P.n)).2) ∧ Below W.heap.size W w' := by
  have HR := Lib.hid hR
  clear hR
  go_enter Tryz.func46, Tryz.ntmps46
  go_wp2
  go_loopw [7, 15] (fun s i wr => ∃ k : Nat, k ≤ n ∧ i = .int .i64 k ∧ s = .int .i64 (up (-1) ((ps.map P.n).take k)).1 ∧ Hid ((up (-1) ((ps.map P.n).take k)).2 = true) ∧ Hid (Below W.heap.size W wr)) (fun _ i _ => n - (intOf i).toNat)
  case atStart => exact ⟨0, Nat.zero_le _, rfl, rfl, Lib.hid rfl, Lib.hid (Below.refl _ _)⟩
  case round =>
    obtain ⟨k, hk, rfl, rfl, HU, HB⟩ := hrel
    by_cases hlt : k < n
    · obtain ⟨b, o, ⟨m, s⟩, rfl, hx, c0, c1⟩ := atP (HR.out.below HB.out) k hlt
      have hT := congrArg (up (-1)) (take_next (map_at P.n hx))
      simp only [up_snoc, HU.out, Bool.true_and] at hT
      have HT := Lib.hid hT
      simp only at c0 c1
      have hlt' : (k : Int) < (n : Int) := by omega
      have HN := Lib.hid (fun w => number_any w m s)
      clear hx hT
      generalize (up (-1) ((ps.map P.n).take k)).1 = g at *
      by_cases hg : g < m
      · have hd : decide (m ≤ g) = false := decide_eq_false (by omega)
        have HS := Lib.hid (show (up (-1) ((ps.map P.n).take (k + 1))) = (m, true) by rw [HT.out, decide_eq_true hg])
        clear HT hg
        go_wp2_with (go_at_call 47; refine (HN.out _).mono ?_; rintro e w1 ⟨rfl, hb⟩; have HB1 := Lib.hid (boxed hb).2; clear hb)
        go_roundw
        case rel => first | exact ⟨k + 1, by omega, by go_num, by rw [HS.out], Lib.hid (by rw [HS.out]), Lib.hid (HB.out.trans (HB1.out.mono HB.out.size))⟩ | ((repeat apply Exists.intro); exact ⟨⟨k + 1, by omega, by go_num, by rw [HS.out], Lib.hid (by rw [HS.out]), Lib.hid (HB.out.trans (HB1.out.mono HB.out.size))⟩, rfl⟩)
        case measure => (show n - ((k : Int) + 1).toNat < n - k; omega)
      · have hd : decide (m ≤ g) = true := decide_eq_true (by omega)
        have HS := Lib.hid (show (up (-1) (ps.map P.n)).2 = false from up_stop (i := k + 1) (by rw [HT.out, decide_eq_false hg]))
        clear HT hg
        go_wp2_with (go_at_call 47; refine (HN.out _).mono ?_; rintro e w1 ⟨rfl, hb⟩; have HB1 := Lib.hid (boxed hb).2; clear hb)
        go_ret
        exact ⟨by rw [HS.out]; rfl, HB.out.trans (HB1.out.mono HB.out.size)⟩
    · obtain rfl : k = n := by omega
      have HE : Hid ((ps.map P.n).take k = ps.map P.n) := Lib.hid (List.take_of_length_le (by rw [List.length_map, HR.out.1]; omega))
      go_wp2
      go_ret
      exact ⟨by rw [← HE.out, HU.out]; rfl, HB.out⟩
theorem any_no {α : Type} {p : α → Bool} {l : List α} (h : ∀ (j : Nat) (x : α), l[j]? = some x → p x = false) : l.any p = false := by
  rw [List.any_eq_false]
  intro x hx
  obtain ⟨j, hj⟩ := List.mem_iff_getElem?.1 hx
  rw [h j x hj]
  exact Bool.false_ne_true
theorem any_yes {α : Type} {p : α → Bool} {l : List α} {j : Nat} {x : α} (hx : l[j]? = some x) (h : p x = true) : l.any p = true := List.any_eq_true.2 ⟨x, List.mem_of_getElem? hx, h⟩
set_option maxHeartbeats 1000000 in
theorem indexFP_any (W : World) (A : Option Addr) (n c : Nat) (ps : List P) (hR : Rd cP 2 W A n ps) (hn : n ≤ 1000000) (hr : nam.Room W) :
    Calls Tryz.prog 79 #[.slice A n c, .func (.func 45) #[] #[]] W fun e w' => (∃ z : Int, e = .returned (.int .i64 z) ∧ decide (0 ≤ z) = ps.any wrongP) ∧ Below W.heap.size W w' := by
  have HR := Lib.hid hR
  have Hr := Lib.hid hr
  clear hR hr
  go_enter Tryz.func79, Tryz.ntmps79
  go_wp2
  go_loopw [8] (fun i wr => ∃ k : Nat, k ≤ n ∧ i = .int .i64 k ∧ Hid (∀ j x, j < k → ps[j]? = some x → wrongP x = false) ∧ Hid (Below W.heap.size W wr)) (fun i _ => n - (intOf i).toNat)
  case atStart => exact ⟨0, Nat.zero_le _, rfl, Lib.hid (fun j x h => absurd h (Nat.not_lt_zero _)), Lib.hid (Below.refl _ _)⟩
  case round =>
    obtain ⟨k, hk, rfl, HU, HB⟩ := hrel
    by_cases hlt : k < n
    · obtain ⟨b, o, ⟨m, s⟩, rfl, hx, c0, c1⟩ := atP (HR.out.below HB.out) k hlt
      simp only at c0 c1
      have hlt' : (k : Int) < (n : Int) := by omega
      have hW := wrongP_any wr m s (Hr.out.below HB.out)
      have HX := Lib.hid hx
      clear hx
      cases hp : wrongP ⟨m, s⟩
      · rw [hp] at hW
        have HW := Lib.hid hW
        have HP := Lib.hid hp
        clear hW hp
        go_wp2_with (go_at_call 45; refine HW.out.mono ?_; rintro e w1 ⟨rfl, hb⟩; have HB1 := Lib.hid hb; clear hb)
        go_roundw
        case rel =>
          have hU : ∀ j x, j < k + 1 → ps[j]? = some x → wrongP x = false := fun j x hj hx => by
            rcases Nat.lt_succ_iff_lt_or_eq.1 hj with h | rfl
            · exact HU.out j x h hx
            · rw [HX.out] at hx
              cases hx
              exact HP.out
          first | exact ⟨k + 1, by omega, by go_num, Lib.hid hU, Lib.hid (HB.out.trans (HB1.out.mono HB.out.size))⟩ | ((repeat apply Exists.intro); exact ⟨⟨k + 1, by omega, by go_num, Lib.hid hU, Lib.hid (HB.out.trans (HB1.out.mono HB.out.size))⟩, rfl⟩)
        case measure => (show n - ((k : Int) + 1).toNat < n - k; omega)
      · rw [hp] at hW
        have HW := Lib.hid hW
        have HP := Lib.hid (any_yes HX.out hp)
        clear hW hp
        go_wp2_with (go_at_call 45; refine HW.out.mono ?_; rintro e w1 ⟨rfl, hb⟩; have HB1 := Lib.hid hb; clear hb)
        go_ret
        exact ⟨⟨_, rfl, by rw [HP.out]; exact decide_eq_true (by omega)⟩, HB.out.trans (HB1.out.mono HB.out.size)⟩
    · obtain rfl : k = n := by omega
      have hA : ps.any wrongP = false := any_no fun j x hx => HU.out j x (by have := (List.getElem?_eq_some_iff.1 hx).1; have := HR.out.1; omega) hx
      have HA := Lib.hid hA
      clear hA
      go_wp2
      go_ret
      exact ⟨⟨_, rfl, by rw [HA.out]; rfl⟩, HB.out⟩
theorem containsP_any (W : World) (A : Option Addr) (n c : Nat) (ps : List P) (hR : Rd cP 2 W A n ps) (hn : n ≤ 1000000) (hr : nam.Room W) :
    Calls Tryz.prog 48 #[.slice A n c, .func (.func 45) #[] #[]] W fun e w' => e = .returned (.bool (ps.any wrongP)) ∧ Below W.heap.size W w' := by
  have HI := Lib.hid (indexFP_any W A n c ps hR hn hr)
  clear hR hr
  go_enter Tryz.func48, Tryz.ntmps48
  go_wp2_with (go_at_call 79; refine HI.out.mono ?_; rintro e w1 ⟨⟨z, rfl, hz⟩, hb⟩; have HB1 := Lib.hid hb; have HZ := Lib.hid hz; clear hb hz)
  go_ret
  exact ⟨by rw [← HZ.out]; rfl, HB1.out⟩
/-- The names of a tree, one by one. -/
def NS (W : World) (ps : List P) (k : Nat) (v : Value) (w : World) : Prop := Own cS 1 W.heap.size 9 w v ((ps.map P.s).take k) ∧ Below W.heap.size W w
theorem infoS : (Tryz.prog.info? 9).map (fun i => (i.zero, i.size, i.bytes)) = some (some (.string ⟨#[]⟩), 1, 16) := by kernel_rfl
set_option maxHeartbeats 1000000 in
theorem names_any (W : World) (A : Option Addr) (n c : Nat) (ps : List P) (hR : Rd cP 2 W A n ps) (hn : n ≤ 1000000) :
    Calls Tryz.prog 50 #[.slice A n c] W fun e w' => ∃ v, e = .returned v ∧ Own cS 1 W.heap.size 9 w' v (ps.map P.s) ∧ Below W.heap.size W w' := by
  have HR := Lib.hid hR
  clear hR
  go_enter Tryz.func50, Tryz.ntmps50
  go_wp2
  go_loopw [3, 8] (fun v i wr => ∃ k : Nat, k ≤ n ∧ i = .int .i64 k ∧ Hid (NS W ps k v wr)) (fun _ i _ => n - (intOf i).toNat)
  case atStart => exact ⟨0, Nat.zero_le _, rfl, Lib.hid ⟨Own.nil _ _ _ _ _, Below.refl _ _⟩⟩
  case round =>
    obtain ⟨k, hk, rfl, HS⟩ := hrel
    by_cases hlt : k < n
    · obtain ⟨b, o, ⟨m, s⟩, rfl, hx, c0, c1⟩ := atP (HR.out.below HS.out.2) k hlt
      simp only at c0 c1
      have hlt' : (k : Int) < (n : Int) := by omega
      have HT := Lib.hid (take_next (map_at P.s hx))
      have HL : Hid (((ps.map P.s).take k).length ≤ 20000000) := Lib.hid (by rw [List.length_take]; omega)
      have HO := Lib.hid (HS.out.1.alloc (.cells #[.int .i64 m, .string s] 68))
      have HB := Lib.hid (HS.out.2.alloc HS.out.2.size (.cells #[.int .i64 m, .string s] 68))
      clear hx
      go_wp2_with (at_builtin; refine row.wpList_append_own fS (by decide) (by decide) (by_ := 16) (by decide) (z := .string ⟨#[]⟩) rfl rfl (.tmp 12) (.tmp 15) 120 9 rfl Tryz.underlying120 infoS W.heap.size u3 _ rfl HO.out HB.out.size HL.out s (0, 0) _ (by simp) rfl _ rfl ?_; intro v1 w1 ho hg h3; have HS1 := Lib.hid (show NS W ps (k + 1) v1 w1 from ⟨by rw [HT.out]; exact ho, grown_below HB.out HO.out hg⟩); clear ho hg h3)
      go_roundw
      case rel => first | exact ⟨k + 1, by omega, by go_num, HS1⟩ | ((repeat apply Exists.intro); exact ⟨⟨k + 1, by omega, by go_num, HS1⟩, rfl⟩)
      case measure => (show n - ((k : Int) + 1).toNat < n - k; omega)
    · obtain rfl : k = n := by omega
      have HE : Hid ((ps.map P.s).take k = ps.map P.s) := Lib.hid (List.take_of_length_le (by rw [List.length_map, HR.out.1]; omega))
      go_wp2
      go_ret
      exact ⟨_, rfl, by rw [← HE.out]; exact HS.out.1, HS.out.2⟩
end Go.Proofs.YtklmbiekpilkhaaGreatDoor.idx
