/- What the document says of a head's place. -/
import Derived.Test.YtbgnhjmijcpffaaDoorFraJ
import Derived.IntWalk
namespace Go.Proofs.YtbgnhjmijcpffaaDoor.frm
open Go.ChangeShapes Go.WideShapes Go.ChangeAt Go.RowKit
open Go.Proofs.YtbgnhjmijcpffaaDoor.codec (Bytes vals vals_append vals_length vals_one OutIs More Made New bytesOf byteAt bytesOf_length bytesOf_lt Fits strOf)
set_option linter.unusedVariables false
set_option maxRecDepth 100000
set_option linter.unusedSimpArgs false

def No (W : World) (e : Ending) (w' : World) : Prop := e = .returned (.tuple #[.int .i64 0, .int .i64 0, .bool false]) ∧ Below W.heap.size W w'
theorem no_same (W : World) (q : Nat) : No W (.returned (.tuple #[.int .i64 0, .int .i64 0, .bool false])) (W.drewN q) := ⟨rfl, codec.below_draws (Below.refl _ _) q⟩
theorem bytes_cell {w : World} {b o n : Nat} {l : List Nat} (h : Bytes w (some ⟨b, o, none⟩) n l) (i : Nat) (hi : i < n) : w.cell? ⟨b, o + i, none⟩ = some (.int .u8 (l.getD i 0 : Nat)) := by
  obtain ⟨b, o, e, hc⟩ := h.2.2 (by omega)
  cases e
  exact hc i hi
set_option maxHeartbeats 1000000 in
theorem refHead_short (W : World) (A : Option Addr) (n c i : Nat) (hi : n < i + 44) (hin : i < 50000) (hnm : n ≤ 40000) :
    Calls Tryd.prog 24 #[.slice A n c, .int .i64 i] W fun e w' => No W e w' := by
  go_enter Tryd.func24, Tryd.ntmps24
  go_wp2
  go_ret3
  exact no_same W 0
set_option maxHeartbeats 1000000 in
theorem refHead_mark (W : World) (b o : Nat) (n c i x0 x1 x2 : Nat) (hi : i + 44 ≤ n) (hnm : n ≤ 40000) (c0 : W.cell? ⟨b, o + i, none⟩ = some (.int .u8 x0)) (c1 : W.cell? ⟨b, o + (i + 1), none⟩ = some (.int .u8 x1)) (c2 : W.cell? ⟨b, o + (i + 2), none⟩ = some (.int .u8 x2)) (hne : ¬ (x0 = 99 ∧ x1 = 117 ∧ x2 = 98)) :
    Calls Tryd.prog 24 #[.slice (some ⟨b, o, none⟩) n c, .int .i64 i] W fun e w' => No W e w' := by
  by_cases h0 : x0 = 99
  · subst h0
    by_cases h1 : x1 = 117
    · subst h1
      have h2 : ((x2 : Int) != 98) = true := by rw [bne_iff_ne]; omega
      clear hne
      go_enter Tryd.func24, Tryd.ntmps24
      go_wp2
      go_ret3
      exact no_same W 0
    · have h1' : ((x1 : Int) != 117) = true := by rw [bne_iff_ne]; omega
      clear hne h1
      go_enter Tryd.func24, Tryd.ntmps24
      go_wp2
      go_ret3
      exact no_same W 0
  · have h0' : ((x0 : Int) != 99) = true := by rw [bne_iff_ne]; omega
    clear hne h0
    go_enter Tryd.func24, Tryd.ntmps24
    go_wp2
    go_ret3
    exact no_same W 0
set_option maxHeartbeats 2000000 in
theorem refHead_rest (W : World) (b o : Nat) (n c i x3 m x C : Nat) (r : Bool) (hi : i + 44 ≤ n) (hc : n ≤ c) (hnm : n ≤ 40000) (c0 : W.cell? ⟨b, o + i, none⟩ = some (.int .u8 99)) (c1 : W.cell? ⟨b, o + (i + 1), none⟩ = some (.int .u8 117)) (c2 : W.cell? ⟨b, o + (i + 2), none⟩ = some (.int .u8 98))
    (c3 : W.cell? ⟨b, o + (i + 3), none⟩ = some (.int .u8 x3)) (h3 : x3 < 256) (hm4 : m < 4294967296) (hx4 : x < 4294967296) (hC4 : C < 4294967296) (hr : r = decide (1 ≤ x3 ∧ x3 ≤ 3 ∧ m ≤ 30000 ∧ x = C))
    (hN1 : Calls Tryd.prog 31 #[.slice (some ⟨b, o + (i + 4), none⟩) 4 (c - (i + 4))] W fun e w' => e = .returned (.int .u64 m) ∧ W = w')
    (hN2 : ∀ q, Calls Tryd.prog 31 #[.slice (some ⟨b, o + (i + 8), none⟩) 4 (c - (i + 8))] (W.drewN q) fun e w' => e = .returned (.int .u64 x) ∧ ∃ r, w' = W.drewN r)
    (hCr : ∀ q, Calls Tryd.prog 19 #[.slice (some ⟨b, o + i, none⟩) 8 (c - i)] (W.drewN q) fun e w' => e = .returned (.int .u32 C) ∧ ∃ r, w' = W.drewN r) :
    Calls Tryd.prog 24 #[.slice (some ⟨b, o, none⟩) n c, .int .i64 i] W fun e w' => e = .returned (.tuple #[.int .i64 (if r = true then x3 else 0 : Nat), .int .i64 (if r = true then m else 0 : Nat), .bool r]) ∧ Below W.heap.size W w' := by
  have W3 := Lib.hid (show IntKind.i64.wrap ((i : Int) + 3) = (i : Int) + 3 from IntWalk.i64_in _ (by omega))
  have W8 := Lib.hid (show IntKind.i64.wrap ((i : Int) + 8) = (i : Int) + 8 from IntWalk.i64_in _ (by omega))
  have W12 := Lib.hid (show IntKind.i64.wrap ((i : Int) + 12) = (i : Int) + 12 from IntWalk.i64_in _ (by omega))
  have T3 := Lib.hid (show ((i : Int) + 3).toNat = i + 3 by omega)
  have T8 := Lib.hid (show ((i : Int) + 8).toNat = i + 8 by omega)
  have T12 := Lib.hid (show ((i : Int) + 12).toNat = i + 12 by omega)
  have i3 : (0 : Int) ≤ (i : Int) + 3 := by omega
  have i3' : (i : Int) + 3 < (n : Int) := by omega
  have i8 : (0 : Int) ≤ (i : Int) + 8 := by omega
  have i8' : (i : Int) + 8 ≤ (i : Int) + 12 := by omega
  have i8c : (i : Int) + 8 ≤ (c : Int) := by omega
  have i12 : (i : Int) + 12 ≤ (c : Int) := by omega
  have i0 : (i : Int) ≤ (i : Int) + 8 := by omega
  have H1 := Lib.hid hN1
  have H2 := Lib.hid hN2
  have H3 := Lib.hid hCr
  clear hN1 hN2 hCr
  by_cases hk1 : x3 < 1
  · have hr' : r = false := by rw [hr]; simp; omega
    subst hr'
    clear hr
    go_enter Tryd.func24, Tryd.ntmps24
    go_wp2_with (go_at_call 31; refine H1.out.mono ?_; rintro e w1 ⟨rfl, rfl⟩)
    have k1 : decide ((x3 : Int) < 1) = true := by simp; omega
    have w3 := W3.out
    have w8 := W8.out
    have w12 := W12.out
    have t3 := T3.out
    have t8 := T8.out
    have t12 := T12.out
    go_quiet (fail)
    clear w3 w8 w12 t3 t8 t12
    go_wp2
    go_ret3
    exact ⟨rfl, codec.below_draws (Below.refl _ _) _⟩
  · by_cases hk3 : 3 < x3
    · have hr' : r = false := by rw [hr]; simp; omega
      subst hr'
      clear hr
      go_enter Tryd.func24, Tryd.ntmps24
      go_wp2_with (go_at_call 31; refine H1.out.mono ?_; rintro e w1 ⟨rfl, rfl⟩)
      have k1 : decide ((x3 : Int) < 1) = false := by simp; omega
      have k2 : decide ((3 : Int) < (x3 : Int)) = true := by simp; omega
      have w3 := W3.out
      have w8 := W8.out
      have w12 := W12.out
      have t3 := T3.out
      have t8 := T8.out
      have t12 := T12.out
      go_quiet (fail)
      clear w3 w8 w12 t3 t8 t12
      go_wp2
      go_ret3
      exact ⟨rfl, codec.below_draws (Below.refl _ _) _⟩
    · by_cases hm : 30000 < m
      · have hr' : r = false := by rw [hr]; simp; omega
        subst hr'
        clear hr
        go_enter Tryd.func24, Tryd.ntmps24
        go_wp2_with (go_at_call 31; refine H1.out.mono ?_; rintro e w1 ⟨rfl, rfl⟩)
        have k1 : decide ((x3 : Int) < 1) = false := by simp; omega
        have k2 : decide ((3 : Int) < (x3 : Int)) = false := by simp; omega
        have k3 : decide ((30000 : Int) < (m : Int)) = true := by simp; omega
        have w3 := W3.out
        have w8 := W8.out
        have w12 := W12.out
        have t3 := T3.out
        have t8 := T8.out
        have t12 := T12.out
        go_quiet (fail)
        clear w3 w8 w12 t3 t8 t12
        go_wp2
        go_ret3
        exact ⟨rfl, codec.below_draws (Below.refl _ _) _⟩
      · by_cases hx : x = C
        · have hr' : r = true := by rw [hr]; simp; omega
          subst hr' hx
          clear hr
          have hne : ((x : Int) != (x : Int)) = false := by simp
          go_enter Tryd.func24, Tryd.ntmps24
          go_wp2_with (go_at_call 31; refine H1.out.mono ?_; rintro e w1 ⟨rfl, rfl⟩)
          have k1 : decide ((x3 : Int) < 1) = false := by simp; omega
          have k2 : decide ((3 : Int) < (x3 : Int)) = false := by simp; omega
          have k3 : decide ((30000 : Int) < (m : Int)) = false := by simp; omega
          have w3 := W3.out
          have w8 := W8.out
          have w12 := W12.out
          have t3 := T3.out
          have t8 := T8.out
          have t12 := T12.out
          go_quiet ((first | (go_at_call 31; exact H2.out _) | (go_at_call 19; exact H3.out _)))
          clear w3 w8 w12 t3 t8 t12
          go_wp2
          go_ret3
          exact ⟨rfl, codec.below_draws (Below.refl _ _) _⟩
        · have hr' : r = false := by rw [hr]; simp; omega
          subst hr'
          clear hr
          have hne : ((x : Int) != (C : Int)) = true := by rw [bne_iff_ne]; omega
          clear hx
          go_enter Tryd.func24, Tryd.ntmps24
          go_wp2_with (go_at_call 31; refine H1.out.mono ?_; rintro e w1 ⟨rfl, rfl⟩)
          have k1 : decide ((x3 : Int) < 1) = false := by simp; omega
          have k2 : decide ((3 : Int) < (x3 : Int)) = false := by simp; omega
          have k3 : decide ((30000 : Int) < (m : Int)) = false := by simp; omega
          have w3 := W3.out
          have w8 := W8.out
          have w12 := W12.out
          have t3 := T3.out
          have t8 := T8.out
          have t12 := T12.out
          go_quiet ((first | (go_at_call 31; exact H2.out _) | (go_at_call 19; exact H3.out _)))
          clear w3 w8 w12 t3 t8 t12
          go_wp2
          go_ret3
          exact ⟨rfl, codec.below_draws (Below.refl _ _) _⟩
theorem take3 {l : List Nat} (h : 44 ≤ l.length) : l.take 3 = [l.getD 0 0, l.getD 1 0, l.getD 2 0] := by
  match l, h with
  | a :: b :: c :: r, _ => rfl
theorem refHead_any (W : World) (b o : Nat) (n c i : Nat) (l : List Nat) (hB : Bytes W (some ⟨b, o, none⟩) n l) (hi : i < n) (hc : n ≤ c) (hnm : n ≤ 40000) :
    Calls Tryd.prog 24 #[.slice (some ⟨b, o, none⟩) n c, .int .i64 i] W fun e w' => e = .returned (.tuple #[.int .i64 (if rightB (l.drop i) = true then (l.drop i).getD 3 0 else 0 : Nat), .int .i64 (if rightB (l.drop i) = true then numOf4 (l.drop i) else 0 : Nat), .bool (rightB (l.drop i))]) ∧ Below W.heap.size W w' := by
  have hn := hB.1
  by_cases h44 : n < i + 44
  · have hr : rightB (l.drop i) = false := by
      unfold rightB
      rw [decide_eq_false_iff_not]
      intro h
      have := h.1
      simp at this
      omega
    rw [hr]
    exact (refHead_short W _ n c i h44 (by omega) hnm).mono fun e w' h => h
  · have g : ∀ j, (l.drop i).getD j 0 = l.getD (i + j) 0 := fun j => by simp [List.getD]
    have hl44 : 44 ≤ (l.drop i).length := by simp; omega
    by_cases hm : l.getD (i + 0) 0 = 99 ∧ l.getD (i + 1) 0 = 117 ∧ l.getD (i + 2) 0 = 98
    · have c0 := bytes_cell hB (i + 0) (by omega)
      have c1 := bytes_cell hB (i + 1) (by omega)
      have c2 := bytes_cell hB (i + 2) (by omega)
      rw [hm.1] at c0
      rw [hm.2.1] at c1
      rw [hm.2.2] at c2
      have hr : rightB (l.drop i) = decide (1 ≤ (l.drop i).getD 3 0 ∧ (l.drop i).getD 3 0 ≤ 3 ∧ numOf4 (l.drop i) ≤ 30000 ∧ codec.numOf (((l.drop i).drop 8).take 4) = crcOf ((l.drop i).take 8)) := by
        unfold rightB numOf4
        rw [take3 hl44, g 0, g 1, g 2, hm.1, hm.2.1, hm.2.2]
        rw [Bool.eq_iff_iff, decide_eq_true_eq, decide_eq_true_eq]
        simp only [hl44, true_and]
      have hb := fun (x : Nat) (hx : x ∈ l) => hB.2.1 x hx
      have hlt : ∀ t : List Nat, (∀ x ∈ t, x ∈ l) → codec.numOf (t.take 4) < 4294967296 := fun t ht => by
        have := codec.numOf_lt (t.take 4) (fun x hx => hb x (ht x (List.mem_of_mem_take hx))) 4
        rw [List.take_take] at this
        exact this
      have c3 := bytes_cell hB (i + 3) (by omega)
      have d4 := bytes_take (bytes_drop hB (i + 4) (by omega)) 4 (by omega)
      have d8 := bytes_take (bytes_drop hB (i + 8) (by omega)) 4 (by omega)
      have d0 := bytes_take (bytes_drop hB i (by omega)) 8 (by omega)
      have e4 : (l.drop i).drop 4 = l.drop (i + 4) := by rw [List.drop_drop]
      have e8 : (l.drop i).drop 8 = l.drop (i + 8) := by rw [List.drop_drop]
      refine refHead_rest W b o n c i _ (numOf4 (l.drop i)) (codec.numOf (((l.drop i).drop 8).take 4)) (crcOf ((l.drop i).take 8)) _ (by omega) hc hnm c0 c1 c2 (by rw [g 3]; exact c3) (by rw [g 3]; exact codec.getD_lt256 hb _) (hlt _ (fun x hx => List.mem_of_mem_drop (List.mem_of_mem_drop hx))) (hlt _ (fun x hx => List.mem_of_mem_drop (List.mem_of_mem_drop hx))) (crcOf_lt fun x hx => hb x (List.mem_of_mem_drop (List.mem_of_mem_take hx))) hr ?_ ?_ ?_
      · unfold numOf4
        rw [e4]
        exact codec.number_any W _ 4 _ _ d4 (by omega)
      · intro q
        rw [e8]
        exact (codec.number_any (W.drewN q) _ 4 (c - (i + 8)) _ (d8.drewN q) (by omega)).mono fun _ _ ⟨he, hw⟩ => ⟨he, q, hw.symm⟩
      · intro q
        exact (crc_ref _ 8 (c - i) _ (W.drewN q) (d0.drewN q) (by unfold maxLen; omega)).mono fun _ _ ⟨he, hw⟩ => ⟨he, q, hw.symm⟩
    · have hr : rightB (l.drop i) = false := by
        unfold rightB
        rw [decide_eq_false_iff_not]
        intro h
        rw [take3 hl44, g 0, g 1, g 2] at h
        have := h.2.1
        simp only [List.cons.injEq] at this
        exact hm ⟨this.1, this.2.1, this.2.2.1⟩
      rw [hr]
      exact (refHead_mark W b o n c i _ _ _ (by omega) hnm (bytes_cell hB (i + 0) (by omega)) (bytes_cell hB (i + 1) (by omega)) (bytes_cell hB (i + 2) (by omega)) hm).mono fun e w' h => h
end Go.Proofs.YtbgnhjmijcpffaaDoor.frm
