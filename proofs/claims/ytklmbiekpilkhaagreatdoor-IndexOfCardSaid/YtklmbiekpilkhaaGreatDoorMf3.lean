/- What the document says of a head's place. -/
import Derived.Test.YtklmbiekpilkhaaGreatDoorMf2
import Derived.Test.YtklmbiekpilkhaaGreatDoorMc0
import Derived.IntWalk
namespace Go.Proofs.YtklmbiekpilkhaaGreatDoor.frm
open Go.ChangeShapes Go.WideShapes Go.ChangeAt Go.RowKit
open Go.Proofs.YtklmbiekpilkhaaGreatDoor.codec (Bytes vals vals_append vals_length vals_one OutIs More Made New bytesOf byteAt bytesOf_length bytesOf_lt Fits strOf)
set_option linter.unusedVariables false
set_option maxRecDepth 100000
set_option linter.unusedSimpArgs false

def No (W : World) (e : Ending) (w' : World) : Prop := e = .returned (.tuple #[.int .i64 0, .int .i64 0, .bool false]) ∧ Below W.heap.size W w'
theorem no_same (W : World) (q : Nat) : No W (.returned (.tuple #[.int .i64 0, .int .i64 0, .bool false])) (W.drewN q) := ⟨rfl, codec.below_draws (Below.refl _ _) q⟩
theorem bytes_cell {w : World} {b o n : Nat} {l : List Nat} (h : Bytes w (some ⟨b, o, none⟩) n l) (i : Nat) (hi : i < n) : w.cell? ⟨b, o + i, none⟩ = some (.int .u8 (l.getD i 0 : Nat)) := by
  obtain ⟨b, o, e, hc⟩ := h.2.2 (by omega)
  cases e
  exact hc i hi
set_option maxHeartbeats 1000000 in
theorem refHead_short (W : World) (A : Option Addr) (n c i : Nat) (hi : n < i + 44) (hin : i < 50000) (hnm : n ≤ 40000) :
    Calls Tryz.prog 60 #[.slice A n c, .int .i64 i] W fun e w' => No W e w' := by
  go_enter Tryz.func60, Tryz.ntmps60
  go_wp2
  go_ret3
  exact no_same W 0
set_option maxHeartbeats 1000000 in
theorem refHead_mark (W : World) (b o : Nat) (n c i x0 x1 x2 : Nat) (hi : i + 44 ≤ n) (hnm : n ≤ 40000) (c0 : W.cell? ⟨b, o + i, none⟩ = some (.int .u8 x0)) (c1 : W.cell? ⟨b, o + (i + 1), none⟩ = some (.int .u8 x1)) (c2 : W.cell? ⟨b, o + (i + 2), none⟩ = some (.int .u8 x2)) (hne : ¬ (x0 = 99 ∧ x1 = 117 ∧ x2 = 98)) :
    Calls Tryz.prog 60 #[.slice (some ⟨b, o, none⟩) n c, .int .i64 i] W fun e w' => No W e w' := by
  by_cases h0 : x0 = 99
  · subst h0
    by_cases h1 : x1 = 117
    · subst h1
      have h2 : ((x2 : Int) != 98) = true := by rw [bne_iff_ne]; omega
      clear hne
      go_enter Tryz.func60, Tryz.ntmps60
      go_wp2
      go_ret3
      exact no_same W 0
    · have h1' : ((x1 : Int) != 117) = true := by rw [bne_iff_ne]; omega
      clear hne h1
      go_enter Tryz.func60, Tryz.ntmps60
      go_wp2
      go_ret3
      exact no_same W 0
  · have h0' : ((x0 : Int) != 99) = true := by rw [bne_iff_ne]; omega
    clear hne h0
    go_enter Tryz.func60, Tryz.ntmps60
    go_wp2
    go_ret3
    exact no_same W 0
set_option maxHeartbeats 2000000 in
theorem refHead_rest (W : World) (b o : Nat) (n c i x3 m x C : Nat) (r : Bool) (hi : i + 44 ≤ n) (hc : n ≤ c) (hnm : n ≤ 40000) (c0 : W.cell? ⟨b, o + i, none⟩ = some (.int .u8 99)) (c1 : W.cell? ⟨b, o + (i + 1), none⟩ = some (.int .u8 117)) (c2 : W.cell? ⟨b, o + (i + 2), none⟩ = some (.int .u8 98))
    (c3 : W.cell? ⟨b, o + (i + 3), none⟩ = some (.int .u8 x3)) (h3 : x3 < 256) (hm4 : m < 4294967296) (hx4 : x < 4294967296) (hC4 : C < 4294967296) (hr : r = decide (1 ≤ x3 ∧ x3 ≤ 3 ∧ m ≤ 30000 ∧ x = C))
    (hN1 : Calls Tryz.prog 92 #[.slice (some ⟨b, o + (i + 4), none⟩) 4 (c - (i + 4))] W fun e w' => e = .returned (.int .u64 m) ∧ W = w')
    (hN2 : ∀ q, Calls Tryz.prog 92 #[.slice (some ⟨b, o + (i + 8), none⟩) 4 (c - (i + 8))] (W.drewN q) fun e w' => e = .returned (.int .u64 x) ∧ ∃ r, w' = W.drewN r)
    (hCr : ∀ q, Calls Tryz.prog 93 #[.slice (some ⟨b, o + i, none⟩) 8 (c - i)] (W.drewN q) fun e w' => e = .returned (.int .u32 C) ∧ ∃ r, w' = W.drewN r) :
    Calls Tryz.prog 60 #[.slice (some ⟨b, o, none⟩) n c, .int .i64 i] W fun e w' => e = .returned (.tuple #[.int .i64 (if r = true then x3 else 0 : Nat), .int .i64 (if r = true then m else 0 : Nat), .bool r]) ∧ Below W.heap.size W w' := by
  have W3 := Lib.hid (show IntKind.i64.wrap ((i : Int) + 3) = (i : Int) + 3 from IntWalk.i64_in _ (by omega))
  have W8 := Lib.hid (show IntKind.i64.wrap ((i : Int) + 8) = (i : Int) + 8 from IntWalk.i64_in _ (by omega))
  have W12 := Lib.hid (show IntKind.i64.wrap ((i : Int) + 12) = (i : Int) + 12 from IntWalk.i64_in _ (by omega))
  have T3 := Lib.hid (show ((i : Int) + 3).toNat = i + 3 by omega)
  have T8 := Lib.hid (show ((i : Int) + 8).toNat = i + 8 by omega)
  have T12 := Lib.hid (show ((i : Int) + 12).toNat = i + 12 by omega)
  have i3 : (0 : Int) ≤ (i : Int) + 3 := by omega
  have i3' : (i : Int) + 3 < (n : Int) := by omega
  have i8 : (0 : Int) ≤ (i : Int) + 8 := by omega
  have i8' : (i : Int) + 8 ≤ (i : Int) + 12 := by omega
  have i8c : (i : Int) + 8 ≤ (c : Int) := by omega
  have i12 : (i : Int) + 12 ≤ (c : Int) := by omega
  have i0 : (i : Int) ≤ (i : Int) + 8 := by omega
  have H1 := Lib.hid hN1
  have H2 := Lib.hid hN2
  have H3 := Lib.hid hCr
  clear hN1 hN2 hCr
  by_cases hk1 : x3 < 1
  · have hr' : r = false := by rw [hr]; simp; omega
    subst hr'
    clear hr
    go_enter Tryz.func60, Tryz.ntmps60
    go_wp2_with (go_at_call 92; refine H1.out.mono ?_; rintro e w1 ⟨rfl, rfl⟩)
    have k1 : decide ((x3 : Int) < 1) = true := by simp; omega
    have w3 := W3.out
    have w8 := W8.out
    have w12 := W12.out
    have t3 := T3.out
    have t8 := T8.out
    have t12 := T12.out
    go_quiet (fail)
    clear w3 w8 w12 t3 t8 t12
    go_wp2
    go_ret3
    exact ⟨rfl, codec.below_draws (Below.refl _ _) _⟩
  · by_cases hk3 : 3 < x3
    · have hr' : r = false := by rw [hr]; simp; omega
      subst hr'
      clear hr
      go_enter Tryz.func60, Tryz.ntmps60
      go_wp2_with (go_at_call 92; refine H1.out.mono ?_; rintro e w1 ⟨rfl, rfl⟩)
      have k1 : decide ((x3 : Int) < 1) = false := by simp; omega
      have k2 : decide ((3 : Int) < (x3 : Int)) = true := by simp; omega
      have w3 := W3.out
      have w8 := W8.out
      have w12 := W12.out
      have t3 := T3.out
      have t8 := T8.out
      have t12 := T12.out
      go_quiet (fail)
      clear w3 w8 w12 t3 t8 t12
      go_wp2
      go_ret3
      exact ⟨rfl, codec.below_draws (Below.refl _ _) _⟩
    · by_cases hm : 30000 < m
      · have hr' : r = false := by rw [hr]; simp; omega
        subst hr'
        clear hr
        go_enter Tryz.func60, Tryz.ntmps60
        go_wp2_with (go_at_call 92; refine H1.out.mono ?_; rintro e w1 ⟨rfl, rfl⟩)
        have k1 : decide ((x3 : Int) < 1) = false := by simp; omega
        have k2 : decide ((3 : Int) < (x3 : Int)) = false := by simp; omega
        have k3 : decide ((30000 : Int) < (m : Int)) = true := by simp; omega
        have w3 := W3.out
        have w8 := W8.out
        have w12 := W12.out
        have t3 := T3.out
        have t8 := T8.out
        have t12 := T12.out
        go_quiet (fail)
        clear w3 w8 w12 t3 t8 t12
        go_wp2
        go_ret3
        exact ⟨rfl, codec.below_draws (Below.refl _ _) _⟩
      · by_cases hx : x = C
        · have hr' : r = true := by rw [hr]; simp; omega
          subst hr' hx
          clear hr
          have hne : ((x : Int) != (x : Int)) = false := by simp
          go_enter Tryz.func60, Tryz.ntmps60
          go_wp2_with (go_at_call 92; refine H1.out.mono ?_; rintro e w1 ⟨rfl, rfl⟩)
          have k1 : decide ((x3 : Int) < 1) = false := by simp; omega
          have k2 : decide ((3 : Int) < (x3 : Int)) = false := by simp; omega
          have k3 : decide ((30000 : Int) < (m : Int)) = false := by simp; omega
          have w3 := W3.out
          have w8 := W8.out
          have w12 := W12.out
          have t3 := T3.out
          have t8 := T8.out
          have t12 := T12.out
          go_quiet ((first | (go_at_call 92; exact H2.out _) | (go_at_call 93; exact H3.out _)))
          clear w3 w8 w12 t3 t8 t12
          go_wp2
          go_ret3
          exact ⟨rfl, codec.below_draws (Below.refl _ _) _⟩
        · have hr' : r = false := by rw [hr]; simp; omega
          subst hr'
          clear hr
          have hne : ((x : Int) != (C : Int)) = true := by rw [bne_iff_ne]; omega
          clear hx
          go_enter Tryz.func60, Tryz.ntmps60
          go_wp2_with (go_at_call 92; refine H1.out.mono ?_; rintro e w1 ⟨rfl, rfl⟩)
          have k1 : decide ((x3 : Int) < 1) = false := by simp; omega
          have k2 : decide ((3 : Int) < (x3 : Int)) = false := by simp; omega
          have k3 : decide ((30000 : Int) < (m : Int)) = false := by simp; omega
          have w3 := W3.out
          have w8 := W8.out
          have w12 := W12.out
          have t3 := T3.out
          have t8 := T8.out
          have t12 := T12.out
          go_quiet ((first | (go_at_call 92; exact H2.out _) | (go_at_call 93; exact H3.out _)))
          clear w3 w8 w12 t3 t8 t12
          go_wp2
          go_ret3
          exact ⟨rfl, codec.below_draws (Below.refl _ _) _⟩
theorem take3 {l : List Nat} (h : 44 ≤ l.length) : l.take 3 = [l.getD 0 0, l.getD 1 0, l.getD 2 0] := by
  match l, h with
  | a :: b :: c :: r, _ => rfl
theorem refHead_any (W : World) (b o : Nat) (n c i : Nat) (l : List Nat) (hB : Bytes W (some ⟨b, o, none⟩) n l) (hi : i < n) (hc : n ≤ c) (hnm : n ≤ 40000) :
    Calls Tryz.prog 60 #[.slice (some ⟨b, o, none⟩) n c, .int .i64 i] W fun e w' => e = .returned (.tuple #[.int .i64 (if rightB (l.drop i) = true then (l.drop i).getD 3 0 else 0 : Nat), .int .i64 (if rightB (l.drop i) = true then numOf4 (l.drop i) else 0 : Nat), .bool (rightB (l.drop i))]) ∧ Below W.heap.size W w' := by
  have hn := hB.1
  by_cases h44 : n < i + 44
  · have hr : rightB (l.drop i) = false := by
      unfold rightB
      rw [decide_eq_false_iff_not]
      intro h
      have := h.1
      simp at this
      omega
    rw [hr]
    exact (refHead_short W _ n c i h44 (by omega) hnm).mono fun e w' h => h
  · have g : ∀ j, (l.drop i).getD j 0 = l.getD (i + j) 0 := fun j => by simp [List.getD]
    have hl44 : 44 ≤ (l.drop i).length := by simp; omega
    by_cases hm : l.getD (i + 0) 0 = 99 ∧ l.getD (i + 1) 0 = 117 ∧ l.getD (i + 2) 0 = 98
    · have c0 := bytes_cell hB (i + 0) (by omega)
      have c1 := bytes_cell hB (i + 1) (by omega)
      have c2 := bytes_cell hB (i + 2) (by omega)
      rw [hm.1] at c0
      rw [hm.2.1] at c1
      rw [hm.2.2] at c2
      have hr : rightB (l.drop i) = decide (1 ≤ (l.drop i).getD 3 0 ∧ (l.drop i).getD 3 0 ≤ 3 ∧ numOf4 (l.drop i) ≤ 30000 ∧ codec.numOf (((l.drop i).drop 8).take 4) = crcOf ((l.drop i).take 8)) := by
        unfold rightB numOf4
        rw [take3 hl44, g 0, g 1, g 2, hm.1, hm.2.1, hm.2.2]
        rw [Bool.eq_iff_iff, decide_eq_true_eq, decide_eq_true_eq]
        simp only [hl44, true_and]
      have hb := fun (x : Nat) (hx : x ∈ l) => hB.2.1 x hx
      have hlt : ∀ t : List Nat, (∀ x ∈ t, x ∈ l) → codec.numOf (t.take 4) < 4294967296 := fun t ht => by
        have := codec.numOf_lt (t.take 4) (fun x hx => hb x (ht x (List.mem_of_mem_take hx))) 4
        rw [List.take_take] at this
        exact this
      have c3 := bytes_cell hB (i + 3) (by omega)
      have d4 := bytes_take (bytes_drop hB (i + 4) (by omega)) 4 (by omega)
      have d8 := bytes_take (bytes_drop hB (i + 8) (by omega)) 4 (by omega)
      have d0 := bytes_take (bytes_drop hB i (by omega)) 8 (by omega)
      have e4 : (l.drop i).drop 4 = l.drop (i + 4) := by rw [List.drop_drop]
      have e8 : (l.drop i).drop 8 = l.drop (i + 8) := by rw [List.drop_drop]
      refine refHead_rest W b o n c i _ (numOf4 (l.drop i)) (codec.numOf (((l.drop i).drop 8).take 4)) (crcOf ((l.drop i).take 8)) _ (by omega) hc hnm c0 c1 c2 (by rw [g 3]; exact c3) (by rw [g 3]; exact codec.getD_lt256 hb _) (hlt _ (fun x hx => List.mem_of_mem_drop (List.mem_of_mem_drop hx))) (hlt _ (fun x hx => List.mem_of_mem_drop (List.mem_of_mem_drop hx))) (crcOf_lt fun x hx => hb x (List.mem_of_mem_drop (List.mem_of_mem_take hx))) hr ?_ ?_ ?_
      · unfold numOf4
        rw [e4]
        exact codec.number_any W _ 4 _ _ d4 (by omega)
      · intro q
        rw [e8]
        exact (codec.number_any (W.drewN q) _ 4 (c - (i + 8)) _ (d8.drewN q) (by omega)).mono fun _ _ ⟨he, hw⟩ => ⟨he, q, hw.symm⟩
      · intro q
        exact (crc_ref _ 8 (c - i) _ (W.drewN q) (d0.drewN q) (by unfold maxLen; omega)).mono fun _ _ ⟨he, hw⟩ => ⟨he, q, hw.symm⟩
    · have hr : rightB (l.drop i) = false := by
        unfold rightB
        rw [decide_eq_false_iff_not]
        intro h
        rw [take3 hl44, g 0, g 1, g 2] at h
        have := h.2.1
        simp only [List.cons.injEq] at this
        exact hm ⟨this.1, this.2.1, this.2.2.1⟩
      rw [hr]
      exact (refHead_mark W b o n c i _ _ _ (by omega) hnm (bytes_cell hB (i + 0) (by omega)) (bytes_cell hB (i + 1) (by omega)) (bytes_cell hB (i + 2) (by omega)) hm).mono fun e w' h => h
end Go.Proofs.YtklmbiekpilkhaaGreatDoor.frm
namespace Go.Proofs.YtklmbiekpilkhaaGreatDoor.frm
open Go.ChangeShapes Go.WideShapes Go.ChangeAt Go.RowKit
open Go.Proofs.YtklmbiekpilkhaaGreatDoor.codec (Bytes vals vals_append vals_length vals_one OutIs More Made New bytesOf byteAt bytesOf_length bytesOf_lt Fits strOf)
set_option linter.unusedVariables false
set_option maxRecDepth 100000
set_option linter.unusedSimpArgs false

theorem own_form {w : World} {B N : Nat} {v : Value} {M : List Nat} (h : w.ownsRow B 5 1 v M.length (vals M)) (hne : v ≠ .slice none 0 0) (hb : ∀ x ∈ M, x < 256) (hN : M.length = N) :
    ∃ g cap, v = .slice (some ⟨g, 0, none⟩) N cap ∧ B ≤ g ∧ Bytes w (some ⟨g, 0, none⟩) N M ∧ N ≤ cap := by
  subst hN
  rcases h.2 with ⟨e, _⟩ | ⟨g, cap, cur, e, hB, _, hc, _⟩
  · exact absurd e hne
  · subst e
    exact ⟨g, cap, rfl, hB, codec.own_bytes' h rfl hb, hc⟩

theorem copy_rec {W w5 w6 : World} {E : TypeId} {v v5 : Value} {xs : List X} {A : Option Addr} {m : Nat} {p : List Nat} (h1 : Recs W.heap.size E w5 v xs) (h2 : Below W.heap.size W w5) (hp : Bytes w5 A m p)
    (ho : w6.ownsRow w5.heap.size 5 1 v5 ([] ++ p).length (vals ([] ++ p))) (hg : (w5.alloc (.cells #[] 5)).grownBy w6 (Value.slice (some ⟨w5.heap.size, 0, none⟩) 0 0).ownBlock) (hnn : v5 = .slice none 0 0 ↔ Value.slice (some ⟨w5.heap.size, 0, none⟩) 0 0 = .slice none 0 0 ∧ m = 0) :
    ∃ g cap, v5 = .slice (some ⟨g, 0, none⟩) m cap ∧ Recs W.heap.size E w6 v xs ∧ Bytes w6 (some ⟨g, 0, none⟩) m p ∧ W.heap.size ≤ w6.heap.size ∧ (∀ ad, (some ⟨g, 0, none⟩ : Option Addr) = some ad → 0 < m → v.ownBlock ≠ some ad.block) ∧ Below W.heap.size W w6 := by
  have hb : Below w5.heap.size w5 w6 := ((Below.refl _ _).alloc (Nat.le_refl _) _).trans ⟨hg.os, hg.tape, hg.output, hg.size, fun k hk => hg.block k (by simp; omega) (fun e => by
    have := Option.some.inj e
    simp at this
    omega)⟩
  rw [List.nil_append] at ho
  obtain ⟨g, cap, e, hB, hBy, _⟩ := own_form ho (fun e => by have := (hnn.1 e).1; cases this) hp.2.1 hp.1
  have hb' := h2.trans (hb.mono h2.size)
  refine ⟨g, cap, e, h1.below hb, hBy, hb'.size, fun ad e _ e' => ?_, hb'⟩
  cases e
  have := (h1.1.lt _ e').2
  simp at this
  omega
set_option maxHeartbeats 4000000 in
theorem refScan_any (W : World) (A : Option Addr) (n c : Nat) (l : List Nat) (hB : Bytes W A n l) (hc : n ≤ c) (hnm : n ≤ 40000) :
    Calls Tryz.prog 35 #[.slice A n c] W fun e w' => ∃ v torn, e = .returned (.tuple #[v, .int .i64 (torn : Nat)]) ∧ Found W 104 l v torn w' := by
  have HB := Lib.hid hB
  have HS := Lib.hid (sofar_start W 104 l)
  clear hB
  go_enter Tryz.func35, Tryz.ntmps35
  go_wp2
  go_loopw [4, 5, 6] (fun v d t wr => ∃ k tn : Nat, k ≤ n ∧ d = .int .i64 k ∧ t = .int .i64 tn ∧ Sofar W 104 l v k tn wr) (fun _ d _ _ => n - (intOf d).toNat)
  case atStart => exact ⟨0, 0, Nat.zero_le _, rfl, rfl, HS.out⟩
  case round =>
    clear HS
    obtain ⟨k, tn, hk, rfl, rfl, hso⟩ := hrel
    have HSo := Lib.hid hso
    clear hso
    by_cases hlt : k < n
    · obtain ⟨b, o, rfl, -⟩ := HB.out.2.2 (by omega)
      have HNH := Lib.hid (refHead_any wr b o n c k l (HB.out.below HB.out.lt HSo.out.bel) hlt hc hnm)
      by_cases hr : rightB (l.drop k) = true
      · rw [if_pos hr, if_pos hr, hr] at HNH
        obtain ⟨hlong, hm3⟩ := right_long hr
        rw [HB.out.1] at hlong
        obtain ⟨m, hm⟩ : ∃ m, m = numOf4 (l.drop k) := ⟨_, rfl⟩
        obtain ⟨kd, hkd⟩ : ∃ kd, kd = (l.drop k).getD 3 0 := ⟨_, rfl⟩
        rw [← hm, ← hkd] at HNH
        rw [← hm] at hm3
        have HM := Lib.hid hm
        have HKd := Lib.hid hkd
        have HR := Lib.hid hr
        clear hr hm hkd
        by_cases ht : n < k + 44 + m
        · have HF := Lib.hid (HSo.out.found (scan_torn l k tn (by rw [HB.out.1]; omega) HR.out (by rw [HB.out.1, ← HM.out]; omega)))
          go_wp2_with (go_at_call 60; refine HNH.out.mono ?_; rintro e w1 ⟨rfl, hb⟩; have HB2 := Lib.hid hb; clear hb)
          go_ret2
          obtain ⟨xs, h1, h2, h3⟩ := HF.out
          exact ⟨_, k, rfl, xs, h1.below HB2.out, h2.trans (HB2.out.mono h2.size), h3⟩
        · have ht' : k + 44 + m ≤ n := by omega
          by_cases hci : c = k + 44
          · have HM0 : Hid (m = 0) := show m = 0 by omega
            have h0 : c - (k + 44) = 0 := by omega
            have HCi := Lib.hid hci
            clear hci
            go_wp2_with (go_at_call 60; refine HNH.out.mono ?_; rintro e w1 ⟨rfl, hb⟩; have HB2 := Lib.hid hb; clear hb)
            have HPB : Hid (∀ w', Below W.heap.size W w' → Bytes w' (some ⟨b, o, none⟩) m (payOf l k)) := fun w' h => pay_bytes (HB.out.below HB.out.lt h) HM.out ht' (fun h => absurd HM0.out (by omega))
            have HCp : Hid (m ≤ 0) := by have := HM0.out; show m ≤ _; omega
            rw [show k + 44 + m - (k + 44) = m by omega, h0]
            clear HM0 HCi h0
            have HSo2 := Lib.hid (HSo.out.below HB2.out)
            with_reducible refine (dig_ref w1 (some ⟨b, o, none⟩) m 0 (payOf l k) (HPB.out w1 HSo2.out.bel) (by omega) (fun e => by cases e)).mono ?_
            rintro e w2 ⟨rfl, hb2⟩
            obtain ⟨dd, hdd⟩ : ∃ dd, dd = (vals (dig (payOf l k))).toArray := ⟨_, rfl⟩
            have HSo3 := Lib.hid (HSo2.out.below hb2)
            have HA := Lib.hid (all_vals (dig (payOf l k)))
            have HP := Lib.hid (size54 (dig (payOf l k)) (dig_length _))
            have HZ := Lib.hid (show (Array.replicate 32 (Value.int .u8 0)).size = (vals (dig (payOf l k))).toArray.size by simp [vals, dig_length])
            have HRw := Lib.hid (heap_alloc_new w2 (.cells (Array.replicate 32 (Value.int .u8 0)) 126))
            rw [← hdd] at HA HP HZ ⊢
            have HDd := Lib.hid hdd
            clear hb2 hdd HNH HB2 HSo2
            go_wp2_with (refine wpList_store_row rfl 126 (.tmp 11) (.tmp 45) rfl w2.heap.size dd rfl rfl 126 _ HRw.out HP.out HZ.out HA.out ?_; rw [World.setRow_alloc_new]; obtain ⟨D, hD⟩ : ∃ D, D = w2.heap.size := ⟨_, rfl⟩; obtain ⟨w3, hw3⟩ : ∃ w3, w3 = w2.alloc (.cells dd 126) := ⟨_, rfl⟩; rw [← hw3, ← hD]; have HSo4 := Lib.hid (show Sofar W 104 l u4 k tn w3 by rw [hw3]; exact HSo3.out.below ((Below.refl _ _).alloc (Nat.le_refl _) _)); have HD4 := Lib.hid (show Bytes w3 (some ⟨D, 0, none⟩) 32 (dig (payOf l k)) by rw [hw3, HDd.out]; exact lit_at w2 _ (dig_lt _) _ _ hD (dig_length _)); clear hD hw3 HRw HA HP HZ HSo3 HDd)
            obtain ⟨T1, hT1⟩ : ∃ T1, T1 = strOf (dig (payOf l k)) := ⟨_, rfl⟩
            obtain ⟨T2, hT2⟩ : ∃ T2, T2 = strOf (told l k) := ⟨_, rfl⟩
            have c1 : ∀ q, (convert 22 9 (.slice (some ⟨D, 0, none⟩) 32 32)).run Tryz.prog (w3.drewN q) = .ok (.string T1) (w3.drewN q) := fun q => by rw [hT1]; exact (HD4.out.drewN q).text 32
            have hBt : Bytes w3 (some ⟨b, o + (k + 12), none⟩) 32 (told l k) := by
              have := bytes_take (bytes_drop (HB.out.below HB.out.lt HSo4.out.bel) (k + 12) (by omega)) 32 (by omega)
              rw [← List.drop_drop] at this
              exact this
            have c2 : ∀ q, (convert 22 9 (.slice (some ⟨b, o + (k + 12), none⟩) (k + 44 - (k + 12)) (c - (k + 12)))).run Tryz.prog (w3.drewN q) = .ok (.string T2) (w3.drewN q) := fun q => by rw [hT2, show k + 44 - (k + 12) = 32 by omega]; exact (hBt.drewN q).text _
            have c3 : ∀ q, (convert 22 9 (.slice (some ⟨b, o + (k + 12), none⟩) 32 (c - (k + 12)))).run Tryz.prog (w3.drewN q) = .ok (.string T2) (w3.drewN q) := fun q => by rw [hT2]; exact (hBt.drewN q).text _
            have hcn : ¬ c = k + 12 := by omega
            have hsl := fun w g => slice54 w g
            obtain ⟨e, he⟩ : ∃ e, e = k + 44 + m := ⟨_, rfl⟩
            have HE := Lib.hid he
            have hen : e ≤ n := by omega
            have hke : k < e := by omega
            have ee : Hid ((k : Int) + 44 + (m : Int) = (e : Nat)) := by show _ = _; omega
            have W12 := IntWalk.i64_in ((k : Int) + 12) (by omega)
            have W44 := IntWalk.i64_in ((k : Int) + 44) (by omega)
            have HW := Lib.hid (And.intro W12 W44)
            have t12 : Hid (((k : Int) + 12).toNat = k + 12 ∧ ((k : Int) + 44).toNat = k + 44) := ⟨by omega, by omega⟩
            have i1 : (0 : Int) ≤ (k : Int) + 12 := by omega
            have i2 : (k : Int) + 12 ≤ (k : Int) + 44 := by omega
            have i3 : (k : Int) + 44 ≤ (c : Int) := by omega
            by_cases hdg : dig (payOf l k) = told l k
            · have hq : (T1.toList == T2.toList) = true := by rw [hT1, hT2, hdg, beq_self_eq_true]
              have HSc := Lib.hid (scan_rec l k tn e (by rw [HB.out.1]; omega) HR.out (by rw [← HM.out]; exact he) (by rw [HB.out.1]; exact hen) hdg)
              clear he hdg hT1 hT2 hBt
              obtain ⟨t1, t2⟩ := t12.out
              clear t12
              go_quiet (fail)
              clear W12 W44 t1 t2 c1 c2 c3 HD4
              have HSo5 := Lib.hid (HSo4.out.below (codec.below_draws (Below.refl _ _) nq))
              generalize w3.drewN nq = w4 at *
              obtain ⟨xs, r1, r2, r3, r4⟩ := HSo5.out
              have R1 := Lib.hid r1
              have R2 := Lib.hid r2
              have R3 := Lib.hid r3
              have R4 := Lib.hid r4
              have HPb := Lib.hid (HPB.out w4 r2)
              clear r1 r2 r3 r4 HSo4 HSo5 hq
              go_wp2_with (first
                | (at_builtin; refine codec.wpList_append_bytes rfl (.tmp 59) (.tmp 60) rfl w4.heap.size _ [] rfl (World.ownsRow_made w4 #[] 0 (Nat.le_refl _) (Nat.zero_le _) rfl) (by simp) (some ⟨b, o, none⟩) m 0 (payOf l k) rfl (HPb.out.alloc _) (fun e => by cases e) (by simp; omega) ?_; intro v5 w5 ho hg hnn _; have HX5 := Lib.hid (copy_rec R1.out R2.out HPb.out ho hg hnn); clear ho hg hnn; obtain ⟨g5, cap5, rfl, hX5⟩ := HX5.out; have HX6 := Lib.hid hX5; clear hX5 HX5)
                | (at_builtin; refine wpList_append_rec rfl (.tmp 56) (.tmp 63) 97 104 rfl Tryz.underlying97 infoD W.heap.size u4 xs rfl HX6.out.1 HX6.out.2.2.1 (by have := R3.out; omega) ⟨⟨k, kd, payOf l k⟩, some ⟨g5, 0, none⟩, m, cap5⟩ (0, 0) w5.heap.size rfl rfl HX6.out.2.1 HX6.out.2.2.2.1 ?_; intro v6 w6 hR6 hb6; have HSo7 := Lib.hid (show Sofar W 104 l v6 e e w6 from sofar_rec hR6 (HX6.out.2.2.2.2.trans hb6) R3.out hke R4.out HSc.out HKd.out); clear hR6 hb6))
              go_roundw
              case rel => first | exact ⟨e, e, hen, by rw [← ee.out], by rw [← ee.out], HSo7.out⟩ | ((repeat apply Exists.intro); exact ⟨⟨e, e, hen, by rw [← ee.out], by rw [← ee.out], HSo7.out⟩, rfl⟩)
              case measure => (show n - ((k : Int) + 44 + (m : Int)).toNat < n - k; have := HE.out; omega)
            · have hq : (T1.toList == T2.toList) = false := by
                have h2 : (told l k).length = 32 := hBt.1
                have := str_ne (T := T1) (S := T2) (fun e => hdg (codec.strOf_inj (dig_lt _) hBt.2.1 (by rw [← hT1, ← hT2]; exact e)))
                rw [ByteArray.toList_eq T2]
                exact this
              have HSc := Lib.hid (scan_bad l k tn e (by rw [HB.out.1]; omega) HR.out (by rw [← HM.out]; exact he) (by rw [HB.out.1]; exact hen) hdg)
              clear he hdg hT1 hT2 hBt
              obtain ⟨t1, t2⟩ := t12.out
              clear t12
              go_quiet (fail)
              clear W12 W44 t1 t2 c1 c2 c3 HD4
              have HSo5 := Lib.hid ((HSo4.out.below (codec.below_draws (Below.refl _ _) nq)).on (k' := e) (t' := e) (by omega) HSc.out)
              generalize w3.drewN nq = w4 at *
              clear HSo4 hq
              go_wp2_with fail
              go_roundw
              case rel => first | exact ⟨e, e, hen, by rw [← ee.out], by rw [← ee.out], HSo5.out⟩ | ((repeat apply Exists.intro); exact ⟨⟨e, e, hen, by rw [← ee.out], by rw [← ee.out], HSo5.out⟩, rfl⟩)
              case measure => (show n - ((k : Int) + 44 + (m : Int)).toNat < n - k; have := HE.out; omega)
          · go_wp2_with (go_at_call 60; refine HNH.out.mono ?_; rintro e w1 ⟨rfl, hb⟩; have HB2 := Lib.hid hb; clear hb)
            rw [show k + 44 + m - (k + 44) = m by omega]
            have HPB : Hid (∀ w', Below W.heap.size W w' → Bytes w' (some ⟨b, o + (k + 44), none⟩) m (payOf l k)) := fun w' h => pay_bytes (HB.out.below HB.out.lt h) HM.out ht' (fun _ => rfl)
            have HCp : Hid (m ≤ c - (k + 44)) := by show m ≤ _; omega
            clear hci
            generalize c - (k + 44) = cp at *
            have HSo2 := Lib.hid (HSo.out.below HB2.out)
            with_reducible refine (dig_ref w1 (some ⟨b, o + (k + 44), none⟩) m cp (payOf l k) (HPB.out w1 HSo2.out.bel) (by omega) (fun e => by cases e)).mono ?_
            rintro e w2 ⟨rfl, hb2⟩
            obtain ⟨dd, hdd⟩ : ∃ dd, dd = (vals (dig (payOf l k))).toArray := ⟨_, rfl⟩
            have HSo3 := Lib.hid (HSo2.out.below hb2)
            have HA := Lib.hid (all_vals (dig (payOf l k)))
            have HP := Lib.hid (size54 (dig (payOf l k)) (dig_length _))
            have HZ := Lib.hid (show (Array.replicate 32 (Value.int .u8 0)).size = (vals (dig (payOf l k))).toArray.size by simp [vals, dig_length])
            have HRw := Lib.hid (heap_alloc_new w2 (.cells (Array.replicate 32 (Value.int .u8 0)) 126))
            rw [← hdd] at HA HP HZ ⊢
            have HDd := Lib.hid hdd
            clear hb2 hdd HNH HB2 HSo2
            go_wp2_with (refine wpList_store_row rfl 126 (.tmp 11) (.tmp 45) rfl w2.heap.size dd rfl rfl 126 _ HRw.out HP.out HZ.out HA.out ?_; rw [World.setRow_alloc_new]; obtain ⟨D, hD⟩ : ∃ D, D = w2.heap.size := ⟨_, rfl⟩; obtain ⟨w3, hw3⟩ : ∃ w3, w3 = w2.alloc (.cells dd 126) := ⟨_, rfl⟩; rw [← hw3, ← hD]; have HSo4 := Lib.hid (show Sofar W 104 l u4 k tn w3 by rw [hw3]; exact HSo3.out.below ((Below.refl _ _).alloc (Nat.le_refl _) _)); have HD4 := Lib.hid (show Bytes w3 (some ⟨D, 0, none⟩) 32 (dig (payOf l k)) by rw [hw3, HDd.out]; exact lit_at w2 _ (dig_lt _) _ _ hD (dig_length _)); clear hD hw3 HRw HA HP HZ HSo3 HDd)
            obtain ⟨T1, hT1⟩ : ∃ T1, T1 = strOf (dig (payOf l k)) := ⟨_, rfl⟩
            obtain ⟨T2, hT2⟩ : ∃ T2, T2 = strOf (told l k) := ⟨_, rfl⟩
            have c1 : ∀ q, (convert 22 9 (.slice (some ⟨D, 0, none⟩) 32 32)).run Tryz.prog (w3.drewN q) = .ok (.string T1) (w3.drewN q) := fun q => by rw [hT1]; exact (HD4.out.drewN q).text 32
            have hBt : Bytes w3 (some ⟨b, o + (k + 12), none⟩) 32 (told l k) := by
              have := bytes_take (bytes_drop (HB.out.below HB.out.lt HSo4.out.bel) (k + 12) (by omega)) 32 (by omega)
              rw [← List.drop_drop] at this
              exact this
            have c2 : ∀ q, (convert 22 9 (.slice (some ⟨b, o + (k + 12), none⟩) (k + 44 - (k + 12)) (c - (k + 12)))).run Tryz.prog (w3.drewN q) = .ok (.string T2) (w3.drewN q) := fun q => by rw [hT2, show k + 44 - (k + 12) = 32 by omega]; exact (hBt.drewN q).text _
            have c3 : ∀ q, (convert 22 9 (.slice (some ⟨b, o + (k + 12), none⟩) 32 (c - (k + 12)))).run Tryz.prog (w3.drewN q) = .ok (.string T2) (w3.drewN q) := fun q => by rw [hT2]; exact (hBt.drewN q).text _
            have hcn : ¬ c = k + 12 := by omega
            have hsl := fun w g => slice54 w g
            obtain ⟨e, he⟩ : ∃ e, e = k + 44 + m := ⟨_, rfl⟩
            have HE := Lib.hid he
            have hen : e ≤ n := by omega
            have hke : k < e := by omega
            have ee : Hid ((k : Int) + 44 + (m : Int) = (e : Nat)) := by show _ = _; omega
            have W12 := IntWalk.i64_in ((k : Int) + 12) (by omega)
            have W44 := IntWalk.i64_in ((k : Int) + 44) (by omega)
            have HW := Lib.hid (And.intro W12 W44)
            have t12 : Hid (((k : Int) + 12).toNat = k + 12 ∧ ((k : Int) + 44).toNat = k + 44) := ⟨by omega, by omega⟩
            have i1 : (0 : Int) ≤ (k : Int) + 12 := by omega
            have i2 : (k : Int) + 12 ≤ (k : Int) + 44 := by omega
            have i3 : (k : Int) + 44 ≤ (c : Int) := by omega
            by_cases hdg : dig (payOf l k) = told l k
            · have hq : (T1.toList == T2.toList) = true := by rw [hT1, hT2, hdg, beq_self_eq_true]
              have HSc := Lib.hid (scan_rec l k tn e (by rw [HB.out.1]; omega) HR.out (by rw [← HM.out]; exact he) (by rw [HB.out.1]; exact hen) hdg)
              clear he hdg hT1 hT2 hBt
              obtain ⟨t1, t2⟩ := t12.out
              clear t12
              go_quiet (fail)
              clear W12 W44 t1 t2 c1 c2 c3 HD4
              have HSo5 := Lib.hid (HSo4.out.below (codec.below_draws (Below.refl _ _) nq))
              generalize w3.drewN nq = w4 at *
              obtain ⟨xs, r1, r2, r3, r4⟩ := HSo5.out
              have R1 := Lib.hid r1
              have R2 := Lib.hid r2
              have R3 := Lib.hid r3
              have R4 := Lib.hid r4
              have HPb := Lib.hid (HPB.out w4 r2)
              clear r1 r2 r3 r4 HSo4 HSo5 hq
              go_wp2_with (first
                | (at_builtin; refine codec.wpList_append_bytes rfl (.tmp 59) (.tmp 60) rfl w4.heap.size _ [] rfl (World.ownsRow_made w4 #[] 0 (Nat.le_refl _) (Nat.zero_le _) rfl) (by simp) (some ⟨b, o + (k + 44), none⟩) m cp (payOf l k) rfl (HPb.out.alloc _) (fun e => by cases e) (by simp; omega) ?_; intro v5 w5 ho hg hnn _; have HX5 := Lib.hid (copy_rec R1.out R2.out HPb.out ho hg hnn); clear ho hg hnn; obtain ⟨g5, cap5, rfl, hX5⟩ := HX5.out; have HX6 := Lib.hid hX5; clear hX5 HX5)
                | (at_builtin; refine wpList_append_rec rfl (.tmp 56) (.tmp 63) 97 104 rfl Tryz.underlying97 infoD W.heap.size u4 xs rfl HX6.out.1 HX6.out.2.2.1 (by have := R3.out; omega) ⟨⟨k, kd, payOf l k⟩, some ⟨g5, 0, none⟩, m, cap5⟩ (0, 0) w5.heap.size rfl rfl HX6.out.2.1 HX6.out.2.2.2.1 ?_; intro v6 w6 hR6 hb6; have HSo7 := Lib.hid (show Sofar W 104 l v6 e e w6 from sofar_rec hR6 (HX6.out.2.2.2.2.trans hb6) R3.out hke R4.out HSc.out HKd.out); clear hR6 hb6))
              go_roundw
              case rel => first | exact ⟨e, e, hen, by rw [← ee.out], by rw [← ee.out], HSo7.out⟩ | ((repeat apply Exists.intro); exact ⟨⟨e, e, hen, by rw [← ee.out], by rw [← ee.out], HSo7.out⟩, rfl⟩)
              case measure => (show n - ((k : Int) + 44 + (m : Int)).toNat < n - k; have := HE.out; omega)
            · have hq : (T1.toList == T2.toList) = false := by
                have h2 : (told l k).length = 32 := hBt.1
                have := str_ne (T := T1) (S := T2) (fun e => hdg (codec.strOf_inj (dig_lt _) hBt.2.1 (by rw [← hT1, ← hT2]; exact e)))
                rw [ByteArray.toList_eq T2]
                exact this
              have HSc := Lib.hid (scan_bad l k tn e (by rw [HB.out.1]; omega) HR.out (by rw [← HM.out]; exact he) (by rw [HB.out.1]; exact hen) hdg)
              clear he hdg hT1 hT2 hBt
              obtain ⟨t1, t2⟩ := t12.out
              clear t12
              go_quiet (fail)
              clear W12 W44 t1 t2 c1 c2 c3 HD4
              have HSo5 := Lib.hid ((HSo4.out.below (codec.below_draws (Below.refl _ _) nq)).on (k' := e) (t' := e) (by omega) HSc.out)
              generalize w3.drewN nq = w4 at *
              clear HSo4 hq
              go_wp2_with fail
              go_roundw
              case rel => first | exact ⟨e, e, hen, by rw [← ee.out], by rw [← ee.out], HSo5.out⟩ | ((repeat apply Exists.intro); exact ⟨⟨e, e, hen, by rw [← ee.out], by rw [← ee.out], HSo5.out⟩, rfl⟩)
              case measure => (show n - ((k : Int) + 44 + (m : Int)).toNat < n - k; have := HE.out; omega)
      · rw [Bool.not_eq_true] at hr
        rw [hr] at HNH
        have HSo2 := Lib.hid (HSo.out.on (k' := k + 1) (t' := tn) (by omega) (scan_skip l k tn (by rw [HB.out.1]; omega) hr))
        clear hr
        go_wp2_with (go_at_call 60; refine HNH.out.mono ?_; rintro e w1 ⟨rfl, hb⟩; have HSo3 := Lib.hid (HSo2.out.below hb); clear hb)
        go_roundw
        case rel => first | exact ⟨k + 1, tn, by omega, by go_num, rfl, HSo3.out⟩ | ((repeat apply Exists.intro); exact ⟨⟨k + 1, tn, by omega, by go_num, rfl, HSo3.out⟩, rfl⟩)
        case measure => (show n - ((k : Int) + 1).toNat < n - k; omega)
    · obtain rfl : k = n := by omega
      have HF := Lib.hid (HSo.out.found (scan_end l k tn (by rw [HB.out.1]; omega)))
      go_wp2
      go_ret2
      exact ⟨_, tn, rfl, HF.out⟩
end Go.Proofs.YtklmbiekpilkhaaGreatDoor.frm
namespace Go.Proofs.YtklmbiekpilkhaaGreatDoor.frm
open Go.ChangeShapes Go.WideShapes Go.ChangeAt Go.RowKit
open Go.Proofs.YtklmbiekpilkhaaGreatDoor.codec (Bytes vals vals_append vals_length vals_one OutIs More Made New bytesOf byteAt bytesOf_length bytesOf_lt Fits strOf)
set_option linter.unusedVariables false
set_option maxRecDepth 100000
set_option linter.unusedSimpArgs false

/-- A slice that reads as records. -/
def Reads (w : World) (A : Option Addr) (n : Nat) (xs : List X) : Prop := xs.length = n ∧ ∀ k, k < n → ∃ b o x, A = some ⟨b, o, none⟩ ∧ xs[k]? = some x ∧ w.cell? ⟨b, o + k * 3, none⟩ = some (.int .i64 (x.r.at_ : Nat)) ∧ w.cell? ⟨b, o + k * 3 + 1, none⟩ = some (.int .i64 (x.r.kind : Nat)) ∧ w.cell? ⟨b, o + k * 3 + 2, none⟩ = some (.slice x.A x.n x.c) ∧ Bytes w x.A x.n x.r.pay
theorem Reads.take {w : World} {A : Option Addr} {n : Nat} {xs : List X} (h : Reads w A n xs) (m : Nat) (hm : m ≤ n) : Reads w A m (xs.take m) := by
  refine ⟨by rw [List.length_take, h.1]; omega, fun k hk => ?_⟩
  obtain ⟨b, o, x, h1, h2, h3⟩ := h.2 k (by omega)
  exact ⟨b, o, x, h1, by rw [List.getElem?_take, if_pos hk]; exact h2, h3⟩
theorem Reads.drewN {w : World} {A : Option Addr} {n : Nat} {xs : List X} (h : Reads w A n xs) (q : Nat) : Reads (w.drewN q) A n xs :=
  ⟨h.1, fun k hk => by
    obtain ⟨b, o, x, h1, h2, h3, h4, h5, h6⟩ := h.2 k hk
    exact ⟨b, o, x, h1, h2, h3, h4, h5, h6.drewN q⟩⟩
theorem cellsX_at : ∀ (xs : List X) (k : Nat) (x : X), xs[k]? = some x → (cellsX xs)[k * 3]? = some (.int .i64 (x.r.at_ : Nat)) ∧ (cellsX xs)[k * 3 + 1]? = some (.int .i64 (x.r.kind : Nat)) ∧ (cellsX xs)[k * 3 + 2]? = some (.slice x.A x.n x.c)
  | [], k, x, h => by simp at h
  | y :: ys, 0, x, h => by
    simp at h
    subst h
    exact ⟨rfl, rfl, rfl⟩
  | y :: ys, k + 1, x, h => by
    have := cellsX_at ys k x (by simpa using h)
    have e : ∀ j, (cellsX (y :: ys))[(k + 1) * 3 + j]? = (cellsX ys)[k * 3 + j]? := fun j => by
      rw [show (k + 1) * 3 + j = k * 3 + j + 3 by omega]
      rfl
    exact ⟨by rw [← this.1]; exact e 0, by rw [← this.2.1]; exact e 1, by rw [← this.2.2]; exact e 2⟩
theorem Recs.reads {B : Nat} {E : TypeId} {w : World} {v : Value} {xs : List X} (h : Recs B E w v xs) : ∃ A c, v = .slice A xs.length c ∧ xs.length ≤ c ∧ Reads w A xs.length xs := by
  rcases h.1.2 with ⟨e, h0⟩ | ⟨g, cap, cur, e, hB, hg, hc, _⟩
  · exact ⟨none, 0, by rw [h0]; exact e, by omega, rfl, fun k hk => by omega⟩
  · refine ⟨_, cap, e, hc, rfl, fun k hk => ?_⟩
    have hx : xs[k]? = some xs[k] := List.getElem?_eq_getElem hk
    obtain ⟨c0, c1, c2⟩ := cellsX_at xs k _ hx
    have key : ∀ j u, (cellsX xs)[j]? = some u → w.cell? ⟨g, 0 + j, none⟩ = some u := fun j u hu => by
      have := h.1.cells (g := g) (by rw [e]; rfl) j u hu
      rw [codec.add_none] at this
      exact this
    exact ⟨g, 0, xs[k], rfl, hx, key _ _ c0, by rw [Nat.add_assoc]; exact key _ _ c1, by rw [Nat.add_assoc]; exact key _ _ c2, (h.2 _ (List.getElem_mem hk)).1⟩
theorem scanF_length (l : List Nat) : ∀ f i t, i + (scanF l f i t).1.length ≤ max i l.length := by
  intro f
  induction f with
  | zero => intro i t; rw [scanF]; simp; omega
  | succ f ih =>
    intro i t
    rw [scanF]
    by_cases hi : i < l.length
    · rw [if_pos hi]
      by_cases hr : rightB (l.drop i) = true
      · rw [if_pos hr]
        by_cases ht : l.length < i + 44 + numOf4 (l.drop i)
        · rw [if_pos ht]
          simp
          omega
        · rw [if_neg ht]
          have := ih (i + 44 + numOf4 (l.drop i)) (i + 44 + numOf4 (l.drop i))
          simp only []
          split
          · simp only [List.length_cons]
            omega
          · omega
      · rw [if_neg hr]
        have := ih (i + 1) t
        omega
    · rw [if_neg hi]
      simp
      omega
theorem scan_length (l : List Nat) : (scan l 0 0).1.length ≤ l.length := by
  have := scanF_length l (l.length - 0) 0 0
  unfold scan
  omega
end Go.Proofs.YtklmbiekpilkhaaGreatDoor.frm
namespace Go.Proofs.YtklmbiekpilkhaaGreatDoor.frm
open Go.Proofs.YtklmbiekpilkhaaGreatDoor.codec (bytesOf byteAt bytesOf_length bytesOf_lt)
set_option linter.unusedVariables false
set_option maxRecDepth 100000
set_option linter.unusedSimpArgs false

theorem drop_app (a b : List Nat) (n : Nat) (h : a.length = n) : (a ++ b).drop n = b := by
  subst h
  simp
theorem take_app (a b : List Nat) (n : Nat) (h : a.length = n) : (a ++ b).take n = a := by
  subst h
  simp
theorem right_frame (k : Nat) (p rest : List Nat) (h1 : 1 ≤ k) (h3 : k ≤ 3) (hp : p.length ≤ 30000) : rightB (frameL k p ++ rest) = true ∧ numOf4 (frameL k p ++ rest) = p.length ∧ (frameL k p ++ rest).getD 3 0 = k := by
  have e : frameL k p ++ rest = first k p.length ++ (bytesOf (crcOf (first k p.length)) 4 ++ (dig p ++ (p ++ rest))) := by
    simp [frameL, headL, List.append_assoc]
  have e2 : first k p.length = [99, 117, 98, k] ++ bytesOf p.length 4 := rfl
  have hn : numOf4 (frameL k p ++ rest) = p.length := by
    unfold numOf4
    rw [e, e2, List.append_assoc, drop_app _ _ 4 rfl, take_app _ _ 4 (by simp [bytesOf])]
    exact codec.numOf_bytes _ 4 (by omega)
  have hk : (frameL k p ++ rest).getD 3 0 = k := by
    rw [e, e2]
    rfl
  refine ⟨?_, hn, hk⟩
  unfold rightB
  rw [decide_eq_true_eq]
  refine ⟨by simp [frameL_length]; omega, ?_, by rw [hk]; exact h1, by rw [hk]; exact h3, ?_, ?_⟩
  · rw [e, e2]
    rfl
  · unfold numOf4 at hn
    rw [hn]
    exact hp
  · rw [e, drop_app _ _ 8 (first_length _ _), take_app _ _ 4 (by simp [bytesOf]), take_app _ _ 8 (first_length _ _)]
    exact codec.numOf_bytes _ 4 (by
      have := crcOf_lt (l := first k p.length) (first_lt (by omega))
      omega)
theorem scan_frame (pre : List Nat) (k : Nat) (p rest : List Nat) (t e : Nat) (l : List Nat) (hl : l = pre ++ (frameL k p ++ rest)) (he : e = pre.length + (44 + p.length)) (h1 : 1 ≤ k) (h3 : k ≤ 3) (hp : p.length ≤ 30000) :
    scan l pre.length t = (⟨pre.length, k, p⟩ :: (scan l e e).1, (scan l e e).2) := by
  obtain ⟨hr, hn, hk⟩ := right_frame k p rest h1 h3 hp
  have hd : l.drop pre.length = frameL k p ++ rest := by rw [hl]; exact drop_app _ _ _ rfl
  have hlen : l.length = pre.length + (44 + p.length) + rest.length := by
    rw [hl]
    simp [frameL_length]
    omega
  have hpay : payOf l pre.length = p := by
    unfold payOf
    rw [hd, hn, ← List.drop_drop, hd, show frameL k p ++ rest = headL k p ++ (p ++ rest) by simp [frameL], drop_app _ _ 44 (headL_length _ _)]
    exact take_app _ _ _ rfl
  have htold : told l pre.length = dig p := by
    unfold told
    rw [hd, show frameL k p ++ rest = (first k p.length ++ bytesOf (crcOf (first k p.length)) 4) ++ (dig p ++ (p ++ rest)) by simp [frameL, headL, List.append_assoc]]
    rw [drop_app _ _ 12 (by simp [first_length, bytesOf])]
    exact take_app _ _ 32 (dig_length _)
  have := scan_rec l pre.length t e (by omega) (by rw [hd]; exact hr) (by rw [hd, hn, he]; omega) (by omega) (by rw [hpay, htold])
  rw [this]
  unfold recOf
  rw [hd, hk, hpay]
theorem scan_heals (ahead : List Nat) (k : Nat) (p : List Nat) (h1 : 1 ≤ k) (h3 : k ≤ 3) (hp : p.length ≤ 30000) (ha : ∀ x ∈ ahead, x ≠ 99) : scan (ahead ++ frameL k p) 0 0 = ([⟨ahead.length, k, p⟩], (ahead ++ frameL k p).length) := by
  have skip : ∀ i, i ≤ ahead.length → scan (ahead ++ frameL k p) 0 0 = scan (ahead ++ frameL k p) i 0 := by
    intro i
    induction i with
    | zero => intro _; rfl
    | succ i ih =>
      intro hi
      rw [ih (by omega)]
      refine scan_skip _ i 0 (by simp; omega) ?_
      unfold rightB
      rw [decide_eq_false_iff_not]
      intro h
      have h2 := h.2.1
      have h4 := congrArg (fun l => l.getD 0 0) h2
      have e : ((List.drop i (ahead ++ frameL k p)).take 3).getD 0 0 = ahead.getD i 0 := by
        have hi' : i < ahead.length := by omega
        simp [List.getD, hi', List.getElem?_append]
      simp only [e] at h4
      have hi' : i < ahead.length := by omega
      have h5 : ahead.getD i 0 = ahead[i] := by simp [List.getD, hi']
      exact ha _ (List.getElem_mem hi') (by rw [← h5, h4]; rfl)
  rw [skip ahead.length (Nat.le_refl _), scan_frame ahead k p [] 0 (ahead.length + (44 + p.length)) _ (by simp) rfl h1 h3 hp, scan_end _ _ _ (by simp [frameL_length])]
  simp [frameL_length]

/-- Frames one behind the other. -/
def allF (fs : List (Nat × List Nat)) : List Nat := fs.flatMap fun f => frameL f.1 f.2
def recsF : Nat → List (Nat × List Nat) → List R
  | _, [] => []
  | i, f :: fs => ⟨i, f.1, f.2⟩ :: recsF (i + (44 + f.2.length)) fs
def GoodF (fs : List (Nat × List Nat)) : Prop := ∀ f ∈ fs, 1 ≤ f.1 ∧ f.1 ≤ 3 ∧ f.2.length ≤ 30000 ∧ ∀ x ∈ f.2, x < 256
theorem allF_snoc (fs : List (Nat × List Nat)) (f : Nat × List Nat) : allF (fs ++ [f]) = allF fs ++ frameL f.1 f.2 := by simp [allF]
theorem recsF_snoc (fs : List (Nat × List Nat)) (f : Nat × List Nat) : ∀ i, recsF i (fs ++ [f]) = recsF i fs ++ [⟨i + (allF fs).length, f.1, f.2⟩] := by
  induction fs with
  | nil => intro i; simp [recsF, allF]
  | cons g fs ih =>
    intro i
    rw [List.cons_append, recsF, ih, recsF]
    simp [allF, frameL_length]
    omega
theorem scan_frames (fs : List (Nat × List Nat)) : ∀ (pre rest l : List Nat) (e : Nat), GoodF fs → l = pre ++ (allF fs ++ rest) → e = pre.length + (allF fs).length → scan l pre.length pre.length = (recsF pre.length fs ++ (scan l e e).1, (scan l e e).2) := by
  induction fs with
  | nil =>
    intro pre rest l e _ _ he
    have : e = pre.length := by simpa [allF] using he
    subst this
    simp [recsF]
  | cons f fs ih =>
    intro pre rest l e hg hl he
    have hf := hg f (by simp)
    have h1 := scan_frame pre f.1 f.2 (allF fs ++ rest) pre.length (pre.length + (44 + f.2.length)) l (by rw [hl]; simp [allF]) rfl hf.1 hf.2.1 (by omega)
    have hpl : (pre ++ frameL f.1 f.2).length = pre.length + (44 + f.2.length) := by simp [frameL_length]
    have h2 := ih (pre ++ frameL f.1 f.2) rest l e (fun g hg' => hg g (by simp [hg'])) (by rw [hl]; simp [allF]) (by rw [he, hpl]; simp [allF, frameL_length]; omega)
    rw [hpl] at h2
    rw [h1, h2, recsF]
    simp
/-- What isn't all there isn't there. -/
theorem scan_part (pre : List Nat) (k : Nat) (p : List Nat) (j : Nat) (l : List Nat) (h1 : 1 ≤ k) (h3 : k ≤ 3) (hp : p.length ≤ 30000) (hj : j < 44 + p.length) (hl : l = pre ++ (frameL k p).take j) : scan l pre.length pre.length = ([], pre.length) := by
  have hlen : l.length = pre.length + j := by
    rw [hl]
    simp [frameL_length]
    omega
  by_cases h44 : j < 44
  · refine nx_none l pre.length (l.length - pre.length) pre.length (by omega) ?_
    have : ∀ f i, nx l f i = none ∨ ∃ q, rightB (l.drop q) = true ∧ i ≤ q := by
      intro f
      induction f with
      | zero => intro i; exact .inl rfl
      | succ f ih =>
        intro i
        rw [nx]
        by_cases hr : rightB (l.drop i) = true
        · exact .inr ⟨i, hr, Nat.le_refl _⟩
        · rw [if_neg hr]
          rcases ih (i + 1) with h | ⟨q, h, hq⟩
          · exact .inl h
          · exact .inr ⟨q, h, by omega⟩
    rcases this (l.length - pre.length) pre.length with h | ⟨q, h, hq⟩
    · exact h
    · have := right_long h
      omega
  · have hd : l.drop pre.length = (frameL k p).take j := by rw [hl]; exact drop_app _ _ _ rfl
    have hs : (frameL k p).take j = headL k p ++ p.take (j - 44) := by
      unfold frameL
      rw [List.take_append, headL_length, List.take_of_length_le (by rw [headL_length]; omega)]
    obtain ⟨hr, hn, hk⟩ := right_frame k p [] h1 h3 hp
    have cong : ∀ a b : List Nat, a.length = 44 → rightB (a ++ b) = rightB a ∧ numOf4 (a ++ b) = numOf4 a := by
      intro a b ha
      have t : ∀ n m, n + m ≤ 44 → ((a ++ b).drop n).take m = (a.drop n).take m := fun n m h => by
        rw [List.drop_append, List.take_append]
        have : m - (List.drop n a).length = 0 := by simp; omega
        rw [this]
        simp
      have t0 : ∀ m, m ≤ 44 → (a ++ b).take m = a.take m := fun m h => by
        have := t 0 m (by omega)
        simpa using this
      have g : (a ++ b).getD 3 0 = a.getD 3 0 := by
        simp [List.getD, List.getElem?_append, show 3 < a.length by omega]
      refine ⟨?_, ?_⟩
      · unfold rightB
        rw [t0 3 (by omega), t 4 4 (by omega), t 8 4 (by omega), t0 8 (by omega), g]
        rw [Bool.eq_iff_iff, decide_eq_true_eq, decide_eq_true_eq]
        simp only [List.length_append, ha]
        constructor
        · rintro ⟨_, h⟩; exact ⟨by omega, h⟩
        · rintro ⟨_, h⟩; exact ⟨by omega, h⟩
      · unfold numOf4
        rw [t 4 4 (by omega)]
    have hfull : frameL k p ++ [] = headL k p ++ p := by simp [frameL]
    rw [hfull] at hr hn
    have c1 := cong (headL k p) p (headL_length _ _)
    have c2 := cong (headL k p) (p.take (j - 44)) (headL_length _ _)
    refine scan_torn l pre.length pre.length (by omega) ?_ ?_
    · rw [hd, hs, c2.1, ← c1.1]
      exact hr
    · rw [hd, hs, c2.2, ← c1.2, hn]
      omega
end Go.Proofs.YtklmbiekpilkhaaGreatDoor.frm
