/- When a mailbox is right, as the document says. -/
import Derived.Test.YtepngemlaiffgaaDoorMm1
namespace Go.Proofs.YtepngemlaiffgaaDoor.mal
open Go.ChangeShapes Go.WideShapes Go.ChangeAt Go.RowKit
open Go.Proofs.YtepngemlaiffgaaDoor.codec (Bytes)
open Go.Proofs.YtepngemlaiffgaaDoor.bod (cell_at Fit formedB fitsB boxed named)
open Go.Proofs.YtepngemlaiffgaaDoor.lg (Nt Y Rd cM nts nts_at nts_len take_next)
set_option linter.unusedVariables false
set_option maxRecDepth 100000
set_option linter.unusedSimpArgs false

/-- What has been seen is right. -/
def okTo (X : Nat) (l : List Nt) (k : Nat) : Prop := (rise X (l.take k)).2 = true ∧ ∀ n ∈ l.take k, fit1 n = true
theorem okTo.last {X : Nat} {l : List Nt} {j : Nat} {t : Nt} (h : l[j]? = some t) : (rise X (l.take (j + 1))).1 = t.u := by rw [take_next h, rise_snoc]; rfl
theorem okTo.next {X : Nat} {l : List Nt} {k : Nat} {t : Nt} (h : okTo X l k) (ht : l[k]? = some t) (h1 : t.u < X) (h2 : fit1 t = true) (h3 : k = 0 ∨ ∃ j s, k = j + 1 ∧ l[j]? = some s ∧ s.u < t.u) : okTo X l (k + 1) := by
  refine ⟨?_, fun n hn => ?_⟩
  · rw [take_next ht, rise_snoc]
    show ((rise X (l.take k)).2 && decide _) = true
    rw [h.1, Bool.true_and, decide_eq_true_iff]
    refine ⟨?_, h1⟩
    rcases h3 with rfl | ⟨j, s, rfl, hs, hlt⟩
    · have : t.u ≠ 0 := by
        unfold fit1 at h2
        rw [Bool.and_eq_true] at h2
        exact of_decide_eq_true h2.1
      show 0 < t.u
      omega
    · rw [okTo.last hs]
      exact hlt
  · rw [take_next ht] at hn
    rcases List.mem_append.1 hn with hn | hn
    · exact h.2 n hn
    · simp at hn
      subst hn
      exact h2
theorem okTo.all {X : Nat} {l : List Nt} {k : Nat} (h : okTo X l k) (hk : l.length ≤ k) : ((rise X l).2 && l.all fit1) = true := by
  unfold okTo at h
  rw [List.take_of_length_le hk] at h
  rw [h.1, List.all_eq_true.2 h.2]
  rfl
theorem not_fit {X : Nat} {l : List Nt} {k : Nat} {t : Nt} (ht : l[k]? = some t) (h : fit1 t = false) : ((rise X l).2 && l.all fit1) = false := by
  have : l.all fit1 = false := by
    rw [List.all_eq_false]
    exact ⟨t, List.mem_of_getElem? ht, by simp [h]⟩
  rw [this, Bool.and_false]
theorem not_rise {X : Nat} {l : List Nt} {k : Nat} {t : Nt} (ht : l[k]? = some t) (h : X ≤ t.u ∨ ∃ j s, k = j + 1 ∧ l[j]? = some s ∧ t.u ≤ s.u) : ((rise X l).2 && l.all fit1) = false := by
  have : (rise X l).2 = false := by
    refine rise_stop (i := k + 1) ?_
    rw [take_next ht, rise_snoc]
    show ((rise X (l.take k)).2 && decide _) = false
    rcases h with h | ⟨j, s, rfl, hs, hle⟩
    · rw [decide_eq_false (by omega), Bool.and_false]
    · rw [okTo.last hs, decide_eq_false (by omega), Bool.and_false]
  rw [this, Bool.false_and]
theorem fit_false {t : Nt} (h : fitsB t.d t.f t.o.length = false) : fit1 t = false := by unfold fit1; rw [h, Bool.and_false]
theorem fit_zero {t : Nt} (h : t.u = 0) : fit1 t = false := by unfold fit1; rw [decide_eq_false (by omega)]; rfl
theorem fit_true {t : Nt} (h : fitsB t.d t.f t.o.length = true) (h0 : t.u ≠ 0) : fit1 t = true := by unfold fit1; rw [h, decide_eq_true h0]; rfl
set_option maxHeartbeats 8000000 in
theorem rRight_loop (W : World) (S : ByteArray) (E X : Nat) (A : Option Addr) (n c : Nat) (qs : List Y) (hR : Rd cM 4 W A n qs) (hs : S.size ≤ 100000) (hb : named S = true) (hE : E ≠ 0) (hX0 : X ≠ 0) (hn : n ≤ 500) :
    Calls Tryd.prog 13 #[.agg #[.string S, .int .u32 E, .int .u32 X, .slice A n c]] W fun e w' => e = .returned (.bool ((rise X (nts qs)).2 && (nts qs).all fit1)) ∧ Below W.heap.size W w' := by
  obtain ⟨W1, hW1⟩ : ∃ W1, W1 = W.alloc (.cells #[.string S, .int .u32 E, .int .u32 X, .slice A n c] 25) := ⟨_, rfl⟩
  have HBW := Lib.hid (show Below W.heap.size W W1 by rw [hW1]; exact (Below.refl _ _).alloc (Nat.le_refl _) _)
  have hX1 : W1.heap[W.heap.size]? = some (.cells #[.string S, .int .u32 E, .int .u32 X, .slice A n c] 25 (0, 0)) := by rw [hW1]; exact heap_alloc_new _ _
  have HX := Lib.hid (fun (w' : World) (h : Below W1.heap.size W1 w') => show w'.heap[W.heap.size]? = some (.cells #[.string S, .int .u32 E, .int .u32 X, .slice A n c] 25 (0, 0)) by rw [h.block _ (by rw [hW1]; simp)]; exact hX1)
  have HR := Lib.hid (hR.below HBW.out)
  have HL := Lib.hid (show (nts qs).length = n by rw [nts_len, hR.1])
  have HN := Lib.hid (bod.rNamed_any W1 S hs)
  have qE : ((E : Int) == 0) = false := by rw [beq_eq_false_iff_ne]; omega
  have qX : ((X : Int) == 0) = false := by rw [beq_eq_false_iff_ne]; omega
  have qn : decide ((500 : Int) < (n : Int)) = false := by rw [decide_eq_false_iff_not]; omega
  rw [hb] at HN
  have c0 := cell_at hX1 0 _ rfl
  have HW1 := Lib.hid hW1
  have HN5 := Lib.hid hn
  rw [hW1] at c0
  clear hW1 hX1 hR hs hb hE hX0 hn
  go_enter Tryd.func13, Tryd.ntmps13
  go_wp2_with fail
  rw [← HW1.out]
  refine HN.out.mono ?_
  rintro e w1 ⟨rfl, hb1⟩
  have HB1 := Lib.hid hb1
  clear c0
  have c1 := cell_at (HX.out _ hb1) 1 _ rfl
  have c2 := cell_at (HX.out _ hb1) 2 _ rfl
  have c3 := cell_at (HX.out _ hb1) 3 _ rfl
  clear hb1
  go_wp2_with fail
  clear qE qX qn c1 c2 c3
  go_loopw [28] (fun i wr => ∃ k : Nat, k ≤ n ∧ i = .int .i64 k ∧ Hid (okTo X (nts qs) k) ∧ Hid (Below W1.heap.size W1 wr)) (fun i _ => n - (intOf i).toNat)
  case atStart => exact ⟨0, Nat.zero_le _, rfl, Lib.hid ⟨rfl, by simp⟩, HB1⟩
  case round =>
    obtain ⟨k, hk, rfl, HO, HB⟩ := hrel
    by_cases hlt : k < n
    · obtain ⟨b, o, ⟨⟨tk, te, ts, tu, td, tf, to_⟩, a, A', m', c'⟩, rfl, hx, d0, d1, d2, d3, hoc⟩ := (HR.out.below HB.out).at4 k hlt
      simp only [] at d0 d1 d2 d3
      have hlt' : (k : Int) < (n : Int) := by omega
      obtain ⟨wr1, hwr1⟩ : ∃ wr1, wr1 = wr.alloc (.cells #[.int .u32 (tu : Nat), .int .i64 td, .int .i64 tf, .slice A' m' c'] 30) := ⟨_, rfl⟩
      have HWB := Lib.hid (show Below wr.heap.size wr wr1 by rw [hwr1]; exact (Below.refl _ _).alloc (Nat.le_refl _) _)
      have HA := Lib.hid (HB.out.trans (HWB.out.mono HB.out.size))
      have HCM := Lib.hid (fun (w' : World) (h : Below wr1.heap.size wr1 w') => show w'.heap[wr.heap.size]? = some (.cells #[.int .u32 (tu : Nat), .int .i64 td, .int .i64 tf, .slice A' m' c'] 30 (0, 0)) by rw [h.block _ (by rw [hwr1]; simp), hwr1]; exact heap_alloc_new _ _)
      have HST := Lib.hid (show Below wr1.heap.size wr1 wr1.drew from codec.below_draws (Below.refl _ _) 1)
      have HWR := Lib.hid hwr1
      have hol : to_.length = m' := hoc.1.1
      have HXN := Lib.hid (nts_at hx)
      have HPV0 := Lib.hid (fun (j : Nat) (hj : k = j + 1) => (HR.out.below HA.out).at4 j (by omega))
      have c3 := cell_at (HX.out _ HB.out) 3 _ rfl
      clear hwr1 hx hoc
      by_cases h0 : tu = 0
      · have HNO := Lib.hid (not_fit (X := X) HXN.out (fit_zero h0))
        have q0 : ((tu : Int) == 0) = true := by rw [beq_iff_eq]; omega
        clear HXN HPV0 h0
        go_wp2_with fail
        rw [← HWR.out]
        refine wp_region_noPanic ?_
        refine wp_region_held_drew (S := fun w' => Below wr1.heap.size wr1 w') (by kernel_rfl) HST.out (fun hHeld => ?_)
        refine wpAnyH_take (i := 0) (v := ?_) rfl (by kernel_rfl) (by kernel_rfl) (by kernel_rfl) (fun _ _ _ h => h) (Or.inl ⟨by kernel_rfl, ?_⟩) hHeld ?_
        rotate_left
        · (intro w' hw'; go_simp; first | done | with_reducible rfl)
        refine wpAnyH_take (i := 1) (v := ?_) rfl (by kernel_rfl) (by kernel_rfl) (by kernel_rfl) (fun _ _ _ h => h) (Or.inl ⟨by kernel_rfl, ?_⟩) hHeld ?_
        rotate_left
        · (intro w' hw'; have mh := HCM.out _ hw'; have m0 := cell_at mh 0 _ rfl; have m1 := cell_at mh 1 _ rfl; have m2 := cell_at mh 2 _ rfl; have m3 := cell_at mh 3 _ rfl; go_simp; first | done | with_reducible rfl)
        refine wpAnyH_take (i := 2) (v := ?_) rfl (by kernel_rfl) (by kernel_rfl) (by kernel_rfl) (fun _ _ _ h => h) (Or.inl ⟨by kernel_rfl, ?_⟩) hHeld ?_
        rotate_left
        · (intro w' hw'; go_simp; first | done | with_reducible rfl)
        refine wpAnyH_take (i := 3) (v := ?_) rfl (by kernel_rfl) (by kernel_rfl) (by kernel_rfl) (fun _ _ _ h => h) (Or.inl ⟨by kernel_rfl, ?_⟩) hHeld ?_
        rotate_left
        · (intro w' hw'; go_simp; first | done | with_reducible rfl)
        refine wpAnyH_take (i := 4) (v := undef) rfl (by kernel_rfl) (by kernel_rfl) (by kernel_rfl) (fun _ _ _ h => h) (Or.inr ⟨by kernel_rfl, rfl⟩) hHeld ?_
        refine wpAnyH_take (i := 5) (v := undef) rfl (by kernel_rfl) (by kernel_rfl) (by kernel_rfl) (fun _ _ _ h => h) (Or.inr ⟨by kernel_rfl, rfl⟩) hHeld ?_
        refine wpAnyH_take (i := 6) (v := undef) rfl (by kernel_rfl) (by kernel_rfl) (by kernel_rfl) (fun _ _ _ h => h) (Or.inr ⟨by kernel_rfl, rfl⟩) hHeld ?_
        refine wpAnyH_take (i := 7) (v := undef) rfl (by kernel_rfl) (by kernel_rfl) (by kernel_rfl) (fun _ _ _ h => h) (Or.inr ⟨by kernel_rfl, rfl⟩) hHeld ?_
        refine wpAnyH_take (i := 8) (v := undef) rfl (by kernel_rfl) (by kernel_rfl) (by kernel_rfl) (fun _ _ _ h => h) (Or.inr ⟨by kernel_rfl, rfl⟩) hHeld ?_
        refine wpAnyH_take (i := 9) (v := ?_) rfl (by kernel_rfl) (by kernel_rfl) (by kernel_rfl) (fun _ _ _ h => h) (Or.inl ⟨by kernel_rfl, ?_⟩) hHeld ?_
        rotate_left
        · (intro w' hw'; go_simp; first | done | with_reducible rfl)
        refine wpAnyH_take (i := 10) (v := ?_) rfl (by kernel_rfl) (by kernel_rfl) (by kernel_rfl) (fun _ _ _ h => h) (Or.inl ⟨by kernel_rfl, ?_⟩) hHeld ?_
        rotate_left
        · (intro w' hw'; go_simp; first | done | with_reducible rfl)
        refine wpAnyH_take (i := 11) (v := undef) rfl (by kernel_rfl) (by kernel_rfl) (by kernel_rfl) (fun _ _ _ h => h) (Or.inr ⟨by kernel_rfl, rfl⟩) hHeld ?_
        refine wpAnyH_take (i := 12) (v := undef) rfl (by kernel_rfl) (by kernel_rfl) (by kernel_rfl) (fun _ _ _ h => h) (Or.inr ⟨by kernel_rfl, rfl⟩) hHeld ?_
        refine wpAnyH_take (i := 13) (v := undef) rfl (by kernel_rfl) (by kernel_rfl) (by kernel_rfl) (fun _ _ _ h => h) (Or.inr ⟨by kernel_rfl, rfl⟩) hHeld ?_
        refine wpAnyH_take (i := 14) (v := ?_) rfl (by kernel_rfl) (by kernel_rfl) (by kernel_rfl) (fun _ _ _ h => h) (Or.inl ⟨by kernel_rfl, ?_⟩) hHeld ?_
        rotate_left
        · (intro w' hw'; go_simp; first | done | with_reducible rfl)
        refine wpAnyH_take (i := 15) (v := ?_) rfl (by kernel_rfl) (by kernel_rfl) (by kernel_rfl) (fun _ _ _ h => h) (Or.inl ⟨by kernel_rfl, ?_⟩) hHeld ?_
        rotate_left
        · (intro w' hw'; go_simp; first | done | with_reducible rfl)
        refine wpAnyH_take (i := 16) (v := undef) rfl (by kernel_rfl) (by kernel_rfl) (by kernel_rfl) (fun _ _ _ h => h) (Or.inr ⟨by kernel_rfl, rfl⟩) hHeld ?_
        refine wpAnyH_take (i := 17) (v := undef) rfl (by kernel_rfl) (by kernel_rfl) (by kernel_rfl) (fun _ _ _ h => h) (Or.inr ⟨by kernel_rfl, rfl⟩) hHeld ?_
        refine wpAnyH_take (i := 18) (v := undef) rfl (by kernel_rfl) (by kernel_rfl) (by kernel_rfl) (fun _ _ _ h => h) (Or.inr ⟨by kernel_rfl, rfl⟩) hHeld ?_
        refine wpAnyH_take (i := 19) (v := undef) rfl (by kernel_rfl) (by kernel_rfl) (by kernel_rfl) (fun _ _ _ h => h) (Or.inr ⟨by kernel_rfl, rfl⟩) hHeld ?_
        refine wpAnyH_take (i := 20) (v := undef) rfl (by kernel_rfl) (by kernel_rfl) (by kernel_rfl) (fun _ _ _ h => h) (Or.inr ⟨by kernel_rfl, rfl⟩) hHeld ?_
        refine wpAnyH_take (i := 21) (v := undef) rfl (by kernel_rfl) (by kernel_rfl) (by kernel_rfl) (fun _ _ _ h => h) (Or.inr ⟨by kernel_rfl, rfl⟩) hHeld ?_
        refine wpAnyH_take (i := 22) (v := undef) rfl (by kernel_rfl) (by kernel_rfl) (by kernel_rfl) (fun _ _ _ h => h) (Or.inr ⟨by kernel_rfl, rfl⟩) hHeld ?_
        refine wpAnyH_take (i := 23) (v := undef) rfl (by kernel_rfl) (by kernel_rfl) (by kernel_rfl) (fun _ _ _ h => h) (Or.inr ⟨by kernel_rfl, rfl⟩) hHeld ?_
        refine wpAnyH_take (i := 24) (v := undef) rfl (by kernel_rfl) (by kernel_rfl) (by kernel_rfl) (fun _ _ _ h => h) (Or.inr ⟨by kernel_rfl, rfl⟩) hHeld ?_
        refine wpAnyH_take (i := 25) (v := undef) rfl (by kernel_rfl) (by kernel_rfl) (by kernel_rfl) (fun _ _ _ h => h) (Or.inr ⟨by kernel_rfl, rfl⟩) hHeld ?_
        refine wpAnyH_take (i := 26) (v := undef) rfl (by kernel_rfl) (by kernel_rfl) (by kernel_rfl) (fun _ _ _ h => h) (Or.inr ⟨by kernel_rfl, rfl⟩) hHeld ?_
        refine wpAnyH_take (i := 27) (v := undef) rfl (by kernel_rfl) (by kernel_rfl) (by kernel_rfl) (fun _ _ _ h => h) (Or.inr ⟨by kernel_rfl, rfl⟩) hHeld ?_
        refine wpAnyH_take (i := 28) (v := undef) rfl (by kernel_rfl) (by kernel_rfl) (by kernel_rfl) (fun _ _ _ h => h) (Or.inr ⟨by kernel_rfl, rfl⟩) hHeld ?_
        refine wpAnyH_take (i := 29) (v := undef) rfl (by kernel_rfl) (by kernel_rfl) (by kernel_rfl) (fun _ _ _ h => h) (Or.inr ⟨by kernel_rfl, rfl⟩) hHeld ?_
        refine wpAnyH_take (i := 30) (v := ?_) rfl (by kernel_rfl) (by kernel_rfl) (by kernel_rfl) (fun _ _ _ h => h) (Or.inl ⟨by kernel_rfl, ?_⟩) hHeld ?_
        rotate_left
        · (intro w' hw'; go_simp; first | done | with_reducible rfl)
        refine wpAnyH_done (by kernel_rfl) ?_ _
        refine NoPanic.normal ?_
        go_simp
        go_wp2_with fail
        go_ret
        exact ⟨by rw [HNO.out]; rfl, HBW.out.trans ((HA.out.trans (HST.out.mono HA.out.size)).mono HBW.out.size)⟩
      have q0 : ((tu : Int) == 0) = false := by rw [beq_eq_false_iff_ne]; omega
      by_cases h1 : X ≤ tu
      · have HNO := Lib.hid (not_rise (X := X) HXN.out (.inl h1))
        have q1 : decide (X ≤ tu) = true := decide_eq_true h1
        clear HXN h0 h1 HPV0
        go_wp2_with fail
        rw [← HWR.out]
        refine wp_region_noPanic ?_
        refine wp_region_held_drew (S := fun w' => Below wr1.heap.size wr1 w') (by kernel_rfl) HST.out (fun hHeld => ?_)
        refine wpAnyH_take (i := 0) (v := ?_) rfl (by kernel_rfl) (by kernel_rfl) (by kernel_rfl) (fun _ _ _ h => h) (Or.inl ⟨by kernel_rfl, ?_⟩) hHeld ?_
        rotate_left
        · (intro w' hw'; go_simp; first | done | with_reducible rfl)
        refine wpAnyH_take (i := 1) (v := ?_) rfl (by kernel_rfl) (by kernel_rfl) (by kernel_rfl) (fun _ _ _ h => h) (Or.inl ⟨by kernel_rfl, ?_⟩) hHeld ?_
        rotate_left
        · (intro w' hw'; have mh := HCM.out _ hw'; have m0 := cell_at mh 0 _ rfl; have m1 := cell_at mh 1 _ rfl; have m2 := cell_at mh 2 _ rfl; have m3 := cell_at mh 3 _ rfl; go_simp; first | done | with_reducible rfl)
        refine wpAnyH_take (i := 2) (v := ?_) rfl (by kernel_rfl) (by kernel_rfl) (by kernel_rfl) (fun _ _ _ h => h) (Or.inl ⟨by kernel_rfl, ?_⟩) hHeld ?_
        rotate_left
        · (intro w' hw'; go_simp; first | done | with_reducible rfl)
        refine wpAnyH_take (i := 3) (v := ?_) rfl (by kernel_rfl) (by kernel_rfl) (by kernel_rfl) (fun _ _ _ h => h) (Or.inl ⟨by kernel_rfl, ?_⟩) hHeld ?_
        rotate_left
        · (intro w' hw'; go_simp; first | done | with_reducible rfl)
        refine wpAnyH_take (i := 4) (v := ?_) rfl (by kernel_rfl) (by kernel_rfl) (by kernel_rfl) (fun _ _ _ h => h) (Or.inl ⟨by kernel_rfl, ?_⟩) hHeld ?_
        rotate_left
        · (intro w' hw'; go_simp; first | done | with_reducible rfl)
        refine wpAnyH_take (i := 5) (v := ?_) rfl (by kernel_rfl) (by kernel_rfl) (by kernel_rfl) (fun _ _ _ h => h) (Or.inl ⟨by kernel_rfl, ?_⟩) hHeld ?_
        rotate_left
        · (intro w' hw'; have mh := HCM.out _ hw'; have m0 := cell_at mh 0 _ rfl; have m1 := cell_at mh 1 _ rfl; have m2 := cell_at mh 2 _ rfl; have m3 := cell_at mh 3 _ rfl; go_simp; first | done | with_reducible rfl)
        refine wpAnyH_take (i := 6) (v := ?_) rfl (by kernel_rfl) (by kernel_rfl) (by kernel_rfl) (fun _ _ _ h => h) (Or.inl ⟨by kernel_rfl, ?_⟩) hHeld ?_
        rotate_left
        · (intro w' hw'; go_simp; first | done | with_reducible rfl)
        refine wpAnyH_take (i := 7) (v := ?_) rfl (by kernel_rfl) (by kernel_rfl) (by kernel_rfl) (fun _ _ _ h => h) (Or.inl ⟨by kernel_rfl, ?_⟩) hHeld ?_
        rotate_left
        · (intro w' hw'; have bh := HX.out _ (HA.out.trans (hw'.mono HA.out.size)); have b2 := cell_at bh 2 _ rfl; go_simp; first | done | with_reducible rfl)
        refine wpAnyH_take (i := 8) (v := ?_) rfl (by kernel_rfl) (by kernel_rfl) (by kernel_rfl) (fun _ _ _ h => h) (Or.inl ⟨by kernel_rfl, ?_⟩) hHeld ?_
        rotate_left
        · (intro w' hw'; go_simp; first | done | with_reducible rfl)
        refine wpAnyH_take (i := 9) (v := ?_) rfl (by kernel_rfl) (by kernel_rfl) (by kernel_rfl) (fun _ _ _ h => h) (Or.inl ⟨by kernel_rfl, ?_⟩) hHeld ?_
        rotate_left
        · (intro w' hw'; go_simp; first | done | with_reducible rfl)
        refine wpAnyH_take (i := 10) (v := ?_) rfl (by kernel_rfl) (by kernel_rfl) (by kernel_rfl) (fun _ _ _ h => h) (Or.inl ⟨by kernel_rfl, ?_⟩) hHeld ?_
        rotate_left
        · (intro w' hw'; go_simp; first | done | with_reducible rfl)
        refine wpAnyH_take (i := 11) (v := undef) rfl (by kernel_rfl) (by kernel_rfl) (by kernel_rfl) (fun _ _ _ h => h) (Or.inr ⟨by kernel_rfl, rfl⟩) hHeld ?_
        refine wpAnyH_take (i := 12) (v := undef) rfl (by kernel_rfl) (by kernel_rfl) (by kernel_rfl) (fun _ _ _ h => h) (Or.inr ⟨by kernel_rfl, rfl⟩) hHeld ?_
        refine wpAnyH_take (i := 13) (v := undef) rfl (by kernel_rfl) (by kernel_rfl) (by kernel_rfl) (fun _ _ _ h => h) (Or.inr ⟨by kernel_rfl, rfl⟩) hHeld ?_
        refine wpAnyH_take (i := 14) (v := ?_) rfl (by kernel_rfl) (by kernel_rfl) (by kernel_rfl) (fun _ _ _ h => h) (Or.inl ⟨by kernel_rfl, ?_⟩) hHeld ?_
        rotate_left
        · (intro w' hw'; go_simp; first | done | with_reducible rfl)
        refine wpAnyH_take (i := 15) (v := ?_) rfl (by kernel_rfl) (by kernel_rfl) (by kernel_rfl) (fun _ _ _ h => h) (Or.inl ⟨by kernel_rfl, ?_⟩) hHeld ?_
        rotate_left
        · (intro w' hw'; go_simp; first | done | with_reducible rfl)
        refine wpAnyH_take (i := 16) (v := undef) rfl (by kernel_rfl) (by kernel_rfl) (by kernel_rfl) (fun _ _ _ h => h) (Or.inr ⟨by kernel_rfl, rfl⟩) hHeld ?_
        refine wpAnyH_take (i := 17) (v := undef) rfl (by kernel_rfl) (by kernel_rfl) (by kernel_rfl) (fun _ _ _ h => h) (Or.inr ⟨by kernel_rfl, rfl⟩) hHeld ?_
        refine wpAnyH_take (i := 18) (v := undef) rfl (by kernel_rfl) (by kernel_rfl) (by kernel_rfl) (fun _ _ _ h => h) (Or.inr ⟨by kernel_rfl, rfl⟩) hHeld ?_
        refine wpAnyH_take (i := 19) (v := undef) rfl (by kernel_rfl) (by kernel_rfl) (by kernel_rfl) (fun _ _ _ h => h) (Or.inr ⟨by kernel_rfl, rfl⟩) hHeld ?_
        refine wpAnyH_take (i := 20) (v := undef) rfl (by kernel_rfl) (by kernel_rfl) (by kernel_rfl) (fun _ _ _ h => h) (Or.inr ⟨by kernel_rfl, rfl⟩) hHeld ?_
        refine wpAnyH_take (i := 21) (v := undef) rfl (by kernel_rfl) (by kernel_rfl) (by kernel_rfl) (fun _ _ _ h => h) (Or.inr ⟨by kernel_rfl, rfl⟩) hHeld ?_
        refine wpAnyH_take (i := 22) (v := undef) rfl (by kernel_rfl) (by kernel_rfl) (by kernel_rfl) (fun _ _ _ h => h) (Or.inr ⟨by kernel_rfl, rfl⟩) hHeld ?_
        refine wpAnyH_take (i := 23) (v := undef) rfl (by kernel_rfl) (by kernel_rfl) (by kernel_rfl) (fun _ _ _ h => h) (Or.inr ⟨by kernel_rfl, rfl⟩) hHeld ?_
        refine wpAnyH_take (i := 24) (v := undef) rfl (by kernel_rfl) (by kernel_rfl) (by kernel_rfl) (fun _ _ _ h => h) (Or.inr ⟨by kernel_rfl, rfl⟩) hHeld ?_
        refine wpAnyH_take (i := 25) (v := undef) rfl (by kernel_rfl) (by kernel_rfl) (by kernel_rfl) (fun _ _ _ h => h) (Or.inr ⟨by kernel_rfl, rfl⟩) hHeld ?_
        refine wpAnyH_take (i := 26) (v := undef) rfl (by kernel_rfl) (by kernel_rfl) (by kernel_rfl) (fun _ _ _ h => h) (Or.inr ⟨by kernel_rfl, rfl⟩) hHeld ?_
        refine wpAnyH_take (i := 27) (v := undef) rfl (by kernel_rfl) (by kernel_rfl) (by kernel_rfl) (fun _ _ _ h => h) (Or.inr ⟨by kernel_rfl, rfl⟩) hHeld ?_
        refine wpAnyH_take (i := 28) (v := undef) rfl (by kernel_rfl) (by kernel_rfl) (by kernel_rfl) (fun _ _ _ h => h) (Or.inr ⟨by kernel_rfl, rfl⟩) hHeld ?_
        refine wpAnyH_take (i := 29) (v := undef) rfl (by kernel_rfl) (by kernel_rfl) (by kernel_rfl) (fun _ _ _ h => h) (Or.inr ⟨by kernel_rfl, rfl⟩) hHeld ?_
        refine wpAnyH_take (i := 30) (v := ?_) rfl (by kernel_rfl) (by kernel_rfl) (by kernel_rfl) (fun _ _ _ h => h) (Or.inl ⟨by kernel_rfl, ?_⟩) hHeld ?_
        rotate_left
        · (intro w' hw'; go_simp; first | done | with_reducible rfl)
        refine wpAnyH_done (by kernel_rfl) ?_ _
        refine NoPanic.normal ?_
        go_simp
        go_wp2_with fail
        go_ret
        exact ⟨by rw [HNO.out]; rfl, HBW.out.trans ((HA.out.trans (HST.out.mono HA.out.size)).mono HBW.out.size)⟩
      have q1 : decide (X ≤ tu) = false := decide_eq_false h1
      cases hf : fitsB td tf m' with
      | false =>
        have HNO := Lib.hid (not_fit (X := X) HXN.out (fit_false (by rw [← hol] at hf; exact hf)))
        have HFB := Lib.hid hf
        clear HXN h0 h1 hf hol HPV0
        go_wp2_with fail
        rw [← HWR.out]
        refine wp_region_noPanic ?_
        refine wp_region_held_drew (S := fun w' => Below wr1.heap.size wr1 w') (by kernel_rfl) HST.out (fun hHeld => ?_)
        refine wpAnyH_take (i := 0) (v := ?_) rfl (by kernel_rfl) (by kernel_rfl) (by kernel_rfl) (fun _ _ _ h => h) (Or.inl ⟨by kernel_rfl, ?_⟩) hHeld ?_
        rotate_left
        · (intro w' hw'; go_simp; first | done | with_reducible rfl)
        refine wpAnyH_take (i := 1) (v := ?_) rfl (by kernel_rfl) (by kernel_rfl) (by kernel_rfl) (fun _ _ _ h => h) (Or.inl ⟨by kernel_rfl, ?_⟩) hHeld ?_
        rotate_left
        · (intro w' hw'; have mh := HCM.out _ hw'; have m0 := cell_at mh 0 _ rfl; have m1 := cell_at mh 1 _ rfl; have m2 := cell_at mh 2 _ rfl; have m3 := cell_at mh 3 _ rfl; go_simp; first | done | with_reducible rfl)
        refine wpAnyH_take (i := 2) (v := ?_) rfl (by kernel_rfl) (by kernel_rfl) (by kernel_rfl) (fun _ _ _ h => h) (Or.inl ⟨by kernel_rfl, ?_⟩) hHeld ?_
        rotate_left
        · (intro w' hw'; go_simp; first | done | with_reducible rfl)
        refine wpAnyH_take (i := 3) (v := ?_) rfl (by kernel_rfl) (by kernel_rfl) (by kernel_rfl) (fun _ _ _ h => h) (Or.inl ⟨by kernel_rfl, ?_⟩) hHeld ?_
        rotate_left
        · (intro w' hw'; go_simp; first | done | with_reducible rfl)
        refine wpAnyH_take (i := 4) (v := ?_) rfl (by kernel_rfl) (by kernel_rfl) (by kernel_rfl) (fun _ _ _ h => h) (Or.inl ⟨by kernel_rfl, ?_⟩) hHeld ?_
        rotate_left
        · (intro w' hw'; go_simp; first | done | with_reducible rfl)
        refine wpAnyH_take (i := 5) (v := ?_) rfl (by kernel_rfl) (by kernel_rfl) (by kernel_rfl) (fun _ _ _ h => h) (Or.inl ⟨by kernel_rfl, ?_⟩) hHeld ?_
        rotate_left
        · (intro w' hw'; have mh := HCM.out _ hw'; have m0 := cell_at mh 0 _ rfl; have m1 := cell_at mh 1 _ rfl; have m2 := cell_at mh 2 _ rfl; have m3 := cell_at mh 3 _ rfl; go_simp; first | done | with_reducible rfl)
        refine wpAnyH_take (i := 6) (v := ?_) rfl (by kernel_rfl) (by kernel_rfl) (by kernel_rfl) (fun _ _ _ h => h) (Or.inl ⟨by kernel_rfl, ?_⟩) hHeld ?_
        rotate_left
        · (intro w' hw'; go_simp; first | done | with_reducible rfl)
        refine wpAnyH_take (i := 7) (v := ?_) rfl (by kernel_rfl) (by kernel_rfl) (by kernel_rfl) (fun _ _ _ h => h) (Or.inl ⟨by kernel_rfl, ?_⟩) hHeld ?_
        rotate_left
        · (intro w' hw'; have bh := HX.out _ (HA.out.trans (hw'.mono HA.out.size)); have b2 := cell_at bh 2 _ rfl; go_simp; first | done | with_reducible rfl)
        refine wpAnyH_take (i := 8) (v := ?_) rfl (by kernel_rfl) (by kernel_rfl) (by kernel_rfl) (fun _ _ _ h => h) (Or.inl ⟨by kernel_rfl, ?_⟩) hHeld ?_
        rotate_left
        · (intro w' hw'; go_simp; first | done | with_reducible rfl)
        refine wpAnyH_take (i := 9) (v := ?_) rfl (by kernel_rfl) (by kernel_rfl) (by kernel_rfl) (fun _ _ _ h => h) (Or.inl ⟨by kernel_rfl, ?_⟩) hHeld ?_
        rotate_left
        · (intro w' hw'; go_simp; first | done | with_reducible rfl)
        refine wpAnyH_take (i := 10) (v := ?_) rfl (by kernel_rfl) (by kernel_rfl) (by kernel_rfl) (fun _ _ _ h => h) (Or.inl ⟨by kernel_rfl, ?_⟩) hHeld ?_
        rotate_left
        · (intro w' hw'; go_simp; first | done | with_reducible rfl)
        refine wpAnyH_take (i := 11) (v := ?_) rfl (by kernel_rfl) (by kernel_rfl) (by kernel_rfl) (fun _ _ _ h => h) (Or.inl ⟨by kernel_rfl, ?_⟩) hHeld ?_
        rotate_left
        · (intro w' hw'; have mh := HCM.out _ hw'; have m0 := cell_at mh 0 _ rfl; have m1 := cell_at mh 1 _ rfl; have m2 := cell_at mh 2 _ rfl; have m3 := cell_at mh 3 _ rfl; go_simp; first | done | with_reducible rfl)
        refine wpAnyH_ready (rs := [12]) (by kernel_rfl) (by simp) ?_
        refine AllReadyH.cons rfl (fun K hK => ?_) AllReadyH.nil
        go_simp
        refine (bod.rFits_any _ tu td tf A' m' c').mono ?_
        rw [HFB.out]
        rintro x w5 ⟨rfl, hb5⟩
        have hS5 := hHeld.trans (hb5.mono hHeld.size)
        clear hb5
        go_wp2_with fail
        refine hK.out _ _ hS5 (fun hH1 => ?_)
        clear hK K hHeld
        refine wpAnyH_take (i := 13) (v := ?_) rfl (by kernel_rfl) (by kernel_rfl) (by kernel_rfl) (fun _ _ _ h => h) (Or.inl ⟨by kernel_rfl, ?_⟩) hH1 ?_
        rotate_left
        · (intro w' hw'; go_simp; first | done | with_reducible rfl)
        refine wpAnyH_take (i := 14) (v := ?_) rfl (by kernel_rfl) (by kernel_rfl) (by kernel_rfl) (fun _ _ _ h => h) (Or.inl ⟨by kernel_rfl, ?_⟩) hH1 ?_
        rotate_left
        · (intro w' hw'; go_simp; first | done | with_reducible rfl)
        refine wpAnyH_take (i := 15) (v := ?_) rfl (by kernel_rfl) (by kernel_rfl) (by kernel_rfl) (fun _ _ _ h => h) (Or.inl ⟨by kernel_rfl, ?_⟩) hH1 ?_
        rotate_left
        · (intro w' hw'; go_simp; first | done | with_reducible rfl)
        refine wpAnyH_take (i := 16) (v := undef) rfl (by kernel_rfl) (by kernel_rfl) (by kernel_rfl) (fun _ _ _ h => h) (Or.inr ⟨by kernel_rfl, rfl⟩) hH1 ?_
        refine wpAnyH_take (i := 17) (v := undef) rfl (by kernel_rfl) (by kernel_rfl) (by kernel_rfl) (fun _ _ _ h => h) (Or.inr ⟨by kernel_rfl, rfl⟩) hH1 ?_
        refine wpAnyH_take (i := 18) (v := undef) rfl (by kernel_rfl) (by kernel_rfl) (by kernel_rfl) (fun _ _ _ h => h) (Or.inr ⟨by kernel_rfl, rfl⟩) hH1 ?_
        refine wpAnyH_take (i := 19) (v := undef) rfl (by kernel_rfl) (by kernel_rfl) (by kernel_rfl) (fun _ _ _ h => h) (Or.inr ⟨by kernel_rfl, rfl⟩) hH1 ?_
        refine wpAnyH_take (i := 20) (v := undef) rfl (by kernel_rfl) (by kernel_rfl) (by kernel_rfl) (fun _ _ _ h => h) (Or.inr ⟨by kernel_rfl, rfl⟩) hH1 ?_
        refine wpAnyH_take (i := 21) (v := undef) rfl (by kernel_rfl) (by kernel_rfl) (by kernel_rfl) (fun _ _ _ h => h) (Or.inr ⟨by kernel_rfl, rfl⟩) hH1 ?_
        refine wpAnyH_take (i := 22) (v := undef) rfl (by kernel_rfl) (by kernel_rfl) (by kernel_rfl) (fun _ _ _ h => h) (Or.inr ⟨by kernel_rfl, rfl⟩) hH1 ?_
        refine wpAnyH_take (i := 23) (v := undef) rfl (by kernel_rfl) (by kernel_rfl) (by kernel_rfl) (fun _ _ _ h => h) (Or.inr ⟨by kernel_rfl, rfl⟩) hH1 ?_
        refine wpAnyH_take (i := 24) (v := undef) rfl (by kernel_rfl) (by kernel_rfl) (by kernel_rfl) (fun _ _ _ h => h) (Or.inr ⟨by kernel_rfl, rfl⟩) hH1 ?_
        refine wpAnyH_take (i := 25) (v := undef) rfl (by kernel_rfl) (by kernel_rfl) (by kernel_rfl) (fun _ _ _ h => h) (Or.inr ⟨by kernel_rfl, rfl⟩) hH1 ?_
        refine wpAnyH_take (i := 26) (v := undef) rfl (by kernel_rfl) (by kernel_rfl) (by kernel_rfl) (fun _ _ _ h => h) (Or.inr ⟨by kernel_rfl, rfl⟩) hH1 ?_
        refine wpAnyH_take (i := 27) (v := undef) rfl (by kernel_rfl) (by kernel_rfl) (by kernel_rfl) (fun _ _ _ h => h) (Or.inr ⟨by kernel_rfl, rfl⟩) hH1 ?_
        refine wpAnyH_take (i := 28) (v := undef) rfl (by kernel_rfl) (by kernel_rfl) (by kernel_rfl) (fun _ _ _ h => h) (Or.inr ⟨by kernel_rfl, rfl⟩) hH1 ?_
        refine wpAnyH_take (i := 29) (v := undef) rfl (by kernel_rfl) (by kernel_rfl) (by kernel_rfl) (fun _ _ _ h => h) (Or.inr ⟨by kernel_rfl, rfl⟩) hH1 ?_
        refine wpAnyH_take (i := 30) (v := ?_) rfl (by kernel_rfl) (by kernel_rfl) (by kernel_rfl) (fun _ _ _ h => h) (Or.inl ⟨by kernel_rfl, ?_⟩) hH1 ?_
        rotate_left
        · (intro w' hw'; go_simp; first | done | with_reducible rfl)
        refine wpAnyH_done (by kernel_rfl) ?_ _
        refine NoPanic.normal ?_
        go_simp
        go_wp2_with fail
        go_ret
        exact ⟨by rw [HNO.out]; rfl, HBW.out.trans ((HA.out.trans (hS5.mono HA.out.size)).mono HBW.out.size)⟩
      | true =>
        have HFB := Lib.hid hf
        have HFT := Lib.hid (fit_true (t := ⟨tk, te, ts, tu, td, tf, to_⟩) (by rw [← hol] at hf; exact hf) h0)
        clear hf hol
        rcases Nat.eq_zero_or_pos k with hk0 | hk0
        · have HOK := Lib.hid (HO.out.next HXN.out (show tu < X by omega) HFT.out (.inl hk0))
          have qk : decide (0 < k) = false := decide_eq_false (by omega)
          clear HXN h0 h1 HPV0 HFT hk0
          go_wp2_with fail
          rw [← HWR.out]
          refine wp_region_noPanic ?_
          refine wp_region_held_drew (S := fun w' => Below wr1.heap.size wr1 w') (by kernel_rfl) HST.out (fun hHeld => ?_)
          refine wpAnyH_take (i := 0) (v := ?_) rfl (by kernel_rfl) (by kernel_rfl) (by kernel_rfl) (fun _ _ _ h => h) (Or.inl ⟨by kernel_rfl, ?_⟩) hHeld ?_
          rotate_left
          · (intro w' hw'; go_simp; first | done | with_reducible rfl)
          refine wpAnyH_take (i := 1) (v := ?_) rfl (by kernel_rfl) (by kernel_rfl) (by kernel_rfl) (fun _ _ _ h => h) (Or.inl ⟨by kernel_rfl, ?_⟩) hHeld ?_
          rotate_left
          · (intro w' hw'; have mh := HCM.out _ hw'; have m0 := cell_at mh 0 _ rfl; have m1 := cell_at mh 1 _ rfl; have m2 := cell_at mh 2 _ rfl; have m3 := cell_at mh 3 _ rfl; go_simp; first | done | with_reducible rfl)
          refine wpAnyH_take (i := 2) (v := ?_) rfl (by kernel_rfl) (by kernel_rfl) (by kernel_rfl) (fun _ _ _ h => h) (Or.inl ⟨by kernel_rfl, ?_⟩) hHeld ?_
          rotate_left
          · (intro w' hw'; go_simp; first | done | with_reducible rfl)
          refine wpAnyH_take (i := 3) (v := ?_) rfl (by kernel_rfl) (by kernel_rfl) (by kernel_rfl) (fun _ _ _ h => h) (Or.inl ⟨by kernel_rfl, ?_⟩) hHeld ?_
          rotate_left
          · (intro w' hw'; go_simp; first | done | with_reducible rfl)
          refine wpAnyH_take (i := 4) (v := ?_) rfl (by kernel_rfl) (by kernel_rfl) (by kernel_rfl) (fun _ _ _ h => h) (Or.inl ⟨by kernel_rfl, ?_⟩) hHeld ?_
          rotate_left
          · (intro w' hw'; go_simp; first | done | with_reducible rfl)
          refine wpAnyH_take (i := 5) (v := ?_) rfl (by kernel_rfl) (by kernel_rfl) (by kernel_rfl) (fun _ _ _ h => h) (Or.inl ⟨by kernel_rfl, ?_⟩) hHeld ?_
          rotate_left
          · (intro w' hw'; have mh := HCM.out _ hw'; have m0 := cell_at mh 0 _ rfl; have m1 := cell_at mh 1 _ rfl; have m2 := cell_at mh 2 _ rfl; have m3 := cell_at mh 3 _ rfl; go_simp; first | done | with_reducible rfl)
          refine wpAnyH_take (i := 6) (v := ?_) rfl (by kernel_rfl) (by kernel_rfl) (by kernel_rfl) (fun _ _ _ h => h) (Or.inl ⟨by kernel_rfl, ?_⟩) hHeld ?_
          rotate_left
          · (intro w' hw'; go_simp; first | done | with_reducible rfl)
          refine wpAnyH_take (i := 7) (v := ?_) rfl (by kernel_rfl) (by kernel_rfl) (by kernel_rfl) (fun _ _ _ h => h) (Or.inl ⟨by kernel_rfl, ?_⟩) hHeld ?_
          rotate_left
          · (intro w' hw'; have bh := HX.out _ (HA.out.trans (hw'.mono HA.out.size)); have b2 := cell_at bh 2 _ rfl; go_simp; first | done | with_reducible rfl)
          refine wpAnyH_take (i := 8) (v := ?_) rfl (by kernel_rfl) (by kernel_rfl) (by kernel_rfl) (fun _ _ _ h => h) (Or.inl ⟨by kernel_rfl, ?_⟩) hHeld ?_
          rotate_left
          · (intro w' hw'; go_simp; first | done | with_reducible rfl)
          refine wpAnyH_take (i := 9) (v := ?_) rfl (by kernel_rfl) (by kernel_rfl) (by kernel_rfl) (fun _ _ _ h => h) (Or.inl ⟨by kernel_rfl, ?_⟩) hHeld ?_
          rotate_left
          · (intro w' hw'; go_simp; first | done | with_reducible rfl)
          refine wpAnyH_take (i := 10) (v := ?_) rfl (by kernel_rfl) (by kernel_rfl) (by kernel_rfl) (fun _ _ _ h => h) (Or.inl ⟨by kernel_rfl, ?_⟩) hHeld ?_
          rotate_left
          · (intro w' hw'; go_simp; first | done | with_reducible rfl)
          refine wpAnyH_take (i := 11) (v := ?_) rfl (by kernel_rfl) (by kernel_rfl) (by kernel_rfl) (fun _ _ _ h => h) (Or.inl ⟨by kernel_rfl, ?_⟩) hHeld ?_
          rotate_left
          · (intro w' hw'; have mh := HCM.out _ hw'; have m0 := cell_at mh 0 _ rfl; have m1 := cell_at mh 1 _ rfl; have m2 := cell_at mh 2 _ rfl; have m3 := cell_at mh 3 _ rfl; go_simp; first | done | with_reducible rfl)
          refine wpAnyH_ready (rs := [12]) (by kernel_rfl) (by simp) ?_
          refine AllReadyH.cons rfl (fun K hK => ?_) AllReadyH.nil
          go_simp
          refine (bod.rFits_any _ tu td tf A' m' c').mono ?_
          rw [HFB.out]
          rintro x w5 ⟨rfl, hb5⟩
          have hS5 := hHeld.trans (hb5.mono hHeld.size)
          clear hb5
          go_wp2_with fail
          refine hK.out _ _ hS5 (fun hH1 => ?_)
          clear hK K hHeld
          refine wpAnyH_take (i := 13) (v := ?_) rfl (by kernel_rfl) (by kernel_rfl) (by kernel_rfl) (fun _ _ _ h => h) (Or.inl ⟨by kernel_rfl, ?_⟩) hH1 ?_
          rotate_left
          · (intro w' hw'; go_simp; first | done | with_reducible rfl)
          refine wpAnyH_take (i := 14) (v := ?_) rfl (by kernel_rfl) (by kernel_rfl) (by kernel_rfl) (fun _ _ _ h => h) (Or.inl ⟨by kernel_rfl, ?_⟩) hH1 ?_
          rotate_left
          · (intro w' hw'; go_simp; first | done | with_reducible rfl)
          refine wpAnyH_take (i := 15) (v := ?_) rfl (by kernel_rfl) (by kernel_rfl) (by kernel_rfl) (fun _ _ _ h => h) (Or.inl ⟨by kernel_rfl, ?_⟩) hH1 ?_
          rotate_left
          · (intro w' hw'; go_simp; first | done | with_reducible rfl)
          refine wpAnyH_take (i := 16) (v := ?_) rfl (by kernel_rfl) (by kernel_rfl) (by kernel_rfl) (fun _ _ _ h => h) (Or.inl ⟨by kernel_rfl, ?_⟩) hH1 ?_
          rotate_left
          · (intro w' hw'; go_simp; first | done | with_reducible rfl)
          refine wpAnyH_take (i := 17) (v := ?_) rfl (by kernel_rfl) (by kernel_rfl) (by kernel_rfl) (fun _ _ _ h => h) (Or.inl ⟨by kernel_rfl, ?_⟩) hH1 ?_
          rotate_left
          · (intro w' hw'; go_simp; first | done | with_reducible rfl)
          refine wpAnyH_take (i := 18) (v := ?_) rfl (by kernel_rfl) (by kernel_rfl) (by kernel_rfl) (fun _ _ _ h => h) (Or.inl ⟨by kernel_rfl, ?_⟩) hH1 ?_
          rotate_left
          · (intro w' hw'; go_simp; first | done | with_reducible rfl)
          refine wpAnyH_take (i := 19) (v := undef) rfl (by kernel_rfl) (by kernel_rfl) (by kernel_rfl) (fun _ _ _ h => h) (Or.inr ⟨by kernel_rfl, rfl⟩) hH1 ?_
          refine wpAnyH_take (i := 20) (v := undef) rfl (by kernel_rfl) (by kernel_rfl) (by kernel_rfl) (fun _ _ _ h => h) (Or.inr ⟨by kernel_rfl, rfl⟩) hH1 ?_
          refine wpAnyH_take (i := 21) (v := undef) rfl (by kernel_rfl) (by kernel_rfl) (by kernel_rfl) (fun _ _ _ h => h) (Or.inr ⟨by kernel_rfl, rfl⟩) hH1 ?_
          refine wpAnyH_take (i := 22) (v := undef) rfl (by kernel_rfl) (by kernel_rfl) (by kernel_rfl) (fun _ _ _ h => h) (Or.inr ⟨by kernel_rfl, rfl⟩) hH1 ?_
          refine wpAnyH_take (i := 23) (v := undef) rfl (by kernel_rfl) (by kernel_rfl) (by kernel_rfl) (fun _ _ _ h => h) (Or.inr ⟨by kernel_rfl, rfl⟩) hH1 ?_
          refine wpAnyH_take (i := 24) (v := undef) rfl (by kernel_rfl) (by kernel_rfl) (by kernel_rfl) (fun _ _ _ h => h) (Or.inr ⟨by kernel_rfl, rfl⟩) hH1 ?_
          refine wpAnyH_take (i := 25) (v := undef) rfl (by kernel_rfl) (by kernel_rfl) (by kernel_rfl) (fun _ _ _ h => h) (Or.inr ⟨by kernel_rfl, rfl⟩) hH1 ?_
          refine wpAnyH_take (i := 26) (v := undef) rfl (by kernel_rfl) (by kernel_rfl) (by kernel_rfl) (fun _ _ _ h => h) (Or.inr ⟨by kernel_rfl, rfl⟩) hH1 ?_
          refine wpAnyH_take (i := 27) (v := undef) rfl (by kernel_rfl) (by kernel_rfl) (by kernel_rfl) (fun _ _ _ h => h) (Or.inr ⟨by kernel_rfl, rfl⟩) hH1 ?_
          refine wpAnyH_take (i := 28) (v := undef) rfl (by kernel_rfl) (by kernel_rfl) (by kernel_rfl) (fun _ _ _ h => h) (Or.inr ⟨by kernel_rfl, rfl⟩) hH1 ?_
          refine wpAnyH_take (i := 29) (v := ?_) rfl (by kernel_rfl) (by kernel_rfl) (by kernel_rfl) (fun _ _ _ h => h) (Or.inl ⟨by kernel_rfl, ?_⟩) hH1 ?_
          rotate_left
          · (intro w' hw'; go_simp; first | done | with_reducible rfl)
          refine wpAnyH_take (i := 30) (v := ?_) rfl (by kernel_rfl) (by kernel_rfl) (by kernel_rfl) (fun _ _ _ h => h) (Or.inl ⟨by kernel_rfl, ?_⟩) hH1 ?_
          rotate_left
          · (intro w' hw'; go_simp; first | done | with_reducible rfl)
          refine wpAnyH_done (by kernel_rfl) ?_ _
          refine NoPanic.normal ?_
          go_simp
          have hn5 := HN5.out
          go_wp2_with fail
          go_roundw
          case rel => first | exact ⟨k + 1, by omega, by go_num, HOK, Lib.hid (HA.out.trans (hS5.mono HA.out.size))⟩ | ((repeat apply Exists.intro); exact ⟨⟨k + 1, by omega, by go_num, HOK, Lib.hid (HA.out.trans (hS5.mono HA.out.size))⟩, rfl⟩)
          case measure => (show n - ((k : Int) + 1).toNat < n - k; omega)
        · obtain ⟨j, hj⟩ : ∃ j, k = j + 1 := ⟨k - 1, by omega⟩
          obtain ⟨b2, o2, ⟨⟨sk, se, ss, su, sd, sf, so⟩, a2, A2, m2, c2⟩, hA2, hx2, p0, -, -, -, -⟩ := HPV0.out j hj
          cases hA2
          simp only [] at p0
          have lt2 := block_lt_of_cell p0
          have HPV := Lib.hid (fun (w' : World) (h : Below wr1.heap.size wr1 w') => (h.cell (p := ⟨b, o + j * 4, none⟩) lt2).trans p0)
          have HX2 := Lib.hid (nts_at hx2)
          have qk : decide (0 < k) = true := decide_eq_true hk0
          have qj : (k : Int) - 1 = (j : Int) := by omega
          have qj2 : IntKind.i64.wrap ((k : Int) - 1) = (j : Int) := (IntWalk.i64_in ((k : Int) - 1) (by have := HN5.out; omega)).trans qj
          have qj3 : IntKind.i64.wrap (j : Int) = (j : Int) := IntWalk.i64_in (j : Int) (by have := HN5.out; omega)
          have qjn : (j : Int) < (n : Int) := by omega
          clear p0 lt2 hx2 HPV0
          by_cases h2 : tu ≤ su
          · have HNO := Lib.hid (not_rise (X := X) HXN.out (.inr ⟨j, _, hj, HX2.out, h2⟩))
            have q2 : decide (tu ≤ su) = true := decide_eq_true h2
            clear HXN h0 h1 h2 hk0 HFT hj
            go_wp2_with fail
            rw [← HWR.out]
            refine wp_region_noPanic ?_
            refine wp_region_held_drew (S := fun w' => Below wr1.heap.size wr1 w') (by kernel_rfl) HST.out (fun hHeld => ?_)
            refine wpAnyH_take (i := 0) (v := ?_) rfl (by kernel_rfl) (by kernel_rfl) (by kernel_rfl) (fun _ _ _ h => h) (Or.inl ⟨by kernel_rfl, ?_⟩) hHeld ?_
            rotate_left
            · (intro w' hw'; go_simp; first | done | with_reducible rfl)
            refine wpAnyH_take (i := 1) (v := ?_) rfl (by kernel_rfl) (by kernel_rfl) (by kernel_rfl) (fun _ _ _ h => h) (Or.inl ⟨by kernel_rfl, ?_⟩) hHeld ?_
            rotate_left
            · (intro w' hw'; have mh := HCM.out _ hw'; have m0 := cell_at mh 0 _ rfl; have m1 := cell_at mh 1 _ rfl; have m2 := cell_at mh 2 _ rfl; have m3 := cell_at mh 3 _ rfl; go_simp; first | done | with_reducible rfl)
            refine wpAnyH_take (i := 2) (v := ?_) rfl (by kernel_rfl) (by kernel_rfl) (by kernel_rfl) (fun _ _ _ h => h) (Or.inl ⟨by kernel_rfl, ?_⟩) hHeld ?_
            rotate_left
            · (intro w' hw'; go_simp; first | done | with_reducible rfl)
            refine wpAnyH_take (i := 3) (v := ?_) rfl (by kernel_rfl) (by kernel_rfl) (by kernel_rfl) (fun _ _ _ h => h) (Or.inl ⟨by kernel_rfl, ?_⟩) hHeld ?_
            rotate_left
            · (intro w' hw'; go_simp; first | done | with_reducible rfl)
            refine wpAnyH_take (i := 4) (v := ?_) rfl (by kernel_rfl) (by kernel_rfl) (by kernel_rfl) (fun _ _ _ h => h) (Or.inl ⟨by kernel_rfl, ?_⟩) hHeld ?_
            rotate_left
            · (intro w' hw'; go_simp; first | done | with_reducible rfl)
            refine wpAnyH_take (i := 5) (v := ?_) rfl (by kernel_rfl) (by kernel_rfl) (by kernel_rfl) (fun _ _ _ h => h) (Or.inl ⟨by kernel_rfl, ?_⟩) hHeld ?_
            rotate_left
            · (intro w' hw'; have mh := HCM.out _ hw'; have m0 := cell_at mh 0 _ rfl; have m1 := cell_at mh 1 _ rfl; have m2 := cell_at mh 2 _ rfl; have m3 := cell_at mh 3 _ rfl; go_simp; first | done | with_reducible rfl)
            refine wpAnyH_take (i := 6) (v := ?_) rfl (by kernel_rfl) (by kernel_rfl) (by kernel_rfl) (fun _ _ _ h => h) (Or.inl ⟨by kernel_rfl, ?_⟩) hHeld ?_
            rotate_left
            · (intro w' hw'; go_simp; first | done | with_reducible rfl)
            refine wpAnyH_take (i := 7) (v := ?_) rfl (by kernel_rfl) (by kernel_rfl) (by kernel_rfl) (fun _ _ _ h => h) (Or.inl ⟨by kernel_rfl, ?_⟩) hHeld ?_
            rotate_left
            · (intro w' hw'; have bh := HX.out _ (HA.out.trans (hw'.mono HA.out.size)); have b2 := cell_at bh 2 _ rfl; go_simp; first | done | with_reducible rfl)
            refine wpAnyH_take (i := 8) (v := ?_) rfl (by kernel_rfl) (by kernel_rfl) (by kernel_rfl) (fun _ _ _ h => h) (Or.inl ⟨by kernel_rfl, ?_⟩) hHeld ?_
            rotate_left
            · (intro w' hw'; go_simp; first | done | with_reducible rfl)
            refine wpAnyH_take (i := 9) (v := ?_) rfl (by kernel_rfl) (by kernel_rfl) (by kernel_rfl) (fun _ _ _ h => h) (Or.inl ⟨by kernel_rfl, ?_⟩) hHeld ?_
            rotate_left
            · (intro w' hw'; go_simp; first | done | with_reducible rfl)
            refine wpAnyH_take (i := 10) (v := ?_) rfl (by kernel_rfl) (by kernel_rfl) (by kernel_rfl) (fun _ _ _ h => h) (Or.inl ⟨by kernel_rfl, ?_⟩) hHeld ?_
            rotate_left
            · (intro w' hw'; go_simp; first | done | with_reducible rfl)
            refine wpAnyH_take (i := 11) (v := ?_) rfl (by kernel_rfl) (by kernel_rfl) (by kernel_rfl) (fun _ _ _ h => h) (Or.inl ⟨by kernel_rfl, ?_⟩) hHeld ?_
            rotate_left
            · (intro w' hw'; have mh := HCM.out _ hw'; have m0 := cell_at mh 0 _ rfl; have m1 := cell_at mh 1 _ rfl; have m2 := cell_at mh 2 _ rfl; have m3 := cell_at mh 3 _ rfl; go_simp; first | done | with_reducible rfl)
            refine wpAnyH_ready (rs := [12]) (by kernel_rfl) (by simp) ?_
            refine AllReadyH.cons rfl (fun K hK => ?_) AllReadyH.nil
            go_simp
            refine (bod.rFits_any _ tu td tf A' m' c').mono ?_
            rw [HFB.out]
            rintro x w5 ⟨rfl, hb5⟩
            have hS5 := hHeld.trans (hb5.mono hHeld.size)
            clear hb5
            go_wp2_with fail
            refine hK.out _ _ hS5 (fun hH1 => ?_)
            clear hK K hHeld
            refine wpAnyH_take (i := 13) (v := ?_) rfl (by kernel_rfl) (by kernel_rfl) (by kernel_rfl) (fun _ _ _ h => h) (Or.inl ⟨by kernel_rfl, ?_⟩) hH1 ?_
            rotate_left
            · (intro w' hw'; go_simp; first | done | with_reducible rfl)
            refine wpAnyH_take (i := 14) (v := ?_) rfl (by kernel_rfl) (by kernel_rfl) (by kernel_rfl) (fun _ _ _ h => h) (Or.inl ⟨by kernel_rfl, ?_⟩) hH1 ?_
            rotate_left
            · (intro w' hw'; go_simp; first | done | with_reducible rfl)
            refine wpAnyH_take (i := 15) (v := ?_) rfl (by kernel_rfl) (by kernel_rfl) (by kernel_rfl) (fun _ _ _ h => h) (Or.inl ⟨by kernel_rfl, ?_⟩) hH1 ?_
            rotate_left
            · (intro w' hw'; go_simp; first | done | with_reducible rfl)
            refine wpAnyH_take (i := 16) (v := ?_) rfl (by kernel_rfl) (by kernel_rfl) (by kernel_rfl) (fun _ _ _ h => h) (Or.inl ⟨by kernel_rfl, ?_⟩) hH1 ?_
            rotate_left
            · (intro w' hw'; go_simp; first | done | with_reducible rfl)
            refine wpAnyH_take (i := 17) (v := ?_) rfl (by kernel_rfl) (by kernel_rfl) (by kernel_rfl) (fun _ _ _ h => h) (Or.inl ⟨by kernel_rfl, ?_⟩) hH1 ?_
            rotate_left
            · (intro w' hw'; go_simp; first | done | with_reducible rfl)
            refine wpAnyH_take (i := 18) (v := ?_) rfl (by kernel_rfl) (by kernel_rfl) (by kernel_rfl) (fun _ _ _ h => h) (Or.inl ⟨by kernel_rfl, ?_⟩) hH1 ?_
            rotate_left
            · (intro w' hw'; go_simp; first | done | with_reducible rfl)
            refine wpAnyH_take (i := 19) (v := ?_) rfl (by kernel_rfl) (by kernel_rfl) (by kernel_rfl) (fun _ _ _ h => h) (Or.inl ⟨by kernel_rfl, ?_⟩) hH1 ?_
            rotate_left
            · (intro w' hw'; go_simp; first | done | with_reducible rfl)
            refine wpAnyH_take (i := 20) (v := ?_) rfl (by kernel_rfl) (by kernel_rfl) (by kernel_rfl) (fun _ _ _ h => h) (Or.inl ⟨by kernel_rfl, ?_⟩) hH1 ?_
            rotate_left
            · (intro w' hw'; have bh := HX.out _ (HA.out.trans (hw'.mono HA.out.size)); have b3 := cell_at bh 3 _ rfl; go_simp; first | done | with_reducible rfl)
            refine wpAnyH_take (i := 21) (v := ?_) rfl (by kernel_rfl) (by kernel_rfl) (by kernel_rfl) (fun _ _ _ h => h) (Or.inl ⟨by kernel_rfl, ?_⟩) hH1 ?_
            rotate_left
            · (intro w' hw'; go_simp; first | done | with_reducible rfl)
            refine wpAnyH_take (i := 22) (v := ?_) rfl (by kernel_rfl) (by kernel_rfl) (by kernel_rfl) (fun _ _ _ h => h) (Or.inl ⟨by kernel_rfl, ?_⟩) hH1 ?_
            rotate_left
            · (intro w' hw'; go_simp; first | done | with_reducible rfl)
            refine wpAnyH_take (i := 23) (v := ?_) rfl (by kernel_rfl) (by kernel_rfl) (by kernel_rfl) (fun _ _ _ h => h) (Or.inl ⟨by kernel_rfl, ?_⟩) hH1 ?_
            rotate_left
            · (intro w' hw'; go_simp; first | done | with_reducible rfl)
            refine wpAnyH_take (i := 24) (v := ?_) rfl (by kernel_rfl) (by kernel_rfl) (by kernel_rfl) (fun _ _ _ h => h) (Or.inl ⟨by kernel_rfl, ?_⟩) hH1 ?_
            rotate_left
            · (intro w' hw'; go_simp; first | done | with_reducible rfl)
            refine wpAnyH_take (i := 25) (v := ?_) rfl (by kernel_rfl) (by kernel_rfl) (by kernel_rfl) (fun _ _ _ h => h) (Or.inl ⟨by kernel_rfl, ?_⟩) hH1 ?_
            rotate_left
            · (intro w' hw'; have p0 := HPV.out _ hw'; go_simp; first | done | with_reducible rfl)
            refine wpAnyH_take (i := 26) (v := ?_) rfl (by kernel_rfl) (by kernel_rfl) (by kernel_rfl) (fun _ _ _ h => h) (Or.inl ⟨by kernel_rfl, ?_⟩) hH1 ?_
            rotate_left
            · (intro w' hw'; go_simp; first | done | with_reducible rfl)
            refine wpAnyH_take (i := 27) (v := ?_) rfl (by kernel_rfl) (by kernel_rfl) (by kernel_rfl) (fun _ _ _ h => h) (Or.inl ⟨by kernel_rfl, ?_⟩) hH1 ?_
            rotate_left
            · (intro w' hw'; have mh := HCM.out _ hw'; have m0 := cell_at mh 0 _ rfl; have m1 := cell_at mh 1 _ rfl; have m2 := cell_at mh 2 _ rfl; have m3 := cell_at mh 3 _ rfl; go_simp; first | done | with_reducible rfl)
            refine wpAnyH_take (i := 28) (v := ?_) rfl (by kernel_rfl) (by kernel_rfl) (by kernel_rfl) (fun _ _ _ h => h) (Or.inl ⟨by kernel_rfl, ?_⟩) hH1 ?_
            rotate_left
            · (intro w' hw'; go_simp; first | done | with_reducible rfl)
            refine wpAnyH_take (i := 29) (v := ?_) rfl (by kernel_rfl) (by kernel_rfl) (by kernel_rfl) (fun _ _ _ h => h) (Or.inl ⟨by kernel_rfl, ?_⟩) hH1 ?_
            rotate_left
            · (intro w' hw'; go_simp; first | done | with_reducible rfl)
            refine wpAnyH_take (i := 30) (v := ?_) rfl (by kernel_rfl) (by kernel_rfl) (by kernel_rfl) (fun _ _ _ h => h) (Or.inl ⟨by kernel_rfl, ?_⟩) hH1 ?_
            rotate_left
            · (intro w' hw'; go_simp; first | done | with_reducible rfl)
            refine wpAnyH_done (by kernel_rfl) ?_ _
            refine NoPanic.normal ?_
            go_simp
            go_wp2_with fail
            go_ret
            exact ⟨by rw [HNO.out]; rfl, HBW.out.trans ((HA.out.trans (hS5.mono HA.out.size)).mono HBW.out.size)⟩
          · have HOK := Lib.hid (HO.out.next HXN.out (show tu < X by omega) HFT.out (.inr ⟨j, _, hj, HX2.out, show su < tu by omega⟩))
            have q2 : decide (tu ≤ su) = false := decide_eq_false h2
            clear HXN h0 h1 h2 hk0 HFT hj
            go_wp2_with fail
            rw [← HWR.out]
            refine wp_region_noPanic ?_
            refine wp_region_held_drew (S := fun w' => Below wr1.heap.size wr1 w') (by kernel_rfl) HST.out (fun hHeld => ?_)
            refine wpAnyH_take (i := 0) (v := ?_) rfl (by kernel_rfl) (by kernel_rfl) (by kernel_rfl) (fun _ _ _ h => h) (Or.inl ⟨by kernel_rfl, ?_⟩) hHeld ?_
            rotate_left
            · (intro w' hw'; go_simp; first | done | with_reducible rfl)
            refine wpAnyH_take (i := 1) (v := ?_) rfl (by kernel_rfl) (by kernel_rfl) (by kernel_rfl) (fun _ _ _ h => h) (Or.inl ⟨by kernel_rfl, ?_⟩) hHeld ?_
            rotate_left
            · (intro w' hw'; have mh := HCM.out _ hw'; have m0 := cell_at mh 0 _ rfl; have m1 := cell_at mh 1 _ rfl; have m2 := cell_at mh 2 _ rfl; have m3 := cell_at mh 3 _ rfl; go_simp; first | done | with_reducible rfl)
            refine wpAnyH_take (i := 2) (v := ?_) rfl (by kernel_rfl) (by kernel_rfl) (by kernel_rfl) (fun _ _ _ h => h) (Or.inl ⟨by kernel_rfl, ?_⟩) hHeld ?_
            rotate_left
            · (intro w' hw'; go_simp; first | done | with_reducible rfl)
            refine wpAnyH_take (i := 3) (v := ?_) rfl (by kernel_rfl) (by kernel_rfl) (by kernel_rfl) (fun _ _ _ h => h) (Or.inl ⟨by kernel_rfl, ?_⟩) hHeld ?_
            rotate_left
            · (intro w' hw'; go_simp; first | done | with_reducible rfl)
            refine wpAnyH_take (i := 4) (v := ?_) rfl (by kernel_rfl) (by kernel_rfl) (by kernel_rfl) (fun _ _ _ h => h) (Or.inl ⟨by kernel_rfl, ?_⟩) hHeld ?_
            rotate_left
            · (intro w' hw'; go_simp; first | done | with_reducible rfl)
            refine wpAnyH_take (i := 5) (v := ?_) rfl (by kernel_rfl) (by kernel_rfl) (by kernel_rfl) (fun _ _ _ h => h) (Or.inl ⟨by kernel_rfl, ?_⟩) hHeld ?_
            rotate_left
            · (intro w' hw'; have mh := HCM.out _ hw'; have m0 := cell_at mh 0 _ rfl; have m1 := cell_at mh 1 _ rfl; have m2 := cell_at mh 2 _ rfl; have m3 := cell_at mh 3 _ rfl; go_simp; first | done | with_reducible rfl)
            refine wpAnyH_take (i := 6) (v := ?_) rfl (by kernel_rfl) (by kernel_rfl) (by kernel_rfl) (fun _ _ _ h => h) (Or.inl ⟨by kernel_rfl, ?_⟩) hHeld ?_
            rotate_left
            · (intro w' hw'; go_simp; first | done | with_reducible rfl)
            refine wpAnyH_take (i := 7) (v := ?_) rfl (by kernel_rfl) (by kernel_rfl) (by kernel_rfl) (fun _ _ _ h => h) (Or.inl ⟨by kernel_rfl, ?_⟩) hHeld ?_
            rotate_left
            · (intro w' hw'; have bh := HX.out _ (HA.out.trans (hw'.mono HA.out.size)); have b2 := cell_at bh 2 _ rfl; go_simp; first | done | with_reducible rfl)
            refine wpAnyH_take (i := 8) (v := ?_) rfl (by kernel_rfl) (by kernel_rfl) (by kernel_rfl) (fun _ _ _ h => h) (Or.inl ⟨by kernel_rfl, ?_⟩) hHeld ?_
            rotate_left
            · (intro w' hw'; go_simp; first | done | with_reducible rfl)
            refine wpAnyH_take (i := 9) (v := ?_) rfl (by kernel_rfl) (by kernel_rfl) (by kernel_rfl) (fun _ _ _ h => h) (Or.inl ⟨by kernel_rfl, ?_⟩) hHeld ?_
            rotate_left
            · (intro w' hw'; go_simp; first | done | with_reducible rfl)
            refine wpAnyH_take (i := 10) (v := ?_) rfl (by kernel_rfl) (by kernel_rfl) (by kernel_rfl) (fun _ _ _ h => h) (Or.inl ⟨by kernel_rfl, ?_⟩) hHeld ?_
            rotate_left
            · (intro w' hw'; go_simp; first | done | with_reducible rfl)
            refine wpAnyH_take (i := 11) (v := ?_) rfl (by kernel_rfl) (by kernel_rfl) (by kernel_rfl) (fun _ _ _ h => h) (Or.inl ⟨by kernel_rfl, ?_⟩) hHeld ?_
            rotate_left
            · (intro w' hw'; have mh := HCM.out _ hw'; have m0 := cell_at mh 0 _ rfl; have m1 := cell_at mh 1 _ rfl; have m2 := cell_at mh 2 _ rfl; have m3 := cell_at mh 3 _ rfl; go_simp; first | done | with_reducible rfl)
            refine wpAnyH_ready (rs := [12]) (by kernel_rfl) (by simp) ?_
            refine AllReadyH.cons rfl (fun K hK => ?_) AllReadyH.nil
            go_simp
            refine (bod.rFits_any _ tu td tf A' m' c').mono ?_
            rw [HFB.out]
            rintro x w5 ⟨rfl, hb5⟩
            have hS5 := hHeld.trans (hb5.mono hHeld.size)
            clear hb5
            go_wp2_with fail
            refine hK.out _ _ hS5 (fun hH1 => ?_)
            clear hK K hHeld
            refine wpAnyH_take (i := 13) (v := ?_) rfl (by kernel_rfl) (by kernel_rfl) (by kernel_rfl) (fun _ _ _ h => h) (Or.inl ⟨by kernel_rfl, ?_⟩) hH1 ?_
            rotate_left
            · (intro w' hw'; go_simp; first | done | with_reducible rfl)
            refine wpAnyH_take (i := 14) (v := ?_) rfl (by kernel_rfl) (by kernel_rfl) (by kernel_rfl) (fun _ _ _ h => h) (Or.inl ⟨by kernel_rfl, ?_⟩) hH1 ?_
            rotate_left
            · (intro w' hw'; go_simp; first | done | with_reducible rfl)
            refine wpAnyH_take (i := 15) (v := ?_) rfl (by kernel_rfl) (by kernel_rfl) (by kernel_rfl) (fun _ _ _ h => h) (Or.inl ⟨by kernel_rfl, ?_⟩) hH1 ?_
            rotate_left
            · (intro w' hw'; go_simp; first | done | with_reducible rfl)
            refine wpAnyH_take (i := 16) (v := ?_) rfl (by kernel_rfl) (by kernel_rfl) (by kernel_rfl) (fun _ _ _ h => h) (Or.inl ⟨by kernel_rfl, ?_⟩) hH1 ?_
            rotate_left
            · (intro w' hw'; go_simp; first | done | with_reducible rfl)
            refine wpAnyH_take (i := 17) (v := ?_) rfl (by kernel_rfl) (by kernel_rfl) (by kernel_rfl) (fun _ _ _ h => h) (Or.inl ⟨by kernel_rfl, ?_⟩) hH1 ?_
            rotate_left
            · (intro w' hw'; go_simp; first | done | with_reducible rfl)
            refine wpAnyH_take (i := 18) (v := ?_) rfl (by kernel_rfl) (by kernel_rfl) (by kernel_rfl) (fun _ _ _ h => h) (Or.inl ⟨by kernel_rfl, ?_⟩) hH1 ?_
            rotate_left
            · (intro w' hw'; go_simp; first | done | with_reducible rfl)
            refine wpAnyH_take (i := 19) (v := ?_) rfl (by kernel_rfl) (by kernel_rfl) (by kernel_rfl) (fun _ _ _ h => h) (Or.inl ⟨by kernel_rfl, ?_⟩) hH1 ?_
            rotate_left
            · (intro w' hw'; go_simp; first | done | with_reducible rfl)
            refine wpAnyH_take (i := 20) (v := ?_) rfl (by kernel_rfl) (by kernel_rfl) (by kernel_rfl) (fun _ _ _ h => h) (Or.inl ⟨by kernel_rfl, ?_⟩) hH1 ?_
            rotate_left
            · (intro w' hw'; have bh := HX.out _ (HA.out.trans (hw'.mono HA.out.size)); have b3 := cell_at bh 3 _ rfl; go_simp; first | done | with_reducible rfl)
            refine wpAnyH_take (i := 21) (v := ?_) rfl (by kernel_rfl) (by kernel_rfl) (by kernel_rfl) (fun _ _ _ h => h) (Or.inl ⟨by kernel_rfl, ?_⟩) hH1 ?_
            rotate_left
            · (intro w' hw'; go_simp; first | done | with_reducible rfl)
            refine wpAnyH_take (i := 22) (v := ?_) rfl (by kernel_rfl) (by kernel_rfl) (by kernel_rfl) (fun _ _ _ h => h) (Or.inl ⟨by kernel_rfl, ?_⟩) hH1 ?_
            rotate_left
            · (intro w' hw'; go_simp; first | done | with_reducible rfl)
            refine wpAnyH_take (i := 23) (v := ?_) rfl (by kernel_rfl) (by kernel_rfl) (by kernel_rfl) (fun _ _ _ h => h) (Or.inl ⟨by kernel_rfl, ?_⟩) hH1 ?_
            rotate_left
            · (intro w' hw'; go_simp; first | done | with_reducible rfl)
            refine wpAnyH_take (i := 24) (v := ?_) rfl (by kernel_rfl) (by kernel_rfl) (by kernel_rfl) (fun _ _ _ h => h) (Or.inl ⟨by kernel_rfl, ?_⟩) hH1 ?_
            rotate_left
            · (intro w' hw'; go_simp; first | done | with_reducible rfl)
            refine wpAnyH_take (i := 25) (v := ?_) rfl (by kernel_rfl) (by kernel_rfl) (by kernel_rfl) (fun _ _ _ h => h) (Or.inl ⟨by kernel_rfl, ?_⟩) hH1 ?_
            rotate_left
            · (intro w' hw'; have p0 := HPV.out _ hw'; go_simp; first | done | with_reducible rfl)
            refine wpAnyH_take (i := 26) (v := ?_) rfl (by kernel_rfl) (by kernel_rfl) (by kernel_rfl) (fun _ _ _ h => h) (Or.inl ⟨by kernel_rfl, ?_⟩) hH1 ?_
            rotate_left
            · (intro w' hw'; go_simp; first | done | with_reducible rfl)
            refine wpAnyH_take (i := 27) (v := ?_) rfl (by kernel_rfl) (by kernel_rfl) (by kernel_rfl) (fun _ _ _ h => h) (Or.inl ⟨by kernel_rfl, ?_⟩) hH1 ?_
            rotate_left
            · (intro w' hw'; have mh := HCM.out _ hw'; have m0 := cell_at mh 0 _ rfl; have m1 := cell_at mh 1 _ rfl; have m2 := cell_at mh 2 _ rfl; have m3 := cell_at mh 3 _ rfl; go_simp; first | done | with_reducible rfl)
            refine wpAnyH_take (i := 28) (v := ?_) rfl (by kernel_rfl) (by kernel_rfl) (by kernel_rfl) (fun _ _ _ h => h) (Or.inl ⟨by kernel_rfl, ?_⟩) hH1 ?_
            rotate_left
            · (intro w' hw'; go_simp; first | done | with_reducible rfl)
            refine wpAnyH_take (i := 29) (v := ?_) rfl (by kernel_rfl) (by kernel_rfl) (by kernel_rfl) (fun _ _ _ h => h) (Or.inl ⟨by kernel_rfl, ?_⟩) hH1 ?_
            rotate_left
            · (intro w' hw'; go_simp; first | done | with_reducible rfl)
            refine wpAnyH_take (i := 30) (v := ?_) rfl (by kernel_rfl) (by kernel_rfl) (by kernel_rfl) (fun _ _ _ h => h) (Or.inl ⟨by kernel_rfl, ?_⟩) hH1 ?_
            rotate_left
            · (intro w' hw'; go_simp; first | done | with_reducible rfl)
            refine wpAnyH_done (by kernel_rfl) ?_ _
            refine NoPanic.normal ?_
            go_simp
            have hn5 := HN5.out
            go_wp2_with fail
            go_roundw
            case rel => first | exact ⟨k + 1, by omega, by go_num, HOK, Lib.hid (HA.out.trans (hS5.mono HA.out.size))⟩ | ((repeat apply Exists.intro); exact ⟨⟨k + 1, by omega, by go_num, HOK, Lib.hid (HA.out.trans (hS5.mono HA.out.size))⟩, rfl⟩)
            case measure => (show n - ((k : Int) + 1).toNat < n - k; omega)
    · obtain rfl : k = n := by omega
      have HF := Lib.hid (HO.out.all (by rw [HL.out]; omega))
      go_wp2_with fail
      go_ret
      exact ⟨by rw [HF.out]; rfl, HBW.out.trans (HB.out.mono HBW.out.size)⟩
set_option maxHeartbeats 1000000 in
theorem rRight_any (W : World) (S : ByteArray) (E X : Nat) (A : Option Addr) (n c : Nat) (qs : List Y) (hR : Rd cM 4 W A n qs) (hs : S.size ≤ 100000) :
    Calls Tryd.prog 13 #[.agg #[.string S, .int .u32 E, .int .u32 X, .slice A n c]] W fun e w' => e = .returned (.bool (right S E X (nts qs))) ∧ Below W.heap.size W w' := by
  unfold right
  rw [nts_len, hR.1]
  cases hN : named S with
  | true =>
    by_cases hE : E = 0
    case neg =>
      by_cases hX : X = 0
      case neg =>
        by_cases hn : n ≤ 500
        case pos =>
          rw [decide_eq_true hE, decide_eq_true hX, decide_eq_true hn]
          exact rRight_loop W S E X A n c qs hR hs hN hE hX hn
        rw [decide_eq_false hn]
        have qE : ((E : Int) == 0) = false := by rw [beq_eq_false_iff_ne]; omega
        have qX : ((X : Int) == 0) = false := by rw [beq_eq_false_iff_ne]; omega
        have qn : decide ((500 : Int) < (n : Int)) = true := by rw [decide_eq_true_iff]; omega
        have HE := Lib.hid (And.intro (decide_eq_true hE) (decide_eq_true hX))
        clear hE hX hn hR
        have HN := Lib.hid (bod.rNamed_any (W.alloc (.cells #[.string S, .int .u32 E, .int .u32 X, .slice A n c] 25)) S hs)
        rw [hN] at HN
        clear hN hs
        go_enter Tryd.func13, Tryd.ntmps13
        go_wp2_with fail
        refine HN.out.mono ?_
        rintro e w1 ⟨rfl, hb1⟩
        have c1 := cell_at (boxed hb1).1 1 _ rfl
        have c2 := cell_at (boxed hb1).1 2 _ rfl
        have c3 := cell_at (boxed hb1).1 3 _ rfl
        go_wp2_with fail
        go_ret
        exact ⟨by rw [HE.out.1, HE.out.2]; rfl, (boxed hb1).2⟩
      have qX : ((X : Int) == 0) = true := by rw [beq_iff_eq]; omega
      have HX0 := Lib.hid (show decide (X ≠ 0) = false from decide_eq_false (by omega))
      have qE : ((E : Int) == 0) = false := by rw [beq_eq_false_iff_ne]; omega
      have HE := Lib.hid (decide_eq_true hE)
      clear hE hR hX
      have HN := Lib.hid (bod.rNamed_any (W.alloc (.cells #[.string S, .int .u32 E, .int .u32 X, .slice A n c] 25)) S hs)
      rw [hN] at HN
      clear hN hs
      go_enter Tryd.func13, Tryd.ntmps13
      go_wp2_with fail
      refine HN.out.mono ?_
      rintro e w1 ⟨rfl, hb1⟩
      have c1 := cell_at (boxed hb1).1 1 _ rfl
      have c2 := cell_at (boxed hb1).1 2 _ rfl
      have c3 := cell_at (boxed hb1).1 3 _ rfl
      go_wp2_with fail
      go_ret
      exact ⟨by rw [HE.out, HX0.out]; rfl, (boxed hb1).2⟩
    have qE : ((E : Int) == 0) = true := by rw [beq_iff_eq]; omega
    have HE := Lib.hid (show decide (E ≠ 0) = false from decide_eq_false (by omega))
    clear hR hE
    have HN := Lib.hid (bod.rNamed_any (W.alloc (.cells #[.string S, .int .u32 E, .int .u32 X, .slice A n c] 25)) S hs)
    rw [hN] at HN
    clear hN hs
    go_enter Tryd.func13, Tryd.ntmps13
    go_wp2_with fail
    refine HN.out.mono ?_
    rintro e w1 ⟨rfl, hb1⟩
    have c1 := cell_at (boxed hb1).1 1 _ rfl
    have c2 := cell_at (boxed hb1).1 2 _ rfl
    have c3 := cell_at (boxed hb1).1 3 _ rfl
    go_wp2_with fail
    go_ret
    exact ⟨by rw [HE.out]; rfl, (boxed hb1).2⟩
  | false =>
    clear hR
    have HN := Lib.hid (bod.rNamed_any (W.alloc (.cells #[.string S, .int .u32 E, .int .u32 X, .slice A n c] 25)) S hs)
    rw [hN] at HN
    clear hN hs
    go_enter Tryd.func13, Tryd.ntmps13
    go_wp2_with fail
    refine HN.out.mono ?_
    rintro e w1 ⟨rfl, hb1⟩
    have c1 := cell_at (boxed hb1).1 1 _ rfl
    have c2 := cell_at (boxed hb1).1 2 _ rfl
    have c3 := cell_at (boxed hb1).1 3 _ rfl
    go_wp2_with fail
    go_ret
    exact ⟨rfl, (boxed hb1).2⟩
end Go.Proofs.YtepngemlaiffgaaDoor.mal
namespace Go.Proofs.YtepngemlaiffgaaDoor.mal
open Go.ChangeShapes Go.WideShapes Go.ChangeAt Go.RowKit
open Go.Proofs.YtepngemlaiffgaaDoor.codec (Bytes strOf strOf_inj)
open Go.Proofs.YtepngemlaiffgaaDoor.bod (cell_at Fit formedB fitsB boxed named)
open Go.Proofs.YtepngemlaiffgaaDoor.lg (Nt Y Rd cM nts nts_at nts_len take_next)
set_option linter.unusedVariables false
set_option maxRecDepth 100000
set_option linter.unusedSimpArgs false

def eqM (a b : Nt) : Bool := decide (a.u = b.u) && (decide (a.d = b.d) && (decide (a.f = b.f) && decide (a.o = b.o)))
def all2 {α : Type} (p : α → α → Bool) : List α → List α → Bool
  | [], [] => true
  | x :: r, y :: s => p x y && all2 p r s
  | _, _ => false
theorem all2_len {α : Type} {p : α → α → Bool} : ∀ {l m : List α}, l.length ≠ m.length → all2 p l m = false
  | [], [], h => absurd rfl h
  | [], y :: s, h => rfl
  | x :: r, [], h => rfl
  | x :: r, y :: s, h => by
    rw [all2, all2_len (l := r) (m := s) (by simpa using h), Bool.and_false]
theorem all2_at {α : Type} {p : α → α → Bool} {l m : List α} {k : Nat} {x y : α} (hx : l[k]? = some x) (hy : m[k]? = some y) : all2 p (l.drop k) (m.drop k) = (p x y && all2 p (l.drop (k + 1)) (m.drop (k + 1))) := by
  obtain ⟨h1, h2⟩ := List.getElem?_eq_some_iff.1 hx
  obtain ⟨h3, h4⟩ := List.getElem?_eq_some_iff.1 hy
  rw [List.drop_eq_getElem_cons h1, List.drop_eq_getElem_cons h3, all2, h2, h4]
theorem all2_end {α : Type} {p : α → α → Bool} {l m : List α} {k : Nat} (hl : l.length ≤ k) (hm : m.length ≤ k) : all2 p (l.drop k) (m.drop k) = true := by
  rw [List.drop_eq_nil_of_le hl, List.drop_eq_nil_of_le hm, all2]
def sameB (S : ByteArray) (E X : Nat) (l : List Nt) (S' : ByteArray) (E' X' : Nat) (l' : List Nt) : Bool :=
  decide (S = S') && (decide (E = E') && (decide (X = X') && all2 eqM l l'))
theorem eqM_no {a b : Nt} (h : a.u ≠ b.u ∨ a.d ≠ b.d ∨ a.f ≠ b.f ∨ a.o ≠ b.o) : eqM a b = false := by
  unfold eqM
  rcases h with h | h | h | h <;> simp [h]
theorem eqM_yes {a b : Nt} (h1 : a.u = b.u) (h2 : a.d = b.d) (h3 : a.f = b.f) (h4 : a.o = b.o) : eqM a b = true := by
  unfold eqM
  simp [h1, h2, h3, h4]
theorem bytesEqual_any (W : World) (A A' : Option Addr) (n c n' c' : Nat) (o o' : List Nat) (hB : Bytes W A n o) (hB' : Bytes W A' n' o') :
    Calls Tryd.prog 52 #[.slice A n c, .slice A' n' c'] W fun x w' => x = .returned (.bool (decide (o = o'))) ∧ w' = W := by
  have t1 := hB.text c
  have t2 := hB'.text c'
  by_cases h : o = o'
  · subst h
    rw [decide_eq_true rfl]
    clear hB hB'
    go_enter Tryd.func52, Tryd.ntmps52
    go_wp2
    go_ret
    exact ⟨rfl, rfl⟩
  · have hne := rd.str_ne (fun e => h (strOf_inj hB.2.1 hB'.2.1 e))
    rw [decide_eq_false h]
    clear hB hB' h
    go_enter Tryd.func52, Tryd.ntmps52
    go_wp2
    go_ret
    exact ⟨by simpa [ByteArray.toList_eq] using hne, rfl⟩
set_option maxHeartbeats 1000000 in
theorem sameMsg_any (W : World) (a b : Nt) (A A' : Option Addr) (n c n' c' : Nat) (hB : Bytes W A n a.o) (hB' : Bytes W A' n' b.o) :
    Calls Tryd.prog 35 #[.agg #[.int .u32 a.u, .int .i64 a.d, .int .i64 a.f, .slice A n c], .agg #[.int .u32 b.u, .int .i64 b.d, .int .i64 b.f, .slice A' n' c']] W fun x w' => x = .returned (.bool (eqM a b)) ∧ Below W.heap.size W w' := by
  obtain ⟨k, e, s, u, d, f, o⟩ := a
  obtain ⟨k', e', s', u', d', f', o'⟩ := b
  simp only [] at hB hB'
  have HBW := Lib.hid (show Below W.heap.size W ((W.alloc (.cells #[.int .u32 u, .int .i64 d, .int .i64 f, .slice A n c] 30)).alloc (.cells #[.int .u32 u', .int .i64 d', .int .i64 f', .slice A' n' c'] 30)) from ((Below.refl _ _).alloc (Nat.le_refl _) _).alloc (by simp) _)
  have HE := Lib.hid (bytesEqual_any _ A A' n c n' c' o o' (hB.below hB.lt HBW.out) (hB'.below hB'.lt HBW.out))
  clear hB hB'
  by_cases hu : u = u'
  rotate_left
  · rw [eqM_no (.inl hu)]
    have q1 : ((u : Int) == (u' : Int)) = false := by rw [beq_eq_false_iff_ne]; omega
    clear hu
    go_enter Tryd.func35, Tryd.ntmps35
    go_wp2_with (go_at_call 52; refine HE.out.mono ?_; rintro e w1 ⟨rfl, hw⟩; replace hw := hw.symm; subst hw)
    go_ret
    exact ⟨rfl, HBW.out⟩
  subst hu
  by_cases hd : d = d'
  rotate_left
  · rw [eqM_no (.inr (.inl hd))]
    have q1 : (d == d') = false := by rw [beq_eq_false_iff_ne]; exact hd
    clear hd
    go_enter Tryd.func35, Tryd.ntmps35
    go_wp2_with (go_at_call 52; refine HE.out.mono ?_; rintro e w1 ⟨rfl, hw⟩; replace hw := hw.symm; subst hw)
    go_ret
    exact ⟨rfl, HBW.out⟩
  subst hd
  by_cases hf : f = f'
  rotate_left
  · rw [eqM_no (.inr (.inr (.inl hf)))]
    have q1 : (f == f') = false := by rw [beq_eq_false_iff_ne]; exact hf
    clear hf
    go_enter Tryd.func35, Tryd.ntmps35
    go_wp2_with (go_at_call 52; refine HE.out.mono ?_; rintro e w1 ⟨rfl, hw⟩; replace hw := hw.symm; subst hw)
    go_ret
    exact ⟨rfl, HBW.out⟩
  subst hf
  by_cases ho : o = o'
  · rw [show eqM ⟨k, e, s, u, d, f, o⟩ ⟨k', e', s', u, d, f, o'⟩ = true from eqM_yes rfl rfl rfl ho]
    rw [decide_eq_true ho] at HE
    clear ho
    go_enter Tryd.func35, Tryd.ntmps35
    go_wp2_with (go_at_call 52; refine HE.out.mono ?_; rintro e w1 ⟨rfl, hw⟩; replace hw := hw.symm; subst hw)
    go_ret
    exact ⟨rfl, HBW.out⟩
  · rw [eqM_no (.inr (.inr (.inr ho)))]
    rw [decide_eq_false ho] at HE
    clear ho
    go_enter Tryd.func35, Tryd.ntmps35
    go_wp2_with (go_at_call 52; refine HE.out.mono ?_; rintro e w1 ⟨rfl, hw⟩; replace hw := hw.symm; subst hw)
    go_ret
    exact ⟨rfl, HBW.out⟩
set_option maxHeartbeats 1000000 in
theorem rSame_any (W : World) (a b : Nt) (A A' : Option Addr) (n c n' c' : Nat) (hB : Bytes W A n a.o) (hB' : Bytes W A' n' b.o) :
    Calls Tryd.prog 36 #[.agg #[.int .u32 a.u, .int .i64 a.d, .int .i64 a.f, .slice A n c], .agg #[.int .u32 b.u, .int .i64 b.d, .int .i64 b.f, .slice A' n' c']] W fun x w' => x = .returned (.bool (eqM a b)) ∧ Below W.heap.size W w' := by
  obtain ⟨k, e, s, u, d, f, o⟩ := a
  obtain ⟨k', e', s', u', d', f', o'⟩ := b
  simp only [] at hB hB'
  have HBW := Lib.hid (show Below W.heap.size W ((W.alloc (.cells #[.int .u32 u, .int .i64 d, .int .i64 f, .slice A n c] 30)).alloc (.cells #[.int .u32 u', .int .i64 d', .int .i64 f', .slice A' n' c'] 30)) from ((Below.refl _ _).alloc (Nat.le_refl _) _).alloc (by simp) _)
  have t1 := (hB.below hB.lt HBW.out).text c
  have t2 := (hB'.below hB'.lt HBW.out).text c'
  have hi : strOf o = strOf o' → o = o' := fun e => strOf_inj hB.2.1 hB'.2.1 e
  have HI := Lib.hid hi
  clear hB hB' hi
  by_cases hu : u = u'
  rotate_left
  · rw [eqM_no (.inl hu)]
    have q1 : ((u : Int) == (u' : Int)) = false := by rw [beq_eq_false_iff_ne]; omega
    clear hu
    go_enter Tryd.func36, Tryd.ntmps36
    go_wp2_with fail
    go_ret
    exact ⟨rfl, HBW.out⟩
  subst hu
  by_cases hd : d = d'
  rotate_left
  · rw [eqM_no (.inr (.inl hd))]
    have q1 : (d == d') = false := by rw [beq_eq_false_iff_ne]; exact hd
    clear hd
    go_enter Tryd.func36, Tryd.ntmps36
    go_wp2_with fail
    go_ret
    exact ⟨rfl, HBW.out⟩
  subst hd
  by_cases hf : f = f'
  rotate_left
  · rw [eqM_no (.inr (.inr (.inl hf)))]
    have q1 : (f == f') = false := by rw [beq_eq_false_iff_ne]; exact hf
    clear hf
    go_enter Tryd.func36, Tryd.ntmps36
    go_wp2_with fail
    go_ret
    exact ⟨rfl, HBW.out⟩
  subst hf
  by_cases ho : o = o'
  · subst ho
    rw [show eqM ⟨k, e, s, u, d, f, o⟩ ⟨k', e', s', u, d, f, o⟩ = true from eqM_yes rfl rfl rfl rfl]
    clear HI
    go_enter Tryd.func36, Tryd.ntmps36
    go_wp2_with fail
    go_ret
    exact ⟨rfl, HBW.out⟩
  · rw [eqM_no (.inr (.inr (.inr ho)))]
    have hne := rd.str_ne (fun e => ho (HI.out e))
    clear ho HI
    go_enter Tryd.func36, Tryd.ntmps36
    go_wp2_with fail
    go_ret
    exact ⟨by simpa [ByteArray.toList_eq] using hne, HBW.out⟩
set_option maxHeartbeats 2000000 in
theorem equalF_any (W : World) (A B : Option Addr) (n c m d : Nat) (xs zs : List Y) (hA : Rd cM 4 W A n xs) (hB : Rd cM 4 W B m zs) (hn : n ≤ 1000000) :
    Calls Tryd.prog 34 #[.slice A n c, .slice B m d, .func (.func 35) #[] #[]] W fun x w' => x = .returned (.bool (all2 eqM (nts xs) (nts zs))) ∧ Below W.heap.size W w' := by
  by_cases hnm : n = m
  rotate_left
  · rw [all2_len (by rw [nts_len, nts_len, hA.1, hB.1]; exact hnm)]
    have q1 : ((n : Int) != (m : Int)) = true := by rw [bne_iff_ne]; omega
    clear hA hB hnm
    go_enter Tryd.func34, Tryd.ntmps34
    go_wp2
    go_ret
    exact ⟨rfl, Below.refl _ _⟩
  subst hnm
  have HA := Lib.hid hA
  have HB := Lib.hid hB
  have HL := Lib.hid (show (nts xs).length = n ∧ (nts zs).length = n by rw [nts_len, nts_len, hA.1, hB.1]; exact ⟨rfl, rfl⟩)
  clear hA hB
  go_enter Tryd.func34, Tryd.ntmps34
  go_wp2
  go_loopw [17] (fun i wr => ∃ k : Nat, k ≤ n ∧ i = .int .i64 k ∧ Hid (all2 eqM (nts xs) (nts zs) = all2 eqM ((nts xs).drop k) ((nts zs).drop k)) ∧ Hid (Below W.heap.size W wr)) (fun i _ => n - (intOf i).toNat)
  case atStart => exact ⟨0, Nat.zero_le _, rfl, Lib.hid rfl, Lib.hid (Below.refl _ _)⟩
  case round =>
    obtain ⟨k, hk, rfl, HU, HB1⟩ := hrel
    by_cases hlt : k < n
    · obtain ⟨b, o, x, rfl, hx, d0, d1, d2, d3, hox⟩ := (HA.out.below HB1.out).at4 k hlt
      obtain ⟨wr1, hwr1⟩ : ∃ wr1, wr1 = wr.alloc (.cells #[.int .u32 (x.n.u : Nat), .int .i64 x.n.d, .int .i64 x.n.f, .slice x.A x.m x.c] 30) := ⟨_, rfl⟩
      have HWB := Lib.hid (show Below wr.heap.size wr wr1 by rw [hwr1]; exact (Below.refl _ _).alloc (Nat.le_refl _) _)
      have HBA := Lib.hid (HB1.out.trans (HWB.out.mono HB1.out.size))
      obtain ⟨b', o', z, rfl, hz, f0, f1, f2, f3, hoz⟩ := (HB.out.below HBA.out).at4 k hlt
      have HBC := Lib.hid (show Below wr.heap.size wr (wr1.alloc (.cells #[.int .u32 (z.n.u : Nat), .int .i64 z.n.d, .int .i64 z.n.f, .slice z.A z.m z.c] 30)) from HWB.out.alloc HWB.out.size _)
      have HSM := Lib.hid (sameMsg_any (wr1.alloc (.cells #[.int .u32 (z.n.u : Nat), .int .i64 z.n.d, .int .i64 z.n.f, .slice z.A z.m z.c] 30)) x.n z.n x.A z.A x.m x.c z.m z.c ((hox.below HBC.out).1) ((hoz.below ((Below.refl _ _).alloc (Nat.le_refl _) _)).1))
      have HT := Lib.hid (HU.out.trans (all2_at (p := eqM) (nts_at hx) (nts_at hz)))
      have HBD := Lib.hid (HB1.out.trans (HBC.out.mono HB1.out.size))
      have hlt' : (k : Int) < (n : Int) := by omega
      subst hwr1
      clear hx hz hox hoz HWB HBC HBA
      generalize eqM x.n z.n = r at *
      obtain ⟨⟨tk, te, ts, tu, td, tf, to_⟩, a1, A1, m1, c1⟩ := x
      obtain ⟨⟨sk, se, ss, su, sd, sf, so_⟩, a2, A2, m2, c2⟩ := z
      simp only [] at d0 d1 d2 d3 f0 f1 f2 f3 HSM HBD
      cases r
      · go_wp2_with (go_at_call 35; refine HSM.out.mono ?_; rintro e w1 ⟨rfl, hb⟩)
        go_ret
        exact ⟨by rw [HT.out]; rfl, HBD.out.trans (hb.mono HBD.out.size)⟩
      · go_wp2_with (go_at_call 35; refine HSM.out.mono ?_; rintro e w1 ⟨rfl, hb⟩; have HBE := Lib.hid (HBD.out.trans (hb.mono HBD.out.size)); clear hb)
        have HT2 := Lib.hid (HT.out.trans (Bool.true_and _))
        go_roundw
        case rel => first | exact ⟨k + 1, by omega, by go_num, HT2, HBE⟩ | ((repeat apply Exists.intro); exact ⟨⟨k + 1, by omega, by go_num, HT2, HBE⟩, rfl⟩)
        case measure => (show n - ((k : Int) + 1).toNat < n - k; omega)
    · obtain rfl : k = n := by omega
      have HF := Lib.hid (HU.out.trans (all2_end (p := eqM) (k := k) (Nat.le_of_eq HL.out.1) (Nat.le_of_eq HL.out.2)))
      go_wp2
      go_ret
      exact ⟨by rw [HF.out]; rfl, HB1.out⟩
set_option maxHeartbeats 2000000 in
theorem same_any (W : World) (S S' : ByteArray) (E X E' X' : Nat) (A B : Option Addr) (n c m d : Nat) (xs zs : List Y) (hA : Rd cM 4 W A n xs) (hB : Rd cM 4 W B m zs) (hn : n ≤ 1000000) :
    Calls Tryd.prog 14 #[.agg #[.string S, .int .u32 E, .int .u32 X, .slice A n c], .agg #[.string S', .int .u32 E', .int .u32 X', .slice B m d]] W fun x w' => x = .returned (.bool (sameB S E X (nts xs) S' E' X' (nts zs))) ∧ Below W.heap.size W w' := by
  obtain ⟨W1, hW1⟩ : ∃ W1, W1 = (W.alloc (.cells #[.string S, .int .u32 E, .int .u32 X, .slice A n c] 25)).alloc (.cells #[.string S', .int .u32 E', .int .u32 X', .slice B m d] 25) := ⟨_, rfl⟩
  have HBW := Lib.hid (show Below W.heap.size W W1 by rw [hW1]; exact ((Below.refl _ _).alloc (Nat.le_refl _) _).alloc (by simp) _)
  have HE := Lib.hid (equalF_any W1 A B n c m d xs zs (hA.below HBW.out) (hB.below HBW.out) hn)
  rw [hW1] at HE HBW
  clear hA hB hW1
  unfold sameB
  generalize all2 eqM (nts xs) (nts zs) = r at *
  by_cases hS : S = S'
  rotate_left
  · rw [decide_eq_false hS]
    have q1 : (S.toList == S'.toList) = false := by have := rd.str_ne hS; simpa [ByteArray.toList_eq] using this
    have q2 : (S.data.toList == S'.data.toList) = false := by have := rd.str_ne hS; simpa [ByteArray.toList_eq] using this
    clear hS HE
    go_enter Tryd.func14, Tryd.ntmps14
    go_wp2
    go_ret
    exact ⟨rfl, HBW.out⟩
  by_cases hE : E = E'
  rotate_left
  · rw [decide_eq_false hE, decide_eq_true hS]
    have q1 : ((E : Int) == (E' : Int)) = false := by rw [beq_eq_false_iff_ne]; omega
    clear hE HE
    subst hS
    go_enter Tryd.func14, Tryd.ntmps14
    go_wp2
    go_ret
    exact ⟨rfl, HBW.out⟩
  by_cases hX : X = X'
  rotate_left
  · rw [decide_eq_false hX, decide_eq_true hS, decide_eq_true hE]
    have q1 : ((X : Int) == (X' : Int)) = false := by rw [beq_eq_false_iff_ne]; omega
    clear hX HE
    subst hS hE
    go_enter Tryd.func14, Tryd.ntmps14
    go_wp2
    go_ret
    exact ⟨rfl, HBW.out⟩
  rw [decide_eq_true hX, decide_eq_true hS, decide_eq_true hE]
  subst hS hE hX
  go_enter Tryd.func14, Tryd.ntmps14
  go_wp2_with (go_at_call 34; refine HE.out.mono ?_; rintro e w1 ⟨rfl, hb⟩)
  go_ret
  exact ⟨rfl, HBW.out.trans (hb.mono HBW.out.size)⟩
end Go.Proofs.YtepngemlaiffgaaDoor.mal
namespace Go.Proofs.YtepngemlaiffgaaDoor.mal
open Go.ChangeShapes Go.WideShapes Go.ChangeAt Go.RowKit
open Go.Proofs.YtepngemlaiffgaaDoor.codec (Bytes strOf strOf_inj)
open Go.Proofs.YtepngemlaiffgaaDoor.bod (cell_at Fit formedB fitsB boxed named)
open Go.Proofs.YtepngemlaiffgaaDoor.lg (Nt Y Rd cM nts nts_at nts_len take_next)
set_option linter.unusedVariables false
set_option maxRecDepth 100000
set_option linter.unusedSimpArgs false

set_option maxHeartbeats 4000000 in
theorem sameBox_loop (W : World) (S : ByteArray) (E X : Nat) (A B : Option Addr) (n c d : Nat) (xs zs : List Y) (hA : Rd cM 4 W A n xs) (hB : Rd cM 4 W B n zs) (hn : n ≤ 1000000) :
    Calls Tryd.prog 15 #[.agg #[.string S, .int .u32 E, .int .u32 X, .slice A n c], .agg #[.string S, .int .u32 E, .int .u32 X, .slice B n d]] W fun x w' => x = .returned (.bool (all2 eqM (nts xs) (nts zs))) ∧ Below W.heap.size W w' := by
  obtain ⟨W1, hW1⟩ : ∃ W1, W1 = (W.alloc (.cells #[.string S, .int .u32 E, .int .u32 X, .slice A n c] 25)).alloc (.cells #[.string S, .int .u32 E, .int .u32 X, .slice B n d] 25) := ⟨_, rfl⟩
  have HBW := Lib.hid (show Below W.heap.size W W1 by rw [hW1]; exact ((Below.refl _ _).alloc (Nat.le_refl _) _).alloc (by simp) _)
  have HP1 := Lib.hid (fun (w' : World) (h : Below W1.heap.size W1 w') => show w'.heap[W.heap.size]? = some (.cells #[.string S, .int .u32 E, .int .u32 X, .slice A n c] 25 (0, 0)) from (h.block _ (by rw [hW1]; simp; omega)).trans (by rw [hW1, heap_alloc_old _ _ (by simp)]; exact heap_alloc_new _ _))
  have HP2 := Lib.hid (fun (w' : World) (h : Below W1.heap.size W1 w') => show w'.heap[W.heap.size + 1]? = some (.cells #[.string S, .int .u32 E, .int .u32 X, .slice B n d] 25 (0, 0)) from (h.block _ (by rw [hW1]; simp)).trans (by rw [hW1]; have := heap_alloc_new (W.alloc (.cells #[.string S, .int .u32 E, .int .u32 X, .slice A n c] 25)) (.cells #[.string S, .int .u32 E, .int .u32 X, .slice B n d] 25); simpa using this))
  have HRA := Lib.hid (fun (w' : World) (h : Below W1.heap.size W1 w') => hA.below (HBW.out.trans (h.mono HBW.out.size)))
  have HRB := Lib.hid (fun (w' : World) (h : Below W1.heap.size W1 w') => hB.below (HBW.out.trans (h.mono HBW.out.size)))
  have HL := Lib.hid (show (nts xs).length = n ∧ (nts zs).length = n by rw [nts_len, nts_len, hA.1, hB.1]; exact ⟨rfl, rfl⟩)
  have HW1 := Lib.hid hW1
  clear hW1 hA hB
  go_enter Tryd.func15, Tryd.ntmps15
  go_wp2_with fail
  rw [← HW1.out]
  go_loopw [37] (fun i wr => ∃ k : Nat, k ≤ n ∧ i = .int .i64 k ∧ Hid (all2 eqM (nts xs) (nts zs) = all2 eqM ((nts xs).drop k) ((nts zs).drop k)) ∧ Hid (Below W1.heap.size W1 wr)) (fun i _ => n - (intOf i).toNat)
  case atStart => exact ⟨0, Nat.zero_le _, rfl, Lib.hid rfl, Lib.hid (Below.refl _ _)⟩
  case round =>
    obtain ⟨k, hk, rfl, HU, HB⟩ := hrel
    by_cases hlt : k < n
    · obtain ⟨b, o, x, rfl, hx, e0, e1, e2, e3, hox⟩ := (HRA.out _ HB.out).at4 k hlt
      obtain ⟨b', o', z, rfl, hz, f0, f1, f2, f3, hoz⟩ := (HRB.out _ HB.out).at4 k hlt
      have HT := Lib.hid (HU.out.trans (all2_at (p := eqM) (nts_at hx) (nts_at hz)))
      have HSM := Lib.hid (fun (w' : World) (hw : Below wr.heap.size wr w') => rSame_any w' x.n z.n x.A z.A x.m x.c z.m z.c (hox.1.below hox.1.lt hw) (hoz.1.below hoz.1.lt hw))
      generalize eqM x.n z.n = r at *
      obtain ⟨⟨tk, te, ts, tu, td, tf, to_⟩, a1, A1, m1, c1⟩ := x
      obtain ⟨⟨sk, se, ss, su, sd, sf, so_⟩, a2, A2, m2, c2⟩ := z
      simp only [] at e0 e1 e2 e3 f0 f1 f2 f3 HSM
      have lt1 := block_lt_of_cell e0
      have lt2 := block_lt_of_cell f0
      have HCX := Lib.hid (fun (w' : World) (hw : Below wr.heap.size wr w') => And.intro ((hw.cell (p := ⟨b, o + k * 4, none⟩) lt1).trans e0) (And.intro ((hw.cell (p := ⟨b, o + k * 4 + 1, none⟩) lt1).trans e1) (And.intro ((hw.cell (p := ⟨b, o + k * 4 + 2, none⟩) lt1).trans e2) ((hw.cell (p := ⟨b, o + k * 4 + 3, none⟩) lt1).trans e3))))
      have HCZ := Lib.hid (fun (w' : World) (hw : Below wr.heap.size wr w') => And.intro ((hw.cell (p := ⟨b', o' + k * 4, none⟩) lt2).trans f0) (And.intro ((hw.cell (p := ⟨b', o' + k * 4 + 1, none⟩) lt2).trans f1) (And.intro ((hw.cell (p := ⟨b', o' + k * 4 + 2, none⟩) lt2).trans f2) ((hw.cell (p := ⟨b', o' + k * 4 + 3, none⟩) lt2).trans f3))))
      have HST := Lib.hid (show Below wr.heap.size wr wr.drew from codec.below_draws (Below.refl _ _) 1)
      have hlt' : (k : Int) < (n : Int) := by omega
      clear hx hz e0 e1 e2 e3 f0 f1 f2 f3 hox hoz lt1 lt2
      cases r
      · go_wp2_with fail
        refine wp_region_noPanic ?_
        refine wp_region_held_drew (S := fun w' => Below wr.heap.size wr w') (by kernel_rfl) HST.out (fun hHeld => ?_)
        refine wpAnyH_take (i := 0) (v := ?_) rfl (by kernel_rfl) (by kernel_rfl) (by kernel_rfl) (fun _ _ _ h => h) (Or.inl ⟨by kernel_rfl, ?_⟩) hHeld ?_
        rotate_left
        · (intro w' hw'; go_simp; first | done | with_reducible rfl)
        refine wpAnyH_take (i := 1) (v := ?_) rfl (by kernel_rfl) (by kernel_rfl) (by kernel_rfl) (fun _ _ _ h => h) (Or.inl ⟨by kernel_rfl, ?_⟩) hHeld ?_
        rotate_left
        · (intro w' hw'; have c3 := cell_at (HP1.out _ (HB.out.trans (hw'.mono HB.out.size))) 3 _ rfl; go_simp; first | done | with_reducible rfl)
        refine wpAnyH_take (i := 2) (v := ?_) rfl (by kernel_rfl) (by kernel_rfl) (by kernel_rfl) (fun _ _ _ h => h) (Or.inl ⟨by kernel_rfl, ?_⟩) hHeld ?_
        rotate_left
        · (intro w' hw'; go_simp; first | done | with_reducible rfl)
        refine wpAnyH_take (i := 3) (v := ?_) rfl (by kernel_rfl) (by kernel_rfl) (by kernel_rfl) (fun _ _ _ h => h) (Or.inl ⟨by kernel_rfl, ?_⟩) hHeld ?_
        rotate_left
        · (intro w' hw'; go_simp; first | done | with_reducible rfl)
        refine wpAnyH_take (i := 4) (v := ?_) rfl (by kernel_rfl) (by kernel_rfl) (by kernel_rfl) (fun _ _ _ h => h) (Or.inl ⟨by kernel_rfl, ?_⟩) hHeld ?_
        rotate_left
        · (intro w' hw'; obtain ⟨x0, x1, x2, x3⟩ := HCX.out _ hw'; go_simp; first | done | with_reducible rfl)
        refine wpAnyH_take (i := 5) (v := ?_) rfl (by kernel_rfl) (by kernel_rfl) (by kernel_rfl) (fun _ _ _ h => h) (Or.inl ⟨by kernel_rfl, ?_⟩) hHeld ?_
        rotate_left
        · (intro w' hw'; go_simp; first | done | with_reducible rfl)
        refine wpAnyH_take (i := 6) (v := ?_) rfl (by kernel_rfl) (by kernel_rfl) (by kernel_rfl) (fun _ _ _ h => h) (Or.inl ⟨by kernel_rfl, ?_⟩) hHeld ?_
        rotate_left
        · (intro w' hw'; have c3 := cell_at (HP2.out _ (HB.out.trans (hw'.mono HB.out.size))) 3 _ rfl; go_simp; first | done | with_reducible rfl)
        refine wpAnyH_take (i := 7) (v := ?_) rfl (by kernel_rfl) (by kernel_rfl) (by kernel_rfl) (fun _ _ _ h => h) (Or.inl ⟨by kernel_rfl, ?_⟩) hHeld ?_
        rotate_left
        · (intro w' hw'; go_simp; first | done | with_reducible rfl)
        refine wpAnyH_take (i := 8) (v := ?_) rfl (by kernel_rfl) (by kernel_rfl) (by kernel_rfl) (fun _ _ _ h => h) (Or.inl ⟨by kernel_rfl, ?_⟩) hHeld ?_
        rotate_left
        · (intro w' hw'; go_simp; first | done | with_reducible rfl)
        refine wpAnyH_take (i := 9) (v := ?_) rfl (by kernel_rfl) (by kernel_rfl) (by kernel_rfl) (fun _ _ _ h => h) (Or.inl ⟨by kernel_rfl, ?_⟩) hHeld ?_
        rotate_left
        · (intro w' hw'; obtain ⟨x0, x1, x2, x3⟩ := HCZ.out _ hw'; go_simp; first | done | with_reducible rfl)
        refine wpAnyH_ready (rs := [10]) (by kernel_rfl) (by simp) ?_
        refine AllReadyH.cons rfl (fun K hK => ?_) AllReadyH.nil
        go_simp
        refine (HSM.out _ hHeld).mono ?_
        rintro x w5 ⟨rfl, hb5⟩
        have hS5 := hHeld.trans (hb5.mono hHeld.size)
        clear hb5
        go_wp2_with fail
        refine hK.out _ _ hS5 (fun hH1 => ?_)
        clear hK K hHeld
        refine wpAnyH_take (i := 11) (v := ?_) rfl (by kernel_rfl) (by kernel_rfl) (by kernel_rfl) (fun _ _ _ h => h) (Or.inl ⟨by kernel_rfl, ?_⟩) hH1 ?_
        rotate_left
        · (intro w' hw'; go_simp; first | done | with_reducible rfl)
        refine wpAnyH_done (by kernel_rfl) ?_ _
        refine NoPanic.normal ?_
        go_simp
        go_wp2_with fail
        go_ret
        exact ⟨by rw [HT.out]; rfl, HBW.out.trans ((HB.out.trans (hS5.mono HB.out.size)).mono HBW.out.size)⟩
      · go_wp2_with fail
        refine wp_region_noPanic ?_
        refine wp_region_held_drew (S := fun w' => Below wr.heap.size wr w') (by kernel_rfl) HST.out (fun hHeld => ?_)
        refine wpAnyH_take (i := 0) (v := ?_) rfl (by kernel_rfl) (by kernel_rfl) (by kernel_rfl) (fun _ _ _ h => h) (Or.inl ⟨by kernel_rfl, ?_⟩) hHeld ?_
        rotate_left
        · (intro w' hw'; go_simp; first | done | with_reducible rfl)
        refine wpAnyH_take (i := 1) (v := ?_) rfl (by kernel_rfl) (by kernel_rfl) (by kernel_rfl) (fun _ _ _ h => h) (Or.inl ⟨by kernel_rfl, ?_⟩) hHeld ?_
        rotate_left
        · (intro w' hw'; have c3 := cell_at (HP1.out _ (HB.out.trans (hw'.mono HB.out.size))) 3 _ rfl; go_simp; first | done | with_reducible rfl)
        refine wpAnyH_take (i := 2) (v := ?_) rfl (by kernel_rfl) (by kernel_rfl) (by kernel_rfl) (fun _ _ _ h => h) (Or.inl ⟨by kernel_rfl, ?_⟩) hHeld ?_
        rotate_left
        · (intro w' hw'; go_simp; first | done | with_reducible rfl)
        refine wpAnyH_take (i := 3) (v := ?_) rfl (by kernel_rfl) (by kernel_rfl) (by kernel_rfl) (fun _ _ _ h => h) (Or.inl ⟨by kernel_rfl, ?_⟩) hHeld ?_
        rotate_left
        · (intro w' hw'; go_simp; first | done | with_reducible rfl)
        refine wpAnyH_take (i := 4) (v := ?_) rfl (by kernel_rfl) (by kernel_rfl) (by kernel_rfl) (fun _ _ _ h => h) (Or.inl ⟨by kernel_rfl, ?_⟩) hHeld ?_
        rotate_left
        · (intro w' hw'; obtain ⟨x0, x1, x2, x3⟩ := HCX.out _ hw'; go_simp; first | done | with_reducible rfl)
        refine wpAnyH_take (i := 5) (v := ?_) rfl (by kernel_rfl) (by kernel_rfl) (by kernel_rfl) (fun _ _ _ h => h) (Or.inl ⟨by kernel_rfl, ?_⟩) hHeld ?_
        rotate_left
        · (intro w' hw'; go_simp; first | done | with_reducible rfl)
        refine wpAnyH_take (i := 6) (v := ?_) rfl (by kernel_rfl) (by kernel_rfl) (by kernel_rfl) (fun _ _ _ h => h) (Or.inl ⟨by kernel_rfl, ?_⟩) hHeld ?_
        rotate_left
        · (intro w' hw'; have c3 := cell_at (HP2.out _ (HB.out.trans (hw'.mono HB.out.size))) 3 _ rfl; go_simp; first | done | with_reducible rfl)
        refine wpAnyH_take (i := 7) (v := ?_) rfl (by kernel_rfl) (by kernel_rfl) (by kernel_rfl) (fun _ _ _ h => h) (Or.inl ⟨by kernel_rfl, ?_⟩) hHeld ?_
        rotate_left
        · (intro w' hw'; go_simp; first | done | with_reducible rfl)
        refine wpAnyH_take (i := 8) (v := ?_) rfl (by kernel_rfl) (by kernel_rfl) (by kernel_rfl) (fun _ _ _ h => h) (Or.inl ⟨by kernel_rfl, ?_⟩) hHeld ?_
        rotate_left
        · (intro w' hw'; go_simp; first | done | with_reducible rfl)
        refine wpAnyH_take (i := 9) (v := ?_) rfl (by kernel_rfl) (by kernel_rfl) (by kernel_rfl) (fun _ _ _ h => h) (Or.inl ⟨by kernel_rfl, ?_⟩) hHeld ?_
        rotate_left
        · (intro w' hw'; obtain ⟨x0, x1, x2, x3⟩ := HCZ.out _ hw'; go_simp; first | done | with_reducible rfl)
        refine wpAnyH_ready (rs := [10]) (by kernel_rfl) (by simp) ?_
        refine AllReadyH.cons rfl (fun K hK => ?_) AllReadyH.nil
        go_simp
        refine (HSM.out _ hHeld).mono ?_
        rintro x w5 ⟨rfl, hb5⟩
        have hS5 := hHeld.trans (hb5.mono hHeld.size)
        clear hb5
        go_wp2_with fail
        refine hK.out _ _ hS5 (fun hH1 => ?_)
        clear hK K hHeld
        refine wpAnyH_take (i := 11) (v := ?_) rfl (by kernel_rfl) (by kernel_rfl) (by kernel_rfl) (fun _ _ _ h => h) (Or.inl ⟨by kernel_rfl, ?_⟩) hH1 ?_
        rotate_left
        · (intro w' hw'; go_simp; first | done | with_reducible rfl)
        refine wpAnyH_done (by kernel_rfl) ?_ _
        refine NoPanic.normal ?_
        go_simp
        go_wp2_with fail
        have HT2 := Lib.hid (HT.out.trans (Bool.true_and _))
        go_roundw
        case rel => first | exact ⟨k + 1, by omega, by go_num, HT2, Lib.hid (HB.out.trans (hS5.mono HB.out.size))⟩ | ((repeat apply Exists.intro); exact ⟨⟨k + 1, by omega, by go_num, HT2, Lib.hid (HB.out.trans (hS5.mono HB.out.size))⟩, rfl⟩)
        case measure => (show n - ((k : Int) + 1).toNat < n - k; omega)
    · obtain rfl : k = n := by omega
      have HF := Lib.hid (HU.out.trans (all2_end (p := eqM) (k := k) (Nat.le_of_eq HL.out.1) (Nat.le_of_eq HL.out.2)))
      go_wp2_with fail
      go_ret
      exact ⟨by rw [HF.out]; rfl, HBW.out.trans (HB.out.mono HBW.out.size)⟩
theorem sameBox_any (W : World) (S S' : ByteArray) (E X E' X' : Nat) (A B : Option Addr) (n c m d : Nat) (xs zs : List Y) (hA : Rd cM 4 W A n xs) (hB : Rd cM 4 W B m zs) (hn : n ≤ 1000000) :
    Calls Tryd.prog 15 #[.agg #[.string S, .int .u32 E, .int .u32 X, .slice A n c], .agg #[.string S', .int .u32 E', .int .u32 X', .slice B m d]] W fun x w' => x = .returned (.bool (sameB S E X (nts xs) S' E' X' (nts zs))) ∧ Below W.heap.size W w' := by
  have HBW := Lib.hid (show Below W.heap.size W ((W.alloc (.cells #[.string S, .int .u32 E, .int .u32 X, .slice A n c] 25)).alloc (.cells #[.string S', .int .u32 E', .int .u32 X', .slice B m d] 25)) from ((Below.refl _ _).alloc (Nat.le_refl _) _).alloc (by simp) _)
  unfold sameB
  by_cases hS : S = S'
  rotate_left
  · rw [decide_eq_false hS]
    have q0 := rd.str_ne hS
    have q1 : (S.toList != S'.toList) = true := by simpa [ByteArray.toList_eq] using q0
    have q2 : (S.data.toList != S'.data.toList) = true := by simpa [ByteArray.toList_eq] using q0
    have q3 : (S.toList == S'.toList) = false := by simpa [ByteArray.toList_eq] using q0
    clear hS hA hB q0
    go_enter Tryd.func15, Tryd.ntmps15
    go_wp2
    go_ret
    exact ⟨rfl, HBW.out⟩
  by_cases hE : E = E'
  rotate_left
  · rw [decide_eq_false hE, decide_eq_true hS]
    have q1 : ((E : Int) != (E' : Int)) = true := by rw [bne_iff_ne]; omega
    clear hE hA hB
    subst hS
    go_enter Tryd.func15, Tryd.ntmps15
    go_wp2
    go_ret
    exact ⟨rfl, HBW.out⟩
  by_cases hX : X = X'
  rotate_left
  · rw [decide_eq_false hX, decide_eq_true hS, decide_eq_true hE]
    have q1 : ((X : Int) != (X' : Int)) = true := by rw [bne_iff_ne]; omega
    clear hX hA hB
    subst hS hE
    go_enter Tryd.func15, Tryd.ntmps15
    go_wp2
    go_ret
    exact ⟨rfl, HBW.out⟩
  rw [decide_eq_true hX, decide_eq_true hS, decide_eq_true hE]
  subst hS hE hX
  by_cases hnm : n = m
  · subst hnm
    exact sameBox_loop W S E X A B n c d xs zs hA hB hn
  · rw [all2_len (by rw [nts_len, nts_len, hA.1, hB.1]; exact hnm)]
    have q1 : ((n : Int) != (m : Int)) = true := by rw [bne_iff_ne]; omega
    clear hA hB hnm
    go_enter Tryd.func15, Tryd.ntmps15
    go_wp2
    go_ret
    exact ⟨rfl, HBW.out⟩
end Go.Proofs.YtepngemlaiffgaaDoor.mal
