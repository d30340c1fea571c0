/- What is picked: the program's search, and its walk. -/
import Derived.Test.YtmooeadeihgbdaaSqQ
import Derived.Test.YtmooeadeihgbdaaSqI
namespace Go.Proofs.Ytmooeadeihgbdaa.sq
open Go.ChangeShapes Go.WideShapes Go.ChangeAt Go.RowKit
open Go.Proofs.Ytmooeadeihgbdaa.row
open Go.Proofs.Ytmooeadeihgbdaa.cardIn (cN fN)
set_option linter.unusedVariables false
set_option maxRecDepth 100000
set_option linter.unusedSimpArgs false

theorem atN {w : World} {A : Option Addr} {n : Nat} {ys : List Nat} (h : Rd cN 1 w A n ys) (k : Nat) (hk : k < n) : ∃ b o y, A = some ⟨b, o, none⟩ ∧ ys[k]? = some y ∧ w.cell? ⟨b, o + k, none⟩ = some (.int .u32 (y : Nat)) := by
  obtain ⟨b, o, y, h1, h2, h3⟩ := h.2 k hk
  exact ⟨b, o, y, h1, h2, by have := h3 0 _ rfl; simpa using this⟩
theorem after_any (W : World) (g m c n br bn i k : Nat) (ys : List X) (x : X) (hF : Far W g ys i) (hx : ys[k]? = some x) (hk : k < m) (hr : W.cell? ⟨br, 0, none⟩ = some (.slice (some ⟨g, 0, none⟩) m c)) (hn : W.cell? ⟨bn, 0, none⟩ = some (.int .u32 (n : Nat))) :
    Calls Try.prog 31 #[.int .i64 k, .pointer (some ⟨br, 0, none⟩), .pointer (some ⟨bn, 0, none⟩)] W fun e w' => e = .returned (.bool (decide (n < x.f))) ∧ Below W.heap.size W w' := by
  obtain ⟨d0, _, _⟩ := hF k x hx
  generalize x.f = f at *
  have l1 : (k : Int) < (m : Int) := by omega
  clear hF hx hk
  go_enter Try.func31, Try.ntmps31
  go_wp2_with fail
  go_quiet (fail)
  clear d0 hr hn
  go_wp2_with fail
  go_ret
  exact ⟨by simp, codec.below_draws (Below.refl _ _) nq⟩
set_option maxHeartbeats 2000000 in
theorem search_any (W : World) (g m c n br bn i : Nat) (ys : List X) (hF : Far W g ys i) (hU : Up ys) (hm : ys.length = m) (hm1 : m ≤ 1000000) (hr : W.cell? ⟨br, 0, none⟩ = some (.slice (some ⟨g, 0, none⟩) m c)) (hn : W.cell? ⟨bn, 0, none⟩ = some (.int .u32 (n : Nat))) :
    Calls Try.prog 30 #[.int .i64 m, .func (.func 31) #[] #[.pointer (some ⟨br, 0, none⟩), .pointer (some ⟨bn, 0, none⟩)]] W fun e w' => ∃ z : Nat, e = .returned (.int .i64 z) ∧ Begun ys n z ∧ Below W.heap.size W w' := by
  have HA := Lib.hid (fun (w : World) (h : Below W.heap.size W w) (k : Nat) (x : X) (hx : ys[k]? = some x) => after_any w g m c n br bn i k ys x (hF.below h) hx (by have := (List.getElem?_eq_some_iff.1 hx).1; omega) ((h.cell (p := ⟨br, 0, none⟩) (block_lt_of_cell hr)).trans hr) ((h.cell (p := ⟨bn, 0, none⟩) (block_lt_of_cell hn)).trans hn))
  have HU := Lib.hid hU
  have HL := Lib.hid hm
  clear hF hU hm hr hn
  go_enter Try.func30, Try.ntmps30
  go_wp2
  go_loopw [5, 6] (fun i j wr => ∃ a b : Nat, a ≤ b ∧ b ≤ m ∧ i = .int .i64 a ∧ j = .int .i64 b ∧ Hid ((∀ (k : Nat) (x : X), k < a → ys[k]? = some x → x.f ≤ n) ∧ ∀ (k : Nat) (x : X), b ≤ k → ys[k]? = some x → n < x.f) ∧ Hid (Below W.heap.size W wr)) (fun i j _ => (intOf j - intOf i).toNat)
  case atStart => exact ⟨0, m, Nat.zero_le _, Nat.le_refl _, rfl, rfl, Lib.hid ⟨fun k t h => absurd h (Nat.not_lt_zero _), fun k t h ht => by have := (List.getElem?_eq_some_iff.1 ht).1; have := HL.out; omega⟩, Lib.hid (Below.refl _ _)⟩
  case round =>
    obtain ⟨a, b, hab, hbn, rfl, rfl, HI, HB⟩ := hrel
    by_cases hlt : a < b
    · have hlt' : (a : Int) < (b : Int) := by omega
      obtain ⟨h, hh⟩ : ∃ h, h = (a + b) / 2 := ⟨_, rfl⟩
      have HH := Lib.hid (show a ≤ h ∧ h < b by omega)
      obtain ⟨x, hx⟩ : ∃ x, ys[h]? = some x := ⟨_, List.getElem?_eq_getElem (by have := HL.out; omega)⟩
      have HX := Lib.hid hx
      have HC := Lib.hid (HA.out wr HB.out h x hx)
      have e1 : IntKind.u64.wrap ((a : Int) + (b : Int)) = (a : Int) + (b : Int) := IntWalk.u64_in _ (by omega)
      have e2 : ((a : Int) + (b : Int)) / 2 = (h : Int) := by omega
      clear hx hh
      go_wp2_with fail
      refine HC.out.mono ?_
      rintro e w1 ⟨rfl, hb1⟩
      have HB1 := Lib.hid (HB.out.trans (hb1.mono HB.out.size))
      clear hb1
      by_cases huv : n < x.f
      · rw [decide_eq_true huv]
        have HP := Lib.hid (show (∀ (k : Nat) (x : X), k < a → ys[k]? = some x → x.f ≤ n) ∧ ∀ (k : Nat) (x : X), h ≤ k → ys[k]? = some x → n < x.f from ⟨HI.out.1, fun k y hk hy => Nat.lt_of_lt_of_le huv (HU.out h k x y hk HX.out hy)⟩)
        clear huv e1 e2
        go_wp2_with fail
        go_roundw
        case rel => first | exact ⟨a, h, by have := HH.out; omega, by have := HH.out; omega, rfl, by go_num, HP, HB1⟩ | ((repeat apply Exists.intro); exact ⟨⟨a, h, by have := HH.out; omega, by have := HH.out; omega, rfl, by go_num, HP, HB1⟩, rfl⟩)
        case measure => (show ((h : Int) - (a : Int)).toNat < ((b : Int) - (a : Int)).toNat; have := HH.out; omega)
      · rw [decide_eq_false huv]
        have HP := Lib.hid (show (∀ (k : Nat) (x : X), k < h + 1 → ys[k]? = some x → x.f ≤ n) ∧ ∀ (k : Nat) (x : X), b ≤ k → ys[k]? = some x → n < x.f from ⟨fun k y hk hy => Nat.le_trans (HU.out k h y x (by omega) hy HX.out) (by omega), HI.out.2⟩)
        have hh6 : h ≤ 1000000 := by have := HH.out; omega
        clear huv e1 e2
        go_wp2_with fail
        go_roundw
        case rel => first | exact ⟨h + 1, b, by have := HH.out; omega, hbn, by go_num, rfl, HP, HB1⟩ | ((repeat apply Exists.intro); exact ⟨⟨h + 1, b, by have := HH.out; omega, hbn, by go_num, rfl, HP, HB1⟩, rfl⟩)
        case measure => (show ((b : Int) - ((h : Int) + 1)).toNat < ((b : Int) - (a : Int)).toNat; have := HH.out; omega)
    · obtain rfl : a = b := by omega
      have HF := Lib.hid (show Begun ys n a from ⟨by rw [HL.out]; exact hbn, HI.out.1, HI.out.2⟩)
      go_wp2_with fail
      go_ret
      exact ⟨a, rfl, HF.out, HB.out⟩
set_option maxHeartbeats 2000000 in
theorem isReached_any (W : World) (g m c n i : Nat) (ys : List X) (hF : Far W g ys i) (hi : m ≤ i) (hU : Up ys) (hm : ys.length = m) (hm1 : m ≤ 1000000) (hn : n ≠ 0) :
    Calls Try.prog 21 #[.slice (some ⟨g, 0, none⟩) m c, .int .u32 (n : Nat)] W fun e w' => e = .returned (.bool (ys.any fun x => within x n)) ∧ Below W.heap.size W w' := by
  obtain ⟨W1, hW1⟩ : ∃ W1, W1 = (W.alloc (.cells #[.slice (some ⟨g, 0, none⟩) m c] 23)).alloc (.cells #[.int .u32 (n : Nat)] 29) := ⟨_, rfl⟩
  have HB := Lib.hid (show Below W.heap.size W W1 by rw [hW1]; exact ((Below.refl _ _).alloc (Nat.le_refl _) _).alloc (by simp) _)
  have hx : W1.heap[W.heap.size]? = some (.cells #[.slice (some ⟨g, 0, none⟩) m c] 23 (0, 0)) := by
    rw [hW1, heap_alloc_old _ _ (by simp)]; exact heap_alloc_new _ _
  have hr : W1.heap[W.heap.size + 1]? = some (.cells #[.int .u32 (n : Nat)] 29 (0, 0)) := by
    rw [hW1]; have := heap_alloc_new (W.alloc (.cells #[.slice (some ⟨g, 0, none⟩) m c] 23)) (.cells #[.int .u32 (n : Nat)] 29); simpa using this
  have HX := Lib.hid hx
  have HN := Lib.hid hr
  have HS := Lib.hid (search_any W1 g m c n W.heap.size (W.heap.size + 1) i ys (hF.below HB.out) hU hm hm1 (cell_at hx 0 _ rfl) (cell_at hr 0 _ rfl))
  have HW1 := Lib.hid hW1
  have HF := Lib.hid hF
  have HM := Lib.hid hm
  clear hW1 hx hr hF hU hm
  go_enter Try.func21, Try.ntmps21
  go_wp2_with fail
  rw [← HW1.out]
  refine HS.out.mono ?_
  rintro e w2 ⟨z, rfl, hz, hb⟩
  have HB2 := Lib.hid (HB.out.trans (hb.mono HB.out.size))
  have HRe := Lib.hid (reached hn hz)
  have c0 := cell_at ((hb.block _ (Array.getElem?_eq_some_iff.1 HX.out).1).trans HX.out) 0 _ rfl
  have c1 := cell_at ((hb.block _ (Array.getElem?_eq_some_iff.1 HN.out).1).trans HN.out) 0 _ rfl
  have HZ := Lib.hid hz
  have hF2 := HF.out.below HB2.out
  clear hb hz
  by_cases h0 : 0 < z
  · obtain ⟨h, hh⟩ : ∃ h, z = h + 1 := ⟨z - 1, by omega⟩
    have hzl := HZ.out.1
    have hml := HM.out
    obtain ⟨y, hy⟩ : ∃ y, ys[h]? = some y := ⟨_, List.getElem?_eq_getElem (by omega)⟩
    obtain ⟨_, d1, _⟩ := hF2 h y hy
    rw [show tt ys i h y = mxL (ys.take z) by unfold tt; rw [if_pos (by omega), hh]] at d1
    rw [decide_eq_true h0, Bool.true_and] at HRe
    generalize mxL (ys.take z) = b at *
    have e1 : IntKind.i64.wrap ((z : Int) - 1) = (h : Int) := (IntWalk.i64_in _ (by omega)).trans (by omega)
    have l1 : (h : Int) < (m : Int) := by omega
    have p1 : decide (0 < z) = true := decide_eq_true h0
    clear hF2 hy hzl hml h0 hh
    go_wp2_with fail
    go_quiet (fail)
    clear c0 c1 d1 e1
    go_wp2_with fail
    go_ret
    exact ⟨by rw [← HRe.out]; simp, codec.below_draws HB2.out nq⟩
  · rw [decide_eq_false h0, Bool.false_and] at HRe
    have p1 : decide (0 < z) = false := decide_eq_false h0
    clear hF2 h0
    go_wp2_with fail
    go_quiet (fail)
    clear c0 c1
    go_wp2_with fail
    go_ret
    exact ⟨by rw [← HRe.out]; simp, codec.below_draws HB2.out nq⟩
end Go.Proofs.Ytmooeadeihgbdaa.sq
