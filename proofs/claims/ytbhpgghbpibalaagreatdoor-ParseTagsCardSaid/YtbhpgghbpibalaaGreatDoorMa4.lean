/- A token, as the program cuts it off. -/
import Derived.Test.YtbhpgghbpibalaaGreatDoorMa3
namespace Go.Proofs.YtbhpgghbpibalaaGreatDoor.lx
open Go.ChangeShapes Go.WideShapes Go.ChangeAt Go.RowKit
open Go.Proofs.YtbhpgghbpibalaaGreatDoor.codec (Bytes vals)
open Go.Proofs.YtbhpgghbpibalaaGreatDoor.row
set_option linter.unusedVariables false
set_option maxRecDepth 100000
set_option linter.unusedSimpArgs false

theorem ct_quoted (r : List Nat) : cutTok (34 :: r) = quotedO r := rfl
theorem ct_literal (r : List Nat) : cutTok (123 :: r) = literalO r := rfl
theorem ct_atom {x : Nat} (r : List Nat) (h1 : x ≠ 40) (h2 : x ≠ 41) (h3 : x ≠ 34) (h4 : x ≠ 123) : cutTok (x :: r) = atomO (x :: r) := by
  rw [cutTok]
  · rfl
  all_goals (intro e; first | exact h1 e | exact h2 e | exact h3 e | exact h4 e)
theorem sign_end {w w2 : World} {A R : Option Addr} {n c u m d : Nat} {k : Int} {b r : List Nat} {E : Ending} {t : TypeId} {cs : Array Value} (hq : cutTok b = some (⟨k, []⟩, r)) (hb : Below w.heap.size w w2) (hu : w2.heap[u]? = some (.cells cs t (0, 0))) (hu2 : u = w.heap.size)
    (hE : E = .returned (.tuple #[.agg #[.int .i64 k, .string ⟨#[]⟩], .slice R m d, .bool true])) (hR : ∀ w0, Sl w0 A n c b → Sl w0 R m d r) : CutAns w A n c b (cutTok b) E ((w2.setCell ⟨u, 0, none⟩ (.int .i64 k)).setCell ⟨u, 1, none⟩ (.string ⟨#[]⟩)).drew := by
  have hb3 : Below w.heap.size w ((w2.setCell ⟨u, 0, none⟩ (.int .i64 k)).setCell ⟨u, 1, none⟩ (.string ⟨#[]⟩)) := (hb.setCell (p := ⟨u, 0, none⟩) (by rw [hu2]; exact Nat.le_refl _) _).setCell (p := ⟨u, 1, none⟩) (by rw [hu2]; exact Nat.le_refl _) _
  refine ⟨codec.below_draws hb3 1, k, ⟨#[]⟩, R, m, d, ?_, ?_⟩
  · rw [hE, hq]
    rfl
  · intro t' c' h
    rw [hq] at h
    cases h
    exact ⟨rfl, rfl, hR⟩
theorem call_end {w w2 : World} {A A1 R : Option Addr} {n c n1 c1 u m d : Nat} {k : Int} {s : ByteArray} {b r : List Nat} {o : Option (Tk × List Nat)} {t : TypeId} {cs : Array Value} (ho : cutTok b = o) (hb : Below w.heap.size w w2) (hu : w2.heap[u]? = some (.cells cs t (0, 0))) (hu2 : u = w.heap.size)
    (hans : ∀ t c', o = some (t, c') → k = t.k ∧ s = strOf t.t ∧ ∀ w0, Sl w0 A1 n1 c1 r → Sl w0 R m d c') (hR : ∀ w0, Sl w0 A n c b → Sl w0 A1 n1 c1 r) : CutAns w A n c b (cutTok b) (.returned (.tuple #[.agg #[.int .i64 k, .string s], .slice R m d, .bool o.isSome])) ((w2.setCell ⟨u, 0, none⟩ (.int .i64 k)).setCell ⟨u, 1, none⟩ (.string s)) := by
  have hb3 : Below w.heap.size w ((w2.setCell ⟨u, 0, none⟩ (.int .i64 k)).setCell ⟨u, 1, none⟩ (.string s)) := (hb.setCell (p := ⟨u, 0, none⟩) (by rw [hu2]; exact Nat.le_refl _) _).setCell (p := ⟨u, 1, none⟩) (by rw [hu2]; exact Nat.le_refl _) _
  refine ⟨hb3, k, s, R, m, d, by rw [ho], ?_⟩
  intro t' c' h
  rw [ho] at h
  obtain ⟨g1, g2, g3⟩ := hans t' c' h
  exact ⟨g1, g2, fun w0 h0 => g3 w0 (hR w0 h0)⟩
set_option maxHeartbeats 4000000 in
theorem cutToken_any (w : World) (A : Option Addr) (n c : Nat) (b : List Nat) (hS : Sl w A n c b) (hn : n ≤ 1000000) (hr : Room w) :
    Calls Tryz.prog 14 #[.slice A n c] w fun e w' => CutAns w A n c b (cutTok b) e w' := by
  obtain ⟨u, hu⟩ : ∃ u, u = w.heap.size := ⟨_, rfl⟩
  obtain ⟨W1, hW1⟩ : ∃ W1, W1 = w.alloc (.cells #[.int .i64 0, .string ⟨#[]⟩] 44) := ⟨_, rfl⟩
  have hb1 : Below w.heap.size w W1 := by rw [hW1]; exact (Below.refl _ _).alloc (Nat.le_refl _) _
  have hu1 : W1.heap[u]? = some (.cells #[.int .i64 0, .string ⟨#[]⟩] 44 (0, 0)) := by rw [hW1, hu]; exact heap_alloc_new _ _
  have HS := Lib.hid hS
  have HS1 := Lib.hid (show Sl W1 A n c b from hS.below hb1)
  have HRm := Lib.hid (hr.below hb1)
  have HL := Lib.hid hS.1.1
  have hnc := hS.2.1
  have d0 := cell_at hu1 0 (.int .i64 0) rfl
  have d1 := cell_at hu1 1 (.string ⟨#[]⟩) rfl
  have y0 := frozen_of_row _ _ 0 _ _ hu1
  have y1 := frozen_of_row _ _ 1 _ _ hu1
  have lu := (Array.getElem?_eq_some_iff.1 hu1).1
  have H1 := Lib.hid (And.intro hb1 (And.intro hu1 hu))
  have HW1 := Lib.hid hW1
  have HU := Lib.hid hu
  clear hS hr
  rcases Nat.eq_zero_or_pos n with h0 | h0
  · have HN := Lib.hid (show cutTok b = none by
      have : b = [] := List.eq_nil_of_length_eq_zero (by have := HL.out; omega)
      rw [this]
      rfl)
    have e0 : (n : Int) = 0 := by omega
    have f0 : w.cell? ⟨w.heap.size, 0, none⟩ = w.cell? ⟨w.heap.size, 0, none⟩ := rfl
    subst h0
    clear hW1 hu hb1 hu1 d0 d1 y0 y1 lu e0 f0
    go_enter Tryz.func14, Tryz.ntmps14
    go_wp2_with fail
    rw [← HU.out, ← HW1.out]
    refine bodyPost_ret (results_cell_tmp_tmp Tryz.results14 _ _ u _ _ _ _ rfl H1.out.2.1 Tryz.underlying44 rfl (tokSize _ rfl)) rfl ?_
    exact cut_none HN.out H1.out.1
  · obtain ⟨b0, o0, rfl, -⟩ := HS1.out.1.2.2 h0
    obtain ⟨x, hx, hx2, hxc⟩ := byte_at HS1.out.1 h0
    obtain ⟨r, rfl⟩ : ∃ r, b = x :: r := by
      cases b with
      | nil => simp at hx
      | cons y s => simp at hx; exact ⟨s, by rw [hx]⟩
    rw [Nat.add_zero] at hxc
    have hxw : w.cell? ⟨b0, o0, none⟩ = some (.int .u8 (x : Nat)) := by
      obtain ⟨x', hx', -, hc'⟩ := byte_at HS.out.1 h0
      simp at hx'
      subst hx'
      rw [Nat.add_zero] at hc'
      exact hc'
    have lb : b0 < w.heap.size := block_lt_of_cell hxw
    have e0 : ((n : Int) == 0) = false := by rw [beq_eq_false_iff_ne]; omega
    have l0 : (0 : Int) < (n : Int) := by omega
    have HRest := Lib.hid (fun w0 (h1 : Sl w0 (some ⟨b0, o0, none⟩) n c (x :: r)) => h1.rest 1 h0)
    have h0n : 1 ≤ n := h0
    clear hx
    by_cases hx40 : x = 40
    · have q40 : ((x : Int) == 40) = true := by rw [beq_iff_eq]; omega
      have HQ := Lib.hid (show cutTok (x :: r) = some (⟨3, []⟩, r) by rw [hx40]; rfl)
      by_cases hc1 : c = 1
      · have e3 : c - 1 = 0 := by omega
        have e4 : n - 1 = 0 := by omega
        have HC := Lib.hid (And.intro hc1 (And.intro e3 e4))
        clear hc1 hW1 hu hb1 hu1
        go_enter Tryz.func14, Tryz.ntmps14
        go_wp2_with fail
        rw [← HU.out, ← HW1.out]
        go_region
        go_wp2_with fail
        refine bodyPost_ret (results_cell_tmp_tmp Tryz.results14 _ _ u _ _ _ _ rfl (two H1.out.2.1 rfl (.int .i64 3) (.string ⟨#[]⟩)).1 Tryz.underlying44 rfl (tokSize _ rfl)) rfl ?_
        refine sign_end HQ.out H1.out.1 H1.out.2.1 HU.out rfl (fun w1 h1 => ?_)
        have h2 := HRest.out w1 h1
        rw [if_pos HC.out.1, HC.out.2.1, HC.out.2.2] at h2
        first | exact h2 | simpa [codec.add_none, HC.out.2.2] using h2
      · have e3 : ¬ c - 1 = 0 := by omega
        have HC := Lib.hid hc1
        clear hc1 hW1 hu hb1 hu1
        go_enter Tryz.func14, Tryz.ntmps14
        go_wp2_with fail
        rw [← HU.out, ← HW1.out]
        go_region
        go_wp2_with fail
        refine bodyPost_ret (results_cell_tmp_tmp Tryz.results14 _ _ u _ _ _ _ rfl (two H1.out.2.1 rfl (.int .i64 3) (.string ⟨#[]⟩)).1 Tryz.underlying44 rfl (tokSize _ rfl)) rfl ?_
        refine sign_end HQ.out H1.out.1 H1.out.2.1 HU.out rfl (fun w1 h1 => ?_)
        have h2 := HRest.out w1 h1
        rw [if_neg HC.out] at h2
        first | exact h2 | simpa [codec.add_none] using h2
    · by_cases hx41 : x = 41
      · have q40 : ((x : Int) == 40) = false := by rw [beq_eq_false_iff_ne]; omega
        have q41 : ((x : Int) == 41) = true := by rw [beq_iff_eq]; omega
        have HQ := Lib.hid (show cutTok (x :: r) = some (⟨4, []⟩, r) by rw [hx41]; rfl)
        by_cases hc1 : c = 1
        · have e3 : c - 1 = 0 := by omega
          have e4 : n - 1 = 0 := by omega
          have HC := Lib.hid (And.intro hc1 (And.intro e3 e4))
          clear hc1 hW1 hu hb1 hu1
          go_enter Tryz.func14, Tryz.ntmps14
          go_wp2_with fail
          rw [← HU.out, ← HW1.out]
          go_region
          go_wp2_with fail
          refine bodyPost_ret (results_cell_tmp_tmp Tryz.results14 _ _ u _ _ _ _ rfl (two H1.out.2.1 rfl (.int .i64 4) (.string ⟨#[]⟩)).1 Tryz.underlying44 rfl (tokSize _ rfl)) rfl ?_
          refine sign_end HQ.out H1.out.1 H1.out.2.1 HU.out rfl (fun w1 h1 => ?_)
          have h2 := HRest.out w1 h1
          rw [if_pos HC.out.1, HC.out.2.1, HC.out.2.2] at h2
          first | exact h2 | simpa [codec.add_none, HC.out.2.2] using h2
        · have e3 : ¬ c - 1 = 0 := by omega
          have HC := Lib.hid hc1
          clear hc1 hW1 hu hb1 hu1
          go_enter Tryz.func14, Tryz.ntmps14
          go_wp2_with fail
          rw [← HU.out, ← HW1.out]
          go_region
          go_wp2_with fail
          refine bodyPost_ret (results_cell_tmp_tmp Tryz.results14 _ _ u _ _ _ _ rfl (two H1.out.2.1 rfl (.int .i64 4) (.string ⟨#[]⟩)).1 Tryz.underlying44 rfl (tokSize _ rfl)) rfl ?_
          refine sign_end HQ.out H1.out.1 H1.out.2.1 HU.out rfl (fun w1 h1 => ?_)
          have h2 := HRest.out w1 h1
          rw [if_neg HC.out] at h2
          first | exact h2 | simpa [codec.add_none] using h2
      · by_cases hx34 : x = 34
        · have q40 : ((x : Int) == 40) = false := by rw [beq_eq_false_iff_ne]; omega
          have q41 : ((x : Int) == 41) = false := by rw [beq_eq_false_iff_ne]; omega
          have q34 : ((x : Int) == 34) = true := by rw [beq_iff_eq]; omega
          have HQ := Lib.hid (show cutTok (x :: r) = quotedO r by rw [hx34]; rfl)
          by_cases hc1 : c = 1
          · have e3 : c - 1 = 0 := by omega
            have e4 : n - 1 = 0 := by omega
            have hSr := HRest.out W1 HS1.out
            rw [if_pos hc1, e3, e4] at hSr
            have HCall := Lib.hid (cutQuoted_any W1 _ 0 0 _ hSr (by omega))
            have HC := Lib.hid (And.intro hc1 (And.intro e3 e4))
            clear hc1 hSr hW1 hu hb1 hu1 d0 d1 y0 y1 lu
            go_enter Tryz.func14, Tryz.ntmps14
            go_wp2_with fail
            rw [← HU.out, ← HW1.out]
            refine HCall.out.mono ?_
            rintro e w3 ⟨hb3, k, s, R, m, d, rfl, hans⟩
            have hu3 := (hb3.block u (Array.getElem?_eq_some_iff.1 H1.out.2.1).1).trans H1.out.2.1
            have HU3 := Lib.hid hu3
            have HB3 := Lib.hid (H1.out.1.trans (hb3.mono H1.out.1.size))
            have HAns := Lib.hid hans
            have f0 := cell_at hu3 0 (.int .i64 0) rfl
            have f1 := cell_at hu3 1 (.string ⟨#[]⟩) rfl
            have g0 := frozen_of_row _ _ 0 _ _ hu3
            have g1 := frozen_of_row _ _ 1 _ _ hu3
            have lu3 := (Array.getElem?_eq_some_iff.1 hu3).1
            clear hb3 hu3 hans
            go_wp2_with fail
            refine bodyPost_ret (results_cell_tmp_tmp Tryz.results14 _ _ u _ _ _ _ rfl (two HU3.out rfl (.int .i64 k) (.string s)).1 Tryz.underlying44 rfl (tokSize _ rfl)) rfl ?_
            exact call_end HQ.out HB3.out HU3.out HU.out HAns.out (fun w1 h1 => by
              have h2 := HRest.out w1 h1
              rw [if_pos HC.out.1, HC.out.2.1, HC.out.2.2] at h2
              exact h2)
          · have e3 : ¬ c - 1 = 0 := by omega
            have hSr := HRest.out W1 HS1.out
            rw [if_neg hc1] at hSr
            simp only [Option.map_some, codec.add_none] at hSr
            have HCall := Lib.hid (cutQuoted_any W1 _ (n - 1) (c - 1) _ hSr (by omega))
            have HC := Lib.hid hc1
            clear hc1 hSr hW1 hu hb1 hu1 d0 d1 y0 y1 lu
            go_enter Tryz.func14, Tryz.ntmps14
            go_wp2_with fail
            rw [← HU.out, ← HW1.out]
            refine HCall.out.mono ?_
            rintro e w3 ⟨hb3, k, s, R, m, d, rfl, hans⟩
            have hu3 := (hb3.block u (Array.getElem?_eq_some_iff.1 H1.out.2.1).1).trans H1.out.2.1
            have HU3 := Lib.hid hu3
            have HB3 := Lib.hid (H1.out.1.trans (hb3.mono H1.out.1.size))
            have HAns := Lib.hid hans
            have f0 := cell_at hu3 0 (.int .i64 0) rfl
            have f1 := cell_at hu3 1 (.string ⟨#[]⟩) rfl
            have g0 := frozen_of_row _ _ 0 _ _ hu3
            have g1 := frozen_of_row _ _ 1 _ _ hu3
            have lu3 := (Array.getElem?_eq_some_iff.1 hu3).1
            clear hb3 hu3 hans
            go_wp2_with fail
            refine bodyPost_ret (results_cell_tmp_tmp Tryz.results14 _ _ u _ _ _ _ rfl (two HU3.out rfl (.int .i64 k) (.string s)).1 Tryz.underlying44 rfl (tokSize _ rfl)) rfl ?_
            exact call_end HQ.out HB3.out HU3.out HU.out HAns.out (fun w1 h1 => by
              have h2 := HRest.out w1 h1
              rw [if_neg HC.out] at h2
              simpa [codec.add_none] using h2)
        · by_cases hx123 : x = 123
          · have q40 : ((x : Int) == 40) = false := by rw [beq_eq_false_iff_ne]; omega
            have q41 : ((x : Int) == 41) = false := by rw [beq_eq_false_iff_ne]; omega
            have q34 : ((x : Int) == 34) = false := by rw [beq_eq_false_iff_ne]; omega
            have q123 : ((x : Int) == 123) = true := by rw [beq_iff_eq]; omega
            have HQ := Lib.hid (show cutTok (x :: r) = literalO r by rw [hx123]; rfl)
            by_cases hc1 : c = 1
            · have e3 : c - 1 = 0 := by omega
              have e4 : n - 1 = 0 := by omega
              have hSr := HRest.out W1 HS1.out
              rw [if_pos hc1, e3, e4] at hSr
              have HCall := Lib.hid (cutLiteral_any W1 _ 0 0 _ hSr (by omega) HRm.out)
              have HC := Lib.hid (And.intro hc1 (And.intro e3 e4))
              clear hc1 hSr hW1 hu hb1 hu1 d0 d1 y0 y1 lu
              go_enter Tryz.func14, Tryz.ntmps14
              go_wp2_with fail
              rw [← HU.out, ← HW1.out]
              refine HCall.out.mono ?_
              rintro e w3 ⟨hb3, k, s, R, m, d, rfl, hans⟩
              have hu3 := (hb3.block u (Array.getElem?_eq_some_iff.1 H1.out.2.1).1).trans H1.out.2.1
              have HU3 := Lib.hid hu3
              have HB3 := Lib.hid (H1.out.1.trans (hb3.mono H1.out.1.size))
              have HAns := Lib.hid hans
              have f0 := cell_at hu3 0 (.int .i64 0) rfl
              have f1 := cell_at hu3 1 (.string ⟨#[]⟩) rfl
              have g0 := frozen_of_row _ _ 0 _ _ hu3
              have g1 := frozen_of_row _ _ 1 _ _ hu3
              have lu3 := (Array.getElem?_eq_some_iff.1 hu3).1
              clear hb3 hu3 hans
              go_wp2_with fail
              refine bodyPost_ret (results_cell_tmp_tmp Tryz.results14 _ _ u _ _ _ _ rfl (two HU3.out rfl (.int .i64 k) (.string s)).1 Tryz.underlying44 rfl (tokSize _ rfl)) rfl ?_
              exact call_end HQ.out HB3.out HU3.out HU.out HAns.out (fun w1 h1 => by
                have h2 := HRest.out w1 h1
                rw [if_pos HC.out.1, HC.out.2.1, HC.out.2.2] at h2
                exact h2)
            · have e3 : ¬ c - 1 = 0 := by omega
              have hSr := HRest.out W1 HS1.out
              rw [if_neg hc1] at hSr
              simp only [Option.map_some, codec.add_none] at hSr
              have HCall := Lib.hid (cutLiteral_any W1 _ (n - 1) (c - 1) _ hSr (by omega) HRm.out)
              have HC := Lib.hid hc1
              clear hc1 hSr hW1 hu hb1 hu1 d0 d1 y0 y1 lu
              go_enter Tryz.func14, Tryz.ntmps14
              go_wp2_with fail
              rw [← HU.out, ← HW1.out]
              refine HCall.out.mono ?_
              rintro e w3 ⟨hb3, k, s, R, m, d, rfl, hans⟩
              have hu3 := (hb3.block u (Array.getElem?_eq_some_iff.1 H1.out.2.1).1).trans H1.out.2.1
              have HU3 := Lib.hid hu3
              have HB3 := Lib.hid (H1.out.1.trans (hb3.mono H1.out.1.size))
              have HAns := Lib.hid hans
              have f0 := cell_at hu3 0 (.int .i64 0) rfl
              have f1 := cell_at hu3 1 (.string ⟨#[]⟩) rfl
              have g0 := frozen_of_row _ _ 0 _ _ hu3
              have g1 := frozen_of_row _ _ 1 _ _ hu3
              have lu3 := (Array.getElem?_eq_some_iff.1 hu3).1
              clear hb3 hu3 hans
              go_wp2_with fail
              refine bodyPost_ret (results_cell_tmp_tmp Tryz.results14 _ _ u _ _ _ _ rfl (two HU3.out rfl (.int .i64 k) (.string s)).1 Tryz.underlying44 rfl (tokSize _ rfl)) rfl ?_
              exact call_end HQ.out HB3.out HU3.out HU.out HAns.out (fun w1 h1 => by
                have h2 := HRest.out w1 h1
                rw [if_neg HC.out] at h2
                simpa [codec.add_none] using h2)
          · have q40 : ((x : Int) == 40) = false := by rw [beq_eq_false_iff_ne]; omega
            have q41 : ((x : Int) == 41) = false := by rw [beq_eq_false_iff_ne]; omega
            have q34 : ((x : Int) == 34) = false := by rw [beq_eq_false_iff_ne]; omega
            have q123 : ((x : Int) == 123) = false := by rw [beq_eq_false_iff_ne]; omega
            have HQ := Lib.hid (show cutTok (x :: r) = atomO (x :: r) by exact ct_atom r hx40 hx41 hx34 hx123)
            have HCall := Lib.hid (cutAtom_any W1 _ n c _ HS1.out (by omega))
            clear hW1 hu hb1 hu1 d0 d1 y0 y1 lu
            go_enter Tryz.func14, Tryz.ntmps14
            go_wp2_with fail
            rw [← HU.out, ← HW1.out]
            refine HCall.out.mono ?_
            rintro e w3 ⟨hb3, k, s, R, m, d, rfl, hans⟩
            have hu3 := (hb3.block u (Array.getElem?_eq_some_iff.1 H1.out.2.1).1).trans H1.out.2.1
            have HU3 := Lib.hid hu3
            have HB3 := Lib.hid (H1.out.1.trans (hb3.mono H1.out.1.size))
            have HAns := Lib.hid hans
            have f0 := cell_at hu3 0 (.int .i64 0) rfl
            have f1 := cell_at hu3 1 (.string ⟨#[]⟩) rfl
            have g0 := frozen_of_row _ _ 0 _ _ hu3
            have g1 := frozen_of_row _ _ 1 _ _ hu3
            have lu3 := (Array.getElem?_eq_some_iff.1 hu3).1
            clear hb3 hu3 hans
            go_wp2_with fail
            refine bodyPost_ret (results_cell_tmp_tmp Tryz.results14 _ _ u _ _ _ _ rfl (two HU3.out rfl (.int .i64 k) (.string s)).1 Tryz.underlying44 rfl (tokSize _ rfl)) rfl ?_
            exact call_end HQ.out HB3.out HU3.out HU.out HAns.out (fun w1 h1 => h1)
end Go.Proofs.YtbhpgghbpibalaaGreatDoor.lx
namespace Go.Proofs.YtbhpgghbpibalaaGreatDoor.lx
open Go.ChangeShapes Go.WideShapes Go.ChangeAt Go.RowKit
open Go.Proofs.YtbhpgghbpibalaaGreatDoor.codec (Bytes vals)
open Go.Proofs.YtbhpgghbpibalaaGreatDoor.row
set_option linter.unusedVariables false
set_option maxRecDepth 100000
set_option linter.unusedSimpArgs false

def cT (t : Tk) : List Value := [.int .i64 t.k, .string (strOf t.t)]
theorem fT : Fm cT 2 := ⟨fun _ => rfl, fun y u hu => by simp [cT] at hu; rcases hu with rfl | rfl <;> rfl⟩
theorem infoT : (Tryz.prog.info? 44).map (fun i => (i.zero, i.size, i.bytes)) = some (some (.agg #[.int .i64 0, .string ⟨#[]⟩]), 2, 24) := by kernel_rfl
theorem tok_at {w : World} {A : Option Addr} {n : Nat} {ys : List Tk} (h : Rd cT 2 w A n ys) (k : Nat) (hk : k < n) : ∃ b o y, A = some ⟨b, o, none⟩ ∧ ys[k]? = some y ∧ w.cell? ⟨b, o + k * 2, none⟩ = some (.int .i64 y.k) ∧ w.cell? ⟨b, o + k * 2 + 1, none⟩ = some (.string (strOf y.t)) := by
  obtain ⟨b, o, y, h1, h2, h3⟩ := h.2 k hk
  exact ⟨b, o, y, h1, h2, h3 0 _ rfl, h3 1 _ rfl⟩
theorem one_prefix {b : List Nat} (hb : ∀ x ∈ b, x < 256) {s : Nat} (hs : s < 256) : Lib.hasPrefix (octs b) (octs [s]) = decide (b.head? = some s) := by
  unfold Lib.hasPrefix
  cases b with
  | nil => rfl
  | cons x r =>
    have hx := hb x (by simp)
    show ((UInt8.ofNat s == UInt8.ofNat x) && true) = _
    rw [Bool.and_true]
    by_cases h : x = s
    · rw [h]; simp
    · rw [decide_eq_false (by simpa using h), beq_eq_false_iff_ne]
      exact fun e => h (oct_inj hs hx e).symm
/-- What cutting a gap off answers. -/
def GapAns (w : World) (A : Option Addr) (n c : Nat) (b : List Nat) (o : Option (List Nat)) (e : Ending) (w' : World) : Prop :=
  Below w.heap.size w w' ∧ ∃ (R : Option Addr) (m d : Nat), e = .returned (.tuple #[.slice R m d, .bool o.isSome]) ∧ ∀ c', o = some c' → ∀ w0, Sl w0 A n c b → Sl w0 R m d c'
theorem lastK_at {acc : List Tk} {m : Nat} {t : Tk} (hm : acc.length = m + 1) (h : acc[m]? = some t) : lastK acc = t.k := by
  unfold lastK
  rw [List.getLast?_eq_getElem?, hm, Nat.add_sub_cancel, h]
theorem cutP_any (w : World) (b0 o0 n c g s : Nat) (b : List Nat) (hS : Sl w (some ⟨b0, o0, none⟩) n c b) (hn : 0 < n) (hg : w.cell? ⟨g, 0, none⟩ = some (.int .u8 (s : Nat))) (hs : s < 256) :
    Calls Tryz.prog 22 #[.slice (some ⟨b0, o0, none⟩) n c, .slice (some ⟨g, 0, none⟩) 1 1] w fun e w' => e = .returned (if b.head? = some s then .tuple #[.slice (if c = 1 then some ⟨b0, o0, none⟩ else some ⟨b0, o0 + 1, none⟩) (n - 1) (c - 1), .bool (decide (b.head? = some s))] else .tuple #[.slice (some ⟨b0, o0, none⟩) n c, .bool (decide (b.head? = some s))]) ∧ w' = w := by
  have hB := sep_in hg hs
  refine (Tryz.bytes_CutPrefix_all (some ⟨b0, o0, none⟩) (some ⟨g, 0, none⟩) n c 1 1 (b.map Int.ofNat) ([s].map Int.ofNat) w (by rw [List.length_map]; exact hS.1.1) rfl hS.2.1 (Bytes.into hS.1) (Bytes.into hB)).mono ?_
  rintro e w' ⟨rfl, rfl⟩
  refine ⟨?_, rfl⟩
  have key : Lib.trimPrefixV (some ⟨b0, o0, none⟩) n c (b.map Int.ofNat) ([s].map Int.ofNat) = Lib.bytesTrimPrefix b0 o0 n c (b.map Int.ofNat) ([s].map Int.ofNat) := rfl
  rw [key]
  unfold Lib.bytesTrimPrefix Lib.sliceFrom
  rw [octs_of, octs_of, one_prefix hS.1.2.1 hs]
  by_cases h : b.head? = some s
  · rw [if_pos h, decide_eq_true h]
    rfl
  · rw [if_neg h, decide_eq_false h]
    rfl
set_option maxHeartbeats 4000000 in
theorem cutGap_any (w : World) (AV : Option Addr) (nv cv : Nat) (acc : List Tk) (hR : Rd cT 2 w AV nv acc) (hnv : nv ≤ 1000000) (A : Option Addr) (n c : Nat) (b : List Nat) (hS : Sl w A n c b) (hn : 0 < n) :
    Calls Tryz.prog 13 #[.slice AV nv cv, .slice A n c] w fun e w' => GapAns w A n c b (gap acc b) e w' := by
  have HS := Lib.hid hS
  have hnc := hS.2.1
  obtain ⟨b0, o0, rfl, -⟩ := hS.1.2.2 hn
  obtain ⟨x, hx, hx2, hxc⟩ := byte_at hS.1 hn
  rw [Nat.add_zero] at hxc
  have hlb : b0 < w.heap.size := block_lt_of_cell hxc
  have l0 : (0 : Int) < (n : Int) := by omega
  have hhd : b.head? = some x := by rw [List.head?_eq_getElem?]; exact hx
  clear hS hx
  rcases Nat.eq_zero_or_pos nv with h0 | h0
  · have HO := Lib.hid (show gap acc b = some b by
      have : acc = [] := List.eq_nil_of_length_eq_zero (by rw [hR.1, h0])
      unfold gap
      rw [if_pos (.inl (by rw [this]; rfl))])
    have q0 : ((nv : Int) == 0) = true := by rw [beq_iff_eq]; omega
    clear h0 hR hhd
    go_enter Tryz.func13, Tryz.ntmps13
    go_wp2_with fail
    go_ret2
    exact ⟨Below.refl _ _, _, _, _, by rw [HO.out]; rfl, fun c' h w0 h0 => by rw [HO.out] at h; cases h; exact h0⟩
  · obtain ⟨m, hm⟩ : ∃ m, m = nv - 1 := ⟨_, rfl⟩
    obtain ⟨b1, o1, y, rfl, hy, c1, -⟩ := tok_at hR m (by omega)
    have hlk := lastK_at (m := m) (by rw [hR.1]; omega) hy
    have q0 : ((nv : Int) == 0) = false := by rw [beq_eq_false_iff_ne]; omega
    have e1 : IntKind.i64.wrap ((nv : Int) - 1) = (m : Int) := (IntWalk.i64_in _ (by omega)).trans (by omega)
    have l1 : (m : Int) < (nv : Int) := by omega
    have lb1 : b1 < w.heap.size := block_lt_of_cell c1
    generalize y.k = K at *
    clear hR hy hm h0
    by_cases hK : K = 3
    · have HO := Lib.hid (show gap acc b = some b by unfold gap; rw [if_pos (.inl (by rw [hlk, hK]))])
      have q1 : (K == 3) = true := by rw [beq_iff_eq]; exact hK
      clear hK hlk hhd
      go_enter Tryz.func13, Tryz.ntmps13
      go_wp2_with fail
      go_ret2
      exact ⟨Below.refl _ _, _, _, _, by rw [HO.out]; rfl, fun c' h w0 h0 => by rw [HO.out] at h; cases h; exact h0⟩
    · have q1 : (K == 3) = false := by rw [beq_eq_false_iff_ne]; exact hK
      by_cases h41x : x = 41
      · have HO := Lib.hid (show gap acc b = some b by unfold gap; rw [if_pos (.inr (by rw [hhd, h41x]))])
        have q2 : ((x : Int) == 41) = true := by rw [beq_iff_eq]; omega
        clear hK hlk hhd h41x
        go_enter Tryz.func13, Tryz.ntmps13
        go_wp2_with fail
        go_ret2
        exact ⟨Below.refl _ _, _, _, _, by rw [HO.out]; rfl, fun c' h w0 h0 => by rw [HO.out] at h; cases h; exact h0⟩
      · have q2 : ((x : Int) == 41) = false := by rw [beq_eq_false_iff_ne]; omega
        have HNo := Lib.hid (show ¬ (lastK acc = 3 ∨ b.head? = some 41) from by
          rintro (h | h)
          · exact hK (by rw [← hlk]; exact h)
          · rw [hhd] at h
            exact h41x (Option.some.inj h))
        clear hK hlk hhd h41x
        obtain ⟨W2, hW2⟩ : ∃ W2, W2 = w.alloc (.cells #[.int .u8 32] 5) := ⟨_, rfl⟩
        obtain ⟨g, hg⟩ : ∃ g, g = w.heap.size := ⟨_, rfl⟩
        have hb2 : Below w.heap.size w W2 := by rw [hW2]; exact (Below.refl _ _).alloc (Nat.le_refl _) _
        have hg2 : W2.cell? ⟨g, 0, none⟩ = some (.int .u8 ((32 : Nat) : Nat)) := by rw [hW2, hg]; simp
        have HCut := Lib.hid (cutP_any W2 b0 o0 n c g 32 b (HS.out.below hb2) (by omega) hg2 (by decide))
        have HW2 := Lib.hid hW2
        have HG := Lib.hid hg
        have HB2 := Lib.hid hb2
        clear hW2 hg hb2 hg2
        by_cases h32 : b.head? = some 32
        · rw [if_pos h32, decide_eq_true h32] at HCut
          obtain ⟨R, hR⟩ : ∃ R, R = (if c = 1 then some (⟨b0, o0, none⟩ : Addr) else some ⟨b0, o0 + 1, none⟩) := ⟨_, rfl⟩
          obtain ⟨m, hm⟩ : ∃ m, m = n - 1 := ⟨_, rfl⟩
          obtain ⟨d, hd⟩ : ∃ d, d = c - 1 := ⟨_, rfl⟩
          rw [← hR, ← hm, ← hd] at HCut
          have hSR : ∀ w0, Sl w0 (some ⟨b0, o0, none⟩) n c b → Sl w0 R m d b.tail := fun w0 h0 => by
            have h1 := h0.rest 1 (by omega)
            rw [hR, hm, hd]
            rw [← List.drop_one]
            by_cases hc : c = 1
            · rw [if_pos hc] at h1 ⊢; exact h1
            · rw [if_neg hc] at h1 ⊢; simpa [codec.add_none] using h1
          have HSR := Lib.hid hSR
          obtain ⟨W4, hW4⟩ : ∃ W4, W4 = W2.alloc (.cells #[.int .u8 41] 5) := ⟨_, rfl⟩
          obtain ⟨g4, hg4⟩ : ∃ g4, g4 = W2.heap.size := ⟨_, rfl⟩
          have hb4 : Below W2.heap.size W2 W4 := by rw [hW4]; exact (Below.refl _ _).alloc (Nat.le_refl _) _
          have hc4 : W4.cell? ⟨g4, 0, none⟩ = some (.int .u8 ((41 : Nat) : Nat)) := by rw [hW4, hg4]; simp
          have hS4 := hSR W4 ((HS.out.below HB2.out).below hb4)
          have hHas := Tryz.bytes_HasPrefix_all R (some ⟨g4, 0, none⟩) m d 1 1 (b.tail.map Int.ofNat) ([41].map Int.ofNat) W4 (by rw [List.length_map]; exact hS4.1.1) rfl hS4.2.1 (Bytes.into hS4.1) (Bytes.into (sep_in hc4 (by decide)))
          rw [octs_of, octs_of, one_prefix hS4.1.2.1 (by decide)] at hHas
          have HHas := Lib.hid hHas
          have HW4 := Lib.hid hW4
          have HG4 := Lib.hid hg4
          have HB4 := Lib.hid (HB2.out.trans (hb4.mono HB2.out.size))
          clear hR hm hd hSR hW4 hg4 hb4 hc4 hS4 hHas
          by_cases h41 : b.tail.head? = some 41
          · rw [decide_eq_true h41] at HHas
            have HO := Lib.hid (show gap acc b = none by unfold gap; rw [if_neg HNo.out, if_neg (fun h => h.2 h41)])
            go_enter Tryz.func13, Tryz.ntmps13
            go_wp2_with fail
            rw [← HW2.out, ← HG.out]
            refine HCut.out.mono ?_
            rintro e w9 ⟨rfl, hw⟩
            replace hw := hw.symm
            subst hw
            go_wp2_with fail
            rw [← HW4.out, ← HG4.out]
            refine HHas.out.mono ?_
            rintro e w9 ⟨rfl, hw⟩
            replace hw := hw.symm
            subst hw
            go_wp2_with fail
            go_ret2
            exact ⟨HB4.out, R, m, d, by rw [HO.out]; rfl, fun c' h => by rw [HO.out] at h; cases h⟩
          · rw [decide_eq_false h41] at HHas
            have HO := Lib.hid (show gap acc b = some b.tail by unfold gap; rw [if_neg HNo.out, if_pos ⟨h32, h41⟩])
            go_enter Tryz.func13, Tryz.ntmps13
            go_wp2_with fail
            rw [← HW2.out, ← HG.out]
            refine HCut.out.mono ?_
            rintro e w9 ⟨rfl, hw⟩
            replace hw := hw.symm
            subst hw
            go_wp2_with fail
            rw [← HW4.out, ← HG4.out]
            refine HHas.out.mono ?_
            rintro e w9 ⟨rfl, hw⟩
            replace hw := hw.symm
            subst hw
            go_wp2_with fail
            go_ret2
            exact ⟨HB4.out, R, m, d, by rw [HO.out]; rfl, fun c' h => by rw [HO.out] at h; cases h; exact HSR.out⟩
        · rw [if_neg h32, decide_eq_false h32] at HCut
          have HO := Lib.hid (show gap acc b = none by unfold gap; rw [if_neg HNo.out, if_neg (fun h => h32 h.1)])
          go_enter Tryz.func13, Tryz.ntmps13
          go_wp2_with fail
          rw [← HW2.out, ← HG.out]
          refine HCut.out.mono ?_
          rintro e w9 ⟨rfl, hw⟩
          replace hw := hw.symm
          subst hw
          go_wp2_with fail
          go_ret2
          exact ⟨HB2.out, _, _, _, by rw [HO.out]; rfl, fun c' h => by rw [HO.out] at h; cases h⟩
end Go.Proofs.YtbhpgghbpibalaaGreatDoor.lx
namespace Go.Proofs.YtbhpgghbpibalaaGreatDoor.lx
open Go.ChangeShapes Go.WideShapes Go.ChangeAt Go.RowKit
open Go.Proofs.YtbhpgghbpibalaaGreatDoor.codec (Bytes vals)
open Go.Proofs.YtbhpgghbpibalaaGreatDoor.row
set_option linter.unusedVariables false
set_option maxRecDepth 100000
set_option linter.unusedSimpArgs false

/-- What reading tokens answers. -/
def TokAns (W : World) (o : Option (List Tk)) (e : Ending) (w' : World) : Prop :=
  Below W.heap.size W w' ∧ ((o = none ∧ e = .returned (.tuple #[.slice none 0 0, .bool false])) ∨ ∃ l v, o = some l ∧ e = .returned (.tuple #[v, .bool true]) ∧ Own cT 2 W.heap.size 44 w' v l)
/-- What has been read, and what is left. -/
def TS (W : World) (b : List Nat) (acc : List Tk) (o : Int) (r : List Nat) (R : Option Addr) (m d : Nat) (v : Value) (w : World) : Prop :=
  Own cT 2 W.heap.size 44 w v acc ∧ Below W.heap.size W w ∧ Sl W R m d r ∧ m ≤ 1000000 ∧ (∃ f, m ≤ f ∧ tokF f acc o r = toks b) ∧ 0 ≤ o ∧ o ≤ acc.length ∧ acc.length ≤ 200
theorem tokF_next {f : Nat} {acc : List Tk} {o : Int} {r : List Nat} (hf : r.length ≤ f) (hr : 0 < r.length) : tokF f acc o r = match gap acc r with
    | none => none
    | some b => if acc.length = 200 then none else match cutTok b with
      | none => none
      | some (t, c) => if o + opens t.k < 0 then none else tokF (f - 1) (acc ++ [t]) (o + opens t.k) c := by
  cases r with
  | nil => simp at hr
  | cons x c =>
    cases f with
    | zero => simp at hf
    | succ g => rw [tokF]; rfl
theorem opens_le (k : Int) : -1 ≤ opens k ∧ opens k ≤ 1 := by
  unfold opens
  split
  · omega
  · split <;> omega
set_option maxHeartbeats 8000000 in
theorem tokens_any (W : World) (A : Option Addr) (n c : Nat) (b : List Nat) (hS : Sl W A n c b) (hn : n ≤ 1000000) (hr : Room W) :
    Calls Tryz.prog 8 #[.slice A n c] W fun e w' => TokAns W (toks b) e w' := by
  have H0 := Lib.hid (show TS W b [] 0 b A n c (.slice none 0 0) W from ⟨Own.nil _ _ _ _ _, Below.refl _ _, hS, hn, ⟨b.length, by rw [hS.1.1]; exact Nat.le_refl _, rfl⟩, Int.le_refl _, by simp, by simp⟩)
  have HRm := Lib.hid hr
  clear hS hr
  go_enter Tryz.func8, Tryz.ntmps8
  go_wp2
  go_loopw [0, 4, 5] (fun x v y wr => ∃ (acc : List Tk) (o : Int) (r : List Nat) (R : Option Addr) (m d : Nat), x = .slice R m d ∧ y = .int .i64 o ∧ Hid (TS W b acc o r R m d v wr)) (fun x _ _ _ => sliceLen x)
  case atStart => exact ⟨[], 0, b, A, n, c, rfl, rfl, H0⟩
  case round =>
    obtain ⟨acc, o, r, R, m, d, rfl, rfl, HT⟩ := hrel
    obtain ⟨hO, hB, hSW, hm, ⟨f, hf, hfu⟩, ho0, ho1, hacc⟩ := HT.out
    have hSr := hSW.below hB
    have HSW := Lib.hid hSW
    clear hSW
    have hlen := hSr.1.1
    by_cases hm0 : m = 0
    · obtain rfl : r = [] := List.eq_nil_of_length_eq_zero (by omega)
      have q0 : decide (0 < m) = false := decide_eq_false (by omega)
      have hz : toks b = if 0 < o then none else some acc := by
        rw [← hfu]
        cases f <;> rw [tokF]
      by_cases hop : 0 < o
      · rw [if_pos hop] at hz
        have q1 : decide (0 < o) = true := decide_eq_true hop
        have HZ := Lib.hid (show TokAns W (toks b) (.returned (.tuple #[.slice none 0 0, .bool false])) wr from ⟨hB, .inl ⟨hz, rfl⟩⟩)
        clear hO hB hSr hm hf hfu ho0 ho1 hacc hlen hm0 hz hop
        go_wp2_with fail
        go_ret2
        exact HZ.out
      · rw [if_neg hop] at hz
        have q1 : decide (0 < o) = false := decide_eq_false hop
        have HZ := Lib.hid (show TokAns W (toks b) (.returned (.tuple #[u4, .bool true])) wr from ⟨hB, .inr ⟨acc, u4, hz, rfl, hO⟩⟩)
        clear hO hB hSr hm hf hfu ho0 ho1 hacc hlen hm0 hz hop
        go_wp2_with fail
        go_ret2
        exact HZ.out
    · have q0 : decide (0 < m) = true := decide_eq_true (by omega)
      obtain ⟨AV, cv, rfl, hncv, hAV, hRd⟩ := hO.rd fT
      obtain ⟨nv, hnv⟩ : ∃ nv, nv = acc.length := ⟨_, rfl⟩
      rw [← hnv] at hO hRd hncv ⊢
      have HGap := Lib.hid (cutGap_any wr AV nv cv acc (hnv ▸ hRd) (by omega) R m d r hSr (by omega))
      unfold GapAns at HGap
      have hnx := tokF_next (acc := acc) (o := o) (by rw [hlen]; exact hf) (by omega : 0 < r.length)
      rw [hfu] at hnx
      have HNx := Lib.hid hnx
      have HO := Lib.hid hO
      have HB := Lib.hid hB
      have HSr := Lib.hid hSr
      have HX := Lib.hid (And.intro hm (And.intro hf (And.intro ho0 (And.intro ho1 (And.intro hacc (And.intro hlen hnv))))))
      have hnv2 : nv ≤ 200 := by omega
      clear hO hB hSr hm hf hfu ho0 ho1 hacc hlen hncv hAV hRd hnv hnx
      cases hgap : gap acc r with
      | none =>
        have hz : toks b = none := by rw [HNx.out, hgap]
        rw [hgap] at HGap
        simp only [Option.isSome_none] at HGap
        have HZ := Lib.hid hz
        clear hz hgap hm0
        go_wp2_with fail
        refine HGap.out.mono ?_
        rintro e w2 ⟨hb2, R2, m2, d2, rfl, -⟩
        have HB2 := Lib.hid (HB.out.trans (hb2.mono HB.out.size))
        clear hb2
        go_wp2_with fail
        go_ret2
        exact ⟨HB2.out, .inl ⟨HZ.out, rfl⟩⟩
      | some b' =>
        have hz := HNx.out
        rw [hgap] at hz HGap
        simp only [Option.isSome_some] at hz HGap
        have hgl := gap_len hgap
        have HGl := Lib.hid hgl
        by_cases h200 : nv = 200
        · rw [if_pos (by rw [← HX.out.2.2.2.2.2.2]; exact h200)] at hz
          have q2 : ((nv : Int) == 200) = true := by rw [beq_iff_eq]; omega
          have HZ := Lib.hid hz
          clear hz hgap hm0 h200 hgl
          go_wp2_with fail
          refine HGap.out.mono ?_
          rintro e w2 ⟨hb2, R2, m2, d2, rfl, -⟩
          have HB2 := Lib.hid (HB.out.trans (hb2.mono HB.out.size))
          clear hb2
          go_wp2_with fail
          go_ret2
          exact ⟨HB2.out, .inl ⟨HZ.out, rfl⟩⟩
        · rw [if_neg (by rw [← HX.out.2.2.2.2.2.2]; exact h200)] at hz
          have q2 : ((nv : Int) == 200) = false := by rw [beq_eq_false_iff_ne]; omega
          have HZ := Lib.hid hz
          have H2 := Lib.hid h200
          clear hz hgap hm0 h200 hgl
          go_wp2_with fail
          refine HGap.out.mono ?_
          rintro e w2 ⟨hb2, R2, m2, d2, rfl, hans⟩
          have hS2 := hans b' rfl w2 (HSr.out.below hb2)
          have HB2 := Lib.hid (HB.out.trans (hb2.mono HB.out.size))
          have HO2 := Lib.hid (HO.out.below hb2)
          obtain ⟨tb, htb⟩ : ∃ tb, tb = w2.heap.size := ⟨_, rfl⟩
          obtain ⟨W3, hW3⟩ : ∃ W3, W3 = w2.alloc (.cells #[.int .i64 0, .string ⟨#[]⟩] 44) := ⟨_, rfl⟩
          have hb3 : Below w2.heap.size w2 W3 := by rw [hW3]; exact (Below.refl _ _).alloc (Nat.le_refl _) _
          have ht3 : W3.heap[tb]? = some (.cells #[.int .i64 0, .string ⟨#[]⟩] 44 (0, 0)) := by rw [hW3, htb]; exact heap_alloc_new _ _
          have hm2 : m2 ≤ m := by
            have h1 := hS2.1.1
            have h2 := HGl.out.1
            have h3 := HX.out.2.2.2.2.2.1
            omega
          have HM2 := Lib.hid hm2
          have hS3 : Sl W3 R2 m2 d2 b' := hS2.below hb3
          have HCT := Lib.hid (cutToken_any W3 R2 m2 d2 b' hS3 (by have := HX.out.1; omega) ((HRm.out.below HB2.out).below hb3))
          unfold CutAns at HCT
          have HAn2 := Lib.hid (hans b' rfl)
          have HS3 := Lib.hid hS3
          have HB3 := Lib.hid (HB2.out.trans (hb3.mono HB2.out.size))
          have HO3 := Lib.hid (HO2.out.below hb3)
          have HT3 := Lib.hid ht3
          have HTb := Lib.hid htb
          have HW3 := Lib.hid hW3
          clear hb2 hans hS2 htb hW3 hb3 ht3 hm2 hS3
          go_wp2_with fail
          rw [← HW3.out, ← HTb.out]
          refine HCT.out.mono ?_
          rintro e w4 ⟨hb4, k, s, R4, m4, d4, rfl, hans4⟩
          have ht4 := (hb4.block tb (Array.getElem?_eq_some_iff.1 HT3.out).1).trans HT3.out
          have f0 := cell_at ht4 0 (.int .i64 0) rfl
          have f1 := cell_at ht4 1 (.string ⟨#[]⟩) rfl
          have g0 := frozen_of_row _ _ 0 _ _ ht4
          have g1 := frozen_of_row _ _ 1 _ _ ht4
          have lt4 := (Array.getElem?_eq_some_iff.1 ht4).1
          obtain ⟨W5, hW5⟩ : ∃ W5, W5 = (w4.setCell ⟨tb, 0, none⟩ (.int .i64 k)).setCell ⟨tb, 1, none⟩ (.string s) := ⟨_, rfl⟩
          obtain ⟨k1, k2, k3⟩ := two ht4 rfl (.int .i64 k) (.string s)
          rw [← hW5] at k1 k2 k3
          have hb4' := HB3.out.trans (hb4.mono HB3.out.size)
          have htbW : W.heap.size ≤ tb := by rw [HTb.out]; exact HB2.out.size
          have hb5 : Below W.heap.size W W5 := k3 _ _ hb4' htbW
          have hb5' : Below tb w2 W5 := by
            have h1 : Below tb w2 W3 := by
              rw [HW3.out, HTb.out]
              exact (Below.refl _ _).alloc (Nat.le_refl _) _
            have h2 : Below tb W3 w4 := hb4.mono (Nat.le_of_lt (Array.getElem?_eq_some_iff.1 HT3.out).1)
            exact k3 _ _ (h1.trans h2) (Nat.le_refl _)
          have hO5 : Own cT 2 W.heap.size 44 W5 (.slice AV nv cv) acc := HO2.out.below (by rw [HTb.out] at hb5'; exact hb5')
          have HB5 := Lib.hid hb5
          have HO5 := Lib.hid hO5
          have HT5 := Lib.hid k1
          have HW5 := Lib.hid hW5
          have HAns := Lib.hid hans4
          have HRm5 := Lib.hid (HRm.out.below (hb5.mono (Nat.le_refl _)))
          clear hb4 ht4 k1 k2 k3 hb4' htbW hb5 hb5' hO5 hW5 hans4
          cases hcut : cutTok b' with
          | none =>
            have hz := HZ.out
            rw [hcut] at hz
            have HZ2 := Lib.hid hz
            rw [Option.isSome_none]
            clear hz hcut
            go_wp2_with fail
            rw [← HW5.out]
            go_ret2
            exact ⟨HB5.out, .inl ⟨HZ2.out, rfl⟩⟩
          | some pr =>
            obtain ⟨tk, cr⟩ := pr
            have hz := HZ.out
            rw [hcut] at hz
            simp only at hz
            obtain ⟨hk, hs, hR4⟩ := HAns.out tk cr hcut
            have hcl := cutTok_len b' tk cr hcut
            have hS4 := hR4 _ (HS3.out.below (show Below W3.heap.size W3 W3 from Below.refl _ _))
            rw [Option.isSome_some]
            rw [← hk] at hz
            obtain ⟨pk, hpk⟩ : ∃ pk, pk = opens k := ⟨_, rfl⟩
            have HOp := Lib.hid (opens_any W5 k s)
            rw [← hpk] at HOp hz
            have hpb := opens_le k
            rw [← hpk] at hpb
            obtain ⟨o2, ho2⟩ : ∃ o2, o2 = o + pk := ⟨_, rfl⟩
            rw [← ho2] at hz
            have e1 : IntKind.i64.wrap (o + pk) = o2 := (IntWalk.i64_in _ (by have := HX.out.2.2.1; have := HX.out.2.2.2.1; have := HX.out.2.2.2.2.1; omega)).trans ho2.symm
            have HK := Lib.hid (And.intro hk (And.intro hs (And.intro hR4 (And.intro hcl (And.intro hpb ho2)))))
            clear hk hs hR4 hcl hS4 hpk hpb ho2 hcut
            by_cases hneg : o2 < 0
            · rw [if_pos hneg] at hz
              have HZ2 := Lib.hid hz
              have q3 : decide (o2 < 0) = true := decide_eq_true hneg
              clear hz hneg
              go_wp2_with fail
              rw [← HW5.out]
              refine HOp.out.mono ?_
              rintro e w6 ⟨rfl, hb6⟩
              have HB6 := Lib.hid (HB5.out.trans (hb6.mono HB5.out.size))
              clear hb6
              go_wp2_with fail
              go_ret2
              exact ⟨HB6.out, .inl ⟨HZ2.out, rfl⟩⟩
            · rw [if_neg hneg] at hz
              have HZ2 := Lib.hid hz
              have q3 : decide (o2 < 0) = false := decide_eq_false hneg
              have HNeg := Lib.hid hneg
              clear hz hneg
              go_wp2_with fail
              rw [← HW5.out]
              refine HOp.out.mono ?_
              rintro e w6 ⟨rfl, hb6⟩
              have ht6 := (hb6.block tb (Array.getElem?_eq_some_iff.1 HT5.out).1).trans HT5.out
              have i0 := cell_at ht6 0 (.int .i64 k) rfl
              have i1 := cell_at ht6 1 (.string s) rfl
              have lt6 := (Array.getElem?_eq_some_iff.1 ht6).1
              have HB6 := Lib.hid (HB5.out.trans (hb6.mono HB5.out.size))
              have HO6 := Lib.hid (HO5.out.below hb6)
              have HN := Lib.hid (show acc.length ≤ 20000000 by have := HX.out.2.2.2.2.1; omega)
              have HLc := Lib.hid (show (#[.int .i64 k, .string s] : Array Value) = (cT tk).toArray from by
                rw [HK.out.1, HK.out.2.1]
                rfl)
              have HEnd := Lib.hid (fun (v1 : Value) (w7 : World) (ho : Own cT 2 W.heap.size 44 w7 v1 (acc ++ [tk])) (hg : w6.grownBy w7 (Value.slice AV nv cv).ownBlock) => (show TS W b (acc ++ [tk]) o2 cr R4 m4 d4 v1 w7 ∧ m4 < m from by
                have hbW := grown_below HB6.out HO6.out hg
                obtain ⟨hk, hs, hR4, hcl, hpb, ho2⟩ := HK.out
                obtain ⟨x1, x2, x3, x4, x5, x6, x7⟩ := HX.out
                have hS4 := hR4 W (HAn2.out W HSW.out)
                have hm4 := hS4.1.1
                have hgl := HGl.out.1
                have hnv200 := H2.out
                have hz := HZ2.out
                refine ⟨⟨ho, hbW, hS4, by omega, ⟨f - 1, by omega, hz.symm⟩, by have := HNeg.out; omega, ?_, ?_⟩, by omega⟩
                · rw [List.length_append, List.length_singleton]
                  omega
                · rw [List.length_append, List.length_singleton]
                  omega))
              clear hb6 ht6 f0 f1 g0 g1 lt4
              go_wp2_with (at_builtin; refine row.wpList_append_own fT (by decide) (by decide) (by_ := 24) (by decide) (z := .agg #[.int .i64 0, .string ⟨#[]⟩]) rfl rfl (.tmp 39) (.tmp 41) 27 44 rfl Tryz.underlying27 infoT W.heap.size (.slice AV nv cv) acc rfl HO6.out HB6.out.size HN.out tk (0, 0) _ (by simp) rfl _ HLc.out ?_; intro v1 w7 ho hg h3; have HS1 := Lib.hid (HEnd.out v1 w7 ho hg); clear ho hg h3)
              go_roundw
              case rel => first | exact ⟨_, o2, cr, R4, m4, d4, rfl, rfl, Lib.hid HS1.out.1⟩ | ((repeat apply Exists.intro); exact ⟨⟨_, o2, cr, R4, m4, d4, rfl, rfl, Lib.hid HS1.out.1⟩, rfl⟩)
              case measure => (show m4 < m; exact HS1.out.2)
end Go.Proofs.YtbhpgghbpibalaaGreatDoor.lx
