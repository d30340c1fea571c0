/- A token, as the program cuts it off. -/
import Derived.Test.YtkbldbcgclnfeaaDoorLexY
namespace Go.Proofs.YtkbldbcgclnfeaaDoor.lx
open Go.ChangeShapes Go.WideShapes Go.ChangeAt Go.RowKit
open Go.Proofs.YtkbldbcgclnfeaaDoor.codec (Bytes vals)
open Go.Proofs.YtkbldbcgclnfeaaDoor.row
set_option linter.unusedVariables false
set_option maxRecDepth 100000
set_option linter.unusedSimpArgs false

theorem ct_quoted (r : List Nat) : cutTok (34 :: r) = quotedO r := rfl
theorem ct_literal (r : List Nat) : cutTok (123 :: r) = literalO r := rfl
theorem ct_atom {x : Nat} (r : List Nat) (h1 : x ≠ 40) (h2 : x ≠ 41) (h3 : x ≠ 34) (h4 : x ≠ 123) : cutTok (x :: r) = atomO (x :: r) := by
  rw [cutTok]
  · rfl
  all_goals (intro e; first | exact h1 e | exact h2 e | exact h3 e | exact h4 e)
theorem sign_end {w w2 : World} {A R : Option Addr} {n c u m d : Nat} {k : Int} {b r : List Nat} {E : Ending} {t : TypeId} {cs : Array Value} (hq : cutTok b = some (⟨k, []⟩, r)) (hb : Below w.heap.size w w2) (hu : w2.heap[u]? = some (.cells cs t (0, 0))) (hu2 : u = w.heap.size)
    (hE : E = .returned (.tuple #[.agg #[.int .i64 k, .string ⟨#[]⟩], .slice R m d, .bool true])) (hR : ∀ w0, Sl w0 A n c b → Sl w0 R m d r) : CutAns w A n c b (cutTok b) E ((w2.setCell ⟨u, 0, none⟩ (.int .i64 k)).setCell ⟨u, 1, none⟩ (.string ⟨#[]⟩)).drew := by
  have hb3 : Below w.heap.size w ((w2.setCell ⟨u, 0, none⟩ (.int .i64 k)).setCell ⟨u, 1, none⟩ (.string ⟨#[]⟩)) := (hb.setCell (p := ⟨u, 0, none⟩) (by rw [hu2]; exact Nat.le_refl _) _).setCell (p := ⟨u, 1, none⟩) (by rw [hu2]; exact Nat.le_refl _) _
  refine ⟨codec.below_draws hb3 1, k, ⟨#[]⟩, R, m, d, ?_, ?_⟩
  · rw [hE, hq]
    rfl
  · intro t' c' h
    rw [hq] at h
    cases h
    exact ⟨rfl, rfl, hR⟩
theorem call_end {w w2 : World} {A A1 R : Option Addr} {n c n1 c1 u m d : Nat} {k : Int} {s : ByteArray} {b r : List Nat} {o : Option (Tk × List Nat)} {t : TypeId} {cs : Array Value} (ho : cutTok b = o) (hb : Below w.heap.size w w2) (hu : w2.heap[u]? = some (.cells cs t (0, 0))) (hu2 : u = w.heap.size)
    (hans : ∀ t c', o = some (t, c') → k = t.k ∧ s = strOf t.t ∧ ∀ w0, Sl w0 A1 n1 c1 r → Sl w0 R m d c') (hR : ∀ w0, Sl w0 A n c b → Sl w0 A1 n1 c1 r) : CutAns w A n c b (cutTok b) (.returned (.tuple #[.agg #[.int .i64 k, .string s], .slice R m d, .bool o.isSome])) ((w2.setCell ⟨u, 0, none⟩ (.int .i64 k)).setCell ⟨u, 1, none⟩ (.string s)) := by
  have hb3 : Below w.heap.size w ((w2.setCell ⟨u, 0, none⟩ (.int .i64 k)).setCell ⟨u, 1, none⟩ (.string s)) := (hb.setCell (p := ⟨u, 0, none⟩) (by rw [hu2]; exact Nat.le_refl _) _).setCell (p := ⟨u, 1, none⟩) (by rw [hu2]; exact Nat.le_refl _) _
  refine ⟨hb3, k, s, R, m, d, by rw [ho], ?_⟩
  intro t' c' h
  rw [ho] at h
  obtain ⟨g1, g2, g3⟩ := hans t' c' h
  exact ⟨g1, g2, fun w0 h0 => g3 w0 (hR w0 h0)⟩
set_option maxHeartbeats 4000000 in
theorem cutToken_any (w : World) (A : Option Addr) (n c : Nat) (b : List Nat) (hS : Sl w A n c b) (hn : n ≤ 1000000) (hr : Room w) :
    Calls Tryd.prog 13 #[.slice A n c] w fun e w' => CutAns w A n c b (cutTok b) e w' := by
  obtain ⟨u, hu⟩ : ∃ u, u = w.heap.size := ⟨_, rfl⟩
  obtain ⟨W1, hW1⟩ : ∃ W1, W1 = w.alloc (.cells #[.int .i64 0, .string ⟨#[]⟩] 29) := ⟨_, rfl⟩
  have hb1 : Below w.heap.size w W1 := by rw [hW1]; exact (Below.refl _ _).alloc (Nat.le_refl _) _
  have hu1 : W1.heap[u]? = some (.cells #[.int .i64 0, .string ⟨#[]⟩] 29 (0, 0)) := by rw [hW1, hu]; exact heap_alloc_new _ _
  have HS := Lib.hid hS
  have HS1 := Lib.hid (show Sl W1 A n c b from hS.below hb1)
  have HRm := Lib.hid (hr.below hb1)
  have HL := Lib.hid hS.1.1
  have hnc := hS.2.1
  have d0 := cell_at hu1 0 (.int .i64 0) rfl
  have d1 := cell_at hu1 1 (.string ⟨#[]⟩) rfl
  have y0 := frozen_of_row _ _ 0 _ _ hu1
  have y1 := frozen_of_row _ _ 1 _ _ hu1
  have lu := (Array.getElem?_eq_some_iff.1 hu1).1
  have H1 := Lib.hid (And.intro hb1 (And.intro hu1 hu))
  have HW1 := Lib.hid hW1
  have HU := Lib.hid hu
  clear hS hr
  rcases Nat.eq_zero_or_pos n with h0 | h0
  · have HN := Lib.hid (show cutTok b = none by
      have : b = [] := List.eq_nil_of_length_eq_zero (by have := HL.out; omega)
      rw [this]
      rfl)
    have e0 : (n : Int) = 0 := by omega
    have f0 : w.cell? ⟨w.heap.size, 0, none⟩ = w.cell? ⟨w.heap.size, 0, none⟩ := rfl
    subst h0
    clear hW1 hu hb1 hu1 d0 d1 y0 y1 lu e0 f0
    go_enter Tryd.func13, Tryd.ntmps13
    go_wp2_with fail
    rw [← HU.out, ← HW1.out]
    refine bodyPost_ret (results_cell_tmp_tmp Tryd.results13 _ _ u _ _ _ _ rfl H1.out.2.1 Tryd.underlying29 rfl (tokSize _ rfl)) rfl ?_
    exact cut_none HN.out H1.out.1
  · obtain ⟨b0, o0, rfl, -⟩ := HS1.out.1.2.2 h0
    obtain ⟨x, hx, hx2, hxc⟩ := byte_at HS1.out.1 h0
    obtain ⟨r, rfl⟩ : ∃ r, b = x :: r := by
      cases b with
      | nil => simp at hx
      | cons y s => simp at hx; exact ⟨s, by rw [hx]⟩
    rw [Nat.add_zero] at hxc
    have hxw : w.cell? ⟨b0, o0, none⟩ = some (.int .u8 (x : Nat)) := by
      obtain ⟨x', hx', -, hc'⟩ := byte_at HS.out.1 h0
      simp at hx'
      subst hx'
      rw [Nat.add_zero] at hc'
      exact hc'
    have lb : b0 < w.heap.size := block_lt_of_cell hxw
    have e0 : ((n : Int) == 0) = false := by rw [beq_eq_false_iff_ne]; omega
    have l0 : (0 : Int) < (n : Int) := by omega
    have HRest := Lib.hid (fun w0 (h1 : Sl w0 (some ⟨b0, o0, none⟩) n c (x :: r)) => h1.rest 1 h0)
    have h0n : 1 ≤ n := h0
    clear hx
    by_cases hx40 : x = 40
    · have q40 : ((x : Int) == 40) = true := by rw [beq_iff_eq]; omega
      have HQ := Lib.hid (show cutTok (x :: r) = some (⟨3, []⟩, r) by rw [hx40]; rfl)
      by_cases hc1 : c = 1
      · have e3 : c - 1 = 0 := by omega
        have e4 : n - 1 = 0 := by omega
        have HC := Lib.hid (And.intro hc1 (And.intro e3 e4))
        clear hc1 hW1 hu hb1 hu1
        go_enter Tryd.func13, Tryd.ntmps13
        go_wp2_with fail
        rw [← HU.out, ← HW1.out]
        go_region
        go_wp2_with fail
        refine bodyPost_ret (results_cell_tmp_tmp Tryd.results13 _ _ u _ _ _ _ rfl (two H1.out.2.1 rfl (.int .i64 3) (.string ⟨#[]⟩)).1 Tryd.underlying29 rfl (tokSize _ rfl)) rfl ?_
        refine sign_end HQ.out H1.out.1 H1.out.2.1 HU.out rfl (fun w1 h1 => ?_)
        have h2 := HRest.out w1 h1
        rw [if_pos HC.out.1, HC.out.2.1, HC.out.2.2] at h2
        first | exact h2 | simpa [codec.add_none, HC.out.2.2] using h2
      · have e3 : ¬ c - 1 = 0 := by omega
        have HC := Lib.hid hc1
        clear hc1 hW1 hu hb1 hu1
        go_enter Tryd.func13, Tryd.ntmps13
        go_wp2_with fail
        rw [← HU.out, ← HW1.out]
        go_region
        go_wp2_with fail
        refine bodyPost_ret (results_cell_tmp_tmp Tryd.results13 _ _ u _ _ _ _ rfl (two H1.out.2.1 rfl (.int .i64 3) (.string ⟨#[]⟩)).1 Tryd.underlying29 rfl (tokSize _ rfl)) rfl ?_
        refine sign_end HQ.out H1.out.1 H1.out.2.1 HU.out rfl (fun w1 h1 => ?_)
        have h2 := HRest.out w1 h1
        rw [if_neg HC.out] at h2
        first | exact h2 | simpa [codec.add_none] using h2
    · by_cases hx41 : x = 41
      · have q40 : ((x : Int) == 40) = false := by rw [beq_eq_false_iff_ne]; omega
        have q41 : ((x : Int) == 41) = true := by rw [beq_iff_eq]; omega
        have HQ := Lib.hid (show cutTok (x :: r) = some (⟨4, []⟩, r) by rw [hx41]; rfl)
        by_cases hc1 : c = 1
        · have e3 : c - 1 = 0 := by omega
          have e4 : n - 1 = 0 := by omega
          have HC := Lib.hid (And.intro hc1 (And.intro e3 e4))
          clear hc1 hW1 hu hb1 hu1
          go_enter Tryd.func13, Tryd.ntmps13
          go_wp2_with fail
          rw [← HU.out, ← HW1.out]
          go_region
          go_wp2_with fail
          refine bodyPost_ret (results_cell_tmp_tmp Tryd.results13 _ _ u _ _ _ _ rfl (two H1.out.2.1 rfl (.int .i64 4) (.string ⟨#[]⟩)).1 Tryd.underlying29 rfl (tokSize _ rfl)) rfl ?_
          refine sign_end HQ.out H1.out.1 H1.out.2.1 HU.out rfl (fun w1 h1 => ?_)
          have h2 := HRest.out w1 h1
          rw [if_pos HC.out.1, HC.out.2.1, HC.out.2.2] at h2
          first | exact h2 | simpa [codec.add_none, HC.out.2.2] using h2
        · have e3 : ¬ c - 1 = 0 := by omega
          have HC := Lib.hid hc1
          clear hc1 hW1 hu hb1 hu1
          go_enter Tryd.func13, Tryd.ntmps13
          go_wp2_with fail
          rw [← HU.out, ← HW1.out]
          go_region
          go_wp2_with fail
          refine bodyPost_ret (results_cell_tmp_tmp Tryd.results13 _ _ u _ _ _ _ rfl (two H1.out.2.1 rfl (.int .i64 4) (.string ⟨#[]⟩)).1 Tryd.underlying29 rfl (tokSize _ rfl)) rfl ?_
          refine sign_end HQ.out H1.out.1 H1.out.2.1 HU.out rfl (fun w1 h1 => ?_)
          have h2 := HRest.out w1 h1
          rw [if_neg HC.out] at h2
          first | exact h2 | simpa [codec.add_none] using h2
      · by_cases hx34 : x = 34
        · have q40 : ((x : Int) == 40) = false := by rw [beq_eq_false_iff_ne]; omega
          have q41 : ((x : Int) == 41) = false := by rw [beq_eq_false_iff_ne]; omega
          have q34 : ((x : Int) == 34) = true := by rw [beq_iff_eq]; omega
          have HQ := Lib.hid (show cutTok (x :: r) = quotedO r by rw [hx34]; rfl)
          by_cases hc1 : c = 1
          · have e3 : c - 1 = 0 := by omega
            have e4 : n - 1 = 0 := by omega
            have hSr := HRest.out W1 HS1.out
            rw [if_pos hc1, e3, e4] at hSr
            have HCall := Lib.hid (cutQuoted_any W1 _ 0 0 _ hSr (by omega))
            have HC := Lib.hid (And.intro hc1 (And.intro e3 e4))
            clear hc1 hSr hW1 hu hb1 hu1 d0 d1 y0 y1 lu
            go_enter Tryd.func13, Tryd.ntmps13
            go_wp2_with fail
            rw [← HU.out, ← HW1.out]
            refine HCall.out.mono ?_
            rintro e w3 ⟨hb3, k, s, R, m, d, rfl, hans⟩
            have hu3 := (hb3.block u (Array.getElem?_eq_some_iff.1 H1.out.2.1).1).trans H1.out.2.1
            have HU3 := Lib.hid hu3
            have HB3 := Lib.hid (H1.out.1.trans (hb3.mono H1.out.1.size))
            have HAns := Lib.hid hans
            have f0 := cell_at hu3 0 (.int .i64 0) rfl
            have f1 := cell_at hu3 1 (.string ⟨#[]⟩) rfl
            have g0 := frozen_of_row _ _ 0 _ _ hu3
            have g1 := frozen_of_row _ _ 1 _ _ hu3
            have lu3 := (Array.getElem?_eq_some_iff.1 hu3).1
            clear hb3 hu3 hans
            go_wp2_with fail
            refine bodyPost_ret (results_cell_tmp_tmp Tryd.results13 _ _ u _ _ _ _ rfl (two HU3.out rfl (.int .i64 k) (.string s)).1 Tryd.underlying29 rfl (tokSize _ rfl)) rfl ?_
            exact call_end HQ.out HB3.out HU3.out HU.out HAns.out (fun w1 h1 => by
              have h2 := HRest.out w1 h1
              rw [if_pos HC.out.1, HC.out.2.1, HC.out.2.2] at h2
              exact h2)
          · have e3 : ¬ c - 1 = 0 := by omega
            have hSr := HRest.out W1 HS1.out
            rw [if_neg hc1] at hSr
            simp only [Option.map_some, codec.add_none] at hSr
            have HCall := Lib.hid (cutQuoted_any W1 _ (n - 1) (c - 1) _ hSr (by omega))
            have HC := Lib.hid hc1
            clear hc1 hSr hW1 hu hb1 hu1 d0 d1 y0 y1 lu
            go_enter Tryd.func13, Tryd.ntmps13
            go_wp2_with fail
            rw [← HU.out, ← HW1.out]
            refine HCall.out.mono ?_
            rintro e w3 ⟨hb3, k, s, R, m, d, rfl, hans⟩
            have hu3 := (hb3.block u (Array.getElem?_eq_some_iff.1 H1.out.2.1).1).trans H1.out.2.1
            have HU3 := Lib.hid hu3
            have HB3 := Lib.hid (H1.out.1.trans (hb3.mono H1.out.1.size))
            have HAns := Lib.hid hans
            have f0 := cell_at hu3 0 (.int .i64 0) rfl
            have f1 := cell_at hu3 1 (.string ⟨#[]⟩) rfl
            have g0 := frozen_of_row _ _ 0 _ _ hu3
            have g1 := frozen_of_row _ _ 1 _ _ hu3
            have lu3 := (Array.getElem?_eq_some_iff.1 hu3).1
            clear hb3 hu3 hans
            go_wp2_with fail
            refine bodyPost_ret (results_cell_tmp_tmp Tryd.results13 _ _ u _ _ _ _ rfl (two HU3.out rfl (.int .i64 k) (.string s)).1 Tryd.underlying29 rfl (tokSize _ rfl)) rfl ?_
            exact call_end HQ.out HB3.out HU3.out HU.out HAns.out (fun w1 h1 => by
              have h2 := HRest.out w1 h1
              rw [if_neg HC.out] at h2
              simpa [codec.add_none] using h2)
        · by_cases hx123 : x = 123
          · have q40 : ((x : Int) == 40) = false := by rw [beq_eq_false_iff_ne]; omega
            have q41 : ((x : Int) == 41) = false := by rw [beq_eq_false_iff_ne]; omega
            have q34 : ((x : Int) == 34) = false := by rw [beq_eq_false_iff_ne]; omega
            have q123 : ((x : Int) == 123) = true := by rw [beq_iff_eq]; omega
            have HQ := Lib.hid (show cutTok (x :: r) = literalO r by rw [hx123]; rfl)
            by_cases hc1 : c = 1
            · have e3 : c - 1 = 0 := by omega
              have e4 : n - 1 = 0 := by omega
              have hSr := HRest.out W1 HS1.out
              rw [if_pos hc1, e3, e4] at hSr
              have HCall := Lib.hid (cutLiteral_any W1 _ 0 0 _ hSr (by omega) HRm.out)
              have HC := Lib.hid (And.intro hc1 (And.intro e3 e4))
              clear hc1 hSr hW1 hu hb1 hu1 d0 d1 y0 y1 lu
              go_enter Tryd.func13, Tryd.ntmps13
              go_wp2_with fail
              rw [← HU.out, ← HW1.out]
              refine HCall.out.mono ?_
              rintro e w3 ⟨hb3, k, s, R, m, d, rfl, hans⟩
              have hu3 := (hb3.block u (Array.getElem?_eq_some_iff.1 H1.out.2.1).1).trans H1.out.2.1
              have HU3 := Lib.hid hu3
              have HB3 := Lib.hid (H1.out.1.trans (hb3.mono H1.out.1.size))
              have HAns := Lib.hid hans
              have f0 := cell_at hu3 0 (.int .i64 0) rfl
              have f1 := cell_at hu3 1 (.string ⟨#[]⟩) rfl
              have g0 := frozen_of_row _ _ 0 _ _ hu3
              have g1 := frozen_of_row _ _ 1 _ _ hu3
              have lu3 := (Array.getElem?_eq_some_iff.1 hu3).1
              clear hb3 hu3 hans
              go_wp2_with fail
              refine bodyPost_ret (results_cell_tmp_tmp Tryd.results13 _ _ u _ _ _ _ rfl (two HU3.out rfl (.int .i64 k) (.string s)).1 Tryd.underlying29 rfl (tokSize _ rfl)) rfl ?_
              exact call_end HQ.out HB3.out HU3.out HU.out HAns.out (fun w1 h1 => by
                have h2 := HRest.out w1 h1
                rw [if_pos HC.out.1, HC.out.2.1, HC.out.2.2] at h2
                exact h2)
            · have e3 : ¬ c - 1 = 0 := by omega
              have hSr := HRest.out W1 HS1.out
              rw [if_neg hc1] at hSr
              simp only [Option.map_some, codec.add_none] at hSr
              have HCall := Lib.hid (cutLiteral_any W1 _ (n - 1) (c - 1) _ hSr (by omega) HRm.out)
              have HC := Lib.hid hc1
              clear hc1 hSr hW1 hu hb1 hu1 d0 d1 y0 y1 lu
              go_enter Tryd.func13, Tryd.ntmps13
              go_wp2_with fail
              rw [← HU.out, ← HW1.out]
              refine HCall.out.mono ?_
              rintro e w3 ⟨hb3, k, s, R, m, d, rfl, hans⟩
              have hu3 := (hb3.block u (Array.getElem?_eq_some_iff.1 H1.out.2.1).1).trans H1.out.2.1
              have HU3 := Lib.hid hu3
              have HB3 := Lib.hid (H1.out.1.trans (hb3.mono H1.out.1.size))
              have HAns := Lib.hid hans
              have f0 := cell_at hu3 0 (.int .i64 0) rfl
              have f1 := cell_at hu3 1 (.string ⟨#[]⟩) rfl
              have g0 := frozen_of_row _ _ 0 _ _ hu3
              have g1 := frozen_of_row _ _ 1 _ _ hu3
              have lu3 := (Array.getElem?_eq_some_iff.1 hu3).1
              clear hb3 hu3 hans
              go_wp2_with fail
              refine bodyPost_ret (results_cell_tmp_tmp Tryd.results13 _ _ u _ _ _ _ rfl (two HU3.out rfl (.int .i64 k) (.string s)).1 Tryd.underlying29 rfl (tokSize _ rfl)) rfl ?_
              exact call_end HQ.out HB3.out HU3.out HU.out HAns.out (fun w1 h1 => by
                have h2 := HRest.out w1 h1
                rw [if_neg HC.out] at h2
                simpa [codec.add_none] using h2)
          · have q40 : ((x : Int) == 40) = false := by rw [beq_eq_false_iff_ne]; omega
            have q41 : ((x : Int) == 41) = false := by rw [beq_eq_false_iff_ne]; omega
            have q34 : ((x : Int) == 34) = false := by rw [beq_eq_false_iff_ne]; omega
            have q123 : ((x : Int) == 123) = false := by rw [beq_eq_false_iff_ne]; omega
            have HQ := Lib.hid (show cutTok (x :: r) = atomO (x :: r) by exact ct_atom r hx40 hx41 hx34 hx123)
            have HCall := Lib.hid (cutAtom_any W1 _ n c _ HS1.out (by omega))
            clear hW1 hu hb1 hu1 d0 d1 y0 y1 lu
            go_enter Tryd.func13, Tryd.ntmps13
            go_wp2_with fail
            rw [← HU.out, ← HW1.out]
            refine HCall.out.mono ?_
            rintro e w3 ⟨hb3, k, s, R, m, d, rfl, hans⟩
            have hu3 := (hb3.block u (Array.getElem?_eq_some_iff.1 H1.out.2.1).1).trans H1.out.2.1
            have HU3 := Lib.hid hu3
            have HB3 := Lib.hid (H1.out.1.trans (hb3.mono H1.out.1.size))
            have HAns := Lib.hid hans
            have f0 := cell_at hu3 0 (.int .i64 0) rfl
            have f1 := cell_at hu3 1 (.string ⟨#[]⟩) rfl
            have g0 := frozen_of_row _ _ 0 _ _ hu3
            have g1 := frozen_of_row _ _ 1 _ _ hu3
            have lu3 := (Array.getElem?_eq_some_iff.1 hu3).1
            clear hb3 hu3 hans
            go_wp2_with fail
            refine bodyPost_ret (results_cell_tmp_tmp Tryd.results13 _ _ u _ _ _ _ rfl (two HU3.out rfl (.int .i64 k) (.string s)).1 Tryd.underlying29 rfl (tokSize _ rfl)) rfl ?_
            exact call_end HQ.out HB3.out HU3.out HU.out HAns.out (fun w1 h1 => h1)
end Go.Proofs.YtkbldbcgclnfeaaDoor.lx
