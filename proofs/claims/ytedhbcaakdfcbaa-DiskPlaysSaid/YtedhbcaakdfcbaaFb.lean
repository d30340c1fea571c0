/- The document's Sync. -/
import Derived.Test.YtedhbcaakdfcbaaFa
namespace Go.Proofs.Ytedhbcaakdfcbaa.disk
open Go.ChangeShapes Go.WideShapes Go.ChangeAt Go.RowKit Go.Maps Go.WideMaps
set_option linter.unusedVariables false
set_option linter.unusedSimpArgs false

def safeRF (x : RF) : RF := ⟨x.name, x.A, x.n, x.c, allSafe x.f.l⟩
/-- A file made safe where it lies. -/
theorem ref_safe {w : World} {base p : Nat} {g n cp i : Nat} {cap fuse : Int} {lost : Bool} {xs : List RF} (h : Ref w base p (.slice (some ⟨g, 0, none⟩) n cp) cap fuse lost xs) (hi : i < xs.length) :
    Ref ((w.setCell ⟨g, i * 4 + 2, none⟩ (.int .i64 (xs[i].n : Nat))).setCell ⟨g, i * 4 + 3, none⟩ (.bool true)) base p (.slice (some ⟨g, 0, none⟩) n cp) cap fuse lost (xs.set i (safeRF xs[i])) ∧ Touch (fun j => j = g) w ((w.setCell ⟨g, i * 4 + 2, none⟩ (.int .i64 (xs[i].n : Nat))).setCell ⟨g, i * 4 + 3, none⟩ (.bool true)) := by
  have hgp : g ≠ p := by obtain ⟨g', e, hh, _⟩ := h.at_ hi; cases e; exact hh
  have hl : xs[i].f.l.length = xs[i].n := (h.bytes _ (List.getElem_mem hi)).1
  have r3 := rows_cell (i := i) (j := 2) (u := .int .i64 (xs[i].n : Nat)) (x' := { xs[i] with f := ⟨xs[i].f.l, xs[i].n, xs[i].f.ever⟩ }) h.rows hi (by omega) (by simp [RF.cells])
  have hi3 : i < (xs.set i { xs[i] with f := ⟨xs[i].f.l, xs[i].n, xs[i].f.ever⟩ }).length := by simpa using hi
  have r4 := rows_cell (i := i) (j := 3) (u := .bool true) (x' := (safeRF xs[i])) r3 hi3 (by omega) (by simp [RF.cells, safeRF, allSafe, hl])
  rw [List.set_set] at r4
  have ht := ((Touch.refl (fun j => j = g) w).setCell ⟨g, i * 4 + 2, none⟩ (.inr rfl) (.int .i64 (xs[i].n : Nat))).setCell ⟨g, i * 4 + 3, none⟩ (.inr rfl) (.bool true)
  have hx := List.getElem_mem hi
  have hmem : ∀ y ∈ xs.set i (safeRF xs[i]), y ∈ xs ∨ y = (safeRF xs[i]) := fun y hy => List.mem_or_eq_of_mem_set hy
  have hgx : ∀ y ∈ xs, ∀ ad, y.A = some ad → 0 < y.n → ad.block ≠ g := fun y hy ad e h0 e2 => (h.apart y hy ad e h0).2 (by rw [e2]; rfl)
  refine ⟨⟨?_, h.pb, r4, h.vp, fun y hy => ?_, fun y hy ad e h0 => ?_, fun y hy => ?_, fun y hy => ?_, by simpa using h.few⟩, ht⟩
  · exact (ht.2.2.2.2 p h.lt (Ne.symm hgp)).trans h.head
  · rcases hmem y hy with hy | rfl
    · exact (h.bytes y hy).touch (fun ad e h0 => hgx y hy ad e h0) ht
    · exact (h.bytes xs[i] hx).touch (fun ad e h0 => hgx xs[i] hx ad e h0) ht
  · rcases hmem y hy with hy | rfl
    · exact h.apart y hy ad e h0
    · exact h.apart xs[i] hx ad e h0
  · rcases hmem y hy with hy | rfl
    · exact h.nil_ y hy
    · exact h.nil_ xs[i] hx
  · rcases hmem y hy with hy | rfl
    · exact h.le y hy
    · exact h.le xs[i] hx
theorem rd_safe {w w1 w' : World} {base p : Nat} {g n cp i : Nat} {cap fuse : Int} {lost : Bool} {xs : List RF} (r : Int) (hr : Rising (absF xs)) (hi : i < xs.length) (ht0 : Touch (fun j => j = p) w w1) (h : Ref w' base p (.slice (some ⟨g, 0, none⟩) n cp) cap fuse lost (xs.set i (safeRF xs[i]))) (ht : Touch (fun j => j = g) w1 w') :
    RDoes w base p (.slice (some ⟨g, 0, none⟩) n cp) xs cap (fuse, lost, insL (keyF xs[i]) (allSafe xs[i].f.l) (absF xs), r) (.returned (.int .i64 r)) w' := by
  refine ⟨rfl, _, _, h, abs_set hr hi (safeRF xs[i]) rfl, (ht0.mono fun _ _ e => .inl e).trans (ht.mono fun _ _ e => .inl (.inr (.inl (by rw [e]; rfl)))), fun j hj => ?_⟩
  rcases hj with hj | hj | ⟨x, hx, ad, h1, h2, h3⟩
  · exact .inl (.inl hj)
  · exact .inl (.inr (.inl hj))
  · refine .inl (.inr (.inr ?_))
    rcases List.mem_or_eq_of_mem_set hx with hx | rfl
    · exact ⟨x, hx, ad, h1, h2, h3⟩
    · exact ⟨xs[i], List.getElem_mem hi, ad, h1, h2, h3⟩
set_option maxRecDepth 50000 in
set_option maxHeartbeats 4000000 in
theorem act_sync {w : World} {base p : Nat} {v : Value} {cap fuse : Int} {xs : List RF} (h : Ref w base p v cap fuse false xs) (hr : Rising (absF xs)) (s t : ByteArray) (m : Int) (B : Option Addr) (n c : Nat) (hbase : base ≤ w.heap.size) (hf0 : -1 ≤ fuse) (hf1 : fuse ≤ 9223372036854775807) :
    Calls Try.prog 10 #[.pointer (some ⟨p, 0, none⟩), .int .i64 1, .string s, .string t, .int .i64 m, .slice B n c] w (RDoes w base p v xs cap (rSync fuse (absF xs) s.data.toList)) := by
  obtain ⟨d0, d1, d2, d3, hfz⟩ := h.facts
  have H27 := Lib.hid (at_any h s)
  have HR := Lib.hid h
  have HRis := Lib.hid hr
  rcases at_cases hr s.data.toList with ⟨h1, h2, _⟩ | ⟨i, hi, h1, h2, h3, h4⟩
  · rw [show rSync fuse (absF xs) s.data.toList = (fuse, false, absF xs, 7) by simp [rSync, h2]]
    rw [h1] at H27
    clear h d0 d1 d2 hfz hr h1 h2
    go_enter Try.func10, Try.ntmps10
    go_wp2_with (go_at_call 27; refine H27.out.mono ?_; rintro e w1 ⟨rfl, rfl⟩)
    go_ret
    exact rd_same 7 HR.out (Touch.refl _ _)
  · rw [h1] at H27
    have H30 := Lib.hid (burns_any h hf0 hf1)
    have H3 := Lib.hid h3
    have HI := Lib.hid hi
    have y0 : decide (((i : Nat) : Int) < 0) = false := by simp
    by_cases hz : fuse = 0
    · rw [show rSync fuse (absF xs) s.data.toList = (0, true, absF xs, 6) by simp [rSync, h4, hz]]
      rw [decide_eq_true hz] at H30
      have e30 : rBurnt fuse false = (0, true) := by simp [rBurnt, hz]
      rw [e30] at H30
      clear h d0 d1 d2 hfz hr h1 h2 h3 h4 e30 hz
      go_enter Try.func10, Try.ntmps10
      go_wp2_with (first | (go_at_call 27; refine H27.out.mono ?_; rintro e w1 ⟨rfl, rfl⟩) | (go_at_call 30; refine H30.out.mono ?_; rintro e w1 ⟨rfl, hq1, hq2⟩; have HQ1 := Lib.hid hq1; have HQ2 := Lib.hid hq2; clear hq1 hq2))
      go_ret
      exact rd_same 6 HQ1.out HQ2.out
    · rw [show rSync fuse (absF xs) s.data.toList = ((rBurnt fuse false).1, false, insL s.data.toList (allSafe xs[i].f.l) (absF xs), 0) by unfold rSync; rw [h4]; exact if_neg hz]
      rw [decide_eq_false hz] at H30
      have e30 : (rBurnt fuse false).2 = false := by unfold rBurnt; rw [if_neg hz]; split <;> rfl
      rw [e30] at H30
      obtain ⟨A, cp, rfl, hcp, hAc, _⟩ := h.form
      obtain ⟨g, rfl, hgp, _, _, _, _, _, _, _⟩ := h.at_ hi
      obtain ⟨n1, hn1⟩ : ∃ n1, n1 = xs.length := ⟨_, rfl⟩
      have HN1 := Lib.hid hn1
      rw [← hn1] at hcp
      have y1 : (0 : Int) ≤ ((i : Nat) : Int) := by omega
      have y2 : ((i : Nat) : Int) < (n1 : Int) := by omega
      have y3 : ((i : Nat) : Int).toNat = i := by omega
      clear h d0 d1 d2 hfz hr h1 h2 h4 e30 hz hAc hn1
      go_enter Try.func10, Try.ntmps10
      go_wp2_with (first | (go_at_call 27; refine H27.out.mono ?_; rintro e w1 ⟨rfl, rfl⟩) | (go_at_call 30; refine H30.out.mono ?_; rintro e w1 ⟨rfl, hq1, hq2⟩; rw [← HN1.out] at hq1; have HQ1 := Lib.hid hq1; have HQ2 := Lib.hid hq2; have HC1 := Lib.hid hq1.facts.2.1; obtain ⟨g', hg', _, _, _, _, e1, _, _, hfr⟩ := hq1.at_ HI.out; cases hg'; have HC2 := Lib.hid e1; have HFR := Lib.hid hfr; have HFZ := Lib.hid hq1.facts.2.2.2.2; clear hq1 hq2 e1 hfr))
      refine wp_region_noPanic ?_
      refine held.wp_region_G (S := fun w' => w'.cell? ⟨p, 0 + 1, none⟩ = some (.slice (some ⟨g, 0, none⟩) n1 cp) ∧ w'.cell? ⟨g, i * 4 + 1, none⟩ = some (.slice xs[i].A xs[i].n xs[i].c)) 24 (by kernel_rfl) ⟨HC1.out, HC2.out⟩ (fun hHeld => ?_)
      refine held.wpAnyG_take (i := 0) (v := ?_) rfl (by kernel_rfl) (by kernel_rfl) (by kernel_rfl) (by kernel_rfl) (fun _ _ _ h => h) (Or.inl ⟨by kernel_rfl, ?_⟩) hHeld ?_
      rotate_left
      · (intro w' hw'; go_simp; first | done | with_reducible rfl)
      refine held.wpAnyG_take (i := 1) (v := ?_) rfl (by kernel_rfl) (by kernel_rfl) (by kernel_rfl) (by kernel_rfl) (fun _ _ _ h => h) (Or.inl ⟨by kernel_rfl, ?_⟩) hHeld ?_
      rotate_left
      · (intro w' hw'; go_simp; first | done | with_reducible rfl)
      refine held.wpAnyG_take (i := 2) (v := ?_) rfl (by kernel_rfl) (by kernel_rfl) (by kernel_rfl) (by kernel_rfl) (fun _ _ _ h => h) (Or.inl ⟨by kernel_rfl, ?_⟩) hHeld ?_
      rotate_left
      · (intro w' hw'; go_simp; first | done | with_reducible rfl)
      refine held.wpAnyG_take (i := 3) (v := ?_) rfl (by kernel_rfl) (by kernel_rfl) (by kernel_rfl) (by kernel_rfl) (fun _ _ _ h => h) (Or.inl ⟨by kernel_rfl, ?_⟩) hHeld ?_
      rotate_left
      · (intro w' hw'; have hc1 := hw'.1; have hc2 := hw'.2; go_simp; first | done | with_reducible rfl)
      refine held.wpAnyG_take (i := 4) (v := ?_) rfl (by kernel_rfl) (by kernel_rfl) (by kernel_rfl) (by kernel_rfl) (fun _ _ _ h => h) (Or.inl ⟨by kernel_rfl, ?_⟩) hHeld ?_
      rotate_left
      · (intro w' hw'; go_simp; first | done | with_reducible rfl)
      refine held.wpAnyG_take (i := 5) (v := ?_) rfl (by kernel_rfl) (by kernel_rfl) (by kernel_rfl) (by kernel_rfl) (fun _ _ _ h => h) (Or.inl ⟨by kernel_rfl, ?_⟩) hHeld ?_
      rotate_left
      · (intro w' hw'; go_simp; first | done | with_reducible rfl)
      refine held.wpAnyG_take (i := 6) (v := ?_) rfl (by kernel_rfl) (by kernel_rfl) (by kernel_rfl) (by kernel_rfl) (fun _ _ _ h => h) (Or.inl ⟨by kernel_rfl, ?_⟩) hHeld ?_
      rotate_left
      · (intro w' hw'; go_simp; first | done | with_reducible rfl)
      refine held.wpAnyG_take (i := 7) (v := ?_) rfl (by kernel_rfl) (by kernel_rfl) (by kernel_rfl) (by kernel_rfl) (fun _ _ _ h => h) (Or.inl ⟨by kernel_rfl, ?_⟩) hHeld ?_
      rotate_left
      · (intro w' hw'; go_simp; first | done | with_reducible rfl)
      refine held.wpAnyG_take (i := 8) (v := ?_) rfl (by kernel_rfl) (by kernel_rfl) (by kernel_rfl) (by kernel_rfl) (fun _ _ _ h => h) (Or.inl ⟨by kernel_rfl, ?_⟩) hHeld ?_
      rotate_left
      · (intro w' hw'; have hc1 := hw'.1; have hc2 := hw'.2; go_simp; first | done | with_reducible rfl)
      refine held.wpAnyG_take (i := 9) (v := ?_) rfl (by kernel_rfl) (by kernel_rfl) (by kernel_rfl) (by kernel_rfl) (fun _ _ _ h => h) (Or.inl ⟨by kernel_rfl, ?_⟩) hHeld ?_
      rotate_left
      · (intro w' hw'; go_simp; first | done | with_reducible rfl)
      refine held.wpAnyG_take (i := 10) (v := ?_) rfl (by kernel_rfl) (by kernel_rfl) (by kernel_rfl) (by kernel_rfl) (fun _ _ _ h => h) (Or.inl ⟨by kernel_rfl, ?_⟩) hHeld ?_
      rotate_left
      · (intro w' hw'; go_simp; first | done | with_reducible rfl)
      refine held.wpAnyG_take (i := 11) (v := ?_) rfl (by kernel_rfl) (by kernel_rfl) (by kernel_rfl) (by kernel_rfl) (fun _ _ _ h => h) (Or.inl ⟨by kernel_rfl, ?_⟩) hHeld ?_
      rotate_left
      · (intro w' hw'; go_simp; first | done | with_reducible rfl)
      refine held.wpAnyG_take (i := 12) (v := ?_) rfl (by kernel_rfl) (by kernel_rfl) (by kernel_rfl) (by kernel_rfl) (fun _ _ _ h => h) (Or.inl ⟨by kernel_rfl, ?_⟩) hHeld ?_
      rotate_left
      · (intro w' hw'; go_simp; first | done | with_reducible rfl)
      refine held.wpAnyG_take (i := 13) (v := ?_) rfl (by kernel_rfl) (by kernel_rfl) (by kernel_rfl) (by kernel_rfl) (fun _ _ _ h => h) (Or.inl ⟨by kernel_rfl, ?_⟩) hHeld ?_
      rotate_left
      · (intro w' hw'; have hc1 := hw'.1; have hc2 := hw'.2; go_simp; first | done | with_reducible rfl)
      refine held.wpAnyG_take (i := 14) (v := ?_) rfl (by kernel_rfl) (by kernel_rfl) (by kernel_rfl) (by kernel_rfl) (fun _ _ _ h => h) (Or.inl ⟨by kernel_rfl, ?_⟩) hHeld ?_
      rotate_left
      · (intro w' hw'; go_simp; first | done | with_reducible rfl)
      refine held.wpAnyG_take (i := 15) (v := ?_) rfl (by kernel_rfl) (by kernel_rfl) (by kernel_rfl) (by kernel_rfl) (fun _ _ _ h => h) (Or.inl ⟨by kernel_rfl, ?_⟩) hHeld ?_
      rotate_left
      · (intro w' hw'; go_simp; first | done | with_reducible rfl)
      refine held.wpAnyG_take (i := 16) (v := ?_) rfl (by kernel_rfl) (by kernel_rfl) (by kernel_rfl) (by kernel_rfl) (fun _ _ _ h => h) (Or.inl ⟨by kernel_rfl, ?_⟩) hHeld ?_
      rotate_left
      · (intro w' hw'; go_simp; first | done | with_reducible rfl)
      refine held.wpAnyG_take (i := 17) (v := ?_) rfl (by kernel_rfl) (by kernel_rfl) (by kernel_rfl) (by kernel_rfl) (fun _ _ _ h => h) (Or.inl ⟨by kernel_rfl, ?_⟩) hHeld ?_
      rotate_left
      · (intro w' hw'; have hc1 := hw'.1; have hc2 := hw'.2; go_simp; first | done | with_reducible rfl)
      refine held.wpAnyG_take (i := 18) (v := ?_) rfl (by kernel_rfl) (by kernel_rfl) (by kernel_rfl) (by kernel_rfl) (fun _ _ _ h => h) (Or.inl ⟨by kernel_rfl, ?_⟩) hHeld ?_
      rotate_left
      · (intro w' hw'; go_simp; first | done | with_reducible rfl)
      go_simp
      obtain ⟨u, hu⟩ : ∃ u, u = w1.drew := ⟨_, rfl⟩
      rw [← hu] at hHeld ⊢
      have hbu : Below w1.heap.size w1 u := by rw [hu]; exact below_draws (Below.refl _ _) 1
      have HRu := Lib.hid (HQ1.out.belowS hbu)
      have HTu := Lib.hid (show Touch (fun j => j = p) w u by rw [hu]; exact HQ2.out.drewN 1)
      have ⟨c1, c2, c3, f1, f2⟩ : u.cell? ⟨p, 0 + 1, none⟩ = some (.slice (some ⟨g, 0, none⟩) n1 cp) ∧ u.cell? ⟨g, i * 4 + 1, none⟩ = some (.slice xs[i].A xs[i].n xs[i].c) ∧ u.cell? ⟨g, i * 4 + 2, none⟩ = some (.int .i64 (xs[i].f.safe : Nat)) ∧ u.cell? ⟨g, i * 4 + 3, none⟩ = some (.bool xs[i].f.ever) ∧ ∀ j, u.frozen? ⟨g, j, none⟩ = false := by
        obtain ⟨g', hg', _, _, _, _, e1, e2, e3, hfr⟩ := HRu.out.at_ HI.out
        cases hg'
        exact ⟨hHeld.1, e1, e2, e3, hfr⟩
      obtain ⟨u2, hu2⟩ : ∃ u2, u2 = u.setCell ⟨g, i * 4 + 2, none⟩ (.int .i64 (xs[i].n : Nat)) := ⟨_, rfl⟩
      have hout : ∀ x : Addr, (x.block = g → x.spot = none → x.off < i * 4 + 2 ∨ i * 4 + 2 + 1 ≤ x.off) → u2.cell? x = u.cell? x := fun x hx => by rw [hu2]; exact World.cell?_setCells_out g [.int .i64 (xs[i].n : Nat)] (i * 4 + 2) u x hx
      have k1 := (hout ⟨p, 0 + 1, none⟩ (fun e => absurd e.symm hgp)).trans c1
      have k2 := (hout ⟨g, i * 4 + 1, none⟩ (fun _ _ => .inl (by show i * 4 + 1 < i * 4 + 2; omega))).trans c2
      have k3 := (hout ⟨g, i * 4 + 3, none⟩ (fun _ _ => .inr (by show i * 4 + 2 + 1 ≤ i * 4 + 3; omega))).trans f1
      have k4 : u2.frozen? ⟨g, i * 4 + 3, none⟩ = false := by have := f2 (i * 4 + 3); rw [hu2]; simpa using this
      have f3 := f2 (i * 4 + 2)
      clear hout hbu hu
      have HU2 := Lib.hid hu2
      clear hu2
      refine held.wpAnyG_ready (rs := [19]) (by kernel_rfl) (by simp) ?_
      refine held.AllReadyG.cons rfl (fun K hK => ?_) held.AllReadyG.nil
      go_simp
      refine hK.out _ _ (fun _ => hHeld) (fun hh => ?_)
      have hH1 := hh (by decide)
      clear hK K hh hHeld
      refine held.wpAnyG_take (i := 20) (v := ?_) rfl (by kernel_rfl) (by kernel_rfl) (by kernel_rfl) (by kernel_rfl) (fun _ _ _ h => h) (Or.inl ⟨by kernel_rfl, ?_⟩) hH1 ?_
      rotate_left
      · (intro w' hw'; go_simp; first | done | with_reducible rfl)
      refine held.wpAnyG_ready (rs := [21]) (by kernel_rfl) (by simp) ?_
      refine held.AllReadyG.cons rfl (fun K hK => ?_) held.AllReadyG.nil
      go_simp
      go_simp
      rw [← HU2.out]
      refine hK.out _ _ (fun _ => ⟨k1, k2⟩) (fun hh => ?_)
      have hH2 := hh (by decide)
      clear hK K hh hH1
      refine held.wpAnyG_ready (rs := [22]) (by kernel_rfl) (by simp) ?_
      refine held.AllReadyG.cons rfl (fun K hK => ?_) held.AllReadyG.nil
      go_simp
      refine hK.out _ _ (fun _ => ⟨k1, k2⟩) (fun hh => ?_)
      have hH3 := hh (by decide)
      clear hK K hh hH2
      refine held.wpAnyG_take (i := 23) (v := ?_) rfl (by kernel_rfl) (by kernel_rfl) (by kernel_rfl) (by kernel_rfl) (fun _ _ _ h => h) (Or.inl ⟨by kernel_rfl, ?_⟩) hH3 ?_
      rotate_left
      · (intro w' hw'; go_simp; first | done | with_reducible rfl)
      refine held.wpAnyG_ready (rs := [24]) (by kernel_rfl) (by simp) ?_
      refine held.AllReadyG.cons rfl (fun K hK => ?_) held.AllReadyG.nil
      go_simp
      refine hK.out _ _ (fun hh => absurd rfl hh) (fun _ => ?_)
      clear hK K hH3
      refine held.wpAnyG_done (by kernel_rfl) ?_ _
      refine NoPanic.normal ?_
      go_simp
      go_wp2
      go_ret
      have hs : Ref (u2.setCell ⟨g, i * 4 + 3, none⟩ (.bool true)) base p (.slice (some ⟨g, 0, none⟩) n1 cp) cap (rBurnt fuse false).1 false (xs.set i (safeRF xs[i])) ∧ Touch (fun j => j = g) u (u2.setCell ⟨g, i * 4 + 3, none⟩ (.bool true)) := by rw [HU2.out]; exact ref_safe HRu.out hi
      rw [HN1.out] at hs
      have := rd_safe 0 HRis.out hi HTu.out hs.1 hs.2
      rw [h3] at this
      exact this
end Go.Proofs.Ytedhbcaakdfcbaa.disk
