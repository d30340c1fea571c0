/- The document's Room, burns, Whole. -/
import Derived.Test.YtedhbcaakdfcbaaDa
import Derived.IntWalk
namespace Go.Proofs.Ytedhbcaakdfcbaa.disk
open Go.ChangeShapes Go.WideShapes Go.ChangeAt Go.RowKit Go.Maps Go.WideMaps
set_option linter.unusedVariables false
set_option linter.unusedSimpArgs false

def totX (xs : List RF) : Nat := (xs.map (·.n)).sum
theorem totX_take (xs : List RF) (k : Nat) (hk : k < xs.length) : totX (xs.take (k + 1)) = totX (xs.take k) + xs[k].n := by
  unfold totX
  rw [List.take_succ_eq_append_getElem hk, List.map_append, List.sum_append]
  simp
theorem totX_le (xs : List RF) (k : Nat) : totX (xs.take k) ≤ totX xs := by
  unfold totX
  conv => rhs; rw [← List.take_append_drop k xs, List.map_append, List.sum_append]
  omega
set_option maxRecDepth 50000 in
set_option maxHeartbeats 2000000 in
theorem refRoom_any {w : World} {base p : Nat} {v : Value} {cap fuse : Int} {lost : Bool} {xs : List RF} (h : Ref w base p v cap fuse lost xs) (hc0 : 0 ≤ cap) (hc1 : cap ≤ 4194304) (hT : totX xs ≤ 100000000) :
    Calls Try.prog 29 #[.pointer (some ⟨p, 0, none⟩)] w fun e w' => e = .returned (.int .i64 (cap - (totX xs : Nat))) ∧ w = w' := by
  obtain ⟨A, cp, rfl, hcp, _, _⟩ := h.form
  obtain ⟨d0, d1, d2, d3, hfz⟩ := h.facts
  have HR := Lib.hid h
  obtain ⟨n, hn⟩ : ∃ n, n = xs.length := ⟨_, rfl⟩
  have hn1 : n ≤ 1000 := by rw [hn]; exact h.few
  rw [← hn] at d1 hcp
  have HN := Lib.hid hn
  clear h hfz hn d2 d3
  go_enter Try.func29, Try.ntmps29
  go_wp2_with fail
  go_loopw [3, 4, 14] (fun r _ i wr => ∃ (k T : Nat), k ≤ n ∧ i = .int .i64 k ∧ wr = w ∧ Hid (T = totX (xs.take k)) ∧ T ≤ 100000000 ∧ r = .int .i64 (cap - (T : Nat))) (fun _ _ i _ => n - (intOf i).toNat)
  case atStart => exact ⟨0, 0, Nat.zero_le _, rfl, rfl, by show _ = _; simp [totX], by omega, by simp⟩
  case round =>
    obtain ⟨k, T, hk, rfl, rfl, hTk, hT1, rfl⟩ := hrel
    by_cases hlt : k < n
    · have hkx : k < xs.length := by rw [← HN.out]; exact hlt
      have hr := HR.out
      rw [← HN.out] at hr
      obtain ⟨g, rfl, hgp, _, _, c0, c1, c2, c3, hf⟩ := hr.at_ hkx
      have hl := totX_take xs k hkx
      have hl2 := totX_le xs (k + 1)
      obtain ⟨x, hx⟩ : ∃ x, x = xs[k].n := ⟨_, rfl⟩
      rw [← hx] at c1 hl
      have hT2 : T + x ≤ 100000000 := by have := hTk.out; omega
      have HT2 : Hid (T + x = totX (xs.take (k + 1))) := by have := hTk.out; show _ = _; omega
      have HLt := Lib.hid hlt
      clear hl hl2 hr hx
      go_wp2_with fail
      go_roundw
      case rel => exact ⟨k + 1, T + x, Nat.succ_le_of_lt HLt.out, rfl, trivial, HT2.out, hT2, by congr 1; omega⟩
      case measure => have hh := HLt.out; simp [intOf]; omega
    · obtain rfl : k = n := by omega
      have he : T = totX xs := by rw [hTk.out, List.take_of_length_le (by rw [← HN.out]; exact Nat.le_refl _)]
      go_wp2_with fail
      go_ret
      exact ⟨by rw [← he]; rfl, rfl⟩
/-- The document's fuse. -/
def rBurnt (fuse : Int) (lost : Bool) : Int × Bool := if fuse = 0 then (fuse, true) else if 0 < fuse then (fuse - 1, lost) else (fuse, lost)
theorem ref_own {w : World} {base p : Nat} {v : Value} {cap fuse cap' fuse' : Int} {lost lost' : Bool} {xs : List RF} {j : Nat} {u : Value} (h : Ref w base p v cap fuse lost xs)
    (hj : (#[.int .i64 cap, v, .int .i64 fuse, .bool lost] : Array Value).setIfInBounds j u = #[.int .i64 cap', v, .int .i64 fuse', .bool lost']) : Ref (w.setCell ⟨p, j, none⟩ u) base p v cap' fuse' lost' xs := by
  have hg : w.grownBy (w.setCell ⟨p, j, none⟩ u) (some p) := ⟨rfl, rfl, rfl, by simp, fun k _ hk => heap_setCell_other _ _ _ _ (by simpa using hk)⟩
  refine ⟨?_, h.pb, h.rows.kept hg ?_, h.vp, fun x hx => (h.bytes x hx).kept fun ad e h0 => heap_setCell_other _ _ _ _ (h.apart x hx ad e h0).1, h.apart, h.nil_, h.le, h.few⟩
  · rw [heap_setCell_same _ p j _ 32 _ h.head, hj]
  · exact .inr h.vp
set_option maxRecDepth 50000 in
set_option maxHeartbeats 2000000 in
theorem burns_any {w : World} {base p : Nat} {v : Value} {cap fuse : Int} {lost : Bool} {xs : List RF} (h : Ref w base p v cap fuse lost xs) (hf0 : -1 ≤ fuse) (hf1 : fuse ≤ 9223372036854775807) :
    Calls Try.prog 30 #[.pointer (some ⟨p, 0, none⟩)] w fun e w' => e = .returned (.bool (decide (fuse = 0))) ∧ Ref w' base p v cap (rBurnt fuse lost).1 (rBurnt fuse lost).2 xs ∧ Touch (fun j => j = p) w w' := by
  obtain ⟨d0, d1, d2, d3, hfz⟩ := h.facts
  have hz2 := hfz 2
  have hz3 := hfz 3
  have HR := Lib.hid h
  clear h d0 d1 hfz
  by_cases h0 : fuse = 0
  · subst h0
    have e : rBurnt 0 lost = (0, true) := by simp [rBurnt]
    rw [e]
    go_enter Try.func30, Try.ntmps30
    go_wp2_with fail
    go_ret
    exact ⟨rfl, ref_own HR.out rfl, (Touch.refl (fun j => j = p) w).setCell ⟨p, 3, none⟩ (.inr rfl) _⟩
  · by_cases h1 : 0 < fuse
    · have e : rBurnt fuse lost = (fuse - 1, lost) := by simp [rBurnt, h0, h1]
      rw [e, decide_eq_false h0]
      have hw : (fuse == 0) = false := by simpa using h0
      have hwr : wrap64 (fuse - 1) = fuse - 1 := IntWalk.wrap64_in _ (by omega)
      go_enter Try.func30, Try.ntmps30
      go_wp2_with fail
      go_ret
      exact ⟨rfl, ref_own HR.out rfl, (Touch.refl (fun j => j = p) w).setCell ⟨p, 2, none⟩ (.inr rfl) _⟩
    · have e : rBurnt fuse lost = (fuse, lost) := by simp [rBurnt, h0, h1]
      rw [e, decide_eq_false h0]
      have hw : (fuse == 0) = false := by simpa using h0
      go_enter Try.func30, Try.ntmps30
      go_wp2_with fail
      go_ret
      exact ⟨rfl, HR.out, Touch.refl _ _⟩
def wholeR (xs : List RF) (k : List UInt8) : Bool := match atR xs k with | some i => ((xs[i]?).map (fun x => x.f.ever && decide (x.f.safe = x.n))).getD false | none => false
set_option maxRecDepth 50000 in
set_option maxHeartbeats 2000000 in
theorem whole33_any {w : World} {base p : Nat} {v : Value} {cap fuse : Int} {lost : Bool} {xs : List RF} (h : Ref w base p v cap fuse lost xs) (s : ByteArray) :
    Calls Try.prog 33 #[.pointer (some ⟨p, 0, none⟩), .string s] w fun e w' => e = .returned (.bool (wholeR xs s.data.toList)) ∧ ∃ q, w' = w.drewN q := by
  have H27 := Lib.hid (at_any h s)
  obtain ⟨A, cp, rfl, hcp, _, _⟩ := h.form
  obtain ⟨d0, d1, d2, d3, hfz⟩ := h.facts
  have hn1 := h.few
  cases hat : atR xs s.data.toList with
  | none =>
    have e1 : atI xs s.data.toList = -1 := by unfold atI; rw [hat]
    have e2 : wholeR xs s.data.toList = false := by unfold wholeR; rw [hat]
    rw [e1] at H27
    rw [e2]
    clear h hfz d0 d1 d2 d3 hat e1 e2
    go_enter Try.func33, Try.ntmps33
    go_wp2_with fail
    refine H27.out.mono ?_
    rintro e w1 ⟨rfl, rfl⟩
    go_wp2_with fail
    go_quiet (fail)
    go_wp2_with fail
    go_ret
    exact ⟨rfl, _, rfl⟩
  | some i =>
    have hi : i < xs.length := by
      unfold atR at hat
      rw [List.findIdx?_eq_some_iff_getElem] at hat
      exact hat.1
    have e1 : atI xs s.data.toList = (i : Nat) := by unfold atI; rw [hat]
    have e2 : wholeR xs s.data.toList = (xs[i].f.ever && decide (xs[i].f.safe = xs[i].n)) := by unfold wholeR; rw [hat]; simp [hi]
    obtain ⟨g, rfl, hgp, _, _, c0, c1, c2, c3, hf⟩ := h.at_ hi
    rw [e1] at H27
    rw [e2]
    have hsn : ((xs[i].f.safe : Int) == (xs[i].n : Int)) = decide (xs[i].f.safe = xs[i].n) := by
      by_cases e : xs[i].f.safe = xs[i].n
      · simp [e]
      · have : ¬ ((xs[i].f.safe : Int) = (xs[i].n : Int)) := by omega
        simp [e, this]
    generalize xs[i].f.ever = ev at *
    generalize hsf : xs[i].f.safe = sf at *
    generalize hxn : xs[i].n = xn at *
    generalize hd : decide (sf = xn) = b at *
    clear h hfz d0 d2 d3 hat e1 e2 c0 hf hsf hxn
    cases ev with
    | false =>
      go_enter Try.func33, Try.ntmps33
      go_wp2_with fail
      refine H27.out.mono ?_
      rintro e w1 ⟨rfl, rfl⟩
      go_wp2_with fail
      go_quiet (fail)
      go_wp2_with fail
      go_ret
      exact ⟨rfl, _, rfl⟩
    | true =>
      go_enter Try.func33, Try.ntmps33
      go_wp2_with fail
      refine H27.out.mono ?_
      rintro e w1 ⟨rfl, rfl⟩
      go_wp2_with fail
      go_quiet (fail)
      go_wp2_with fail
      go_ret
      exact ⟨by rw [← hd]; rfl, _, rfl⟩
end Go.Proofs.Ytedhbcaakdfcbaa.disk
