/- The document's Append. -/
import Derived.Test.YtedhbcaakdfcbaaFd
import Derived.Test.YtedhbcaakdfcbaaJ
namespace Go.Proofs.Ytedhbcaakdfcbaa.disk
open Go.ChangeShapes Go.WideShapes Go.ChangeAt Go.RowKit Go.Maps Go.WideMaps
set_option linter.unusedVariables false
set_option linter.unusedSimpArgs false

theorem touch_grown {w0 w1 w2 : World} {row : Option Nat} (h : Touch (fun _ => False) w0 w1) (hg : w1.grownBy w2 row) (hr : ∀ g, row = some g → w0.heap.size ≤ g) : Touch (fun _ => False) w0 w2 :=
  h.trans ⟨hg.os, hg.tape, hg.output, hg.size, fun k hk hF => hg.block k hk (fun e => hF (.inr (hr k e.symm)))⟩
/-- What was built behind a file's own block is laid. -/
theorem app_put {w w1 w3 : World} {base p : Nat} {v v2 : Value} {cap fuse0 fuse : Int} {lost : Bool} {xs : List RF} (h : Ref w base p v cap fuse0 false xs) (hr : Rising (absF xs)) (hbase : base ≤ w.heap.size) (hfew : xs.length < 1000)
    (h1 : Ref w1 base p v cap fuse lost xs) (ht1 : Touch (fun j => j = p) w w1) (hlt : w.heap.size < w1.heap.size) (ht3 : Touch (fun _ => False) w1 w3) (s : ByteArray) (L : List Nat) (h256 : ∀ x ∈ L, x < 256) (hown : w3.ownsRow w1.heap.size 5 1 v2 L.length (vals L)) (sf : Nat) (ev : Bool) (q : Nat) (hq : L.length = q) :
    ∃ A c', v2 = .slice A q c' ∧ Calls Try.prog 31 #[.pointer (some ⟨p, 0, none⟩), .agg #[.string s, .slice A q c', .int .i64 (sf : Nat), .bool ev]] (w3.setCell ⟨w.heap.size, 1, none⟩ (.slice A q c')) fun e w' => e = .returned (.tuple #[]) ∧ ∃ v' xs', Ref w' base p v' cap fuse lost xs' ∧ absF xs' = insL s.data.toList ⟨L, sf, ev⟩ (absF xs) ∧ Touch (RFoot p v xs) w w' ∧ ∀ j, RFoot p v' xs' j → RFoot p v xs j ∨ w.heap.size ≤ j := by
  subst hq
  obtain ⟨A, c', e, hle, hnil, hA⟩ := made_row hown (fun g hg => (World.ownsRow.lt hown g hg).1)
  subst e
  refine ⟨A, c', rfl, ?_⟩
  have hp := h.lt
  have ht4 : Touch (fun j => j = w.heap.size) w1 (w3.setCell ⟨w.heap.size, 1, none⟩ (.slice A L.length c')) := Touch.setCell (F := fun j => j = w.heap.size) (ht3.mono fun _ _ e => e.elim) ⟨w.heap.size, 1, none⟩ (.inr rfl) _
  have h4 : Ref (w3.setCell ⟨w.heap.size, 1, none⟩ (.slice A L.length c')) base p v cap fuse lost xs := h1.away ht4 (by omega) (fun g hg e => by have := h.vlt g hg; omega) (fun x hx ad e h0 e2 => by have := (h.bytes x hx).lt ad e h0; omega)
  have hB : Bytes (w3.setCell ⟨w.heap.size, 1, none⟩ (.slice A L.length c')) A L.length L := (bytes_of_own hown h256 rfl).kept fun ad e h0 => by
    refine heap_setCell_other _ _ _ _ ?_
    have := hA ad e
    show ad.block ≠ w.heap.size
    omega
  have hAp : ∀ ad, A = some ad → w.heap.size ≤ ad.block := fun ad e => by have := hA ad e; omega
  refine put_from (xs := xs) (v := v) h4 hr ((ht1.mono fun _ _ e => .inl e).trans (ht4.mono fun j _ e => .inr (by omega))) (fun j hj => .inl hj) ⟨s, A, L.length, c', ⟨L, sf, ev⟩⟩ hB (fun ad e h0 => ?_) hnil hle hbase hfew (fun ad e h0 => .inr (hAp ad e))
  exact ⟨by have := hAp ad e; omega, fun e2 => by have := h.vlt _ e2; have := hAp ad e; omega⟩
set_option maxRecDepth 50000 in
set_option maxHeartbeats 4000000 in
theorem act_append {w : World} {base p : Nat} {v : Value} {cap fuse : Int} {xs : List RF} (h : Ref w base p v cap fuse false xs) (hr : Rising (absF xs)) (s t : ByteArray) (m : Int) (B : Option Addr) (n c : Nat) (hs : s.size ≤ 281474976710656) (data : List Nat) (hD : Bytes w B n data) (hDn : B = none → c = 0) (hlow : ∀ ad, B = some ad → 0 < n → ad.block < base) (hnc : n ≤ c) (hbase : base ≤ w.heap.size) (hfew : xs.length < 1000) (hc0 : 0 ≤ cap) (hc1 : cap ≤ 4194304) (hT : totX xs ≤ 100000000) (hn : n ≤ 1000000) (hf0 : -1 ≤ fuse) (hf1 : fuse ≤ 9223372036854775807) :
    Calls Try.prog 10 #[.pointer (some ⟨p, 0, none⟩), .int .i64 0, .string s, .string t, .int .i64 m, .slice B n c] w (RDoes w base p v xs cap (rAppend cap fuse (absF xs) s.data.toList data)) := by
  obtain ⟨d0, d1, d2, d3, hfz⟩ := h.facts
  have H27 := Lib.hid (at_any h s)
  have H28 := Lib.hid (right_any w s hs)
  have H29 := Lib.hid (refRoom_any h hc0 hc1 hT)
  have HR := Lib.hid h
  have HRis := Lib.hid hr
  have HBase := Lib.hid hbase
  have HFew := Lib.hid hfew
  have hplt := h.lt
  cases hnm : nameB s.data.toList with
  | false =>
    rw [show rAppend cap fuse (absF xs) s.data.toList data = (fuse, false, absF xs, 1) by simp [rAppend, hnm]]
    rw [hnm] at H28
    clear h d0 d1 d2 hfz hr
    go_enter Try.func10, Try.ntmps10
    go_wp2_with (first | (go_at_call 27; refine H27.out.mono ?_; rintro e w1 ⟨rfl, rfl⟩) | (go_at_call 28; refine H28.out.mono ?_; rintro e w1 ⟨rfl, rfl⟩))
    go_ret
    exact rd_same 1 HR.out (Touch.refl _ _)
  | true =>
    rw [hnm] at H28
    obtain ⟨R, hR⟩ : ∃ R : Int, R = cap - (totX xs : Nat) := ⟨_, rfl⟩
    rw [← hR] at H29
    have htot := tot_abs (xs := xs) (fun x hx => (h.bytes x hx).1)
    have hDl : data.length = n := hD.1
    have e0 : rAppend cap fuse (absF xs) s.data.toList data = if R < (n : Nat) then (fuse, false, absF xs, 4) else if fuse = 0 then (if fmL (absF xs) s.data.toList = none ∧ n / 2 = 0 then (0, true, absF xs, 6) else (0, true, insL s.data.toList (grown (fmL (absF xs)) s.data.toList (data.take (n / 2))) (absF xs), 6)) else ((rBurnt fuse false).1, false, insL s.data.toList (grown (fmL (absF xs)) s.data.toList data) (absF xs), 0) := by simp [rAppend, hnm, htot, hR, hDl]
    rw [e0]
    have HRb := Lib.hid (show -100000000 ≤ R ∧ R ≤ 4194304 by omega)
    clear e0 hnm hR htot
    by_cases hfull : R < (n : Nat)
    · rw [if_pos hfull]
      have y2 : decide (R < (n : Int)) = true := by simpa using hfull
      clear h d0 d1 d2 hfz hr hDl hfull hD hDn
      go_enter Try.func10, Try.ntmps10
      go_wp2_with (first | (go_at_call 27; refine H27.out.mono ?_; rintro e w1 ⟨rfl, rfl⟩) | (go_at_call 28; refine H28.out.mono ?_; rintro e w1 ⟨rfl, rfl⟩) | (go_at_call 29; refine H29.out.mono ?_; rintro e w1 ⟨rfl, rfl⟩))
      go_ret
      exact rd_same 4 HR.out (Touch.refl _ _)
    · rw [if_neg hfull]
      have y2 : decide (R < (n : Int)) = false := by simpa using hfull
      have HD := Lib.hid hD
      have HLow := Lib.hid hlow
      have HDn := Lib.hid hDn
      have HDl := Lib.hid hDl
      have hRa : ∀ o, Ref (w.alloc o) base p v cap fuse false xs := fun o => h.belowS ((Below.refl _ _).alloc (Nat.le_refl _) _)
      have H30 : Hid (∀ o, _) := fun o => burns_any (hRa o) hf0 hf1
      have HXp : Hid (w.heap.size ≠ p) := by show _ ≠ _; omega
      clear hfull hRa hD hlow hDn hDl
      rcases at_cases hr s.data.toList with ⟨h1, h2, _⟩ | ⟨i, hi, h1, h2, h3, h4⟩
      · rw [h1] at H27
        have eg : ∀ l, grown (fmL (absF xs)) s.data.toList l = ⟨[] ++ l, 0, false⟩ := fun l => by simp [grown, fileAt, h2]
        simp only [eg, h2, true_and]
        have y0 : decide ((0 : Int) ≤ -1) = false := rfl
        have HN0 : Hid ((0 : Nat) ≤ 100000000) := by show _ ≤ _; omega
        have HL0 : Hid (([] : List Nat).length = 0) := rfl
        by_cases hz : fuse = 0
        · rw [if_pos hz]
          rw [show decide (fuse = 0) = true from decide_eq_true hz] at H30
          have e30 : rBurnt fuse false = (0, true) := by simp [rBurnt, hz]
          rw [e30] at H30
          by_cases hh : n / 2 = 0
          · rw [if_pos hh]
            clear h d0 d1 d2 hfz hr h1 h2 eg e30 hz
            go_enter Try.func10, Try.ntmps10
            go_wp2_with (first | (go_at_call 27; refine H27.out.mono ?_; rintro e w1 ⟨rfl, rfl⟩) | (go_at_call 28; refine H28.out.mono ?_; rintro e w1 ⟨rfl, rfl⟩) | (go_at_call 29; refine H29.out.mono ?_; rintro e w1 ⟨rfl, rfl⟩) | (go_at_call 30; refine (H30.out _).mono ?_; rintro e w1 ⟨rfl, hq1, hq2⟩; have hX := (hq2.2.2.2.2 w.heap.size (by simp) HXp.out).trans (heap_alloc_new w (.cells #[.string s, .slice none 0 0, .int .i64 0, .bool false] 60)); have hlt1 : w.heap.size < w1.heap.size := (by have := hq2.2.2.2.1; simp at this; omega); have HT1 := Lib.hid (show Touch (fun j => j = p) w w1 from ((Touch.refl _ w).alloc _).trans (hq2.mono fun _ _ e => .inl e)); have HQ1 := Lib.hid hq1; have kX : ∀ o, (w1.alloc o).cell? ⟨w.heap.size, 1, none⟩ = some (.slice none 0 0) := (fun o => by simp [World.cell?, Below.heap_alloc w1 o w.heap.size hlt1, hX]); have HX := Lib.hid hX; have HLt1 := Lib.hid hlt1; clear hq1 hq2 hX hlt1))
            go_ret
            exact rd_same 6 HQ1.out HT1.out
          · rw [if_neg hh]
            obtain ⟨q, hq⟩ : ∃ q, ([] ++ (data.take (n / 2)) : List Nat).length = q := ⟨_, rfl⟩
            have HQl := Lib.hid hq
            have HOld : Hid (∀ w', Touch (fun j => j = p) w w' → Bytes w' none 0 []) := fun w' _ => ⟨rfl, by simp, fun h => absurd h (by omega)⟩
            have HNew : Hid (∀ w', Touch (fun j => j = p) w w' → ∀ w'', Touch (fun _ => False) w' w'' → Bytes w'' B (n / 2) (data.take (n / 2))) := fun w' ht w'' ht2 => ((HD.out.touch (fun ad e h0 e2 => by have := HLow.out ad e h0; have := HR.out.pb; omega) ht).touch (fun _ _ _ e => e) ht2).half (by omega)
            have H256 : Hid (∀ x ∈ ([] ++ (data.take (n / 2)) : List Nat), x < 256) := fun x hx => by rw [List.nil_append] at hx; exact HD.out.2.1 x (List.mem_of_mem_take hx)
            have HLen : Hid (([] : List Nat).length + (n / 2) ≤ 1000000000) := by show _ ≤ _; have := HN0.out; have := HL0.out; omega
            clear h d0 d1 d2 hfz hr h1 h2 eg e30 hz hq
            go_enter Try.func10, Try.ntmps10
            go_wp2_with (first | (go_at_call 27; refine H27.out.mono ?_; rintro e w1 ⟨rfl, rfl⟩) | (go_at_call 28; refine H28.out.mono ?_; rintro e w1 ⟨rfl, rfl⟩) | (go_at_call 29; refine H29.out.mono ?_; rintro e w1 ⟨rfl, rfl⟩) | (go_at_call 30; refine (H30.out _).mono ?_; rintro e w1 ⟨rfl, hq1, hq2⟩; have hX := (hq2.2.2.2.2 w.heap.size (by simp) HXp.out).trans (heap_alloc_new w (.cells #[.string s, .slice none 0 0, .int .i64 0, .bool false] 60)); have hlt1 : w.heap.size < w1.heap.size := (by have := hq2.2.2.2.1; simp at this; omega); have HT1 := Lib.hid (show Touch (fun j => j = p) w w1 from ((Touch.refl _ w).alloc _).trans (hq2.mono fun _ _ e => .inl e)); have HQ1 := Lib.hid hq1; have kX : ∀ o, (w1.alloc o).cell? ⟨w.heap.size, 1, none⟩ = some (.slice none 0 0) := (fun o => by simp [World.cell?, Below.heap_alloc w1 o w.heap.size hlt1, hX]); have HX := Lib.hid hX; have HLt1 := Lib.hid hlt1; clear hq1 hq2 hX hlt1) | (at_builtin; refine wpList_append_bytes rfl (.tmp 60) (.tmp 62) rfl w1.heap.size _ [] rfl (World.ownsRow_lit (base := w1.heap.size) w1 #[] 0 (Nat.le_refl _) (by simp) rfl) (by simp) none 0 0 [] rfl (HOld.out _ (HT1.out.alloc _)) (fun _ => rfl) (by have := HN0.out; simp <;> omega) ?_; intro v2 w2 hown hgrow hnl hblk; have HOwn := Lib.hid (show w2.ownsRow w1.heap.size 5 1 v2 [].length (vals []) from hown); have HT2 := Lib.hid (show Touch (fun _ => False) w1 w2 from touch_grown ((Touch.refl _ w1).alloc _) hgrow (fun g e => Nat.le_of_eq (Option.some.inj e))); clear hown hgrow hnl hblk kX) | (at_builtin; refine wpList_append_bytes rfl (.tmp 63) (.tmp 64) rfl w1.heap.size v2 [] rfl HOwn.out (HT2.out.2.2.2.1) B (n / 2) c (data.take (n / 2)) rfl (HNew.out _ HT1.out _ HT2.out) HDn.out (by have := HLen.out; omega) ?_; intro v3 w3 hown hgrow hnl hblk; have HT3 := Lib.hid (touch_grown HT2.out hgrow (fun g e => (World.ownsRow.lt HOwn.out g e).1)); obtain ⟨A3, c3, e3, hcall⟩ := app_put (L := [] ++ (data.take (n / 2))) HR.out HRis.out HBase.out HFew.out HQ1.out HT1.out HLt1.out HT3.out s H256.out hown 0 false q HQl.out; subst e3; have HC := Lib.hid hcall; have hX3 := (HT3.out.2.2.2.2 _ HLt1.out (fun e => e)).trans HX.out; have hX4 := heap_setCell_same w3 w.heap.size 1 _ 60 (.slice A3 q c3) hX3; have s1 : w3.cell? ⟨w.heap.size, 1, none⟩ = some (.slice none 0 0) := (by simp [World.cell?, hX3]); have s2 : w3.frozen? ⟨w.heap.size, 1, none⟩ = false := (by simp [World.frozen?, hX3]); have u0 : (w3.setCell ⟨w.heap.size, 1, none⟩ (.slice A3 q c3)).cell? ⟨w.heap.size, 0, none⟩ = some (.string s) := (by simp [World.cell?, hX4]); have u1 : (w3.setCell ⟨w.heap.size, 1, none⟩ (.slice A3 q c3)).cell? ⟨w.heap.size, 1, none⟩ = some (.slice A3 q c3) := (by simp [World.cell?, hX4]); have u2 : (w3.setCell ⟨w.heap.size, 1, none⟩ (.slice A3 q c3)).cell? ⟨w.heap.size, 2, none⟩ = some (.int .i64 (0 : Nat)) := (by simp [World.cell?, hX4]); have u3 : (w3.setCell ⟨w.heap.size, 1, none⟩ (.slice A3 q c3)).cell? ⟨w.heap.size, 3, none⟩ = some (.bool false) := (by simp [World.cell?, hX4]); clear hown hgrow hnl hblk hcall hX3 hX4) | (go_at_call 31; refine HC.out.mono ?_; rintro e w4 ⟨rfl, v5, xs5, r1, r2, r3, r4⟩; have hlost := r1.facts.2.2.2.1; have R1 := Lib.hid r1; have R2 := Lib.hid r2; have R3 := Lib.hid r3; have R4 := Lib.hid r4; clear r1 r2 r3 r4 u0 u1 u2 u3 s1 s2))
            go_ret
            exact ⟨rfl, v5, xs5, R1.out, R2.out, R3.out, R4.out⟩
        · rw [if_neg hz]
          rw [show decide (fuse = 0) = false from decide_eq_false hz] at H30
          have e30 : (rBurnt fuse false).2 = false := by unfold rBurnt; rw [if_neg hz]; split <;> rfl
          rw [e30] at H30
          obtain ⟨q, hq⟩ : ∃ q, ([] ++ data : List Nat).length = q := ⟨_, rfl⟩
          have HQl := Lib.hid hq
          have HOld : Hid (∀ w', Touch (fun j => j = p) w w' → Bytes w' none 0 []) := fun w' _ => ⟨rfl, by simp, fun h => absurd h (by omega)⟩
          have HNew : Hid (∀ w', Touch (fun j => j = p) w w' → ∀ w'', Touch (fun _ => False) w' w'' → Bytes w'' B n data) := fun w' ht w'' ht2 => (HD.out.touch (fun ad e h0 e2 => by have := HLow.out ad e h0; have := HR.out.pb; omega) ht).touch (fun _ _ _ e => e) ht2
          have H256 : Hid (∀ x ∈ ([] ++ data : List Nat), x < 256) := fun x hx => by rw [List.nil_append] at hx; exact HD.out.2.1 x (hx)
          have HLen : Hid (([] : List Nat).length + n ≤ 1000000000) := by show _ ≤ _; have := HN0.out; have := HL0.out; omega
          clear h d0 d1 d2 hfz hr h1 h2 eg e30 hz hq
          go_enter Try.func10, Try.ntmps10
          go_wp2_with (first | (go_at_call 27; refine H27.out.mono ?_; rintro e w1 ⟨rfl, rfl⟩) | (go_at_call 28; refine H28.out.mono ?_; rintro e w1 ⟨rfl, rfl⟩) | (go_at_call 29; refine H29.out.mono ?_; rintro e w1 ⟨rfl, rfl⟩) | (go_at_call 30; refine (H30.out _).mono ?_; rintro e w1 ⟨rfl, hq1, hq2⟩; have hX := (hq2.2.2.2.2 w.heap.size (by simp) HXp.out).trans (heap_alloc_new w (.cells #[.string s, .slice none 0 0, .int .i64 0, .bool false] 60)); have hlt1 : w.heap.size < w1.heap.size := (by have := hq2.2.2.2.1; simp at this; omega); have HT1 := Lib.hid (show Touch (fun j => j = p) w w1 from ((Touch.refl _ w).alloc _).trans (hq2.mono fun _ _ e => .inl e)); have HQ1 := Lib.hid hq1; have kX : ∀ o, (w1.alloc o).cell? ⟨w.heap.size, 1, none⟩ = some (.slice none 0 0) := (fun o => by simp [World.cell?, Below.heap_alloc w1 o w.heap.size hlt1, hX]); have HX := Lib.hid hX; have HLt1 := Lib.hid hlt1; clear hq1 hq2 hX hlt1) | (at_builtin; refine wpList_append_bytes rfl (.tmp 60) (.tmp 62) rfl w1.heap.size _ [] rfl (World.ownsRow_lit (base := w1.heap.size) w1 #[] 0 (Nat.le_refl _) (by simp) rfl) (by simp) none 0 0 [] rfl (HOld.out _ (HT1.out.alloc _)) (fun _ => rfl) (by have := HN0.out; simp <;> omega) ?_; intro v2 w2 hown hgrow hnl hblk; have HOwn := Lib.hid (show w2.ownsRow w1.heap.size 5 1 v2 [].length (vals []) from hown); have HT2 := Lib.hid (show Touch (fun _ => False) w1 w2 from touch_grown ((Touch.refl _ w1).alloc _) hgrow (fun g e => Nat.le_of_eq (Option.some.inj e))); clear hown hgrow hnl hblk kX) | (at_builtin; refine wpList_append_bytes rfl (.tmp 63) (.tmp 64) rfl w1.heap.size v2 [] rfl HOwn.out (HT2.out.2.2.2.1) B n c data rfl (HNew.out _ HT1.out _ HT2.out) HDn.out (by have := HLen.out; omega) ?_; intro v3 w3 hown hgrow hnl hblk; have HT3 := Lib.hid (touch_grown HT2.out hgrow (fun g e => (World.ownsRow.lt HOwn.out g e).1)); obtain ⟨A3, c3, e3, hcall⟩ := app_put (L := [] ++ data) HR.out HRis.out HBase.out HFew.out HQ1.out HT1.out HLt1.out HT3.out s H256.out hown 0 false q HQl.out; subst e3; have HC := Lib.hid hcall; have hX3 := (HT3.out.2.2.2.2 _ HLt1.out (fun e => e)).trans HX.out; have hX4 := heap_setCell_same w3 w.heap.size 1 _ 60 (.slice A3 q c3) hX3; have s1 : w3.cell? ⟨w.heap.size, 1, none⟩ = some (.slice none 0 0) := (by simp [World.cell?, hX3]); have s2 : w3.frozen? ⟨w.heap.size, 1, none⟩ = false := (by simp [World.frozen?, hX3]); have u0 : (w3.setCell ⟨w.heap.size, 1, none⟩ (.slice A3 q c3)).cell? ⟨w.heap.size, 0, none⟩ = some (.string s) := (by simp [World.cell?, hX4]); have u1 : (w3.setCell ⟨w.heap.size, 1, none⟩ (.slice A3 q c3)).cell? ⟨w.heap.size, 1, none⟩ = some (.slice A3 q c3) := (by simp [World.cell?, hX4]); have u2 : (w3.setCell ⟨w.heap.size, 1, none⟩ (.slice A3 q c3)).cell? ⟨w.heap.size, 2, none⟩ = some (.int .i64 (0 : Nat)) := (by simp [World.cell?, hX4]); have u3 : (w3.setCell ⟨w.heap.size, 1, none⟩ (.slice A3 q c3)).cell? ⟨w.heap.size, 3, none⟩ = some (.bool false) := (by simp [World.cell?, hX4]); clear hown hgrow hnl hblk hcall hX3 hX4) | (go_at_call 31; refine HC.out.mono ?_; rintro e w4 ⟨rfl, v5, xs5, r1, r2, r3, r4⟩; have hlost := r1.facts.2.2.2.1; have R1 := Lib.hid r1; have R2 := Lib.hid r2; have R3 := Lib.hid r3; have R4 := Lib.hid r4; clear r1 r2 r3 r4 u0 u1 u2 u3 s1 s2))
          go_ret
          exact ⟨rfl, v5, xs5, R1.out, R2.out, R3.out, R4.out⟩
      · rw [h1] at H27
        obtain ⟨A, cp, rfl, hcp, hAc, _⟩ := h.form
        obtain ⟨g, rfl, hgp, _, hgl, c0, c1, c2, c3, _⟩ := h.at_ hi
        have hxb := h.bytes _ (List.getElem_mem hi)
        have hxa := h.apart _ (List.getElem_mem hi)
        have hxn := h.nil_ _ (List.getElem_mem hi)
        have hxl : xs[i].n ≤ 100000000 := by
          have e1 := totX_take xs i hi
          have e2 := totX_le xs (i + 1)
          omega
        have eg : ∀ l, grown (fmL (absF xs)) s.data.toList l = ⟨xs[i].f.l ++ l, xs[i].f.safe, xs[i].f.ever⟩ := fun l => by simp [grown, fileAt, h4]
        have hne : ¬ (fmL (absF xs) s.data.toList = none ∧ n / 2 = 0) := fun e => by rw [h4] at e; cases e.1
        rw [if_neg hne]
        simp only [eg]
        generalize xs[i] = y at c0 c1 c2 c3 hxb hxa hxn hxl h3 ⊢
        obtain ⟨nm, A0, n0, c0', ⟨l0, sf, ev⟩⟩ := y
        obtain rfl : nm = s := ByteArray.ext (Array.toList_inj.1 h3)
        simp only at c0 c1 c2 c3 hxb hxa hxn hxl ⊢
        obtain ⟨n1, hn1⟩ : ∃ n1, n1 = xs.length := ⟨_, rfl⟩
        rw [← hn1] at hcp d1
        have y1 : (0 : Int) ≤ ((i : Nat) : Int) := by omega
        have y2 : ((i : Nat) : Int) < (n1 : Int) := by omega
        have y3 : ((i : Nat) : Int).toNat = i := by omega
        have y4 : decide ((0 : Int) ≤ ((i : Nat) : Int)) = true := by simp
        have a1 : ∀ o, (w.alloc o).cell? ⟨p, 0 + 1, none⟩ = some (.slice (some ⟨g, 0, none⟩) n1 cp) := fun o => by rw [World.cell?_of_block (w := w) (Below.heap_alloc w o p hplt)]; exact d1
        have b0 : ∀ o, (w.alloc o).cell? ⟨g, i * 4, none⟩ = some (.string nm) := fun o => by rw [World.cell?_of_block (w := w) (Below.heap_alloc w o g hgl)]; exact c0
        have b1 : ∀ o, (w.alloc o).cell? ⟨g, i * 4 + 1, none⟩ = some (.slice A0 n0 c0') := fun o => by rw [World.cell?_of_block (w := w) (Below.heap_alloc w o g hgl)]; exact c1
        have b2 : ∀ o, (w.alloc o).cell? ⟨g, i * 4 + 2, none⟩ = some (.int .i64 (sf : Nat)) := fun o => by rw [World.cell?_of_block (w := w) (Below.heap_alloc w o g hgl)]; exact c2
        have b3 : ∀ o, (w.alloc o).cell? ⟨g, i * 4 + 3, none⟩ = some (.bool ev) := fun o => by rw [World.cell?_of_block (w := w) (Below.heap_alloc w o g hgl)]; exact c3
        have HN0 := Lib.hid hxl
        have HL0 := Lib.hid hxb.1
        have HOl := Lib.hid hxb.2.1
        have HNil := Lib.hid hxn
        have HXb := Lib.hid hxb
        have HXa := Lib.hid hxa
        by_cases hz : fuse = 0
        · rw [if_pos hz]
          rw [show decide (fuse = 0) = true from decide_eq_true hz] at H30
          have e30 : rBurnt fuse false = (0, true) := by simp [rBurnt, hz]
          rw [e30] at H30
          obtain ⟨q, hq⟩ : ∃ q, (l0 ++ (data.take (n / 2)) : List Nat).length = q := ⟨_, rfl⟩
          have HQl := Lib.hid hq
          have HOld : Hid (∀ w', Touch (fun j => j = p) w w' → Bytes w' A0 n0 l0) := fun w' ht => HXb.out.touch (fun ad e h0 e2 => (HXa.out ad e h0).1 e2) ht
          have HNew : Hid (∀ w', Touch (fun j => j = p) w w' → ∀ w'', Touch (fun _ => False) w' w'' → Bytes w'' B (n / 2) (data.take (n / 2))) := fun w' ht w'' ht2 => ((HD.out.touch (fun ad e h0 e2 => by have := HLow.out ad e h0; have := HR.out.pb; omega) ht).touch (fun _ _ _ e => e) ht2).half (by omega)
          have H256 : Hid (∀ x ∈ (l0 ++ (data.take (n / 2)) : List Nat), x < 256) := fun x hx => by
            rcases List.mem_append.1 hx with hx | hx
            · exact HOl.out x hx
            · exact HD.out.2.1 x (List.mem_of_mem_take hx)
          have HLen : Hid ((l0 : List Nat).length + (n / 2) ≤ 1000000000) := by show _ ≤ _; have := HN0.out; have := HL0.out; omega
          clear h d0 d1 d2 hfz hr h1 h2 h3 h4 eg e30 hz hq hxb hxa hxn hAc hne c0 c1 c2 c3 hn1
          go_enter Try.func10, Try.ntmps10
          go_wp2_with (first | (go_at_call 27; refine H27.out.mono ?_; rintro e w1 ⟨rfl, rfl⟩) | (go_at_call 28; refine H28.out.mono ?_; rintro e w1 ⟨rfl, rfl⟩) | (go_at_call 29; refine H29.out.mono ?_; rintro e w1 ⟨rfl, rfl⟩) | (go_at_call 30; refine (H30.out _).mono ?_; rintro e w1 ⟨rfl, hq1, hq2⟩; have hX := (hq2.2.2.2.2 w.heap.size (by simp) HXp.out).trans (heap_alloc_new w (.cells #[.string nm, .slice A0 n0 c0', .int .i64 (sf : Nat), .bool ev] 60)); have hlt1 : w.heap.size < w1.heap.size := (by have := hq2.2.2.2.1; simp at this; omega); have HT1 := Lib.hid (show Touch (fun j => j = p) w w1 from ((Touch.refl _ w).alloc _).trans (hq2.mono fun _ _ e => .inl e)); have HQ1 := Lib.hid hq1; have kX : ∀ o, (w1.alloc o).cell? ⟨w.heap.size, 1, none⟩ = some (.slice A0 n0 c0') := (fun o => by simp [World.cell?, Below.heap_alloc w1 o w.heap.size hlt1, hX]); have HX := Lib.hid hX; have HLt1 := Lib.hid hlt1; clear hq1 hq2 hX hlt1) | (at_builtin; refine wpList_append_bytes rfl (.tmp 60) (.tmp 62) rfl w1.heap.size _ [] rfl (World.ownsRow_lit (base := w1.heap.size) w1 #[] 0 (Nat.le_refl _) (by simp) rfl) (by simp) A0 n0 c0' l0 rfl (HOld.out _ (HT1.out.alloc _)) HNil.out (by have := HN0.out; simp <;> omega) ?_; intro v2 w2 hown hgrow hnl hblk; have HOwn := Lib.hid (show w2.ownsRow w1.heap.size 5 1 v2 l0.length (vals l0) from hown); have HT2 := Lib.hid (show Touch (fun _ => False) w1 w2 from touch_grown ((Touch.refl _ w1).alloc _) hgrow (fun g e => Nat.le_of_eq (Option.some.inj e))); clear hown hgrow hnl hblk kX) | (at_builtin; refine wpList_append_bytes rfl (.tmp 63) (.tmp 64) rfl w1.heap.size v2 l0 rfl HOwn.out (HT2.out.2.2.2.1) B (n / 2) c (data.take (n / 2)) rfl (HNew.out _ HT1.out _ HT2.out) HDn.out (by have := HLen.out; omega) ?_; intro v3 w3 hown hgrow hnl hblk; have HT3 := Lib.hid (touch_grown HT2.out hgrow (fun g e => (World.ownsRow.lt HOwn.out g e).1)); obtain ⟨A3, c3, e3, hcall⟩ := app_put (L := l0 ++ (data.take (n / 2))) HR.out HRis.out HBase.out HFew.out HQ1.out HT1.out HLt1.out HT3.out nm H256.out hown sf ev q HQl.out; subst e3; have HC := Lib.hid hcall; have hX3 := (HT3.out.2.2.2.2 _ HLt1.out (fun e => e)).trans HX.out; have hX4 := heap_setCell_same w3 w.heap.size 1 _ 60 (.slice A3 q c3) hX3; have s1 : w3.cell? ⟨w.heap.size, 1, none⟩ = some (.slice A0 n0 c0') := (by simp [World.cell?, hX3]); have s2 : w3.frozen? ⟨w.heap.size, 1, none⟩ = false := (by simp [World.frozen?, hX3]); have u0 : (w3.setCell ⟨w.heap.size, 1, none⟩ (.slice A3 q c3)).cell? ⟨w.heap.size, 0, none⟩ = some (.string nm) := (by simp [World.cell?, hX4]); have u1 : (w3.setCell ⟨w.heap.size, 1, none⟩ (.slice A3 q c3)).cell? ⟨w.heap.size, 1, none⟩ = some (.slice A3 q c3) := (by simp [World.cell?, hX4]); have u2 : (w3.setCell ⟨w.heap.size, 1, none⟩ (.slice A3 q c3)).cell? ⟨w.heap.size, 2, none⟩ = some (.int .i64 (sf : Nat)) := (by simp [World.cell?, hX4]); have u3 : (w3.setCell ⟨w.heap.size, 1, none⟩ (.slice A3 q c3)).cell? ⟨w.heap.size, 3, none⟩ = some (.bool ev) := (by simp [World.cell?, hX4]); clear hown hgrow hnl hblk hcall hX3 hX4) | (go_at_call 31; refine HC.out.mono ?_; rintro e w4 ⟨rfl, v5, xs5, r1, r2, r3, r4⟩; have hlost := r1.facts.2.2.2.1; have R1 := Lib.hid r1; have R2 := Lib.hid r2; have R3 := Lib.hid r3; have R4 := Lib.hid r4; clear r1 r2 r3 r4 u0 u1 u2 u3 s1 s2))
          go_ret
          exact ⟨rfl, v5, xs5, R1.out, R2.out, R3.out, R4.out⟩
        · rw [if_neg hz]
          rw [show decide (fuse = 0) = false from decide_eq_false hz] at H30
          have e30 : (rBurnt fuse false).2 = false := by unfold rBurnt; rw [if_neg hz]; split <;> rfl
          rw [e30] at H30
          obtain ⟨q, hq⟩ : ∃ q, (l0 ++ data : List Nat).length = q := ⟨_, rfl⟩
          have HQl := Lib.hid hq
          have HOld : Hid (∀ w', Touch (fun j => j = p) w w' → Bytes w' A0 n0 l0) := fun w' ht => HXb.out.touch (fun ad e h0 e2 => (HXa.out ad e h0).1 e2) ht
          have HNew : Hid (∀ w', Touch (fun j => j = p) w w' → ∀ w'', Touch (fun _ => False) w' w'' → Bytes w'' B n data) := fun w' ht w'' ht2 => (HD.out.touch (fun ad e h0 e2 => by have := HLow.out ad e h0; have := HR.out.pb; omega) ht).touch (fun _ _ _ e => e) ht2
          have H256 : Hid (∀ x ∈ (l0 ++ data : List Nat), x < 256) := fun x hx => by
            rcases List.mem_append.1 hx with hx | hx
            · exact HOl.out x hx
            · exact HD.out.2.1 x (hx)
          have HLen : Hid ((l0 : List Nat).length + n ≤ 1000000000) := by show _ ≤ _; have := HN0.out; have := HL0.out; omega
          clear h d0 d1 d2 hfz hr h1 h2 h3 h4 eg e30 hz hq hxb hxa hxn hAc hne c0 c1 c2 c3 hn1
          go_enter Try.func10, Try.ntmps10
          go_wp2_with (first | (go_at_call 27; refine H27.out.mono ?_; rintro e w1 ⟨rfl, rfl⟩) | (go_at_call 28; refine H28.out.mono ?_; rintro e w1 ⟨rfl, rfl⟩) | (go_at_call 29; refine H29.out.mono ?_; rintro e w1 ⟨rfl, rfl⟩) | (go_at_call 30; refine (H30.out _).mono ?_; rintro e w1 ⟨rfl, hq1, hq2⟩; have hX := (hq2.2.2.2.2 w.heap.size (by simp) HXp.out).trans (heap_alloc_new w (.cells #[.string nm, .slice A0 n0 c0', .int .i64 (sf : Nat), .bool ev] 60)); have hlt1 : w.heap.size < w1.heap.size := (by have := hq2.2.2.2.1; simp at this; omega); have HT1 := Lib.hid (show Touch (fun j => j = p) w w1 from ((Touch.refl _ w).alloc _).trans (hq2.mono fun _ _ e => .inl e)); have HQ1 := Lib.hid hq1; have kX : ∀ o, (w1.alloc o).cell? ⟨w.heap.size, 1, none⟩ = some (.slice A0 n0 c0') := (fun o => by simp [World.cell?, Below.heap_alloc w1 o w.heap.size hlt1, hX]); have HX := Lib.hid hX; have HLt1 := Lib.hid hlt1; clear hq1 hq2 hX hlt1) | (at_builtin; refine wpList_append_bytes rfl (.tmp 60) (.tmp 62) rfl w1.heap.size _ [] rfl (World.ownsRow_lit (base := w1.heap.size) w1 #[] 0 (Nat.le_refl _) (by simp) rfl) (by simp) A0 n0 c0' l0 rfl (HOld.out _ (HT1.out.alloc _)) HNil.out (by have := HN0.out; simp <;> omega) ?_; intro v2 w2 hown hgrow hnl hblk; have HOwn := Lib.hid (show w2.ownsRow w1.heap.size 5 1 v2 l0.length (vals l0) from hown); have HT2 := Lib.hid (show Touch (fun _ => False) w1 w2 from touch_grown ((Touch.refl _ w1).alloc _) hgrow (fun g e => Nat.le_of_eq (Option.some.inj e))); clear hown hgrow hnl hblk kX) | (at_builtin; refine wpList_append_bytes rfl (.tmp 63) (.tmp 64) rfl w1.heap.size v2 l0 rfl HOwn.out (HT2.out.2.2.2.1) B n c data rfl (HNew.out _ HT1.out _ HT2.out) HDn.out (by have := HLen.out; omega) ?_; intro v3 w3 hown hgrow hnl hblk; have HT3 := Lib.hid (touch_grown HT2.out hgrow (fun g e => (World.ownsRow.lt HOwn.out g e).1)); obtain ⟨A3, c3, e3, hcall⟩ := app_put (L := l0 ++ data) HR.out HRis.out HBase.out HFew.out HQ1.out HT1.out HLt1.out HT3.out nm H256.out hown sf ev q HQl.out; subst e3; have HC := Lib.hid hcall; have hX3 := (HT3.out.2.2.2.2 _ HLt1.out (fun e => e)).trans HX.out; have hX4 := heap_setCell_same w3 w.heap.size 1 _ 60 (.slice A3 q c3) hX3; have s1 : w3.cell? ⟨w.heap.size, 1, none⟩ = some (.slice A0 n0 c0') := (by simp [World.cell?, hX3]); have s2 : w3.frozen? ⟨w.heap.size, 1, none⟩ = false := (by simp [World.frozen?, hX3]); have u0 : (w3.setCell ⟨w.heap.size, 1, none⟩ (.slice A3 q c3)).cell? ⟨w.heap.size, 0, none⟩ = some (.string nm) := (by simp [World.cell?, hX4]); have u1 : (w3.setCell ⟨w.heap.size, 1, none⟩ (.slice A3 q c3)).cell? ⟨w.heap.size, 1, none⟩ = some (.slice A3 q c3) := (by simp [World.cell?, hX4]); have u2 : (w3.setCell ⟨w.heap.size, 1, none⟩ (.slice A3 q c3)).cell? ⟨w.heap.size, 2, none⟩ = some (.int .i64 (sf : Nat)) := (by simp [World.cell?, hX4]); have u3 : (w3.setCell ⟨w.heap.size, 1, none⟩ (.slice A3 q c3)).cell? ⟨w.heap.size, 3, none⟩ = some (.bool ev) := (by simp [World.cell?, hX4]); clear hown hgrow hnl hblk hcall hX3 hX4) | (go_at_call 31; refine HC.out.mono ?_; rintro e w4 ⟨rfl, v5, xs5, r1, r2, r3, r4⟩; have hlost := r1.facts.2.2.2.1; have R1 := Lib.hid r1; have R2 := Lib.hid r2; have R3 := Lib.hid r3; have R4 := Lib.hid r4; clear r1 r2 r3 r4 u0 u1 u2 u3 s1 s2))
          go_ret
          exact ⟨rfl, v5, xs5, R1.out, R2.out, R3.out, R4.out⟩
end Go.Proofs.Ytedhbcaakdfcbaa.disk
