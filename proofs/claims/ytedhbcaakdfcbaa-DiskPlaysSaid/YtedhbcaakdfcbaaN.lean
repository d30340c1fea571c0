/- Rename. -/
import Derived.Test.YtedhbcaakdfcbaaM
namespace Go.Proofs.Ytedhbcaakdfcbaa.disk
open Go.ChangeShapes Go.WideShapes Go.ChangeAt Go.RowKit Go.Maps Go.WideMaps
set_option linter.unusedVariables false
set_option linter.unusedSimpArgs false

/-- A file that was under another name comes under a new one. -/
theorem comes_moved {w w4 : World} {base p : Nat} {mb : Option Nat} {D : DataW Value} {c : Cfg} {fm : FM} {N : Nat} (h : Dsk w base p mb D c fm N) (k t : List UInt8) (f : File) (hf : fm k = some f) (ht : Touch (fun i => i = p ∨ mb = some i) w w4) :
    Comes w4 base p mb (D.del (.string k)) t (At D k) f := by
  refine ⟨(h.file k f hf).touch ht ?_, h.np k, fun b e => h.nb k b e, ?_⟩
  · intro g e hg
    rcases hg with rfl | e2
    · exact h.np k e
    · exact h.nb k g e2 e
  · intro s g hs e
    rw [At_del] at e
    by_cases e2 : s = k
    · rw [if_pos e2] at e
      simp [blk, Value.ownBlock] at e
    · rw [if_neg e2] at e
      intro e3
      exact e2 (h.apart s k g e e3)
theorem isMap_del {D : DataW Value} (h : IsMap D) (k : List UInt8) : IsMap (D.del (.string k)) := by obtain ⟨es, rfl⟩ := h; exact ⟨_, rfl⟩
set_option maxRecDepth 50000 in
set_option maxHeartbeats 4000000 in
theorem rename_any (w : World) (base p : Nat) (mb : Option Nat) (D : DataW Value) (c : Cfg) (fm : FM) (N M : Nat) (s t : ByteArray) (hs : s.size ≤ 281474976710656) (hts : t.size ≤ 281474976710656) (h : Dsk w base p mb D c fm N) (hM : ∀ s f, fm s = some f → f.l.length ≤ M) (hN : N < 1000000) (hB : base ≤ w.heap.size) :
    Calls Try.prog 22 #[.pointer (some ⟨p, 0, none⟩), .string s, .string t] w (Ans w base p mb D (N + 1) M) := by
  have hpl := h.facts.2.2.2.2.2.2.2
  have HD := Lib.hid h
  have HBM : Hid (∀ b, mb = some b → b < w.heap.size) := fun b e => (h.map b e).2.2.lt
  have H44 := Lib.hid (power_any h)
  have H45 := Lib.hid (fun w' => isName_some w' t hts)
  have HStay := Lib.hid (fun (w' : World) (c' : Cfg) (h' : Dsk w' base p mb D c' fm N) (ht : Touch (fun j => j = p) w w') => aft_stay (w := w) (M := M) h' (Nat.le_succ N) hM (ht.mono fun i _ e => .inl e))
  cases hl : c.lost with
  | true =>
    rw [hl] at H44
    clear h hM
    go_enter Try.func22, Try.ntmps22
    go_wp2_with (go_at_call 44; refine H44.out.mono ?_; rintro e w1 ⟨rfl, rfl⟩)
    go_ret
    exact ⟨⟨_, rfl⟩, HStay.out _ _ HD.out (Touch.refl _ _)⟩
  | false =>
    rw [hl] at H44
    cases hf : fm s.data.toList with
    | none =>
      obtain ⟨r, hr, h37⟩ := find_stop h s (by unfold maxLen; omega) (.inr hf)
      have H37 := Lib.hid h37
      have HS := Lib.hid (fun w' hb => aft_below (N' := N + 1) (M' := M) h (w' := w') hb (Nat.le_succ N) hM (Nat.le_refl _))
      clear h37 h hM hf
      go_enter Try.func22, Try.ntmps22
      go_wp2_with (first | (go_at_call 44; refine H44.out.mono ?_; rintro e w1 ⟨rfl, rfl⟩) | (go_at_call 45; refine (H45.out _).mono ?_; rintro e w1 ⟨nb, rfl, rfl⟩; cases nb) | (go_at_call 37; refine H37.out.mono ?_; rintro e w1 ⟨rfl, hb⟩; have HB := Lib.hid hb; clear hb))
      all_goals go_ret
      all_goals first
        | exact ⟨⟨_, rfl⟩, HS.out _ (HB.out.trans (((Below.refl _ _).alloc (Nat.le_refl _) _).mono HB.out.size))⟩
        | exact ⟨⟨_, rfl⟩, HStay.out _ _ HD.out (Touch.refl _ _)⟩
    | some f =>
      obtain ⟨A, n, cp, hat, hown, h256, hsf, hn, hcp⟩ := h.whole s.data.toList
      have h37 := find_some h s (by unfold maxLen; omega) hl f hf
      rw [hat] at h37
      have H37 := Lib.hid h37
      have hfe : fileAt fm s.data.toList = f := fileAt_some hf
      have H47 : Hid (∀ (w3 : World) (c' : Cfg), Dsk w3 base p mb D c' fm N → Calls Try.prog 47 #[.pointer (some ⟨p, 0, none⟩), .string s] w3 fun e w' => e = .returned (.tuple #[]) ∧ (∃ c2, Dsk w' base p mb (D.del (.string s.data.toList)) c2 (erase fm s.data.toList) N) ∧ Comes w' base p mb (D.del (.string s.data.toList)) t.data.toList (.agg #[.slice A n cp, .int .i64 ((fileAt fm s.data.toList).safe : Nat), .bool (fileAt fm s.data.toList).ever]) f ∧ Touch (fun i => i = p ∨ mb = some i) w3 w') := by
        intro w3 c' h3
        refine (drop_any w3 base p mb D c' fm N s (by unfold maxLen; omega) h3).mono ?_
        rintro e w' ⟨rfl, q1, q2⟩
        have hc := comes_moved h3 s.data.toList t.data.toList f hf q2
        rw [hat] at hc
        exact ⟨rfl, ⟨_, q1⟩, hc, q2⟩
      have H42 : Hid (∀ (w3 w4 : World), Touch (fun j => j = p) w w3 → Touch (fun i => i = p ∨ mb = some i) w3 w4 → (∃ c2, Dsk w4 base p mb (D.del (.string s.data.toList)) c2 (erase fm s.data.toList) N) → Comes w4 base p mb (D.del (.string s.data.toList)) t.data.toList (.agg #[.slice A n cp, .int .i64 ((fileAt fm s.data.toList).safe : Nat), .bool (fileAt fm s.data.toList).ever]) f →
          Calls Try.prog 42 #[.pointer (some ⟨p, 0, none⟩), .string t, .agg #[.slice A n cp, .int .i64 ((fileAt fm s.data.toList).safe : Nat), .bool (fileAt fm s.data.toList).ever]] w4 fun e w' => e = .returned (.tuple #[]) ∧ Aft w base p mb D (N + 1) M w') := by
        rintro w3 w4 ht ht4 ⟨c2, h4⟩ hc
        refine (put_disk w4 base p mb _ c2 _ N t hts A n cp _ _ f h4 hc hN (Nat.le_trans hB (Nat.le_trans ht.2.2.2.1 ht4.2.2.2.1))).mono ?_
        rintro e w' ⟨rfl, mb', q1, q2, q3⟩
        refine ⟨rfl, aft_put (isMap_del h.isMap _) ((ht.mono fun i _ e => .inl e).trans (ht4.mono fun i _ h => .inl (h.imp id .inl))) foot_del (erase_bound hM) (hM _ f hf) (Nat.le_refl _) (Nat.le_refl _) q1 q2 q3 (fun g e => .inl (.inr (.inr ⟨s.data.toList, ?_⟩)))⟩
        rw [hat]
        exact e
      clear h hM hat hown h256 hsf hcp h37 hn hf hfe
      go_enter Try.func22, Try.ntmps22
      go_wp2_with (first | (go_at_call 44; refine H44.out.mono ?_; rintro e w1 ⟨rfl, rfl⟩) | (go_at_call 45; refine (H45.out _).mono ?_; rintro e w1 ⟨nb, rfl, rfl⟩; cases nb) | (go_at_call 37; refine H37.out.mono ?_; rintro e w1 ⟨rfl, hb⟩; have HB := Lib.hid hb; have HD1 := Lib.hid ((HD.out.below hb).below ((Below.refl _ _).alloc (Nat.le_refl _) (.cells #[.slice A n cp, .int .i64 ((fileAt fm s.data.toList).safe : Nat), .bool (fileAt fm s.data.toList).ever] 64))); clear hb) | (go_at_call 38; refine (whole_any _ _ _ _ _ _).mono ?_; rintro e w2 ⟨rfl, hb2⟩; have hz2 := (hb2.block w1.heap.size (by simp)).trans (heap_alloc_new w1 _); have HD2 := Lib.hid (HD1.out.below hb2); have HT2 : Hid (Touch (fun j => j = p) w w2) := ((touch_below HB.out).alloc _).below hb2; have HZ2 := Lib.hid hz2; clear hb2 hz2) | (go_at_call 41; refine (powerGoes_any HD2.out).mono ?_; rintro e w3 ⟨rfl, hd3, ht3⟩; have hz3 := (ht3.2.2.2.2 w1.heap.size (Array.getElem?_eq_some_iff.1 HZ2.out).1 (by have := HB.out.size; omega)).trans HZ2.out; have HZ3 := Lib.hid hz3; have HD3 := Lib.hid hd3; have HT3 : Hid (Touch (fun j => j = p) w w3) := HT2.out.trans (ht3.mono fun i _ e => .inl e); clear hd3 ht3 hz3) | (go_at_call 47; refine (H47.out _ _ HD3.out).mono ?_; rintro e w4 ⟨rfl, hd4, hc4, ht4⟩; have hz4 := (ht4.2.2.2.2 w1.heap.size (Array.getElem?_eq_some_iff.1 HZ3.out).1 (by have := HB.out.size; have := HBM.out; rintro (e | e); omega; exact absurd (this _ e) (by omega))).trans HZ3.out; obtain ⟨x0, x1, x2⟩ := box_cells hz4; have HD4 := Lib.hid hd4; have HC4 := Lib.hid hc4; have HT4 := Lib.hid ht4; clear hd4 hc4 ht4 hz4) | (go_at_call 42; refine (H42.out _ _ HT3.out HT4.out HD4.out HC4.out).mono ?_; rintro e w5 ⟨rfl, haft⟩; have HA := Lib.hid haft; clear haft))
      all_goals go_ret
      all_goals first
        | exact ⟨⟨_, rfl⟩, HA.out⟩
        | exact ⟨⟨_, rfl⟩, HStay.out _ _ HD3.out HT3.out⟩
        | exact ⟨⟨_, rfl⟩, HStay.out _ _ HD2.out HT2.out⟩
        | exact ⟨⟨_, rfl⟩, HStay.out _ _ HD.out (Touch.refl _ _)⟩
end Go.Proofs.Ytedhbcaakdfcbaa.disk
