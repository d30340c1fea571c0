/- Remove, Lose, Fuse, Harm, Rename. -/
import Derived.Test.YtedhbcaakdfcbaaK
namespace Go.Proofs.Ytedhbcaakdfcbaa.disk
open Go.ChangeShapes Go.WideShapes Go.ChangeAt Go.RowKit Go.Maps Go.WideMaps
set_option linter.unusedVariables false
set_option linter.unusedSimpArgs false

theorem foot_del {p : Nat} {mb : Option Nat} {D : DataW Value} {k : List UInt8} : ∀ j, Foot p mb (D.del (.string k)) j → Foot p mb D j := by
  intro j hj
  rcases hj with e | e | ⟨s, e⟩
  · exact .inl e
  · exact .inr (.inl e)
  · rw [At_del] at e
    by_cases e2 : s = k
    · rw [if_pos e2] at e
      simp [blk, Value.ownBlock] at e
    · rw [if_neg e2] at e
      exact .inr (.inr ⟨s, e⟩)
theorem aft_drop {w w1 w' : World} {base p : Nat} {mb : Option Nat} {D : DataW Value} {c' : Cfg} {fm : FM} {N N' M : Nat} {k : List UInt8} (ht : Touch (fun j => j = p) w w1) (hM : ∀ s f, fm s = some f → f.l.length ≤ M) (hN : N ≤ N')
    (h : Dsk w' base p mb (D.del (.string k)) c' (erase fm k) N) (h2 : Touch (fun i => i = p ∨ mb = some i) w1 w') : Aft w base p mb D N' M w' :=
  ⟨mb, _, c', _, h.up hN, erase_bound hM, (ht.mono fun i _ e => .inl e).trans (h2.mono fun i _ h => .inl (h.imp id .inl)), fun j hj => .inl (foot_del j hj)⟩
set_option maxRecDepth 50000 in
set_option maxHeartbeats 4000000 in
theorem remove_any (w : World) (base p : Nat) (mb : Option Nat) (D : DataW Value) (c : Cfg) (fm : FM) (N M : Nat) (s : ByteArray) (hs : s.size ≤ 281474976710656) (h : Dsk w base p mb D c fm N) (hM : ∀ s f, fm s = some f → f.l.length ≤ M) :
    Calls Try.prog 23 #[.pointer (some ⟨p, 0, none⟩), .string s] w (Ans w base p mb D (N + 1) M) := by
  have hpl := h.facts.2.2.2.2.2.2.2
  by_cases hstop : c.lost = true ∨ fm s.data.toList = none
  · obtain ⟨r, hr, h37⟩ := find_stop h s (by unfold maxLen; omega) hstop
    have H37 := Lib.hid h37
    have HS := Lib.hid (fun w' hb => aft_below (N' := N + 1) (M' := M) h (w' := w') hb (Nat.le_succ N) hM (Nat.le_refl _))
    clear h37 h hM
    go_enter Try.func23, Try.ntmps23
    go_wp2_with (go_at_call 37; refine H37.out.mono ?_; rintro e w1 ⟨rfl, hb⟩; have HB := Lib.hid hb; clear hb)
    go_ret
    exact ⟨⟨_, rfl⟩, HS.out _ (HB.out.trans (((Below.refl _ _).alloc (Nat.le_refl _) _).mono HB.out.size))⟩
  · have hl : c.lost = false := by cases hc : c.lost; rfl; exact absurd (.inl hc) hstop
    obtain ⟨f, hf⟩ : ∃ f, fm s.data.toList = some f := by
      cases hf : fm s.data.toList with
      | none => exact absurd (.inr hf) hstop
      | some f => exact ⟨f, rfl⟩
    obtain ⟨A, n, cp, hat, hown, h256, hsf, hn, hcp⟩ := h.whole s.data.toList
    have h37 := find_some h s (by unfold maxLen; omega) hl f hf
    rw [hat] at h37
    have H37 := Lib.hid h37
    have HStay := Lib.hid (fun (w' : World) (c' : Cfg) (h' : Dsk w' base p mb D c' fm N) (ht : Touch (fun j => j = p) w w') => aft_stay (w := w) (M := M) h' (Nat.le_succ N) hM (ht.mono fun i _ e => .inl e))
    have HD := Lib.hid h
    have H47 : Hid (∀ (w3 : World) (c' : Cfg), Dsk w3 base p mb D c' fm N → Touch (fun j => j = p) w w3 → Calls Try.prog 47 #[.pointer (some ⟨p, 0, none⟩), .string s] w3 fun e w' => e = .returned (.tuple #[]) ∧ Aft w base p mb D (N + 1) M w') := by
      intro w3 c' h3 ht
      refine (drop_any w3 base p mb D c' fm N s (by unfold maxLen; omega) h3).mono ?_
      rintro e w' ⟨rfl, q1, q2⟩
      exact ⟨rfl, aft_drop ht hM (Nat.le_succ N) q1 q2⟩
    clear h hM hat hown h256 hsf hcp h37 hstop hn hf
    go_enter Try.func23, Try.ntmps23
    go_wp2_with (first | (go_at_call 37; refine H37.out.mono ?_; rintro e w1 ⟨rfl, hb⟩; have HB := Lib.hid hb; have HD1 := Lib.hid ((HD.out.below hb).below ((Below.refl _ _).alloc (Nat.le_refl _) (.cells #[.slice A n cp, .int .i64 ((fileAt fm s.data.toList).safe : Nat), .bool (fileAt fm s.data.toList).ever] 64))); clear hb) | (go_at_call 41; refine (powerGoes_any HD1.out).mono ?_; rintro e w2 ⟨rfl, hd2, ht2⟩; have HD2 := Lib.hid hd2; have HT2 : Hid (Touch (fun j => j = p) w w2) := ((touch_below HB.out).alloc _).trans (ht2.mono fun i _ e => .inl e); clear hd2 ht2) | (go_at_call 47; refine (H47.out _ _ HD2.out HT2.out).mono ?_; rintro e w4 ⟨rfl, haft⟩; have HA := Lib.hid haft; clear haft))
    all_goals go_ret
    all_goals first
      | exact ⟨⟨_, rfl⟩, HA.out⟩
      | exact ⟨⟨_, rfl⟩, HStay.out _ _ HD2.out HT2.out⟩
set_option maxRecDepth 50000 in
set_option maxHeartbeats 4000000 in
theorem lose_any (w : World) (base p : Nat) (mb : Option Nat) (D : DataW Value) (c : Cfg) (fm : FM) (N M : Nat) (s : ByteArray) (hs : s.size ≤ 281474976710656) (h : Dsk w base p mb D c fm N) (hM : ∀ s f, fm s = some f → f.l.length ≤ M) :
    Calls Try.prog 26 #[.pointer (some ⟨p, 0, none⟩), .string s] w (Ans w base p mb D (N + 1) M) := by
  have hpl := h.facts.2.2.2.2.2.2.2
  by_cases hstop : c.lost = true ∨ fm s.data.toList = none
  · obtain ⟨r, hr, h37⟩ := find_stop h s (by unfold maxLen; omega) hstop
    have H37 := Lib.hid h37
    have HS := Lib.hid (fun w' hb => aft_below (N' := N + 1) (M' := M) h (w' := w') hb (Nat.le_succ N) hM (Nat.le_refl _))
    clear h37 h hM
    go_enter Try.func26, Try.ntmps26
    go_wp2_with (go_at_call 37; refine H37.out.mono ?_; rintro e w1 ⟨rfl, hb⟩; have HB := Lib.hid hb; clear hb)
    go_ret
    exact ⟨⟨_, rfl⟩, HS.out _ (HB.out.trans (((Below.refl _ _).alloc (Nat.le_refl _) _).mono HB.out.size))⟩
  · have hl : c.lost = false := by cases hc : c.lost; rfl; exact absurd (.inl hc) hstop
    obtain ⟨f, hf⟩ : ∃ f, fm s.data.toList = some f := by
      cases hf : fm s.data.toList with
      | none => exact absurd (.inr hf) hstop
      | some f => exact ⟨f, rfl⟩
    obtain ⟨A, n, cp, hat, hown, h256, hsf, hn, hcp⟩ := h.whole s.data.toList
    have h37 := find_some h s (by unfold maxLen; omega) hl f hf
    rw [hat] at h37
    have H37 := Lib.hid h37
    have HD := Lib.hid h
    have H47 : Hid (∀ (w3 : World) (c' : Cfg), Dsk w3 base p mb D c' fm N → Touch (fun j => j = p) w w3 → Calls Try.prog 47 #[.pointer (some ⟨p, 0, none⟩), .string s] w3 fun e w' => e = .returned (.tuple #[]) ∧ Aft w base p mb D (N + 1) M w') := by
      intro w3 c' h3 ht
      refine (drop_any w3 base p mb D c' fm N s (by unfold maxLen; omega) h3).mono ?_
      rintro e w' ⟨rfl, q1, q2⟩
      exact ⟨rfl, aft_drop ht hM (Nat.le_succ N) q1 q2⟩
    clear h hM hat hown h256 hsf hcp h37 hstop hn hf
    go_enter Try.func26, Try.ntmps26
    go_wp2_with (first | (go_at_call 37; refine H37.out.mono ?_; rintro e w1 ⟨rfl, hb⟩; have HB := Lib.hid hb; have HD1 := Lib.hid ((HD.out.below hb).below ((Below.refl _ _).alloc (Nat.le_refl _) (.cells #[.slice A n cp, .int .i64 ((fileAt fm s.data.toList).safe : Nat), .bool (fileAt fm s.data.toList).ever] 64))); clear hb) | (go_at_call 47; refine (H47.out _ _ HD1.out ((touch_below HB.out).alloc _)).mono ?_; rintro e w4 ⟨rfl, haft⟩; have HA := Lib.hid haft; clear haft))
    go_ret
    exact ⟨⟨_, rfl⟩, HA.out⟩
set_option maxRecDepth 50000 in
set_option maxHeartbeats 4000000 in
theorem fuse_any (w : World) (base p : Nat) (mb : Option Nat) (D : DataW Value) (c : Cfg) (fm : FM) (N M : Nat) (n : Int) (h : Dsk w base p mb D c fm N) (hM : ∀ s f, fm s = some f → f.l.length ≤ M) :
    Calls Try.prog 24 #[.pointer (some ⟨p, 0, none⟩), .int .i64 n] w (Ans w base p mb D (N + 1) M) := by
  obtain ⟨d0, d1, d2, d3, d4, d5, hfz, hlt⟩ := h.facts
  have hf3 := hfz 3
  have hf4 := hfz 4
  have HD := Lib.hid h
  have H44 := Lib.hid (power_any h)
  have HStay := Lib.hid (fun (w' : World) (c' : Cfg) (h' : Dsk w' base p mb D c' fm N) (ht : Touch (fun j => j = p) w w') => aft_stay (w := w) (M := M) h' (Nat.le_succ N) hM (ht.mono fun i _ e => .inl e))
  clear h hM hfz d0 d1 d2 d5
  cases hl : c.lost with
  | true =>
    rw [hl] at H44
    go_enter Try.func24, Try.ntmps24
    go_wp2_with (go_at_call 44; refine H44.out.mono ?_; rintro e w1 ⟨rfl, rfl⟩)
    go_ret
    exact ⟨⟨_, rfl⟩, HStay.out _ _ HD.out (Touch.refl _ _)⟩
  | false =>
    rw [hl] at H44
    go_enter Try.func24, Try.ntmps24
    go_wp2_with (go_at_call 44; refine H44.out.mono ?_; rintro e w1 ⟨rfl, rfl⟩)
    all_goals go_ret
    all_goals first
      | exact ⟨⟨_, rfl⟩, HStay.out _ _ HD.out (Touch.refl _ _)⟩
      | exact ⟨⟨_, rfl⟩, HStay.out _ { c with fused := true, fuse := n } (dsk_own (c := { c with fused := true }) (dsk_own (c' := { c with fused := true }) HD.out rfl) rfl) (((Touch.refl (fun j => j = p) w).setCell ⟨p, 3, none⟩ (.inr rfl) _).setCell ⟨p, 4, none⟩ (.inr rfl) _)⟩
end Go.Proofs.Ytedhbcaakdfcbaa.disk
