/- Rename: exactly. -/
import Derived.Test.YtedhbcaakdfcbaaBd
namespace Go.Proofs.Ytedhbcaakdfcbaa.disk
open Go.ChangeShapes Go.WideShapes Go.ChangeAt Go.RowKit Go.Maps Go.WideMaps
set_option linter.unusedVariables false
set_option linter.unusedSimpArgs false

/-- Rename. -/
def fRename (c : Cfg) (fm : FM) (k t : List UInt8) : Cfg × FM × Int :=
  if c.lost then (c, fm, 6) else if nameB t = false ∨ k = t then (c, fm, 1) else match fm k with
  | none => (c, fm, 7)
  | some f => if ¬ Whole f then (c, fm, 10) else if goes c then (burnt c, fm, 6) else (cPut (cDrop (burnt c) fm k) (erase fm k) t f, upd (erase fm k) t f, 0)
theorem str_eqB (s t : ByteArray) : (s.toList == t.toList) = decide (s.data.toList = t.data.toList) := by
  rw [ByteArray.toList_eq, ByteArray.toList_eq]
  by_cases h : s.data.toList = t.data.toList
  · rw [decide_eq_true h]
    exact beq_iff_eq.2 h
  · rw [decide_eq_false h]
    exact beq_eq_false_iff_ne.2 h
set_option maxRecDepth 50000 in
set_option maxHeartbeats 4000000 in
theorem rename_exact (w : World) (base p : Nat) (mb : Option Nat) (D : DataW Value) (c : Cfg) (fm : FM) (N : Nat) (s t : ByteArray) (hs : s.size ≤ 281474976710656) (hts : t.size ≤ 281474976710656) (h : Dsk w base p mb D c fm N) (hN : N < 1000000) (hB : base ≤ w.heap.size) :
    Calls Try.prog 22 #[.pointer (some ⟨p, 0, none⟩), .string s, .string t] w (Does w base p mb D (N + 1) (fRename c fm s.data.toList t.data.toList)) := by
  have hpl := h.facts.2.2.2.2.2.2.2
  have HD := Lib.hid h
  have HBM : Hid (∀ b, mb = some b → b < w.heap.size) := fun b e => (h.map b e).2.2.lt
  have H44 := Lib.hid (power_any h)
  have H45 := Lib.hid (fun w' => isName_any w' t hts)
  have hst := str_eqB s t
  cases hl : c.lost with
  | true =>
    have he : fRename c fm s.data.toList t.data.toList = (c, fm, 6) := by simp [fRename, hl]
    rw [he]
    rw [hl] at H44
    clear h he
    go_enter Try.func22, Try.ntmps22
    go_wp2_with (go_at_call 44; refine H44.out.mono ?_; rintro e w1 ⟨rfl, rfl⟩)
    go_ret
    exact ⟨rfl, now_p HD.out (Touch.refl _ _)⟩
  | false =>
    rw [hl] at H44
    cases hnb : nameB t.data.toList with
    | false =>
      have he : fRename c fm s.data.toList t.data.toList = (c, fm, 1) := by simp [fRename, hl, hnb]
      rw [he]
      clear h he hst
      go_enter Try.func22, Try.ntmps22
      go_wp2_with (first | (go_at_call 44; refine H44.out.mono ?_; rintro e w1 ⟨rfl, rfl⟩) | (go_at_call 45; refine (H45.out _).mono ?_; rw [hnb]; rintro e w1 ⟨rfl, rfl⟩))
      go_ret
      exact ⟨rfl, now_p HD.out (Touch.refl _ _)⟩
    | true =>
      by_cases hk : s.data.toList = t.data.toList
      · have he : fRename c fm s.data.toList t.data.toList = (c, fm, 1) := by simp [fRename, hl, hk]
        rw [he]
        rw [decide_eq_true hk] at hst
        clear h he hk
        go_enter Try.func22, Try.ntmps22
        go_wp2_with (first | (go_at_call 44; refine H44.out.mono ?_; rintro e w1 ⟨rfl, rfl⟩) | (go_at_call 45; refine (H45.out _).mono ?_; rw [hnb]; rintro e w1 ⟨rfl, rfl⟩))
        go_ret
        exact ⟨rfl, now_p HD.out (Touch.refl _ _)⟩
      · rw [decide_eq_false hk] at hst
        cases hf : fm s.data.toList with
        | none =>
          have he : fRename c fm s.data.toList t.data.toList = (c, fm, 7) := by simp [fRename, hl, hnb, hk, hf]
          rw [he]
          have H37 := Lib.hid (find_none h s (by unfold maxLen; omega) hl hf)
          have HS := Lib.hid (fun w' hb => now_below h (w' := w') hb)
          clear h hf he hk
          go_enter Try.func22, Try.ntmps22
          go_wp2_with (first | (go_at_call 44; refine H44.out.mono ?_; rintro e w1 ⟨rfl, rfl⟩) | (go_at_call 45; refine (H45.out _).mono ?_; rw [hnb]; rintro e w1 ⟨rfl, rfl⟩) | (go_at_call 37; refine H37.out.mono ?_; rintro e w1 ⟨rfl, hb⟩; have HB := Lib.hid hb; clear hb))
          go_ret
          exact ⟨rfl, HS.out _ (HB.out.trans (((Below.refl _ _).alloc (Nat.le_refl _) _).mono HB.out.size))⟩
        | some f =>
          obtain ⟨A, n, cp, hat, hown, h256, hsf, hn, hcp⟩ := h.whole s.data.toList
          have h37 := find_some h s (by unfold maxLen; omega) hl f hf
          rw [hat] at h37
          have H37 := Lib.hid h37
          have hfe : fileAt fm s.data.toList = f := fileAt_some hf
          have hwe : (f.ever && decide (f.safe = n)) = decide (Whole f) := by
            rw [hn, hfe]
            by_cases h1 : f.ever = true <;> by_cases h2 : f.safe = f.l.length <;> simp [Whole, h1, h2]
          rw [← hfe] at hwe
          have H47 : Hid (∀ (w3 : World) (c' : Cfg), Dsk w3 base p mb D c' fm N → Calls Try.prog 47 #[.pointer (some ⟨p, 0, none⟩), .string s] w3 fun e w' => e = .returned (.tuple #[]) ∧ Dsk w' base p mb (D.del (.string s.data.toList)) (cDrop c' fm s.data.toList) (erase fm s.data.toList) N ∧ Comes w' base p mb (D.del (.string s.data.toList)) t.data.toList (.agg #[.slice A n cp, .int .i64 ((fileAt fm s.data.toList).safe : Nat), .bool (fileAt fm s.data.toList).ever]) f ∧ Touch (fun i => i = p ∨ mb = some i) w3 w') := by
            intro w3 c' h3
            refine (drop_any w3 base p mb D c' fm N s (by unfold maxLen; omega) h3).mono ?_
            rintro e w' ⟨rfl, q1, q2⟩
            have hc := comes_moved h3 s.data.toList t.data.toList f hf q2
            rw [hat] at hc
            exact ⟨rfl, q1, hc, q2⟩
          have H42 : Hid (∀ (w3 w4 : World) (c2 : Cfg), Touch (fun j => j = p) w w3 → Touch (fun i => i = p ∨ mb = some i) w3 w4 → Dsk w4 base p mb (D.del (.string s.data.toList)) c2 (erase fm s.data.toList) N → Comes w4 base p mb (D.del (.string s.data.toList)) t.data.toList (.agg #[.slice A n cp, .int .i64 ((fileAt fm s.data.toList).safe : Nat), .bool (fileAt fm s.data.toList).ever]) f →
              Calls Try.prog 42 #[.pointer (some ⟨p, 0, none⟩), .string t, .agg #[.slice A n cp, .int .i64 ((fileAt fm s.data.toList).safe : Nat), .bool (fileAt fm s.data.toList).ever]] w4 fun e w' => e = .returned (.tuple #[]) ∧ Now w base p mb D (cPut c2 (erase fm s.data.toList) t.data.toList f) (upd (erase fm s.data.toList) t.data.toList f) (N + 1) w') := by
            rintro w3 w4 c2 ht ht4 h4 hc
            refine (put_disk w4 base p mb _ c2 _ N t hts A n cp _ _ f h4 hc hN (Nat.le_trans hB (Nat.le_trans ht.2.2.2.1 ht4.2.2.2.1))).mono ?_
            rintro e w' ⟨rfl, mb', q1, q2, q3⟩
            have e2 : cPut c2 (erase fm s.data.toList) t.data.toList f = { c2 with used := wrap64 (wrap64 (c2.used - lenAt (erase fm s.data.toList) t.data.toList) + n) } := by
              unfold cPut
              rw [hn, hfe]
            rw [e2]
            refine ⟨rfl, now_put (isMap_del h.isMap _) ((ht.mono fun i _ e => .inl e).trans (ht4.mono fun i _ h => .inl (h.imp id .inl))) foot_del (Nat.le_refl _) q1 q2 q3 (fun g e => .inl (.inr (.inr ⟨s.data.toList, ?_⟩)))⟩
            rw [hat]
            exact e
          by_cases hw : Whole f
          · have hwh : ((fileAt fm s.data.toList).ever && decide ((fileAt fm s.data.toList).safe = n)) = true := by rw [hwe, hfe]; exact decide_eq_true hw
            cases hg : goes c with
            | true =>
              have he : fRename c fm s.data.toList t.data.toList = (burnt c, fm, 6) := by simp [fRename, hl, hnb, hk, hf, hw, hg]
              rw [he]
              clear h hat hown h256 hsf hcp h37 hn hf hfe he hk hwe hw
              go_enter Try.func22, Try.ntmps22
              go_wp2_with (first | (go_at_call 44; refine H44.out.mono ?_; rintro e w1 ⟨rfl, rfl⟩) | (go_at_call 45; refine (H45.out _).mono ?_; rw [hnb]; rintro e w1 ⟨rfl, rfl⟩) | (go_at_call 37; refine H37.out.mono ?_; rintro e w1 ⟨rfl, hb⟩; have HB := Lib.hid hb; have HD1 := Lib.hid ((HD.out.below hb).below ((Below.refl _ _).alloc (Nat.le_refl _) (.cells #[.slice A n cp, .int .i64 ((fileAt fm s.data.toList).safe : Nat), .bool (fileAt fm s.data.toList).ever] 64))); clear hb) | (go_at_call 38; refine (whole_any _ _ _ _ _ _).mono ?_; rw [hwh]; rintro e w2 ⟨rfl, hb2⟩; have hz2 := (hb2.block w1.heap.size (by simp)).trans (heap_alloc_new w1 _); have HD2 := Lib.hid (HD1.out.below hb2); have HT2 : Hid (Touch (fun j => j = p) w w2) := ((touch_below HB.out).alloc _).below hb2; have HZ2 := Lib.hid hz2; clear hb2 hz2) | (go_at_call 41; refine (powerGoes_any HD2.out).mono ?_; rw [hg]; rintro e w3 ⟨rfl, hd3, ht3⟩; have hz3 := (ht3.2.2.2.2 w1.heap.size (Array.getElem?_eq_some_iff.1 HZ2.out).1 (by have := HB.out.size; omega)).trans HZ2.out; have HZ3 := Lib.hid hz3; have HD3 := Lib.hid hd3; have HT3 : Hid (Touch (fun j => j = p) w w3) := HT2.out.trans (ht3.mono fun i _ e => .inl e); clear hd3 ht3 hz3))
              go_ret
              exact ⟨rfl, now_p HD3.out HT3.out⟩
            | false =>
              have he : fRename c fm s.data.toList t.data.toList = (cPut (cDrop (burnt c) fm s.data.toList) (erase fm s.data.toList) t.data.toList f, upd (erase fm s.data.toList) t.data.toList f, 0) := by simp [fRename, hl, hnb, hk, hf, hw, hg]
              rw [he]
              clear h hat hown h256 hsf hcp h37 hn hf hfe he hk hwe hw
              go_enter Try.func22, Try.ntmps22
              go_wp2_with (first | (go_at_call 44; refine H44.out.mono ?_; rintro e w1 ⟨rfl, rfl⟩) | (go_at_call 45; refine (H45.out _).mono ?_; rw [hnb]; rintro e w1 ⟨rfl, rfl⟩) | (go_at_call 37; refine H37.out.mono ?_; rintro e w1 ⟨rfl, hb⟩; have HB := Lib.hid hb; have HD1 := Lib.hid ((HD.out.below hb).below ((Below.refl _ _).alloc (Nat.le_refl _) (.cells #[.slice A n cp, .int .i64 ((fileAt fm s.data.toList).safe : Nat), .bool (fileAt fm s.data.toList).ever] 64))); clear hb) | (go_at_call 38; refine (whole_any _ _ _ _ _ _).mono ?_; rw [hwh]; rintro e w2 ⟨rfl, hb2⟩; have hz2 := (hb2.block w1.heap.size (by simp)).trans (heap_alloc_new w1 _); have HD2 := Lib.hid (HD1.out.below hb2); have HT2 : Hid (Touch (fun j => j = p) w w2) := ((touch_below HB.out).alloc _).below hb2; have HZ2 := Lib.hid hz2; clear hb2 hz2) | (go_at_call 41; refine (powerGoes_any HD2.out).mono ?_; rw [hg]; rintro e w3 ⟨rfl, hd3, ht3⟩; have hz3 := (ht3.2.2.2.2 w1.heap.size (Array.getElem?_eq_some_iff.1 HZ2.out).1 (by have := HB.out.size; omega)).trans HZ2.out; have HZ3 := Lib.hid hz3; have HD3 := Lib.hid hd3; have HT3 : Hid (Touch (fun j => j = p) w w3) := HT2.out.trans (ht3.mono fun i _ e => .inl e); clear hd3 ht3 hz3) | (go_at_call 47; refine (H47.out _ _ HD3.out).mono ?_; rintro e w4 ⟨rfl, hd4, hc4, ht4⟩; have hz4 := (ht4.2.2.2.2 w1.heap.size (Array.getElem?_eq_some_iff.1 HZ3.out).1 (by have := HB.out.size; have := HBM.out; rintro (e | e); omega; exact absurd (this _ e) (by omega))).trans HZ3.out; obtain ⟨x0, x1, x2⟩ := box_cells hz4; have HD4 := Lib.hid hd4; have HC4 := Lib.hid hc4; have HT4 := Lib.hid ht4; clear hd4 hc4 ht4 hz4) | (go_at_call 42; refine (H42.out _ _ _ HT3.out HT4.out HD4.out HC4.out).mono ?_; rintro e w5 ⟨rfl, haft⟩; have HA := Lib.hid haft; clear haft))
              go_ret
              exact ⟨rfl, HA.out⟩
          · have hwh : ((fileAt fm s.data.toList).ever && decide ((fileAt fm s.data.toList).safe = n)) = false := by rw [hwe, hfe]; exact decide_eq_false hw
            have he : fRename c fm s.data.toList t.data.toList = (c, fm, 10) := by simp [fRename, hl, hnb, hk, hf, hw]
            rw [he]
            clear h hat hown h256 hsf hcp h37 hn hf hfe he hk hwe hw
            go_enter Try.func22, Try.ntmps22
            go_wp2_with (first | (go_at_call 44; refine H44.out.mono ?_; rintro e w1 ⟨rfl, rfl⟩) | (go_at_call 45; refine (H45.out _).mono ?_; rw [hnb]; rintro e w1 ⟨rfl, rfl⟩) | (go_at_call 37; refine H37.out.mono ?_; rintro e w1 ⟨rfl, hb⟩; have HB := Lib.hid hb; have HD1 := Lib.hid ((HD.out.below hb).below ((Below.refl _ _).alloc (Nat.le_refl _) (.cells #[.slice A n cp, .int .i64 ((fileAt fm s.data.toList).safe : Nat), .bool (fileAt fm s.data.toList).ever] 64))); clear hb) | (go_at_call 38; refine (whole_any _ _ _ _ _ _).mono ?_; rw [hwh]; rintro e w2 ⟨rfl, hb2⟩; have hz2 := (hb2.block w1.heap.size (by simp)).trans (heap_alloc_new w1 _); have HD2 := Lib.hid (HD1.out.below hb2); have HT2 : Hid (Touch (fun j => j = p) w w2) := ((touch_below HB.out).alloc _).below hb2; have HZ2 := Lib.hid hz2; clear hb2 hz2))
            go_ret
            exact ⟨rfl, now_p HD2.out HT2.out⟩
end Go.Proofs.Ytedhbcaakdfcbaa.disk
