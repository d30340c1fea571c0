/- Sync, Remove, Lose, Fuse. -/
import Derived.Test.YtedhbcaakdfcbaaJ
namespace Go.Proofs.Ytedhbcaakdfcbaa.disk
open Go.ChangeShapes Go.WideShapes Go.ChangeAt Go.RowKit Go.Maps Go.WideMaps
set_option linter.unusedVariables false
set_option linter.unusedSimpArgs false

theorem own_take {w : World} {base : Nat} {A : Option Addr} {n cp left : Nat} {l : List Nat} (h : w.ownsRow base 5 1 (.slice A n cp) l.length (vals l)) (hl : left ≤ l.length) : w.ownsRow base 5 1 (.slice A left cp) (l.take left).length (vals (l.take left)) := by
  have hlen : (l.take left).length = left := by simp; omega
  rw [hlen]
  rcases h.2 with ⟨e, h0⟩ | ⟨g, cap, cur, e, hb, hg, hc, hm, hs, ht⟩
  · cases e
    obtain rfl : left = 0 := by omega
    exact ⟨by simp [vals], .inl ⟨rfl, rfl⟩⟩
  · cases e
    refine ⟨by simp [vals]; omega, .inr ⟨g, cp, cur, rfl, hb, hg, by omega, hm, hs, ?_⟩⟩
    have e2 : vals (l.take left) = (vals l).take left := by simp [vals, List.map_take]
    rw [e2, ← ht, List.take_take]
    congr 1
    omega
/-- The first bytes of a file that is there, as a file that is safe. -/
theorem comes_cut {w : World} {base p : Nat} {mb : Option Nat} {D : DataW Value} {c : Cfg} {fm : FM} {N : Nat} (h : Dsk w base p mb D c fm N) (k : List UInt8) {A : Option Addr} {n cp : Nat} (hat : At D k = .agg #[.slice A n cp, .int .i64 ((fileAt fm k).safe : Nat), .bool (fileAt fm k).ever]) (left : Nat) (hl : left ≤ (fileAt fm k).l.length) (sf : Nat) (hsf : sf ≤ left) (ev : Bool) :
    Comes w base p mb D k (.agg #[.slice A left cp, .int .i64 (sf : Nat), .bool ev]) ⟨(fileAt fm k).l.take left, sf, ev⟩ := by
  obtain ⟨A', n', cp', hat', hown, h256, _⟩ := h.whole k
  rw [hat] at hat'
  simp only [Value.agg.injEq, Array.mk.injEq, List.cons.injEq, Value.slice.injEq, and_true] at hat'
  obtain ⟨rfl, rfl, rfl⟩ := hat'
  have hbl : blk (.agg #[.slice A left cp, .int .i64 (sf : Nat), .bool ev]) = blk (At D k) := by
    rw [hat]
    cases A <;> rfl
  refine ⟨⟨_, rfl, own_take hown hl, fun x hx => h256 x (List.mem_of_mem_take hx), by simp; omega⟩, ?_, ?_, ?_⟩
  · rw [hbl]; exact h.np k
  · intro b e; rw [hbl]; exact h.nb k b e
  · intro s g hs e; rw [hbl]; exact fun e2 => hs (h.apart s k g e e2)
theorem aft_below {w w' : World} {base p : Nat} {mb : Option Nat} {D : DataW Value} {c : Cfg} {fm : FM} {N N' M M' : Nat} (h : Dsk w base p mb D c fm N) (hb : Below w.heap.size w w') (hN : N ≤ N') (hM : ∀ s f, fm s = some f → f.l.length ≤ M) (hMM : M ≤ M') : Aft w base p mb D N' M' w' :=
  aft_stay (h.below hb) hN (fun s f e => Nat.le_trans (hM s f e) hMM) ⟨hb.os, hb.tape, hb.output, hb.size, fun k hk _ => hb.block k hk⟩
theorem touch_below {F : Nat → Prop} {w w' : World} (hb : Below w.heap.size w w') : Touch F w w' := ⟨hb.os, hb.tape, hb.output, hb.size, fun k hk _ => hb.block k hk⟩
theorem fileAt_some {fm : FM} {k : List UInt8} {f : File} (h : fm k = some f) : fileAt fm k = f := by simp [fileAt, h]
/-- An operation on a file that isn't there, or without power, only looks. -/
theorem find_stop {w : World} {base p : Nat} {mb : Option Nat} {D : DataW Value} {c : Cfg} {fm : FM} {N : Nat} (h : Dsk w base p mb D c fm N) (s : ByteArray) (hs : s.size ≤ maxLen) (hk : c.lost = true ∨ fm s.data.toList = none) :
    ∃ r : Int, (r == 0) = false ∧ Calls Try.prog 37 #[.pointer (some ⟨p, 0, none⟩), .string s] w fun e w' => e = .returned (.tuple #[noFile, .int .i64 r]) ∧ Below w.heap.size w w' := by
  cases hl : c.lost with
  | true => exact ⟨6, rfl, find_lost h s hl⟩
  | false =>
    rcases hk with e | e
    · rw [hl] at e; cases e
    · exact ⟨7, rfl, find_none h s hs hl e⟩
set_option maxRecDepth 50000 in
set_option maxHeartbeats 4000000 in
theorem sync_any (w : World) (base p : Nat) (mb : Option Nat) (D : DataW Value) (c : Cfg) (fm : FM) (N M : Nat) (s : ByteArray) (hs : s.size ≤ 281474976710656) (h : Dsk w base p mb D c fm N) (hM : ∀ s f, fm s = some f → f.l.length ≤ M) (hN : N < 1000000) (hB : base ≤ w.heap.size) :
    Calls Try.prog 20 #[.pointer (some ⟨p, 0, none⟩), .string s] w (Ans w base p mb D (N + 1) M) := by
  have hpl := h.facts.2.2.2.2.2.2.2
  by_cases hstop : c.lost = true ∨ fm s.data.toList = none
  · obtain ⟨r, hr, h37⟩ := find_stop h s (by unfold maxLen; omega) hstop
    have H37 := Lib.hid h37
    have HS := Lib.hid (fun w' hb => aft_below (N' := N + 1) (M' := M) h (w' := w') hb (Nat.le_succ N) hM (Nat.le_refl _))
    clear h37 h hM
    go_enter Try.func20, Try.ntmps20
    go_wp2_with (go_at_call 37; refine H37.out.mono ?_; rintro e w1 ⟨rfl, hb⟩; have HB := Lib.hid hb; clear hb)
    go_ret
    exact ⟨⟨_, rfl⟩, HS.out _ (HB.out.trans (((Below.refl _ _).alloc (Nat.le_refl _) _).mono HB.out.size))⟩
  · have hl : c.lost = false := by cases hc : c.lost; rfl; exact absurd (.inl hc) hstop
    obtain ⟨f, hf⟩ : ∃ f, fm s.data.toList = some f := by
      cases hf : fm s.data.toList with
      | none => exact absurd (.inr hf) hstop
      | some f => exact ⟨f, rfl⟩
    obtain ⟨A, n, cp, hat, hown, h256, hsf, hn, hcp⟩ := h.whole s.data.toList
    have h37 := find_some h s (by unfold maxLen; omega) hl f hf
    rw [hat] at h37
    have H37 := Lib.hid h37
    have HStay := Lib.hid (fun (w' : World) (c' : Cfg) (h' : Dsk w' base p mb D c' fm N) (ht : Touch (fun j => j = p) w w') => aft_stay (w := w) (M := M) h' (Nat.le_succ N) hM (ht.mono fun i _ e => .inl e))
    have HD := Lib.hid h
    have hfa := fileAt_bound (k := s.data.toList) hM
    have H42 : Hid (∀ (w3 : World) (c' : Cfg), Dsk w3 base p mb D c' fm N → Touch (fun j => j = p) w w3 → Calls Try.prog 42 #[.pointer (some ⟨p, 0, none⟩), .string s, .agg #[.slice A n cp, .int .i64 (n : Nat), .bool true]] w3 fun e w' => e = .returned (.tuple #[]) ∧ Aft w base p mb D (N + 1) M w') := by
      intro w3 c' h3 ht
      have hc := comes_cut h3 s.data.toList hat n (by omega) n (Nat.le_refl _) true
      refine (put_disk w3 base p mb D c' fm N s hs A n cp n true _ h3 hc hN (Nat.le_trans hB ht.2.2.2.1)).mono ?_
      rintro e w' ⟨rfl, mb', q1, q2, q3⟩
      refine ⟨rfl, aft_put h.isMap (ht.mono fun i _ e => .inl e) (fun j hj => hj) hM (by simp; omega) (Nat.le_refl _) (Nat.le_refl _) q1 q2 q3 (fun g e => .inl (.inr (.inr ⟨s.data.toList, ?_⟩)))⟩
      rw [hat]
      cases A <;> exact e
    have HN := Lib.hid hn
    clear h hM hat hown h256 hsf hcp h37 hstop hn hf
    go_enter Try.func20, Try.ntmps20
    go_wp2_with (first | (go_at_call 37; refine H37.out.mono ?_; rintro e w1 ⟨rfl, hb⟩; have HB := Lib.hid hb; have HD1 := Lib.hid ((HD.out.below hb).below ((Below.refl _ _).alloc (Nat.le_refl _) (.cells #[.slice A n cp, .int .i64 ((fileAt fm s.data.toList).safe : Nat), .bool (fileAt fm s.data.toList).ever] 64))); clear hb) | (go_at_call 41; refine (powerGoes_any HD1.out).mono ?_; rintro e w2 ⟨rfl, hd2, ht2⟩; have hx2 := (ht2.2.2.2.2 w1.heap.size (by simp) (by have := HB.out.size; omega)).trans (heap_alloc_new w1 _); obtain ⟨x0, x1, x2⟩ := box_cells hx2; have HD2 := Lib.hid hd2; have HT2 : Hid (Touch (fun j => j = p) w w2) := ((touch_below HB.out).alloc _).trans (ht2.mono fun i _ e => .inl e); clear hd2 ht2 hx2) | (go_at_call 43; refine (made_any _ _ _ _).mono ?_; rintro e w3 ⟨rfl, hb3⟩; have HD3 := Lib.hid (HD2.out.below hb3); have HT3 := Lib.hid (HT2.out.below hb3); clear hb3) | (go_at_call 42; refine (H42.out _ _ HD3.out HT3.out).mono ?_; rintro e w4 ⟨rfl, haft⟩; have HA := Lib.hid haft; clear haft))
    all_goals go_ret
    all_goals first
      | exact ⟨⟨_, rfl⟩, HA.out⟩
      | exact ⟨⟨_, rfl⟩, HStay.out _ _ HD2.out HT2.out⟩
end Go.Proofs.Ytedhbcaakdfcbaa.disk
