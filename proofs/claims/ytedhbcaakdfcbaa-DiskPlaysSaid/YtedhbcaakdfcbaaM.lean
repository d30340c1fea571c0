/- Harm, Rename. -/
import Derived.Test.YtedhbcaakdfcbaaL
namespace Go.Proofs.Ytedhbcaakdfcbaa.disk
open Go.ChangeShapes Go.WideShapes Go.ChangeAt Go.RowKit Go.Maps Go.WideMaps
set_option linter.unusedVariables false
set_option linter.unusedSimpArgs false

theorem blk_fresh {x m m' g : Nat} {y z : Value} (h : blk (.agg #[.slice (some ⟨x, 0, none⟩) m m', y, z]) = some g) : x = g := Option.some.inj h
/-- New bytes come as a file. -/
theorem comes_new {w : World} {base p : Nat} {mb : Option Nat} {D : DataW Value} {c : Cfg} {fm : FM} {N : Nat} (h : Dsk w base p mb D c fm N) (k : List UInt8) (L : List Nat) (hL : ∀ x ∈ L, x < 256) (hB : base ≤ w.heap.size) (hm : L.length ≤ 1000000000) (w' : World) (hb : Below (w.heap.size + 1) (w.alloc (.cells (vals L).toArray 5)) w') :
    Comes w' base p mb D k (.agg #[.slice (some ⟨w.heap.size, 0, none⟩) L.length L.length, .int .i64 (L.length : Nat), .bool true]) ⟨L, L.length, true⟩ := by
  have hg : w'.heap[w.heap.size]? = some (.cells (vals L).toArray 5 (0, 0)) := (hb.block w.heap.size (by omega)).trans (heap_alloc_new w _)
  have hbl : blk (.agg #[.slice (some ⟨w.heap.size, 0, none⟩) L.length L.length, .int .i64 (L.length : Nat), .bool true]) = some w.heap.size := rfl
  refine ⟨⟨_, rfl, ⟨by simp [vals], .inr ⟨w.heap.size, L.length, (vals L).toArray, rfl, hB, hg, Nat.le_refl _, by unfold maxLen; omega, by simp [vals], by rw [List.toList_toArray, List.take_of_length_le (by simp [vals])]⟩⟩, hL, Nat.le_refl _⟩, ?_, ?_, ?_⟩
  · rw [hbl]
    have := h.facts.2.2.2.2.2.2.2
    simp
    omega
  · intro b e
    have := (h.map b e).2.2.lt
    rw [hbl]
    simp
    omega
  · intro s g hs e
    have := (h.blk_lt s g e).2
    rw [hbl]
    simp
    omega
set_option maxRecDepth 50000 in
set_option maxHeartbeats 4000000 in
theorem harm_any (w : World) (base p : Nat) (mb : Option Nat) (D : DataW Value) (c : Cfg) (fm : FM) (N M : Nat) (s : ByteArray) (hs : s.size ≤ 281474976710656) (B : Option Addr) (m cb : Nat) (L : List Nat) (h : Dsk w base p mb D c fm N) (hM : ∀ s f, fm s = some f → f.l.length ≤ M)
    (hL : Bytes w B m L) (hN : N < 1000000) (hB : base ≤ w.heap.size) (hbound : M + m ≤ 1000000) :
    Calls Try.prog 25 #[.pointer (some ⟨p, 0, none⟩), .string s, .slice B m cb] w (Ans w base p mb D (N + 1) (M + m)) := by
  obtain ⟨d0, d1, d2, d3, d4, d5, hfz, hlt⟩ := h.facts
  obtain ⟨A, n, cp, sf, ev, hat, hn⟩ := h.form s.data.toList
  have hlk : ∀ q, (Instr.lookup 52 (.map mb) (.string s) false).run Try.prog (w.drewN q) = .ok (.agg #[.slice A n cp, .int .i64 (sf : Nat), .bool ev]) (w.drewN q) := by
    intro q
    rw [((h.drewN q).look s (by unfold maxLen; omega)).1, hat]
  have hfd := fun w' => field0 w' A n cp (.int .i64 (sf : Nat)) (.bool ev)
  have hlL := hL.1
  have HD := Lib.hid h
  have HL := Lib.hid hL
  have H44 := Lib.hid (power_any h)
  have HR := Lib.hid (fun q => room_any (h.drewN q))
  have H45 := Lib.hid (fun w' => isName_some w' s hs)
  have HStay := Lib.hid (fun (w' : World) (c' : Cfg) (h' : Dsk w' base p mb D c' fm N) (ht : Touch (fun j => j = p) w w') => aft_stay (w := w) (M := M + m) h' (Nat.le_succ N) (fun s f e => Nat.le_trans (hM s f e) (by omega)) (ht.mono fun i _ e => .inl e))
  have H42 : Hid (∀ (q : Nat) (w3 : World), Below (w.heap.size + 1) ((w.drewN q).alloc (.cells (vals L).toArray 5)) w3 → Calls Try.prog 42 #[.pointer (some ⟨p, 0, none⟩), .string s, .agg #[.slice (some ⟨w.heap.size, 0, none⟩) m m, .int .i64 (m : Nat), .bool true]] w3 fun e w' => e = .returned (.tuple #[]) ∧ Aft w base p mb D (N + 1) (M + m) w') := by
    intro q w3 hb
    have hc := comes_new (h.drewN q) s.data.toList L hL.2.1 hB (by omega) w3 hb
    have hbw : Below w.heap.size w w3 := by
      have h1 : Below w.heap.size w ((w.drewN q).alloc (.cells (vals L).toArray 5)) := (below_draws (Below.refl _ _) q).alloc (Nat.le_refl _) _
      exact h1.trans (hb.mono (by omega))
    have hc' : Comes w3 base p mb D s.data.toList (.agg #[.slice (some ⟨w.heap.size, 0, none⟩) m m, .int .i64 (m : Nat), .bool true]) ⟨L, L.length, true⟩ := by
      have := hc
      rw [hlL] at this
      rw [hlL]
      exact this
    refine (put_disk w3 base p mb D c fm N s hs _ m m m true _ (h.below hbw) hc' hN (Nat.le_trans hB hbw.size)).mono ?_
    rintro e w' ⟨rfl, mb', q1, q2, q3⟩
    exact ⟨rfl, aft_put h.isMap (touch_below hbw) (fun j hj => hj) hM (show L.length ≤ M + m by omega) (Nat.le_add_right _ _) (Nat.le_refl _) q1 q2 q3 (fun g e => .inr (Nat.le_of_eq (blk_fresh e)))⟩
  have HN := Lib.hid hn
  have H34 : Hid (∀ q, Calls Try.prog 34 #[.slice B m cb] (w.drewN q) fun e w' => e = .returned (.slice (some ⟨w.heap.size, 0, none⟩) m m) ∧ w' = (w.drewN q).alloc (.cells (vals L).toArray 5)) := fun q => copied_any (w.drewN q) B m cb L (hL.drewN q) (by omega)
  have H43 : Hid (∀ q, Calls Try.prog 43 #[.slice (some ⟨w.heap.size, 0, none⟩) m m] ((w.drewN q).alloc (.cells (vals L).toArray 5)) fun e w' => e = .returned (.agg #[.slice (some ⟨w.heap.size, 0, none⟩) m m, .int .i64 (m : Nat), .bool true]) ∧ Below (w.heap.size + 1) ((w.drewN q).alloc (.cells (vals L).toArray 5)) w') := by
    intro q
    refine (made_any ((w.drewN q).alloc (.cells (vals L).toArray 5)) (some ⟨w.heap.size, 0, none⟩) m m).mono ?_
    rintro e w' ⟨rfl, hb⟩
    refine ⟨rfl, hb.mono ?_⟩
    have : ((w.drewN q).alloc (.cells (vals L).toArray 5)).heap.size = w.heap.size + 1 := Array.size_push _
    omega
  clear h hM hL hat hn hfz d0 d1 d3 d4 d5
  cases hl : c.lost with
  | true =>
    rw [hl] at H44
    go_enter Try.func25, Try.ntmps25
    go_wp2_with (go_at_call 44; refine H44.out.mono ?_; rintro e w1 ⟨rfl, rfl⟩)
    go_ret
    exact ⟨⟨_, rfl⟩, HStay.out _ _ HD.out (Touch.refl _ _)⟩
  | false =>
    rw [hl] at H44
    go_enter Try.func25, Try.ntmps25
    go_wp2_with (first | (go_at_call 44; refine H44.out.mono ?_; rintro e w1 ⟨rfl, rfl⟩) | (go_at_call 45; refine (H45.out _).mono ?_; rintro e w1 ⟨nb, rfl, rfl⟩; cases nb))
    · go_ret
      exact ⟨⟨_, rfl⟩, HStay.out _ _ HD.out (Touch.refl _ _)⟩
    · go_quiet ((go_at_call 15; exact Calls.quiet_of (HR.out _)))
      go_wp2_with (first | (go_at_call 34; refine (H34.out nq).mono ?_; rintro e w1 ⟨rfl, rfl⟩) | (go_at_call 43; refine (H43.out nq).mono ?_; rintro e w2 ⟨rfl, hb2⟩; have HB2 := Lib.hid hb2; clear hb2) | (go_at_call 42; refine (H42.out nq _ HB2.out).mono ?_; rintro e w4 ⟨rfl, haft⟩; have HA := Lib.hid haft; clear haft))
      all_goals go_ret
      all_goals first
        | exact ⟨⟨_, rfl⟩, HA.out⟩
        | exact ⟨⟨_, rfl⟩, HStay.out _ _ (HD.out.drewN nq) (touch_below (below_draws (Below.refl w.heap.size w) nq))⟩
end Go.Proofs.Ytedhbcaakdfcbaa.disk
