/- Sync, Remove, Lose, Fuse: exactly. -/
import Derived.Test.YtedhbcaakdfcbaaBa
namespace Go.Proofs.Ytedhbcaakdfcbaa.disk
open Go.ChangeShapes Go.WideShapes Go.ChangeAt Go.RowKit Go.Maps Go.WideMaps
set_option linter.unusedVariables false
set_option linter.unusedSimpArgs false

/-- The disk as it is now, on its own blocks and new ones. -/
def Now (w : World) (base p : Nat) (mb : Option Nat) (D : DataW Value) (c' : Cfg) (fm' : FM) (N : Nat) (w' : World) : Prop :=
  ∃ mb' D', Dsk w' base p mb' D' c' fm' N ∧ Touch (Foot p mb D) w w' ∧ ∀ j, Foot p mb' D' j → Foot p mb D j ∨ w.heap.size ≤ j
/-- What an operation answers, and what is there then. -/
def Does (w : World) (base p : Nat) (mb : Option Nat) (D : DataW Value) (N : Nat) (r : Cfg × FM × Int) (e : Ending) (w' : World) : Prop := e = .returned (.int .i64 r.2.2) ∧ Now w base p mb D r.1 r.2.1 N w'
theorem now_stay {w w' : World} {base p : Nat} {mb : Option Nat} {D : DataW Value} {c : Cfg} {fm : FM} {N N' : Nat} (h : Dsk w' base p mb D c fm N) (hN : N ≤ N') (ht : Touch (Foot p mb D) w w') : Now w base p mb D c fm N' w' := ⟨mb, D, h.up hN, ht, fun j hj => .inl hj⟩
theorem now_p {w w' : World} {base p : Nat} {mb : Option Nat} {D : DataW Value} {c : Cfg} {fm : FM} {N : Nat} (h : Dsk w' base p mb D c fm N) (ht : Touch (fun j => j = p) w w') : Now w base p mb D c fm (N + 1) w' := now_stay h (Nat.le_succ N) (ht.mono fun i _ e => .inl e)
theorem now_below {w w' : World} {base p : Nat} {mb : Option Nat} {D : DataW Value} {c : Cfg} {fm : FM} {N : Nat} (h : Dsk w base p mb D c fm N) (hb : Below w.heap.size w w') : Now w base p mb D c fm (N + 1) w' := now_stay (h.below hb) (Nat.le_succ N) (touch_below hb)
theorem now_drop {w w1 w' : World} {base p : Nat} {mb : Option Nat} {D : DataW Value} {c' : Cfg} {fm : FM} {N N' : Nat} {k : List UInt8} (ht : Touch (fun j => j = p) w w1) (hN : N ≤ N')
    (h : Dsk w' base p mb (D.del (.string k)) c' (erase fm k) N) (h2 : Touch (fun i => i = p ∨ mb = some i) w1 w') : Now w base p mb D c' (erase fm k) N' w' :=
  ⟨mb, _, h.up hN, (ht.mono fun i _ e => .inl e).trans (h2.mono fun i _ h => .inl (h.imp id .inl)), fun j hj => .inl (foot_del j hj)⟩
theorem now_put {w w1 w' : World} {base p : Nat} {mb mb' : Option Nat} {D : DataW Value} {c' : Cfg} {fm : FM} {N N' : Nat} {k : List UInt8} {v : Value} {f : File} {D1 : DataW Value} (hD1 : IsMap D1) (ht : Touch (Foot p mb D) w w1) (hf1 : ∀ j, Foot p mb D1 j → Foot p mb D j) (hN : N + 1 ≤ N')
    (h : Dsk w' base p mb' ((D1.del (.string k)).put (.string k) (.held v)) c' (upd fm k f) (bump fm k N)) (h2 : Touch (fun i => i = p ∨ mb = some i) w1 w') (h3 : ∀ b, mb' = some b → mb = some b ∨ w1.heap.size ≤ b) (hv : ∀ g, blk v = some g → Foot p mb D g ∨ w.heap.size ≤ g) : Now w base p mb D c' (upd fm k f) N' w' := by
  refine ⟨mb', _, h.up (Nat.le_trans (bump_le fm k N) hN), ht.trans (h2.mono fun i _ h => .inl (h.imp id .inl)), ?_⟩
  intro j hj
  have hm' : IsMap (D1.del (.string k)) := by obtain ⟨es, rfl⟩ := hD1; exact ⟨_, rfl⟩
  rcases hj with e | e | ⟨s, e⟩
  · exact .inl (.inl e)
  · rcases h3 j e with h | h
    · exact .inl (.inr (.inl h))
    · exact .inr (Nat.le_trans ht.2.2.2.1 h)
  · rw [At_put hm'] at e
    by_cases e2 : s = k
    · rw [if_pos e2] at e
      exact hv j e
    · rw [if_neg e2, At_del, if_neg e2] at e
      exact .inl (hf1 j (.inr (.inr ⟨s, e⟩)))
theorem Now.pre {w w1 w' : World} {base p : Nat} {mb : Option Nat} {D : DataW Value} {c : Cfg} {fm : FM} {N : Nat} {c' : Cfg} {fm' : FM} {N' : Nat} (h : Dsk w base p mb D c fm N) (hb : Below w.heap.size w w1) (ha : Now w1 base p mb D c' fm' N' w') : Now w base p mb D c' fm' N' w' := by
  obtain ⟨mb', D', q1, q3, q4⟩ := ha
  exact ⟨mb', D', q1, (touch_below hb).trans (q3.mono fun i _ h => .inl h), fun j hj => (q4 j hj).imp id (fun h => Nat.le_trans hb.size h)⟩
def cPut (c : Cfg) (fm : FM) (k : List UInt8) (f : File) : Cfg := { c with used := wrap64 (wrap64 (c.used - lenAt fm k) + (f.l.length : Nat)) }
def cDrop (c : Cfg) (fm : FM) (k : List UInt8) : Cfg := { c with used := wrap64 (c.used - lenAt fm k) }
def allSafe (l : List Nat) : File := ⟨l, l.length, true⟩
/-- Sync. -/
def fSync (c : Cfg) (fm : FM) (k : List UInt8) : Cfg × FM × Int :=
  if c.lost then (c, fm, 6) else match fm k with
  | none => (c, fm, 7)
  | some f => if goes c then (burnt c, fm, 6) else (cPut (burnt c) fm k (allSafe f.l), upd fm k (allSafe f.l), 0)
/-- Remove. -/
def fRemove (c : Cfg) (fm : FM) (k : List UInt8) : Cfg × FM × Int :=
  if c.lost then (c, fm, 6) else match fm k with
  | none => (c, fm, 7)
  | some f => if goes c then (burnt c, fm, 6) else (cDrop (burnt c) fm k, erase fm k, 0)
/-- Lose. -/
def fLose (c : Cfg) (fm : FM) (k : List UInt8) : Cfg × FM × Int :=
  if c.lost then (c, fm, 6) else match fm k with
  | none => (c, fm, 7)
  | some f => (cDrop c fm k, erase fm k, 0)
/-- Fuse. -/
def fFuse (c : Cfg) (fm : FM) (n : Int) : Cfg × FM × Int :=
  if c.lost then (c, fm, 6) else if n < 0 then (c, fm, 1) else ({ c with fused := true, fuse := n }, fm, 0)
set_option maxRecDepth 50000 in
set_option maxHeartbeats 4000000 in
theorem sync_looks (w : World) (base p : Nat) (mb : Option Nat) (D : DataW Value) (c : Cfg) (fm : FM) (N : Nat) (s : ByteArray) (hs : s.size ≤ 281474976710656) (h : Dsk w base p mb D c fm N) (hk : c.lost = true ∨ fm s.data.toList = none) :
    Calls Try.prog 20 #[.pointer (some ⟨p, 0, none⟩), .string s] w (Does w base p mb D (N + 1) (fSync c fm s.data.toList)) := by
  have key : ∀ r : Int, (r == 0) = false → fSync c fm s.data.toList = (c, fm, r) → (Calls Try.prog 37 #[.pointer (some ⟨p, 0, none⟩), .string s] w fun e w' => e = .returned (.tuple #[noFile, .int .i64 r]) ∧ Below w.heap.size w w') → Calls Try.prog 20 #[.pointer (some ⟨p, 0, none⟩), .string s] w (Does w base p mb D (N + 1) (fSync c fm s.data.toList)) := by
    intro r hr he h37
    rw [he]
    have hpl := h.facts.2.2.2.2.2.2.2
    have H37 := Lib.hid h37
    have HS := Lib.hid (fun w' hb => now_below h (w' := w') hb)
    clear h37 h hk he
    go_enter Try.func20, Try.ntmps20
    go_wp2_with (go_at_call 37; refine H37.out.mono ?_; rintro e w1 ⟨rfl, hb⟩; have HB := Lib.hid hb; clear hb)
    go_ret
    exact ⟨rfl, HS.out _ (HB.out.trans (((Below.refl _ _).alloc (Nat.le_refl _) _).mono HB.out.size))⟩
  cases hl : c.lost with
  | true => exact key 6 rfl (by simp [fSync, hl]) (find_lost h s hl)
  | false =>
    have hn : fm s.data.toList = none := hk.resolve_left (by rw [hl]; decide)
    exact key 7 rfl (by simp [fSync, hl, hn]) (find_none h s (by unfold maxLen; omega) hl hn)
set_option maxRecDepth 50000 in
set_option maxHeartbeats 4000000 in
theorem remove_looks (w : World) (base p : Nat) (mb : Option Nat) (D : DataW Value) (c : Cfg) (fm : FM) (N : Nat) (s : ByteArray) (hs : s.size ≤ 281474976710656) (h : Dsk w base p mb D c fm N) (hk : c.lost = true ∨ fm s.data.toList = none) :
    Calls Try.prog 23 #[.pointer (some ⟨p, 0, none⟩), .string s] w (Does w base p mb D (N + 1) (fRemove c fm s.data.toList)) := by
  have key : ∀ r : Int, (r == 0) = false → fRemove c fm s.data.toList = (c, fm, r) → (Calls Try.prog 37 #[.pointer (some ⟨p, 0, none⟩), .string s] w fun e w' => e = .returned (.tuple #[noFile, .int .i64 r]) ∧ Below w.heap.size w w') → Calls Try.prog 23 #[.pointer (some ⟨p, 0, none⟩), .string s] w (Does w base p mb D (N + 1) (fRemove c fm s.data.toList)) := by
    intro r hr he h37
    rw [he]
    have hpl := h.facts.2.2.2.2.2.2.2
    have H37 := Lib.hid h37
    have HS := Lib.hid (fun w' hb => now_below h (w' := w') hb)
    clear h37 h hk he
    go_enter Try.func23, Try.ntmps23
    go_wp2_with (go_at_call 37; refine H37.out.mono ?_; rintro e w1 ⟨rfl, hb⟩; have HB := Lib.hid hb; clear hb)
    go_ret
    exact ⟨rfl, HS.out _ (HB.out.trans (((Below.refl _ _).alloc (Nat.le_refl _) _).mono HB.out.size))⟩
  cases hl : c.lost with
  | true => exact key 6 rfl (by simp [fRemove, hl]) (find_lost h s hl)
  | false =>
    have hn : fm s.data.toList = none := hk.resolve_left (by rw [hl]; decide)
    exact key 7 rfl (by simp [fRemove, hl, hn]) (find_none h s (by unfold maxLen; omega) hl hn)
set_option maxRecDepth 50000 in
set_option maxHeartbeats 4000000 in
theorem lose_looks (w : World) (base p : Nat) (mb : Option Nat) (D : DataW Value) (c : Cfg) (fm : FM) (N : Nat) (s : ByteArray) (hs : s.size ≤ 281474976710656) (h : Dsk w base p mb D c fm N) (hk : c.lost = true ∨ fm s.data.toList = none) :
    Calls Try.prog 26 #[.pointer (some ⟨p, 0, none⟩), .string s] w (Does w base p mb D (N + 1) (fLose c fm s.data.toList)) := by
  have key : ∀ r : Int, (r == 0) = false → fLose c fm s.data.toList = (c, fm, r) → (Calls Try.prog 37 #[.pointer (some ⟨p, 0, none⟩), .string s] w fun e w' => e = .returned (.tuple #[noFile, .int .i64 r]) ∧ Below w.heap.size w w') → Calls Try.prog 26 #[.pointer (some ⟨p, 0, none⟩), .string s] w (Does w base p mb D (N + 1) (fLose c fm s.data.toList)) := by
    intro r hr he h37
    rw [he]
    have hpl := h.facts.2.2.2.2.2.2.2
    have H37 := Lib.hid h37
    have HS := Lib.hid (fun w' hb => now_below h (w' := w') hb)
    clear h37 h hk he
    go_enter Try.func26, Try.ntmps26
    go_wp2_with (go_at_call 37; refine H37.out.mono ?_; rintro e w1 ⟨rfl, hb⟩; have HB := Lib.hid hb; clear hb)
    go_ret
    exact ⟨rfl, HS.out _ (HB.out.trans (((Below.refl _ _).alloc (Nat.le_refl _) _).mono HB.out.size))⟩
  cases hl : c.lost with
  | true => exact key 6 rfl (by simp [fLose, hl]) (find_lost h s hl)
  | false =>
    have hn : fm s.data.toList = none := hk.resolve_left (by rw [hl]; decide)
    exact key 7 rfl (by simp [fLose, hl, hn]) (find_none h s (by unfold maxLen; omega) hl hn)
set_option maxRecDepth 50000 in
set_option maxHeartbeats 4000000 in
theorem sync_exact (w : World) (base p : Nat) (mb : Option Nat) (D : DataW Value) (c : Cfg) (fm : FM) (N : Nat) (s : ByteArray) (hs : s.size ≤ 281474976710656) (h : Dsk w base p mb D c fm N) (hN : N < 1000000) (hB : base ≤ w.heap.size) :
    Calls Try.prog 20 #[.pointer (some ⟨p, 0, none⟩), .string s] w (Does w base p mb D (N + 1) (fSync c fm s.data.toList)) := by
  have hpl := h.facts.2.2.2.2.2.2.2
  by_cases hstop : c.lost = true ∨ fm s.data.toList = none
  · exact sync_looks w base p mb D c fm N s hs h hstop
  · have hl : c.lost = false := by cases hc : c.lost; rfl; exact absurd (.inl hc) hstop
    obtain ⟨f, hf⟩ : ∃ f, fm s.data.toList = some f := by
      cases hf : fm s.data.toList with
      | none => exact absurd (.inr hf) hstop
      | some f => exact ⟨f, rfl⟩
    obtain ⟨A, n, cp, hat, hown, h256, hsf, hn, hcp⟩ := h.whole s.data.toList
    have h37 := find_some h s (by unfold maxLen; omega) hl f hf
    rw [hat] at h37
    have H37 := Lib.hid h37
    have HD := Lib.hid h
    have hfe := fileAt_some hf
    have H42 : Hid (∀ (w3 : World) (c' : Cfg), Dsk w3 base p mb D c' fm N → Touch (fun j => j = p) w w3 → Calls Try.prog 42 #[.pointer (some ⟨p, 0, none⟩), .string s, .agg #[.slice A n cp, .int .i64 (n : Nat), .bool true]] w3 fun e w' => e = .returned (.tuple #[]) ∧ Now w base p mb D (cPut c' fm s.data.toList (allSafe f.l)) (upd fm s.data.toList (allSafe f.l)) (N + 1) w') := by
      intro w3 c' h3 ht
      have hc := comes_cut h3 s.data.toList hat n (by omega) n (Nat.le_refl _) true
      have e1 : (⟨(fileAt fm s.data.toList).l.take n, n, true⟩ : File) = allSafe f.l := by rw [hn, hfe, List.take_of_length_le (Nat.le_refl _)]; rfl
      rw [e1] at hc
      refine (put_disk w3 base p mb D c' fm N s hs A n cp n true _ h3 hc hN (Nat.le_trans hB ht.2.2.2.1)).mono ?_
      rintro e w' ⟨rfl, mb', q1, q2, q3⟩
      have e2 : cPut c' fm s.data.toList (allSafe f.l) = { c' with used := wrap64 (wrap64 (c'.used - lenAt fm s.data.toList) + n) } := by
        unfold cPut allSafe
        rw [hn, hfe]
      rw [e2]
      refine ⟨rfl, now_put h.isMap (ht.mono fun i _ e => .inl e) (fun j hj => hj) (Nat.le_refl _) q1 q2 q3 (fun g e => .inl (.inr (.inr ⟨s.data.toList, ?_⟩)))⟩
      rw [hat]
      cases A <;> exact e
    have HN := Lib.hid hn
    cases hg : goes c with
    | true =>
      have he : fSync c fm s.data.toList = (burnt c, fm, 6) := by simp [fSync, hl, hf, hg]
      rw [he]
      clear h hat hown h256 hsf hcp h37 hstop hn hf he hfe
      go_enter Try.func20, Try.ntmps20
      go_wp2_with (first | (go_at_call 37; refine H37.out.mono ?_; rintro e w1 ⟨rfl, hb⟩; have HB := Lib.hid hb; have HD1 := Lib.hid ((HD.out.below hb).below ((Below.refl _ _).alloc (Nat.le_refl _) (.cells #[.slice A n cp, .int .i64 ((fileAt fm s.data.toList).safe : Nat), .bool (fileAt fm s.data.toList).ever] 64))); clear hb) | (go_at_call 41; refine (powerGoes_any HD1.out).mono ?_; rw [hg]; rintro e w2 ⟨rfl, hd2, ht2⟩; have hx2 := (ht2.2.2.2.2 w1.heap.size (by simp) (by have := HB.out.size; omega)).trans (heap_alloc_new w1 _); obtain ⟨x0, x1, x2⟩ := box_cells hx2; have HD2 := Lib.hid hd2; have HT2 : Hid (Touch (fun j => j = p) w w2) := ((touch_below HB.out).alloc _).trans (ht2.mono fun i _ e => .inl e); clear hd2 ht2 hx2))
      go_ret
      exact ⟨rfl, now_p HD2.out HT2.out⟩
    | false =>
      have he : fSync c fm s.data.toList = (cPut (burnt c) fm s.data.toList (allSafe f.l), upd fm s.data.toList (allSafe f.l), 0) := by simp [fSync, hl, hf, hg]
      rw [he]
      clear h hat hown h256 hsf hcp h37 hstop hn hf he hfe
      go_enter Try.func20, Try.ntmps20
      go_wp2_with (first | (go_at_call 37; refine H37.out.mono ?_; rintro e w1 ⟨rfl, hb⟩; have HB := Lib.hid hb; have HD1 := Lib.hid ((HD.out.below hb).below ((Below.refl _ _).alloc (Nat.le_refl _) (.cells #[.slice A n cp, .int .i64 ((fileAt fm s.data.toList).safe : Nat), .bool (fileAt fm s.data.toList).ever] 64))); clear hb) | (go_at_call 41; refine (powerGoes_any HD1.out).mono ?_; rw [hg]; rintro e w2 ⟨rfl, hd2, ht2⟩; have hx2 := (ht2.2.2.2.2 w1.heap.size (by simp) (by have := HB.out.size; omega)).trans (heap_alloc_new w1 _); obtain ⟨x0, x1, x2⟩ := box_cells hx2; have HD2 := Lib.hid hd2; have HT2 : Hid (Touch (fun j => j = p) w w2) := ((touch_below HB.out).alloc _).trans (ht2.mono fun i _ e => .inl e); clear hd2 ht2 hx2) | (go_at_call 43; refine (made_any _ _ _ _).mono ?_; rintro e w3 ⟨rfl, hb3⟩; have HD3 := Lib.hid (HD2.out.below hb3); have HT3 := Lib.hid (HT2.out.below hb3); clear hb3) | (go_at_call 42; refine (H42.out _ _ HD3.out HT3.out).mono ?_; rintro e w4 ⟨rfl, haft⟩; have HA := Lib.hid haft; clear haft))
      go_ret
      exact ⟨rfl, HA.out⟩
set_option maxRecDepth 50000 in
set_option maxHeartbeats 4000000 in
theorem remove_exact (w : World) (base p : Nat) (mb : Option Nat) (D : DataW Value) (c : Cfg) (fm : FM) (N : Nat) (s : ByteArray) (hs : s.size ≤ 281474976710656) (h : Dsk w base p mb D c fm N) :
    Calls Try.prog 23 #[.pointer (some ⟨p, 0, none⟩), .string s] w (Does w base p mb D (N + 1) (fRemove c fm s.data.toList)) := by
  have hpl := h.facts.2.2.2.2.2.2.2
  by_cases hstop : c.lost = true ∨ fm s.data.toList = none
  · exact remove_looks w base p mb D c fm N s hs h hstop
  · have hl : c.lost = false := by cases hc : c.lost; rfl; exact absurd (.inl hc) hstop
    obtain ⟨f, hf⟩ : ∃ f, fm s.data.toList = some f := by
      cases hf : fm s.data.toList with
      | none => exact absurd (.inr hf) hstop
      | some f => exact ⟨f, rfl⟩
    obtain ⟨A, n, cp, hat, hown, h256, hsf, hn, hcp⟩ := h.whole s.data.toList
    have h37 := find_some h s (by unfold maxLen; omega) hl f hf
    rw [hat] at h37
    have H37 := Lib.hid h37
    have HD := Lib.hid h
    have hfe := fileAt_some hf
    have H47 : Hid (∀ (w3 : World) (c' : Cfg), Dsk w3 base p mb D c' fm N → Touch (fun j => j = p) w w3 → Calls Try.prog 47 #[.pointer (some ⟨p, 0, none⟩), .string s] w3 fun e w' => e = .returned (.tuple #[]) ∧ Now w base p mb D (cDrop c' fm s.data.toList) (erase fm s.data.toList) (N + 1) w') := by
      intro w3 c' h3 ht
      refine (drop_any w3 base p mb D c' fm N s (by unfold maxLen; omega) h3).mono ?_
      rintro e w' ⟨rfl, q1, q2⟩
      exact ⟨rfl, now_drop ht (Nat.le_succ N) q1 q2⟩
    cases hg : goes c with
    | true =>
      have he : fRemove c fm s.data.toList = (burnt c, fm, 6) := by simp [fRemove, hl, hf, hg]
      rw [he]
      clear h hat hown h256 hsf hcp h37 hstop hn hf he hfe
      go_enter Try.func23, Try.ntmps23
      go_wp2_with (first | (go_at_call 37; refine H37.out.mono ?_; rintro e w1 ⟨rfl, hb⟩; have HB := Lib.hid hb; have HD1 := Lib.hid ((HD.out.below hb).below ((Below.refl _ _).alloc (Nat.le_refl _) (.cells #[.slice A n cp, .int .i64 ((fileAt fm s.data.toList).safe : Nat), .bool (fileAt fm s.data.toList).ever] 64))); clear hb) | (go_at_call 41; refine (powerGoes_any HD1.out).mono ?_; rw [hg]; rintro e w2 ⟨rfl, hd2, ht2⟩; have hx2 := (ht2.2.2.2.2 w1.heap.size (by simp) (by have := HB.out.size; omega)).trans (heap_alloc_new w1 _); obtain ⟨x0, x1, x2⟩ := box_cells hx2; have HD2 := Lib.hid hd2; have HT2 : Hid (Touch (fun j => j = p) w w2) := ((touch_below HB.out).alloc _).trans (ht2.mono fun i _ e => .inl e); clear hd2 ht2 hx2))
      go_ret
      exact ⟨rfl, now_p HD2.out HT2.out⟩
    | false =>
      have he : fRemove c fm s.data.toList = (cDrop (burnt c) fm s.data.toList, erase fm s.data.toList, 0) := by simp [fRemove, hl, hf, hg]
      rw [he]
      clear h hat hown h256 hsf hcp h37 hstop hn hf he hfe
      go_enter Try.func23, Try.ntmps23
      go_wp2_with (first | (go_at_call 37; refine H37.out.mono ?_; rintro e w1 ⟨rfl, hb⟩; have HB := Lib.hid hb; have HD1 := Lib.hid ((HD.out.below hb).below ((Below.refl _ _).alloc (Nat.le_refl _) (.cells #[.slice A n cp, .int .i64 ((fileAt fm s.data.toList).safe : Nat), .bool (fileAt fm s.data.toList).ever] 64))); clear hb) | (go_at_call 41; refine (powerGoes_any HD1.out).mono ?_; rw [hg]; rintro e w2 ⟨rfl, hd2, ht2⟩; have hx2 := (ht2.2.2.2.2 w1.heap.size (by simp) (by have := HB.out.size; omega)).trans (heap_alloc_new w1 _); obtain ⟨x0, x1, x2⟩ := box_cells hx2; have HD2 := Lib.hid hd2; have HT2 : Hid (Touch (fun j => j = p) w w2) := ((touch_below HB.out).alloc _).trans (ht2.mono fun i _ e => .inl e); clear hd2 ht2 hx2) | (go_at_call 47; refine (H47.out _ _ HD2.out HT2.out).mono ?_; rintro e w4 ⟨rfl, haft⟩; have HA := Lib.hid haft; clear haft))
      go_ret
      exact ⟨rfl, HA.out⟩
set_option maxRecDepth 50000 in
set_option maxHeartbeats 4000000 in
theorem lose_exact (w : World) (base p : Nat) (mb : Option Nat) (D : DataW Value) (c : Cfg) (fm : FM) (N : Nat) (s : ByteArray) (hs : s.size ≤ 281474976710656) (h : Dsk w base p mb D c fm N) :
    Calls Try.prog 26 #[.pointer (some ⟨p, 0, none⟩), .string s] w (Does w base p mb D (N + 1) (fLose c fm s.data.toList)) := by
  have hpl := h.facts.2.2.2.2.2.2.2
  by_cases hstop : c.lost = true ∨ fm s.data.toList = none
  · exact lose_looks w base p mb D c fm N s hs h hstop
  · have hl : c.lost = false := by cases hc : c.lost; rfl; exact absurd (.inl hc) hstop
    obtain ⟨f, hf⟩ : ∃ f, fm s.data.toList = some f := by
      cases hf : fm s.data.toList with
      | none => exact absurd (.inr hf) hstop
      | some f => exact ⟨f, rfl⟩
    obtain ⟨A, n, cp, hat, hown, h256, hsf, hn, hcp⟩ := h.whole s.data.toList
    have h37 := find_some h s (by unfold maxLen; omega) hl f hf
    rw [hat] at h37
    have H37 := Lib.hid h37
    have HD := Lib.hid h
    have hfe := fileAt_some hf
    have H47 : Hid (∀ (w3 : World) (c' : Cfg), Dsk w3 base p mb D c' fm N → Touch (fun j => j = p) w w3 → Calls Try.prog 47 #[.pointer (some ⟨p, 0, none⟩), .string s] w3 fun e w' => e = .returned (.tuple #[]) ∧ Now w base p mb D (cDrop c' fm s.data.toList) (erase fm s.data.toList) (N + 1) w') := by
      intro w3 c' h3 ht
      refine (drop_any w3 base p mb D c' fm N s (by unfold maxLen; omega) h3).mono ?_
      rintro e w' ⟨rfl, q1, q2⟩
      exact ⟨rfl, now_drop ht (Nat.le_succ N) q1 q2⟩
    have he : fLose c fm s.data.toList = (cDrop c fm s.data.toList, erase fm s.data.toList, 0) := by simp [fLose, hl, hf]
    rw [he]
    clear h hat hown h256 hsf hcp h37 hstop hn hf he hfe
    go_enter Try.func26, Try.ntmps26
    go_wp2_with (first | (go_at_call 37; refine H37.out.mono ?_; rintro e w1 ⟨rfl, hb⟩; have HB := Lib.hid hb; have HD1 := Lib.hid ((HD.out.below hb).below ((Below.refl _ _).alloc (Nat.le_refl _) (.cells #[.slice A n cp, .int .i64 ((fileAt fm s.data.toList).safe : Nat), .bool (fileAt fm s.data.toList).ever] 64))); clear hb) | (go_at_call 47; refine (H47.out _ _ HD1.out ((touch_below HB.out).alloc _)).mono ?_; rintro e w4 ⟨rfl, haft⟩; have HA := Lib.hid haft; clear haft))
    go_ret
    exact ⟨rfl, HA.out⟩
set_option maxRecDepth 50000 in
set_option maxHeartbeats 4000000 in
theorem fuse_exact (w : World) (base p : Nat) (mb : Option Nat) (D : DataW Value) (c : Cfg) (fm : FM) (N : Nat) (n : Int) (h : Dsk w base p mb D c fm N) :
    Calls Try.prog 24 #[.pointer (some ⟨p, 0, none⟩), .int .i64 n] w (Does w base p mb D (N + 1) (fFuse c fm n)) := by
  obtain ⟨d0, d1, d2, d3, d4, d5, hfz, hlt⟩ := h.facts
  have hf3 := hfz 3
  have hf4 := hfz 4
  have HD := Lib.hid h
  have H44 := Lib.hid (power_any h)
  clear h hfz d0 d1 d2 d5
  cases hl : c.lost with
  | true =>
    have he : fFuse c fm n = (c, fm, 6) := by simp [fFuse, hl]
    rw [he]
    rw [hl] at H44
    go_enter Try.func24, Try.ntmps24
    go_wp2_with (go_at_call 44; refine H44.out.mono ?_; rintro e w1 ⟨rfl, rfl⟩)
    go_ret
    exact ⟨rfl, now_p HD.out (Touch.refl _ _)⟩
  | false =>
    rw [hl] at H44
    by_cases hn : n < 0
    · have he : fFuse c fm n = (c, fm, 1) := by simp [fFuse, hl, hn]
      rw [he]
      go_enter Try.func24, Try.ntmps24
      go_wp2_with (go_at_call 44; refine H44.out.mono ?_; rintro e w1 ⟨rfl, rfl⟩)
      go_ret
      exact ⟨rfl, now_p HD.out (Touch.refl _ _)⟩
    · have he : fFuse c fm n = ({ c with fused := true, fuse := n }, fm, 0) := by simp [fFuse, hl, hn]
      rw [he]
      go_enter Try.func24, Try.ntmps24
      go_wp2_with (go_at_call 44; refine H44.out.mono ?_; rintro e w1 ⟨rfl, rfl⟩)
      go_ret
      exact ⟨rfl, now_p (c := { c with fused := true, fuse := n }) (dsk_own (c := { c with fused := true }) (dsk_own (c' := { c with fused := true }) HD.out rfl) rfl) (((Touch.refl (fun j => j = p) w).setCell ⟨p, 3, none⟩ (.inr rfl) _).setCell ⟨p, 4, none⟩ (.inr rfl) _)⟩
end Go.Proofs.Ytedhbcaakdfcbaa.disk
