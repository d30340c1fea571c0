/- What each change does to a disk: it stays one, on its own blocks and new ones. -/
import Derived.Test.YtedhbcaakdfcbaaI
namespace Go.Proofs.Ytedhbcaakdfcbaa.disk
open Go.ChangeShapes Go.WideShapes Go.ChangeAt Go.RowKit Go.Maps Go.WideMaps
set_option linter.unusedVariables false
set_option linter.unusedSimpArgs false

def SomeBool (w : World) (e : Ending) (w' : World) : Prop := ∃ b : Bool, e = .returned (.bool b) ∧ w = w'
set_option maxRecDepth 20000 in
set_option maxHeartbeats 2000000 in
theorem isName_some (w : World) (s : ByteArray) (hs : s.size ≤ 281474976710656) : Calls Try.prog 45 #[.string s] w (SomeBool w) := by
  by_cases h1 : s.size < 1
  · go_enter Try.func45, Try.ntmps45
    go_wp2
    go_ret
    exact ⟨_, rfl, rfl⟩
  · by_cases h2 : 40 < s.size
    · go_enter Try.func45, Try.ntmps45
      go_wp2
      go_ret
      exact ⟨_, rfl, rfl⟩
    · go_enter Try.func45, Try.ntmps45
      go_wp2
      go_loopw [15] (fun i wr => ∃ k : Nat, k ≤ s.size ∧ i = .int .i64 k ∧ wr = w) (fun i _ => s.size - (intOf i).toNat)
      case atStart => exact ⟨0, by omega, rfl, rfl⟩
      case round =>
        obtain ⟨k, hk, rfl, rfl⟩ := hrel
        by_cases hlt : k < s.size
        · go_wp2
          all_goals first
            | (go_ret; exact ⟨_, rfl, rfl⟩)
            | exact ⟨⟨k + 1, by omega, rfl, rfl⟩, by simp [intOf]; omega⟩
            | exact ⟨⟨k + 1, by omega, rfl, trivial⟩, by simp [intOf]; omega⟩
        · go_wp2
          go_ret
          exact ⟨_, rfl, rfl⟩
set_option maxRecDepth 20000 in
theorem room_any {w : World} {base p : Nat} {mb : Option Nat} {D : DataW Value} {c : Cfg} {fm : FM} {N : Nat} (h : Dsk w base p mb D c fm N) :
    Calls Try.prog 15 #[.pointer (some ⟨p, 0, none⟩)] w fun e w' => e = .returned (.int .i64 (wrap64 (c.cap - c.used))) ∧ ∃ q, w' = w.drewN q := by
  obtain ⟨d0, d1, d2, d3, d4, d5, hf, hlt⟩ := h.facts
  clear h
  go_enter Try.func15, Try.ntmps15
  go_wp2
  go_quiet (fail)
  go_wp2
  go_ret
  exact ⟨rfl, _, rfl⟩
/-- A disk is still one; what it has may be other. -/
def Aft (w : World) (base p : Nat) (mb : Option Nat) (D : DataW Value) (N M : Nat) (w' : World) : Prop :=
  ∃ mb' D' c' fm', Dsk w' base p mb' D' c' fm' N ∧ (∀ s f, fm' s = some f → f.l.length ≤ M) ∧ Touch (Foot p mb D) w w' ∧ ∀ j, Foot p mb' D' j → Foot p mb D j ∨ w.heap.size ≤ j
def Ans (w : World) (base p : Nat) (mb : Option Nat) (D : DataW Value) (N M : Nat) (e : Ending) (w' : World) : Prop := (∃ r : Int, e = .returned (.int .i64 r)) ∧ Aft w base p mb D N M w'
theorem Dsk.up {w : World} {base p : Nat} {mb : Option Nat} {D : DataW Value} {c : Cfg} {fm : FM} {N N' : Nat} (h : Dsk w base p mb D c fm N) (hN : N ≤ N') : Dsk w base p mb D c fm N' :=
  ⟨h.head, h.pb, h.nomap, h.map, h.held, h.isMap, Nat.le_trans h.sz hN, h.has, h.none_, h.file, h.np, h.nb, h.apart, h.short⟩
theorem aft_stay {w w' : World} {base p : Nat} {mb : Option Nat} {D : DataW Value} {c : Cfg} {fm : FM} {N N' M : Nat} (h : Dsk w' base p mb D c fm N) (hN : N ≤ N') (hM : ∀ s f, fm s = some f → f.l.length ≤ M) (ht : Touch (Foot p mb D) w w') : Aft w base p mb D N' M w' :=
  ⟨mb, D, c, fm, h.up hN, hM, ht, fun j hj => .inl hj⟩
theorem bump_le (fm : FM) (k : List UInt8) (N : Nat) : bump fm k N ≤ N + 1 := by
  unfold bump
  split <;> omega
theorem upd_bound {fm : FM} {k : List UInt8} {f : File} {M : Nat} (h : ∀ s f, fm s = some f → f.l.length ≤ M) (hf : f.l.length ≤ M) : ∀ s g, upd fm k f s = some g → g.l.length ≤ M := by
  intro s g e
  unfold upd at e
  by_cases h2 : s = k
  · rw [if_pos h2] at e
    cases e
    exact hf
  · rw [if_neg h2] at e
    exact h s g e
theorem erase_bound {fm : FM} {k : List UInt8} {M : Nat} (h : ∀ s f, fm s = some f → f.l.length ≤ M) : ∀ s g, erase fm k s = some g → g.l.length ≤ M := by
  intro s g e
  unfold erase at e
  by_cases h2 : s = k
  · rw [if_pos h2] at e
    cases e
  · rw [if_neg h2] at e
    exact h s g e
theorem fileAt_bound {fm : FM} {k : List UInt8} {M : Nat} (h : ∀ s f, fm s = some f → f.l.length ≤ M) : (fileAt fm k).l.length ≤ M := by
  unfold fileAt
  cases hk : fm k with
  | none => simp
  | some f => exact h k f hk
theorem Bytes.half {w : World} {B : Option Addr} {m k : Nat} {L : List Nat} (h : Bytes w B m L) (hk : k ≤ m) : Bytes w B k (L.take k) := by
  refine ⟨by have := h.1; simp; omega, fun x hx => h.2.1 x (List.mem_of_mem_take hx), fun h0 => ?_⟩
  obtain ⟨b, o, e, hc⟩ := h.2.2 (by omega)
  refine ⟨b, o, e, fun i hi => ?_⟩
  rw [hc i (by omega)]
  simp [List.getD, List.getElem?_take, hi]
/-- Behind a grow. -/
theorem aft_grow {w w1 w' : World} {base p : Nat} {mb : Option Nat} {D : DataW Value} {fm : FM} {N N' M M' : Nat} {k : List UInt8} {L : List Nat} (ht : Touch (fun j => j = p) w w1) (hM : ∀ s f, fm s = some f → f.l.length ≤ M) (hL : M + L.length ≤ M') (hN : N + 1 ≤ N')
    (h : ∃ mb' D' c', Dsk w' base p mb' D' c' (upd fm k ⟨(fileAt fm k).l ++ L, (fileAt fm k).safe, (fileAt fm k).ever⟩) (bump fm k N) ∧ Touch (Foot p mb D) w1 w' ∧ ∀ j, Foot p mb' D' j → Foot p mb D j ∨ w1.heap.size ≤ j) : Aft w base p mb D N' M' w' := by
  obtain ⟨mb', D', c', h1, h2, h3⟩ := h
  refine ⟨mb', D', c', _, h1.up (Nat.le_trans (bump_le fm k N) hN), upd_bound (fun s f e => Nat.le_trans (hM s f e) (by omega)) ?_, ?_, fun j hj => (h3 j hj).imp id (fun h => Nat.le_trans ht.2.2.2.1 h)⟩
  · have := fileAt_bound (k := k) hM
    simp
    omega
  · exact (ht.mono fun i _ e => .inl e).trans (h2.mono fun i _ h => .inl h)
set_option maxRecDepth 50000 in
set_option maxHeartbeats 4000000 in
theorem append_any (w : World) (base p : Nat) (mb : Option Nat) (D : DataW Value) (c : Cfg) (fm : FM) (N M : Nat) (s : ByteArray) (hs : s.size ≤ 281474976710656) (B : Option Addr) (m cb : Nat) (L : List Nat) (h : Dsk w base p mb D c fm N) (hM : ∀ s f, fm s = some f → f.l.length ≤ M)
    (hL : Bytes w B m L) (hold : ∀ ad, B = some ad → 0 < m → ad.block < base) (hnil : B = none → cb = 0) (hmc : m ≤ cb) (hN : N < 1000000) (hB : base ≤ w.heap.size) (hbound : M + m ≤ 1000000) :
    Calls Try.prog 21 #[.pointer (some ⟨p, 0, none⟩), .string s, .slice B m cb] w (Ans w base p mb D (N + 1) (M + m)) := by
  have HD := Lib.hid h
  have H44 := Lib.hid (power_any h)
  have HR := Lib.hid (room_any h)
  have H45 := Lib.hid (fun w' => isName_some w' s hs)
  have HStay := Lib.hid (fun (w' : World) (c' : Cfg) (h' : Dsk w' base p mb D c' fm N) (ht : Touch (fun j => j = p) w w') => aft_stay (w := w) (M := M + m) h' (Nat.le_succ N) (fun s f e => Nat.le_trans (hM s f e) (by omega)) (ht.mono fun i _ e => .inl e))
  have H46 : Hid (∀ (w2 : World) (c' : Cfg), Dsk w2 base p mb D c' fm N → Touch (fun j => j = p) w w2 → ∀ k, k ≤ m → Calls Try.prog 46 #[.pointer (some ⟨p, 0, none⟩), .string s, .slice B k cb] w2 fun e w' => e = .returned (.tuple #[]) ∧ Aft w base p mb D (N + 1) (M + m) w') := by
    intro w2 c' h2 ht k hk
    have hb2 : Bytes w2 B m L := hL.touch (fun ad e h0 e2 => by have := hold ad e h0; have := h.pb; omega) ht
    have hfa := fileAt_bound (k := s.data.toList) hM
    have hll := hL.1
    refine (grow_any w2 base p mb D c' fm N s hs B k cb (L.take k) h2 (hb2.half hk) hnil hN (Nat.le_trans hB ht.2.2.2.1) (by omega)).mono ?_
    rintro e w' ⟨rfl, mb', D', c2, q1, _, q2, q3⟩
    exact ⟨rfl, aft_grow ht hM (by simp; omega) (Nat.le_refl _) ⟨mb', D', c2, q1, q2, q3⟩⟩
  clear h hM hL hnil hold
  cases hl : c.lost with
  | true =>
    rw [hl] at H44
    go_enter Try.func21, Try.ntmps21
    go_wp2_with (go_at_call 44; refine H44.out.mono ?_; rintro e w1 ⟨rfl, rfl⟩)
    go_ret
    exact ⟨⟨_, rfl⟩, HStay.out _ _ HD.out (Touch.refl _ _)⟩
  | false =>
    rw [hl] at H44
    go_enter Try.func21, Try.ntmps21
    go_wp2_with (first | (go_at_call 44; refine H44.out.mono ?_; rintro e w1 ⟨rfl, rfl⟩) | (go_at_call 45; refine (H45.out _).mono ?_; rintro e w1 ⟨nb, rfl, rfl⟩) | (go_at_call 15; refine HR.out.mono ?_; rintro e w1 ⟨rfl, q, rfl⟩) | (go_at_call 41; refine (powerGoes_any (HD.out.drewN q)).mono ?_; rintro e w2 ⟨rfl, hd2, ht2⟩; have HD2 := Lib.hid hd2; have HT2 : Hid (Touch (fun j => j = p) w w2) := ht2; clear hd2 ht2) | (go_at_call 46; refine (H46.out _ _ HD2.out HT2.out _ (by omega)).mono ?_; rintro e w4 ⟨rfl, haft⟩; have HA := Lib.hid haft; clear haft))
    all_goals go_ret
    all_goals first
      | exact ⟨⟨_, rfl⟩, HA.out⟩
      | exact ⟨⟨_, rfl⟩, HStay.out _ _ HD2.out HT2.out⟩
      | exact ⟨⟨_, rfl⟩, HStay.out _ _ (HD.out.drewN q) ((Touch.refl _ w).drewN q)⟩
      | exact ⟨⟨_, rfl⟩, HStay.out _ _ HD.out (Touch.refl _ _)⟩
/-- Behind a put of a file that is among those. -/
theorem aft_put {w w1 w' : World} {base p : Nat} {mb mb' : Option Nat} {D : DataW Value} {c' : Cfg} {fm : FM} {N N' M M' : Nat} {k : List UInt8} {v : Value} {f : File} {D1 : DataW Value} (hD1 : IsMap D1) (ht : Touch (Foot p mb D) w w1) (hf1 : ∀ j, Foot p mb D1 j → Foot p mb D j) (hM : ∀ s f, fm s = some f → f.l.length ≤ M) (hf : f.l.length ≤ M') (hMM : M ≤ M') (hN : N + 1 ≤ N')
    (h : Dsk w' base p mb' ((D1.del (.string k)).put (.string k) (.held v)) c' (upd fm k f) (bump fm k N)) (h2 : Touch (fun i => i = p ∨ mb = some i) w1 w') (h3 : ∀ b, mb' = some b → mb = some b ∨ w1.heap.size ≤ b) (hv : ∀ g, blk v = some g → Foot p mb D g ∨ w.heap.size ≤ g) : Aft w base p mb D N' M' w' := by
  refine ⟨mb', _, c', _, h.up (Nat.le_trans (bump_le fm k N) hN), upd_bound (fun s f e => Nat.le_trans (hM s f e) hMM) hf, ht.trans (h2.mono fun i _ h => .inl (h.imp id .inl)), ?_⟩
  intro j hj
  have hm' : IsMap (D1.del (.string k)) := by obtain ⟨es, rfl⟩ := hD1; exact ⟨_, rfl⟩
  rcases hj with e | e | ⟨s, e⟩
  · exact .inl (.inl e)
  · rcases h3 j e with h | h
    · exact .inl (.inr (.inl h))
    · exact .inr (Nat.le_trans ht.2.2.2.1 h)
  · rw [At_put hm'] at e
    by_cases e2 : s = k
    · rw [if_pos e2] at e
      exact hv j e
    · rw [if_neg e2, At_del, if_neg e2] at e
      exact .inl (hf1 j (.inr (.inr ⟨s, e⟩)))
end Go.Proofs.Ytedhbcaakdfcbaa.disk
