/- Append, Harm, Rename: exactly. -/
import Derived.Test.YtedhbcaakdfcbaaBb
namespace Go.Proofs.Ytedhbcaakdfcbaa.disk
open Go.ChangeShapes Go.WideShapes Go.ChangeAt Go.RowKit Go.Maps Go.WideMaps
set_option linter.unusedVariables false
set_option linter.unusedSimpArgs false

def grown (fm : FM) (k : List UInt8) (L : List Nat) : File := ⟨(fileAt fm k).l ++ L, (fileAt fm k).safe, (fileAt fm k).ever⟩
def cRoom (c : Cfg) : Int := wrap64 (c.cap - c.used)
/-- Append. -/
def fAppend (c : Cfg) (fm : FM) (k : List UInt8) (L : List Nat) : Cfg × FM × Int :=
  if c.lost then (c, fm, 6) else if nameB k = false then (c, fm, 1) else if cRoom c < (L.length : Nat) then (c, fm, 4) else
  if goes c then (if L.length / 2 = 0 then (burnt c, fm, 6) else (cPut (burnt c) fm k (grown fm k (L.take (L.length / 2))), upd fm k (grown fm k (L.take (L.length / 2))), 6))
  else (cPut (burnt c) fm k (grown fm k L), upd fm k (grown fm k L), 0)
set_option maxRecDepth 50000 in
set_option maxHeartbeats 4000000 in
theorem grow_exact (w : World) (base p : Nat) (mb : Option Nat) (D : DataW Value) (c : Cfg) (fm : FM) (N : Nat) (s : ByteArray) (hs : s.size ≤ 281474976710656) (B : Option Addr) (m cb : Nat) (L : List Nat) (h : Dsk w base p mb D c fm N)
    (hL : Bytes w B m L) (hnil : B = none → cb = 0) (hN : N < 1000000) (hB : base ≤ w.heap.size) (hbound : (fileAt fm s.data.toList).l.length + m ≤ 1000000000) :
    Calls Try.prog 46 #[.pointer (some ⟨p, 0, none⟩), .string s, .slice B m cb] w fun e w' => e = .returned (.tuple #[]) ∧
      Now w base p mb D (cPut c fm s.data.toList (grown fm s.data.toList L)) (upd fm s.data.toList (grown fm s.data.toList L)) (N + 1) w' := by
  unfold grown
  obtain ⟨A, n, cp, hat, hown, h256, hsf, hn, hcp⟩ := h.whole s.data.toList
  have hlk := (h.look s (by unfold maxLen; omega)).1
  rw [hat] at hlk
  obtain ⟨d0, d1, d2, d3, d4, d5, hf, hlt⟩ := h.facts
  have HD := Lib.hid h
  have HL := Lib.hid hL
  have HNil := Lib.hid hnil
  have HOwn := Lib.hid (hown.alloc (.cells #[.slice A n cp, .int .i64 ((fileAt fm s.data.toList).safe : Nat), .bool (fileAt fm s.data.toList).ever] 64))
  have HAt := Lib.hid hat
  obtain ⟨f, hfe⟩ : ∃ f, f = fileAt fm s.data.toList := ⟨_, rfl⟩
  rw [← hfe] at HAt HOwn hlk hn hsf h256 hbound ⊢
  have HFe := Lib.hid hfe
  have HN := Lib.hid hn
  have H256 := Lib.hid h256
  clear h hL hnil hf d0 d1 d3 d4 d5 hown hat hfe hn h256 hcp
  go_enter Try.func46, Try.ntmps46
  go_wp2_with (first | (at_builtin; refine wpList_append_file rfl (.tmp 14) (.tmp 15) rfl base (.slice A n cp) f.l rfl HOwn.out (by simp; omega) B m cb L rfl (HL.out.alloc _) HNil.out hbound ?_; intro v' w2 ho2 hg2 hat2 hk2; obtain ⟨q1, q2, q3⟩ := grow_step HD.out HFe.out HAt.out H256.out HL.out.2.1 hsf ho2 hg2 hat2 hk2; obtain ⟨A', n', cp', rfl, hn'⟩ := own_form ho2; obtain ⟨y0, y1, y2⟩ := box_cells q2; have hyf : w2.frozen? ⟨w.heap.size, 0, none⟩ = false := (by simp [World.frozen?, q2]); have HQ := Lib.hid (q3 (.slice A' n' cp')); have HNn := Lib.hid hn'; have HAb := Lib.hid hat2; clear ho2 hg2 hat2 hk2 q1 q2 q3 hn') | (go_at_call 42; refine (put_disk _ base p mb D c fm N s hs A' n' cp' f.safe f.ever ⟨f.l ++ L, f.safe, f.ever⟩ HQ.out.1 HQ.out.2.1 hN (by have := HQ.out.2.2.2; omega)).mono ?_; rintro e w4 ⟨rfl, mb', hd4, ht4, hb4⟩; have HD4 := Lib.hid hd4; have HT4 := Lib.hid ht4; have HB4 := Lib.hid hb4; clear hd4 ht4 hb4))
  go_end0
  have HC : Hid (cPut c fm s.data.toList ⟨f.l ++ L, f.safe, f.ever⟩ = { c with used := wrap64 (wrap64 (c.used - lenAt fm s.data.toList) + n') }) := by
    show _ = _
    unfold cPut
    rw [HNn.out]
  rw [HC.out]
  refine ⟨rfl, mb', _, HD4.out.up (bump_le _ _ _), HQ.out.2.2.1.trans (HT4.out.mono fun i _ h => .inl (h.imp id .inl)), foot_put HD.out.isMap (fun b e => (HB4.out b e).imp id (fun h => by have := HQ.out.2.2.2; omega)) (fun g e => ?_)⟩
  have e' : (Value.slice A' n' cp').ownBlock = some g := e
  rcases HAb.out with h | h
  · exact .inl (by rw [HAt.out]; show (Value.slice A n cp).ownBlock = some g; rw [← h]; exact e')
  · rw [h] at e'
    exact .inr (by have := Option.some.inj e'; simp at this; omega)
set_option maxRecDepth 50000 in
set_option maxHeartbeats 4000000 in
theorem append_exact (w : World) (base p : Nat) (mb : Option Nat) (D : DataW Value) (c : Cfg) (fm : FM) (N M : Nat) (s : ByteArray) (hs : s.size ≤ 281474976710656) (B : Option Addr) (m cb : Nat) (L : List Nat) (h : Dsk w base p mb D c fm N) (hM : ∀ s f, fm s = some f → f.l.length ≤ M)
    (hL : Bytes w B m L) (hold : ∀ ad, B = some ad → 0 < m → ad.block < base) (hnil : B = none → cb = 0) (hmc : m ≤ cb) (hN : N < 1000000) (hB : base ≤ w.heap.size) (hbound : M + m ≤ 1000000) :
    Calls Try.prog 21 #[.pointer (some ⟨p, 0, none⟩), .string s, .slice B m cb] w (Does w base p mb D (N + 1) (fAppend c fm s.data.toList L)) := by
  have HD := Lib.hid h
  have H44 := Lib.hid (power_any h)
  have HR := Lib.hid (room_any h)
  have H45 := Lib.hid (fun w' => isName_any w' s hs)
  have hll := hL.1
  have H46 : Hid (∀ (w2 : World) (c' : Cfg), Dsk w2 base p mb D c' fm N → Touch (fun j => j = p) w w2 → ∀ k, k ≤ m → Calls Try.prog 46 #[.pointer (some ⟨p, 0, none⟩), .string s, .slice B k cb] w2 fun e w' => e = .returned (.tuple #[]) ∧ Now w base p mb D (cPut c' fm s.data.toList (grown fm s.data.toList (L.take k))) (upd fm s.data.toList (grown fm s.data.toList (L.take k))) (N + 1) w') := by
    intro w2 c' h2 ht k hk
    have hb2 : Bytes w2 B m L := hL.touch (fun ad e h0 e2 => by have := hold ad e h0; have := h.pb; omega) ht
    have hfa := fileAt_bound (k := s.data.toList) hM
    refine (grow_exact w2 base p mb D c' fm N s hs B k cb (L.take k) h2 (hb2.half hk) hnil hN (Nat.le_trans hB ht.2.2.2.1) (by omega)).mono ?_
    rintro e w' ⟨rfl, mb', D', q1, q2, q3⟩
    exact ⟨rfl, mb', D', q1, (ht.mono fun i _ e => .inl e).trans (q2.mono fun i _ h => .inl h), fun j hj => (q3 j hj).imp id (fun h => Nat.le_trans ht.2.2.2.1 h)⟩
  have HLt := Lib.hid (show L.take m = L from List.take_of_length_le (by omega))
  clear h hM hL hnil hold
  cases hl : c.lost with
  | true =>
    have he : fAppend c fm s.data.toList L = (c, fm, 6) := by simp [fAppend, hl]
    rw [he]
    rw [hl] at H44
    go_enter Try.func21, Try.ntmps21
    go_wp2_with (go_at_call 44; refine H44.out.mono ?_; rintro e w1 ⟨rfl, rfl⟩)
    go_ret
    exact ⟨rfl, now_p HD.out (Touch.refl _ _)⟩
  | false =>
    rw [hl] at H44
    cases hnb : nameB s.data.toList with
    | false =>
      have he : fAppend c fm s.data.toList L = (c, fm, 1) := by simp [fAppend, hl, hnb]
      rw [he]
      go_enter Try.func21, Try.ntmps21
      go_wp2_with (first | (go_at_call 44; refine H44.out.mono ?_; rintro e w1 ⟨rfl, rfl⟩) | (go_at_call 45; refine (H45.out _).mono ?_; rw [hnb]; rintro e w1 ⟨rfl, rfl⟩))
      go_ret
      exact ⟨rfl, now_p HD.out (Touch.refl _ _)⟩
    | true =>
      by_cases hfull : cRoom c < (m : Nat)
      · have he : fAppend c fm s.data.toList L = (c, fm, 4) := by simp [fAppend, hl, hnb, hll, hfull]
        rw [he]
        unfold cRoom at hfull
        go_enter Try.func21, Try.ntmps21
        go_wp2_with (first | (go_at_call 44; refine H44.out.mono ?_; rintro e w1 ⟨rfl, rfl⟩) | (go_at_call 45; refine (H45.out _).mono ?_; rw [hnb]; rintro e w1 ⟨rfl, rfl⟩) | (go_at_call 15; refine HR.out.mono ?_; rintro e w1 ⟨rfl, q, rfl⟩))
        go_ret
        exact ⟨rfl, now_p (HD.out.drewN q) ((Touch.refl _ w).drewN q)⟩
      · cases hg : goes c with
        | true =>
          by_cases hz : m / 2 = 0
          · have he : fAppend c fm s.data.toList L = (burnt c, fm, 6) := by simp [fAppend, hl, hnb, hll, hfull, hg, hz]
            rw [he]
            unfold cRoom at hfull
            clear he
            go_enter Try.func21, Try.ntmps21
            go_wp2_with (first | (go_at_call 44; refine H44.out.mono ?_; rintro e w1 ⟨rfl, rfl⟩) | (go_at_call 45; refine (H45.out _).mono ?_; rw [hnb]; rintro e w1 ⟨rfl, rfl⟩) | (go_at_call 15; refine HR.out.mono ?_; rintro e w1 ⟨rfl, q, rfl⟩) | (go_at_call 41; refine (powerGoes_any (HD.out.drewN q)).mono ?_; rw [hg]; rintro e w2 ⟨rfl, hd2, ht2⟩; have HD2 := Lib.hid hd2; have HT2 : Hid (Touch (fun j => j = p) w w2) := ht2; clear hd2 ht2))
            go_ret
            exact ⟨rfl, now_p HD2.out HT2.out⟩
          · have he : fAppend c fm s.data.toList L = (cPut (burnt c) fm s.data.toList (grown fm s.data.toList (L.take (m / 2))), upd fm s.data.toList (grown fm s.data.toList (L.take (m / 2))), 6) := by simp [fAppend, hl, hnb, hll, hfull, hg, hz]
            rw [he]
            unfold cRoom at hfull
            clear he
            go_enter Try.func21, Try.ntmps21
            go_wp2_with (first | (go_at_call 44; refine H44.out.mono ?_; rintro e w1 ⟨rfl, rfl⟩) | (go_at_call 45; refine (H45.out _).mono ?_; rw [hnb]; rintro e w1 ⟨rfl, rfl⟩) | (go_at_call 15; refine HR.out.mono ?_; rintro e w1 ⟨rfl, q, rfl⟩) | (go_at_call 41; refine (powerGoes_any (HD.out.drewN q)).mono ?_; rw [hg]; rintro e w2 ⟨rfl, hd2, ht2⟩; have HD2 := Lib.hid hd2; have HT2 : Hid (Touch (fun j => j = p) w w2) := ht2; clear hd2 ht2) | (go_at_call 46; refine (H46.out _ _ HD2.out HT2.out _ (by omega)).mono ?_; rintro e w4 ⟨rfl, haft⟩; have HA := Lib.hid haft; clear haft))
            go_ret
            exact ⟨rfl, HA.out⟩
        | false =>
          have he : fAppend c fm s.data.toList L = (cPut (burnt c) fm s.data.toList (grown fm s.data.toList L), upd fm s.data.toList (grown fm s.data.toList L), 0) := by simp [fAppend, hl, hnb, hll, hfull, hg]
          rw [he]
          unfold cRoom at hfull
          clear he
          go_enter Try.func21, Try.ntmps21
          go_wp2_with (first | (go_at_call 44; refine H44.out.mono ?_; rintro e w1 ⟨rfl, rfl⟩) | (go_at_call 45; refine (H45.out _).mono ?_; rw [hnb]; rintro e w1 ⟨rfl, rfl⟩) | (go_at_call 15; refine HR.out.mono ?_; rintro e w1 ⟨rfl, q, rfl⟩) | (go_at_call 41; refine (powerGoes_any (HD.out.drewN q)).mono ?_; rw [hg]; rintro e w2 ⟨rfl, hd2, ht2⟩; have HD2 := Lib.hid hd2; have HT2 : Hid (Touch (fun j => j = p) w w2) := ht2; clear hd2 ht2) | (go_at_call 46; refine (H46.out _ _ HD2.out HT2.out _ (by omega)).mono ?_; rintro e w4 ⟨rfl, haft⟩; rw [HLt.out] at haft; have HA := Lib.hid haft; clear haft))
          go_ret
          exact ⟨rfl, HA.out⟩
end Go.Proofs.Ytedhbcaakdfcbaa.disk
