/- What the document says of a frame. -/
import Derived.Test.YtdbdeplabipfaaaGreatDoorFraB
namespace Go.Proofs.YtdbdeplabipfaaaGreatDoor.frm
open Go.ChangeShapes Go.WideShapes Go.ChangeAt Go.RowKit
open Go.Proofs.YtdbdeplabipfaaaGreatDoor.codec (Bytes vals vals_append vals_length vals_one OutIs More Made New bytesOf byteAt bytesOf_length bytesOf_lt Fits strOf)
set_option linter.unusedVariables false
set_option maxRecDepth 100000
set_option linter.unusedSimpArgs false

/-- Bytes of the call's own. -/
def Mine (W : World) (v : Value) (M : List Nat) (w : World) : Prop := w.ownsRow W.heap.size 5 1 v M.length (vals M) ∧ Below W.heap.size W w
theorem Mine.below {W w w' : World} {v : Value} {M : List Nat} (h : Mine W v M w) (hb : Below w.heap.size w w') : Mine W v M w' :=
  ⟨h.1.kept (row := none) ⟨hb.os, hb.tape, hb.output, hb.size, fun i hi _ => hb.block i hi⟩ (by cases hv : v.ownBlock <;> simp), h.2.trans (hb.mono h.2.size)⟩
theorem Mine.alloc {W w : World} {v : Value} {M : List Nat} (h : Mine W v M w) (o : Obj) : Mine W v M (w.alloc o) := h.below ((Below.refl _ _).alloc (Nat.le_refl _) _)
theorem Mine.more {W w w' : World} {v v' : Value} {M M' : List Nat} (h : Mine W v M w) (ho : w'.ownsRow W.heap.size 5 1 v' M'.length (vals M')) (hg : w.grownBy w' v.ownBlock) : Mine W v' M' w' :=
  ⟨ho, h.2.trans ⟨hg.os, hg.tape, hg.output, hg.size, fun i hi => hg.block i (Nat.lt_of_lt_of_le hi h.2.size) (fun e => by have := (h.1.lt _ e.symm).1; omega)⟩⟩
theorem Mine.form {W w : World} {v : Value} {M : List Nat} (h : Mine W v M w) (N : Nat) (hN : M.length = N) (h0 : 0 < N) : ∃ g cap, v = .slice (some ⟨g, 0, none⟩) N cap ∧ N ≤ cap ∧ W.heap.size ≤ g := by
  subst hN
  rcases h.1.2 with ⟨_, h1⟩ | ⟨g, cap, cur, e, hb, _, hc, _⟩
  · omega
  · exact ⟨g, cap, e, hc, hb⟩
theorem Mine.bytes {W w : World} {g N cap : Nat} {M : List Nat} (h : Mine W (.slice (some ⟨g, 0, none⟩) N cap) M w) (hN : M.length = N) (hb : ∀ x ∈ M, x < 256) : Bytes w (some ⟨g, 0, none⟩) N M := codec.own_bytes' h.1 hN hb
theorem own_lit (W : World) (l : List Nat) (B n : Nat) (hn : l.length = n) (hl : n ≤ 1000) (hB : B ≤ W.heap.size) : (W.alloc (.cells (vals l).toArray 5)).ownsRow B 5 1 (.slice (some ⟨W.heap.size, 0, none⟩) n n) l.length (vals l) := by
  subst hn
  refine ⟨by simp [vals], .inr ⟨W.heap.size, l.length, _, rfl, hB, heap_alloc_new W _, Nat.le_refl _, by unfold maxLen; omega, by simp [vals], by rw [List.take_of_length_le] <;> simp [vals]⟩⟩
theorem mine_lit (W : World) (l : List Nat) (n : Nat) (hn : l.length = n) (hl : n ≤ 1000) : Mine W (.slice (some ⟨W.heap.size, 0, none⟩) n n) l (W.alloc (.cells (vals l).toArray 5)) :=
  ⟨own_lit W l _ n hn hl (Nat.le_refl _), (Below.refl _ _).alloc (Nat.le_refl _) _⟩

theorem refBytes_at (w : World) (v n : Nat) (hv : v < 18446744073709551616) (h1 : 1 ≤ n) (hn : n ≤ 100) :
    Calls Tryz.prog 30 #[.int .u64 v, .int .i64 n] w fun e w' => ∃ g, e = .returned (.slice (some ⟨g, 0, none⟩) n n) ∧ Bytes w' (some ⟨g, 0, none⟩) n (bytesOf v n) ∧ Below w.heap.size w w' :=
  (codec.refBytes_any w v n hv h1 hn).mono fun _ _ ⟨he, hr, hb⟩ => ⟨_, he, ⟨by simp [bytesOf], bytesOf_lt v n, fun _ => ⟨_, 0, rfl, fun i hi => by
    have := hr.cell (i := i) hi
    rw [Nat.zero_add, this]
    simp [bytesOf, List.getD, hi]⟩⟩, hb⟩
set_option maxHeartbeats 2000000 in
theorem refFrame_any (W : World) (k n c : Nat) (A : Option Addr) (p : List Nat) (h1 : 1 ≤ k) (h3 : k ≤ 3) (hB : Bytes W A n p) (hn : n ≤ 40000) (hA : A = none → c = 0) :
    Calls Tryz.prog 12 #[.int .i64 k, .slice A n c] W fun e w' => ∃ v, e = .returned v ∧ Mine W v (frameL k p) w' := by
  have HB := Lib.hid hB
  have HN := Lib.hid hA
  have HM := Lib.hid (mine_lit W [99, 117, 98, k] 4 rfl (by omega))
  have hsl := fun w g => slice54 w g
  clear hB hA
  go_enter Tryz.func12, Tryz.ntmps12
  go_wp2_with fail
  refine (refBytes_at _ n 4 (by omega) (by omega) (by omega)).mono ?_
  rintro e w1 ⟨g1, rfl, hB1, hb1⟩
  have HM1 := Lib.hid (HM.out.below hb1)
  have HB1 := Lib.hid hB1
  clear hb1 hB1 HM
  go_wp2_with (at_builtin; refine codec.wpList_append_bytes rfl (.tmp 9) (.tmp 13) rfl W.heap.size _ [99, 117, 98, k] rfl HM1.out.1 HM1.out.2.size (some ⟨g1, 0, none⟩) 4 4 (bytesOf n 4) rfl HB1.out (fun e => by cases e) (by simp) ?_; intro v2 w2 ho hg _ _; have hM2 := HM1.out.more ho hg; obtain ⟨g2, cap2, rfl, hc2, -⟩ := hM2.form 8 (by simp [bytesOf]) (by omega); have HM2 := Lib.hid hM2; clear ho hg hM2)
  have HF : Hid ([99, 117, 98, k] ++ bytesOf n 4 = first k p.length) := by
    have := HB.out.1
    show _ = _
    rw [this]
    rfl
  have HB2 := Lib.hid (HM2.out.bytes (by simp [bytesOf]) (by rw [HF.out]; exact first_lt (by omega)))
  have hcl := crcOf_lt (l := first k p.length) (first_lt (by omega))
  have HC := Lib.hid (crc_ref (some ⟨g2, 0, none⟩) 8 cap2 _ w2 HB2.out (by unfold maxLen; omega))
  rw [HF.out] at HC HM2
  have HLF := Lib.hid (first_length k p.length)
  generalize hCe : crcOf (first k p.length) = C at *
  have HCe := Lib.hid hCe
  clear hCe HM1 HB1
  refine HC.out.mono ?_
  rintro e w3 ⟨rfl, rfl⟩
  go_wp2_with fail
  refine (refBytes_at _ C 4 (by omega) (by omega) (by omega)).mono ?_
  rintro e w3 ⟨g3, rfl, hB3, hb3⟩
  have HM3 := Lib.hid (HM2.out.below hb3)
  have HB3 := Lib.hid hB3
  clear hb3 hB3 HM2 HB2 HC
  go_wp2_with (at_builtin; refine codec.wpList_append_bytes rfl (.tmp 15) (.tmp 19) rfl W.heap.size _ (first k p.length) rfl HM3.out.1 HM3.out.2.size (some ⟨g3, 0, none⟩) 4 4 (bytesOf C 4) rfl HB3.out (fun e => by cases e) (by rw [HLF.out]; omega) ?_; intro v4 w4 ho hg _ _; have hM4 := HM3.out.more ho hg; obtain ⟨g4, cap4, rfl, hc4, -⟩ := hM4.form 12 (by simp [bytesOf, HLF.out]) (by omega); have HM4 := Lib.hid hM4; clear ho hg hM4)
  clear HM3 HB3
  refine (dig_ref w4 A n c p (HB.out.below HB.out.lt HM4.out.2) (by omega) HN.out).mono ?_
  rintro e w5 ⟨rfl, hb5⟩
  obtain ⟨d, hd⟩ : ∃ d, d = (vals (dig p)).toArray := ⟨_, rfl⟩
  have HM5 := Lib.hid (HM4.out.below hb5)
  have HA := Lib.hid (all_vals (dig p))
  have HP := Lib.hid (size54 (dig p) (dig_length p))
  have HS := Lib.hid (show (Array.replicate 32 (Value.int .u8 0)).size = (vals (dig p)).toArray.size by simp [vals, dig_length])
  have HR := Lib.hid (heap_alloc_new w5 (.cells (Array.replicate 32 (Value.int .u8 0)) 60))
  rw [← hd] at HA HP HS ⊢
  have HDq := Lib.hid hd
  clear hb5 HM4 hd
  go_wp2_with (first
    | (refine wpList_store_row rfl 60 (.tmp 6) (.tmp 22) rfl w5.heap.size d rfl rfl 60 _ HR.out HP.out HS.out HA.out ?_; rw [World.setRow_alloc_new]; obtain ⟨D, hD⟩ : ∃ D, D = w5.heap.size := ⟨_, rfl⟩; obtain ⟨w6, hw6⟩ : ∃ w6, w6 = w5.alloc (.cells d 60) := ⟨_, rfl⟩; rw [← hw6, ← hD]; have HM6 := Lib.hid (show Mine W (.slice (some ⟨g4, 0, none⟩) 12 cap4) (first k p.length ++ bytesOf C 4) w6 by rw [hw6]; exact HM5.out.alloc _); have HD6 := Lib.hid (show Bytes w6 (some ⟨D, 0, none⟩) 32 (dig p) by rw [hw6, HDq.out]; exact lit_at w5 (dig p) (dig_lt p) _ _ hD (dig_length p)); clear hD hw6 HR HA HP HS HM5 HDq)
    | (at_builtin; refine codec.wpList_append_bytes rfl (.tmp 23) (.tmp 24) rfl W.heap.size _ (first k p.length ++ bytesOf C 4) rfl HM6.out.1 HM6.out.2.size (some ⟨D, 0, none⟩) 32 32 (dig p) rfl HD6.out (fun e => by cases e) (by simp [HLF.out, bytesOf]) ?_; intro v7 w7 ho hg _ _; have HM7 := Lib.hid (HM6.out.more ho hg); clear ho hg)
    | (at_builtin; refine codec.wpList_append_bytes rfl (.tmp 25) (.tmp 26) rfl W.heap.size _ (first k p.length ++ bytesOf C 4 ++ dig p) rfl HM7.out.1 HM7.out.2.size A n c p rfl (HB.out.below HB.out.lt HM7.out.2) HN.out (by simp [HLF.out, bytesOf, dig_length]; omega) ?_; intro v8 w8 ho hg _ _; have HM8 := Lib.hid (HM7.out.more ho hg); clear ho hg))
  go_ret
  refine ⟨v8, rfl, ?_⟩
  have := HM8.out
  rw [← HCe.out] at this
  exact this
end Go.Proofs.YtdbdeplabipfaaaGreatDoor.frm
