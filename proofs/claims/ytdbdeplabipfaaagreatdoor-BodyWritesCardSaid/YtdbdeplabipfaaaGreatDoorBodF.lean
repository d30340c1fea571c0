/- A note's bytes, as the document says. -/
import Derived.Test.YtdbdeplabipfaaaGreatDoorBodC
import Derived.Deep.RegionWith
import Derived.Deep.RegionHeld3
namespace Go.Proofs.YtdbdeplabipfaaaGreatDoor.bod
open Go.ChangeShapes Go.WideShapes Go.ChangeAt Go.RowKit
open Go.Proofs.YtdbdeplabipfaaaGreatDoor.codec (Bytes New vals vals_append vals_length vals_one bytesOf bytesOf_lt bytesOf_length byteAt strOf)
set_option linter.unusedVariables false
set_option linter.unusedSimpArgs false
set_option maxRecDepth 100000

/-- Bytes of the call's own. -/
def Mine (W : World) (v : Value) (M : List Nat) (w : World) : Prop := w.ownsRow W.heap.size 5 1 v M.length (vals M) ∧ Below W.heap.size W w
theorem Mine.below {W w w' : World} {v : Value} {M : List Nat} (h : Mine W v M w) (hb : Below w.heap.size w w') : Mine W v M w' :=
  ⟨h.1.kept (row := none) ⟨hb.os, hb.tape, hb.output, hb.size, fun i hi _ => hb.block i hi⟩ (by cases hv : v.ownBlock <;> simp), h.2.trans (hb.mono h.2.size)⟩
theorem Mine.more {W w w' : World} {v v' : Value} {M M' : List Nat} (h : Mine W v M w) (ho : w'.ownsRow W.heap.size 5 1 v' M'.length (vals M')) (hg : w.grownBy w' v.ownBlock) : Mine W v' M' w' :=
  ⟨ho, h.2.trans ⟨hg.os, hg.tape, hg.output, hg.size, fun i hi => hg.block i (Nat.lt_of_lt_of_le hi h.2.size) (fun e => by have := (h.1.lt _ e.symm).1; omega)⟩⟩
theorem Mine.form {W w : World} {v : Value} {M : List Nat} (h : Mine W v M w) (N : Nat) (hN : M.length = N) (h0 : 0 < N) : ∃ g cap, v = .slice (some ⟨g, 0, none⟩) N cap ∧ N ≤ cap ∧ W.heap.size ≤ g := by
  subst hN
  rcases h.1.2 with ⟨_, h1⟩ | ⟨g, cap, cur, e, hb, _, hc, _⟩
  · omega
  · exact ⟨g, cap, e, hc, hb⟩
theorem Mine.bytes {W w : World} {g N cap : Nat} {M : List Nat} (h : Mine W (.slice (some ⟨g, 0, none⟩) N cap) M w) (hN : M.length = N) (hb : ∀ x ∈ M, x < 256) : Bytes w (some ⟨g, 0, none⟩) N M := codec.own_bytes' h.1 hN hb
theorem Mine.drew {W w : World} {v : Value} {M : List Nat} (h : Mine W v M w) : Mine W v M w.drew := h.below (codec.below_draws (Below.refl _ _) 1)
theorem own_lit (W : World) (l : List Nat) (B n : Nat) (hn : l.length = n) (hl : n ≤ 1000) (hB : B ≤ W.heap.size) : (W.alloc (.cells (vals l).toArray 5)).ownsRow B 5 1 (.slice (some ⟨W.heap.size, 0, none⟩) n n) l.length (vals l) := by
  subst hn
  refine ⟨by simp [vals], .inr ⟨W.heap.size, l.length, _, rfl, hB, heap_alloc_new W _, Nat.le_refl _, by unfold maxLen; omega, by simp [vals], by rw [List.take_of_length_le] <;> simp [vals]⟩⟩
theorem lit_bytes (w : World) (f : Nat) (hf : f < 256) (t : TypeId) (m : Nat × Nat) : Bytes (w.alloc (.cells #[.int .u8 (f : Nat)] t m)) (some ⟨w.heap.size, 0, none⟩) 1 [f] := by
  refine ⟨rfl, fun b hb => by simp at hb; omega, fun _ => ⟨_, 0, rfl, fun i hi => ?_⟩⟩
  obtain rfl : i = 0 := by omega
  exact cell_at (heap_alloc_new w _) 0 _ rfl
/-- The first number is a row of its own. -/
theorem refBytes_mine (w : World) (v n : Nat) (hv : v < 18446744073709551616) (h1 : 1 ≤ n) (hn : n ≤ 100) :
    Calls Tryz.prog 30 #[.int .u64 v, .int .i64 n] w fun e w' => ∃ g, e = .returned (.slice (some ⟨g, 0, none⟩) n n) ∧ Mine w (.slice (some ⟨g, 0, none⟩) n n) (bytesOf v n) w' :=
  (codec.refBytes_any w v n hv h1 hn).mono fun _ _ ⟨he, hr, hb⟩ => ⟨_, he, by
    have := codec.row_owns (v := v) w.heap.size (Nat.le_refl _) (by unfold maxLen; omega) hr
    rw [← bytesOf_length v n] at this
    exact ⟨by simpa [bytesOf_length] using this, hb⟩⟩
theorem refBytes_at (w : World) (v n : Nat) (hv : v < 18446744073709551616) (h1 : 1 ≤ n) (hn : n ≤ 100) :
    Calls Tryz.prog 30 #[.int .u64 v, .int .i64 n] w fun e w' => ∃ g, e = .returned (.slice (some ⟨g, 0, none⟩) n n) ∧ Bytes w' (some ⟨g, 0, none⟩) n (bytesOf v n) ∧ Below w.heap.size w w' :=
  (refBytes_mine w v n hv h1 hn).mono fun _ _ ⟨g, he, hm⟩ => ⟨g, he, hm.bytes (bytesOf_length v n) (bytesOf_lt v n), hm.2⟩
theorem refText_at (w : World) (s : ByteArray) (hs : s.size ≤ 10000000) :
    Calls Tryz.prog 31 #[.string s] w fun e w' => ∃ g c, e = .returned (.slice (some ⟨g, 0, none⟩) (2 + s.size) c) ∧ Bytes w' (some ⟨g, 0, none⟩) (2 + s.size) (txt s) ∧ Below w.heap.size w w' := by
  have h := codec.refText_any w (nums s) (nums_lt s) (by rw [nums_length]; exact hs)
  rw [strOf_nums, nums_length] at h
  refine h.mono ?_
  rintro e w' ⟨v, rfl, g, c, rfl, hg, hb, hB⟩
  have hl : (bytesOf s.size 2 ++ nums s).length = 2 + s.size := txt_length s
  rw [hl] at hB ⊢
  exact ⟨g, c, rfl, hB, hb⟩
theorem bytes1 (W : World) (e u : Nat) (s : ByteArray) (d f : Int) (A : Option Addr) (n c : Nat) (o : List Nat) (hs : s.size ≤ 60 ∧ n ≤ 20000) (he : e < 4294967296) (hB : Bytes W A n o) (hA : A = none → c = 0) :
    Calls Tryz.prog 11 #[.agg #[.int .i64 1, .int .u32 e, .string s, .int .u32 u, .int .i64 d, .int .i64 f, .slice A n c]] W fun x w' => ∃ v, x = .returned v ∧ Mine W v (bytesOf e 4 ++ txt s ++ o) w' := by
  obtain ⟨cs, hcs⟩ : ∃ cs : Array Value, cs = #[.int .i64 1, .int .u32 e, .string s, .int .u32 u, .int .i64 d, .int .i64 f, .slice A n c] := ⟨_, rfl⟩
  obtain ⟨W1, hW1⟩ : ∃ W1, W1 = W.alloc (.cells cs 27) := ⟨_, rfl⟩
  have HCS := Lib.hid hcs
  have HBW := Lib.hid (show Below W.heap.size W W1 by rw [hW1]; exact (Below.refl _ _).alloc (Nat.le_refl _) _)
  have HBX := Lib.hid (fun (w1 : World) (h : Below W1.heap.size W1 w1) => (boxed (w := W) (o := .cells cs 27) (w1 := w1) (by rw [← hW1]; exact h)).1)
  have HW1 := Lib.hid hW1
  have HBy := Lib.hid (And.intro hB hA)
  have HS := Lib.hid hs
  clear hcs hW1 hB hA hs
  go_enter Tryz.func11, Tryz.ntmps11
  go_wp2_with fail
  rw [← HCS.out, ← HW1.out]
  refine (refBytes_mine W1 e 4 (by omega) (by omega) (by omega)).mono ?_
  rintro x w1 ⟨g1, rfl, hM1⟩
  have HM1 := Lib.hid hM1
  have b0 := cell_at (HBX.out _ hM1.2) 0 _ (by rw [HCS.out]; rfl)
  have b2 := cell_at (HBX.out _ hM1.2) 2 _ (by rw [HCS.out]; rfl)
  clear hM1
  go_wp2_with fail
  refine (refText_at w1 s (by have := HS.out; omega)).mono ?_
  rintro x w2 ⟨g2, c2, rfl, hB2, hb2⟩
  have hM2 := HM1.out.below hb2
  have HM2 := Lib.hid hM2
  have HB2 := Lib.hid hB2
  clear HM1 b0 b2 hM2 hB2 hb2
  go_wp2_with (first
    | (at_builtin; refine codec.wpList_append_bytes rfl (.tmp 37) (.tmp 40) rfl W1.heap.size _ (bytesOf e 4) rfl HM2.out.1 HM2.out.2.size (some ⟨g2, 0, none⟩) (2 + s.size) c2 (txt s) rfl HB2.out (fun e => by cases e) (by simp [bytesOf_length]; have := HS.out; omega) ?_; intro v3 w3 ho hg _ _; have hM3 := HM2.out.more ho hg; have HM3 := Lib.hid hM3; have b6 := cell_at (HBX.out _ hM3.2) 6 _ (by rw [HCS.out]; rfl); clear ho hg hM3 HM2)
    | (at_builtin; refine codec.wpList_append_bytes rfl (.tmp 42) (.tmp 45) rfl W1.heap.size _ _ rfl HM3.out.1 HM3.out.2.size A n c o rfl (HBy.out.1.below HBy.out.1.lt (HBW.out.trans (HM3.out.2.mono HBW.out.size))) HBy.out.2 (by have := HS.out; simp [bytesOf_length, txt_length]; omega) ?_; intro v4 w4 ho hg _ _; have HM4 := Lib.hid (HM3.out.more ho hg); clear ho hg))
  go_ret
  refine ⟨v4, rfl, ?_⟩
  have := HM4.out
  exact ⟨by simpa using (show w4.ownsRow W.heap.size 5 1 v4 _ _ from ⟨this.1.1, this.1.2.imp_right fun ⟨g, cap, cur, h1, h2, h3⟩ => ⟨g, cap, cur, h1, Nat.le_trans HBW.out.size h2, h3⟩⟩), HBW.out.trans (this.2.mono HBW.out.size)⟩
theorem bytes3 (W : World) (e u : Nat) (s : ByteArray) (d f : Int) (A : Option Addr) (n c : Nat) (o : List Nat) (hs : s.size ≤ 60 ∧ n ≤ 20000) (he : e < 4294967296) (hu : u < 4294967296) (hB : Bytes W A n o) (hA : A = none → c = 0) :
    Calls Tryz.prog 11 #[.agg #[.int .i64 3, .int .u32 e, .string s, .int .u32 u, .int .i64 d, .int .i64 f, .slice A n c]] W fun x w' => ∃ v, x = .returned v ∧ Mine W v (bytesOf e 4 ++ bytesOf u 4 ++ o) w' := by
  obtain ⟨cs, hcs⟩ : ∃ cs : Array Value, cs = #[.int .i64 3, .int .u32 e, .string s, .int .u32 u, .int .i64 d, .int .i64 f, .slice A n c] := ⟨_, rfl⟩
  obtain ⟨W1, hW1⟩ : ∃ W1, W1 = W.alloc (.cells cs 27) := ⟨_, rfl⟩
  have HCS := Lib.hid hcs
  have HBW := Lib.hid (show Below W.heap.size W W1 by rw [hW1]; exact (Below.refl _ _).alloc (Nat.le_refl _) _)
  have HBX := Lib.hid (fun (w1 : World) (h : Below W1.heap.size W1 w1) => (boxed (w := W) (o := .cells cs 27) (w1 := w1) (by rw [← hW1]; exact h)).1)
  have HW1 := Lib.hid hW1
  have HBy := Lib.hid (And.intro hB hA)
  have HS := Lib.hid hs
  clear hcs hW1 hB hA hs
  go_enter Tryz.func11, Tryz.ntmps11
  go_wp2_with fail
  rw [← HCS.out, ← HW1.out]
  refine (refBytes_mine W1 e 4 (by omega) (by omega) (by omega)).mono ?_
  rintro x w1 ⟨g1, rfl, hM1⟩
  have HM1 := Lib.hid hM1
  have b0 := cell_at (HBX.out _ hM1.2) 0 _ (by rw [HCS.out]; rfl)
  have b3 := cell_at (HBX.out _ hM1.2) 3 _ (by rw [HCS.out]; rfl)
  clear hM1
  go_wp2_with fail
  refine (refBytes_at w1 u 4 (by omega) (by omega) (by omega)).mono ?_
  rintro x w2 ⟨g2, rfl, hB2, hb2⟩
  have hM2 := HM1.out.below hb2
  have HM2 := Lib.hid hM2
  have HB2 := Lib.hid hB2
  clear HM1 b0 b3 hM2 hB2 hb2
  go_wp2_with (first
    | (at_builtin; refine codec.wpList_append_bytes rfl (.tmp 11) (.tmp 16) rfl W1.heap.size _ (bytesOf e 4) rfl HM2.out.1 HM2.out.2.size (some ⟨g2, 0, none⟩) 4 4 (bytesOf u 4) rfl HB2.out (fun e => by cases e) (by simp [bytesOf_length]) ?_; intro v3 w3 ho hg _ _; have hM3 := HM2.out.more ho hg; have HM3 := Lib.hid hM3; have b0 := cell_at (HBX.out _ hM3.2) 0 _ (by rw [HCS.out]; rfl); have b6 := cell_at (HBX.out _ hM3.2) 6 _ (by rw [HCS.out]; rfl); clear ho hg hM3 HM2)
    | (at_builtin; refine codec.wpList_append_bytes rfl (.tmp 42) (.tmp 45) rfl W1.heap.size _ _ rfl HM3.out.1 HM3.out.2.size A n c o rfl (HBy.out.1.below HBy.out.1.lt (HBW.out.trans (HM3.out.2.mono HBW.out.size))) HBy.out.2 (by have := HS.out; simp [bytesOf_length, txt_length]; omega) ?_; intro v4 w4 ho hg _ _; have HM4 := Lib.hid (HM3.out.more ho hg); clear ho hg))
  go_ret
  refine ⟨v4, rfl, ?_⟩
  have := HM4.out
  exact ⟨by simpa using (show w4.ownsRow W.heap.size 5 1 v4 _ _ from ⟨this.1.1, this.1.2.imp_right fun ⟨g, cap, cur, h1, h2, h3⟩ => ⟨g, cap, cur, h1, Nat.le_trans HBW.out.size h2, h3⟩⟩), HBW.out.trans (this.2.mono HBW.out.size)⟩
set_option maxHeartbeats 400000 in
theorem bytes2 (W : World) (e u : Nat) (s : ByteArray) (d f : Nat) (A : Option Addr) (n c : Nat) (o : List Nat) (hs : s.size ≤ 60 ∧ n ≤ 20000) (he : e < 4294967296) (hu : u < 4294967296) (hd : d < 281474976710656) (hf : f < 256) (hB : Bytes W A n o) (hA : A = none → c = 0) :
    Calls Tryz.prog 11 #[.agg #[.int .i64 2, .int .u32 e, .string s, .int .u32 u, .int .i64 d, .int .i64 f, .slice A n c]] W fun x w' => ∃ v, x = .returned v ∧ Mine W v (bytesOf e 4 ++ bytesOf u 4 ++ bytesOf d 6 ++ [f] ++ txt s ++ o) w' := by
  obtain ⟨cs, hcs⟩ : ∃ cs : Array Value, cs = #[.int .i64 2, .int .u32 e, .string s, .int .u32 u, .int .i64 d, .int .i64 f, .slice A n c] := ⟨_, rfl⟩
  obtain ⟨W1, hW1⟩ : ∃ W1, W1 = W.alloc (.cells cs 27) := ⟨_, rfl⟩
  have HCS := Lib.hid hcs
  have HBW := Lib.hid (show Below W.heap.size W W1 by rw [hW1]; exact (Below.refl _ _).alloc (Nat.le_refl _) _)
  have HBX := Lib.hid (fun (w1 : World) (h : Below W1.heap.size W1 w1) => (boxed (w := W) (o := .cells cs 27) (w1 := w1) (by rw [← hW1]; exact h)).1)
  have HW1 := Lib.hid hW1
  have HBy := Lib.hid (And.intro hB hA)
  have HS := Lib.hid hs
  clear hcs hW1 hB hA hs
  go_enter Tryz.func11, Tryz.ntmps11
  go_wp2_with fail
  rw [← HCS.out, ← HW1.out]
  refine (refBytes_mine W1 e 4 (by omega) (by omega) (by omega)).mono ?_
  rintro x w1 ⟨g1, rfl, hM1⟩
  have HM1 := Lib.hid hM1
  have b0 := cell_at (HBX.out _ hM1.2) 0 _ (by rw [HCS.out]; rfl)
  have b3 := cell_at (HBX.out _ hM1.2) 3 _ (by rw [HCS.out]; rfl)
  clear hM1
  go_wp2_with fail
  refine (refBytes_at w1 u 4 (by omega) (by omega) (by omega)).mono ?_
  rintro x w2 ⟨g2, rfl, hB2, hb2⟩
  have hM2 := HM1.out.below hb2
  have HM2 := Lib.hid hM2
  have HB2 := Lib.hid hB2
  clear HM1 b0 b3 hM2 hB2 hb2
  go_wp2_with (at_builtin; refine codec.wpList_append_bytes rfl (.tmp 11) (.tmp 16) rfl W1.heap.size _ (bytesOf e 4) rfl HM2.out.1 HM2.out.2.size (some ⟨g2, 0, none⟩) 4 4 (bytesOf u 4) rfl HB2.out (fun e => by cases e) (by simp [bytesOf_length]) ?_; intro v3 w3 ho hg _ _; have hM3 := HM2.out.more ho hg; have HM3 := Lib.hid hM3; have b0 := cell_at (HBX.out _ hM3.2) 0 _ (by rw [HCS.out]; rfl); clear ho hg hM3 HM2)
  have HH := Lib.hid (HBX.out _ HM3.out.2)
  have HLE := Lib.hid (show W1.heap.size ≤ w3.heap.size from HM3.out.2.size)
  have HBB := Lib.hid (show W.heap.size < W1.heap.size by rw [HW1.out]; simp)
  have HMd := Lib.hid HM3.out.drew
  have HWd := Lib.hid (show IntKind.u64.wrap (d : Nat) = (d : Int) from IntWalk.u64_in (d : Nat) (by omega))
  have HWf := Lib.hid (show IntKind.u8.wrap (f : Nat) = (f : Int) from IntWalk.u8_in (f : Nat) (by omega))
  clear b0 HB2
  refine wp_region_noPanic ?_
  refine wp_region_held_drew (S := fun w' => w'.heap[W.heap.size]? = some (.cells cs 27 (0, 0))) (by kernel_rfl) HH.out (fun hHeld => ?_)
  generalize w3.drew = w4 at hHeld HMd ⊢
  refine wpAnyH_take (i := 0) (v := ?_) rfl (by kernel_rfl) (by kernel_rfl) (by kernel_rfl) (fun _ _ _ h => h) (Or.inl ⟨by kernel_rfl, ?_⟩) hHeld ?_
  rotate_left
  · (intro w' hw'; go_simp; first | done | with_reducible rfl)
  refine wpAnyH_take (i := 1) (v := ?_) rfl (by kernel_rfl) (by kernel_rfl) (by kernel_rfl) (fun _ _ _ h => h) (Or.inl ⟨by kernel_rfl, ?_⟩) hHeld ?_
  rotate_left
  · (intro w' hw'; go_simp; first | done | with_reducible rfl)
  refine wpAnyH_take (i := 2) (v := ?_) rfl (by kernel_rfl) (by kernel_rfl) (by kernel_rfl) (fun _ _ _ h => h) (Or.inl ⟨by kernel_rfl, ?_⟩) hHeld ?_
  rotate_left
  · (intro w' hw'; go_simp; first | done | with_reducible rfl)
  refine wpAnyH_take (i := 3) (v := ?_) rfl (by kernel_rfl) (by kernel_rfl) (by kernel_rfl) (fun _ _ _ h => h) (Or.inl ⟨by kernel_rfl, ?_⟩) hHeld ?_
  rotate_left
  · (intro w' hw'; have c4 := cell_at hw' 4 _ (by rw [HCS.out]; rfl); go_simp; first | done | with_reducible rfl)
  refine wpAnyH_take (i := 4) (v := ?_) rfl (by kernel_rfl) (by kernel_rfl) (by kernel_rfl) (fun _ _ _ h => h) (Or.inl ⟨by kernel_rfl, ?_⟩) hHeld ?_
  rotate_left
  · (intro w' hw'; go_simp; first | done | with_reducible rfl)
  refine wpAnyH_take (i := 7) (v := ?_) rfl (by kernel_rfl) (by kernel_rfl) (by kernel_rfl) (fun _ _ _ h => h) (Or.inl ⟨by kernel_rfl, ?_⟩) hHeld ?_
  rotate_left
  · (intro w' hw'; go_simp; first | done | with_reducible rfl)
  refine wpAnyH_take (i := 8) (v := ?_) rfl (by kernel_rfl) (by kernel_rfl) (by kernel_rfl) (fun _ _ _ h => h) (Or.inl ⟨by kernel_rfl, ?_⟩) hHeld ?_
  rotate_left
  · (intro w' hw'; go_simp; first | done | with_reducible rfl)
  refine wpAnyH_take (i := 9) (v := ?_) rfl (by kernel_rfl) (by kernel_rfl) (by kernel_rfl) (fun _ _ _ h => h) (Or.inl ⟨by kernel_rfl, ?_⟩) hHeld ?_
  rotate_left
  · (intro w' hw'; have c5 := cell_at hw' 5 _ (by rw [HCS.out]; rfl); go_simp; first | done | with_reducible rfl)
  refine wpAnyH_take (i := 10) (v := ?_) rfl (by kernel_rfl) (by kernel_rfl) (by kernel_rfl) (fun _ _ _ h => h) (Or.inl ⟨by kernel_rfl, ?_⟩) hHeld ?_
  rotate_left
  · (intro w' hw'; go_simp; first | done | with_reducible rfl)
  rw [HWd.out, HWf.out]
  refine wpAnyH_ready (rs := [5, 11]) (by kernel_rfl) (by simp) ?_
  refine AllReadyH.cons rfl (fun K hK => ?_) (AllReadyH.cons rfl (fun K hK => ?_) (AllReadyH.nil))
  · go_simp
    refine (refBytes_at _ d 6 (by omega) (by omega) (by omega)).mono ?_
    rintro x w11 ⟨g1, rfl, hB1, hb1⟩
    have HM1 := Lib.hid (HMd.out.below hb1)
    have HD1 := Lib.hid hB1
    have hH1 := (hb1.block _ (by have := HM1.out.2.size; have := HMd.out.2.size; have := HLE.out; have := HBB.out; omega)).trans hHeld
    clear hb1 hB1
    go_wp2_with fail
    refine hK.out _ _ hH1 (fun _ => ?_)
    clear hK K
    refine wpAnyH_ready (rs := [6, 11]) (by kernel_rfl) (by simp) ?_
    refine AllReadyH.cons rfl (fun K hK => ?_) (AllReadyH.cons rfl (fun K hK => ?_) (AllReadyH.nil))
    · refine codec.step_append_bytes rfl (.tmp 21) (.tmp 26) rfl W1.heap.size _ (bytesOf e 4 ++ bytesOf u 4) (by simp [Act.eval, Act.put]) HM1.out.1 HM1.out.2.size (some ⟨g1, 0, none⟩) 6 6 (bytesOf d 6) (by simp [Act.eval, Act.put]) HD1.out (fun e => by cases e) (by simp [bytesOf_length]) ?_
      intro v2 w12 ho hg _ _
      have hM2 := HM1.out.more ho hg
      have HM2 := Lib.hid hM2
      have hH2 := HBX.out _ hM2.2
      clear ho hg hM2
      refine hK.out _ _ hH2 (fun _ => ?_)
      clear hK K
      refine wpAnyH_ready (rs := [11]) (by kernel_rfl) (by simp) ?_
      refine AllReadyH.cons rfl (fun K hK => ?_) (AllReadyH.nil)
      go_simp
      have HAP := Lib.hid (fun g (e : (v2).ownBlock = some g) => (Nat.ne_of_lt (HM2.out.1.lt g e).2 : g ≠ w12.heap.size))
      have hbl : Below w12.heap.size w12 (w12.alloc (.cells #[.int .u8 (f : Nat)] 5)) := (Below.refl _ _).alloc (Nat.le_refl _) _
      have HM3 := Lib.hid (HM2.out.below hbl)
      have HL3 := Lib.hid (lit_bytes w12 f (by omega) 5 (0, 0))
      have hH3 := (hbl.block _ (by have := HM2.out.2.size; have := HBB.out; omega)).trans hH2
      refine hK.out _ _ hH3 (fun _ => ?_)
      clear hK K hbl
      generalize w12.alloc (.cells #[.int .u8 (f : Nat)] 5) = w13 at *
      generalize w12.heap.size = l3 at *
      refine wpAnyH_ready (rs := [12]) (by kernel_rfl) (by simp) ?_
      refine AllReadyH.cons rfl (fun K hK => ?_) (AllReadyH.nil)
      refine codec.step_append_bytes rfl (.tmp 27) (.tmp 32) rfl W1.heap.size _ ((bytesOf e 4 ++ bytesOf u 4) ++ (bytesOf d 6)) (by simp [Act.eval, Act.put]) HM3.out.1 HM3.out.2.size (some ⟨l3, 0, none⟩) 1 1 [f] (by simp [Act.eval, Act.put]) HL3.out (fun e => by cases e) (by simp [bytesOf_length]) ?_
      intro v4 w14 ho hg _ _
      have hM4 := HM3.out.more ho hg
      have HM4 := Lib.hid hM4
      have hH4 := HBX.out _ hM4.2
      clear ho hg hM4
      refine hK.out _ _ hH4 (fun _ => ?_)
      clear hK K
      refine wpAnyH_take (i := 13) (v := ?_) rfl (by kernel_rfl) (by kernel_rfl) (by kernel_rfl) (fun _ _ _ h => h) (Or.inl ⟨by kernel_rfl, ?_⟩) hH4 ?_
      rotate_left
      · (intro w' hw'; go_simp; first | done | with_reducible rfl)
      refine wpAnyH_done (by kernel_rfl) ?_ _
      refine NoPanic.normal ?_
      go_simp
      have b0 := cell_at (HBX.out _ HM4.out.2) 0 _ (by rw [HCS.out]; rfl)
      have b2 := cell_at (HBX.out _ HM4.out.2) 2 _ (by rw [HCS.out]; rfl)
      go_wp2_with fail
      refine (refText_at w14 s (by have := HS.out; omega)).mono ?_
      rintro x wt ⟨gt, ct, rfl, hBt, hbt⟩
      have hMt := HM4.out.below hbt
      have HMt := Lib.hid hMt
      have HBt := Lib.hid hBt
      clear b0 b2 hMt hBt hbt
      go_wp2_with (first
        | (at_builtin; refine codec.wpList_append_bytes rfl (.tmp 37) (.tmp 40) rfl W1.heap.size _ (((((bytesOf e 4 ++ bytesOf u 4) ++ (bytesOf d 6)) ++ [f]))) rfl HMt.out.1 HMt.out.2.size (some ⟨gt, 0, none⟩) (2 + s.size) ct (txt s) rfl HBt.out (fun e => by cases e) (by simp [bytesOf_length]; have := HS.out; omega) ?_; intro v3 w3 ho hg _ _; have hM3 := HMt.out.more ho hg; have HM3 := Lib.hid hM3; have b6 := cell_at (HBX.out _ hM3.2) 6 _ (by rw [HCS.out]; rfl); clear ho hg hM3 HMt)
        | (at_builtin; refine codec.wpList_append_bytes rfl (.tmp 42) (.tmp 45) rfl W1.heap.size _ _ rfl HM3.out.1 HM3.out.2.size A n c o rfl (HBy.out.1.below HBy.out.1.lt (HBW.out.trans (HM3.out.2.mono HBW.out.size))) HBy.out.2 (by have := HS.out; simp [bytesOf_length, txt_length]; omega) ?_; intro v4 w4 ho hg _ _; have HM4 := Lib.hid (HM3.out.more ho hg); clear ho hg))
      go_ret
      refine ⟨v4, rfl, ?_⟩
      have := HM4.out
      exact ⟨by simpa using (show w4.ownsRow W.heap.size 5 1 v4 _ _ from ⟨this.1.1, this.1.2.imp_right fun ⟨g, cap, cur, h1, h2, h3⟩ => ⟨g, cap, cur, h1, Nat.le_trans HBW.out.size h2, h3⟩⟩), HBW.out.trans (this.2.mono HBW.out.size)⟩
    · go_simp
      have HAP := Lib.hid (fun g (e : (v3).ownBlock = some g) => (Nat.ne_of_lt (HM1.out.1.lt g e).2 : g ≠ w11.heap.size))
      have hbl : Below w11.heap.size w11 (w11.alloc (.cells #[.int .u8 (f : Nat)] 5)) := (Below.refl _ _).alloc (Nat.le_refl _) _
      have HM5 := Lib.hid (HM1.out.below hbl)
      have HL5 := Lib.hid (lit_bytes w11 f (by omega) 5 (0, 0))
      have HD5 := Lib.hid (HD1.out.below HD1.out.lt hbl)
      have hH5 := (hbl.block _ (by have := HM1.out.2.size; have := HBB.out; omega)).trans hH1
      refine hK.out _ _ hH5 (fun _ => ?_)
      clear hK K hbl
      generalize w11.alloc (.cells #[.int .u8 (f : Nat)] 5) = w15 at *
      generalize w11.heap.size = l5 at *
      refine wpAnyH_ready (rs := [6]) (by kernel_rfl) (by simp) ?_
      refine AllReadyH.cons rfl (fun K hK => ?_) (AllReadyH.nil)
      refine codec.step_append_bytes rfl (.tmp 21) (.tmp 26) rfl W1.heap.size _ (bytesOf e 4 ++ bytesOf u 4) (by simp [Act.eval, Act.put]) HM5.out.1 HM5.out.2.size (some ⟨g1, 0, none⟩) 6 6 (bytesOf d 6) (by simp [Act.eval, Act.put]) HD5.out (fun e => by cases e) (by simp [bytesOf_length]) ?_
      intro v6 w16 ho hg _ _
      have hM6 := HM5.out.more ho hg
      have HM6 := Lib.hid hM6
      have hH6 := HBX.out _ hM6.2
      have HL6 := Lib.hid (HL5.out.kept fun ad eA h0 => hg.block _ (HL5.out.lt ad eA h0) (fun e2 => by cases eA; exact HAP.out _ e2.symm rfl))
      clear ho hg hM6
      refine hK.out _ _ hH6 (fun _ => ?_)
      clear hK K
      refine wpAnyH_ready (rs := [12]) (by kernel_rfl) (by simp) ?_
      refine AllReadyH.cons rfl (fun K hK => ?_) (AllReadyH.nil)
      refine codec.step_append_bytes rfl (.tmp 27) (.tmp 32) rfl W1.heap.size _ ((bytesOf e 4 ++ bytesOf u 4) ++ (bytesOf d 6)) (by simp [Act.eval, Act.put]) HM6.out.1 HM6.out.2.size (some ⟨l5, 0, none⟩) 1 1 [f] (by simp [Act.eval, Act.put]) HL6.out (fun e => by cases e) (by simp [bytesOf_length]) ?_
      intro v7 w17 ho hg _ _
      have hM7 := HM6.out.more ho hg
      have HM7 := Lib.hid hM7
      have hH7 := HBX.out _ hM7.2
      clear ho hg hM7
      refine hK.out _ _ hH7 (fun _ => ?_)
      clear hK K
      refine wpAnyH_take (i := 13) (v := ?_) rfl (by kernel_rfl) (by kernel_rfl) (by kernel_rfl) (fun _ _ _ h => h) (Or.inl ⟨by kernel_rfl, ?_⟩) hH7 ?_
      rotate_left
      · (intro w' hw'; go_simp; first | done | with_reducible rfl)
      refine wpAnyH_done (by kernel_rfl) ?_ _
      refine NoPanic.normal ?_
      go_simp
      have b0 := cell_at (HBX.out _ HM7.out.2) 0 _ (by rw [HCS.out]; rfl)
      have b2 := cell_at (HBX.out _ HM7.out.2) 2 _ (by rw [HCS.out]; rfl)
      go_wp2_with fail
      refine (refText_at w17 s (by have := HS.out; omega)).mono ?_
      rintro x wt ⟨gt, ct, rfl, hBt, hbt⟩
      have hMt := HM7.out.below hbt
      have HMt := Lib.hid hMt
      have HBt := Lib.hid hBt
      clear b0 b2 hMt hBt hbt
      go_wp2_with (first
        | (at_builtin; refine codec.wpList_append_bytes rfl (.tmp 37) (.tmp 40) rfl W1.heap.size _ (((((bytesOf e 4 ++ bytesOf u 4) ++ (bytesOf d 6)) ++ [f]))) rfl HMt.out.1 HMt.out.2.size (some ⟨gt, 0, none⟩) (2 + s.size) ct (txt s) rfl HBt.out (fun e => by cases e) (by simp [bytesOf_length]; have := HS.out; omega) ?_; intro v3 w3 ho hg _ _; have hM3 := HMt.out.more ho hg; have HM3 := Lib.hid hM3; have b6 := cell_at (HBX.out _ hM3.2) 6 _ (by rw [HCS.out]; rfl); clear ho hg hM3 HMt)
        | (at_builtin; refine codec.wpList_append_bytes rfl (.tmp 42) (.tmp 45) rfl W1.heap.size _ _ rfl HM3.out.1 HM3.out.2.size A n c o rfl (HBy.out.1.below HBy.out.1.lt (HBW.out.trans (HM3.out.2.mono HBW.out.size))) HBy.out.2 (by have := HS.out; simp [bytesOf_length, txt_length]; omega) ?_; intro v4 w4 ho hg _ _; have HM4 := Lib.hid (HM3.out.more ho hg); clear ho hg))
      go_ret
      refine ⟨v4, rfl, ?_⟩
      have := HM4.out
      exact ⟨by simpa using (show w4.ownsRow W.heap.size 5 1 v4 _ _ from ⟨this.1.1, this.1.2.imp_right fun ⟨g, cap, cur, h1, h2, h3⟩ => ⟨g, cap, cur, h1, Nat.le_trans HBW.out.size h2, h3⟩⟩), HBW.out.trans (this.2.mono HBW.out.size)⟩
  · go_simp
    have HAP := Lib.hid (fun g (e : (v3).ownBlock = some g) => (Nat.ne_of_lt (HMd.out.1.lt g e).2 : g ≠ w4.heap.size))
    have hbl : Below w4.heap.size w4 (w4.alloc (.cells #[.int .u8 (f : Nat)] 5)) := (Below.refl _ _).alloc (Nat.le_refl _) _
    have HM8 := Lib.hid (HMd.out.below hbl)
    have HL8 := Lib.hid (lit_bytes w4 f (by omega) 5 (0, 0))
    have hH8 := (hbl.block _ (by have := HMd.out.2.size; have := HBB.out; omega)).trans hHeld
    refine hK.out _ _ hH8 (fun _ => ?_)
    clear hK K hbl
    generalize w4.alloc (.cells #[.int .u8 (f : Nat)] 5) = w18 at *
    generalize w4.heap.size = l8 at *
    refine wpAnyH_ready (rs := [5]) (by kernel_rfl) (by simp) ?_
    refine AllReadyH.cons rfl (fun K hK => ?_) (AllReadyH.nil)
    go_simp
    refine (refBytes_at _ d 6 (by omega) (by omega) (by omega)).mono ?_
    rintro x w19 ⟨g9, rfl, hB9, hb9⟩
    have HM9 := Lib.hid (HM8.out.below hb9)
    have HD9 := Lib.hid hB9
    have HL9 := Lib.hid (HL8.out.below HL8.out.lt hb9)
    have hH9 := (hb9.block _ (by have := HM9.out.2.size; have := HM8.out.2.size; have := HLE.out; have := HBB.out; omega)).trans hH8
    clear hb9 hB9
    go_wp2_with fail
    refine hK.out _ _ hH9 (fun _ => ?_)
    clear hK K
    refine wpAnyH_ready (rs := [6]) (by kernel_rfl) (by simp) ?_
    refine AllReadyH.cons rfl (fun K hK => ?_) (AllReadyH.nil)
    refine codec.step_append_bytes rfl (.tmp 21) (.tmp 26) rfl W1.heap.size _ (bytesOf e 4 ++ bytesOf u 4) (by simp [Act.eval, Act.put]) HM9.out.1 HM9.out.2.size (some ⟨g9, 0, none⟩) 6 6 (bytesOf d 6) (by simp [Act.eval, Act.put]) HD9.out (fun e => by cases e) (by simp [bytesOf_length]) ?_
    intro v10 w20 ho hg _ _
    have hM10 := HM9.out.more ho hg
    have HM10 := Lib.hid hM10
    have hH10 := HBX.out _ hM10.2
    have HL10 := Lib.hid (HL9.out.kept fun ad eA h0 => hg.block _ (HL9.out.lt ad eA h0) (fun e2 => by cases eA; exact HAP.out _ e2.symm rfl))
    clear ho hg hM10
    refine hK.out _ _ hH10 (fun _ => ?_)
    clear hK K
    refine wpAnyH_ready (rs := [12]) (by kernel_rfl) (by simp) ?_
    refine AllReadyH.cons rfl (fun K hK => ?_) (AllReadyH.nil)
    refine codec.step_append_bytes rfl (.tmp 27) (.tmp 32) rfl W1.heap.size _ ((bytesOf e 4 ++ bytesOf u 4) ++ (bytesOf d 6)) (by simp [Act.eval, Act.put]) HM10.out.1 HM10.out.2.size (some ⟨l8, 0, none⟩) 1 1 [f] (by simp [Act.eval, Act.put]) HL10.out (fun e => by cases e) (by simp [bytesOf_length]) ?_
    intro v11 w21 ho hg _ _
    have hM11 := HM10.out.more ho hg
    have HM11 := Lib.hid hM11
    have hH11 := HBX.out _ hM11.2
    clear ho hg hM11
    refine hK.out _ _ hH11 (fun _ => ?_)
    clear hK K
    refine wpAnyH_take (i := 13) (v := ?_) rfl (by kernel_rfl) (by kernel_rfl) (by kernel_rfl) (fun _ _ _ h => h) (Or.inl ⟨by kernel_rfl, ?_⟩) hH11 ?_
    rotate_left
    · (intro w' hw'; go_simp; first | done | with_reducible rfl)
    refine wpAnyH_done (by kernel_rfl) ?_ _
    refine NoPanic.normal ?_
    go_simp
    have b0 := cell_at (HBX.out _ HM11.out.2) 0 _ (by rw [HCS.out]; rfl)
    have b2 := cell_at (HBX.out _ HM11.out.2) 2 _ (by rw [HCS.out]; rfl)
    go_wp2_with fail
    refine (refText_at w21 s (by have := HS.out; omega)).mono ?_
    rintro x wt ⟨gt, ct, rfl, hBt, hbt⟩
    have hMt := HM11.out.below hbt
    have HMt := Lib.hid hMt
    have HBt := Lib.hid hBt
    clear b0 b2 hMt hBt hbt
    go_wp2_with (first
      | (at_builtin; refine codec.wpList_append_bytes rfl (.tmp 37) (.tmp 40) rfl W1.heap.size _ (((((bytesOf e 4 ++ bytesOf u 4) ++ (bytesOf d 6)) ++ [f]))) rfl HMt.out.1 HMt.out.2.size (some ⟨gt, 0, none⟩) (2 + s.size) ct (txt s) rfl HBt.out (fun e => by cases e) (by simp [bytesOf_length]; have := HS.out; omega) ?_; intro v3 w3 ho hg _ _; have hM3 := HMt.out.more ho hg; have HM3 := Lib.hid hM3; have b6 := cell_at (HBX.out _ hM3.2) 6 _ (by rw [HCS.out]; rfl); clear ho hg hM3 HMt)
      | (at_builtin; refine codec.wpList_append_bytes rfl (.tmp 42) (.tmp 45) rfl W1.heap.size _ _ rfl HM3.out.1 HM3.out.2.size A n c o rfl (HBy.out.1.below HBy.out.1.lt (HBW.out.trans (HM3.out.2.mono HBW.out.size))) HBy.out.2 (by have := HS.out; simp [bytesOf_length, txt_length]; omega) ?_; intro v4 w4 ho hg _ _; have HM4 := Lib.hid (HM3.out.more ho hg); clear ho hg))
    go_ret
    refine ⟨v4, rfl, ?_⟩
    have := HM4.out
    exact ⟨by simpa using (show w4.ownsRow W.heap.size 5 1 v4 _ _ from ⟨this.1.1, this.1.2.imp_right fun ⟨g, cap, cur, h1, h2, h3⟩ => ⟨g, cap, cur, h1, Nat.le_trans HBW.out.size h2, h3⟩⟩), HBW.out.trans (this.2.mono HBW.out.size)⟩
end Go.Proofs.YtdbdeplabipfaaaGreatDoor.bod
