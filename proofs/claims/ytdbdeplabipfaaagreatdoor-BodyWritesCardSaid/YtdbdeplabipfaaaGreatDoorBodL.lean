/- BodyWrites. -/
import Derived.Test.YtdbdeplabipfaaaGreatDoorBodK
import Derived.Deep.RegionWith
import Derived.Deep.RegionHeld3
namespace Go.Proofs.YtdbdeplabipfaaaGreatDoor.bod
open Go.ChangeShapes Go.WideShapes Go.ChangeAt Go.RowKit
open Go.Proofs.YtdbdeplabipfaaaGreatDoor.codec (Bytes bytesOf bytesOf_length strOf strOf_size numOf)
open Go.Proofs.YtdbdeplabipfaaaGreatDoor.frm (frameL frameL_length)
set_option linter.unusedVariables false
set_option linter.unusedSimpArgs false
set_option maxRecDepth 100000

theorem bytes_know (W : World) (k : Int) (e u : Nat) (s : ByteArray) (d f : Int) (A : Option Addr) (n c : Nat) (o P : List Nat) (N : Nat) (hf : formedB k e s u d f n = true) (he : e < 4294967296) (hu : u < 4294967296) (hB : Bytes W A n o) (hA : A = none → c = 0) (hP : payL k e s u d f o = P) (hN : P.length = N) (hl : ∀ b ∈ P, b < 256) :
    Calls Tryz.prog 11 #[.agg #[.int .i64 k, .int .u32 e, .string s, .int .u32 u, .int .i64 d, .int .i64 f, .slice A n c]] W fun x w' => ∃ g cap, x = .returned (.slice (some ⟨g, 0, none⟩) N cap) ∧ Bytes w' (some ⟨g, 0, none⟩) N P ∧ Below W.heap.size W w' := by
  subst hP
  refine (bytes_any W k e u s d f A n c o hf he hu hB hA).mono ?_
  rintro x w' ⟨v, rfl, hM⟩
  obtain ⟨g, cap, rfl, -, -⟩ := hM.form N hN (by have := payL_pos k e u s d f o; omega)
  exact ⟨g, cap, rfl, hM.bytes hN hl, hM.2⟩
theorem rframe_know (W : World) (k g N M : Nat) (P F : List Nat) (h1 : 1 ≤ k) (h3 : k ≤ 3) (hB : Bytes W (some ⟨g, 0, none⟩) N P) (hn : N ≤ 40000) (hF : frameL k P = F) (hM : F.length = M) (hl : ∀ b ∈ F, b < 256) (h0 : 0 < M) :
    Calls Tryz.prog 12 #[.int .i64 k, .slice (some ⟨g, 0, none⟩) N N] W fun x w' => ∃ g' cap, x = .returned (.slice (some ⟨g', 0, none⟩) M cap) ∧ Bytes w' (some ⟨g', 0, none⟩) M F ∧ Below W.heap.size W w' := by
  subst hF
  refine (frm.refFrame_any W k N N (some ⟨g, 0, none⟩) P h1 h3 hB hn (fun e => by cases e)).mono ?_
  rintro x w' ⟨v, rfl, hm⟩
  obtain ⟨g', cap, rfl, -, -⟩ := hm.form M hM h0
  exact ⟨g', cap, rfl, hm.bytes hM hl, hm.2⟩
theorem writes_many (W : World) (k : Int) (e u : Nat) (s : ByteArray) (d f : Int) (A : Option Addr) (n c : Nat) (o : List Nat) (he : e < 4294967296) (hu : u < 4294967296) (hB : Bytes W A n o) (hA : A = none → c = 0) (hr : Fit W) (hL : sumDoor.Laid W) (h : ¬ (s.size ≤ 1000 ∧ n ≤ 30000)) :
    Calls Tryz.prog 3 #[.agg #[.int .i64 k, .int .u32 e, .string s, .int .u32 u, .int .i64 d, .int .i64 f, .slice A n c]] W fun x w' => x = .returned (.bool true) ∧ Below W.heap.size W w' := by
  obtain ⟨W1, hW1⟩ : ∃ W1, W1 = W.alloc (.cells #[.int .i64 k, .int .u32 e, .string s, .int .u32 u, .int .i64 d, .int .i64 f, .slice A n c] 27) := ⟨_, rfl⟩
  have HBW := Lib.hid (show Below W.heap.size W W1 by rw [hW1]; exact (Below.refl _ _).alloc (Nat.le_refl _) _)
  have HX1 := Lib.hid (fun (w1 : World) (h : Below W1.heap.size W1 w1) => (boxed (w := W) (o := .cells #[.int .i64 k, .int .u32 e, .string s, .int .u32 u, .int .i64 d, .int .i64 f, .slice A n c] 27) (w1 := w1) (by rw [← hW1]; exact h)).1)
  have HFit := Lib.hid (fun (w1 : World) (h : Below W1.heap.size W1 w1) => hr.below (HBW.out.trans (h.mono HBW.out.size)))
  have HLaid := Lib.hid (fun (w1 : World) (h : Below W1.heap.size W1 w1) => hL.below hL.lt (HBW.out.trans (h.mono HBW.out.size)))
  have HBy := Lib.hid (fun (w1 : World) (h : Below W1.heap.size W1 w1) => hB.below hB.lt (HBW.out.trans (h.mono HBW.out.size)))
  have HA := Lib.hid hA
  have HE := Lib.hid (And.intro he hu)
  have HR0 := Lib.hid (Below.refl W1.heap.size W1)
  have HW1 := Lib.hid hW1
  clear hW1 hB hA hr hL he hu
  go_enter Tryz.func3, Tryz.ntmps3
  go_wp2_with fail
  rw [← HW1.out]
  refine (awake_any W1 (HFit.out _ HR0.out)).mono ?_
  rintro x w1 ⟨rfl, hb1⟩
  have HB1 := Lib.hid hb1
  have c0 := cell_at (HX1.out _ hb1) 0 _ rfl
  have c1 := cell_at (HX1.out _ hb1) 1 _ rfl
  have c2 := cell_at (HX1.out _ hb1) 2 _ rfl
  have c3 := cell_at (HX1.out _ hb1) 3 _ rfl
  have c4 := cell_at (HX1.out _ hb1) 4 _ rfl
  have c5 := cell_at (HX1.out _ hb1) 5 _ rfl
  have c6 := cell_at (HX1.out _ hb1) 6 _ rfl
  clear hb1
  go_wp2_with fail
  refine (few_false w1 k e u s d f A n c h).mono ?_
  rintro x w2 ⟨rfl, hb2⟩
  have HB2 := Lib.hid (HB1.out.trans (hb2.mono HB1.out.size))
  clear hb2 c0 c1 c2 c3 c4 c5 c6
  go_wp2_with fail
  refine (awake_any w2 (HFit.out _ HB2.out)).mono ?_
  rintro x w3 ⟨rfl, hb3⟩
  have HB3 := Lib.hid (HB2.out.trans (hb3.mono HB2.out.size))
  clear hb3
  go_wp2_with fail
  go_ret
  exact ⟨rfl, HBW.out.trans (HB3.out.mono HBW.out.size)⟩
theorem writes_none (W : World) (k : Int) (e u : Nat) (s : ByteArray) (d f : Int) (A : Option Addr) (n c : Nat) (o : List Nat) (he : e < 4294967296) (hu : u < 4294967296) (hB : Bytes W A n o) (hA : A = none → c = 0) (hr : Fit W) (hL : sumDoor.Laid W) (hfew : s.size ≤ 1000 ∧ n ≤ 30000) (hf : formedB k e s u d f n = false) :
    Calls Tryz.prog 3 #[.agg #[.int .i64 k, .int .u32 e, .string s, .int .u32 u, .int .i64 d, .int .i64 f, .slice A n c]] W fun x w' => x = .returned (.bool true) ∧ Below W.heap.size W w' := by
  obtain ⟨W1, hW1⟩ : ∃ W1, W1 = W.alloc (.cells #[.int .i64 k, .int .u32 e, .string s, .int .u32 u, .int .i64 d, .int .i64 f, .slice A n c] 27) := ⟨_, rfl⟩
  have HBW := Lib.hid (show Below W.heap.size W W1 by rw [hW1]; exact (Below.refl _ _).alloc (Nat.le_refl _) _)
  have HX1 := Lib.hid (fun (w1 : World) (h : Below W1.heap.size W1 w1) => (boxed (w := W) (o := .cells #[.int .i64 k, .int .u32 e, .string s, .int .u32 u, .int .i64 d, .int .i64 f, .slice A n c] 27) (w1 := w1) (by rw [← hW1]; exact h)).1)
  have HFit := Lib.hid (fun (w1 : World) (h : Below W1.heap.size W1 w1) => hr.below (HBW.out.trans (h.mono HBW.out.size)))
  have HLaid := Lib.hid (fun (w1 : World) (h : Below W1.heap.size W1 w1) => hL.below hL.lt (HBW.out.trans (h.mono HBW.out.size)))
  have HBy := Lib.hid (fun (w1 : World) (h : Below W1.heap.size W1 w1) => hB.below hB.lt (HBW.out.trans (h.mono HBW.out.size)))
  have HA := Lib.hid hA
  have HE := Lib.hid (And.intro he hu)
  have HR0 := Lib.hid (Below.refl W1.heap.size W1)
  have HW1 := Lib.hid hW1
  have HFew := Lib.hid hfew
  have HF := Lib.hid hf
  have HS := Lib.hid (show s.size ≤ 100000 by omega)
  clear hW1 hB hA hr hL he hu hfew hf
  go_enter Tryz.func3, Tryz.ntmps3
  go_wp2_with fail
  rw [← HW1.out]
  refine (awake_any W1 (HFit.out _ HR0.out)).mono ?_
  rintro x w1 ⟨rfl, hb1⟩
  have HB1 := Lib.hid hb1
  have c0 := cell_at (HX1.out _ hb1) 0 _ rfl
  have c1 := cell_at (HX1.out _ hb1) 1 _ rfl
  have c2 := cell_at (HX1.out _ hb1) 2 _ rfl
  have c3 := cell_at (HX1.out _ hb1) 3 _ rfl
  have c4 := cell_at (HX1.out _ hb1) 4 _ rfl
  have c5 := cell_at (HX1.out _ hb1) 5 _ rfl
  have c6 := cell_at (HX1.out _ hb1) 6 _ rfl
  clear hb1
  go_wp2_with fail
  refine (few_true w1 k e u s d f A n c HFew.out.1 HFew.out.2).mono ?_
  rintro x w2 ⟨rfl, hb2⟩
  have HB2 := Lib.hid (HB1.out.trans (hb2.mono HB1.out.size))
  clear c0 c1 c2 c3 c4 c5 c6
  have c0 := cell_at (HX1.out _ HB2.out) 0 _ rfl
  have c1 := cell_at (HX1.out _ HB2.out) 1 _ rfl
  have c2 := cell_at (HX1.out _ HB2.out) 2 _ rfl
  have c3 := cell_at (HX1.out _ HB2.out) 3 _ rfl
  have c4 := cell_at (HX1.out _ HB2.out) 4 _ rfl
  have c5 := cell_at (HX1.out _ HB2.out) 5 _ rfl
  have c6 := cell_at (HX1.out _ HB2.out) 6 _ rfl
  clear hb2
  go_wp2_with fail
  obtain ⟨w3, hw3⟩ : ∃ w3, w3 = w2.alloc (.cells #[.int .i64 k, .int .u32 e, .string s, .int .u32 u, .int .i64 d, .int .i64 f, .slice A n c] 30) := ⟨_, rfl⟩
  rw [← hw3]
  have HB3 := Lib.hid (show Below W1.heap.size W1 w3 by rw [hw3]; exact HB2.out.alloc HB2.out.size _)
  have HX3 := Lib.hid (fun (w' : World) (h : Below w3.heap.size w3 w') => (boxed (w := w2) (o := .cells #[.int .i64 k, .int .u32 e, .string s, .int .u32 u, .int .i64 d, .int .i64 f, .slice A n c] 30) (w1 := w') (by rw [← hw3]; exact h)).1)
  clear hw3 c0 c1 c2 c3 c4 c5 c6
  generalize w2.heap.size = b3 at *
  refine (encode_none w3 k e u s d f A n c o HS.out (HFit.out _ HB3.out) HF.out).mono ?_
  rintro x w4 ⟨rfl, hb4⟩
  have HB4 := Lib.hid (And.intro hb4 (HB3.out.trans (hb4.mono HB3.out.size)))
  clear hb4
  have c0 := cell_at (HX3.out _ HB4.out.1) 0 _ rfl
  have c1 := cell_at (HX3.out _ HB4.out.1) 1 _ rfl
  have c2 := cell_at (HX3.out _ HB4.out.1) 2 _ rfl
  have c3 := cell_at (HX3.out _ HB4.out.1) 3 _ rfl
  have c4 := cell_at (HX3.out _ HB4.out.1) 4 _ rfl
  have c5 := cell_at (HX3.out _ HB4.out.1) 5 _ rfl
  have c6 := cell_at (HX3.out _ HB4.out.1) 6 _ rfl
  go_wp2_with fail
  refine (frame_none w4 k e u s d f A n c HS.out (HFit.out _ HB4.out.2) HF.out).mono ?_
  rintro x w5 ⟨rfl, hb5⟩
  have HB5 := Lib.hid (And.intro (HB4.out.1.trans (hb5.mono HB4.out.1.size)) (HB4.out.2.trans (hb5.mono HB4.out.2.size)))
  clear hb5 c0 c1 c2 c3 c4 c5 c6
  have c0 := cell_at (HX1.out _ HB5.out.2) 0 _ rfl
  have c1 := cell_at (HX1.out _ HB5.out.2) 1 _ rfl
  have c2 := cell_at (HX1.out _ HB5.out.2) 2 _ rfl
  have c3 := cell_at (HX1.out _ HB5.out.2) 3 _ rfl
  have c4 := cell_at (HX1.out _ HB5.out.2) 4 _ rfl
  have c5 := cell_at (HX1.out _ HB5.out.2) 5 _ rfl
  have c6 := cell_at (HX1.out _ HB5.out.2) 6 _ rfl
  go_wp2_with fail
  refine (rFormed_any w5 k e u s d f A n c HS.out).mono ?_
  rw [HF.out]
  rintro x w6 ⟨rfl, hb6⟩
  have HB6 := Lib.hid (And.intro (HB5.out.1.trans (hb6.mono HB5.out.1.size)) (HB5.out.2.trans (hb6.mono HB5.out.2.size)))
  clear hb6 c0 c1 c2 c3 c4 c5 c6
  have c0 := cell_at (HX3.out _ HB6.out.1) 0 _ rfl
  have c1 := cell_at (HX3.out _ HB6.out.1) 1 _ rfl
  have c2 := cell_at (HX3.out _ HB6.out.1) 2 _ rfl
  have c3 := cell_at (HX3.out _ HB6.out.1) 3 _ rfl
  have c4 := cell_at (HX3.out _ HB6.out.1) 4 _ rfl
  have c5 := cell_at (HX3.out _ HB6.out.1) 5 _ rfl
  have c6 := cell_at (HX3.out _ HB6.out.1) 6 _ rfl
  go_wp2_with fail
  refine (formed_any w6 k e u s d f A n c HS.out (HFit.out _ HB6.out.2)).mono ?_
  rw [HF.out]
  rintro x w7 ⟨rfl, hb7⟩
  have HB7 := Lib.hid (HB6.out.2.trans (hb7.mono HB6.out.2.size))
  clear hb7 c0 c1 c2 c3 c4 c5 c6
  go_wp2_with fail
  go_ret
  exact ⟨rfl, HBW.out.trans (HB7.out.mono HBW.out.size)⟩
end Go.Proofs.YtdbdeplabipfaaaGreatDoor.bod
