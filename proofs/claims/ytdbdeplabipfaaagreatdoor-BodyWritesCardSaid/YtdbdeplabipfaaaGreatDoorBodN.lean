/- BodyWrites. -/
import Derived.Test.YtdbdeplabipfaaaGreatDoorBodL
import Derived.Deep.RegionWith
import Derived.Deep.RegionHeld3
namespace Go.Proofs.YtdbdeplabipfaaaGreatDoor.bod
open Go.ChangeShapes Go.WideShapes Go.ChangeAt Go.RowKit
open Go.Proofs.YtdbdeplabipfaaaGreatDoor.codec (Bytes bytesOf bytesOf_length strOf strOf_size numOf)
open Go.Proofs.YtdbdeplabipfaaaGreatDoor.frm (frameL frameL_length)
set_option linter.unusedVariables false
set_option linter.unusedSimpArgs false
set_option maxRecDepth 100000

set_option maxHeartbeats 4000000 in
theorem writes_good (W : World) (k : Nat) (e u : Nat) (s : ByteArray) (d f : Int) (A : Option Addr) (n c : Nat) (o : List Nat) (he : e < 4294967296) (hu : u < 4294967296) (hB : Bytes W A n o) (hA : A = none → c = 0) (hr : Fit W) (hL : sumDoor.Laid W) (hfew : s.size ≤ 1000 ∧ n ≤ 30000) (hf : formedB k e s u d f n = true) :
    Calls Tryz.prog 3 #[.agg #[.int .i64 k, .int .u32 e, .string s, .int .u32 u, .int .i64 d, .int .i64 f, .slice A n c]] W fun x w' => x = .returned (.bool true) ∧ Below W.heap.size W w' := by
  obtain ⟨W1, hW1⟩ : ∃ W1, W1 = W.alloc (.cells #[.int .i64 k, .int .u32 e, .string s, .int .u32 u, .int .i64 d, .int .i64 f, .slice A n c] 27) := ⟨_, rfl⟩
  have HBW := Lib.hid (show Below W.heap.size W W1 by rw [hW1]; exact (Below.refl _ _).alloc (Nat.le_refl _) _)
  have HX1 := Lib.hid (fun (w1 : World) (h : Below W1.heap.size W1 w1) => (boxed (w := W) (o := .cells #[.int .i64 k, .int .u32 e, .string s, .int .u32 u, .int .i64 d, .int .i64 f, .slice A n c] 27) (w1 := w1) (by rw [← hW1]; exact h)).1)
  have HFit := Lib.hid (fun (w1 : World) (h : Below W1.heap.size W1 w1) => hr.below (HBW.out.trans (h.mono HBW.out.size)))
  have HLaid := Lib.hid (fun (w1 : World) (h : Below W1.heap.size W1 w1) => hL.below hL.lt (HBW.out.trans (h.mono HBW.out.size)))
  have HBy := Lib.hid (fun (w1 : World) (h : Below W1.heap.size W1 w1) => hB.below hB.lt (HBW.out.trans (h.mono HBW.out.size)))
  have HA := Lib.hid hA
  have HE := Lib.hid (And.intro he hu)
  have HR0 := Lib.hid (Below.refl W1.heap.size W1)
  have HW1 := Lib.hid hW1
  have hk := formed_kind hf
  have hln := hB.1
  obtain ⟨P, hP⟩ : ∃ P, P = payL k e s u d f o := ⟨_, rfl⟩
  obtain ⟨N, hN⟩ : ∃ N, N = P.length := ⟨_, rfl⟩
  obtain ⟨F, hF⟩ : ∃ F, F = frameL k P := ⟨_, rfl⟩
  obtain ⟨M, hM⟩ : ∃ M, M = 44 + N := ⟨_, rfl⟩
  have hPl : ∀ b ∈ P, b < 256 := by rw [hP]; exact payL_lt hB.2.1
  have hN2 : N ≤ 20077 := by rw [hN, hP]; exact payL_length (by rw [hln]; exact hf)
  have hFM : F.length = M := by rw [hF, frameL_length, hM, hN]
  have hFl : ∀ b ∈ F, b < 256 := by rw [hF]; exact frameL_lt (by omega) hPl
  have HFew := Lib.hid hfew
  have HF := Lib.hid hf
  have HS := Lib.hid (show s.size ≤ 100000 by omega)
  have HK := Lib.hid (show 1 ≤ k ∧ k ≤ 3 by omega)
  have HP := Lib.hid hP.symm
  have HN := Lib.hid hN.symm
  have HFF := Lib.hid hF.symm
  have HM := Lib.hid hM.symm
  have HPL := Lib.hid hPl
  have HFL := Lib.hid hFl
  have HN2 := Lib.hid hN2
  have HFM := Lib.hid hFM
  have HO := Lib.hid hln
  clear hW1 hB hA hr hL he hu hfew hf hk hln hP hN hF hM hPl hN2 hFM hFl
  go_enter Tryz.func3, Tryz.ntmps3
  go_wp2_with fail
  rw [← HW1.out]
  refine (awake_any W1 (HFit.out _ HR0.out)).mono ?_
  rintro x w1 ⟨rfl, hb1⟩
  have HB1 := Lib.hid hb1
  have c0 := cell_at (HX1.out _ hb1) 0 _ rfl
  have c1 := cell_at (HX1.out _ hb1) 1 _ rfl
  have c2 := cell_at (HX1.out _ hb1) 2 _ rfl
  have c3 := cell_at (HX1.out _ hb1) 3 _ rfl
  have c4 := cell_at (HX1.out _ hb1) 4 _ rfl
  have c5 := cell_at (HX1.out _ hb1) 5 _ rfl
  have c6 := cell_at (HX1.out _ hb1) 6 _ rfl
  clear hb1
  go_wp2_with fail
  refine (few_true w1 k e u s d f A n c HFew.out.1 HFew.out.2).mono ?_
  rintro x w2 ⟨rfl, hb2⟩
  have HB2 := Lib.hid (HB1.out.trans (hb2.mono HB1.out.size))
  clear c0 c1 c2 c3 c4 c5 c6
  have c0 := cell_at (HX1.out _ HB2.out) 0 _ rfl
  have c1 := cell_at (HX1.out _ HB2.out) 1 _ rfl
  have c2 := cell_at (HX1.out _ HB2.out) 2 _ rfl
  have c3 := cell_at (HX1.out _ HB2.out) 3 _ rfl
  have c4 := cell_at (HX1.out _ HB2.out) 4 _ rfl
  have c5 := cell_at (HX1.out _ HB2.out) 5 _ rfl
  have c6 := cell_at (HX1.out _ HB2.out) 6 _ rfl
  clear hb2
  go_wp2_with fail
  obtain ⟨w3, hw3⟩ : ∃ w3, w3 = w2.alloc (.cells #[.int .i64 k, .int .u32 e, .string s, .int .u32 u, .int .i64 d, .int .i64 f, .slice A n c] 30) := ⟨_, rfl⟩
  rw [← hw3]
  have HB3 := Lib.hid (show Below W1.heap.size W1 w3 by rw [hw3]; exact HB2.out.alloc HB2.out.size _)
  have HX3 := Lib.hid (fun (w' : World) (h : Below w3.heap.size w3 w') => (boxed (w := w2) (o := .cells #[.int .i64 k, .int .u32 e, .string s, .int .u32 u, .int .i64 d, .int .i64 f, .slice A n c] 30) (w1 := w') (by rw [← hw3]; exact h)).1)
  clear hw3 c0 c1 c2 c3 c4 c5 c6
  generalize w2.heap.size = b3 at *
  refine (encode_good w3 k e u s d f A n c o P N HE.out.1 HE.out.2 (HFit.out _ HB3.out) (HBy.out _ HB3.out) HA.out HF.out HP.out HN.out).mono ?_
  rintro x w4 ⟨gB, rfl, hBb, hb4⟩
  have HB4 := Lib.hid (And.intro hb4 (HB3.out.trans (hb4.mono HB3.out.size)))
  have HBb4 := Lib.hid hBb
  clear hb4 hBb
  have c0 := cell_at (HX3.out _ HB4.out.1) 0 _ rfl
  have c1 := cell_at (HX3.out _ HB4.out.1) 1 _ rfl
  have c2 := cell_at (HX3.out _ HB4.out.1) 2 _ rfl
  have c3 := cell_at (HX3.out _ HB4.out.1) 3 _ rfl
  have c4 := cell_at (HX3.out _ HB4.out.1) 4 _ rfl
  have c5 := cell_at (HX3.out _ HB4.out.1) 5 _ rfl
  have c6 := cell_at (HX3.out _ HB4.out.1) 6 _ rfl
  go_wp2_with fail
  refine (frame_any w4 k e u s d f A n c o P N M HE.out.1 HE.out.2 (HFit.out _ HB4.out.2) (HLaid.out _ HB4.out.2) (HBy.out _ HB4.out.2) HA.out HF.out HP.out HN.out HM.out).mono ?_
  rw [HFF.out]
  rintro x w5 ⟨gF, rfl, hBf, hb5⟩
  have HB5 := Lib.hid (And.intro (HB4.out.1.trans (hb5.mono HB4.out.1.size)) (HB4.out.2.trans (hb5.mono HB4.out.2.size)))
  have HBb5 := Lib.hid (HBb4.out.below HBb4.out.lt hb5)
  have HBf5 := Lib.hid hBf
  clear hb5 hBf HBb4 c0 c1 c2 c3 c4 c5 c6
  have c0 := cell_at (HX1.out _ HB5.out.2) 0 _ rfl
  have c1 := cell_at (HX1.out _ HB5.out.2) 1 _ rfl
  have c2 := cell_at (HX1.out _ HB5.out.2) 2 _ rfl
  have c3 := cell_at (HX1.out _ HB5.out.2) 3 _ rfl
  have c4 := cell_at (HX1.out _ HB5.out.2) 4 _ rfl
  have c5 := cell_at (HX1.out _ HB5.out.2) 5 _ rfl
  have c6 := cell_at (HX1.out _ HB5.out.2) 6 _ rfl
  go_wp2_with fail
  refine (rFormed_any w5 k e u s d f A n c HS.out).mono ?_
  rw [HF.out]
  rintro x w6 ⟨rfl, hb6⟩
  have HB6 := Lib.hid (And.intro (HB5.out.1.trans (hb6.mono HB5.out.1.size)) (HB5.out.2.trans (hb6.mono HB5.out.2.size)))
  have HBb6 := Lib.hid (HBb5.out.below HBb5.out.lt hb6)
  have HBf6 := Lib.hid (HBf5.out.below HBf5.out.lt hb6)
  clear hb6 HBb5 HBf5 c0 c1 c2 c3 c4 c5 c6
  have c0 := cell_at (HX1.out _ HB6.out.2) 0 _ rfl
  go_wp2_with fail
  refine (decode_back w6 k e u s d f gB n N o P HE.out.1 HE.out.2 (HFit.out _ HB6.out.2) HO.out HF.out HP.out HBb6.out).mono ?_
  rintro x w7 ⟨A', m, rfl, hBy, hb7⟩
  have HB7 := Lib.hid (And.intro (HB6.out.1.trans (hb7.mono HB6.out.1.size)) (HB6.out.2.trans (hb7.mono HB6.out.2.size)))
  have HBb7 := Lib.hid (HBb6.out.below HBb6.out.lt hb7)
  have HBf7 := Lib.hid (HBf6.out.below HBf6.out.lt hb7)
  have HBy7 := Lib.hid hBy
  clear hb7 HBb6 HBf6 hBy c0
  go_wp2_with fail
  obtain ⟨w8, hw8⟩ : ∃ w8, w8 = w7.alloc (.cells #[.int .i64 k, .int .u32 e, .string s, .int .u32 u, .int .i64 d, .int .i64 f, .slice A' m m] 30) := ⟨_, rfl⟩
  rw [← hw8]
  have hb8 : Below w7.heap.size w7 w8 := by rw [hw8]; exact (Below.refl _ _).alloc (Nat.le_refl _) _
  have HB8 := Lib.hid (And.intro (HB7.out.1.trans (hb8.mono HB7.out.1.size)) (HB7.out.2.trans (hb8.mono HB7.out.2.size)))
  have HX8 := Lib.hid (fun (w' : World) (h : Below w8.heap.size w8 w') => (boxed (w := w7) (o := .cells #[.int .i64 k, .int .u32 e, .string s, .int .u32 u, .int .i64 d, .int .i64 f, .slice A' m m] 30) (w1 := w') (by rw [← hw8]; exact h)).1)
  have HBb := Lib.hid (fun (w' : World) (h : Below w8.heap.size w8 w') => HBb7.out.below HBb7.out.lt (hb8.trans (h.mono hb8.size)))
  have HBf := Lib.hid (fun (w' : World) (h : Below w8.heap.size w8 w') => HBf7.out.below HBf7.out.lt (hb8.trans (h.mono hb8.size)))
  have HBo := Lib.hid (fun (w' : World) (h : Below w8.heap.size w8 w') => HBy7.out.below HBy7.out.lt (hb8.trans (h.mono hb8.size)))
  have H1 := Lib.hid (fun (w' : World) (h : Below w8.heap.size w8 w') => HB8.out.2.trans (h.mono HB8.out.2.size))
  have H3 := Lib.hid (fun (w' : World) (h : Below w8.heap.size w8 w') => HB8.out.1.trans (h.mono HB8.out.1.size))
  have HST := Lib.hid (show Below w8.heap.size w8 w8.drew from codec.below_draws (Below.refl _ _) 1)
  clear hw8 hb8 HBb7 HBf7 HBy7
  generalize w7.heap.size = b8 at *
  refine wp_region_noPanic ?_
  refine wp_region_held_drew (S := fun w' => Below w8.heap.size w8 w') (by kernel_rfl) HST.out (fun hHeld => ?_)
  generalize w8.drew = w9 at hHeld ⊢
  refine wpAnyH_take (i := 0) (v := ?_) rfl (by kernel_rfl) (by kernel_rfl) (by kernel_rfl) (fun _ _ _ h => h) (Or.inl ⟨by kernel_rfl, ?_⟩) hHeld ?_
  rotate_left
  · (intro w' hw'; have c0 := cell_at (HX3.out _ (H3.out _ hw')) 0 _ rfl; have c1 := cell_at (HX3.out _ (H3.out _ hw')) 1 _ rfl; have c2 := cell_at (HX3.out _ (H3.out _ hw')) 2 _ rfl; have c3 := cell_at (HX3.out _ (H3.out _ hw')) 3 _ rfl; have c4 := cell_at (HX3.out _ (H3.out _ hw')) 4 _ rfl; have c5 := cell_at (HX3.out _ (H3.out _ hw')) 5 _ rfl; have c6 := cell_at (HX3.out _ (H3.out _ hw')) 6 _ rfl; go_simp; first | done | with_reducible rfl)
  refine wpAnyH_ready (rs := [1]) (by kernel_rfl) (by simp) ?_
  refine AllReadyH.cons rfl (fun K hK => ?_) AllReadyH.nil
  go_simp
  refine (formed_any _ k e u s d f A n c HS.out (HFit.out _ (H1.out _ hHeld))).mono ?_
  rw [HF.out]
  rintro x w10 ⟨rfl, hb⟩
  have hS1 := hHeld.trans (hb.mono hHeld.size)
  clear hb
  go_wp2_with fail
  refine hK.out _ _ hS1 (fun hH1 => ?_)
  clear hK K hHeld
  refine wpAnyH_take (i := 2) (v := ?_) rfl (by kernel_rfl) (by kernel_rfl) (by kernel_rfl) (fun _ _ _ h => h) (Or.inl ⟨by kernel_rfl, ?_⟩) hH1 ?_
  rotate_left
  · (intro w' hw'; go_simp; first | done | with_reducible rfl)
  refine wpAnyH_take (i := 3) (v := ?_) rfl (by kernel_rfl) (by kernel_rfl) (by kernel_rfl) (fun _ _ _ h => h) (Or.inl ⟨by kernel_rfl, ?_⟩) hH1 ?_
  rotate_left
  · (intro w' hw'; go_simp; first | done | with_reducible rfl)
  refine wpAnyH_take (i := 4) (v := ?_) rfl (by kernel_rfl) (by kernel_rfl) (by kernel_rfl) (fun _ _ _ h => h) (Or.inl ⟨by kernel_rfl, ?_⟩) hH1 ?_
  rotate_left
  · (intro w' hw'; go_simp; first | done | with_reducible rfl)
  refine wpAnyH_take (i := 5) (v := ?_) rfl (by kernel_rfl) (by kernel_rfl) (by kernel_rfl) (fun _ _ _ h => h) (Or.inl ⟨by kernel_rfl, ?_⟩) hH1 ?_
  rotate_left
  · (intro w' hw'; go_simp; first | done | with_reducible rfl)
  refine wpAnyH_take (i := 6) (v := ?_) rfl (by kernel_rfl) (by kernel_rfl) (by kernel_rfl) (fun _ _ _ h => h) (Or.inl ⟨by kernel_rfl, ?_⟩) hH1 ?_
  rotate_left
  · (intro w' hw'; go_simp; first | done | with_reducible rfl)
  refine wpAnyH_take (i := 7) (v := ?_) rfl (by kernel_rfl) (by kernel_rfl) (by kernel_rfl) (fun _ _ _ h => h) (Or.inl ⟨by kernel_rfl, ?_⟩) hH1 ?_
  rotate_left
  · (intro w' hw'; go_simp; first | done | with_reducible rfl)
  refine wpAnyH_take (i := 8) (v := ?_) rfl (by kernel_rfl) (by kernel_rfl) (by kernel_rfl) (fun _ _ _ h => h) (Or.inl ⟨by kernel_rfl, ?_⟩) hH1 ?_
  rotate_left
  · (intro w' hw'; go_simp; first | done | with_reducible rfl)
  refine wpAnyH_take (i := 9) (v := ?_) rfl (by kernel_rfl) (by kernel_rfl) (by kernel_rfl) (fun _ _ _ h => h) (Or.inl ⟨by kernel_rfl, ?_⟩) hH1 ?_
  rotate_left
  · (intro w' hw'; go_simp; first | done | with_reducible rfl)
  refine wpAnyH_take (i := 10) (v := ?_) rfl (by kernel_rfl) (by kernel_rfl) (by kernel_rfl) (fun _ _ _ h => h) (Or.inl ⟨by kernel_rfl, ?_⟩) hH1 ?_
  rotate_left
  · (intro w' hw'; go_simp; first | done | with_reducible rfl)
  refine wpAnyH_take (i := 11) (v := ?_) rfl (by kernel_rfl) (by kernel_rfl) (by kernel_rfl) (fun _ _ _ h => h) (Or.inl ⟨by kernel_rfl, ?_⟩) hH1 ?_
  rotate_left
  · (intro w' hw'; go_simp; first | done | with_reducible rfl)
  refine wpAnyH_take (i := 12) (v := ?_) rfl (by kernel_rfl) (by kernel_rfl) (by kernel_rfl) (fun _ _ _ h => h) (Or.inl ⟨by kernel_rfl, ?_⟩) hH1 ?_
  rotate_left
  · (intro w' hw'; have cv := (HBb.out _ hw').text N; go_simp; first | done | with_reducible rfl)
  refine wpAnyH_take (i := 13) (v := ?_) rfl (by kernel_rfl) (by kernel_rfl) (by kernel_rfl) (fun _ _ _ h => h) (Or.inl ⟨by kernel_rfl, ?_⟩) hH1 ?_
  rotate_left
  · (intro w' hw'; have c0 := cell_at (HX1.out _ (H1.out _ hw')) 0 _ rfl; have c1 := cell_at (HX1.out _ (H1.out _ hw')) 1 _ rfl; have c2 := cell_at (HX1.out _ (H1.out _ hw')) 2 _ rfl; have c3 := cell_at (HX1.out _ (H1.out _ hw')) 3 _ rfl; have c4 := cell_at (HX1.out _ (H1.out _ hw')) 4 _ rfl; have c5 := cell_at (HX1.out _ (H1.out _ hw')) 5 _ rfl; have c6 := cell_at (HX1.out _ (H1.out _ hw')) 6 _ rfl; go_simp; first | done | with_reducible rfl)
  refine wpAnyH_ready (rs := [14]) (by kernel_rfl) (by simp) ?_
  refine AllReadyH.cons rfl (fun K hK => ?_) AllReadyH.nil
  go_simp
  refine (bytes_know _ k e u s d f A n c o P N HF.out HE.out.1 HE.out.2 (HBy.out _ (H1.out _ hS1)) HA.out HP.out HN.out HPL.out).mono ?_
  rintro x w11 ⟨g14, cap14, rfl, hBB, hb⟩
  have hS2 := hS1.trans (hb.mono hS1.size)
  have cv14 := hBB.text cap14
  clear hBB hb
  go_wp2_with fail
  refine hK.out _ _ hS2 (fun hH2 => ?_)
  clear hK K hH1
  refine wpAnyH_ready (rs := [15]) (by kernel_rfl) (by simp) ?_
  refine AllReadyH.cons rfl (fun K hK => ?_) AllReadyH.nil
  go_simp
  refine hK _ _ hH2 (fun _ => ?_)
  clear hK K
  clear cv14
  refine wpAnyH_take (i := 16) (v := ?_) rfl (by kernel_rfl) (by kernel_rfl) (by kernel_rfl) (fun _ _ _ h => h) (Or.inl ⟨by kernel_rfl, ?_⟩) hH2 ?_
  rotate_left
  · (intro w' hw'; go_simp; first | done | with_reducible rfl)
  refine wpAnyH_take (i := 17) (v := ?_) rfl (by kernel_rfl) (by kernel_rfl) (by kernel_rfl) (fun _ _ _ h => h) (Or.inl ⟨by kernel_rfl, ?_⟩) hH2 ?_
  rotate_left
  · (intro w' hw'; go_simp; first | done | with_reducible rfl)
  refine wpAnyH_take (i := 18) (v := ?_) rfl (by kernel_rfl) (by kernel_rfl) (by kernel_rfl) (fun _ _ _ h => h) (Or.inl ⟨by kernel_rfl, ?_⟩) hH2 ?_
  rotate_left
  · (intro w' hw'; go_simp; first | done | with_reducible rfl)
  refine wpAnyH_take (i := 19) (v := ?_) rfl (by kernel_rfl) (by kernel_rfl) (by kernel_rfl) (fun _ _ _ h => h) (Or.inl ⟨by kernel_rfl, ?_⟩) hH2 ?_
  rotate_left
  · (intro w' hw'; go_simp; first | done | with_reducible rfl)
  refine wpAnyH_take (i := 20) (v := ?_) rfl (by kernel_rfl) (by kernel_rfl) (by kernel_rfl) (fun _ _ _ h => h) (Or.inl ⟨by kernel_rfl, ?_⟩) hH2 ?_
  rotate_left
  · (intro w' hw'; have cv := (HBf.out _ hw').text M; go_simp; first | done | with_reducible rfl)
  refine wpAnyH_take (i := 21) (v := ?_) rfl (by kernel_rfl) (by kernel_rfl) (by kernel_rfl) (fun _ _ _ h => h) (Or.inl ⟨by kernel_rfl, ?_⟩) hH2 ?_
  rotate_left
  · (intro w' hw'; go_simp; first | done | with_reducible rfl)
  refine wpAnyH_take (i := 22) (v := ?_) rfl (by kernel_rfl) (by kernel_rfl) (by kernel_rfl) (fun _ _ _ h => h) (Or.inl ⟨by kernel_rfl, ?_⟩) hH2 ?_
  rotate_left
  · (intro w' hw'; have c0 := cell_at (HX1.out _ (H1.out _ hw')) 0 _ rfl; go_simp; first | done | with_reducible rfl)
  refine wpAnyH_take (i := 23) (v := ?_) rfl (by kernel_rfl) (by kernel_rfl) (by kernel_rfl) (fun _ _ _ h => h) (Or.inl ⟨by kernel_rfl, ?_⟩) hH2 ?_
  rotate_left
  · (intro w' hw'; go_simp; first | done | with_reducible rfl)
  refine wpAnyH_ready (rs := [24]) (by kernel_rfl) (by simp) ?_
  refine AllReadyH.cons rfl (fun K hK => ?_) AllReadyH.nil
  go_simp
  refine (rframe_know _ k gB N M P F HK.out.1 HK.out.2 (HBb.out _ hS2) (by have := HN2.out; omega) HFF.out HFM.out HFL.out (by have := HM.out; omega)).mono ?_
  rintro x w12 ⟨g24, cap24, rfl, hBB, hb⟩
  have hS3 := hS2.trans (hb.mono hS2.size)
  have cv24 := hBB.text cap24
  clear hBB hb
  go_wp2_with fail
  refine hK.out _ _ hS3 (fun hH3 => ?_)
  clear hK K hH2
  refine wpAnyH_ready (rs := [25]) (by kernel_rfl) (by simp) ?_
  refine AllReadyH.cons rfl (fun K hK => ?_) AllReadyH.nil
  go_simp
  refine hK _ _ hH3 (fun _ => ?_)
  clear hK K
  clear cv24
  refine wpAnyH_take (i := 26) (v := ?_) rfl (by kernel_rfl) (by kernel_rfl) (by kernel_rfl) (fun _ _ _ h => h) (Or.inl ⟨by kernel_rfl, ?_⟩) hH3 ?_
  rotate_left
  · (intro w' hw'; go_simp; first | done | with_reducible rfl)
  refine wpAnyH_take (i := 27) (v := ?_) rfl (by kernel_rfl) (by kernel_rfl) (by kernel_rfl) (fun _ _ _ h => h) (Or.inl ⟨by kernel_rfl, ?_⟩) hH3 ?_
  rotate_left
  · (intro w' hw'; go_simp; first | done | with_reducible rfl)
  refine wpAnyH_take (i := 28) (v := ?_) rfl (by kernel_rfl) (by kernel_rfl) (by kernel_rfl) (fun _ _ _ h => h) (Or.inl ⟨by kernel_rfl, ?_⟩) hH3 ?_
  rotate_left
  · (intro w' hw'; go_simp; first | done | with_reducible rfl)
  refine wpAnyH_take (i := 29) (v := ?_) rfl (by kernel_rfl) (by kernel_rfl) (by kernel_rfl) (fun _ _ _ h => h) (Or.inl ⟨by kernel_rfl, ?_⟩) hH3 ?_
  rotate_left
  · (intro w' hw'; go_simp; first | done | with_reducible rfl)
  refine wpAnyH_take (i := 30) (v := ?_) rfl (by kernel_rfl) (by kernel_rfl) (by kernel_rfl) (fun _ _ _ h => h) (Or.inl ⟨by kernel_rfl, ?_⟩) hH3 ?_
  rotate_left
  · (intro w' hw'; go_simp; first | done | with_reducible rfl)
  refine wpAnyH_take (i := 31) (v := ?_) rfl (by kernel_rfl) (by kernel_rfl) (by kernel_rfl) (fun _ _ _ h => h) (Or.inl ⟨by kernel_rfl, ?_⟩) hH3 ?_
  rotate_left
  · (intro w' hw'; go_simp; first | done | with_reducible rfl)
  refine wpAnyH_take (i := 32) (v := ?_) rfl (by kernel_rfl) (by kernel_rfl) (by kernel_rfl) (fun _ _ _ h => h) (Or.inl ⟨by kernel_rfl, ?_⟩) hH3 ?_
  rotate_left
  · (intro w' hw'; go_simp; first | done | with_reducible rfl)
  refine wpAnyH_take (i := 33) (v := ?_) rfl (by kernel_rfl) (by kernel_rfl) (by kernel_rfl) (fun _ _ _ h => h) (Or.inl ⟨by kernel_rfl, ?_⟩) hH3 ?_
  rotate_left
  · (intro w' hw'; go_simp; first | done | with_reducible rfl)
  refine wpAnyH_take (i := 34) (v := ?_) rfl (by kernel_rfl) (by kernel_rfl) (by kernel_rfl) (fun _ _ _ h => h) (Or.inl ⟨by kernel_rfl, ?_⟩) hH3 ?_
  rotate_left
  · (intro w' hw'; have c0 := cell_at (HX8.out _ hw') 0 _ rfl; go_simp; first | done | with_reducible rfl)
  refine wpAnyH_take (i := 35) (v := ?_) rfl (by kernel_rfl) (by kernel_rfl) (by kernel_rfl) (fun _ _ _ h => h) (Or.inl ⟨by kernel_rfl, ?_⟩) hH3 ?_
  rotate_left
  · (intro w' hw'; go_simp; first | done | with_reducible rfl)
  refine wpAnyH_take (i := 36) (v := ?_) rfl (by kernel_rfl) (by kernel_rfl) (by kernel_rfl) (fun _ _ _ h => h) (Or.inl ⟨by kernel_rfl, ?_⟩) hH3 ?_
  rotate_left
  · (intro w' hw'; have c0 := cell_at (HX1.out _ (H1.out _ hw')) 0 _ rfl; go_simp; first | done | with_reducible rfl)
  refine wpAnyH_take (i := 37) (v := ?_) rfl (by kernel_rfl) (by kernel_rfl) (by kernel_rfl) (fun _ _ _ h => h) (Or.inl ⟨by kernel_rfl, ?_⟩) hH3 ?_
  rotate_left
  · (intro w' hw'; go_simp; first | done | with_reducible rfl)
  refine wpAnyH_take (i := 38) (v := ?_) rfl (by kernel_rfl) (by kernel_rfl) (by kernel_rfl) (fun _ _ _ h => h) (Or.inl ⟨by kernel_rfl, ?_⟩) hH3 ?_
  rotate_left
  · (intro w' hw'; go_simp; first | done | with_reducible rfl)
  refine wpAnyH_take (i := 39) (v := ?_) rfl (by kernel_rfl) (by kernel_rfl) (by kernel_rfl) (fun _ _ _ h => h) (Or.inl ⟨by kernel_rfl, ?_⟩) hH3 ?_
  rotate_left
  · (intro w' hw'; go_simp; first | done | with_reducible rfl)
  refine wpAnyH_take (i := 40) (v := ?_) rfl (by kernel_rfl) (by kernel_rfl) (by kernel_rfl) (fun _ _ _ h => h) (Or.inl ⟨by kernel_rfl, ?_⟩) hH3 ?_
  rotate_left
  · (intro w' hw'; go_simp; first | done | with_reducible rfl)
  refine wpAnyH_take (i := 41) (v := ?_) rfl (by kernel_rfl) (by kernel_rfl) (by kernel_rfl) (fun _ _ _ h => h) (Or.inl ⟨by kernel_rfl, ?_⟩) hH3 ?_
  rotate_left
  · (intro w' hw'; have c1 := cell_at (HX8.out _ hw') 1 _ rfl; go_simp; first | done | with_reducible rfl)
  refine wpAnyH_take (i := 42) (v := ?_) rfl (by kernel_rfl) (by kernel_rfl) (by kernel_rfl) (fun _ _ _ h => h) (Or.inl ⟨by kernel_rfl, ?_⟩) hH3 ?_
  rotate_left
  · (intro w' hw'; go_simp; first | done | with_reducible rfl)
  refine wpAnyH_take (i := 43) (v := ?_) rfl (by kernel_rfl) (by kernel_rfl) (by kernel_rfl) (fun _ _ _ h => h) (Or.inl ⟨by kernel_rfl, ?_⟩) hH3 ?_
  rotate_left
  · (intro w' hw'; have c1 := cell_at (HX1.out _ (H1.out _ hw')) 1 _ rfl; go_simp; first | done | with_reducible rfl)
  refine wpAnyH_take (i := 44) (v := ?_) rfl (by kernel_rfl) (by kernel_rfl) (by kernel_rfl) (fun _ _ _ h => h) (Or.inl ⟨by kernel_rfl, ?_⟩) hH3 ?_
  rotate_left
  · (intro w' hw'; go_simp; first | done | with_reducible rfl)
  refine wpAnyH_take (i := 45) (v := ?_) rfl (by kernel_rfl) (by kernel_rfl) (by kernel_rfl) (fun _ _ _ h => h) (Or.inl ⟨by kernel_rfl, ?_⟩) hH3 ?_
  rotate_left
  · (intro w' hw'; go_simp; first | done | with_reducible rfl)
  refine wpAnyH_take (i := 46) (v := ?_) rfl (by kernel_rfl) (by kernel_rfl) (by kernel_rfl) (fun _ _ _ h => h) (Or.inl ⟨by kernel_rfl, ?_⟩) hH3 ?_
  rotate_left
  · (intro w' hw'; go_simp; first | done | with_reducible rfl)
  refine wpAnyH_take (i := 47) (v := ?_) rfl (by kernel_rfl) (by kernel_rfl) (by kernel_rfl) (fun _ _ _ h => h) (Or.inl ⟨by kernel_rfl, ?_⟩) hH3 ?_
  rotate_left
  · (intro w' hw'; go_simp; first | done | with_reducible rfl)
  refine wpAnyH_take (i := 48) (v := ?_) rfl (by kernel_rfl) (by kernel_rfl) (by kernel_rfl) (fun _ _ _ h => h) (Or.inl ⟨by kernel_rfl, ?_⟩) hH3 ?_
  rotate_left
  · (intro w' hw'; have c2 := cell_at (HX8.out _ hw') 2 _ rfl; go_simp; first | done | with_reducible rfl)
  refine wpAnyH_take (i := 49) (v := ?_) rfl (by kernel_rfl) (by kernel_rfl) (by kernel_rfl) (fun _ _ _ h => h) (Or.inl ⟨by kernel_rfl, ?_⟩) hH3 ?_
  rotate_left
  · (intro w' hw'; go_simp; first | done | with_reducible rfl)
  refine wpAnyH_take (i := 50) (v := ?_) rfl (by kernel_rfl) (by kernel_rfl) (by kernel_rfl) (fun _ _ _ h => h) (Or.inl ⟨by kernel_rfl, ?_⟩) hH3 ?_
  rotate_left
  · (intro w' hw'; have c2 := cell_at (HX1.out _ (H1.out _ hw')) 2 _ rfl; go_simp; first | done | with_reducible rfl)
  refine wpAnyH_take (i := 51) (v := ?_) rfl (by kernel_rfl) (by kernel_rfl) (by kernel_rfl) (fun _ _ _ h => h) (Or.inl ⟨by kernel_rfl, ?_⟩) hH3 ?_
  rotate_left
  · (intro w' hw'; go_simp; first | done | with_reducible rfl)
  refine wpAnyH_take (i := 52) (v := ?_) rfl (by kernel_rfl) (by kernel_rfl) (by kernel_rfl) (fun _ _ _ h => h) (Or.inl ⟨by kernel_rfl, ?_⟩) hH3 ?_
  rotate_left
  · (intro w' hw'; go_simp; first | done | with_reducible rfl)
  refine wpAnyH_take (i := 53) (v := ?_) rfl (by kernel_rfl) (by kernel_rfl) (by kernel_rfl) (fun _ _ _ h => h) (Or.inl ⟨by kernel_rfl, ?_⟩) hH3 ?_
  rotate_left
  · (intro w' hw'; go_simp; first | done | with_reducible rfl)
  refine wpAnyH_take (i := 54) (v := ?_) rfl (by kernel_rfl) (by kernel_rfl) (by kernel_rfl) (fun _ _ _ h => h) (Or.inl ⟨by kernel_rfl, ?_⟩) hH3 ?_
  rotate_left
  · (intro w' hw'; go_simp; first | done | with_reducible rfl)
  refine wpAnyH_take (i := 55) (v := ?_) rfl (by kernel_rfl) (by kernel_rfl) (by kernel_rfl) (fun _ _ _ h => h) (Or.inl ⟨by kernel_rfl, ?_⟩) hH3 ?_
  rotate_left
  · (intro w' hw'; have c3 := cell_at (HX8.out _ hw') 3 _ rfl; have c4 := cell_at (HX8.out _ hw') 4 _ rfl; have c5 := cell_at (HX8.out _ hw') 5 _ rfl; have c6 := cell_at (HX8.out _ hw') 6 _ rfl; go_simp; first | done | with_reducible rfl)
  refine wpAnyH_take (i := 56) (v := ?_) rfl (by kernel_rfl) (by kernel_rfl) (by kernel_rfl) (fun _ _ _ h => h) (Or.inl ⟨by kernel_rfl, ?_⟩) hH3 ?_
  rotate_left
  · (intro w' hw'; go_simp; first | done | with_reducible rfl)
  refine wpAnyH_take (i := 57) (v := ?_) rfl (by kernel_rfl) (by kernel_rfl) (by kernel_rfl) (fun _ _ _ h => h) (Or.inl ⟨by kernel_rfl, ?_⟩) hH3 ?_
  rotate_left
  · (intro w' hw'; have c3 := cell_at (HX1.out _ (H1.out _ hw')) 3 _ rfl; have c4 := cell_at (HX1.out _ (H1.out _ hw')) 4 _ rfl; have c5 := cell_at (HX1.out _ (H1.out _ hw')) 5 _ rfl; have c6 := cell_at (HX1.out _ (H1.out _ hw')) 6 _ rfl; go_simp; first | done | with_reducible rfl)
  refine wpAnyH_ready (rs := [58]) (by kernel_rfl) (by simp) ?_
  refine AllReadyH.cons rfl (fun K hK => ?_) AllReadyH.nil
  go_simp
  refine (same_true _ u d f A' A m m n c o (HBo.out _ hS3) (HBy.out _ (H1.out _ hS3))).mono ?_
  rintro x w13 ⟨rfl, hb⟩
  have hS4 := hS3.trans (hb.mono hS3.size)
  clear hb
  go_wp2_with fail
  refine hK.out _ _ hS4 (fun hH4 => ?_)
  clear hK K hH3
  refine wpAnyH_take (i := 59) (v := ?_) rfl (by kernel_rfl) (by kernel_rfl) (by kernel_rfl) (fun _ _ _ h => h) (Or.inl ⟨by kernel_rfl, ?_⟩) hH4 ?_
  rotate_left
  · (intro w' hw'; go_simp; first | done | with_reducible rfl)
  refine wpAnyH_take (i := 60) (v := ?_) rfl (by kernel_rfl) (by kernel_rfl) (by kernel_rfl) (fun _ _ _ h => h) (Or.inl ⟨by kernel_rfl, ?_⟩) hH4 ?_
  rotate_left
  · (intro w' hw'; go_simp; first | done | with_reducible rfl)
  refine wpAnyH_done (by kernel_rfl) ?_ _
  refine NoPanic.normal ?_
  go_simp
  go_wp2_with fail
  go_ret
  exact ⟨rfl, HBW.out.trans ((H1.out _ hS4).mono HBW.out.size)⟩
theorem writes_walk (W : World) (k : Int) (e u : Nat) (s : ByteArray) (d f : Int) (A : Option Addr) (n c : Nat) (o : List Nat) (he : e < 4294967296) (hu : u < 4294967296) (hB : Bytes W A n o) (hA : A = none → c = 0) (hr : Fit W) (hL : sumDoor.Laid W)  :
    Calls Tryz.prog 3 #[.agg #[.int .i64 k, .int .u32 e, .string s, .int .u32 u, .int .i64 d, .int .i64 f, .slice A n c]] W fun x w' => x = .returned (.bool true) ∧ Below W.heap.size W w' := by
  by_cases hfew : s.size ≤ 1000 ∧ n ≤ 30000
  · cases hf : formedB k e s u d f n
    · exact writes_none W k e u s d f A n c o he hu hB hA hr hL hfew hf
    · obtain ⟨k, rfl⟩ := Int.eq_ofNat_of_zero_le (show 0 ≤ k by have := formed_kind hf; omega)
      exact writes_good W k e u s d f A n c o he hu hB hA hr hL hfew hf
  · exact writes_many W k e u s d f A n c o he hu hB hA hr hL hfew
end Go.Proofs.YtdbdeplabipfaaaGreatDoor.bod
