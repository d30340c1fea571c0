/- BodyReads. -/
import Derived.Test.YtdbdeplabipfaaaDoorBodI
import Derived.Deep.RegionWith
import Derived.Deep.RegionHeld3
namespace Go.Proofs.YtdbdeplabipfaaaDoor.bod
open Go.ChangeShapes Go.WideShapes Go.ChangeAt Go.RowKit
open Go.Proofs.YtdbdeplabipfaaaDoor.codec (Bytes bytesOf bytesOf_length strOf strOf_size numOf)
set_option linter.unusedVariables false
set_option linter.unusedSimpArgs false
set_option maxRecDepth 100000

theorem reads_walk (W : World) (k : Int) (A : Option Addr) (n c : Nat) (L : List Nat) (hB : Bytes W A n L) (hr : Fit W) :
    Calls Tryd.prog 3 #[.int .i64 k, .slice A n c] W fun x w' => x = .returned (.bool true) ∧ Below W.heap.size W w' := by
  by_cases hn : n ≤ 25000
  rotate_left
  · have hd : decide ((25000 : Int) < n) = true := by simp; omega
    have HA := Lib.hid (awake_any W hr)
    have HA2 := Lib.hid (fun w1 hb => awake_any w1 (hr.below hb))
    clear hB hr hn
    go_enter Tryd.func3, Tryd.ntmps3
    go_wp2_with fail
    refine HA.out.mono ?_
    rintro x w1 ⟨rfl, hb⟩
    have HB := Lib.hid hb
    clear hb HA
    go_wp2_with fail
    refine (HA2.out w1 HB.out).mono ?_
    rintro x w2 ⟨rfl, hb⟩
    have HB2 := Lib.hid (HB.out.trans (hb.mono HB.out.size))
    clear hb HA2
    go_wp2_with fail
    go_ret
    exact ⟨rfl, HB2.out⟩
  · have hd : decide ((25000 : Int) < n) = false := by simp; omega
    have HA := Lib.hid (awake_any W hr)
    have HD := Lib.hid (fun w1 (hb : Below W.heap.size W w1) => dec_any w1 k A n c L (hB.below hB.lt hb) hn (hr.below hb))
    have HBy := Lib.hid hB
    clear hB hr hn
    go_enter Tryd.func3, Tryd.ntmps3
    go_wp2_with fail
    refine HA.out.mono ?_
    rintro x w1 ⟨rfl, hb⟩
    have HB := Lib.hid hb
    clear hb HA
    go_wp2_with fail
    refine (HD.out w1 HB.out).mono ?_
    rintro x w2 ⟨rfl | ⟨e, u, s, d, f, A', m, o, rfl, hS⟩, hb⟩
    · have HB2 := Lib.hid (HB.out.trans (hb.mono HB.out.size))
      clear hb HD
      rw [show zeroN = #[.int .i64 0, .int .u32 0, .string ⟨#[]⟩, .int .u32 0, .int .i64 0, .int .i64 0, .slice none 0 0] from rfl]
      go_wp2_with fail
      go_ret
      exact ⟨rfl, HB2.out.alloc HB2.out.size _⟩
    · have HB2 := Lib.hid (HB.out.trans (hb.mono HB.out.size))
      have HS := Lib.hid hS
      clear hb HD hS
      go_wp2_with fail
      obtain ⟨cs, hcs⟩ : ∃ cs : Array Value, cs = #[.int .i64 k, .int .u32 e, .string s, .int .u32 u, .int .i64 d, .int .i64 f, .slice A' m m] := ⟨_, rfl⟩
      obtain ⟨w3, hw3⟩ : ∃ w3, w3 = (w2.alloc (.cells cs 28)).alloc (.cells cs 32) := ⟨_, rfl⟩
      have HCS := Lib.hid hcs
      rw [← hcs, ← hw3]
      have HB3 := Lib.hid (show Below W.heap.size W w3 by rw [hw3]; exact (HB2.out.alloc HB2.out.size _).alloc (Nat.le_trans HB2.out.size (by simp)) _)
      have HX5 := Lib.hid (fun (w' : World) (h : Below w3.heap.size w3 w') => (show w'.heap[w2.heap.size]? = some (.cells cs 28 (0, 0)) from (h.block _ (by rw [hw3]; simp; omega)).trans (by rw [hw3, heap_alloc_old _ _ (by simp)]; exact heap_alloc_new _ _)))
      have HX7 := Lib.hid (fun (w' : World) (h : Below w3.heap.size w3 w') => (show w'.heap[w2.heap.size + 1]? = some (.cells cs 32 (0, 0)) from (h.block _ (by rw [hw3]; simp)).trans (by rw [hw3]; have := heap_alloc_new (w2.alloc (.cells cs 28)) (.cells cs 32); simpa using this)))
      have HS3 := Lib.hid (show Said w3 k e u s d f A' m o L from HS.out.below (by rw [hw3]; exact ((Below.refl _ _).alloc (Nat.le_refl _) _).alloc (by simp) _))
      have HST := Lib.hid (show Below w3.heap.size w3 w3.drew from codec.below_draws (Below.refl _ _) 1)
      clear hcs hw3
      generalize w2.heap.size = b at *
      refine wp_region_noPanic ?_
      refine wp_region_held_drew (S := fun w' => Below w3.heap.size w3 w') (by kernel_rfl) HST.out (fun hHeld => ?_)
      generalize w3.drew = w4 at hHeld ⊢
      refine wpAnyH_take (i := 0) (v := ?_) rfl (by kernel_rfl) (by kernel_rfl) (by kernel_rfl) (fun _ _ _ h => h) (Or.inl ⟨by kernel_rfl, ?_⟩) hHeld ?_
      rotate_left
      · (intro w' hw'; go_simp; first | done | with_reducible rfl)
      refine wpAnyH_take (i := 1) (v := ?_) rfl (by kernel_rfl) (by kernel_rfl) (by kernel_rfl) (fun _ _ _ h => h) (Or.inl ⟨by kernel_rfl, ?_⟩) hHeld ?_
      rotate_left
      · (intro w' hw'; have c0 := cell_at (HX5.out _ hw') 0 _ (by rw [HCS.out]; rfl); go_simp; first | done | with_reducible rfl)
      refine wpAnyH_take (i := 2) (v := ?_) rfl (by kernel_rfl) (by kernel_rfl) (by kernel_rfl) (fun _ _ _ h => h) (Or.inl ⟨by kernel_rfl, ?_⟩) hHeld ?_
      rotate_left
      · (intro w' hw'; go_simp; first | done | with_reducible rfl)
      refine wpAnyH_take (i := 3) (v := ?_) rfl (by kernel_rfl) (by kernel_rfl) (by kernel_rfl) (fun _ _ _ h => h) (Or.inl ⟨by kernel_rfl, ?_⟩) hHeld ?_
      rotate_left
      · (intro w' hw'; go_simp; first | done | with_reducible rfl)
      refine wpAnyH_take (i := 4) (v := ?_) rfl (by kernel_rfl) (by kernel_rfl) (by kernel_rfl) (fun _ _ _ h => h) (Or.inl ⟨by kernel_rfl, ?_⟩) hHeld ?_
      rotate_left
      · (intro w' hw'; go_simp; first | done | with_reducible rfl)
      refine wpAnyH_take (i := 5) (v := ?_) rfl (by kernel_rfl) (by kernel_rfl) (by kernel_rfl) (fun _ _ _ h => h) (Or.inl ⟨by kernel_rfl, ?_⟩) hHeld ?_
      rotate_left
      · (intro w' hw'; have c0 := cell_at (HX7.out _ hw') 0 _ (by rw [HCS.out]; rfl); have c1 := cell_at (HX7.out _ hw') 1 _ (by rw [HCS.out]; rfl); have c2 := cell_at (HX7.out _ hw') 2 _ (by rw [HCS.out]; rfl); have c3 := cell_at (HX7.out _ hw') 3 _ (by rw [HCS.out]; rfl); have c4 := cell_at (HX7.out _ hw') 4 _ (by rw [HCS.out]; rfl); have c5 := cell_at (HX7.out _ hw') 5 _ (by rw [HCS.out]; rfl); have c6 := cell_at (HX7.out _ hw') 6 _ (by rw [HCS.out]; rfl); go_simp; first | done | with_reducible rfl)
      refine wpAnyH_ready (rs := [6]) (by kernel_rfl) (by simp) ?_
      refine AllReadyH.cons rfl (fun K hK => ?_) AllReadyH.nil
      go_simp
      refine (rFormed_any _ k e u s d f A' m m (by have := formed_size HS3.out.1.1; omega)).mono ?_
      rw [HS3.out.1.1]
      rintro x w5 ⟨rfl, hb5⟩
      have hS5 := hHeld.trans (hb5.mono hHeld.size)
      go_wp2_with fail
      refine hK.out _ _ hS5 (fun hH1 => ?_)
      clear hK K hHeld
      refine wpAnyH_take (i := 7) (v := ?_) rfl (by kernel_rfl) (by kernel_rfl) (by kernel_rfl) (fun _ _ _ h => h) (Or.inl ⟨by kernel_rfl, ?_⟩) hH1 ?_
      rotate_left
      · (intro w' hw'; go_simp; first | done | with_reducible rfl)
      refine wpAnyH_take (i := 8) (v := ?_) rfl (by kernel_rfl) (by kernel_rfl) (by kernel_rfl) (fun _ _ _ h => h) (Or.inl ⟨by kernel_rfl, ?_⟩) hH1 ?_
      rotate_left
      · (intro w' hw'; go_simp; first | done | with_reducible rfl)
      refine wpAnyH_take (i := 9) (v := ?_) rfl (by kernel_rfl) (by kernel_rfl) (by kernel_rfl) (fun _ _ _ h => h) (Or.inl ⟨by kernel_rfl, ?_⟩) hH1 ?_
      rotate_left
      · (intro w' hw'; have c0 := cell_at (HX7.out _ hw') 0 _ (by rw [HCS.out]; rfl); have c1 := cell_at (HX7.out _ hw') 1 _ (by rw [HCS.out]; rfl); have c2 := cell_at (HX7.out _ hw') 2 _ (by rw [HCS.out]; rfl); have c3 := cell_at (HX7.out _ hw') 3 _ (by rw [HCS.out]; rfl); have c4 := cell_at (HX7.out _ hw') 4 _ (by rw [HCS.out]; rfl); have c5 := cell_at (HX7.out _ hw') 5 _ (by rw [HCS.out]; rfl); have c6 := cell_at (HX7.out _ hw') 6 _ (by rw [HCS.out]; rfl); go_simp; first | done | with_reducible rfl)
      refine wpAnyH_take (i := 12) (v := ?_) rfl (by kernel_rfl) (by kernel_rfl) (by kernel_rfl) (fun _ _ _ h => h) (Or.inl ⟨by kernel_rfl, ?_⟩) hH1 ?_
      rotate_left
      · (intro w' hw'; go_simp; first | done | with_reducible rfl)
      refine wpAnyH_take (i := 13) (v := ?_) rfl (by kernel_rfl) (by kernel_rfl) (by kernel_rfl) (fun _ _ _ h => h) (Or.inl ⟨by kernel_rfl, ?_⟩) hH1 ?_
      rotate_left
      · (intro w' hw'; have cv := ((HBy.out.below HBy.out.lt HB3.out).below (HBy.out.below HBy.out.lt HB3.out).lt hw').text c; go_simp; first | done | with_reducible rfl)
      refine wpAnyH_ready (rs := [10]) (by kernel_rfl) (by simp) ?_
      refine AllReadyH.cons rfl (fun K hK => ?_) AllReadyH.nil
      go_simp
      refine (bytes_said _ k e u s d f A' m o L n (HS3.out.below hS5) HBy.out.1 HBy.out.2.1).mono ?_
      rintro x w6 ⟨gg, cap, rfl, hBB, hb6⟩
      have hS6 := hS5.trans (hb6.mono hS5.size)
      have cv6 := hBB.text cap
      clear hBB hb6
      go_wp2_with fail
      refine hK.out _ _ hS6 (fun hH2 => ?_)
      clear hK K hH1
      refine wpAnyH_ready (rs := [11]) (by kernel_rfl) (by simp) ?_
      refine AllReadyH.cons rfl (fun K hK => ?_) AllReadyH.nil
      go_simp
      refine hK _ _ hH2 (fun _ => ?_)
      clear hK K
      refine wpAnyH_take (i := 14) (v := ?_) rfl (by kernel_rfl) (by kernel_rfl) (by kernel_rfl) (fun _ _ _ h => h) (Or.inl ⟨by kernel_rfl, ?_⟩) hH2 ?_
      rotate_left
      · (intro w' hw'; go_simp; first | done | with_reducible rfl)
      refine wpAnyH_take (i := 15) (v := ?_) rfl (by kernel_rfl) (by kernel_rfl) (by kernel_rfl) (fun _ _ _ h => h) (Or.inl ⟨by kernel_rfl, ?_⟩) hH2 ?_
      rotate_left
      · (intro w' hw'; go_simp; first | done | with_reducible rfl)
      refine wpAnyH_take (i := 16) (v := ?_) rfl (by kernel_rfl) (by kernel_rfl) (by kernel_rfl) (fun _ _ _ h => h) (Or.inl ⟨by kernel_rfl, ?_⟩) hH2 ?_
      rotate_left
      · (intro w' hw'; go_simp; first | done | with_reducible rfl)
      refine wpAnyH_done (by kernel_rfl) ?_ _
      refine NoPanic.normal ?_
      go_simp
      go_wp2_with fail
      go_ret
      exact ⟨rfl, HB3.out.trans (hS6.mono HB3.out.size)⟩
end Go.Proofs.YtdbdeplabipfaaaDoor.bod
