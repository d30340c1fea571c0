/- Two mailboxes alike; the notes of bytes. -/
import Derived.Test.YtklmbiekpilkhaaGreatDoorMl3
namespace Go.Proofs.YtklmbiekpilkhaaGreatDoor.lg
open Go.ChangeShapes Go.WideShapes Go.ChangeAt Go.RowKit
open Go.Proofs.YtklmbiekpilkhaaGreatDoor.codec (Bytes vals)
open Go.Proofs.YtklmbiekpilkhaaGreatDoor.bod (cell_at Fit)
set_option linter.unusedVariables false
set_option maxRecDepth 100000
set_option linter.unusedSimpArgs false

end Go.Proofs.YtklmbiekpilkhaaGreatDoor.lg
namespace Go.Proofs.YtklmbiekpilkhaaGreatDoor.lg
open Go.ChangeShapes Go.WideShapes Go.ChangeAt Go.RowKit
open Go.Proofs.YtklmbiekpilkhaaGreatDoor.codec (Bytes vals)
open Go.Proofs.YtklmbiekpilkhaaGreatDoor.bod (cell_at Fit)
open Go.Proofs.YtklmbiekpilkhaaGreatDoor.frm (R X Reads Recs scan)
set_option linter.unusedVariables false
set_option maxRecDepth 100000
set_option linter.unusedSimpArgs false

def cP (y : Y) : List Value := [.int .i64 (y.p : Nat)]
theorem fP : Fm cP 1 := ⟨fun _ => rfl, fun y u hu => by simp [cP] at hu; subst hu; rfl⟩
theorem infoI : (Tryz.prog.info? 3).map (fun i => (i.zero, i.size, i.bytes)) = some (some (.int .i64 0), 1, 8) := by kernel_rfl
/-- The notes, and where they begin, of the first records. -/
def NS2 (W1 : World) (rs : List R) (k : Nat) (v va : Value) (w : World) : Prop := ∃ ys, Own cN 7 W1.heap.size 62 w v ys ∧ Own cP 1 W1.heap.size 3 w va ys ∧ (∀ g, v.ownBlock = some g → va.ownBlock ≠ some g) ∧ Below W1.heap.size W1 w ∧ ys.map Y.np = notesR (rs.take k) ∧ ys.length ≤ k
theorem NS2.start (W1 : World) (rs : List R) : NS2 W1 rs 0 (.slice none 0 0) (.slice none 0 0) W1 := ⟨[], Own.nil _ _ _ _ _, Own.nil _ _ _ _ _, (fun g e => by cases e), Below.refl _ _, rfl, Nat.le_refl _⟩
theorem NS2.below {W1 : World} {rs : List R} {k : Nat} {v va : Value} {w w' : World} (h : NS2 W1 rs k v va w) (hb : Below w.heap.size w w') : NS2 W1 rs k v va w' := by
  obtain ⟨ys, h1, h2, h3, h4, h5⟩ := h
  exact ⟨ys, h1.below hb, h2.below hb, h3, h4.trans (hb.mono h4.size), h5⟩
theorem NS2.skip {W1 : World} {rs : List R} {k : Nat} {v va : Value} {w : World} {r : R} (h : NS2 W1 rs k v va w) (hr : rs[k]? = some r) (hd : dec r.kind r.pay = none) : NS2 W1 rs (k + 1) v va w := by
  obtain ⟨ys, h1, h2, h3, h4, h5, h6⟩ := h
  exact ⟨ys, h1, h2, h3, h4, by rw [take_next hr, notesR_snoc, h5]; simp [noteOf, hd], by omega⟩
theorem grownOf {w w' : World} (hb : Below w.heap.size w w') (row : Option Nat) : w.grownBy w' row := ⟨hb.os, hb.tape, hb.output, hb.size, fun i hi _ => hb.block i hi⟩
/-- What the first of two appends leaves of the other row. -/
theorem two_first {B : Nat} {T T' : TypeId} {w w2 : World} {v v' va : Value} {ys : List Y} {y : Y} (h1 : Own cN 7 B T w v ys) (h2 : Own cP 1 B T' w va ys) (h3 : ∀ g, v.ownBlock = some g → va.ownBlock ≠ some g) (hg : w.grownBy w2 v.ownBlock) : Own cP 1 B T' w2 va ys :=
  h2.grown hg (fun b e => h3 b e) (fun z hz ad e h0 e' => (h1.2 z hz).2 ad e h0 e'.symm)
theorem NS2.more {W1 : World} {rs : List R} {k : Nat} {v va v' va' : Value} {w w2 w3 : World} {r : R} {t : Nt} {ys : List Y} {A : Option Addr} {m c : Nat} (hr : rs[k]? = some r) (hd : dec r.kind r.pay = some t)
    (h1 : Own cN 7 W1.heap.size 62 w v ys) (h2 : Own cP 1 W1.heap.size 3 w va ys) (h3 : ∀ g, v.ownBlock = some g → va.ownBlock ≠ some g) (h4 : Below W1.heap.size W1 w) (h5 : ys.map Y.np = notesR (rs.take k)) (h6 : ys.length ≤ k)
    (hA : ∀ ad, A = some ad → 0 < m → va.ownBlock ≠ some ad.block)
    (ho : Own cN 7 W1.heap.size 62 w2 v' (ys ++ [⟨t, r.at_, A, m, c⟩])) (hg : w.grownBy w2 v.ownBlock) (hat : v'.ownBlock = v.ownBlock ∨ ∃ g, v'.ownBlock = some g ∧ w.heap.size ≤ g)
    (ho2 : Own cP 1 W1.heap.size 3 w3 va' (ys ++ [⟨t, r.at_, A, m, c⟩])) (hg2 : w2.grownBy w3 va.ownBlock) (hat2 : va'.ownBlock = va.ownBlock ∨ ∃ g, va'.ownBlock = some g ∧ w2.heap.size ≤ g) : NS2 W1 rs (k + 1) v' va' w3 := by
  have hva : ∀ g, va.ownBlock = some g → g < w.heap.size := fun g e => (h2.lt e).2
  have hv2 : ∀ g, v'.ownBlock = some g → g < w2.heap.size := fun g e => (ho.lt e).2
  have hne : ∀ g, v'.ownBlock = some g → va.ownBlock ≠ some g := fun g e e' => by
    rcases hat with hat | ⟨q, hat, hq⟩
    · exact h3 g (hat ▸ e) e'
    · rw [hat] at e
      have := hva g e'
      have := Option.some.inj e
      omega
  refine ⟨_, ho.grown hg2 (fun b e e' => hne b e' e) (fun z hz ad e h0 e' => ?_), ho2, fun g e e' => ?_, grown_below (grown_below h4 h1 hg) (two_first (y := ⟨t, r.at_, A, m, c⟩) (v' := v') h1 h2 h3 hg) hg2, ?_, by simp; omega⟩
  · rcases List.mem_append.1 hz with hz | hz
    · exact (h2.2 z hz).2 ad e h0 e'.symm
    · simp at hz
      subst hz
      exact hA ad e h0 e'.symm
  · rcases hat2 with hat2 | ⟨q, hat2, hq⟩
    · exact hne g e (hat2 ▸ e')
    · rw [hat2] at e'
      have := hv2 g e
      have := Option.some.inj e'
      omega
  · rw [List.map_append, h5, take_next hr, notesR_snoc]
    simp [noteOf, hd, Y.np]
set_option maxHeartbeats 8000000 in
theorem notes_any (W : World) (A : Option Addr) (n c : Nat) (l : List Nat) (hB : Bytes W A n l) (hc : n ≤ c) (hn : n ≤ 40000) (hr : Fit W) :
    Calls Tryz.prog 14 #[.slice A n c] W fun x w' => ∃ A' m' c' va ys, x = .returned (.tuple #[.slice A' m' c', va, .int .i64 ((scan l 0 0).2 : Nat)]) ∧ Rd cN 7 w' A' m' ys ∧ m' ≤ 40000 ∧ ys.map Y.np = notesL l ∧ Below W.heap.size W w' := by
  have HSC := Lib.hid (frm.refScan_any W A n c l hB hc hn)
  have HB := Lib.hid hB
  have HF := Lib.hid hr
  have HN := Lib.hid hn
  have HSG := Lib.hid (scan_good l)
  have HSL := Lib.hid (frm.scan_length l)
  clear hB hc hn hr
  go_enter Tryz.func14, Tryz.ntmps14
  go_wp2_with fail
  refine HSC.out.mono ?_
  rintro e W1 ⟨v, torn, rfl, xs, hrr, hb1, hs⟩
  obtain ⟨A1, c1, rfl, hc1, hR1⟩ := hrr.reads
  have hxl : xs.length ≤ 40000 := by
    have h1 := HSL.out
    rw [hs] at h1
    have h2 := HB.out.1
    have h3 := HN.out
    simp at h1
    omega
  have HXS := Lib.hid hs
  have HB1 := Lib.hid hb1
  have HR1 := Lib.hid hR1
  have HFit := Lib.hid (fun (w' : World) (h : Below W1.heap.size W1 w') => HF.out.below (hb1.trans (h.mono hb1.size)))
  have HP := Lib.hid (show ∀ x ∈ xs, x.r.pay.length ≤ 30000 from fun x hx => (HSG.out.1 x.r (by rw [hs]; exact List.mem_map.2 ⟨x, hx, rfl⟩)).short)
  have HXL : Hid ((xs.map X.r).length = xs.length) := Lib.hid (List.length_map _)
  have HS0 := Lib.hid (NS2.start W1 (xs.map X.r))
  clear hrr hb1 hs hR1 hc1 HSC
  generalize hN : xs.length = N at *
  clear hN
  go_wp2_with fail
  go_loopw [7, 8, 19] (fun v va i wr => ∃ k : Nat, k ≤ N ∧ i = .int .i64 k ∧ Hid (NS2 W1 (xs.map X.r) k v va wr)) (fun _ _ i _ => N - (intOf i).toNat)
  case atStart => exact ⟨0, Nat.zero_le _, rfl, HS0⟩
  case round =>
    obtain ⟨k, hk, rfl, HS⟩ := hrel
    by_cases hlt : k < N
    · obtain ⟨ys, s1, s2, s3, s4, s5, s6⟩ := HS.out
      obtain ⟨b, o, x, rfl, hx, c0, c1', c2, cB⟩ := (readsBelow HR1.out s4).2 k hlt
      have hpl := HP.out x (List.mem_of_getElem? hx)
      have hxr : (xs.map X.r)[k]? = some x.r := by rw [List.getElem?_map, hx]; rfl
      obtain ⟨⟨a, kd, pay⟩, Ax, nx, cx⟩ := x
      simp only [] at c0 c1' c2 cB hpl hxr
      have hnx : nx ≤ 100000 := by have := cB.1; omega
      have HXR := Lib.hid hxr
      have hblt := block_lt_of_cell c0
      have HCX := Lib.hid (fun (w' : World) (hw : Below wr.heap.size wr w') => And.intro ((hw.cell (p := ⟨b, o + k * 3, none⟩) hblt).trans c0) (And.intro ((hw.cell (p := ⟨b, o + k * 3 + 1, none⟩) hblt).trans c1') ((hw.cell (p := ⟨b, o + k * 3 + 2, none⟩) hblt).trans c2)))
      have HBX := Lib.hid (fun (w' : World) (hw : Below wr.heap.size wr w') => cB.below cB.lt hw)
      have HFit := Lib.hid (fun (w' : World) (hw : Below wr.heap.size wr w') => HFit.out w' (s4.trans (hw.mono s4.size)))
      have HST := Lib.hid (show Below wr.heap.size wr wr.drew from codec.below_draws (Below.refl _ _) 1)
      have HW14 := Lib.hid s4
      have hlt' : (k : Int) < (N : Int) := by omega
      cases hd : dec kd pay with
      | none =>
        have HD := Lib.hid hd
        have HSk := Lib.hid (HS.out.skip hxr hd)
        clear hx hxr hd s1 s2 s3 s4 s5 s6 cB hpl c0 c1' c2 hblt HXR
        go_upto_region 7 with (fail)
        go_cut [10, 11] from 20 to 50 (fun s10 s11 wx => ∃ p : Nat, s10 = .pointer (some ⟨p, 0, none⟩) ∧ s11 = .int .i64 2 ∧ Hid (Below wr.heap.size wr wx))
        case first =>
            refine wp_region_noPanic ?_
            refine wp_region_held_drew (S := fun w' => Below wr.heap.size wr w') (by kernel_rfl) HST.out (fun hHeld => ?_)
            refine wpAnyH_take (i := 0) (v := ?_) rfl (by kernel_rfl) (by kernel_rfl) (by kernel_rfl) (fun _ _ _ h => h) (Or.inl ⟨by kernel_rfl, ?_⟩) hHeld ?_
            rotate_left
            · (intro w' hw'; go_simp; first | done | with_reducible rfl)
            refine wpAnyH_take (i := 1) (v := ?_) rfl (by kernel_rfl) (by kernel_rfl) (by kernel_rfl) (fun _ _ _ h => h) (Or.inl ⟨by kernel_rfl, ?_⟩) hHeld ?_
            rotate_left
            · (intro w' hw'; go_simp; first | done | with_reducible rfl)
            refine wpAnyH_take (i := 2) (v := ?_) rfl (by kernel_rfl) (by kernel_rfl) (by kernel_rfl) (fun _ _ _ h => h) (Or.inl ⟨by kernel_rfl, ?_⟩) hHeld ?_
            rotate_left
            · (intro w' hw'; go_simp; first | done | with_reducible rfl)
            refine wpAnyH_take (i := 3) (v := ?_) rfl (by kernel_rfl) (by kernel_rfl) (by kernel_rfl) (fun _ _ _ h => h) (Or.inl ⟨by kernel_rfl, ?_⟩) hHeld ?_
            rotate_left
            · (intro w' hw'; go_simp; first | done | with_reducible rfl)
            refine wpAnyH_take (i := 4) (v := ?_) rfl (by kernel_rfl) (by kernel_rfl) (by kernel_rfl) (fun _ _ _ h => h) (Or.inl ⟨by kernel_rfl, ?_⟩) hHeld ?_
            rotate_left
            · (intro w' hw'; obtain ⟨x0, x1, x2⟩ := HCX.out _ hw'; go_simp; first | done | with_reducible rfl)
            refine wpAnyH_take (i := 5) (v := ?_) rfl (by kernel_rfl) (by kernel_rfl) (by kernel_rfl) (fun _ _ _ h => h) (Or.inl ⟨by kernel_rfl, ?_⟩) hHeld ?_
            rotate_left
            · (intro w' hw'; go_simp; first | done | with_reducible rfl)
            refine wpAnyH_take (i := 6) (v := ?_) rfl (by kernel_rfl) (by kernel_rfl) (by kernel_rfl) (fun _ _ _ h => h) (Or.inl ⟨by kernel_rfl, ?_⟩) hHeld ?_
            rotate_left
            · (intro w' hw'; go_simp; first | done | with_reducible rfl)
            refine wpAnyH_take (i := 7) (v := ?_) rfl (by kernel_rfl) (by kernel_rfl) (by kernel_rfl) (fun _ _ _ h => h) (Or.inl ⟨by kernel_rfl, ?_⟩) hHeld ?_
            rotate_left
            · (intro w' hw'; go_simp; first | done | with_reducible rfl)
            refine wpAnyH_take (i := 8) (v := ?_) rfl (by kernel_rfl) (by kernel_rfl) (by kernel_rfl) (fun _ _ _ h => h) (Or.inl ⟨by kernel_rfl, ?_⟩) hHeld ?_
            rotate_left
            · (intro w' hw'; go_simp; first | done | with_reducible rfl)
            refine wpAnyH_take (i := 9) (v := ?_) rfl (by kernel_rfl) (by kernel_rfl) (by kernel_rfl) (fun _ _ _ h => h) (Or.inl ⟨by kernel_rfl, ?_⟩) hHeld ?_
            rotate_left
            · (intro w' hw'; obtain ⟨x0, x1, x2⟩ := HCX.out _ hw'; go_simp; first | done | with_reducible rfl)
            refine wpAnyH_ready (rs := [10, 14]) (by kernel_rfl) (by simp) ?_
            refine AllReadyH.cons rfl (fun K hK => ?_) (AllReadyH.cons rfl (fun K hK => ?_) AllReadyH.nil)
            · go_simp
              refine (dec_none _ kd Ax nx cx pay (HBX.out _ hHeld) hnx (HFit.out _ hHeld) HD.out).mono ?_
              rintro x w5 ⟨rfl, hb5⟩
              have hS5 := hHeld.trans (hb5.mono hHeld.size)
              go_wp2_with fail
              refine hK.out _ _ hS5 (fun hH1 => ?_)
              clear hK K
              refine wpAnyH_take (i := 11) (v := ?_) rfl (by kernel_rfl) (by kernel_rfl) (by kernel_rfl) (fun _ _ _ h => h) (Or.inl ⟨by kernel_rfl, ?_⟩) hH1 ?_
              rotate_left
              · (intro w' hw'; go_simp; first | done | with_reducible rfl)
              refine wpAnyH_take (i := 12) (v := ?_) rfl (by kernel_rfl) (by kernel_rfl) (by kernel_rfl) (fun _ _ _ h => h) (Or.inl ⟨by kernel_rfl, ?_⟩) hH1 ?_
              rotate_left
              · (intro w' hw'; go_simp; first | done | with_reducible rfl)
              refine wpAnyH_take (i := 13) (v := ?_) rfl (by kernel_rfl) (by kernel_rfl) (by kernel_rfl) (fun _ _ _ h => h) (Or.inl ⟨by kernel_rfl, ?_⟩) hH1 ?_
              rotate_left
              · (intro w' hw'; go_simp; first | done | with_reducible rfl)
              have hS2 := hS5.alloc hS5.size (.cells #[.int .i64 0, .int .u32 0, .string ⟨#[]⟩, .int .u32 0, .int .i64 0, .int .i64 0, .slice none 0 0] 100)
              refine wpAnyH_ready (rs := [14]) (by kernel_rfl) (by simp) ?_
              refine AllReadyH.cons rfl (fun K hK => ?_) AllReadyH.nil
              go_simp
              refine hK _ _ hS2 (fun hH2 => ?_)
              clear hK K hH1
              have hS3 := hS5.alloc hS5.size (.cells #[.int .i64 0, .int .u32 0, .string ⟨#[]⟩, .int .u32 0, .int .i64 0, .int .i64 0, .slice none 0 0] 100)
              refine wpAnyH_ready (rs := [15]) (by kernel_rfl) (by simp) ?_
              refine AllReadyH.cons rfl (fun K hK => ?_) AllReadyH.nil
              go_simp
              refine hK _ _ hS3 (fun hH3 => ?_)
              clear hK K hH2
              refine wpAnyH_take (i := 16) (v := ?_) rfl (by kernel_rfl) (by kernel_rfl) (by kernel_rfl) (fun _ _ _ h => h) (Or.inl ⟨by kernel_rfl, ?_⟩) hH3 ?_
              rotate_left
              · (intro w' hw'; go_simp; first | done | with_reducible rfl)
              have HHP := Lib.hid (heap_alloc_new w5 (.cells #[.int .i64 0, .int .u32 0, .string ⟨#[]⟩, .int .u32 0, .int .i64 0, .int .i64 0, .slice none 0 0] 100))
              have HLP := Lib.hid (show wr.heap.size ≤ w5.heap.size from hS5.size)
              clear hb5 hHeld hS2
              generalize w5.alloc (.cells #[.int .i64 0, .int .u32 0, .string ⟨#[]⟩, .int .u32 0, .int .i64 0, .int .i64 0, .slice none 0 0] 100) = w6 at *
              generalize w5.heap.size = p at *
              refine wpAnyH_done (by kernel_rfl) ?_ _
              refine NoPanic.normal ?_
              go_simp
              clear hH3 hS5
              go_wp2_with fail
              go_meet
              exact ⟨p, rfl, rfl, Lib.hid hS3⟩
            · have hS0 : Below wr.heap.size wr (wr.alloc (.cells #[.int .i64 0, .int .u32 0, .string ⟨#[]⟩, .int .u32 0, .int .i64 0, .int .i64 0, .slice none 0 0] 100)).drew := ((Below.refl _ _).alloc (Nat.le_refl _) _).drew
              go_simp
              refine hK _ _ hS0 (fun hH0 => ?_)
              clear hK K hHeld
              have hz0 : (wr.alloc (.cells #[.int .i64 0, .int .u32 0, .string ⟨#[]⟩, .int .u32 0, .int .i64 0, .int .i64 0, .slice none 0 0] 100)).drew.heap[wr.heap.size]? = some (.cells #[.int .i64 0, .int .u32 0, .string ⟨#[]⟩, .int .u32 0, .int .i64 0, .int .i64 0, .slice none 0 0] 100 (0, 0)) := heap_alloc_new wr _
              have hz1 : wr.heap.size < (wr.alloc (.cells #[.int .i64 0, .int .u32 0, .string ⟨#[]⟩, .int .u32 0, .int .i64 0, .int .i64 0, .slice none 0 0] 100)).drew.heap.size := by simp
              generalize (wr.alloc (.cells #[.int .i64 0, .int .u32 0, .string ⟨#[]⟩, .int .u32 0, .int .i64 0, .int .i64 0, .slice none 0 0] 100)).drew = w4 at *
              refine wpAnyH_ready (rs := [10]) (by kernel_rfl) (by simp) ?_
              refine AllReadyH.cons rfl (fun K hK => ?_) AllReadyH.nil
              go_simp
              refine (dec_none _ kd Ax nx cx pay (HBX.out _ hH0) hnx (HFit.out _ hH0) HD.out).mono ?_
              rintro x w5 ⟨rfl, hb5⟩
              have hS5 := hS0.trans (hb5.mono hS0.size)
              have hz5 := (hb5.block _ hz1).trans hz0
              go_wp2_with fail
              refine hK.out _ _ hS5 (fun hH1 => ?_)
              clear hK K
              refine wpAnyH_take (i := 11) (v := ?_) rfl (by kernel_rfl) (by kernel_rfl) (by kernel_rfl) (fun _ _ _ h => h) (Or.inl ⟨by kernel_rfl, ?_⟩) hH1 ?_
              rotate_left
              · (intro w' hw'; go_simp; first | done | with_reducible rfl)
              refine wpAnyH_take (i := 12) (v := ?_) rfl (by kernel_rfl) (by kernel_rfl) (by kernel_rfl) (fun _ _ _ h => h) (Or.inl ⟨by kernel_rfl, ?_⟩) hH1 ?_
              rotate_left
              · (intro w' hw'; go_simp; first | done | with_reducible rfl)
              refine wpAnyH_take (i := 13) (v := ?_) rfl (by kernel_rfl) (by kernel_rfl) (by kernel_rfl) (fun _ _ _ h => h) (Or.inl ⟨by kernel_rfl, ?_⟩) hH1 ?_
              rotate_left
              · (intro w' hw'; go_simp; first | done | with_reducible rfl)
              have h7 := bod.seven hz5 rfl (.int .i64 0) (.int .u32 0) (.string ⟨#[]⟩) (.int .u32 0) (.int .i64 0) (.int .i64 0) (.slice none 0 0)
              have hS3 := h7.2.2 _ _ hS5 (Nat.le_refl _)
              have e0 := cell_at hz5 0 _ rfl
              have f0 := frozen_of_row _ _ 0 _ _ hz5
              have e1 := cell_at hz5 1 _ rfl
              have f1 := frozen_of_row _ _ 1 _ _ hz5
              have e2 := cell_at hz5 2 _ rfl
              have f2 := frozen_of_row _ _ 2 _ _ hz5
              have e3 := cell_at hz5 3 _ rfl
              have f3 := frozen_of_row _ _ 3 _ _ hz5
              have e4 := cell_at hz5 4 _ rfl
              have f4 := frozen_of_row _ _ 4 _ _ hz5
              have e5 := cell_at hz5 5 _ rfl
              have f5 := frozen_of_row _ _ 5 _ _ hz5
              have e6 := cell_at hz5 6 _ rfl
              have f6 := frozen_of_row _ _ 6 _ _ hz5
              refine wpAnyH_ready (rs := [15]) (by kernel_rfl) (by simp) ?_
              refine AllReadyH.cons rfl (fun K hK => ?_) AllReadyH.nil
              go_simp
              refine hK _ _ hS3 (fun hH3 => ?_)
              clear hK K hH1 hH0
              refine wpAnyH_take (i := 16) (v := ?_) rfl (by kernel_rfl) (by kernel_rfl) (by kernel_rfl) (fun _ _ _ h => h) (Or.inl ⟨by kernel_rfl, ?_⟩) hH3 ?_
              rotate_left
              · (intro w' hw'; go_simp; first | done | with_reducible rfl)
              have HHP := Lib.hid h7.1
              have HLP := Lib.hid (Nat.le_refl wr.heap.size)
              clear h7 hb5 hS0 hz0 hz1 hz5 e0 e1 e2 e3 e4 e5 e6 f0 f1 f2 f3 f4 f5 f6 hS5
              generalize ((((((((((((((w5).setCell ⟨wr.heap.size, 0, none⟩ (.int .i64 0))).setCell ⟨wr.heap.size, 1, none⟩ (.int .u32 0))).setCell ⟨wr.heap.size, 2, none⟩ (.string ⟨#[]⟩))).setCell ⟨wr.heap.size, 3, none⟩ (.int .u32 0))).setCell ⟨wr.heap.size, 4, none⟩ (.int .i64 0))).setCell ⟨wr.heap.size, 5, none⟩ (.int .i64 0))).setCell ⟨wr.heap.size, 6, none⟩ (.slice none 0 0)) = w6 at *
              obtain ⟨p, hp⟩ : ∃ p, p = wr.heap.size := ⟨_, rfl⟩
              rw [← hp] at HHP ⊢
              have HLP : Hid (wr.heap.size ≤ p) := Lib.hid (by omega)
              clear hp
              refine wpAnyH_done (by kernel_rfl) ?_ _
              refine NoPanic.normal ?_
              go_simp
              clear hH3
              go_wp2_with fail
              go_meet
              exact ⟨p, rfl, rfl, Lib.hid hS3⟩
        case rest =>
          obtain ⟨p, rfl, rfl, HBc⟩ := hcut
          have HS2 := Lib.hid (HSk.out.below HBc.out)
          clear hnx
          go_wp2_with fail
          go_roundw
          case rel => first | exact ⟨k + 1, by omega, by go_num, HS2⟩ | ((repeat apply Exists.intro); exact ⟨⟨k + 1, by omega, by go_num, HS2⟩, rfl⟩)
          case measure => (show N - ((k : Int) + 1).toNat < N - k; omega)
      | some t =>
        obtain ⟨tk, te, ts, tu, td, tf, to_⟩ := t
        have HD := Lib.hid hd
        clear hx hxr hd s1 s2 s3 s4 s5 s6 cB hpl c0 c1' c2 hblt
        go_upto_region 7 with (fail)
        go_cut [10, 11] from 20 to 50 (fun s10 s11 wx => ∃ (p : Nat) (A' : Option Addr) (m' c' : Nat), s10 = .pointer (some ⟨p, 0, none⟩) ∧ s11 = .int .i64 0 ∧ Hid (Below wr.heap.size wr wx) ∧ Hid (wx.heap[p]? = some (.cells #[.int .i64 (tk : Nat), .int .u32 (te : Nat), .string ts, .int .u32 (tu : Nat), .int .i64 td, .int .i64 tf, .slice A' m' c'] 100 (0, 0))) ∧ Hid (Bytes wx A' m' to_ ∧ (A' = none → c' = 0) ∧ ∀ ad, A' = some ad → wr.heap.size ≤ ad.block) ∧ Hid (wr.heap.size ≤ p))
        case first =>
            refine wp_region_noPanic ?_
            refine wp_region_held_drew (S := fun w' => Below wr.heap.size wr w') (by kernel_rfl) HST.out (fun hHeld => ?_)
            refine wpAnyH_take (i := 0) (v := ?_) rfl (by kernel_rfl) (by kernel_rfl) (by kernel_rfl) (fun _ _ _ h => h) (Or.inl ⟨by kernel_rfl, ?_⟩) hHeld ?_
            rotate_left
            · (intro w' hw'; go_simp; first | done | with_reducible rfl)
            refine wpAnyH_take (i := 1) (v := ?_) rfl (by kernel_rfl) (by kernel_rfl) (by kernel_rfl) (fun _ _ _ h => h) (Or.inl ⟨by kernel_rfl, ?_⟩) hHeld ?_
            rotate_left
            · (intro w' hw'; go_simp; first | done | with_reducible rfl)
            refine wpAnyH_take (i := 2) (v := ?_) rfl (by kernel_rfl) (by kernel_rfl) (by kernel_rfl) (fun _ _ _ h => h) (Or.inl ⟨by kernel_rfl, ?_⟩) hHeld ?_
            rotate_left
            · (intro w' hw'; go_simp; first | done | with_reducible rfl)
            refine wpAnyH_take (i := 3) (v := ?_) rfl (by kernel_rfl) (by kernel_rfl) (by kernel_rfl) (fun _ _ _ h => h) (Or.inl ⟨by kernel_rfl, ?_⟩) hHeld ?_
            rotate_left
            · (intro w' hw'; go_simp; first | done | with_reducible rfl)
            refine wpAnyH_take (i := 4) (v := ?_) rfl (by kernel_rfl) (by kernel_rfl) (by kernel_rfl) (fun _ _ _ h => h) (Or.inl ⟨by kernel_rfl, ?_⟩) hHeld ?_
            rotate_left
            · (intro w' hw'; obtain ⟨x0, x1, x2⟩ := HCX.out _ hw'; go_simp; first | done | with_reducible rfl)
            refine wpAnyH_take (i := 5) (v := ?_) rfl (by kernel_rfl) (by kernel_rfl) (by kernel_rfl) (fun _ _ _ h => h) (Or.inl ⟨by kernel_rfl, ?_⟩) hHeld ?_
            rotate_left
            · (intro w' hw'; go_simp; first | done | with_reducible rfl)
            refine wpAnyH_take (i := 6) (v := ?_) rfl (by kernel_rfl) (by kernel_rfl) (by kernel_rfl) (fun _ _ _ h => h) (Or.inl ⟨by kernel_rfl, ?_⟩) hHeld ?_
            rotate_left
            · (intro w' hw'; go_simp; first | done | with_reducible rfl)
            refine wpAnyH_take (i := 7) (v := ?_) rfl (by kernel_rfl) (by kernel_rfl) (by kernel_rfl) (fun _ _ _ h => h) (Or.inl ⟨by kernel_rfl, ?_⟩) hHeld ?_
            rotate_left
            · (intro w' hw'; go_simp; first | done | with_reducible rfl)
            refine wpAnyH_take (i := 8) (v := ?_) rfl (by kernel_rfl) (by kernel_rfl) (by kernel_rfl) (fun _ _ _ h => h) (Or.inl ⟨by kernel_rfl, ?_⟩) hHeld ?_
            rotate_left
            · (intro w' hw'; go_simp; first | done | with_reducible rfl)
            refine wpAnyH_take (i := 9) (v := ?_) rfl (by kernel_rfl) (by kernel_rfl) (by kernel_rfl) (fun _ _ _ h => h) (Or.inl ⟨by kernel_rfl, ?_⟩) hHeld ?_
            rotate_left
            · (intro w' hw'; obtain ⟨x0, x1, x2⟩ := HCX.out _ hw'; go_simp; first | done | with_reducible rfl)
            refine wpAnyH_ready (rs := [10, 14]) (by kernel_rfl) (by simp) ?_
            refine AllReadyH.cons rfl (fun K hK => ?_) (AllReadyH.cons rfl (fun K hK => ?_) AllReadyH.nil)
            · go_simp
              refine (dec_some _ kd Ax nx cx pay (HBX.out _ hHeld) hnx (HFit.out _ hHeld) _ HD.out).mono ?_
              rintro x w5 ⟨A', m', c', rfl, hnew⟩
              have hb5 := hnew.2.2.2
              have hS5 := hHeld.trans (hb5.mono hHeld.size)
              go_wp2_with fail
              refine hK.out _ _ hS5 (fun hH1 => ?_)
              clear hK K
              refine wpAnyH_take (i := 11) (v := ?_) rfl (by kernel_rfl) (by kernel_rfl) (by kernel_rfl) (fun _ _ _ h => h) (Or.inl ⟨by kernel_rfl, ?_⟩) hH1 ?_
              rotate_left
              · (intro w' hw'; go_simp; first | done | with_reducible rfl)
              refine wpAnyH_take (i := 12) (v := ?_) rfl (by kernel_rfl) (by kernel_rfl) (by kernel_rfl) (fun _ _ _ h => h) (Or.inl ⟨by kernel_rfl, ?_⟩) hH1 ?_
              rotate_left
              · (intro w' hw'; go_simp; first | done | with_reducible rfl)
              refine wpAnyH_take (i := 13) (v := ?_) rfl (by kernel_rfl) (by kernel_rfl) (by kernel_rfl) (fun _ _ _ h => h) (Or.inl ⟨by kernel_rfl, ?_⟩) hH1 ?_
              rotate_left
              · (intro w' hw'; go_simp; first | done | with_reducible rfl)
              have hS2 := hS5.alloc hS5.size (.cells #[.int .i64 0, .int .u32 0, .string ⟨#[]⟩, .int .u32 0, .int .i64 0, .int .i64 0, .slice none 0 0] 100)
              refine wpAnyH_ready (rs := [14]) (by kernel_rfl) (by simp) ?_
              refine AllReadyH.cons rfl (fun K hK => ?_) AllReadyH.nil
              go_simp
              refine hK _ _ hS2 (fun hH2 => ?_)
              clear hK K hH1
              have hS3 := hS5.alloc hS5.size (.cells #[.int .i64 (tk : Nat), .int .u32 (te : Nat), .string ts, .int .u32 (tu : Nat), .int .i64 td, .int .i64 tf, .slice A' m' c'] 100)
              refine wpAnyH_ready (rs := [15]) (by kernel_rfl) (by simp) ?_
              refine AllReadyH.cons rfl (fun K hK => ?_) AllReadyH.nil
              go_simp
              refine hK _ _ hS3 (fun hH3 => ?_)
              clear hK K hH2
              refine wpAnyH_take (i := 16) (v := ?_) rfl (by kernel_rfl) (by kernel_rfl) (by kernel_rfl) (fun _ _ _ h => h) (Or.inl ⟨by kernel_rfl, ?_⟩) hH3 ?_
              rotate_left
              · (intro w' hw'; go_simp; first | done | with_reducible rfl)
              have HHP := Lib.hid (heap_alloc_new w5 (.cells #[.int .i64 (tk : Nat), .int .u32 (te : Nat), .string ts, .int .u32 (tu : Nat), .int .i64 td, .int .i64 tf, .slice A' m' c'] 100))
              have HLP := Lib.hid (show wr.heap.size ≤ w5.heap.size from hS5.size)
              have HNW : Hid (Bytes (w5.alloc (.cells #[.int .i64 (tk : Nat), .int .u32 (te : Nat), .string ts, .int .u32 (tu : Nat), .int .i64 td, .int .i64 tf, .slice A' m' c'] 100)) A' m' to_ ∧ (A' = none → c' = 0) ∧ ∀ ad, A' = some ad → wr.heap.size ≤ ad.block) := Lib.hid ⟨hnew.1.alloc _, hnew.2.1, fun ad e => Nat.le_trans hHeld.size (hnew.2.2.1 ad e)⟩
              have HPN := Lib.hid (show True from trivial)
              clear hnew
              clear hb5 hHeld hS2
              generalize w5.alloc (.cells #[.int .i64 (tk : Nat), .int .u32 (te : Nat), .string ts, .int .u32 (tu : Nat), .int .i64 td, .int .i64 tf, .slice A' m' c'] 100) = w6 at *
              generalize w5.heap.size = p at *
              refine wpAnyH_done (by kernel_rfl) ?_ _
              refine NoPanic.normal ?_
              go_simp
              clear hH3 hS5
              go_wp2_with fail
              go_meet
              exact ⟨p, A', m', c', rfl, rfl, Lib.hid hS3, HHP, HNW, HLP⟩
            · have hS0 : Below wr.heap.size wr (wr.alloc (.cells #[.int .i64 0, .int .u32 0, .string ⟨#[]⟩, .int .u32 0, .int .i64 0, .int .i64 0, .slice none 0 0] 100)).drew := ((Below.refl _ _).alloc (Nat.le_refl _) _).drew
              go_simp
              refine hK _ _ hS0 (fun hH0 => ?_)
              clear hK K hHeld
              have hz0 : (wr.alloc (.cells #[.int .i64 0, .int .u32 0, .string ⟨#[]⟩, .int .u32 0, .int .i64 0, .int .i64 0, .slice none 0 0] 100)).drew.heap[wr.heap.size]? = some (.cells #[.int .i64 0, .int .u32 0, .string ⟨#[]⟩, .int .u32 0, .int .i64 0, .int .i64 0, .slice none 0 0] 100 (0, 0)) := heap_alloc_new wr _
              have hz1 : wr.heap.size < (wr.alloc (.cells #[.int .i64 0, .int .u32 0, .string ⟨#[]⟩, .int .u32 0, .int .i64 0, .int .i64 0, .slice none 0 0] 100)).drew.heap.size := by simp
              generalize (wr.alloc (.cells #[.int .i64 0, .int .u32 0, .string ⟨#[]⟩, .int .u32 0, .int .i64 0, .int .i64 0, .slice none 0 0] 100)).drew = w4 at *
              refine wpAnyH_ready (rs := [10]) (by kernel_rfl) (by simp) ?_
              refine AllReadyH.cons rfl (fun K hK => ?_) AllReadyH.nil
              go_simp
              refine (dec_some _ kd Ax nx cx pay (HBX.out _ hH0) hnx (HFit.out _ hH0) _ HD.out).mono ?_
              rintro x w5 ⟨A', m', c', rfl, hnew⟩
              have hb5 := hnew.2.2.2
              have hS5 := hS0.trans (hb5.mono hS0.size)
              have hz5 := (hb5.block _ hz1).trans hz0
              go_wp2_with fail
              refine hK.out _ _ hS5 (fun hH1 => ?_)
              clear hK K
              refine wpAnyH_take (i := 11) (v := ?_) rfl (by kernel_rfl) (by kernel_rfl) (by kernel_rfl) (fun _ _ _ h => h) (Or.inl ⟨by kernel_rfl, ?_⟩) hH1 ?_
              rotate_left
              · (intro w' hw'; go_simp; first | done | with_reducible rfl)
              refine wpAnyH_take (i := 12) (v := ?_) rfl (by kernel_rfl) (by kernel_rfl) (by kernel_rfl) (fun _ _ _ h => h) (Or.inl ⟨by kernel_rfl, ?_⟩) hH1 ?_
              rotate_left
              · (intro w' hw'; go_simp; first | done | with_reducible rfl)
              refine wpAnyH_take (i := 13) (v := ?_) rfl (by kernel_rfl) (by kernel_rfl) (by kernel_rfl) (fun _ _ _ h => h) (Or.inl ⟨by kernel_rfl, ?_⟩) hH1 ?_
              rotate_left
              · (intro w' hw'; go_simp; first | done | with_reducible rfl)
              have h7 := bod.seven hz5 rfl (.int .i64 (tk : Nat)) (.int .u32 (te : Nat)) (.string ts) (.int .u32 (tu : Nat)) (.int .i64 td) (.int .i64 tf) (.slice A' m' c')
              have hS3 := h7.2.2 _ _ hS5 (Nat.le_refl _)
              have e0 := cell_at hz5 0 _ rfl
              have f0 := frozen_of_row _ _ 0 _ _ hz5
              have e1 := cell_at hz5 1 _ rfl
              have f1 := frozen_of_row _ _ 1 _ _ hz5
              have e2 := cell_at hz5 2 _ rfl
              have f2 := frozen_of_row _ _ 2 _ _ hz5
              have e3 := cell_at hz5 3 _ rfl
              have f3 := frozen_of_row _ _ 3 _ _ hz5
              have e4 := cell_at hz5 4 _ rfl
              have f4 := frozen_of_row _ _ 4 _ _ hz5
              have e5 := cell_at hz5 5 _ rfl
              have f5 := frozen_of_row _ _ 5 _ _ hz5
              have e6 := cell_at hz5 6 _ rfl
              have f6 := frozen_of_row _ _ 6 _ _ hz5
              refine wpAnyH_ready (rs := [15]) (by kernel_rfl) (by simp) ?_
              refine AllReadyH.cons rfl (fun K hK => ?_) AllReadyH.nil
              go_simp
              refine hK _ _ hS3 (fun hH3 => ?_)
              clear hK K hH1 hH0
              refine wpAnyH_take (i := 16) (v := ?_) rfl (by kernel_rfl) (by kernel_rfl) (by kernel_rfl) (fun _ _ _ h => h) (Or.inl ⟨by kernel_rfl, ?_⟩) hH3 ?_
              rotate_left
              · (intro w' hw'; go_simp; first | done | with_reducible rfl)
              have HHP := Lib.hid h7.1
              have HLP := Lib.hid (Nat.le_refl wr.heap.size)
              have HNW : Hid (Bytes ((((((((((((((w5).setCell ⟨wr.heap.size, 0, none⟩ (.int .i64 (tk : Nat)))).setCell ⟨wr.heap.size, 1, none⟩ (.int .u32 (te : Nat)))).setCell ⟨wr.heap.size, 2, none⟩ (.string ts))).setCell ⟨wr.heap.size, 3, none⟩ (.int .u32 (tu : Nat)))).setCell ⟨wr.heap.size, 4, none⟩ (.int .i64 td))).setCell ⟨wr.heap.size, 5, none⟩ (.int .i64 tf))).setCell ⟨wr.heap.size, 6, none⟩ (.slice A' m' c')) A' m' to_ ∧ (A' = none → c' = 0) ∧ ∀ ad, A' = some ad → wr.heap.size ≤ ad.block) := Lib.hid ⟨hnew.1.kept fun ad e h0 => h7.2.1 _ (by have h1 := hnew.2.2.1 ad e; omega), hnew.2.1, fun ad e => Nat.le_trans hS0.size (hnew.2.2.1 ad e)⟩
              clear hnew
              clear h7 hb5 hS0 hz0 hz1 hz5 e0 e1 e2 e3 e4 e5 e6 f0 f1 f2 f3 f4 f5 f6 hS5
              generalize ((((((((((((((w5).setCell ⟨wr.heap.size, 0, none⟩ (.int .i64 (tk : Nat)))).setCell ⟨wr.heap.size, 1, none⟩ (.int .u32 (te : Nat)))).setCell ⟨wr.heap.size, 2, none⟩ (.string ts))).setCell ⟨wr.heap.size, 3, none⟩ (.int .u32 (tu : Nat)))).setCell ⟨wr.heap.size, 4, none⟩ (.int .i64 td))).setCell ⟨wr.heap.size, 5, none⟩ (.int .i64 tf))).setCell ⟨wr.heap.size, 6, none⟩ (.slice A' m' c')) = w6 at *
              obtain ⟨p, hp⟩ : ∃ p, p = wr.heap.size := ⟨_, rfl⟩
              rw [← hp] at HHP ⊢
              have HLP : Hid (wr.heap.size ≤ p) := Lib.hid (by omega)
              clear hp
              refine wpAnyH_done (by kernel_rfl) ?_ _
              refine NoPanic.normal ?_
              go_simp
              clear hH3
              go_wp2_with fail
              go_meet
              exact ⟨p, A', m', c', rfl, rfl, Lib.hid hS3, HHP, HNW, HLP⟩
        case rest =>
          obtain ⟨p, A', m', c', rfl, rfl, HBc, HHP, HNW, HLP⟩ := hcut
          obtain ⟨ys, s1, s2, s3, s4, s5, s6⟩ := HS.out
          have S1 := Lib.hid (s1.below HBc.out)
          have S2 := Lib.hid (s2.below HBc.out)
          have S3 := Lib.hid s3
          have S4 := Lib.hid (s4.trans (HBc.out.mono s4.size))
          have S5 := Lib.hid s5
          have S6 := Lib.hid s6
          have HA1 := Lib.hid (show ∀ ad, A' = some ad → 0 < m' → u7.ownBlock ≠ some ad.block from fun ad e h0 e' => by
            have h1 := HNW.out.2.2 ad e
            have h2 := (s1.lt e').2
            omega)
          have HA2 := Lib.hid (show ∀ ad, A' = some ad → 0 < m' → u8.ownBlock ≠ some ad.block from fun ad e h0 e' => by
            have h1 := HNW.out.2.2 ad e
            have h2 := (s2.lt e').2
            omega)
          have q0 := cell_at HHP.out 0 _ rfl
          have q1 := cell_at HHP.out 1 _ rfl
          have q2 := cell_at HHP.out 2 _ rfl
          have q3 := cell_at HHP.out 3 _ rfl
          have q4 := cell_at HHP.out 4 _ rfl
          have q5 := cell_at HHP.out 5 _ rfl
          have q6 := cell_at HHP.out 6 _ rfl
          have hx0 := (HCX.out _ HBc.out).1
          have hpc := block_lt_of_cell q0
          have hbw : b < W1.heap.size := by
            obtain ⟨b', o', x', e1, _, e3, _⟩ := HR1.out.2 k hlt
            cases e1
            exact block_lt_of_cell e3
          have HRC := Lib.hid (fun (w2 : World) (hw : Below W1.heap.size W1 w2) => show w2.cell? ⟨b, o + k * 3, none⟩ = some (.int .i64 (a : Nat)) from by
            rw [← hx0, hw.cell (p := ⟨b, o + k * 3, none⟩) hbw, S4.out.cell (p := ⟨b, o + k * 3, none⟩) hbw])
          clear s1 s2 s3 s4 s5 s6 hnx
          go_wp2_with (first
            | (at_builtin; refine wpList_append_own fN (by decide) (by decide) (by decide) rfl rfl (.tmp 38) (.tmp 40) 50 62 rfl Tryz.underlying50 infoN W1.heap.size u7 ys rfl S1.out S4.out.size (by have := S6.out; omega) ⟨⟨tk, te, ts, tu, td, tf, to_⟩, a, A', m', c'⟩ (0, 0) _ rfl rfl _ rfl ⟨HNW.out.1, HNW.out.2.1⟩ HA1.out ?_; intro v' w2 ho hgr hat; have HO1 := Lib.hid (And.intro ho (And.intro hgr hat)); have HP2 := Lib.hid (two_first (y := ⟨⟨tk, te, ts, tu, td, tf, to_⟩, a, A', m', c'⟩) (v' := v') S1.out S2.out S3.out hgr); have HB2 := Lib.hid (grown_below S4.out S1.out hgr); have hx2 := HRC.out _ HB2.out; clear ho hgr hat)
            | (at_builtin; refine wpList_append_own fP (by decide) (by decide) (by decide) rfl rfl (.tmp 42) (.tmp 48) 51 3 rfl Tryz.underlying51 infoI W1.heap.size u8 ys rfl HP2.out HB2.out.size (by have := S6.out; omega) ⟨⟨tk, te, ts, tu, td, tf, to_⟩, a, A', m', c'⟩ (0, 0) _ rfl rfl _ rfl ((HO1.out.1.2 _ (by simp)).1) HA2.out ?_; intro va' w3 ho2 hgr2 hat2; have HS3 := Lib.hid (NS2.more HXR.out HD.out S1.out S2.out S3.out S4.out S5.out S6.out HA2.out HO1.out.1 HO1.out.2.1 HO1.out.2.2 ho2 hgr2 hat2); clear ho2 hgr2 hat2))
          go_roundw
          case rel => first | exact ⟨k + 1, by omega, by go_num, HS3⟩ | ((repeat apply Exists.intro); exact ⟨⟨k + 1, by omega, by go_num, HS3⟩, rfl⟩)
          case measure => (show N - ((k : Int) + 1).toNat < N - k; omega)
    · obtain rfl : k = N := by omega
      obtain ⟨ys, s1, s2, s3, s4, s5, s6⟩ := HS.out
      obtain ⟨A2, c2, rfl, hc2, -, hR2⟩ := s1.rd fN
      have HR2 := Lib.hid hR2
      have HE := Lib.hid (And.intro s5 (And.intro s6 s4))
      clear s1 s2 s3 s4 s5 s6 hc2 hR2
      go_wp2_with fail
      go_ret3
      refine ⟨A2, ys.length, c2, u8, ys, ?_, HR2.out, ?_, ?_, HB1.out.trans (HE.out.2.2.mono HB1.out.size)⟩
      · rw [HXS.out]
        rfl
      · have h1 := HE.out.2.1
        omega
      · have h1 := HE.out.1
        rw [List.take_of_length_le (by rw [HXL.out]; omega)] at h1
        unfold notesL
        rw [HXS.out]
        exact h1
end Go.Proofs.YtklmbiekpilkhaaGreatDoor.lg
namespace Go.Proofs.YtklmbiekpilkhaaGreatDoor.lg
open Go.ChangeShapes Go.WideShapes Go.ChangeAt Go.RowKit
open Go.Proofs.YtklmbiekpilkhaaGreatDoor.codec (Bytes vals)
open Go.Proofs.YtklmbiekpilkhaaGreatDoor.bod (cell_at Fit)
open Go.Proofs.YtklmbiekpilkhaaGreatDoor.frm (R X Reads Recs scan)
set_option linter.unusedVariables false
set_option maxRecDepth 100000
set_option linter.unusedSimpArgs false

set_option maxHeartbeats 8000000 in
theorem notes_pos (W : World) (A : Option Addr) (n c : Nat) (l : List Nat) (hB : Bytes W A n l) (hc : n ≤ c) (hn : n ≤ 40000) (hr : Fit W) :
    Calls Tryz.prog 14 #[.slice A n c] W fun x w' => ∃ A' m' c' va ys, x = .returned (.tuple #[.slice A' m' c', va, .int .i64 ((scan l 0 0).2 : Nat)]) ∧ Rd cN 7 w' A' m' ys ∧ (∃ Ap cp, va = .slice Ap m' cp ∧ Rd cP 1 w' Ap m' ys) ∧ m' ≤ 40000 ∧ ys.map Y.np = notesL l ∧ Below W.heap.size W w' := by
  have HSC := Lib.hid (frm.refScan_any W A n c l hB hc hn)
  have HB := Lib.hid hB
  have HF := Lib.hid hr
  have HN := Lib.hid hn
  have HSG := Lib.hid (scan_good l)
  have HSL := Lib.hid (frm.scan_length l)
  clear hB hc hn hr
  go_enter Tryz.func14, Tryz.ntmps14
  go_wp2_with fail
  refine HSC.out.mono ?_
  rintro e W1 ⟨v, torn, rfl, xs, hrr, hb1, hs⟩
  obtain ⟨A1, c1, rfl, hc1, hR1⟩ := hrr.reads
  have hxl : xs.length ≤ 40000 := by
    have h1 := HSL.out
    rw [hs] at h1
    have h2 := HB.out.1
    have h3 := HN.out
    simp at h1
    omega
  have HXS := Lib.hid hs
  have HB1 := Lib.hid hb1
  have HR1 := Lib.hid hR1
  have HFit := Lib.hid (fun (w' : World) (h : Below W1.heap.size W1 w') => HF.out.below (hb1.trans (h.mono hb1.size)))
  have HP := Lib.hid (show ∀ x ∈ xs, x.r.pay.length ≤ 30000 from fun x hx => (HSG.out.1 x.r (by rw [hs]; exact List.mem_map.2 ⟨x, hx, rfl⟩)).short)
  have HXL : Hid ((xs.map X.r).length = xs.length) := Lib.hid (List.length_map _)
  have HS0 := Lib.hid (NS2.start W1 (xs.map X.r))
  clear hrr hb1 hs hR1 hc1 HSC
  generalize hN : xs.length = N at *
  clear hN
  go_wp2_with fail
  go_loopw [7, 8, 19] (fun v va i wr => ∃ k : Nat, k ≤ N ∧ i = .int .i64 k ∧ Hid (NS2 W1 (xs.map X.r) k v va wr)) (fun _ _ i _ => N - (intOf i).toNat)
  case atStart => exact ⟨0, Nat.zero_le _, rfl, HS0⟩
  case round =>
    obtain ⟨k, hk, rfl, HS⟩ := hrel
    by_cases hlt : k < N
    · obtain ⟨ys, s1, s2, s3, s4, s5, s6⟩ := HS.out
      obtain ⟨b, o, x, rfl, hx, c0, c1', c2, cB⟩ := (readsBelow HR1.out s4).2 k hlt
      have hpl := HP.out x (List.mem_of_getElem? hx)
      have hxr : (xs.map X.r)[k]? = some x.r := by rw [List.getElem?_map, hx]; rfl
      obtain ⟨⟨a, kd, pay⟩, Ax, nx, cx⟩ := x
      simp only [] at c0 c1' c2 cB hpl hxr
      have hnx : nx ≤ 100000 := by have := cB.1; omega
      have HXR := Lib.hid hxr
      have hblt := block_lt_of_cell c0
      have HCX := Lib.hid (fun (w' : World) (hw : Below wr.heap.size wr w') => And.intro ((hw.cell (p := ⟨b, o + k * 3, none⟩) hblt).trans c0) (And.intro ((hw.cell (p := ⟨b, o + k * 3 + 1, none⟩) hblt).trans c1') ((hw.cell (p := ⟨b, o + k * 3 + 2, none⟩) hblt).trans c2)))
      have HBX := Lib.hid (fun (w' : World) (hw : Below wr.heap.size wr w') => cB.below cB.lt hw)
      have HFit := Lib.hid (fun (w' : World) (hw : Below wr.heap.size wr w') => HFit.out w' (s4.trans (hw.mono s4.size)))
      have HST := Lib.hid (show Below wr.heap.size wr wr.drew from codec.below_draws (Below.refl _ _) 1)
      have HW14 := Lib.hid s4
      have hlt' : (k : Int) < (N : Int) := by omega
      cases hd : dec kd pay with
      | none =>
        have HD := Lib.hid hd
        have HSk := Lib.hid (HS.out.skip hxr hd)
        clear hx hxr hd s1 s2 s3 s4 s5 s6 cB hpl c0 c1' c2 hblt HXR
        go_upto_region 7 with (fail)
        go_cut [10, 11] from 20 to 50 (fun s10 s11 wx => ∃ p : Nat, s10 = .pointer (some ⟨p, 0, none⟩) ∧ s11 = .int .i64 2 ∧ Hid (Below wr.heap.size wr wx))
        case first =>
            refine wp_region_noPanic ?_
            refine wp_region_held_drew (S := fun w' => Below wr.heap.size wr w') (by kernel_rfl) HST.out (fun hHeld => ?_)
            refine wpAnyH_take (i := 0) (v := ?_) rfl (by kernel_rfl) (by kernel_rfl) (by kernel_rfl) (fun _ _ _ h => h) (Or.inl ⟨by kernel_rfl, ?_⟩) hHeld ?_
            rotate_left
            · (intro w' hw'; go_simp; first | done | with_reducible rfl)
            refine wpAnyH_take (i := 1) (v := ?_) rfl (by kernel_rfl) (by kernel_rfl) (by kernel_rfl) (fun _ _ _ h => h) (Or.inl ⟨by kernel_rfl, ?_⟩) hHeld ?_
            rotate_left
            · (intro w' hw'; go_simp; first | done | with_reducible rfl)
            refine wpAnyH_take (i := 2) (v := ?_) rfl (by kernel_rfl) (by kernel_rfl) (by kernel_rfl) (fun _ _ _ h => h) (Or.inl ⟨by kernel_rfl, ?_⟩) hHeld ?_
            rotate_left
            · (intro w' hw'; go_simp; first | done | with_reducible rfl)
            refine wpAnyH_take (i := 3) (v := ?_) rfl (by kernel_rfl) (by kernel_rfl) (by kernel_rfl) (fun _ _ _ h => h) (Or.inl ⟨by kernel_rfl, ?_⟩) hHeld ?_
            rotate_left
            · (intro w' hw'; go_simp; first | done | with_reducible rfl)
            refine wpAnyH_take (i := 4) (v := ?_) rfl (by kernel_rfl) (by kernel_rfl) (by kernel_rfl) (fun _ _ _ h => h) (Or.inl ⟨by kernel_rfl, ?_⟩) hHeld ?_
            rotate_left
            · (intro w' hw'; obtain ⟨x0, x1, x2⟩ := HCX.out _ hw'; go_simp; first | done | with_reducible rfl)
            refine wpAnyH_take (i := 5) (v := ?_) rfl (by kernel_rfl) (by kernel_rfl) (by kernel_rfl) (fun _ _ _ h => h) (Or.inl ⟨by kernel_rfl, ?_⟩) hHeld ?_
            rotate_left
            · (intro w' hw'; go_simp; first | done | with_reducible rfl)
            refine wpAnyH_take (i := 6) (v := ?_) rfl (by kernel_rfl) (by kernel_rfl) (by kernel_rfl) (fun _ _ _ h => h) (Or.inl ⟨by kernel_rfl, ?_⟩) hHeld ?_
            rotate_left
            · (intro w' hw'; go_simp; first | done | with_reducible rfl)
            refine wpAnyH_take (i := 7) (v := ?_) rfl (by kernel_rfl) (by kernel_rfl) (by kernel_rfl) (fun _ _ _ h => h) (Or.inl ⟨by kernel_rfl, ?_⟩) hHeld ?_
            rotate_left
            · (intro w' hw'; go_simp; first | done | with_reducible rfl)
            refine wpAnyH_take (i := 8) (v := ?_) rfl (by kernel_rfl) (by kernel_rfl) (by kernel_rfl) (fun _ _ _ h => h) (Or.inl ⟨by kernel_rfl, ?_⟩) hHeld ?_
            rotate_left
            · (intro w' hw'; go_simp; first | done | with_reducible rfl)
            refine wpAnyH_take (i := 9) (v := ?_) rfl (by kernel_rfl) (by kernel_rfl) (by kernel_rfl) (fun _ _ _ h => h) (Or.inl ⟨by kernel_rfl, ?_⟩) hHeld ?_
            rotate_left
            · (intro w' hw'; obtain ⟨x0, x1, x2⟩ := HCX.out _ hw'; go_simp; first | done | with_reducible rfl)
            refine wpAnyH_ready (rs := [10, 14]) (by kernel_rfl) (by simp) ?_
            refine AllReadyH.cons rfl (fun K hK => ?_) (AllReadyH.cons rfl (fun K hK => ?_) AllReadyH.nil)
            · go_simp
              refine (dec_none _ kd Ax nx cx pay (HBX.out _ hHeld) hnx (HFit.out _ hHeld) HD.out).mono ?_
              rintro x w5 ⟨rfl, hb5⟩
              have hS5 := hHeld.trans (hb5.mono hHeld.size)
              go_wp2_with fail
              refine hK.out _ _ hS5 (fun hH1 => ?_)
              clear hK K
              refine wpAnyH_take (i := 11) (v := ?_) rfl (by kernel_rfl) (by kernel_rfl) (by kernel_rfl) (fun _ _ _ h => h) (Or.inl ⟨by kernel_rfl, ?_⟩) hH1 ?_
              rotate_left
              · (intro w' hw'; go_simp; first | done | with_reducible rfl)
              refine wpAnyH_take (i := 12) (v := ?_) rfl (by kernel_rfl) (by kernel_rfl) (by kernel_rfl) (fun _ _ _ h => h) (Or.inl ⟨by kernel_rfl, ?_⟩) hH1 ?_
              rotate_left
              · (intro w' hw'; go_simp; first | done | with_reducible rfl)
              refine wpAnyH_take (i := 13) (v := ?_) rfl (by kernel_rfl) (by kernel_rfl) (by kernel_rfl) (fun _ _ _ h => h) (Or.inl ⟨by kernel_rfl, ?_⟩) hH1 ?_
              rotate_left
              · (intro w' hw'; go_simp; first | done | with_reducible rfl)
              have hS2 := hS5.alloc hS5.size (.cells #[.int .i64 0, .int .u32 0, .string ⟨#[]⟩, .int .u32 0, .int .i64 0, .int .i64 0, .slice none 0 0] 100)
              refine wpAnyH_ready (rs := [14]) (by kernel_rfl) (by simp) ?_
              refine AllReadyH.cons rfl (fun K hK => ?_) AllReadyH.nil
              go_simp
              refine hK _ _ hS2 (fun hH2 => ?_)
              clear hK K hH1
              have hS3 := hS5.alloc hS5.size (.cells #[.int .i64 0, .int .u32 0, .string ⟨#[]⟩, .int .u32 0, .int .i64 0, .int .i64 0, .slice none 0 0] 100)
              refine wpAnyH_ready (rs := [15]) (by kernel_rfl) (by simp) ?_
              refine AllReadyH.cons rfl (fun K hK => ?_) AllReadyH.nil
              go_simp
              refine hK _ _ hS3 (fun hH3 => ?_)
              clear hK K hH2
              refine wpAnyH_take (i := 16) (v := ?_) rfl (by kernel_rfl) (by kernel_rfl) (by kernel_rfl) (fun _ _ _ h => h) (Or.inl ⟨by kernel_rfl, ?_⟩) hH3 ?_
              rotate_left
              · (intro w' hw'; go_simp; first | done | with_reducible rfl)
              have HHP := Lib.hid (heap_alloc_new w5 (.cells #[.int .i64 0, .int .u32 0, .string ⟨#[]⟩, .int .u32 0, .int .i64 0, .int .i64 0, .slice none 0 0] 100))
              have HLP := Lib.hid (show wr.heap.size ≤ w5.heap.size from hS5.size)
              clear hb5 hHeld hS2
              generalize w5.alloc (.cells #[.int .i64 0, .int .u32 0, .string ⟨#[]⟩, .int .u32 0, .int .i64 0, .int .i64 0, .slice none 0 0] 100) = w6 at *
              generalize w5.heap.size = p at *
              refine wpAnyH_done (by kernel_rfl) ?_ _
              refine NoPanic.normal ?_
              go_simp
              clear hH3 hS5
              go_wp2_with fail
              go_meet
              exact ⟨p, rfl, rfl, Lib.hid hS3⟩
            · have hS0 : Below wr.heap.size wr (wr.alloc (.cells #[.int .i64 0, .int .u32 0, .string ⟨#[]⟩, .int .u32 0, .int .i64 0, .int .i64 0, .slice none 0 0] 100)).drew := ((Below.refl _ _).alloc (Nat.le_refl _) _).drew
              go_simp
              refine hK _ _ hS0 (fun hH0 => ?_)
              clear hK K hHeld
              have hz0 : (wr.alloc (.cells #[.int .i64 0, .int .u32 0, .string ⟨#[]⟩, .int .u32 0, .int .i64 0, .int .i64 0, .slice none 0 0] 100)).drew.heap[wr.heap.size]? = some (.cells #[.int .i64 0, .int .u32 0, .string ⟨#[]⟩, .int .u32 0, .int .i64 0, .int .i64 0, .slice none 0 0] 100 (0, 0)) := heap_alloc_new wr _
              have hz1 : wr.heap.size < (wr.alloc (.cells #[.int .i64 0, .int .u32 0, .string ⟨#[]⟩, .int .u32 0, .int .i64 0, .int .i64 0, .slice none 0 0] 100)).drew.heap.size := by simp
              generalize (wr.alloc (.cells #[.int .i64 0, .int .u32 0, .string ⟨#[]⟩, .int .u32 0, .int .i64 0, .int .i64 0, .slice none 0 0] 100)).drew = w4 at *
              refine wpAnyH_ready (rs := [10]) (by kernel_rfl) (by simp) ?_
              refine AllReadyH.cons rfl (fun K hK => ?_) AllReadyH.nil
              go_simp
              refine (dec_none _ kd Ax nx cx pay (HBX.out _ hH0) hnx (HFit.out _ hH0) HD.out).mono ?_
              rintro x w5 ⟨rfl, hb5⟩
              have hS5 := hS0.trans (hb5.mono hS0.size)
              have hz5 := (hb5.block _ hz1).trans hz0
              go_wp2_with fail
              refine hK.out _ _ hS5 (fun hH1 => ?_)
              clear hK K
              refine wpAnyH_take (i := 11) (v := ?_) rfl (by kernel_rfl) (by kernel_rfl) (by kernel_rfl) (fun _ _ _ h => h) (Or.inl ⟨by kernel_rfl, ?_⟩) hH1 ?_
              rotate_left
              · (intro w' hw'; go_simp; first | done | with_reducible rfl)
              refine wpAnyH_take (i := 12) (v := ?_) rfl (by kernel_rfl) (by kernel_rfl) (by kernel_rfl) (fun _ _ _ h => h) (Or.inl ⟨by kernel_rfl, ?_⟩) hH1 ?_
              rotate_left
              · (intro w' hw'; go_simp; first | done | with_reducible rfl)
              refine wpAnyH_take (i := 13) (v := ?_) rfl (by kernel_rfl) (by kernel_rfl) (by kernel_rfl) (fun _ _ _ h => h) (Or.inl ⟨by kernel_rfl, ?_⟩) hH1 ?_
              rotate_left
              · (intro w' hw'; go_simp; first | done | with_reducible rfl)
              have h7 := bod.seven hz5 rfl (.int .i64 0) (.int .u32 0) (.string ⟨#[]⟩) (.int .u32 0) (.int .i64 0) (.int .i64 0) (.slice none 0 0)
              have hS3 := h7.2.2 _ _ hS5 (Nat.le_refl _)
              have e0 := cell_at hz5 0 _ rfl
              have f0 := frozen_of_row _ _ 0 _ _ hz5
              have e1 := cell_at hz5 1 _ rfl
              have f1 := frozen_of_row _ _ 1 _ _ hz5
              have e2 := cell_at hz5 2 _ rfl
              have f2 := frozen_of_row _ _ 2 _ _ hz5
              have e3 := cell_at hz5 3 _ rfl
              have f3 := frozen_of_row _ _ 3 _ _ hz5
              have e4 := cell_at hz5 4 _ rfl
              have f4 := frozen_of_row _ _ 4 _ _ hz5
              have e5 := cell_at hz5 5 _ rfl
              have f5 := frozen_of_row _ _ 5 _ _ hz5
              have e6 := cell_at hz5 6 _ rfl
              have f6 := frozen_of_row _ _ 6 _ _ hz5
              refine wpAnyH_ready (rs := [15]) (by kernel_rfl) (by simp) ?_
              refine AllReadyH.cons rfl (fun K hK => ?_) AllReadyH.nil
              go_simp
              refine hK _ _ hS3 (fun hH3 => ?_)
              clear hK K hH1 hH0
              refine wpAnyH_take (i := 16) (v := ?_) rfl (by kernel_rfl) (by kernel_rfl) (by kernel_rfl) (fun _ _ _ h => h) (Or.inl ⟨by kernel_rfl, ?_⟩) hH3 ?_
              rotate_left
              · (intro w' hw'; go_simp; first | done | with_reducible rfl)
              have HHP := Lib.hid h7.1
              have HLP := Lib.hid (Nat.le_refl wr.heap.size)
              clear h7 hb5 hS0 hz0 hz1 hz5 e0 e1 e2 e3 e4 e5 e6 f0 f1 f2 f3 f4 f5 f6 hS5
              generalize ((((((((((((((w5).setCell ⟨wr.heap.size, 0, none⟩ (.int .i64 0))).setCell ⟨wr.heap.size, 1, none⟩ (.int .u32 0))).setCell ⟨wr.heap.size, 2, none⟩ (.string ⟨#[]⟩))).setCell ⟨wr.heap.size, 3, none⟩ (.int .u32 0))).setCell ⟨wr.heap.size, 4, none⟩ (.int .i64 0))).setCell ⟨wr.heap.size, 5, none⟩ (.int .i64 0))).setCell ⟨wr.heap.size, 6, none⟩ (.slice none 0 0)) = w6 at *
              obtain ⟨p, hp⟩ : ∃ p, p = wr.heap.size := ⟨_, rfl⟩
              rw [← hp] at HHP ⊢
              have HLP : Hid (wr.heap.size ≤ p) := Lib.hid (by omega)
              clear hp
              refine wpAnyH_done (by kernel_rfl) ?_ _
              refine NoPanic.normal ?_
              go_simp
              clear hH3
              go_wp2_with fail
              go_meet
              exact ⟨p, rfl, rfl, Lib.hid hS3⟩
        case rest =>
          obtain ⟨p, rfl, rfl, HBc⟩ := hcut
          have HS2 := Lib.hid (HSk.out.below HBc.out)
          clear hnx
          go_wp2_with fail
          go_roundw
          case rel => first | exact ⟨k + 1, by omega, by go_num, HS2⟩ | ((repeat apply Exists.intro); exact ⟨⟨k + 1, by omega, by go_num, HS2⟩, rfl⟩)
          case measure => (show N - ((k : Int) + 1).toNat < N - k; omega)
      | some t =>
        obtain ⟨tk, te, ts, tu, td, tf, to_⟩ := t
        have HD := Lib.hid hd
        clear hx hxr hd s1 s2 s3 s4 s5 s6 cB hpl c0 c1' c2 hblt
        go_upto_region 7 with (fail)
        go_cut [10, 11] from 20 to 50 (fun s10 s11 wx => ∃ (p : Nat) (A' : Option Addr) (m' c' : Nat), s10 = .pointer (some ⟨p, 0, none⟩) ∧ s11 = .int .i64 0 ∧ Hid (Below wr.heap.size wr wx) ∧ Hid (wx.heap[p]? = some (.cells #[.int .i64 (tk : Nat), .int .u32 (te : Nat), .string ts, .int .u32 (tu : Nat), .int .i64 td, .int .i64 tf, .slice A' m' c'] 100 (0, 0))) ∧ Hid (Bytes wx A' m' to_ ∧ (A' = none → c' = 0) ∧ ∀ ad, A' = some ad → wr.heap.size ≤ ad.block) ∧ Hid (wr.heap.size ≤ p))
        case first =>
            refine wp_region_noPanic ?_
            refine wp_region_held_drew (S := fun w' => Below wr.heap.size wr w') (by kernel_rfl) HST.out (fun hHeld => ?_)
            refine wpAnyH_take (i := 0) (v := ?_) rfl (by kernel_rfl) (by kernel_rfl) (by kernel_rfl) (fun _ _ _ h => h) (Or.inl ⟨by kernel_rfl, ?_⟩) hHeld ?_
            rotate_left
            · (intro w' hw'; go_simp; first | done | with_reducible rfl)
            refine wpAnyH_take (i := 1) (v := ?_) rfl (by kernel_rfl) (by kernel_rfl) (by kernel_rfl) (fun _ _ _ h => h) (Or.inl ⟨by kernel_rfl, ?_⟩) hHeld ?_
            rotate_left
            · (intro w' hw'; go_simp; first | done | with_reducible rfl)
            refine wpAnyH_take (i := 2) (v := ?_) rfl (by kernel_rfl) (by kernel_rfl) (by kernel_rfl) (fun _ _ _ h => h) (Or.inl ⟨by kernel_rfl, ?_⟩) hHeld ?_
            rotate_left
            · (intro w' hw'; go_simp; first | done | with_reducible rfl)
            refine wpAnyH_take (i := 3) (v := ?_) rfl (by kernel_rfl) (by kernel_rfl) (by kernel_rfl) (fun _ _ _ h => h) (Or.inl ⟨by kernel_rfl, ?_⟩) hHeld ?_
            rotate_left
            · (intro w' hw'; go_simp; first | done | with_reducible rfl)
            refine wpAnyH_take (i := 4) (v := ?_) rfl (by kernel_rfl) (by kernel_rfl) (by kernel_rfl) (fun _ _ _ h => h) (Or.inl ⟨by kernel_rfl, ?_⟩) hHeld ?_
            rotate_left
            · (intro w' hw'; obtain ⟨x0, x1, x2⟩ := HCX.out _ hw'; go_simp; first | done | with_reducible rfl)
            refine wpAnyH_take (i := 5) (v := ?_) rfl (by kernel_rfl) (by kernel_rfl) (by kernel_rfl) (fun _ _ _ h => h) (Or.inl ⟨by kernel_rfl, ?_⟩) hHeld ?_
            rotate_left
            · (intro w' hw'; go_simp; first | done | with_reducible rfl)
            refine wpAnyH_take (i := 6) (v := ?_) rfl (by kernel_rfl) (by kernel_rfl) (by kernel_rfl) (fun _ _ _ h => h) (Or.inl ⟨by kernel_rfl, ?_⟩) hHeld ?_
            rotate_left
            · (intro w' hw'; go_simp; first | done | with_reducible rfl)
            refine wpAnyH_take (i := 7) (v := ?_) rfl (by kernel_rfl) (by kernel_rfl) (by kernel_rfl) (fun _ _ _ h => h) (Or.inl ⟨by kernel_rfl, ?_⟩) hHeld ?_
            rotate_left
            · (intro w' hw'; go_simp; first | done | with_reducible rfl)
            refine wpAnyH_take (i := 8) (v := ?_) rfl (by kernel_rfl) (by kernel_rfl) (by kernel_rfl) (fun _ _ _ h => h) (Or.inl ⟨by kernel_rfl, ?_⟩) hHeld ?_
            rotate_left
            · (intro w' hw'; go_simp; first | done | with_reducible rfl)
            refine wpAnyH_take (i := 9) (v := ?_) rfl (by kernel_rfl) (by kernel_rfl) (by kernel_rfl) (fun _ _ _ h => h) (Or.inl ⟨by kernel_rfl, ?_⟩) hHeld ?_
            rotate_left
            · (intro w' hw'; obtain ⟨x0, x1, x2⟩ := HCX.out _ hw'; go_simp; first | done | with_reducible rfl)
            refine wpAnyH_ready (rs := [10, 14]) (by kernel_rfl) (by simp) ?_
            refine AllReadyH.cons rfl (fun K hK => ?_) (AllReadyH.cons rfl (fun K hK => ?_) AllReadyH.nil)
            · go_simp
              refine (dec_some _ kd Ax nx cx pay (HBX.out _ hHeld) hnx (HFit.out _ hHeld) _ HD.out).mono ?_
              rintro x w5 ⟨A', m', c', rfl, hnew⟩
              have hb5 := hnew.2.2.2
              have hS5 := hHeld.trans (hb5.mono hHeld.size)
              go_wp2_with fail
              refine hK.out _ _ hS5 (fun hH1 => ?_)
              clear hK K
              refine wpAnyH_take (i := 11) (v := ?_) rfl (by kernel_rfl) (by kernel_rfl) (by kernel_rfl) (fun _ _ _ h => h) (Or.inl ⟨by kernel_rfl, ?_⟩) hH1 ?_
              rotate_left
              · (intro w' hw'; go_simp; first | done | with_reducible rfl)
              refine wpAnyH_take (i := 12) (v := ?_) rfl (by kernel_rfl) (by kernel_rfl) (by kernel_rfl) (fun _ _ _ h => h) (Or.inl ⟨by kernel_rfl, ?_⟩) hH1 ?_
              rotate_left
              · (intro w' hw'; go_simp; first | done | with_reducible rfl)
              refine wpAnyH_take (i := 13) (v := ?_) rfl (by kernel_rfl) (by kernel_rfl) (by kernel_rfl) (fun _ _ _ h => h) (Or.inl ⟨by kernel_rfl, ?_⟩) hH1 ?_
              rotate_left
              · (intro w' hw'; go_simp; first | done | with_reducible rfl)
              have hS2 := hS5.alloc hS5.size (.cells #[.int .i64 0, .int .u32 0, .string ⟨#[]⟩, .int .u32 0, .int .i64 0, .int .i64 0, .slice none 0 0] 100)
              refine wpAnyH_ready (rs := [14]) (by kernel_rfl) (by simp) ?_
              refine AllReadyH.cons rfl (fun K hK => ?_) AllReadyH.nil
              go_simp
              refine hK _ _ hS2 (fun hH2 => ?_)
              clear hK K hH1
              have hS3 := hS5.alloc hS5.size (.cells #[.int .i64 (tk : Nat), .int .u32 (te : Nat), .string ts, .int .u32 (tu : Nat), .int .i64 td, .int .i64 tf, .slice A' m' c'] 100)
              refine wpAnyH_ready (rs := [15]) (by kernel_rfl) (by simp) ?_
              refine AllReadyH.cons rfl (fun K hK => ?_) AllReadyH.nil
              go_simp
              refine hK _ _ hS3 (fun hH3 => ?_)
              clear hK K hH2
              refine wpAnyH_take (i := 16) (v := ?_) rfl (by kernel_rfl) (by kernel_rfl) (by kernel_rfl) (fun _ _ _ h => h) (Or.inl ⟨by kernel_rfl, ?_⟩) hH3 ?_
              rotate_left
              · (intro w' hw'; go_simp; first | done | with_reducible rfl)
              have HHP := Lib.hid (heap_alloc_new w5 (.cells #[.int .i64 (tk : Nat), .int .u32 (te : Nat), .string ts, .int .u32 (tu : Nat), .int .i64 td, .int .i64 tf, .slice A' m' c'] 100))
              have HLP := Lib.hid (show wr.heap.size ≤ w5.heap.size from hS5.size)
              have HNW : Hid (Bytes (w5.alloc (.cells #[.int .i64 (tk : Nat), .int .u32 (te : Nat), .string ts, .int .u32 (tu : Nat), .int .i64 td, .int .i64 tf, .slice A' m' c'] 100)) A' m' to_ ∧ (A' = none → c' = 0) ∧ ∀ ad, A' = some ad → wr.heap.size ≤ ad.block) := Lib.hid ⟨hnew.1.alloc _, hnew.2.1, fun ad e => Nat.le_trans hHeld.size (hnew.2.2.1 ad e)⟩
              have HPN := Lib.hid (show True from trivial)
              clear hnew
              clear hb5 hHeld hS2
              generalize w5.alloc (.cells #[.int .i64 (tk : Nat), .int .u32 (te : Nat), .string ts, .int .u32 (tu : Nat), .int .i64 td, .int .i64 tf, .slice A' m' c'] 100) = w6 at *
              generalize w5.heap.size = p at *
              refine wpAnyH_done (by kernel_rfl) ?_ _
              refine NoPanic.normal ?_
              go_simp
              clear hH3 hS5
              go_wp2_with fail
              go_meet
              exact ⟨p, A', m', c', rfl, rfl, Lib.hid hS3, HHP, HNW, HLP⟩
            · have hS0 : Below wr.heap.size wr (wr.alloc (.cells #[.int .i64 0, .int .u32 0, .string ⟨#[]⟩, .int .u32 0, .int .i64 0, .int .i64 0, .slice none 0 0] 100)).drew := ((Below.refl _ _).alloc (Nat.le_refl _) _).drew
              go_simp
              refine hK _ _ hS0 (fun hH0 => ?_)
              clear hK K hHeld
              have hz0 : (wr.alloc (.cells #[.int .i64 0, .int .u32 0, .string ⟨#[]⟩, .int .u32 0, .int .i64 0, .int .i64 0, .slice none 0 0] 100)).drew.heap[wr.heap.size]? = some (.cells #[.int .i64 0, .int .u32 0, .string ⟨#[]⟩, .int .u32 0, .int .i64 0, .int .i64 0, .slice none 0 0] 100 (0, 0)) := heap_alloc_new wr _
              have hz1 : wr.heap.size < (wr.alloc (.cells #[.int .i64 0, .int .u32 0, .string ⟨#[]⟩, .int .u32 0, .int .i64 0, .int .i64 0, .slice none 0 0] 100)).drew.heap.size := by simp
              generalize (wr.alloc (.cells #[.int .i64 0, .int .u32 0, .string ⟨#[]⟩, .int .u32 0, .int .i64 0, .int .i64 0, .slice none 0 0] 100)).drew = w4 at *
              refine wpAnyH_ready (rs := [10]) (by kernel_rfl) (by simp) ?_
              refine AllReadyH.cons rfl (fun K hK => ?_) AllReadyH.nil
              go_simp
              refine (dec_some _ kd Ax nx cx pay (HBX.out _ hH0) hnx (HFit.out _ hH0) _ HD.out).mono ?_
              rintro x w5 ⟨A', m', c', rfl, hnew⟩
              have hb5 := hnew.2.2.2
              have hS5 := hS0.trans (hb5.mono hS0.size)
              have hz5 := (hb5.block _ hz1).trans hz0
              go_wp2_with fail
              refine hK.out _ _ hS5 (fun hH1 => ?_)
              clear hK K
              refine wpAnyH_take (i := 11) (v := ?_) rfl (by kernel_rfl) (by kernel_rfl) (by kernel_rfl) (fun _ _ _ h => h) (Or.inl ⟨by kernel_rfl, ?_⟩) hH1 ?_
              rotate_left
              · (intro w' hw'; go_simp; first | done | with_reducible rfl)
              refine wpAnyH_take (i := 12) (v := ?_) rfl (by kernel_rfl) (by kernel_rfl) (by kernel_rfl) (fun _ _ _ h => h) (Or.inl ⟨by kernel_rfl, ?_⟩) hH1 ?_
              rotate_left
              · (intro w' hw'; go_simp; first | done | with_reducible rfl)
              refine wpAnyH_take (i := 13) (v := ?_) rfl (by kernel_rfl) (by kernel_rfl) (by kernel_rfl) (fun _ _ _ h => h) (Or.inl ⟨by kernel_rfl, ?_⟩) hH1 ?_
              rotate_left
              · (intro w' hw'; go_simp; first | done | with_reducible rfl)
              have h7 := bod.seven hz5 rfl (.int .i64 (tk : Nat)) (.int .u32 (te : Nat)) (.string ts) (.int .u32 (tu : Nat)) (.int .i64 td) (.int .i64 tf) (.slice A' m' c')
              have hS3 := h7.2.2 _ _ hS5 (Nat.le_refl _)
              have e0 := cell_at hz5 0 _ rfl
              have f0 := frozen_of_row _ _ 0 _ _ hz5
              have e1 := cell_at hz5 1 _ rfl
              have f1 := frozen_of_row _ _ 1 _ _ hz5
              have e2 := cell_at hz5 2 _ rfl
              have f2 := frozen_of_row _ _ 2 _ _ hz5
              have e3 := cell_at hz5 3 _ rfl
              have f3 := frozen_of_row _ _ 3 _ _ hz5
              have e4 := cell_at hz5 4 _ rfl
              have f4 := frozen_of_row _ _ 4 _ _ hz5
              have e5 := cell_at hz5 5 _ rfl
              have f5 := frozen_of_row _ _ 5 _ _ hz5
              have e6 := cell_at hz5 6 _ rfl
              have f6 := frozen_of_row _ _ 6 _ _ hz5
              refine wpAnyH_ready (rs := [15]) (by kernel_rfl) (by simp) ?_
              refine AllReadyH.cons rfl (fun K hK => ?_) AllReadyH.nil
              go_simp
              refine hK _ _ hS3 (fun hH3 => ?_)
              clear hK K hH1 hH0
              refine wpAnyH_take (i := 16) (v := ?_) rfl (by kernel_rfl) (by kernel_rfl) (by kernel_rfl) (fun _ _ _ h => h) (Or.inl ⟨by kernel_rfl, ?_⟩) hH3 ?_
              rotate_left
              · (intro w' hw'; go_simp; first | done | with_reducible rfl)
              have HHP := Lib.hid h7.1
              have HLP := Lib.hid (Nat.le_refl wr.heap.size)
              have HNW : Hid (Bytes ((((((((((((((w5).setCell ⟨wr.heap.size, 0, none⟩ (.int .i64 (tk : Nat)))).setCell ⟨wr.heap.size, 1, none⟩ (.int .u32 (te : Nat)))).setCell ⟨wr.heap.size, 2, none⟩ (.string ts))).setCell ⟨wr.heap.size, 3, none⟩ (.int .u32 (tu : Nat)))).setCell ⟨wr.heap.size, 4, none⟩ (.int .i64 td))).setCell ⟨wr.heap.size, 5, none⟩ (.int .i64 tf))).setCell ⟨wr.heap.size, 6, none⟩ (.slice A' m' c')) A' m' to_ ∧ (A' = none → c' = 0) ∧ ∀ ad, A' = some ad → wr.heap.size ≤ ad.block) := Lib.hid ⟨hnew.1.kept fun ad e h0 => h7.2.1 _ (by have h1 := hnew.2.2.1 ad e; omega), hnew.2.1, fun ad e => Nat.le_trans hS0.size (hnew.2.2.1 ad e)⟩
              clear hnew
              clear h7 hb5 hS0 hz0 hz1 hz5 e0 e1 e2 e3 e4 e5 e6 f0 f1 f2 f3 f4 f5 f6 hS5
              generalize ((((((((((((((w5).setCell ⟨wr.heap.size, 0, none⟩ (.int .i64 (tk : Nat)))).setCell ⟨wr.heap.size, 1, none⟩ (.int .u32 (te : Nat)))).setCell ⟨wr.heap.size, 2, none⟩ (.string ts))).setCell ⟨wr.heap.size, 3, none⟩ (.int .u32 (tu : Nat)))).setCell ⟨wr.heap.size, 4, none⟩ (.int .i64 td))).setCell ⟨wr.heap.size, 5, none⟩ (.int .i64 tf))).setCell ⟨wr.heap.size, 6, none⟩ (.slice A' m' c')) = w6 at *
              obtain ⟨p, hp⟩ : ∃ p, p = wr.heap.size := ⟨_, rfl⟩
              rw [← hp] at HHP ⊢
              have HLP : Hid (wr.heap.size ≤ p) := Lib.hid (by omega)
              clear hp
              refine wpAnyH_done (by kernel_rfl) ?_ _
              refine NoPanic.normal ?_
              go_simp
              clear hH3
              go_wp2_with fail
              go_meet
              exact ⟨p, A', m', c', rfl, rfl, Lib.hid hS3, HHP, HNW, HLP⟩
        case rest =>
          obtain ⟨p, A', m', c', rfl, rfl, HBc, HHP, HNW, HLP⟩ := hcut
          obtain ⟨ys, s1, s2, s3, s4, s5, s6⟩ := HS.out
          have S1 := Lib.hid (s1.below HBc.out)
          have S2 := Lib.hid (s2.below HBc.out)
          have S3 := Lib.hid s3
          have S4 := Lib.hid (s4.trans (HBc.out.mono s4.size))
          have S5 := Lib.hid s5
          have S6 := Lib.hid s6
          have HA1 := Lib.hid (show ∀ ad, A' = some ad → 0 < m' → u7.ownBlock ≠ some ad.block from fun ad e h0 e' => by
            have h1 := HNW.out.2.2 ad e
            have h2 := (s1.lt e').2
            omega)
          have HA2 := Lib.hid (show ∀ ad, A' = some ad → 0 < m' → u8.ownBlock ≠ some ad.block from fun ad e h0 e' => by
            have h1 := HNW.out.2.2 ad e
            have h2 := (s2.lt e').2
            omega)
          have q0 := cell_at HHP.out 0 _ rfl
          have q1 := cell_at HHP.out 1 _ rfl
          have q2 := cell_at HHP.out 2 _ rfl
          have q3 := cell_at HHP.out 3 _ rfl
          have q4 := cell_at HHP.out 4 _ rfl
          have q5 := cell_at HHP.out 5 _ rfl
          have q6 := cell_at HHP.out 6 _ rfl
          have hx0 := (HCX.out _ HBc.out).1
          have hpc := block_lt_of_cell q0
          have hbw : b < W1.heap.size := by
            obtain ⟨b', o', x', e1, _, e3, _⟩ := HR1.out.2 k hlt
            cases e1
            exact block_lt_of_cell e3
          have HRC := Lib.hid (fun (w2 : World) (hw : Below W1.heap.size W1 w2) => show w2.cell? ⟨b, o + k * 3, none⟩ = some (.int .i64 (a : Nat)) from by
            rw [← hx0, hw.cell (p := ⟨b, o + k * 3, none⟩) hbw, S4.out.cell (p := ⟨b, o + k * 3, none⟩) hbw])
          clear s1 s2 s3 s4 s5 s6 hnx
          go_wp2_with (first
            | (at_builtin; refine wpList_append_own fN (by decide) (by decide) (by decide) rfl rfl (.tmp 38) (.tmp 40) 50 62 rfl Tryz.underlying50 infoN W1.heap.size u7 ys rfl S1.out S4.out.size (by have := S6.out; omega) ⟨⟨tk, te, ts, tu, td, tf, to_⟩, a, A', m', c'⟩ (0, 0) _ rfl rfl _ rfl ⟨HNW.out.1, HNW.out.2.1⟩ HA1.out ?_; intro v' w2 ho hgr hat; have HO1 := Lib.hid (And.intro ho (And.intro hgr hat)); have HP2 := Lib.hid (two_first (y := ⟨⟨tk, te, ts, tu, td, tf, to_⟩, a, A', m', c'⟩) (v' := v') S1.out S2.out S3.out hgr); have HB2 := Lib.hid (grown_below S4.out S1.out hgr); have hx2 := HRC.out _ HB2.out; clear ho hgr hat)
            | (at_builtin; refine wpList_append_own fP (by decide) (by decide) (by decide) rfl rfl (.tmp 42) (.tmp 48) 51 3 rfl Tryz.underlying51 infoI W1.heap.size u8 ys rfl HP2.out HB2.out.size (by have := S6.out; omega) ⟨⟨tk, te, ts, tu, td, tf, to_⟩, a, A', m', c'⟩ (0, 0) _ rfl rfl _ rfl ((HO1.out.1.2 _ (by simp)).1) HA2.out ?_; intro va' w3 ho2 hgr2 hat2; have HS3 := Lib.hid (NS2.more HXR.out HD.out S1.out S2.out S3.out S4.out S5.out S6.out HA2.out HO1.out.1 HO1.out.2.1 HO1.out.2.2 ho2 hgr2 hat2); clear ho2 hgr2 hat2))
          go_roundw
          case rel => first | exact ⟨k + 1, by omega, by go_num, HS3⟩ | ((repeat apply Exists.intro); exact ⟨⟨k + 1, by omega, by go_num, HS3⟩, rfl⟩)
          case measure => (show N - ((k : Int) + 1).toNat < N - k; omega)
    · obtain rfl : k = N := by omega
      obtain ⟨ys, s1, s2, s3, s4, s5, s6⟩ := HS.out
      obtain ⟨A2, c2, rfl, hc2, -, hR2⟩ := s1.rd fN
      have HR2 := Lib.hid hR2
      obtain ⟨Ap, cp, hap, -, -, hRp⟩ := s2.rd fP
      have HRP := Lib.hid (show ∃ Ap cp, u8 = .slice Ap ys.length cp ∧ Rd cP 1 _ Ap ys.length ys from ⟨Ap, cp, hap, hRp⟩)
      clear hap hRp
      have HE := Lib.hid (And.intro s5 (And.intro s6 s4))
      clear s1 s2 s3 s4 s5 s6 hc2 hR2
      go_wp2_with fail
      go_ret3
      refine ⟨A2, ys.length, c2, u8, ys, ?_, HR2.out, HRP.out, ?_, ?_, HB1.out.trans (HE.out.2.2.mono HB1.out.size)⟩
      · rw [HXS.out]
        rfl
      · have h1 := HE.out.2.1
        omega
      · have h1 := HE.out.1
        rw [List.take_of_length_le (by rw [HXL.out]; omega)] at h1
        unfold notesL
        rw [HXS.out]
        exact h1
end Go.Proofs.YtklmbiekpilkhaaGreatDoor.lg
