/- How a payload is decoded. -/
import Derived.Test.YtdbdeplabipfaaaGreatDoorBodG
namespace Go.Proofs.YtdbdeplabipfaaaGreatDoor.bod
open Go.ChangeShapes Go.WideShapes Go.ChangeAt Go.RowKit
open Go.Proofs.YtdbdeplabipfaaaGreatDoor.codec (Bytes bytesOf bytesOf_length strOf strOf_size numOf)
open Go.Proofs.YtdbdeplabipfaaaGreatDoor.rd
set_option linter.unusedVariables false
set_option linter.unusedSimpArgs false
set_option maxRecDepth 100000

set_option maxHeartbeats 1000000 in
theorem decode2 (W : World) (A : Option Addr) (n c : Nat) (L : List Nat) (hB : Bytes W A n L) (hn : n ≤ 100000) (hr : Fit W) :
    Calls Tryz.prog 10 #[.int .i64 2, .slice A n c] W fun x w' => ∃ gg mm, mm = (octN L).length ∧ x = .returned (tup (ok2 L) #[.int .i64 2, .int .u32 (epN L), .string (TX (LF L)), .int .u32 (uidN L), .int .i64 (datN L), .int .i64 (flaN L), .slice (some ⟨gg, 0, none⟩) mm mm]) ∧ W.heap.size ≤ gg ∧ Bytes w' (some ⟨gg, 0, none⟩) mm (octN L) ∧ Below W.heap.size W w' := by
  obtain ⟨W1, hW1⟩ : ∃ W1, W1 = W.alloc (.cells zeroN 30) := ⟨_, rfl⟩
  have HBW := Lib.hid (show Below W.heap.size W W1 by rw [hW1]; exact (Below.refl _ _).alloc (Nat.le_refl _) _)
  have HWS := Lib.hid (show W.heap.size < W1.heap.size by rw [hW1]; simp)
  have HRC := Lib.hid (fun (w1 : World) (h : Below W1.heap.size W1 w1) => (boxed (w := W) (o := .cells zeroN 30) (w1 := w1) (by rw [← hW1]; exact h)).1)
  have HFit := Lib.hid (fun (w1 : World) (h : Below W1.heap.size W1 w1) => hr.below (HBW.out.trans (h.mono HBW.out.size)))
  have HNW := Lib.hid (rd_new W1 A n c L (hB.below hB.lt HBW.out) (by omega))
  have hb := hB.2.1
  have HL := Lib.hid hb
  have HEP := Lib.hid (ep_lt hb)
  have HW1 := Lib.hid hW1
  have HOK : Hid (ok2 L = (decide (LO L = some []) && formedB 2 (epN L) (TX (LF L)) (uidN L) (datN L) (flaN L) (octN L).length)) := rfl
  have hTX := tx_size (ltLF hb)
  have hF := fun w A n hr => formed_any w 2 (epN L) (uidN L) (TX (LF L)) (datN L) (flaN L) A n n (by omega) hr
  have HF0 := Lib.hid hF
  have HU := Lib.hid (uid_lt hb)
  have HLT := Lib.hid (ltLT hb)
  clear hW1 hB hn hr hb hF hTX
  go_enter Tryz.func10, Tryz.ntmps10
  go_wp2_with fail
  rw [show (#[.int .i64 0, .int .u32 0, .string ⟨#[]⟩, .int .u32 0, .int .i64 0, .int .i64 0, .slice none 0 0] : Array Value) = zeroN from rfl, ← HW1.out]
  refine HNW.out.mono ?_
  rintro x w1 ⟨q, g, rfl, hR1⟩
  have HR1 := Lib.hid hR1
  clear hR1 HNW
  go_wp2_with fail
  refine (rd_ep HR1.out).mono ?_
  rintro x w2 ⟨rfl, hR2⟩
  have HR2 := Lib.hid hR2
  have he := IntWalk.u32_in (epN L : Nat) (by have := HEP.out; omega)
  clear hR2 HR1
  go_wp2_with fail
  have HD2 := Lib.hid (dc_start HR2.out #[.int .i64 2, .int .u32 (epN L), .string ⟨#[]⟩, .int .u32 0, .int .i64 0, .int .i64 0, .slice none 0 0])
  generalize w2.alloc _ = w2' at *
  generalize w2.heap.size = b at *
  clear he HR2
  refine (dc_uid HD2.out).mono ?_
  rintro x w2a ⟨rfl, hD⟩
  have HDa := Lib.hid hD
  have e2 := HDa.out.cell 3 _ rfl
  have f2 := HDa.out.froz 3
  clear hD HD2
  have he := IntWalk.u32_in (uidN L : Nat) (by have := HU.out; omega)
  go_wp2_with fail
  have HD3 := Lib.hid (HDa.out.set (cs' := #[.int .i64 2, .int .u32 (epN L), .string ⟨#[]⟩, .int .u32 (uidN L), .int .i64 0, .int .i64 0, .slice none 0 0]) 3 (.int .u32 (uidN L)) rfl)
  generalize w2a.setCell ⟨b, 3, none⟩ (.int .u32 (uidN L)) = w3 at *
  clear HDa e2 f2
  clear he
  refine (dc_dat HD3.out).mono ?_
  rintro x w3a ⟨rfl, hD⟩
  have HDa := Lib.hid hD
  have e2 := HDa.out.cell 4 _ rfl
  have f2 := HDa.out.froz 4
  clear hD HD3
  go_wp2_with fail
  have HD4 := Lib.hid (HDa.out.set (cs' := #[.int .i64 2, .int .u32 (epN L), .string ⟨#[]⟩, .int .u32 (uidN L), .int .i64 (datN L), .int .i64 0, .slice none 0 0]) 4 (.int .i64 (datN L)) rfl)
  generalize w3a.setCell ⟨b, 4, none⟩ (.int .i64 (datN L)) = w4 at *
  clear HDa e2 f2
  refine (dc_fla HD4.out).mono ?_
  rintro x w4a ⟨rfl, hD⟩
  have HDa := Lib.hid hD
  have e2 := HDa.out.cell 5 _ rfl
  have f2 := HDa.out.froz 5
  clear hD HD4
  go_wp2_with fail
  have HD5 := Lib.hid (HDa.out.set (cs' := #[.int .i64 2, .int .u32 (epN L), .string ⟨#[]⟩, .int .u32 (uidN L), .int .i64 (datN L), .int .i64 (flaN L), .slice none 0 0]) 5 (.int .i64 (flaN L)) rfl)
  generalize w4a.setCell ⟨b, 5, none⟩ (.int .i64 (flaN L)) = w5 at *
  clear HDa e2 f2
  refine (dc_Text HD5.out).mono ?_
  rintro x w5a ⟨rfl, hD⟩
  have HDa := Lib.hid hD
  have e2 := HDa.out.cell 2 _ rfl
  have f2 := HDa.out.froz 2
  clear hD HD5
  go_wp2_with fail
  have HD6 := Lib.hid (HDa.out.set (cs' := #[.int .i64 2, .int .u32 (epN L), .string (TX (LF L)), .int .u32 (uidN L), .int .i64 (datN L), .int .i64 (flaN L), .slice none 0 0]) 2 (.string (TX (LF L))) rfl)
  generalize w5a.setCell ⟨b, 2, none⟩ (.string (TX (LF L))) = w6 at *
  clear HDa e2 f2
  refine (dc_Left HD6.out).mono ?_
  rintro x w6b ⟨rfl, hw⟩
  subst hw
  go_wp2_with fail
  refine (dc_Raw HD6.out (leftN (LT (LF L))) HLT.out).mono ?_
  rintro x w6c ⟨gg, mm, hmm, rfl, hbg, hWg, hO, hD⟩
  have HDa := Lib.hid (show Dc W1 q g (LO L) b _ w6c from hD)
  have HMM := Lib.hid (show mm = (octN L).length from hmm)
  have HGG := Lib.hid (And.intro hbg hWg)
  have HOa := Lib.hid (show Bytes w6c (some ⟨gg, 0, none⟩) mm (octN L) from hO)
  have e2 := HDa.out.cell 6 _ rfl
  have f2 := HDa.out.froz 6
  clear hD HD6 hmm hbg hWg hO
  go_wp2_with fail
  have HD7 := Lib.hid (HDa.out.set (cs' := #[.int .i64 2, .int .u32 (epN L), .string (TX (LF L)), .int .u32 (uidN L), .int .i64 (datN L), .int .i64 (flaN L), .slice (some ⟨gg, 0, none⟩) mm mm]) 6 (.slice (some ⟨gg, 0, none⟩) mm mm) rfl)
  have HO7 := Lib.hid (octs_set HDa.out HGG.out.1 HOa.out 6 (.slice (some ⟨gg, 0, none⟩) mm mm))
  have HF := Lib.hid (HF0.out · (some ⟨gg, 0, none⟩) mm ·)
  rw [← HMM.out] at HOK
  clear HF0
  generalize w6c.setCell ⟨b, 6, none⟩ (.slice (some ⟨gg, 0, none⟩) mm mm) = w7 at *
  clear HDa e2 f2 HOa
  have HDn := Lib.hid (dc_Done HD7.out)
  have HK := HOK.out
  clear HOK
  generalize decide (LO L = some []) = DD at *
  generalize formedB 2 (epN L) (TX (LF L)) (uidN L) (datN L) (flaN L) mm = FF at *
  generalize htx : TX (LF L) = tx at *
  have Etx := Lib.hid htx
  clear htx
  generalize hui : uidN L = ui at *
  have Eui := Lib.hid hui
  clear hui
  generalize hda : (datN L) = da at *
  have Eda := Lib.hid hda
  clear hda
  generalize hfl : (flaN L) = fl at *
  have Efl := Lib.hid hfl
  clear hfl
  generalize hep : epN L = ep at *
  have Eep := Lib.hid hep
  clear hep
  have HK := Lib.hid HK
  refine HDn.out.mono ?_
  rintro x w9 ⟨rfl, rfl⟩
  clear HDn
  cases DD
  · · clear HF
      have r0 := cell_at (HRC.out _ HD7.out.1.bel) 0 _ rfl
      have s0 := frozen_of_row _ _ 0 _ _ (HRC.out _ HD7.out.1.bel)
      have r1 := cell_at (HRC.out _ HD7.out.1.bel) 1 _ rfl
      have s1 := frozen_of_row _ _ 1 _ _ (HRC.out _ HD7.out.1.bel)
      have r2 := cell_at (HRC.out _ HD7.out.1.bel) 2 _ rfl
      have s2 := frozen_of_row _ _ 2 _ _ (HRC.out _ HD7.out.1.bel)
      have r3 := cell_at (HRC.out _ HD7.out.1.bel) 3 _ rfl
      have s3 := frozen_of_row _ _ 3 _ _ (HRC.out _ HD7.out.1.bel)
      have r4 := cell_at (HRC.out _ HD7.out.1.bel) 4 _ rfl
      have s4 := frozen_of_row _ _ 4 _ _ (HRC.out _ HD7.out.1.bel)
      have r5 := cell_at (HRC.out _ HD7.out.1.bel) 5 _ rfl
      have s5 := frozen_of_row _ _ 5 _ _ (HRC.out _ HD7.out.1.bel)
      have r6 := cell_at (HRC.out _ HD7.out.1.bel) 6 _ rfl
      have s6 := frozen_of_row _ _ 6 _ _ (HRC.out _ HD7.out.1.bel)
      go_wp2_with fail
      have h7 := seven (HRC.out _ HD7.out.1.bel) rfl (.int .i64 0) (.int .u32 0) (.string ⟨#[]⟩) (.int .u32 0) (.int .i64 0) (.int .i64 0) (.slice none 0 0)
      exact bodyPost_ret (results_note Tryz.results10 _ _ W.heap.size _ _ _ _ rfl h7.1 Tryz.underlying30 rfl (noteSize _ rfl)) rfl ⟨gg, mm, HMM.out, by rw [show ok2 L = false from HK.out]; rfl, Nat.le_trans HBW.out.size HGG.out.2, HO7.out.kept fun ad e hn => (by cases e; exact h7.2.1 _ (by have := HGG.out.2; have := HWS.out; show gg ≠ _; omega)), h7.2.2 _ _ (HBW.out.trans (HD7.out.1.bel.mono HBW.out.size)) (Nat.le_refl _)⟩
  · cases FF
    · --A
      have c0 := HD7.out.cell 0 _ rfl
      have c1 := HD7.out.cell 1 _ rfl
      have c2 := HD7.out.cell 2 _ rfl
      have c3 := HD7.out.cell 3 _ rfl
      have c4 := HD7.out.cell 4 _ rfl
      have c5 := HD7.out.cell 5 _ rfl
      have c6 := HD7.out.cell 6 _ rfl
      go_wp2_with (go_at_call 9; refine (HF.out _ (HFit.out _ HD7.out.1.bel)).mono ?_; rintro x w5 ⟨rfl, hb5⟩; have HD5 := Lib.hid (HD7.out.below hb5); have HO5 := Lib.hid (HO7.out.below HO7.out.lt hb5); clear hb5 c0 c1 c2 c3 c4 c5 c6; have r0 := cell_at (HRC.out _ HD5.out.1.bel) 0 _ rfl; have s0 := frozen_of_row _ _ 0 _ _ (HRC.out _ HD5.out.1.bel); have r1 := cell_at (HRC.out _ HD5.out.1.bel) 1 _ rfl; have s1 := frozen_of_row _ _ 1 _ _ (HRC.out _ HD5.out.1.bel); have r2 := cell_at (HRC.out _ HD5.out.1.bel) 2 _ rfl; have s2 := frozen_of_row _ _ 2 _ _ (HRC.out _ HD5.out.1.bel); have r3 := cell_at (HRC.out _ HD5.out.1.bel) 3 _ rfl; have s3 := frozen_of_row _ _ 3 _ _ (HRC.out _ HD5.out.1.bel); have r4 := cell_at (HRC.out _ HD5.out.1.bel) 4 _ rfl; have s4 := frozen_of_row _ _ 4 _ _ (HRC.out _ HD5.out.1.bel); have r5 := cell_at (HRC.out _ HD5.out.1.bel) 5 _ rfl; have s5 := frozen_of_row _ _ 5 _ _ (HRC.out _ HD5.out.1.bel); have r6 := cell_at (HRC.out _ HD5.out.1.bel) 6 _ rfl; have s6 := frozen_of_row _ _ 6 _ _ (HRC.out _ HD5.out.1.bel))
      have h7 := seven (HRC.out _ HD5.out.1.bel) rfl (.int .i64 0) (.int .u32 0) (.string ⟨#[]⟩) (.int .u32 0) (.int .i64 0) (.int .i64 0) (.slice none 0 0)
      exact bodyPost_ret (results_note Tryz.results10 _ _ W.heap.size _ _ _ _ rfl h7.1 Tryz.underlying30 rfl (noteSize _ rfl)) rfl ⟨gg, mm, HMM.out, by rw [show ok2 L = false from HK.out]; rfl, Nat.le_trans HBW.out.size HGG.out.2, HO5.out.kept fun ad e hn => (by cases e; exact h7.2.1 _ (by have := HGG.out.2; have := HWS.out; show gg ≠ _; omega)), h7.2.2 _ _ (HBW.out.trans (HD5.out.1.bel.mono HBW.out.size)) (Nat.le_refl _)⟩
    · --B
      have c0 := HD7.out.cell 0 _ rfl
      have c1 := HD7.out.cell 1 _ rfl
      have c2 := HD7.out.cell 2 _ rfl
      have c3 := HD7.out.cell 3 _ rfl
      have c4 := HD7.out.cell 4 _ rfl
      have c5 := HD7.out.cell 5 _ rfl
      have c6 := HD7.out.cell 6 _ rfl
      go_wp2_with (go_at_call 9; refine (HF.out _ (HFit.out _ HD7.out.1.bel)).mono ?_; rintro x w5 ⟨rfl, hb5⟩; have HD5 := Lib.hid (HD7.out.below hb5); have HO5 := Lib.hid (HO7.out.below HO7.out.lt hb5); clear hb5 c0 c1 c2 c3 c4 c5 c6; have c0 := HD5.out.cell 0 _ rfl; have c1 := HD5.out.cell 1 _ rfl; have c2 := HD5.out.cell 2 _ rfl; have c3 := HD5.out.cell 3 _ rfl; have c4 := HD5.out.cell 4 _ rfl; have c5 := HD5.out.cell 5 _ rfl; have c6 := HD5.out.cell 6 _ rfl; have r0 := cell_at (HRC.out _ HD5.out.1.bel) 0 _ rfl; have s0 := frozen_of_row _ _ 0 _ _ (HRC.out _ HD5.out.1.bel); have r1 := cell_at (HRC.out _ HD5.out.1.bel) 1 _ rfl; have s1 := frozen_of_row _ _ 1 _ _ (HRC.out _ HD5.out.1.bel); have r2 := cell_at (HRC.out _ HD5.out.1.bel) 2 _ rfl; have s2 := frozen_of_row _ _ 2 _ _ (HRC.out _ HD5.out.1.bel); have r3 := cell_at (HRC.out _ HD5.out.1.bel) 3 _ rfl; have s3 := frozen_of_row _ _ 3 _ _ (HRC.out _ HD5.out.1.bel); have r4 := cell_at (HRC.out _ HD5.out.1.bel) 4 _ rfl; have s4 := frozen_of_row _ _ 4 _ _ (HRC.out _ HD5.out.1.bel); have r5 := cell_at (HRC.out _ HD5.out.1.bel) 5 _ rfl; have s5 := frozen_of_row _ _ 5 _ _ (HRC.out _ HD5.out.1.bel); have r6 := cell_at (HRC.out _ HD5.out.1.bel) 6 _ rfl; have s6 := frozen_of_row _ _ 6 _ _ (HRC.out _ HD5.out.1.bel))
      have h7 := seven (HRC.out _ HD5.out.1.bel) rfl (.int .i64 2) (.int .u32 ep) (.string tx) (.int .u32 ui) (.int .i64 da) (.int .i64 fl) (.slice (some ⟨gg, 0, none⟩) mm mm)
      exact bodyPost_ret (results_note Tryz.results10 _ _ W.heap.size _ _ _ _ rfl h7.1 Tryz.underlying30 rfl (noteSize _ rfl)) rfl ⟨gg, mm, HMM.out, by rw [show ok2 L = true from HK.out, Eui.out, Eda.out, Efl.out, Etx.out, Eep.out]; rfl, Nat.le_trans HBW.out.size HGG.out.2, HO5.out.kept fun ad e hn => (by cases e; exact h7.2.1 _ (by have := HGG.out.2; have := HWS.out; show gg ≠ _; omega)), h7.2.2 _ _ (HBW.out.trans (HD5.out.1.bel.mono HBW.out.size)) (Nat.le_refl _)⟩
end Go.Proofs.YtdbdeplabipfaaaGreatDoor.bod
