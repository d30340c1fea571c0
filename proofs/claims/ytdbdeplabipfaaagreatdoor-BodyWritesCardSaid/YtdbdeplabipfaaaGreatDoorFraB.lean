/- The head of a payload, and its frame. -/
import Derived.Test.YtdbdeplabipfaaaGreatDoorFraA
import Derived.Lib.SmallJoins
namespace Go.Proofs.YtdbdeplabipfaaaGreatDoor.frm
open Go.ChangeShapes Go.WideShapes Go.ChangeAt Go.RowKit
open Go.Proofs.YtdbdeplabipfaaaGreatDoor.codec (Bytes vals vals_append vals_length vals_one OutIs More Made New bytesOf byteAt bytesOf_length bytesOf_lt Fits strOf)
set_option linter.unusedVariables false
set_option maxRecDepth 100000
set_option linter.unusedSimpArgs false

theorem size54 (l : List Nat) (h : l.length = 32) : (Tryz.prog.info? 60).map (·.size) = some (vals l).toArray.size := by
  rw [show (vals l).toArray.size = 32 by simp [vals, h]]
  kernel_rfl
theorem all_vals (l : List Nat) : (vals l).toArray.all (·.oneCell') = true := by
  rw [Array.all_eq_true]
  intro i hi
  have := vals_one l (vals l)[i] (List.getElem_mem (by simpa using hi))
  simpa using this
theorem zero54 (w : World) : (zeroValue 60).run Tryz.prog w = .ok (.agg (Array.replicate 32 (.int .u8 0))) w := by kernel_rfl
theorem row_bytes {w : World} {g : Nat} {t : TypeId} {l : List Nat} (h : w.heap[g]? = some (.cells (vals l).toArray t (0, 0))) (hl : ∀ b ∈ l, b < 256) (n : Nat) (hn : l.length = n) : Bytes w (some ⟨g, 0, none⟩) n l := by
  refine ⟨hn, hl, fun _ => ⟨g, 0, rfl, fun i hi => ?_⟩⟩
  have hi' : i < l.length := by omega
  simp [World.cell?, h, vals, List.getD, hi']

set_option maxHeartbeats 2000000 in
theorem headOf_any (W : World) (k n c : Nat) (A : Option Addr) (p : List Nat) (h1 : 1 ≤ k) (h3 : k ≤ 3) (hB : Bytes W A n p) (hn : n ≤ 30000) (hc : n ≤ c) (hL : sumDoor.Laid W) :
    Calls Tryz.prog 40 #[.int .i64 k, .slice A n c] W fun e w' => ∃ v, e = .returned v ∧ Made W (headL k p) v w' := by
  have HB := Lib.hid hB
  have HL := Lib.hid hL
  have HT := Lib.hid (two_start W)
  have HZ := Lib.hid zero54
  have hsl := fun w g => slice54 w g
  have hcv := fun (w : World) (C : Array Value) (n c g : Nat) (hg : g = w.heap.size) => Go.Joins.run_convert_bytes_const_at (P := Tryz.prog) w 23 5 C n c g hg Tryz.underlying23 Tryz.underlying5
  clear hB hL
  go_enter Tryz.func40, Tryz.ntmps40
  go_wp2_with fail
  refine (raw_two (HT.out.alloc _) (m := [99, 117, 98]) (lit_at _ [99, 117, 98] (by decide) 5 (3, 4) (by simp) rfl) (by simp) (by simp) (by simp; omega)).mono ?_
  rintro e w1 ⟨rfl, F1, hT1, -⟩
  have HT1 := Lib.hid hT1
  clear hT1 HT
  go_wp2_with fail
  refine (outN_two (v := k) (n := 1) HT1.out (by simp) (by omega) (by omega) (by omega)).mono ?_
  rintro e w2 ⟨rfl, F2, hT2, -⟩
  have HT2 := Lib.hid hT2
  clear hT2 HT1
  go_wp2_with fail
  refine (outN_two (v := n) (n := 4) HT2.out (by simp [bytesOf]) (by omega) (by omega) (by omega)).mono ?_
  rintro e w3 ⟨rfl, F3, hT3, -⟩
  have hf : [] ++ [99, 117, 98] ++ bytesOf k 1 ++ bytesOf n 4 = first k p.length := by
    have := HB.out.1
    rw [this, show bytesOf k 1 = [k] by simp [bytesOf, byteAt]; omega]
    rfl
  rw [hf] at hT3
  have HT3 := Lib.hid hT3
  clear hT3 HT2 hf
  go_wp2_with fail
  refine (end_two HT3.out 8 (first_length _ _) (by omega)).mono ?_
  rintro e w4 ⟨g, rfl, hT4, hB4, hg4⟩
  have HG := Lib.hid (show g ∉ [W.heap.size + 1] from fun h => by
    have := HT3.out.2.1.lt _ h
    omega)
  have hBw := HB.out.below HB.out.lt hT4.2.2.2.2.2
  have HD := Lib.hid (dig_prog w4 A n c p hBw (by omega) hc (HL.out.below HL.out.lt hT4.2.2.2.2.2))
  have HT4 := Lib.hid hT4
  have HB4 := Lib.hid hB4
  clear hT4 HT3 hBw hB4 hg4
  go_wp2_with fail
  refine HD.out.mono ?_
  rintro e w5 ⟨rfl, hb5⟩
  obtain ⟨d, hd⟩ : ∃ d, d = (vals (dig p)).toArray := ⟨_, rfl⟩
  have HT5 := Lib.hid (HT4.out.below hb5)
  have HB5 := Lib.hid (HB4.out.below HB4.out.lt hb5)
  have HA := Lib.hid (all_vals (dig p))
  have HP := Lib.hid (size54 (dig p) (dig_length p))
  have HS := Lib.hid (show (Array.replicate 32 (Value.int .u8 0)).size = (vals (dig p)).toArray.size by simp [vals, dig_length])
  have HR := Lib.hid (heap_alloc_new w5 (.cells (Array.replicate 32 (Value.int .u8 0)) 60))
  rw [← hd] at HA HP HS ⊢
  have HDq := Lib.hid hd
  clear hb5 HD HT4 HB4 hd
  go_wp2_with (refine wpList_store_row rfl 60 (.tmp 9) (.tmp 25) rfl w5.heap.size d rfl rfl 60 _ HR.out HP.out HS.out HA.out ?_)
  rw [World.setRow_alloc_new]
  have hlt5 := HT5.out.2.1.lt (W.heap.size + 1) (by simp)
  obtain ⟨D, hD⟩ : ∃ D, D = w5.heap.size := ⟨_, rfl⟩
  obtain ⟨w6, hw6⟩ : ∃ w6, w6 = w5.alloc (.cells d 60) := ⟨_, rfl⟩
  rw [← hw6, ← hD]
  have HT6 : Hid (Two W W.heap.size (first k p.length) F3 (W.heap.size + 1) [] [W.heap.size + 1] w6) := by rw [hw6]; exact HT5.out.alloc _
  have HB6 : Hid (Bytes w6 (some ⟨g, 0, none⟩) 8 (first k p.length)) := by rw [hw6]; exact HB5.out.alloc _
  have HD6 : Hid (Bytes w6 (some ⟨D, 0, none⟩) 32 (dig p)) := by
    rw [hw6, HDq.out]
    exact lit_at w5 (dig p) (dig_lt p) _ _ hD (dig_length p)
  have HDn : Hid (D ∉ [W.heap.size + 1]) := by
    show ¬ _
    simp
    omega
  have HDl : Hid (D < w6.heap.size) := by
    show _ < _
    rw [hw6, hD]
    simp
  have HGl : Hid (g < w6.heap.size) := HB6.out.lt _ rfl (by omega)
  clear HR HA HP HS HB5 HT5 hlt5 hD hw6 HDq
  refine (raw_two2 HT6.out HB6.out (by simp) (fun e => by cases e) (fun ad e _ => by cases e; exact HG.out)).mono ?_
  rintro e w7 ⟨rfl, F7, hT7, hg7⟩
  have HT7 := Lib.hid hT7
  have HB7 := Lib.hid (hg7.bytes HB6.out HG.out)
  have HD7 := Lib.hid (hg7.bytes HD6.out HDn.out)
  have HDn7 := Lib.hid (hg7.not HDn.out HDl.out)
  clear hT7 hg7 HT6 HB6 HD6 HDn HG HGl
  have hcl := crcOf_lt (l := first k p.length) (first_lt (by omega))
  have HC := Lib.hid (crc_prog (some ⟨g, 0, none⟩) 8 8 (first k p.length) w7 HB7.out (by unfold maxLen; omega))
  have HLF := Lib.hid (first_length k p.length)
  generalize hCe : crcOf (first k p.length) = C at *
  have HCe := Lib.hid hCe
  clear hCe
  go_wp2_with (go_at_call 49; refine HC.out.mono ?_; rintro e w8 ⟨rfl, rfl⟩)
  refine (outN_two2 (v := C) (n := 4) HT7.out (by simp [HLF.out]) (by omega) (by omega) (by omega)).mono ?_
  rintro e w9 ⟨rfl, F9, hT9, hg9⟩
  have HT9 := Lib.hid hT9
  have HD9 := Lib.hid (hg9.bytes HD7.out HDn7.out)
  have HDn9 := Lib.hid (hg9.not HDn7.out (HD7.out.lt _ rfl (by omega)))
  clear hT9 hg9 HT7 HD7 HDn7 HB7 HC
  go_wp2_with fail
  refine (raw_two2 HT9.out HD9.out (by simp [HLF.out, bytesOf]) (fun e => by cases e) (fun ad e _ => by cases e; exact HDn9.out)).mono ?_
  rintro e w10 ⟨rfl, F10, hT10, hg10⟩
  have HT10 := Lib.hid hT10
  clear hT10 hg10 HT9 HD9 HDn9
  go_wp2_with fail
  refine (end_two2 HT10.out (by simp [HLF.out, bytesOf, dig_length])).mono ?_
  rintro e w11 ⟨v, rfl, hM⟩
  have HM := Lib.hid hM
  clear hM HT10
  go_wp2_with fail
  go_ret
  refine ⟨v, rfl, ?_⟩
  have := HM.out
  rw [← HCe.out] at this
  exact this

set_option maxHeartbeats 2000000 in
/-- The frame of a payload that may be. -/
theorem frame_good (W : World) (k n c : Nat) (A : Option Addr) (p : List Nat) (h1 : 1 ≤ k) (h3 : k ≤ 3) (hB : Bytes W A n p) (hn : n ≤ 30000) (hc : n ≤ c) (hA : A = none → c = 0) (hL : sumDoor.Laid W) :
    Calls Tryz.prog 18 #[.int .i64 k, .slice A n c] W fun e w' => ∃ v, e = .returned (.tuple #[v, .int .i64 0]) ∧ Made W (frameL k p) v w' := by
  have hd : decide ((1 : Int) ≤ (k : Nat) ∧ ((k : Nat) : Int) ≤ 3) = true := by simp; omega
  have HB := Lib.hid hB
  have HL := Lib.hid hL
  have HN := Lib.hid hA
  have HO := Lib.hid (codec.fresh_new W)
  clear hB hL hA
  go_enter Tryz.func18, Tryz.ntmps18
  go_wp2_with (go_at_call 39; refine (isKind_any _ _).mono ?_; rw [hd]; rintro e w1 ⟨rfl, rfl⟩)
  have hb1 : Below W.heap.size W (W.alloc (.cells #[.pointer none, .int .i64 0, .bool false] 42)) := (Below.refl _ _).alloc (Nat.le_refl _) _
  refine (headOf_any _ k n c A p h1 h3 (HB.out.below HB.out.lt hb1) hn hc (HL.out.below HL.out.lt hb1)).mono ?_
  rintro e w2 ⟨v, rfl, hM⟩
  obtain ⟨g, rfl, hg, hb2, hBg⟩ := hM.bytes
  rw [headL_length] at hBg ⊢
  have HO2 := Lib.hid (HO.out.below hb2)
  have HB2 := Lib.hid hBg
  have HBel := Lib.hid (hb1.trans (hb2.mono hb1.size))
  have HG := Lib.hid (show g ∉ [W.heap.size] from fun h => by
    simp at h hg
    omega)
  clear hM hb1 hb2 hBg hg HO
  go_wp2_with fail
  refine (codec.raw_good w2 W.heap.size [] [W.heap.size] _ 44 44 _ HO2.out HB2.out (by simp) (fun e => by cases e) (fun ad e _ => by cases e; exact HG.out)).mono ?_
  rintro e w3 ⟨rfl, F3, hO3, ht3, hF3⟩
  have hb3 : Below W.heap.size W w3 := HBel.out.trans (ht3.toBelow W.heap.size HBel.out.size (fun i hi hF => by simp at hF; omega))
  have hF3' : ∀ k ∈ F3, W.heap.size ≤ k := fun k hk => by
    rcases hF3 k hk with h | h
    · simp at h; omega
    · exact Nat.le_trans HBel.out.size h
  have HO3 := Lib.hid hO3
  have HB3 := Lib.hid (HB.out.below HB.out.lt hb3)
  have HF3 := Lib.hid hF3'
  have HBel3 := Lib.hid hb3
  clear hO3 ht3 hF3 hF3' hb3 HO2 HB2 HG HBel
  go_wp2_with fail
  refine (codec.raw_good w3 W.heap.size ([] ++ headL k p) F3 A n c p HO3.out HB3.out (by simp [headL_length]; omega) HN.out (fun ad e h0 hF => absurd (HB.out.lt ad e h0) (by have := HF3.out _ hF; omega))).mono ?_
  rintro e w4 ⟨rfl, F4, hO4, ht4, hF4⟩
  have HO4 := Lib.hid hO4
  have HBel4 := Lib.hid (HBel3.out.trans (ht4.toBelow W.heap.size HBel3.out.size (fun i hi hF => absurd (HF3.out i hF) (by omega))))
  clear hO4 ht4 hF4 HO3 HBel3 HF3
  go_wp2_with fail
  refine (codec.end_good w4 W.heap.size ([] ++ headL k p ++ p) F4 HO4.out (by simp [headL_length, HB.out.1]; omega)).mono ?_
  rintro e w5 ⟨v, rfl, g5, hv, h5, hb5, hM5⟩
  have HM := Lib.hid (show Made W (frameL k p) v w5 from ⟨g5, hv, Nat.le_trans HBel4.out.size h5, HBel4.out.trans (hb5.mono HBel4.out.size), hM5⟩)
  clear hv h5 hb5 hM5 HO4 HBel4
  go_wp2_with fail
  go_ret2
  exact ⟨v, rfl, HM.out⟩
set_option maxHeartbeats 400000 in
theorem frame_long (W : World) (k n c : Nat) (A : Option Addr) (h1 : 1 ≤ k) (h3 : k ≤ 3) (hn : 30000 < n) :
    Calls Tryz.prog 18 #[.int .i64 k, .slice A n c] W fun e w' => e = .returned (.tuple #[.slice none 0 0, .int .i64 3]) ∧ W = w' := by
  have hd : decide ((1 : Int) ≤ (k : Nat) ∧ ((k : Nat) : Int) ≤ 3) = true := by simp; omega
  go_enter Tryz.func18, Tryz.ntmps18
  go_wp2_with (go_at_call 39; refine (isKind_any _ _).mono ?_; rw [hd]; rintro e w1 ⟨rfl, rfl⟩)
  go_ret2
  exact ⟨rfl, rfl⟩
set_option maxHeartbeats 400000 in
theorem frame_arg (W : World) (k : Int) (n c : Nat) (A : Option Addr) (hk : ¬ (1 ≤ k ∧ k ≤ 3)) :
    Calls Tryz.prog 18 #[.int .i64 k, .slice A n c] W fun e w' => e = .returned (.tuple #[.slice none 0 0, .int .i64 1]) ∧ W = w' := by
  have hd : decide ((1 : Int) ≤ k ∧ k ≤ 3) = false := by simpa using hk
  clear hk
  go_enter Tryz.func18, Tryz.ntmps18
  go_wp2_with (go_at_call 39; refine (isKind_any _ _).mono ?_; rw [hd]; rintro e w1 ⟨rfl, rfl⟩)
  go_ret2
  exact ⟨rfl, rfl⟩
end Go.Proofs.YtdbdeplabipfaaaGreatDoor.frm
