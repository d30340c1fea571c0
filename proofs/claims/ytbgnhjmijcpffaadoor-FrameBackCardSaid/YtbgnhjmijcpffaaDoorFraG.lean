/- What rightHead answers. -/
import Derived.Test.YtbgnhjmijcpffaaDoorFraF
import Derived.Deep.RegionWith
namespace Go.Proofs.YtbgnhjmijcpffaaDoor.frm
open Go.ChangeShapes Go.WideShapes Go.ChangeAt Go.RowKit
open Go.Proofs.YtbgnhjmijcpffaaDoor.codec (Bytes vals vals_append vals_length vals_one OutIs More Made New bytesOf byteAt bytesOf_length bytesOf_lt Fits strOf)
set_option linter.unusedVariables false
set_option maxRecDepth 100000
set_option linter.unusedSimpArgs false

/-- What the three numbers of a head are. -/
theorem head_nums (l : List Nat) (hn : 44 ≤ l.length) :
    ((l.drop 3).take 41).length = 41 ∧ codec.numOf (((l.drop 3).take 41).take 1) = l.getD 3 0 ∧ codec.numOf ((((l.drop 3).take 41).drop 1).take 4) = codec.numOf ((l.drop 4).take 4) ∧
    codec.numOf (((((l.drop 3).take 41).drop 1).drop 4).take 4) = codec.numOf ((l.drop 8).take 4) ∧ ((((((l.drop 3).take 41).drop 1).drop 4).drop 4).take 32) = (l.drop 12).take 32 := by
  refine ⟨by simp; omega, ?_, ?_, ?_, ?_⟩
  · match l, hn with
    | a :: b :: c :: d :: r, _ => simp [codec.numOf, codec.numFrom]
  · congr 1
    rw [List.drop_take, List.drop_drop, List.take_take]
    rfl
  · congr 1
    rw [List.drop_take, List.drop_take, List.drop_drop, List.drop_drop, List.take_take]
    rfl
  · rw [List.drop_take, List.drop_take, List.drop_take, List.drop_drop, List.drop_drop, List.drop_drop, List.take_take]
    rfl

theorem inn_Raw {W w : World} {cs : Array Value} {q : Nat} {L : List Nat} (h : Inn W cs q L w) (hs : 32 ≤ L.length) :
    Calls Tryd.prog 42 #[.pointer (some ⟨q, 0, none⟩), .int .i64 32] w fun e w' => ∃ g', e = .returned (.slice (some ⟨g', 0, none⟩) 32 32) ∧ Bytes w' (some ⟨g', 0, none⟩) 32 (L.take 32) ∧ Cell W cs w' ∧ ∀ D, D < w.heap.size → D ≠ q → w'.heap[D]? = w.heap[D]? := by
  obtain ⟨g, o, c, hi, hc, hq, h41, hg⟩ := h
  have hl : (L.take 32).length = 32 := by simp; omega
  refine (codec.inRaw_good w q g o c 32 L hi hg (by omega) (by omega) (by omega)).mono ?_
  rintro e w' ⟨⟨g', he, hB⟩, o', c', h1, h2, h3⟩
  rw [show (32 : Int).toNat = 32 from rfl, hl] at he hB
  exact ⟨g', he, hB, hc.touch hq h2, fun D hD hne => h2.2.2.2.2 D hD hne⟩
theorem Inn.alloc {W w : World} {cs : Array Value} {q : Nat} {L : List Nat} (h : Inn W cs q L w) (ob : Obj) : Inn W cs q L (w.alloc ob) := by
  obtain ⟨g, o, c, hi, hc, hq, h41, hg⟩ := h
  exact ⟨g, o, c, hi.alloc hg ob, hc.below ((Below.refl _ _).alloc (Nat.le_refl _) _), hq, h41, by simp; omega⟩
theorem Inn.drew {W w : World} {cs : Array Value} {q : Nat} {L : List Nat} (h : Inn W cs q L w) : Inn W cs q L w.drew := by
  obtain ⟨g, o, c, hi, hc, hq, h41, hg⟩ := h
  exact ⟨g, o, c, hi.kept rfl rfl, ⟨hc.1, hc.2.os, hc.2.tape, hc.2.output, hc.2.size, hc.2.block⟩, hq, h41, hg⟩
theorem Inn.q_lt {W w : World} {cs : Array Value} {q : Nat} {L : List Nat} (h : Inn W cs q L w) : q < w.heap.size ∧ W.heap.size < w.heap.size := by
  obtain ⟨g, o, c, hi, hc, hq, h41, hg⟩ := h
  exact ⟨hi.facts.2.2.2, hc.lt⟩
theorem splice_head (k m : Nat) (d : List Nat) (hd : d.length = 32) : (splice (Value.int .i64 (k : Nat) :: Value.int .i64 (m : Nat) :: vals (List.replicate 32 0)) 2 (vals d)).toArray = headC k m d := by
  unfold headC splice
  simp [vals, hd]
theorem slice54_at (w : World) (g o : Nat) : (Instr.sliceAt 54 (Value.pointer (some ⟨g, o, none⟩)) none none none).run Tryd.prog w = .ok (.slice (some ⟨g, o, none⟩) 32 32) w := by kernel_rfl

set_option maxHeartbeats 1000000 in
theorem rightHead_bad (W : World) (b o : Nat) (n c : Nat) (l : List Nat) (hB : Bytes W (some ⟨b, o, none⟩) n l) (hn : 44 ≤ n) (hc : n ≤ c) (hnm : n ≤ 50000) (hm : l.take 3 = [99, 117, 98]) (hbad : rightB l = false) :
    Calls Tryd.prog 33 #[.slice (some ⟨b, o, none⟩) n c] W fun e w' => e = .returned (.tuple #[.agg zeroC, .bool false]) ∧ Below W.heap.size W w' := by
  have hlen := hB.1
  obtain ⟨e0, e1, e2, e3, e4⟩ := head_nums l (by omega)
  obtain ⟨k, hk⟩ : ∃ k, k = l.getD 3 0 := ⟨_, rfl⟩
  obtain ⟨m, hm'⟩ : ∃ m, m = codec.numOf ((l.drop 4).take 4) := ⟨_, rfl⟩
  obtain ⟨x, hx⟩ : ∃ x, x = codec.numOf ((l.drop 8).take 4) := ⟨_, rfl⟩
  obtain ⟨C, hC⟩ : ∃ C, C = crcOf (l.take 8) := ⟨_, rfl⟩
  obtain ⟨L, hL⟩ : ∃ L, L = (l.drop 3).take 41 := ⟨_, rfl⟩
  rw [← hL] at e0 e1 e2 e3 e4
  rw [← hk] at e1
  rw [← hm'] at e2
  rw [← hx] at e3
  have hk256 : k < 256 := by rw [hk]; exact codec.getD_lt256 hB.2.1 3
  have hm4 : m < 4294967296 := by
    have := codec.numOf_lt ((l.drop 4).take 4) (fun b hb => hB.2.1 b (List.mem_of_mem_drop (List.mem_of_mem_take hb))) 4
    rw [List.take_take] at this
    rw [hm']
    exact this
  have hx4 : x < 4294967296 := by
    have := codec.numOf_lt ((l.drop 8).take 4) (fun b hb => hB.2.1 b (List.mem_of_mem_drop (List.mem_of_mem_take hb))) 4
    rw [List.take_take] at this
    rw [hx]
    exact this
  have hC4 : C < 4294967296 := by rw [hC]; exact crcOf_lt (fun b hb => hB.2.1 b (List.mem_of_mem_take hb))
  have hbad' : ¬ (1 ≤ k ∧ k ≤ 3 ∧ m ≤ 30000 ∧ x = C) := fun h => by
    have : rightB l = true := by
      unfold rightB
      rw [decide_eq_true_eq]
      exact ⟨by omega, hm, by omega, by omega, by omega, by omega⟩
    rw [hbad] at this
    cases this
  have HS := Lib.hid (cell_start W)
  have HP := Lib.hid (size57 0 0 (List.replicate 32 0) (by simp))
  have HA := Lib.hid (all_head 0 0 (List.replicate 32 0))
  have c1 : ∀ cs, (convert 22 9 (.slice (some ⟨b, o, none⟩) 3 c)).run Tryd.prog (W.alloc (.cells cs 57)) = .ok (.string ⟨#[99, 117, 98]⟩) (W.alloc (.cells cs 57)) := fun cs => by
    have := ((bytes_take hB 3 (by omega)).alloc (.cells cs 57)).text c
    rw [hm] at this
    exact this
  have HB1 := Lib.hid (show ∀ w1, Cell W zeroC w1 → Bytes w1 (some ⟨b, o + 3, none⟩) 41 L from fun w1 h => by
    rw [hL]
    exact bytes_take (bytes_drop (hB.below hB.lt h.2) 3 (by omega)) 41 (by omega))
  have HB2 := Lib.hid (show ∀ w1, Cell W zeroC w1 → Calls Tryd.prog 28 #[.slice (some ⟨b, o, none⟩) 8 c] w1 fun e w' => e = .returned (.int .u32 (C : Nat)) ∧ w1 = w' from fun w1 h => by
    rw [hC]
    exact crc_prog _ 8 c _ w1 (bytes_take (hB.below hB.lt h.2) 8 (by omega)) (by unfold maxLen; omega))
  have H1 := Lib.hid e1
  have H2 := Lib.hid e2
  have H3 := Lib.hid e3
  clear hbad hm hB hk hm' hx hC hL e1 e2 e3 e4
  have hcase : (¬ (1 ≤ k ∧ k ≤ 3)) ∨ ((1 ≤ k ∧ k ≤ 3) ∧ 30000 < m) ∨ ((1 ≤ k ∧ k ≤ 3) ∧ m ≤ 30000 ∧ x ≠ C) := by omega
  clear hbad'
  go_enter Tryd.func33, Tryd.ntmps33
  go_wp2_with fail
  refine (newIn_cell HS.out (HB1.out _ HS.out)).mono ?_
  rintro e w1 ⟨q, rfl, hI⟩
  have HI := Lib.hid hI
  clear hI HS HB1 c1
  go_wp2_with fail
  refine (inn_N 1 HI.out (by omega) (by omega) (by omega)).mono ?_
  rw [H1.out]
  rintro e w2 ⟨rfl, hI⟩
  have HI2 := Lib.hid hI
  clear hI HI
  go_wp2_with fail
  refine (inn_N 4 HI2.out (by omega) (by omega) (by simp; omega)).mono ?_
  rw [H2.out]
  rintro e w3 ⟨rfl, hI⟩
  have HI3 := Lib.hid hI
  clear hI HI2
  go_wp2_with fail
  refine (inn_N 4 HI3.out (by omega) (by omega) (by simp; omega)).mono ?_
  rw [H3.out]
  rintro e w4 ⟨rfl, hI⟩
  have HI4 := Lib.hid hI
  have HCell : Hid (Cell W zeroC w4) := by
    obtain ⟨_, _, _, _, h, _⟩ := HI4.out
    exact h
  clear hI HI3 H1 H2 H3 HI4
  go_wp2_with fail
  rcases hcase with hk | ⟨hk, hm⟩ | ⟨hk, hm, hne⟩
  · have hd : decide ((1 : Int) ≤ (k : Nat) ∧ ((k : Nat) : Int) ≤ 3) = false := by simp; omega
    clear hk
    go_wp2_with (first
      | (go_at_call 14; refine (isKind_any _ _).mono ?_; rw [hd]; rintro e w5 ⟨rfl, rfl⟩)
      | (refine sumDoor.wpList_buildTo rfl 57 _ rfl zeroC (by kernel_rfl) ?_)
      | (refine wpList_store_row rfl 57 (.tmp 2) (.tmp 43) rfl W.heap.size zeroC rfl rfl 57 zeroC HCell.out.1 HP.out rfl HA.out ?_; refine sumDoor.forget (fun w1 => Cell W zeroC w1) HCell.out.put ?_; intro w2 hR2; have HR2 := Lib.hid hR2; clear hR2 HCell))
    exact bodyPost_ret (results_cell_tmp Tryd.results33 _ _ W.heap.size _ _ _ _ rfl HR2.out.1 Tryd.underlying57 rfl HP.out) rfl ⟨rfl, HR2.out.2⟩
  · have hd : decide ((1 : Int) ≤ (k : Nat) ∧ ((k : Nat) : Int) ≤ 3) = true := by simp; omega
    clear hk
    go_wp2_with (first
      | (go_at_call 14; refine (isKind_any _ _).mono ?_; rw [hd]; rintro e w5 ⟨rfl, rfl⟩)
      | (refine sumDoor.wpList_buildTo rfl 57 _ rfl zeroC (by kernel_rfl) ?_)
      | (refine wpList_store_row rfl 57 (.tmp 2) (.tmp 43) rfl W.heap.size zeroC rfl rfl 57 zeroC HCell.out.1 HP.out rfl HA.out ?_; refine sumDoor.forget (fun w1 => Cell W zeroC w1) HCell.out.put ?_; intro w2 hR2; have HR2 := Lib.hid hR2; clear hR2 HCell))
    exact bodyPost_ret (results_cell_tmp Tryd.results33 _ _ W.heap.size _ _ _ _ rfl HR2.out.1 Tryd.underlying57 rfl HP.out) rfl ⟨rfl, HR2.out.2⟩
  · have hd : decide ((1 : Int) ≤ (k : Nat) ∧ ((k : Nat) : Int) ≤ 3) = true := by simp; omega
    have hne' : ((x : Int) != (C : Int)) = true := by rw [bne_iff_ne]; omega
    clear hk hne
    go_wp2_with (first
      | (go_at_call 14; refine (isKind_any _ _).mono ?_; rw [hd]; rintro e w5 ⟨rfl, rfl⟩)
      | (go_at_call 28; refine (HB2.out _ HCell.out).mono ?_; rintro e w5 ⟨rfl, rfl⟩)
      | (refine sumDoor.wpList_buildTo rfl 57 _ rfl zeroC (by kernel_rfl) ?_)
      | (refine wpList_store_row rfl 57 (.tmp 2) (.tmp 43) rfl W.heap.size zeroC rfl rfl 57 zeroC HCell.out.1 HP.out rfl HA.out ?_; refine sumDoor.forget (fun w1 => Cell W zeroC w1) HCell.out.put ?_; intro w2 hR2; have HR2 := Lib.hid hR2; clear hR2 HCell))
    exact bodyPost_ret (results_cell_tmp Tryd.results33 _ _ W.heap.size _ _ _ _ rfl HR2.out.1 Tryd.underlying57 rfl HP.out) rfl ⟨rfl, HR2.out.2⟩
def numOf4 (l : List Nat) : Nat := codec.numOf ((l.drop 4).take 4)
set_option maxHeartbeats 1000000 in
theorem rightHead_good (W : World) (b o : Nat) (n c : Nat) (l : List Nat) (hB : Bytes W (some ⟨b, o, none⟩) n l) (hn : 44 ≤ n) (hc : n ≤ c) (hnm : n ≤ 50000) (hbad : rightB l = true) :
    Calls Tryd.prog 33 #[.slice (some ⟨b, o, none⟩) n c] W fun e w' => e = .returned (.tuple #[.agg (headC (l.getD 3 0) (numOf4 l) ((l.drop 12).take 32)), .bool true]) ∧ Below W.heap.size W w' := by
  have hlen := hB.1
  have hm : l.take 3 = [99, 117, 98] := by
    unfold rightB at hbad
    rw [decide_eq_true_eq] at hbad
    exact hbad.2.1
  obtain ⟨e0, e1, e2, e3, e4⟩ := head_nums l (by omega)
  obtain ⟨k, hk⟩ : ∃ k, k = l.getD 3 0 := ⟨_, rfl⟩
  obtain ⟨m, hm'⟩ : ∃ m, m = codec.numOf ((l.drop 4).take 4) := ⟨_, rfl⟩
  obtain ⟨x, hx⟩ : ∃ x, x = codec.numOf ((l.drop 8).take 4) := ⟨_, rfl⟩
  obtain ⟨C, hC⟩ : ∃ C, C = crcOf (l.take 8) := ⟨_, rfl⟩
  obtain ⟨L, hL⟩ : ∃ L, L = (l.drop 3).take 41 := ⟨_, rfl⟩
  rw [← hL] at e0 e1 e2 e3 e4
  rw [← hk] at e1
  rw [← hm'] at e2
  rw [← hx] at e3
  have hk256 : k < 256 := by rw [hk]; exact codec.getD_lt256 hB.2.1 3
  have hm4 : m < 4294967296 := by
    have := codec.numOf_lt ((l.drop 4).take 4) (fun b hb => hB.2.1 b (List.mem_of_mem_drop (List.mem_of_mem_take hb))) 4
    rw [List.take_take] at this
    rw [hm']
    exact this
  have hx4 : x < 4294967296 := by
    have := codec.numOf_lt ((l.drop 8).take 4) (fun b hb => hB.2.1 b (List.mem_of_mem_drop (List.mem_of_mem_take hb))) 4
    rw [List.take_take] at this
    rw [hx]
    exact this
  have hC4 : C < 4294967296 := by rw [hC]; exact crcOf_lt (fun b hb => hB.2.1 b (List.mem_of_mem_take hb))
  obtain ⟨d, hdq⟩ : ∃ d, d = (l.drop 12).take 32 := ⟨_, rfl⟩
  rw [← hdq] at e4
  have hdl : d.length = 32 := by rw [hdq]; simp; omega
  have hall : 1 ≤ k ∧ k ≤ 3 ∧ m ≤ 30000 ∧ x = C := by
    unfold rightB at hbad
    rw [decide_eq_true_eq] at hbad
    omega
  have HS := Lib.hid (cell_start W)
  have HP := Lib.hid (size57 0 0 (List.replicate 32 0) (by simp))
  have HA := Lib.hid (all_head 0 0 (List.replicate 32 0))
  have c1 : ∀ cs, (convert 22 9 (.slice (some ⟨b, o, none⟩) 3 c)).run Tryd.prog (W.alloc (.cells cs 57)) = .ok (.string ⟨#[99, 117, 98]⟩) (W.alloc (.cells cs 57)) := fun cs => by
    have := ((bytes_take hB 3 (by omega)).alloc (.cells cs 57)).text c
    rw [hm] at this
    exact this
  have HB1 := Lib.hid (show ∀ w1, Cell W zeroC w1 → Bytes w1 (some ⟨b, o + 3, none⟩) 41 L from fun w1 h => by
    rw [hL]
    exact bytes_take (bytes_drop (hB.below hB.lt h.2) 3 (by omega)) 41 (by omega))
  have HB2 := Lib.hid (show ∀ w1, Cell W zeroC w1 → Calls Tryd.prog 28 #[.slice (some ⟨b, o, none⟩) 8 c] w1 fun e w' => e = .returned (.int .u32 (C : Nat)) ∧ w1 = w' from fun w1 h => by
    rw [hC]
    exact crc_prog _ 8 c _ w1 (bytes_take (hB.below hB.lt h.2) 8 (by omega)) (by unfold maxLen; omega))
  have H1 := Lib.hid e1
  have H2 := Lib.hid e2
  have H3 := Lib.hid e3
  have H4 := Lib.hid e4
  unfold numOf4
  rw [← hk, ← hm', ← hdq]
  clear hbad hm hB hk hm' hx hC hL e1 e2 e3 e4 hdq
  obtain ⟨hk1, hk3, hm, rfl⟩ := hall
  have hd : decide ((1 : Int) ≤ (k : Nat) ∧ ((k : Nat) : Int) ≤ 3) = true := by simp; omega
  have hne' : ((x : Int) != (x : Int)) = false := by simp
  have HD := Lib.hid hdl
  have HP2 := Lib.hid (size57 k m (List.replicate 32 0) (by simp))
  have HA2 := Lib.hid (all_head k m (List.replicate 32 0))
  have HP3 := Lib.hid (size57 k m d hdl)
  have HA3 := Lib.hid (all_head k m d)
  have HZ3 := Lib.hid (show zeroC.size = (headC k m d).size by rw [headC_size k m d hdl]; rfl)
  have hsl := fun w g o => slice54_at w g o
  go_enter Tryd.func33, Tryd.ntmps33
  go_wp2_with fail
  refine (newIn_cell HS.out (HB1.out _ HS.out)).mono ?_
  rintro e w1 ⟨q, rfl, hI⟩
  have HI := Lib.hid hI
  clear hI HS HB1 c1
  go_wp2_with fail
  refine (inn_N 1 HI.out (by omega) (by omega) (by omega)).mono ?_
  rw [H1.out]
  rintro e w2 ⟨rfl, hI⟩
  have HI2 := Lib.hid hI
  clear hI HI
  go_wp2_with fail
  refine (inn_N 4 HI2.out (by omega) (by omega) (by simp; omega)).mono ?_
  rw [H2.out]
  rintro e w3 ⟨rfl, hI⟩
  have HI3 := Lib.hid hI
  clear hI HI2
  go_wp2_with fail
  refine (inn_N 4 HI3.out (by omega) (by omega) (by simp; omega)).mono ?_
  rw [H3.out]
  rintro e w4 ⟨rfl, hI⟩
  have HI4 := Lib.hid hI
  have HCell : Hid (Cell W zeroC w4) := by
    obtain ⟨_, _, _, _, h, _⟩ := HI4.out
    exact h
  clear hI HI3 H1 H2 H3
  go_wp2_with (first
    | (go_at_call 14; refine (isKind_any _ _).mono ?_; rw [hd]; rintro e w5 ⟨rfl, rfl⟩)
    | (go_at_call 28; refine (HB2.out _ HCell.out).mono ?_; rintro e w5 ⟨rfl, rfl⟩)
    | (refine sumDoor.wpList_buildTo rfl 57 _ rfl (headC k m (List.replicate 32 0)) (by kernel_rfl) ?_)
    | (refine wpList_store_row rfl 57 (.tmp 8) (.tmp 46) rfl w4.heap.size (headC k m (List.replicate 32 0)) rfl rfl 57 zeroC (heap_alloc_new w4 (.cells zeroC 57)) HP2.out rfl HA2.out ?_; rw [World.setRow_alloc_new]))
  have hql := HI4.out.q_lt
  have HI5 := Lib.hid (HI4.out.alloc (.cells (headC k m (List.replicate 32 0)) 57))
  have HR5 := Lib.hid (heap_alloc_new w4 (.cells (headC k m (List.replicate 32 0)) 57))
  have hDs : w4.heap.size < (w4.alloc (.cells (headC k m (List.replicate 32 0)) 57)).heap.size := by simp
  generalize w4.alloc (.cells (headC k m (List.replicate 32 0)) 57) = w5 at *
  generalize w4.heap.size = D at *
  have HDq := Lib.hid (show D ≠ q ∧ W.heap.size < D ∧ D < w5.heap.size from ⟨by omega, by omega, hDs⟩)
  have HRaw := Lib.hid (inn_Raw HI5.out.drew (by simp; omega))
  rw [H4.out] at HRaw
  clear hql hDs HI4 HCell HI5 H4 HB2 HP HA HP2 HA2
  go_region_law (first
    | (refine step_copy_splice rfl (.tmp 48) (.tmp 50) 22 22 rfl 5 Tryd.underlying22 (by kernel_rfl) (some ⟨D, 2, none⟩) (some ⟨g', 0, none⟩) 32 32 32 32 (by simp [Act.eval, Act.put]) (by simp [Act.eval, Act.put]) D 2 (Value.int .i64 (k : Nat) :: Value.int .i64 (m : Nat) :: vals (List.replicate 32 0)) 57 HR6.out (vals d) (by rw [vals_length, HD.out]; rfl) ?_ (by simp [vals, HD.out]) (vals_one d) D w6 (Below.refl _ _) (Nat.le_refl _) ?_; exact HSrc.out; intro w7 hR7 hb7; have HC7 := Lib.hid (show w7.heap[D]? = some (.cells (headC k m d) 57 (0, 0)) by have := hR7.out; rw [splice_head k m d HD.out] at this; exact this); have HCell7 := Lib.hid (show Cell W zeroC w7 from ⟨(hb7.block _ HDq.out.2.1).trans HC6.out.1, HC6.out.2.trans (hb7.mono (Nat.le_of_lt HDq.out.2.1))⟩); clear hR7 hb7)
    | (go_simp; go_at_call 42; refine HRaw.out.mono ?_; rintro e w6 ⟨g', rfl, hB6, hC6, hk6⟩; have HR6 := Lib.hid ((hk6 D HDq.out.2.2 HDq.out.1).trans HR5.out); have HC6 := Lib.hid hC6; have HSrc := Lib.hid (show 0 < (vals d).length → (some ⟨D, 2, none⟩ : Option Addr) = some ⟨D, 2, none⟩ ∧ ∃ ad, (some ⟨g', 0, none⟩ : Option Addr) = some ad ∧ ∀ j v, (vals d)[j]? = some v → w6.cell? (ad.add j) = some v from fun _ => ⟨rfl, hB6.cells (by omega)⟩); clear hB6 hC6 hk6))
  all_goals
    clear HDq HRaw HR5 HSrc HC6 HR6
    go_wp2_with (first
      | (refine wpList_load_row rfl 57 (.tmp 8) rfl D rfl 57 (headC k m d) _ _ HC7.out Tryd.underlying57 rfl HP3.out ?_)
      | (refine wpList_store_row rfl 57 (.tmp 2) (.tmp 52) rfl W.heap.size (headC k m d) rfl rfl 57 zeroC HCell7.out.1 HP3.out HZ3.out HA3.out ?_; refine sumDoor.forget (fun w1 => Cell W (headC k m d) w1) HCell7.out.put ?_; intro w8 hR8; have HR8 := Lib.hid hR8; clear hR8 HCell7))
    exact bodyPost_ret (results_cell_tmp Tryd.results33 _ _ W.heap.size _ _ _ _ rfl HR8.out.1 Tryd.underlying57 rfl HP3.out) rfl ⟨rfl, HR8.out.2⟩
end Go.Proofs.YtbgnhjmijcpffaaDoor.frm
