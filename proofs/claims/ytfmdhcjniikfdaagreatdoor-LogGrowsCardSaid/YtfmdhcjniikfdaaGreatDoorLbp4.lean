/- Where a right head stands. -/
import Derived.Test.YtfmdhcjniikfdaaGreatDoorLbp3
import Derived.Deep.RegionWith
import Derived.Deep.RegionHeld3
import Derived.Deep.MidRow
import Derived.Stop.BytesEq
import Derived.Maps.AppendAt
import Derived.IntWalk
/- Where a right head stands. -/
namespace Go.Proofs.YtfmdhcjniikfdaaGreatDoor.frm
open Go.ChangeShapes Go.WideShapes Go.ChangeAt Go.RowKit
open Go.Proofs.YtfmdhcjniikfdaaGreatDoor.codec (Bytes vals vals_append vals_length vals_one OutIs More Made New bytesOf byteAt bytesOf_length bytesOf_lt Fits strOf)
set_option linter.unusedVariables false
set_option maxRecDepth 100000
set_option linter.unusedSimpArgs false

/-- Does a right head stand at the start of these bytes? -/
def rightB (l : List Nat) : Bool := decide (44 ≤ l.length ∧ l.take 3 = [99, 117, 98] ∧ 1 ≤ l.getD 3 0 ∧ l.getD 3 0 ≤ 3 ∧ codec.numOf ((l.drop 4).take 4) ≤ 30000 ∧ codec.numOf ((l.drop 8).take 4) = crcOf (l.take 8))
/-- The cells of a head. -/
def headC (k n : Nat) (d : List Nat) : Array Value := (Value.int .i64 (k : Nat) :: Value.int .i64 (n : Nat) :: vals d).toArray
def zeroC : Array Value := headC 0 0 (List.replicate 32 0)
theorem headC_size (k n : Nat) (d : List Nat) (h : d.length = 32) : (headC k n d).size = 34 := by simp [headC, vals, h]
theorem size57 (k n : Nat) (d : List Nat) (h : d.length = 32) : (Tryz.prog.info? 82).map (·.size) = some (headC k n d).size := by
  rw [headC_size k n d h]
  kernel_rfl
theorem all_head (k n : Nat) (d : List Nat) : (headC k n d).all (·.oneCell') = true := by
  rw [Array.all_eq_true]
  intro i hi
  unfold headC at hi ⊢
  have h : ∀ u ∈ (Value.int .i64 (k : Nat) :: Value.int .i64 (n : Nat) :: vals d), u.oneCell' = true := by
    intro u hu
    simp only [List.mem_cons] at hu
    rcases hu with rfl | rfl | hu
    · rfl
    · rfl
    · exact vals_one d u hu
  exact h _ (by simp)
theorem zero57 (w : World) : (zeroValue 82).run Tryz.prog w = .ok (.agg zeroC) w := by kernel_rfl

theorem results_cell_tmp {P : Program} {fn : Func} {p q : Tmp} {ty : TypeId} (h : fn.results = #[.cell p ty, .tmp q]) (tmps : Array Value) (w : World) (g : Nat) (t : TypeId) (cs : Array Value) (fr : Nat × Nat) (d : TypeDesc)
    (hp : tmps.getD p undef = .pointer (some ⟨g, 0, none⟩)) (hg : w.heap[g]? = some (.cells cs t fr))
    (hu : P.underlying ty = some d) (hd : (match d with | .struct _ | .array _ _ => true | _ => false) = true) (hi : (P.info? ty).map (·.size) = some cs.size) :
    (results fn tmps).run P w = .ok (.tuple #[.agg cs, tmps.getD q undef]) w := by
  have hp' : tmps[p]?.getD undef = .pointer (some ⟨g, 0, none⟩) := by simpa using hp
  simp [results, h, hp', asAddr, run_loadVar_row w g t ty cs fr d hg hu hd hi]
theorem results_tmp_cell_tmp {P : Program} {fn : Func} {r p q : Tmp} {ty : TypeId} (h : fn.results = #[.tmp r, .cell p ty, .tmp q]) (tmps : Array Value) (w : World) (g : Nat) (t : TypeId) (cs : Array Value) (fr : Nat × Nat) (d : TypeDesc)
    (hp : tmps.getD p undef = .pointer (some ⟨g, 0, none⟩)) (hg : w.heap[g]? = some (.cells cs t fr))
    (hu : P.underlying ty = some d) (hd : (match d with | .struct _ | .array _ _ => true | _ => false) = true) (hi : (P.info? ty).map (·.size) = some cs.size) :
    (results fn tmps).run P w = .ok (.tuple #[tmps.getD r undef, .agg cs, tmps.getD q undef]) w := by
  have hp' : tmps[p]?.getD undef = .pointer (some ⟨g, 0, none⟩) := by simpa using hp
  simp [results, h, hp', asAddr, run_loadVar_row w g t ty cs fr d hg hu hd hi]
/-- The result's cell, and what was. -/
def Cell (W : World) (cs : Array Value) (w : World) : Prop := w.heap[W.heap.size]? = some (.cells cs 82 (0, 0)) ∧ Below W.heap.size W w
theorem cell_start (W : World) : Cell W zeroC (W.alloc (.cells zeroC 82)) := ⟨heap_alloc_new W _, (Below.refl _ _).alloc (Nat.le_refl _) _⟩
theorem Cell.lt {W w : World} {cs : Array Value} (h : Cell W cs w) : W.heap.size < w.heap.size := (Array.getElem?_eq_some_iff.1 h.1).1
theorem Cell.below {W w w' : World} {cs : Array Value} (h : Cell W cs w) (hb : Below w.heap.size w w') : Cell W cs w' := ⟨(hb.block _ h.lt).trans h.1, h.2.trans (hb.mono h.2.size)⟩
theorem Cell.put {W w : World} {cs cs' : Array Value} (h : Cell W cs w) : Cell W cs' (w.setRow W.heap.size cs') := ⟨setRow_heap w _ _ _ _ _ h.1, sumDoor.below_setRow h.2 (Nat.le_refl _) _⟩
set_option maxHeartbeats 1000000 in
theorem rightHead_short (W : World) (A : Option Addr) (n c : Nat) (hn : n < 44) :
    Calls Tryz.prog 56 #[.slice A n c] W fun e w' => e = .returned (.tuple #[.agg zeroC, .bool false]) ∧ Below W.heap.size W w' := by
  have HS := Lib.hid (cell_start W)
  have HP := Lib.hid (size57 0 0 (List.replicate 32 0) (by simp))
  have HA := Lib.hid (all_head 0 0 (List.replicate 32 0))
  go_enter Tryz.func56, Tryz.ntmps56
  go_wp2_with (first
    | (refine sumDoor.wpList_buildTo rfl 82 _ rfl zeroC (by kernel_rfl) ?_; refine sumDoor.forget (fun w1 => Cell W zeroC w1) HS.out ?_; intro w1 hR1; have HR := Lib.hid hR1; clear hR1 HS)
    | (refine wpList_store_row rfl 82 (.tmp 2) (.tmp 18) rfl W.heap.size zeroC rfl rfl 82 zeroC HR.out.1 HP.out rfl HA.out ?_; refine sumDoor.forget (fun w1 => Cell W zeroC w1) HR.out.put ?_; intro w2 hR2; have HR2 := Lib.hid hR2; clear hR2 HR))
  exact bodyPost_ret (results_cell_tmp Tryz.results56 _ _ W.heap.size _ _ _ _ rfl HR2.out.1 Tryz.underlying82 rfl HP.out) rfl ⟨rfl, HR2.out.2⟩
theorem bytes_take {w : World} {A : Option Addr} {n : Nat} {l : List Nat} (h : Bytes w A n l) (k : Nat) (hk : k ≤ n) : Bytes w A k (l.take k) := by
  refine ⟨by rw [List.length_take, h.1]; omega, fun b hb => h.2.1 b (List.mem_of_mem_take hb), fun h0 => ?_⟩
  obtain ⟨b, o, rfl, hc⟩ := h.2.2 (by omega)
  refine ⟨b, o, rfl, fun i hi => ?_⟩
  rw [hc i (by omega)]
  simp [List.getD, hi]
theorem bytes_drop {w : World} {b o : Nat} {n : Nat} {l : List Nat} (h : Bytes w (some ⟨b, o, none⟩) n l) (k : Nat) (hk : k < n) : Bytes w (some ⟨b, o + k, none⟩) (n - k) (l.drop k) := by
  refine ⟨by rw [List.length_drop, h.1], fun x hx => h.2.1 x (List.mem_of_mem_drop hx), fun h0 => ?_⟩
  obtain ⟨b, o, e, hc⟩ := h.2.2 (by omega)
  cases e
  refine ⟨_, _, rfl, fun i hi => ?_⟩
  rw [Nat.add_assoc, hc (k + i) (by omega)]
  simp [List.getD]
theorem str_ne {T S : ByteArray} (h : T ≠ S) : (T.toList == S.data.toList) = false := by
  rw [beq_eq_false_iff_ne, ByteArray.toList_eq]
  intro e
  apply h
  obtain ⟨⟨t⟩⟩ := T
  obtain ⟨⟨u⟩⟩ := S
  simp at e
  rw [e]
set_option maxHeartbeats 1000000 in
theorem rightHead_mark (W : World) (b o : Nat) (n c : Nat) (l : List Nat) (hB : Bytes W (some ⟨b, o, none⟩) n l) (hn : 44 ≤ n) (hc : n ≤ c) (hnm : n ≤ 16000000) (hm : l.take 3 ≠ [99, 117, 98]) :
    Calls Tryz.prog 56 #[.slice (some ⟨b, o, none⟩) n c] W fun e w' => e = .returned (.tuple #[.agg zeroC, .bool false]) ∧ Below W.heap.size W w' := by
  have HS := Lib.hid (cell_start W)
  have HP := Lib.hid (size57 0 0 (List.replicate 32 0) (by simp))
  have HA := Lib.hid (all_head 0 0 (List.replicate 32 0))
  obtain ⟨T, hT⟩ : ∃ T, T = strOf (l.take 3) := ⟨_, rfl⟩
  have c1 : ∀ cs, (convert 22 9 (.slice (some ⟨b, o, none⟩) 3 c)).run Tryz.prog (W.alloc (.cells cs 82)) = .ok (.string T) (W.alloc (.cells cs 82)) := fun cs => by
    rw [hT]
    exact ((bytes_take hB 3 (by omega)).alloc _).text c
  have hne := str_ne (fun e : T = ⟨#[99, 117, 98]⟩ => hm (codec.strOf_inj (fun x hx => hB.2.1 x (List.mem_of_mem_take hx)) (by decide) (hT.symm.trans e)))
  clear hT hm hB
  go_enter Tryz.func56, Tryz.ntmps56
  go_wp2_with (first
    | (refine sumDoor.wpList_buildTo rfl 82 _ rfl zeroC (by kernel_rfl) ?_; refine sumDoor.forget (fun w1 => Cell W zeroC w1) HS.out ?_; intro w1 hR1; have HR := Lib.hid hR1; clear hR1 HS)
    | (refine wpList_store_row rfl 82 (.tmp 2) (.tmp 18) rfl W.heap.size zeroC rfl rfl 82 zeroC HR.out.1 HP.out rfl HA.out ?_; refine sumDoor.forget (fun w1 => Cell W zeroC w1) HR.out.put ?_; intro w2 hR2; have HR2 := Lib.hid hR2; clear hR2 HR))
  exact bodyPost_ret (results_cell_tmp Tryz.results56 _ _ W.heap.size _ _ _ _ rfl HR2.out.1 Tryz.underlying82 rfl HP.out) rfl ⟨rfl, HR2.out.2⟩
/-- An In over bytes that were copied, beside the result's cell. -/
def Inn (W : World) (cs : Array Value) (q : Nat) (L : List Nat) (w : World) : Prop := ∃ g o c, codec.InIs w q g o c L ∧ Cell W cs w ∧ W.heap.size < q ∧ c ≤ 41 ∧ g < w.heap.size
theorem newIn_cell {W w1 : World} {A : Option Addr} {c : Nat} {L : List Nat} (h : Cell W zeroC w1) (hB : Bytes w1 A 41 L) :
    Calls Tryz.prog 41 #[.slice A 41 c] w1 fun e w' => ∃ q, e = .returned (.pointer (some ⟨q, 0, none⟩)) ∧ Inn W zeroC q L w' :=
  (codec.newIn_any w1 A 41 c L hB (by omega)).mono fun _ w' ⟨he, hi, hb⟩ => ⟨_, he, _, _, _, hi, h.below hb, by have := h.lt; omega, Nat.le_refl _, by
    have := (Array.getElem?_eq_some_iff.1 hi.1).1
    omega⟩
theorem Cell.touch {W w w' : World} {cs : Array Value} {q : Nat} (h : Cell W cs w) (hq : W.heap.size < q) (ht : codec.Touch (fun i => i = q) w w') : Cell W cs w' :=
  ⟨(ht.2.2.2.2 _ h.lt (by omega)).trans h.1, h.2.trans (ht.toBelow W.heap.size h.2.size (fun i hi e => by omega))⟩
theorem inn_N {W w : World} {cs : Array Value} {q : Nat} {L : List Nat} (s : Nat) (h : Inn W cs q L w) (h1 : 1 ≤ s) (h7 : s ≤ 7) (hs : s ≤ L.length) :
    Calls Tryz.prog 42 #[.pointer (some ⟨q, 0, none⟩), .int .i64 s] w fun e w' => e = .returned (.int .i64 (codec.numOf (L.take s) : Nat)) ∧ Inn W cs q (L.drop s) w' := by
  obtain ⟨g, o, c, hi, hc, hq, h41, hg⟩ := h
  exact (codec.inN_good w q g o c s L hi (by omega) (by omega) (by omega) (by omega)).mono fun _ w' ⟨he, o', c', h1, h2, h3⟩ => ⟨he, g, o', c', h1, hc.touch hq h2, hq, by omega, Nat.lt_of_lt_of_le hg h2.2.2.2.1⟩
end Go.Proofs.YtfmdhcjniikfdaaGreatDoor.frm
/- What rightHead answers. -/
namespace Go.Proofs.YtfmdhcjniikfdaaGreatDoor.frm
open Go.ChangeShapes Go.WideShapes Go.ChangeAt Go.RowKit
open Go.Proofs.YtfmdhcjniikfdaaGreatDoor.codec (Bytes vals vals_append vals_length vals_one OutIs More Made New bytesOf byteAt bytesOf_length bytesOf_lt Fits strOf)
set_option linter.unusedVariables false
set_option maxRecDepth 100000
set_option linter.unusedSimpArgs false

/-- What the three numbers of a head are. -/
theorem head_nums (l : List Nat) (hn : 44 ≤ l.length) :
    ((l.drop 3).take 41).length = 41 ∧ codec.numOf (((l.drop 3).take 41).take 1) = l.getD 3 0 ∧ codec.numOf ((((l.drop 3).take 41).drop 1).take 4) = codec.numOf ((l.drop 4).take 4) ∧
    codec.numOf (((((l.drop 3).take 41).drop 1).drop 4).take 4) = codec.numOf ((l.drop 8).take 4) ∧ ((((((l.drop 3).take 41).drop 1).drop 4).drop 4).take 32) = (l.drop 12).take 32 := by
  refine ⟨by simp; omega, ?_, ?_, ?_, ?_⟩
  · match l, hn with
    | a :: b :: c :: d :: r, _ => simp [codec.numOf, codec.numFrom]
  · congr 1
    rw [List.drop_take, List.drop_drop, List.take_take]
    rfl
  · congr 1
    rw [List.drop_take, List.drop_take, List.drop_drop, List.drop_drop, List.take_take]
    rfl
  · rw [List.drop_take, List.drop_take, List.drop_take, List.drop_drop, List.drop_drop, List.drop_drop, List.take_take]
    rfl

theorem inn_Raw {W w : World} {cs : Array Value} {q : Nat} {L : List Nat} (h : Inn W cs q L w) (hs : 32 ≤ L.length) :
    Calls Tryz.prog 44 #[.pointer (some ⟨q, 0, none⟩), .int .i64 32] w fun e w' => ∃ g', e = .returned (.slice (some ⟨g', 0, none⟩) 32 32) ∧ Bytes w' (some ⟨g', 0, none⟩) 32 (L.take 32) ∧ Cell W cs w' ∧ ∀ D, D < w.heap.size → D ≠ q → w'.heap[D]? = w.heap[D]? := by
  obtain ⟨g, o, c, hi, hc, hq, h41, hg⟩ := h
  have hl : (L.take 32).length = 32 := by simp; omega
  refine (codec.inRaw_good w q g o c 32 L hi hg (by omega) (by omega) (by omega)).mono ?_
  rintro e w' ⟨⟨g', he, hB⟩, o', c', h1, h2, h3⟩
  rw [show (32 : Int).toNat = 32 from rfl, hl] at he hB
  exact ⟨g', he, hB, hc.touch hq h2, fun D hD hne => h2.2.2.2.2 D hD hne⟩
theorem Inn.alloc {W w : World} {cs : Array Value} {q : Nat} {L : List Nat} (h : Inn W cs q L w) (ob : Obj) : Inn W cs q L (w.alloc ob) := by
  obtain ⟨g, o, c, hi, hc, hq, h41, hg⟩ := h
  exact ⟨g, o, c, hi.alloc hg ob, hc.below ((Below.refl _ _).alloc (Nat.le_refl _) _), hq, h41, by simp; omega⟩
theorem Inn.drew {W w : World} {cs : Array Value} {q : Nat} {L : List Nat} (h : Inn W cs q L w) : Inn W cs q L w.drew := by
  obtain ⟨g, o, c, hi, hc, hq, h41, hg⟩ := h
  exact ⟨g, o, c, hi.kept rfl rfl, ⟨hc.1, hc.2.os, hc.2.tape, hc.2.output, hc.2.size, hc.2.block⟩, hq, h41, hg⟩
theorem Inn.q_lt {W w : World} {cs : Array Value} {q : Nat} {L : List Nat} (h : Inn W cs q L w) : q < w.heap.size ∧ W.heap.size < w.heap.size := by
  obtain ⟨g, o, c, hi, hc, hq, h41, hg⟩ := h
  exact ⟨hi.facts.2.2.2, hc.lt⟩
theorem splice_head (k m : Nat) (d : List Nat) (hd : d.length = 32) : (splice (Value.int .i64 (k : Nat) :: Value.int .i64 (m : Nat) :: vals (List.replicate 32 0)) 2 (vals d)).toArray = headC k m d := by
  unfold headC splice
  simp [vals, hd]
theorem slice54_at (w : World) (g o : Nat) : (Instr.sliceAt 80 (Value.pointer (some ⟨g, o, none⟩)) none none none).run Tryz.prog w = .ok (.slice (some ⟨g, o, none⟩) 32 32) w := by kernel_rfl

set_option maxHeartbeats 1000000 in
theorem rightHead_bad (W : World) (b o : Nat) (n c : Nat) (l : List Nat) (hB : Bytes W (some ⟨b, o, none⟩) n l) (hn : 44 ≤ n) (hc : n ≤ c) (hnm : n ≤ 16000000) (hm : l.take 3 = [99, 117, 98]) (hbad : rightB l = false) :
    Calls Tryz.prog 56 #[.slice (some ⟨b, o, none⟩) n c] W fun e w' => e = .returned (.tuple #[.agg zeroC, .bool false]) ∧ Below W.heap.size W w' := by
  have hlen := hB.1
  obtain ⟨e0, e1, e2, e3, e4⟩ := head_nums l (by omega)
  obtain ⟨k, hk⟩ : ∃ k, k = l.getD 3 0 := ⟨_, rfl⟩
  obtain ⟨m, hm'⟩ : ∃ m, m = codec.numOf ((l.drop 4).take 4) := ⟨_, rfl⟩
  obtain ⟨x, hx⟩ : ∃ x, x = codec.numOf ((l.drop 8).take 4) := ⟨_, rfl⟩
  obtain ⟨C, hC⟩ : ∃ C, C = crcOf (l.take 8) := ⟨_, rfl⟩
  obtain ⟨L, hL⟩ : ∃ L, L = (l.drop 3).take 41 := ⟨_, rfl⟩
  rw [← hL] at e0 e1 e2 e3 e4
  rw [← hk] at e1
  rw [← hm'] at e2
  rw [← hx] at e3
  have hk256 : k < 256 := by rw [hk]; exact codec.getD_lt256 hB.2.1 3
  have hm4 : m < 4294967296 := by
    have := codec.numOf_lt ((l.drop 4).take 4) (fun b hb => hB.2.1 b (List.mem_of_mem_drop (List.mem_of_mem_take hb))) 4
    rw [List.take_take] at this
    rw [hm']
    exact this
  have hx4 : x < 4294967296 := by
    have := codec.numOf_lt ((l.drop 8).take 4) (fun b hb => hB.2.1 b (List.mem_of_mem_drop (List.mem_of_mem_take hb))) 4
    rw [List.take_take] at this
    rw [hx]
    exact this
  have hC4 : C < 4294967296 := by rw [hC]; exact crcOf_lt (fun b hb => hB.2.1 b (List.mem_of_mem_take hb))
  have hbad' : ¬ (1 ≤ k ∧ k ≤ 3 ∧ m ≤ 30000 ∧ x = C) := fun h => by
    have : rightB l = true := by
      unfold rightB
      rw [decide_eq_true_eq]
      exact ⟨by omega, hm, by omega, by omega, by omega, by omega⟩
    rw [hbad] at this
    cases this
  have HS := Lib.hid (cell_start W)
  have HP := Lib.hid (size57 0 0 (List.replicate 32 0) (by simp))
  have HA := Lib.hid (all_head 0 0 (List.replicate 32 0))
  have c1 : ∀ cs, (convert 22 9 (.slice (some ⟨b, o, none⟩) 3 c)).run Tryz.prog (W.alloc (.cells cs 82)) = .ok (.string ⟨#[99, 117, 98]⟩) (W.alloc (.cells cs 82)) := fun cs => by
    have := ((bytes_take hB 3 (by omega)).alloc (.cells cs 82)).text c
    rw [hm] at this
    exact this
  have HB1 := Lib.hid (show ∀ w1, Cell W zeroC w1 → Bytes w1 (some ⟨b, o + 3, none⟩) 41 L from fun w1 h => by
    rw [hL]
    exact bytes_take (bytes_drop (hB.below hB.lt h.2) 3 (by omega)) 41 (by omega))
  have HB2 := Lib.hid (show ∀ w1, Cell W zeroC w1 → Calls Tryz.prog 76 #[.slice (some ⟨b, o, none⟩) 8 c] w1 fun e w' => e = .returned (.int .u32 (C : Nat)) ∧ w1 = w' from fun w1 h => by
    rw [hC]
    exact crc_prog _ 8 c _ w1 (bytes_take (hB.below hB.lt h.2) 8 (by omega)) (by unfold maxLen; omega))
  have H1 := Lib.hid e1
  have H2 := Lib.hid e2
  have H3 := Lib.hid e3
  clear hbad hm hB hk hm' hx hC hL e1 e2 e3 e4
  have hcase : (¬ (1 ≤ k ∧ k ≤ 3)) ∨ ((1 ≤ k ∧ k ≤ 3) ∧ 30000 < m) ∨ ((1 ≤ k ∧ k ≤ 3) ∧ m ≤ 30000 ∧ x ≠ C) := by omega
  clear hbad'
  go_enter Tryz.func56, Tryz.ntmps56
  go_wp2_with fail
  refine (newIn_cell HS.out (HB1.out _ HS.out)).mono ?_
  rintro e w1 ⟨q, rfl, hI⟩
  have HI := Lib.hid hI
  clear hI HS HB1 c1
  go_wp2_with fail
  refine (inn_N 1 HI.out (by omega) (by omega) (by omega)).mono ?_
  rw [H1.out]
  rintro e w2 ⟨rfl, hI⟩
  have HI2 := Lib.hid hI
  clear hI HI
  go_wp2_with fail
  refine (inn_N 4 HI2.out (by omega) (by omega) (by simp; omega)).mono ?_
  rw [H2.out]
  rintro e w3 ⟨rfl, hI⟩
  have HI3 := Lib.hid hI
  clear hI HI2
  go_wp2_with fail
  refine (inn_N 4 HI3.out (by omega) (by omega) (by simp; omega)).mono ?_
  rw [H3.out]
  rintro e w4 ⟨rfl, hI⟩
  have HI4 := Lib.hid hI
  have HCell : Hid (Cell W zeroC w4) := by
    obtain ⟨_, _, _, _, h, _⟩ := HI4.out
    exact h
  clear hI HI3 H1 H2 H3 HI4
  go_wp2_with fail
  rcases hcase with hk | ⟨hk, hm⟩ | ⟨hk, hm, hne⟩
  · have hd : decide ((1 : Int) ≤ (k : Nat) ∧ ((k : Nat) : Int) ≤ 3) = false := by simp; omega
    clear hk
    go_wp2_with (first
      | (go_at_call 74; refine (isKind_any _ _).mono ?_; rw [hd]; rintro e w5 ⟨rfl, rfl⟩)
      | (refine sumDoor.wpList_buildTo rfl 82 _ rfl zeroC (by kernel_rfl) ?_)
      | (refine wpList_store_row rfl 82 (.tmp 2) (.tmp 43) rfl W.heap.size zeroC rfl rfl 82 zeroC HCell.out.1 HP.out rfl HA.out ?_; refine sumDoor.forget (fun w1 => Cell W zeroC w1) HCell.out.put ?_; intro w2 hR2; have HR2 := Lib.hid hR2; clear hR2 HCell))
    exact bodyPost_ret (results_cell_tmp Tryz.results56 _ _ W.heap.size _ _ _ _ rfl HR2.out.1 Tryz.underlying82 rfl HP.out) rfl ⟨rfl, HR2.out.2⟩
  · have hd : decide ((1 : Int) ≤ (k : Nat) ∧ ((k : Nat) : Int) ≤ 3) = true := by simp; omega
    clear hk
    go_wp2_with (first
      | (go_at_call 74; refine (isKind_any _ _).mono ?_; rw [hd]; rintro e w5 ⟨rfl, rfl⟩)
      | (refine sumDoor.wpList_buildTo rfl 82 _ rfl zeroC (by kernel_rfl) ?_)
      | (refine wpList_store_row rfl 82 (.tmp 2) (.tmp 43) rfl W.heap.size zeroC rfl rfl 82 zeroC HCell.out.1 HP.out rfl HA.out ?_; refine sumDoor.forget (fun w1 => Cell W zeroC w1) HCell.out.put ?_; intro w2 hR2; have HR2 := Lib.hid hR2; clear hR2 HCell))
    exact bodyPost_ret (results_cell_tmp Tryz.results56 _ _ W.heap.size _ _ _ _ rfl HR2.out.1 Tryz.underlying82 rfl HP.out) rfl ⟨rfl, HR2.out.2⟩
  · have hd : decide ((1 : Int) ≤ (k : Nat) ∧ ((k : Nat) : Int) ≤ 3) = true := by simp; omega
    have hne' : ((x : Int) != (C : Int)) = true := by rw [bne_iff_ne]; omega
    clear hk hne
    go_wp2_with (first
      | (go_at_call 74; refine (isKind_any _ _).mono ?_; rw [hd]; rintro e w5 ⟨rfl, rfl⟩)
      | (go_at_call 76; refine (HB2.out _ HCell.out).mono ?_; rintro e w5 ⟨rfl, rfl⟩)
      | (refine sumDoor.wpList_buildTo rfl 82 _ rfl zeroC (by kernel_rfl) ?_)
      | (refine wpList_store_row rfl 82 (.tmp 2) (.tmp 43) rfl W.heap.size zeroC rfl rfl 82 zeroC HCell.out.1 HP.out rfl HA.out ?_; refine sumDoor.forget (fun w1 => Cell W zeroC w1) HCell.out.put ?_; intro w2 hR2; have HR2 := Lib.hid hR2; clear hR2 HCell))
    exact bodyPost_ret (results_cell_tmp Tryz.results56 _ _ W.heap.size _ _ _ _ rfl HR2.out.1 Tryz.underlying82 rfl HP.out) rfl ⟨rfl, HR2.out.2⟩
def numOf4 (l : List Nat) : Nat := codec.numOf ((l.drop 4).take 4)
set_option maxHeartbeats 1000000 in
theorem rightHead_good (W : World) (b o : Nat) (n c : Nat) (l : List Nat) (hB : Bytes W (some ⟨b, o, none⟩) n l) (hn : 44 ≤ n) (hc : n ≤ c) (hnm : n ≤ 16000000) (hbad : rightB l = true) :
    Calls Tryz.prog 56 #[.slice (some ⟨b, o, none⟩) n c] W fun e w' => e = .returned (.tuple #[.agg (headC (l.getD 3 0) (numOf4 l) ((l.drop 12).take 32)), .bool true]) ∧ Below W.heap.size W w' := by
  have hlen := hB.1
  have hm : l.take 3 = [99, 117, 98] := by
    unfold rightB at hbad
    rw [decide_eq_true_eq] at hbad
    exact hbad.2.1
  obtain ⟨e0, e1, e2, e3, e4⟩ := head_nums l (by omega)
  obtain ⟨k, hk⟩ : ∃ k, k = l.getD 3 0 := ⟨_, rfl⟩
  obtain ⟨m, hm'⟩ : ∃ m, m = codec.numOf ((l.drop 4).take 4) := ⟨_, rfl⟩
  obtain ⟨x, hx⟩ : ∃ x, x = codec.numOf ((l.drop 8).take 4) := ⟨_, rfl⟩
  obtain ⟨C, hC⟩ : ∃ C, C = crcOf (l.take 8) := ⟨_, rfl⟩
  obtain ⟨L, hL⟩ : ∃ L, L = (l.drop 3).take 41 := ⟨_, rfl⟩
  rw [← hL] at e0 e1 e2 e3 e4
  rw [← hk] at e1
  rw [← hm'] at e2
  rw [← hx] at e3
  have hk256 : k < 256 := by rw [hk]; exact codec.getD_lt256 hB.2.1 3
  have hm4 : m < 4294967296 := by
    have := codec.numOf_lt ((l.drop 4).take 4) (fun b hb => hB.2.1 b (List.mem_of_mem_drop (List.mem_of_mem_take hb))) 4
    rw [List.take_take] at this
    rw [hm']
    exact this
  have hx4 : x < 4294967296 := by
    have := codec.numOf_lt ((l.drop 8).take 4) (fun b hb => hB.2.1 b (List.mem_of_mem_drop (List.mem_of_mem_take hb))) 4
    rw [List.take_take] at this
    rw [hx]
    exact this
  have hC4 : C < 4294967296 := by rw [hC]; exact crcOf_lt (fun b hb => hB.2.1 b (List.mem_of_mem_take hb))
  obtain ⟨d, hdq⟩ : ∃ d, d = (l.drop 12).take 32 := ⟨_, rfl⟩
  rw [← hdq] at e4
  have hdl : d.length = 32 := by rw [hdq]; simp; omega
  have hall : 1 ≤ k ∧ k ≤ 3 ∧ m ≤ 30000 ∧ x = C := by
    unfold rightB at hbad
    rw [decide_eq_true_eq] at hbad
    omega
  have HS := Lib.hid (cell_start W)
  have HP := Lib.hid (size57 0 0 (List.replicate 32 0) (by simp))
  have HA := Lib.hid (all_head 0 0 (List.replicate 32 0))
  have c1 : ∀ cs, (convert 22 9 (.slice (some ⟨b, o, none⟩) 3 c)).run Tryz.prog (W.alloc (.cells cs 82)) = .ok (.string ⟨#[99, 117, 98]⟩) (W.alloc (.cells cs 82)) := fun cs => by
    have := ((bytes_take hB 3 (by omega)).alloc (.cells cs 82)).text c
    rw [hm] at this
    exact this
  have HB1 := Lib.hid (show ∀ w1, Cell W zeroC w1 → Bytes w1 (some ⟨b, o + 3, none⟩) 41 L from fun w1 h => by
    rw [hL]
    exact bytes_take (bytes_drop (hB.below hB.lt h.2) 3 (by omega)) 41 (by omega))
  have HB2 := Lib.hid (show ∀ w1, Cell W zeroC w1 → Calls Tryz.prog 76 #[.slice (some ⟨b, o, none⟩) 8 c] w1 fun e w' => e = .returned (.int .u32 (C : Nat)) ∧ w1 = w' from fun w1 h => by
    rw [hC]
    exact crc_prog _ 8 c _ w1 (bytes_take (hB.below hB.lt h.2) 8 (by omega)) (by unfold maxLen; omega))
  have H1 := Lib.hid e1
  have H2 := Lib.hid e2
  have H3 := Lib.hid e3
  have H4 := Lib.hid e4
  unfold numOf4
  rw [← hk, ← hm', ← hdq]
  clear hbad hm hB hk hm' hx hC hL e1 e2 e3 e4 hdq
  obtain ⟨hk1, hk3, hm, rfl⟩ := hall
  have hd : decide ((1 : Int) ≤ (k : Nat) ∧ ((k : Nat) : Int) ≤ 3) = true := by simp; omega
  have hne' : ((x : Int) != (x : Int)) = false := by simp
  have HD := Lib.hid hdl
  have HP2 := Lib.hid (size57 k m (List.replicate 32 0) (by simp))
  have HA2 := Lib.hid (all_head k m (List.replicate 32 0))
  have HP3 := Lib.hid (size57 k m d hdl)
  have HA3 := Lib.hid (all_head k m d)
  have HZ3 := Lib.hid (show zeroC.size = (headC k m d).size by rw [headC_size k m d hdl]; rfl)
  have hsl := fun w g o => slice54_at w g o
  go_enter Tryz.func56, Tryz.ntmps56
  go_wp2_with fail
  refine (newIn_cell HS.out (HB1.out _ HS.out)).mono ?_
  rintro e w1 ⟨q, rfl, hI⟩
  have HI := Lib.hid hI
  clear hI HS HB1 c1
  go_wp2_with fail
  refine (inn_N 1 HI.out (by omega) (by omega) (by omega)).mono ?_
  rw [H1.out]
  rintro e w2 ⟨rfl, hI⟩
  have HI2 := Lib.hid hI
  clear hI HI
  go_wp2_with fail
  refine (inn_N 4 HI2.out (by omega) (by omega) (by simp; omega)).mono ?_
  rw [H2.out]
  rintro e w3 ⟨rfl, hI⟩
  have HI3 := Lib.hid hI
  clear hI HI2
  go_wp2_with fail
  refine (inn_N 4 HI3.out (by omega) (by omega) (by simp; omega)).mono ?_
  rw [H3.out]
  rintro e w4 ⟨rfl, hI⟩
  have HI4 := Lib.hid hI
  have HCell : Hid (Cell W zeroC w4) := by
    obtain ⟨_, _, _, _, h, _⟩ := HI4.out
    exact h
  clear hI HI3 H1 H2 H3
  go_wp2_with (first
    | (go_at_call 74; refine (isKind_any _ _).mono ?_; rw [hd]; rintro e w5 ⟨rfl, rfl⟩)
    | (go_at_call 76; refine (HB2.out _ HCell.out).mono ?_; rintro e w5 ⟨rfl, rfl⟩)
    | (refine sumDoor.wpList_buildTo rfl 82 _ rfl (headC k m (List.replicate 32 0)) (by kernel_rfl) ?_)
    | (refine wpList_store_row rfl 82 (.tmp 8) (.tmp 46) rfl w4.heap.size (headC k m (List.replicate 32 0)) rfl rfl 82 zeroC (heap_alloc_new w4 (.cells zeroC 82)) HP2.out rfl HA2.out ?_; rw [World.setRow_alloc_new]))
  have hql := HI4.out.q_lt
  have HI5 := Lib.hid (HI4.out.alloc (.cells (headC k m (List.replicate 32 0)) 82))
  have HR5 := Lib.hid (heap_alloc_new w4 (.cells (headC k m (List.replicate 32 0)) 82))
  have hDs : w4.heap.size < (w4.alloc (.cells (headC k m (List.replicate 32 0)) 82)).heap.size := by simp
  generalize w4.alloc (.cells (headC k m (List.replicate 32 0)) 82) = w5 at *
  generalize w4.heap.size = D at *
  have HDq := Lib.hid (show D ≠ q ∧ W.heap.size < D ∧ D < w5.heap.size from ⟨by omega, by omega, hDs⟩)
  have HRaw := Lib.hid (inn_Raw HI5.out.drew (by simp; omega))
  rw [H4.out] at HRaw
  clear hql hDs HI4 HCell HI5 H4 HB2 HP HA HP2 HA2
  go_region_law (first
    | (refine step_copy_splice rfl (.tmp 48) (.tmp 50) 22 22 rfl 5 Tryz.underlying22 (by kernel_rfl) (some ⟨D, 2, none⟩) (some ⟨g', 0, none⟩) 32 32 32 32 (by simp [Act.eval, Act.put]) (by simp [Act.eval, Act.put]) D 2 (Value.int .i64 (k : Nat) :: Value.int .i64 (m : Nat) :: vals (List.replicate 32 0)) 82 HR6.out (vals d) (by rw [vals_length, HD.out]; rfl) ?_ (by simp [vals, HD.out]) (vals_one d) D w6 (Below.refl _ _) (Nat.le_refl _) ?_; exact HSrc.out; intro w7 hR7 hb7; have HC7 := Lib.hid (show w7.heap[D]? = some (.cells (headC k m d) 82 (0, 0)) by have := hR7.out; rw [splice_head k m d HD.out] at this; exact this); have HCell7 := Lib.hid (show Cell W zeroC w7 from ⟨(hb7.block _ HDq.out.2.1).trans HC6.out.1, HC6.out.2.trans (hb7.mono (Nat.le_of_lt HDq.out.2.1))⟩); clear hR7 hb7)
    | (go_simp; go_at_call 44; refine HRaw.out.mono ?_; rintro e w6 ⟨g', rfl, hB6, hC6, hk6⟩; have HR6 := Lib.hid ((hk6 D HDq.out.2.2 HDq.out.1).trans HR5.out); have HC6 := Lib.hid hC6; have HSrc := Lib.hid (show 0 < (vals d).length → (some ⟨D, 2, none⟩ : Option Addr) = some ⟨D, 2, none⟩ ∧ ∃ ad, (some ⟨g', 0, none⟩ : Option Addr) = some ad ∧ ∀ j v, (vals d)[j]? = some v → w6.cell? (ad.add j) = some v from fun _ => ⟨rfl, hB6.cells (by omega)⟩); clear hB6 hC6 hk6))
  all_goals
    clear HDq HRaw HR5 HSrc HC6 HR6
    go_wp2_with (first
      | (refine wpList_load_row rfl 82 (.tmp 8) rfl D rfl 82 (headC k m d) _ _ HC7.out Tryz.underlying82 rfl HP3.out ?_)
      | (refine wpList_store_row rfl 82 (.tmp 2) (.tmp 52) rfl W.heap.size (headC k m d) rfl rfl 82 zeroC HCell7.out.1 HP3.out HZ3.out HA3.out ?_; refine sumDoor.forget (fun w1 => Cell W (headC k m d) w1) HCell7.out.put ?_; intro w8 hR8; have HR8 := Lib.hid hR8; clear hR8 HCell7))
    exact bodyPost_ret (results_cell_tmp Tryz.results56 _ _ W.heap.size _ _ _ _ rfl HR8.out.1 Tryz.underlying82 rfl HP3.out) rfl ⟨rfl, HR8.out.2⟩
end Go.Proofs.YtfmdhcjniikfdaaGreatDoor.frm
/- Where the next right head stands. -/
namespace Go.Proofs.YtfmdhcjniikfdaaGreatDoor.frm
open Go.ChangeShapes Go.WideShapes Go.ChangeAt Go.RowKit
open Go.Proofs.YtfmdhcjniikfdaaGreatDoor.codec (Bytes vals vals_append vals_length vals_one OutIs More Made New bytesOf byteAt bytesOf_length bytesOf_lt Fits strOf)
set_option linter.unusedVariables false
set_option maxRecDepth 100000
set_option linter.unusedSimpArgs false

/-- What stands at the start of these bytes, as a head's cells. -/
def headL' (l : List Nat) : Array Value := if rightB l = true then headC (l.getD 3 0) (numOf4 l) ((l.drop 12).take 32) else zeroC
theorem rightHead_any (W : World) (b o : Nat) (n c : Nat) (l : List Nat) (hB : Bytes W (some ⟨b, o, none⟩) n l) (hc : n ≤ c) (hnm : n ≤ 16000000) :
    Calls Tryz.prog 56 #[.slice (some ⟨b, o, none⟩) n c] W fun e w' => e = .returned (.tuple #[.agg (headL' l), .bool (rightB l)]) ∧ Below W.heap.size W w' := by
  unfold headL'
  by_cases h44 : n < 44
  · have hr : rightB l = false := by
      unfold rightB
      rw [decide_eq_false_iff_not]
      intro h
      have := hB.1
      omega
    rw [hr]
    exact rightHead_short W _ n c h44
  · by_cases hr : rightB l = true
    · rw [if_pos hr, hr]
      exact rightHead_good W b o n c l hB (by omega) hc hnm hr
    · rw [if_neg hr]
      rw [Bool.not_eq_true] at hr
      rw [hr]
      by_cases hm : l.take 3 = [99, 117, 98]
      · exact rightHead_bad W b o n c l hB (by omega) hc hnm hm hr
      · exact rightHead_mark W b o n c l hB (by omega) hc hnm hm
/-- The next place at which a right head stands. -/
def nx (l : List Nat) : Nat → Nat → Option Nat
  | 0, _ => none
  | f + 1, i => if rightB (l.drop i) = true then some i else nx l f (i + 1)

theorem headL_size (l : List Nat) (h : l.length ≤ 44 → rightB l = rightB l) : (headL' l).size = 34 := by
  unfold headL'
  by_cases hr : rightB l = true
  · rw [if_pos hr]
    refine headC_size _ _ _ ?_
    unfold rightB at hr
    rw [decide_eq_true_eq] at hr
    simp
    omega
  · rw [if_neg hr]
    exact headC_size 0 0 (List.replicate 32 0) (by simp)
theorem sizeL (l : List Nat) : (Tryz.prog.info? 82).map (·.size) = some (headL' l).size := by
  rw [headL_size l (fun _ => rfl)]
  kernel_rfl
theorem allL (l : List Nat) : (headL' l).all (·.oneCell') = true := by
  unfold headL'
  split
  · exact all_head _ _ _
  · exact all_head 0 0 (List.replicate 32 0)
theorem step_load_row {P : Program} {ops : Array Oper} {o : Oper} {a : Act} {w : World} {K : Act → World → Prop} {Q : Exit → Act → World → Prop} {E : Prop} (hgd : o.guard = none) (ty : TypeId) (x : Operand) (ho : o.op = .load ty x)
    (g : Nat) (hx : a.eval x = .pointer (some ⟨g, 0, none⟩)) (t : TypeId) (cs : Array Value) (fr : Nat × Nat) (d : TypeDesc) (hg : w.heap[g]? = some (.cells cs t fr))
    (hu : P.underlying ty = some d) (hd : (match d with | .struct _ | .array _ _ => true | _ => false) = true) (hi : (P.info? ty).map (·.size) = some cs.size)
    (h : K (a.put o.dst (.agg cs)) w) : if Region.wanted o (yielded ops a.tmps) = true then Oper.wp P o a w K Q else E := by
  have hw : Region.wanted o (yielded ops a.tmps) = true := by simp [Region.wanted, hgd]
  rw [if_pos hw]
  exact wp_load_row ty x ho g hx t cs fr d hg hu hd hi h
theorem step_store_row {P : Program} {ops : Array Oper} {o : Oper} {a : Act} {w : World} {K : Act → World → Prop} {Q : Exit → Act → World → Prop} {E : Prop} (hgd : o.guard = none) (ty : TypeId) (x y : Operand) (ho : o.op = .store ty x y)
    (g : Nat) (cells : Array Value) (hx : a.eval x = .pointer (some ⟨g, 0, none⟩)) (hy : a.eval y = .agg cells)
    (t : TypeId) (old : Array Value) (hg : w.heap[g]? = some (.cells old t (0, 0))) (hi : (P.info? ty).map (·.size) = some cells.size)
    (hold : old.size = cells.size) (h1 : cells.all (·.oneCell') = true)
    (h : K (a.put o.dst undef) (w.setRow g cells)) : if Region.wanted o (yielded ops a.tmps) = true then Oper.wp P o a w K Q else E := by
  have hw : Region.wanted o (yielded ops a.tmps) = true := by simp [Region.wanted, hgd]
  rw [if_pos hw]
  exact wp_store_row ty x y ho g cells hx hy t old hg hi hold h1 h
theorem range_row {w : World} {D : Nat} {cs : List Value} {t : TypeId} {fr : Nat × Nat} (h : w.heap[D]? = some (.cells cs.toArray t fr)) : w.rangeAt D 0 cs := by
  intro j v hv
  rw [Nat.zero_add, cell_of_row _ _ _ _ _ _ h]
  simpa using hv
theorem Cell.alloc {W w : World} {cs : Array Value} (h : Cell W cs w) (o : Obj) : Cell W cs (w.alloc o) := h.below ((Below.refl _ _).alloc (Nat.le_refl _) _)
theorem Cell.drew {W w : World} {cs : Array Value} (h : Cell W cs w) : Cell W cs w.drew := ⟨h.1, h.2.os, h.2.tape, h.2.output, h.2.size, h.2.block⟩

set_option maxHeartbeats 1000000 in
theorem nextHead_any (W : World) (A : Option Addr) (n c fr : Nat) (l : List Nat) (hB : Bytes W A n l) (hc : n ≤ c) (hnm : n ≤ 16000000) (hf : fr ≤ n) (R : Value) (hR : R = match nx l (n - fr) fr with | some i => .tuple #[.int .i64 (i : Nat), .agg (headL' (l.drop i)), .bool true] | none => .tuple #[.int .i64 0, .agg zeroC, .bool false]) :
    Calls Tryz.prog 35 #[.slice A n c, .int .i64 fr] W fun e w' => e = .returned R ∧ Below W.heap.size W w' := by
  have HB := Lib.hid hB
  have HR := Lib.hid hR
  have HS := Lib.hid (cell_start W)
  have HP := Lib.hid (size57 0 0 (List.replicate 32 0) (by simp))
  have HA := Lib.hid (all_head 0 0 (List.replicate 32 0))
  clear hB hR
  go_enter Tryz.func35, Tryz.ntmps35
  go_wp2
  go_loopw [7] (fun i wr => ∃ k : Nat, fr ≤ k ∧ k ≤ n ∧ i = .int .i64 k ∧ Cell W zeroC wr ∧ nx l (n - fr) fr = nx l (n - k) k) (fun i _ => n - (intOf i).toNat)
  case atStart => exact ⟨fr, Nat.le_refl _, hf, rfl, HS.out, rfl⟩
  case round =>
    clear HS
    obtain ⟨k, hfk, hk, rfl, hcell, hnx⟩ := hrel
    have HC := Lib.hid hcell
    have HN := Lib.hid hnx
    clear hcell hnx
    by_cases hlt : k < n
    · obtain ⟨b, o, rfl, _⟩ := HB.out.2.2 (by omega)
      have HRH := Lib.hid (rightHead_any wr b (o + k) (n - k) (c - k) (l.drop k) (bytes_drop (HB.out.below HB.out.lt HC.out.2) k hlt) (by omega) (by omega))
      have HPk := Lib.hid (sizeL (l.drop k))
      have HAk := Lib.hid (allL (l.drop k))
      have HZk := Lib.hid (show zeroC.size = (headL' (l.drop k)).size by rw [headL_size _ (fun _ => rfl)]; rfl)
      by_cases hr : rightB (l.drop k) = true
      · rw [hr] at HRH
        have HRf : Hid (R = .tuple #[.int .i64 (k : Nat), .agg (headL' (l.drop k)), .bool true]) := by
          show R = _
          rw [HR.out, HN.out, show n - k = (n - (k + 1)) + 1 by omega, nx, if_pos hr]
        generalize headL' (l.drop k) = cs at *
        clear hr HN HR
        go_wp2_with (first
          | (go_at_call 56; refine HRH.out.mono ?_; rintro e w1 ⟨rfl, hb⟩; have HC1 := Lib.hid (HC.out.below hb); clear hb)
          | (refine wpList_store_row rfl 82 (.tmp 8) (.tmp 22) rfl w1.heap.size cs rfl rfl 82 zeroC (heap_alloc_new w1 (.cells zeroC 82)) HPk.out HZk.out HAk.out ?_; rw [World.setRow_alloc_new]; have HC2 := Lib.hid (HC1.out.alloc (.cells cs 82)); have HH2 := Lib.hid (heap_alloc_new w1 (.cells cs 82)); have HDl := Lib.hid HC1.out.lt; generalize w1.alloc (.cells cs 82) = w2 at *; generalize w1.heap.size = D at *))
        clear HRH HC1
        obtain ⟨csl, rfl⟩ : ∃ csl : List Value, csl.toArray = cs := ⟨cs.toList, by simp⟩
        have h57 := Tryz.underlying82
        have hsz : (Tryz.prog.info? 82).map (·.size) = some csl.length := by have := HPk.out; simpa using this
        have hDW : D ≠ W.heap.size := by have := HDl.out; omega
        refine wp_region_noPanic ?_
        refine wp_region_held_drew (S := fun w' => w'.heap[D]? = some (.cells csl.toArray 82 (0, 0))) (by kernel_rfl) HH2.out (fun hHeld => ?_)
        refine wpAnyH_take (i := 0) (v := .int .i64 (k : Nat)) rfl (by kernel_rfl) (by kernel_rfl) (by kernel_rfl) (fun _ _ _ h => h) (Or.inl ⟨by rfl, fun w' _ => by go_simp⟩) hHeld ?_
        refine wpAnyH_take (i := 1) (v := .agg csl.toArray) rfl (by kernel_rfl) (by kernel_rfl) (by kernel_rfl) (fun _ _ _ h => h) (yieldsIf_load_mid (by rfl) 82 (.tmp 8) rfl D 0 rfl csl _ (fun _ hw => range_row hw) h57 rfl hsz) hHeld ?_
        refine wpAnyH_take (i := 2) (v := .int .i64 (k : Nat)) rfl (by kernel_rfl) (by kernel_rfl) (by kernel_rfl) (fun _ _ _ h => h) (Or.inl ⟨by rfl, fun w' _ => by go_simp⟩) hHeld ?_
        refine wpAnyH_ready (rs := [3]) (by kernel_rfl) (by simp) ?_
        refine AllReadyH.cons rfl (fun K hK => ?_) AllReadyH.nil
        refine step_store_row rfl 82 (.tmp 5) (.tmp 26) rfl W.heap.size csl.toArray (by simp [Act.eval, Act.put]) (by simp [Act.eval, Act.put]) 82 zeroC HC2.out.drew.1 HPk.out HZk.out HAk.out ?_
        have HC3 : Hid (Cell W csl.toArray (w2.drew.setRow W.heap.size csl.toArray)) := HC2.out.drew.put
        refine hK.out _ _ ((setRow_other w2.drew W.heap.size D csl.toArray hDW).trans HH2.out) (fun hH5 => ?_)
        clear hK K hHeld
        refine wpAnyH_take (i := 4) (v := .bool true) rfl (by kernel_rfl) (by kernel_rfl) (by kernel_rfl) (fun _ _ _ h => h) (Or.inl ⟨by rfl, fun w' _ => by go_simp⟩) hH5 ?_
        refine wpAnyH_done (by kernel_rfl) ?_ _
        refine NoPanic.normal ?_
        generalize w2.drew.setRow W.heap.size csl.toArray = w3 at *
        go_wp2
        refine bodyPost_ret (results_tmp_cell_tmp Tryz.results35 _ _ W.heap.size _ _ _ _ rfl HC3.out.1 Tryz.underlying82 rfl HPk.out) rfl ⟨?_, HC3.out.2⟩
        rw [HRf.out]
        rfl
      · rw [Bool.not_eq_true] at hr
        rw [hr] at HRH
        have HN2 : Hid (nx l (n - k) k = nx l (n - (k + 1)) (k + 1)) := by
          show _ = _
          rw [show n - k = (n - (k + 1)) + 1 by omega, nx, if_neg (by rw [hr]; simp)]
        generalize headL' (l.drop k) = cs at *
        clear hr
        go_wp2_with (first
          | (go_at_call 56; refine HRH.out.mono ?_; rintro e w1 ⟨rfl, hb⟩; have HC1 := Lib.hid (HC.out.below hb); clear hb)
          | (refine wpList_store_row rfl 82 (.tmp 8) (.tmp 22) rfl w1.heap.size cs rfl rfl 82 zeroC (heap_alloc_new w1 (.cells zeroC 82)) HPk.out HZk.out HAk.out ?_; rw [World.setRow_alloc_new]; have HC2 := Lib.hid (HC1.out.alloc (.cells cs 82)); generalize w1.alloc (.cells cs 82) = w2 at *))
        go_roundw
        case rel => exact ⟨k + 1, by omega, by omega, by go_num, HC2.out, by rw [HN.out, HN2.out]⟩
        case measure => simp [intOf]; omega
    · obtain rfl : k = n := by omega
      have HRf : Hid (R = .tuple #[.int .i64 0, .agg zeroC, .bool false]) := by
        show R = _
        rw [HR.out, HN.out, Nat.sub_self, nx]
      clear HN HR HB
      go_wp2_with (first
        | (refine sumDoor.wpList_buildTo rfl 82 _ rfl zeroC (by kernel_rfl) ?_)
        | (refine wpList_store_row rfl 82 (.tmp 5) (.tmp 27) rfl W.heap.size zeroC rfl rfl 82 zeroC HC.out.1 HP.out rfl HA.out ?_; refine sumDoor.forget (fun w1 => Cell W zeroC w1) HC.out.put ?_; intro w2 hR2; have HR2 := Lib.hid hR2; clear hR2 HC))
      refine bodyPost_ret (results_tmp_cell_tmp Tryz.results35 _ _ W.heap.size _ _ _ _ rfl HR2.out.1 Tryz.underlying82 rfl HP.out) rfl ⟨?_, HR2.out.2⟩
      rw [HRf.out]
      rfl
end Go.Proofs.YtfmdhcjniikfdaaGreatDoor.frm
/- What is scanned out of bytes, as plain lists; lists of records in memory. -/
namespace Go.Proofs.YtfmdhcjniikfdaaGreatDoor.frm
open Go.ChangeShapes Go.WideShapes Go.ChangeAt Go.RowKit
open Go.Proofs.YtfmdhcjniikfdaaGreatDoor.codec (Bytes vals vals_append vals_length vals_one OutIs More Made New bytesOf byteAt bytesOf_length bytesOf_lt Fits strOf)
set_option linter.unusedVariables false
set_option maxRecDepth 100000
set_option linter.unusedSimpArgs false

/-- A record. -/
structure R where
  at_ : Nat
  kind : Nat
  pay : List Nat
/-- How long the payload is that a head tells of. -/
def payOf (l : List Nat) (i : Nat) : List Nat := (l.drop (i + 44)).take (numOf4 (l.drop i))
def told (l : List Nat) (i : Nat) : List Nat := ((l.drop i).drop 12).take 32
def recOf (l : List Nat) (i : Nat) : R := ⟨i, (l.drop i).getD 3 0, payOf l i⟩
def scanF (l : List Nat) : Nat → Nat → Nat → List R × Nat
  | 0, _, torn => ([], torn)
  | f + 1, i, torn =>
    if i < l.length then
      if rightB (l.drop i) = true then
        if l.length < i + 44 + numOf4 (l.drop i) then ([], i)
        else
          let r := scanF l f (i + 44 + numOf4 (l.drop i)) (i + 44 + numOf4 (l.drop i))
          if dig (payOf l i) = told l i then (recOf l i :: r.1, r.2) else r
      else scanF l f (i + 1) torn
    else ([], torn)
theorem scanF_more (l : List Nat) : ∀ f g i torn, l.length - i ≤ f → l.length - i ≤ g → scanF l f i torn = scanF l g i torn := by
  intro f
  induction f with
  | zero =>
    intro g i torn h1 h2
    cases g with
    | zero => rfl
    | succ g =>
      rw [scanF, scanF, if_neg (by omega)]
  | succ f ih =>
    intro g i torn h1 h2
    cases g with
    | zero => rw [scanF, scanF, if_neg (by omega)]
    | succ g =>
      rw [scanF, scanF]
      by_cases hi : i < l.length
      · rw [if_pos hi, if_pos hi, ih g (i + 1) torn (by omega) (by omega), ih g (i + 44 + numOf4 (l.drop i)) (i + 44 + numOf4 (l.drop i)) (by omega) (by omega)]
      · rw [if_neg hi, if_neg hi]
/-- What is scanned from a place on. -/
def scan (l : List Nat) (i torn : Nat) : List R × Nat := scanF l (l.length - i) i torn
theorem scan_end (l : List Nat) (i torn : Nat) (h : l.length ≤ i) : scan l i torn = ([], torn) := by
  unfold scan
  rw [show l.length - i = 0 by omega, scanF]
theorem scan_skip (l : List Nat) (i torn : Nat) (h : i < l.length) (hr : rightB (l.drop i) = false) : scan l i torn = scan l (i + 1) torn := by
  unfold scan
  rw [show l.length - i = (l.length - (i + 1)) + 1 by omega, scanF, if_pos h, if_neg (by rw [hr]; simp)]
theorem scan_torn (l : List Nat) (i torn : Nat) (h : i < l.length) (hr : rightB (l.drop i) = true) (ht : l.length < i + 44 + numOf4 (l.drop i)) : scan l i torn = ([], i) := by
  unfold scan
  rw [show l.length - i = (l.length - (i + 1)) + 1 by omega, scanF, if_pos h, if_pos hr, if_pos ht]
theorem scan_rec (l : List Nat) (i torn e : Nat) (h : i < l.length) (hr : rightB (l.drop i) = true) (he : e = i + 44 + numOf4 (l.drop i)) (ht : e ≤ l.length) (hd : dig (payOf l i) = told l i) : scan l i torn = (recOf l i :: (scan l e e).1, (scan l e e).2) := by
  subst he
  unfold scan
  rw [show l.length - i = (l.length - (i + 1)) + 1 by omega, scanF, if_pos h, if_pos hr, if_neg (by omega)]
  simp only []
  rw [if_pos hd, scanF_more l (l.length - (i + 1)) (l.length - (i + 44 + numOf4 (l.drop i))) _ _ (by omega) (by omega)]
theorem scan_bad (l : List Nat) (i torn e : Nat) (h : i < l.length) (hr : rightB (l.drop i) = true) (he : e = i + 44 + numOf4 (l.drop i)) (ht : e ≤ l.length) (hd : dig (payOf l i) ≠ told l i) : scan l i torn = scan l e e := by
  subst he
  unfold scan
  rw [show l.length - i = (l.length - (i + 1)) + 1 by omega, scanF, if_pos h, if_pos hr, if_neg (by omega)]
  simp only []
  rw [if_neg hd, scanF_more l (l.length - (i + 1)) (l.length - (i + 44 + numOf4 (l.drop i))) _ _ (by omega) (by omega)]
theorem right_long {l : List Nat} {i : Nat} (hr : rightB (l.drop i) = true) : i + 44 ≤ l.length ∧ numOf4 (l.drop i) ≤ 30000 := by
  unfold rightB at hr
  rw [decide_eq_true_eq] at hr
  have := hr.1
  simp at this
  exact ⟨by omega, hr.2.2.2.2.1⟩
theorem nx_none (l : List Nat) (torn : Nat) : ∀ f i, f + i = l.length → nx l f i = none → scan l i torn = ([], torn) := by
  intro f
  induction f with
  | zero => intro i hi _; exact scan_end l i torn (by omega)
  | succ f ih =>
    intro i hi hn
    rw [nx] at hn
    by_cases hr : rightB (l.drop i) = true
    · rw [if_pos hr] at hn; cases hn
    · rw [if_neg hr] at hn
      rw [scan_skip l i torn (by omega) (by simpa using hr)]
      exact ih (i + 1) (by omega) hn
theorem nx_some (l : List Nat) (torn j : Nat) : ∀ f i, f + i = l.length → nx l f i = some j → scan l i torn = scan l j torn ∧ i ≤ j ∧ j < l.length ∧ rightB (l.drop j) = true := by
  intro f
  induction f with
  | zero => intro i hi hn; cases hn
  | succ f ih =>
    intro i hi hn
    rw [nx] at hn
    by_cases hr : rightB (l.drop i) = true
    · rw [if_pos hr] at hn
      cases hn
      exact ⟨rfl, Nat.le_refl _, by omega, hr⟩
    · rw [if_neg hr] at hn
      obtain ⟨h1, h2, h3, h4⟩ := ih (i + 1) (by omega) hn
      exact ⟨by rw [scan_skip l i torn (by omega) (by simpa using hr), h1], by omega, h3, h4⟩

/-- A record, and where its payload lies. -/
structure X where
  r : R
  A : Option Addr
  n : Nat
  c : Nat
def X.cells (x : X) : List Value := [.int .i64 (x.r.at_ : Nat), .int .i64 (x.r.kind : Nat), .slice x.A x.n x.c]
def cellsX (xs : List X) : List Value := xs.flatMap X.cells
theorem cellsX_length (xs : List X) : (cellsX xs).length = xs.length * 3 := by
  induction xs with
  | nil => rfl
  | cons x xs ih => simp [cellsX, X.cells] at *; omega
theorem cellsX_append (a b : List X) : cellsX (a ++ b) = cellsX a ++ cellsX b := by simp [cellsX]
/-- A list of records, on a row of the call's own. -/
def Recs (B : Nat) (E : TypeId) (w : World) (v : Value) (xs : List X) : Prop :=
  w.ownsRow B E 3 v xs.length (cellsX xs) ∧ ∀ x ∈ xs, Bytes w x.A x.n x.r.pay ∧ ∀ ad, x.A = some ad → 0 < x.n → v.ownBlock ≠ some ad.block
theorem Recs.nil (B : Nat) (E : TypeId) (w : World) : Recs B E w (.slice none 0 0) [] := ⟨⟨rfl, .inl ⟨rfl, rfl⟩⟩, by simp⟩
theorem Recs.below {B : Nat} {E : TypeId} {w w' : World} {v : Value} {xs : List X} (h : Recs B E w v xs) (hb : Below w.heap.size w w') : Recs B E w' v xs :=
  ⟨h.1.kept (row := none) ⟨hb.os, hb.tape, hb.output, hb.size, fun i hi _ => hb.block i hi⟩ (by cases hv : v.ownBlock <;> simp), fun x hx => ⟨(h.2 x hx).1.below (h.2 x hx).1.lt hb, (h.2 x hx).2⟩⟩
theorem Recs.alloc {B : Nat} {E : TypeId} {w : World} {v : Value} {xs : List X} (h : Recs B E w v xs) (o : Obj) : Recs B E (w.alloc o) v xs := h.below ((Below.refl _ _).alloc (Nat.le_refl _) _)
theorem Recs.drewN {B : Nat} {E : TypeId} {w : World} {v : Value} {xs : List X} (h : Recs B E w v xs) (q : Nat) : Recs B E (w.drewN q) v xs := h.below (codec.below_draws (Below.refl _ _) q)
theorem Recs.more {B : Nat} {E : TypeId} {w w' : World} {v v' : Value} {xs : List X} {x : X} (h : Recs B E w v xs) (ho : w'.ownsRow B E 3 v' (xs.length + 1) (cellsX xs ++ x.cells)) (hg : w.grownBy w' v.ownBlock) (hat : v'.ownBlock = v.ownBlock ∨ v'.ownBlock = some w.heap.size)
    (hB : Bytes w x.A x.n x.r.pay) (hA : ∀ ad, x.A = some ad → 0 < x.n → v.ownBlock ≠ some ad.block) : Recs B E w' v' (xs ++ [x]) := by
  have key : ∀ y : X, Bytes w y.A y.n y.r.pay → (∀ ad, y.A = some ad → 0 < y.n → v.ownBlock ≠ some ad.block) → Bytes w' y.A y.n y.r.pay ∧ ∀ ad, y.A = some ad → 0 < y.n → v'.ownBlock ≠ some ad.block := by
    intro y hy hne
    refine ⟨hy.kept fun ad e h0 => hg.block _ (hy.lt ad e h0) (fun e' => hne ad e h0 e'.symm), fun ad e h0 e' => ?_⟩
    rcases hat with ha | ha
    · exact hne ad e h0 (ha ▸ e')
    · rw [ha] at e'
      have h1 := hy.lt ad e h0
      have h2 := Option.some.inj e'
      omega
  refine ⟨?_, fun y hy => ?_⟩
  · rw [cellsX_append, List.length_append]
    simpa [cellsX] using ho
  · rcases List.mem_append.1 hy with hy | hy
    · exact key y (h.2 y hy).1 (h.2 y hy).2
    · simp at hy
      subst hy
      exact key _ hB hA
theorem infoP : (Tryz.prog.info? 87).map (fun i => (i.zero, i.size, i.bytes)) = some (some (.agg #[.int .i64 0, .int .i64 0, .slice none 0 0]), 3, 40) := by kernel_rfl
theorem infoD : (Tryz.prog.info? 71).map (fun i => (i.zero, i.size, i.bytes)) = some (some (.agg #[.int .i64 0, .int .i64 0, .slice none 0 0]), 3, 40) := by kernel_rfl
theorem lit_cells {w : World} (x : X) (t : TypeId) (m : Nat × Nat) {g : Nat} (hg : g = w.heap.size) : ∀ j u, x.cells[j]? = some u → (w.alloc (.cells x.cells.toArray t m)).cell? ((⟨g, 0, none⟩ : Addr).add j) = some u := by
  intro j u hu
  subst hg
  rw [codec.add_none, Nat.zero_add, World.cell?_alloc_mark]
  simpa using hu
/-- A record put behind records of the call's own. -/
theorem run_append_rec (T E : TypeId) (hT : Tryz.prog.underlying T = some (.slice E)) (hE : (Tryz.prog.info? E).map (fun i => (i.zero, i.size, i.bytes)) = some (some (.agg #[.int .i64 0, .int .i64 0, .slice none 0 0]), 3, 40))
    (w : World) (ty : TypeId) (B : Nat) (v : Value) (xs : List X) (h : Recs B E w v xs) (hB : B ≤ w.heap.size) (hn : xs.length ≤ 20000000) (x : X) (m : Nat × Nat) (g : Nat) (hg : g = w.heap.size)
    (hx : Bytes w x.A x.n x.r.pay) (hA : ∀ ad, x.A = some ad → 0 < x.n → v.ownBlock ≠ some ad.block) :
    ∃ v' w', (Builtin.append_ #[T, T] ty #[v, .slice (some ⟨g, 0, none⟩) 1 1]).run Tryz.prog (w.alloc (.cells x.cells.toArray E m)) = .ok v' w' ∧ Recs B E w' v' (xs ++ [x]) ∧ Below B w w' := by
  obtain ⟨i0, hi, hz0, hz1, hz2⟩ := info_parts hE
  have ha := h.alloc (.cells x.cells.toArray E m)
  obtain ⟨v', w', hr, h1, h2, h3, h4⟩ := run_append_own_at (P := Tryz.prog) (w.alloc (.cells x.cells.toArray E m)) B T ty E i0 _ 3 40 hT hi hz0 hz1 hz2 rfl (by decide) v xs.length (cellsX xs) ha.1 ⟨g, 0, none⟩ 1 1 x.cells rfl (lit_cells x E m hg) (by
    intro u hu
    simp [X.cells] at hu
    rcases hu with rfl | rfl | rfl <;> rfl) (by unfold maxLen; omega) (by omega) (by simp; omega)
  refine ⟨v', w', hr, ha.more h1 h2 h4 (hx.alloc _) hA, ((Below.refl B w).alloc hB _).trans ⟨h2.os, h2.tape, h2.output, h2.size, fun k hk => h2.block k (by simp; omega) (fun e => ?_)⟩⟩
  have := (h.1.lt _ e.symm).1
  omega
theorem wpList_append_rec {ops : Array Oper} {rest : List Oper} {o : Oper} {a : Act} {w : World} {Q : Exit → Act → World → Prop} (hgd : o.guard = none) (s y : Operand) (T E : TypeId)
    (ho : o.op = .call { callee := .builtin .append, args := #[s, y], argTypes := #[T, T] }) (hT : Tryz.prog.underlying T = some (.slice E)) (hE : (Tryz.prog.info? E).map (fun i => (i.zero, i.size, i.bytes)) = some (some (.agg #[.int .i64 0, .int .i64 0, .slice none 0 0]), 3, 40))
    (B : Nat) (v : Value) (xs : List X) (hs : a.eval s = v) (h : Recs B E w v xs) (hB : B ≤ w.heap.size) (hn : xs.length ≤ 20000000) (x : X) (m : Nat × Nat) (g : Nat) (hg : g = w.heap.size) (hy : a.eval y = .slice (some ⟨g, 0, none⟩) 1 1)
    (hx : Bytes w x.A x.n x.r.pay) (hA : ∀ ad, x.A = some ad → 0 < x.n → v.ownBlock ≠ some ad.block)
    (hK : ∀ v' w', Recs B E w' v' (xs ++ [x]) → Below B w w' → wpList Tryz.prog ops Q rest (a.put o.dst v') w') : wpList Tryz.prog ops Q (o :: rest) a (w.alloc (.cells x.cells.toArray E m)) := by
  obtain ⟨v', w', hr, h1, h2⟩ := run_append_rec T E hT hE w o.type B v xs h hB hn x m g hg hx hA
  refine wpList_plain hgd fun _ hK' => ?_
  unfold Oper.wp execOp
  simp only [ho, resolve, invoke, builtin, Sem.run_bind, Sem.run_pure, Result.andThen_ok, List.map_toArray, List.map_cons, List.map_nil, hs, hy, hr]
  exact hK' _ _ (hK v' w' h1 h2)
theorem step_append_rec {ops : Array Oper} {o : Oper} {a : Act} {w : World} {K : Act → World → Prop} {Q : Exit → Act → World → Prop} {F : Prop} (hgd : o.guard = none) (s y : Operand) (T E : TypeId)
    (ho : o.op = .call { callee := .builtin .append, args := #[s, y], argTypes := #[T, T] }) (hT : Tryz.prog.underlying T = some (.slice E)) (hE : (Tryz.prog.info? E).map (fun i => (i.zero, i.size, i.bytes)) = some (some (.agg #[.int .i64 0, .int .i64 0, .slice none 0 0]), 3, 40))
    (B : Nat) (v : Value) (xs : List X) (hs : a.eval s = v) (h : Recs B E w v xs) (hB : B ≤ w.heap.size) (hn : xs.length ≤ 20000000) (x : X) (m : Nat × Nat) (g : Nat) (hg : g = w.heap.size) (hy : a.eval y = .slice (some ⟨g, 0, none⟩) 1 1)
    (hx : Bytes w x.A x.n x.r.pay) (hA : ∀ ad, x.A = some ad → 0 < x.n → v.ownBlock ≠ some ad.block)
    (hK : ∀ v' w', Recs B E w' v' (xs ++ [x]) → Below B w w' → K (a.put o.dst v') w') : if Region.wanted o (yielded ops a.tmps) = true then Oper.wp Tryz.prog o a (w.alloc (.cells x.cells.toArray E m)) K Q else F := by
  obtain ⟨v', w', hr, h1, h2⟩ := run_append_rec T E hT hE w o.type B v xs h hB hn x m g hg hx hA
  have hw : Region.wanted o (yielded ops a.tmps) = true := by simp [Region.wanted, hgd]
  rw [if_pos hw]
  unfold Oper.wp execOp
  simp only [ho, resolve, invoke, builtin, Sem.run_bind, Sem.run_pure, Result.andThen_ok, List.map_toArray, List.map_cons, List.map_nil, hs, hy, hr]
  exact hK v' w' h1 h2
theorem sizeof5 (w : World) : (sizeOf 5).run Tryz.prog w = .ok 1 w := by kernel_rfl
theorem eq_bytes (w : World) (a b : List Nat) (ha : a.length = 32) (hb : b.length = 32) (la : ∀ x ∈ a, x < 256) (lb : ∀ x ∈ b, x < 256) : (Op.equalIn 10000 80 (.agg (vals a).toArray) (.agg (vals b).toArray)).run Tryz.prog w = .ok (decide (a = b)) w := by
  have e : ∀ d : List Nat, (∀ x ∈ d, x < 256) → vals d = (d.map UInt8.ofNat).map Extern.Stop.cell := by
    intro d hd
    unfold vals
    rw [List.map_map]
    refine List.map_congr_left fun x hx => ?_
    have := hd x hx
    simp [Extern.Stop.cell, Nat.mod_eq_of_lt this]
  rw [e a la, e b lb, run_equalIn_bytes w 9998 80 5 32 Tryz.underlying80 Tryz.underlying5 sizeof5 _ _ (by simp [ha]) (by simp [hb])]
  congr 1
  rw [Bool.eq_iff_iff, decide_eq_true_eq, beq_iff_eq]
  constructor
  · intro h
    have h2 := codec.strOf_inj (a := a) (b := b) la lb (by unfold codec.strOf; rw [h])
    exact h2
  · rintro rfl
    rfl
end Go.Proofs.YtfmdhcjniikfdaaGreatDoor.frm
/- What Scan answers. -/
namespace Go.Proofs.YtfmdhcjniikfdaaGreatDoor.frm
open Go.ChangeShapes Go.WideShapes Go.ChangeAt Go.RowKit
open Go.Proofs.YtfmdhcjniikfdaaGreatDoor.codec (Bytes vals vals_append vals_length vals_one OutIs More Made New bytesOf byteAt bytesOf_length bytesOf_lt Fits strOf)
set_option linter.unusedVariables false
set_option maxRecDepth 100000
set_option linter.unusedSimpArgs false

theorem head_of_right {l : List Nat} {i : Nat} (hr : rightB (l.drop i) = true) : headL' (l.drop i) = headC ((l.drop i).getD 3 0) (numOf4 (l.drop i)) (told l i) ∧ (told l i).length = 32 := by
  have h := right_long hr
  exact ⟨by unfold headL' told; rw [if_pos hr], by simp [told]; omega⟩
theorem head_cells {w : World} {D k m : Nat} {d : List Nat} {t : TypeId} {fr : Nat × Nat} (h : w.heap[D]? = some (.cells (headC k m d) t fr)) : w.cell? ⟨D, 0, none⟩ = some (.int .i64 k) ∧ w.cell? ⟨D, 1, none⟩ = some (.int .i64 m) ∧ w.rangeAt D 2 (vals d) := by
  refine ⟨by rw [cell_of_row _ _ _ _ _ _ h]; rfl, by rw [cell_of_row _ _ _ _ _ _ h]; rfl, fun j v hv => ?_⟩
  rw [cell_of_row _ _ _ _ _ _ h]
  unfold headC
  rw [show 2 + j = j + 1 + 1 by omega]
  simpa using hv
theorem range_below {w w' : World} {D o : Nat} {cs : List Value} (h : Below w.heap.size w w') (hD : D < w.heap.size) (hr : w.rangeAt D o cs) : w'.rangeAt D o cs := fun j v hv => by
  have := hr j v hv
  rw [← this]
  exact h.cell (p := ⟨D, o + j, none⟩) hD
/-- What is scanned goes into a list of one's own. -/
def Found (W : World) (E : TypeId) (l : List Nat) (v : Value) (torn : Nat) (w : World) : Prop := ∃ xs : List X, Recs W.heap.size E w v xs ∧ Below W.heap.size W w ∧ scan l 0 0 = (xs.map X.r, torn)
/-- What was found ahead of a place. -/
def Sofar (W : World) (E : TypeId) (l : List Nat) (v : Value) (k t : Nat) (w : World) : Prop := ∃ xs : List X, Recs W.heap.size E w v xs ∧ Below W.heap.size W w ∧ xs.length ≤ k ∧ scan l 0 0 = (xs.map X.r ++ (scan l k t).1, (scan l k t).2)
theorem Sofar.below {W w w' : World} {E : TypeId} {l : List Nat} {v : Value} {k t : Nat} (h : Sofar W E l v k t w) (hb : Below w.heap.size w w') : Sofar W E l v k t w' := by
  obtain ⟨xs, h1, h2, h3, h4⟩ := h
  exact ⟨xs, h1.below hb, h2.trans (hb.mono h2.size), h3, h4⟩
theorem Sofar.bel {W w : World} {E : TypeId} {l : List Nat} {v : Value} {k t : Nat} (h : Sofar W E l v k t w) : Below W.heap.size W w := by
  obtain ⟨xs, h1, h2, h3, h4⟩ := h
  exact h2
theorem Sofar.found {W w : World} {E : TypeId} {l : List Nat} {v : Value} {k t torn : Nat} (h : Sofar W E l v k t w) (hs : scan l k t = ([], torn)) : Found W E l v torn w := by
  obtain ⟨xs, h1, h2, h3, h4⟩ := h
  rw [hs] at h4
  exact ⟨xs, h1, h2, by simpa using h4⟩
theorem Sofar.on {W w : World} {E : TypeId} {l : List Nat} {v : Value} {k t k' t' : Nat} (h : Sofar W E l v k t w) (hk : k ≤ k') (hs : scan l k t = scan l k' t') : Sofar W E l v k' t' w := by
  obtain ⟨xs, h1, h2, h3, h4⟩ := h
  exact ⟨xs, h1, h2, by omega, by rw [← hs]; exact h4⟩
theorem sofar_start (W : World) (E : TypeId) (l : List Nat) : Sofar W E l (.slice none 0 0) 0 0 W := ⟨[], Recs.nil _ _ _, Below.refl _ _, by simp, by simp⟩

theorem pay_bytes {w : World} {b o n i m : Nat} {l : List Nat} {Ap : Addr} (h : Bytes w (some ⟨b, o, none⟩) n l) (hm : m = numOf4 (l.drop i)) (hi : i + 44 + m ≤ n) (hA : 0 < m → Ap = ⟨b, o + (i + 44), none⟩) : Bytes w (some Ap) m (payOf l i) := by
  unfold payOf
  rw [← hm]
  rcases Nat.eq_zero_or_pos m with h0 | h0
  · rw [h0, List.take_zero]
    exact ⟨rfl, by simp, fun h => absurd h (by omega)⟩
  · rw [hA h0]
    exact bytes_take (bytes_drop h (i + 44) (by omega)) m (by omega)
theorem copied_recs {W w5 w6 : World} {E : TypeId} {v : Value} {xs : List X} {A : Option Addr} {m : Nat} {p : List Nat} (h1 : Recs W.heap.size E w5.drew v xs) (h2 : Below W.heap.size W w5) (hp : Bytes w5.drew A m p) (hw : w6 = w5.drew.alloc (.cells (vals p).toArray 5)) :
    Recs W.heap.size E w6 v xs ∧ Bytes w6 (some ⟨w5.drew.heap.size, 0, none⟩) m p ∧ W.heap.size ≤ w6.heap.size ∧ (∀ ad, (some ⟨w5.drew.heap.size, 0, none⟩ : Option Addr) = some ad → 0 < m → v.ownBlock ≠ some ad.block) ∧ Below W.heap.size W w6 := by
  subst hw
  have hb : Below W.heap.size W w5.drew := ⟨h2.os, h2.tape, h2.output, h2.size, h2.block⟩
  refine ⟨h1.alloc _, lit_at w5.drew p hp.2.1 _ _ rfl hp.1, Nat.le_trans hb.size (by simp), fun ad e _ e' => ?_, hb.alloc hb.size _⟩
  cases e
  exact absurd (h1.1.lt _ e').2 (Nat.lt_irrefl _)
theorem cell_new {w5 w6 : World} {D i : Nat} {ob : Obj} (hD : D < w5.heap.size) (hw : w6 = w5.drew.alloc ob) : w6.cell? ⟨D, i, none⟩ = w5.drew.cell? ⟨D, i, none⟩ := by
  subst hw
  exact World.cell?_alloc_lt _ _ _ hD
theorem sofar_rec {W w : World} {E : TypeId} {l : List Nat} {v : Value} {xs : List X} {A : Option Addr} {i k e m c kd : Nat} (hr : Recs W.heap.size E w v (xs ++ [⟨⟨i, kd, payOf l i⟩, A, m, c⟩])) (hb : Below W.heap.size W w) (hx : xs.length ≤ i) (hk : i < e)
    (h4 : scan l 0 0 = (xs.map X.r ++ (scan l i k).1, (scan l i k).2)) (hc : scan l i k = (recOf l i :: (scan l e e).1, (scan l e e).2)) (hkd : kd = (l.drop i).getD 3 0) : Sofar W E l v e e w := by
  subst hkd
  refine ⟨_, hr, hb, by simp; omega, ?_⟩
  rw [h4, hc]
  simp [recOf]
set_option maxHeartbeats 2000000 in
theorem scan_any (W : World) (A : Option Addr) (n c : Nat) (l : List Nat) (hB : Bytes W A n l) (hc : n ≤ c) (hnm : n ≤ 16000000) (hL : sumDoor.Laid W) :
    Calls Tryz.prog 18 #[.slice A n c] W fun e w' => ∃ v torn, e = .returned (.tuple #[v, .int .i64 (torn : Nat)]) ∧ Found W 87 l v torn w' := by
  have HB := Lib.hid hB
  have HL := Lib.hid hL
  have HS := Lib.hid (sofar_start W 87 l)
  have HZ := Lib.hid (sizeL [])
  clear hB hL
  go_enter Tryz.func18, Tryz.ntmps18
  go_wp2
  go_loopw [4, 5] (fun v d wr => ∃ k : Nat, k ≤ n ∧ d = .int .i64 k ∧ Sofar W 87 l v k k wr) (fun _ d _ => n - (intOf d).toNat)
  case atStart => exact ⟨0, Nat.zero_le _, rfl, HS.out⟩
  case round =>
    clear HS
    obtain ⟨k, hk, rfl, hso⟩ := hrel
    have HSo := Lib.hid hso
    clear hso
    by_cases hlt : k < n
    · have HNH := Lib.hid (nextHead_any wr A n c k l (HB.out.below HB.out.lt HSo.out.bel) hc hnm hk)
      cases hnx : nx l (n - k) k with
      | none =>
        have HF := Lib.hid (HSo.out.found (nx_none l k (n - k) k (by rw [HB.out.1]; omega) hnx))
        rw [hnx] at HNH
        clear hnx
        go_wp2_with (first
          | (go_at_call 35; refine (HNH.out _ rfl).mono ?_; rintro e w1 ⟨rfl, hb⟩; have HB1 := Lib.hid hb; clear hb)
          | (refine wpList_store_row rfl 82 (.tmp 7) (.tmp 20) rfl w1.heap.size zeroC rfl rfl 82 zeroC (heap_alloc_new w1 (.cells zeroC 82)) (size57 0 0 (List.replicate 32 0) (by simp)) rfl (all_head 0 0 (List.replicate 32 0)) ?_; rw [World.setRow_alloc_new]; have HB2 := Lib.hid (HB1.out.alloc HB1.out.size (.cells zeroC 82)); generalize w1.alloc (.cells zeroC 82) = w2 at *))
        go_ret2
        obtain ⟨xs, h1, h2, h3⟩ := HF.out
        exact ⟨_, k, rfl, xs, h1.below HB2.out, h2.trans (HB2.out.mono h2.size), h3⟩
      | some i =>
        obtain ⟨hsk, hki, hin, hr⟩ := nx_some l k i (n - k) k (by rw [HB.out.1]; omega) hnx
        obtain ⟨hhd, hdl⟩ := head_of_right hr
        obtain ⟨hlong, hm3⟩ := right_long hr
        rw [HB.out.1] at hin hlong
        rw [hnx] at HNH
        simp only [hhd] at HNH
        clear hnx hhd
        obtain ⟨m, hm⟩ : ∃ m, m = numOf4 (l.drop i) := ⟨_, rfl⟩
        rw [← hm] at HNH hm3
        obtain ⟨kd, hkd⟩ : ∃ kd, kd = (l.drop i).getD 3 0 := ⟨_, rfl⟩
        rw [← hkd] at HNH
        obtain ⟨d, hd⟩ : ∃ d, d = told l i := ⟨_, rfl⟩
        rw [← hd] at HNH hdl
        have HP := Lib.hid (size57 kd m d hdl)
        have HA := Lib.hid (all_head kd m d)
        have HZc := Lib.hid (show zeroC.size = (headC kd m d).size by rw [headC_size _ _ _ hdl]; rfl)
        have HM := Lib.hid hm
        have HKd := Lib.hid hkd
        have HD := Lib.hid hd
        have HDl := Lib.hid hdl
        have HR := Lib.hid hr
        have HSk := Lib.hid hsk
        obtain ⟨b, o, rfl, -⟩ := HB.out.2.2 (by omega)
        clear hm hkd hd hdl hr hsk
        by_cases ht : n < i + 44 + m
        · have HF := Lib.hid ((HSo.out.on hki HSk.out).found (scan_torn l i k (by rw [HB.out.1]; omega) HR.out (by rw [HB.out.1, ← HM.out]; omega)))
          go_wp2_with (first
            | (go_at_call 35; refine (HNH.out _ rfl).mono ?_; rintro e w1 ⟨rfl, hb⟩; have HB1 := Lib.hid hb; clear hb)
            | (refine wpList_store_row rfl 82 (.tmp 7) (.tmp 20) rfl w1.heap.size (headC kd m d) rfl rfl 82 zeroC (heap_alloc_new w1 (.cells zeroC 82)) HP.out HZc.out HA.out ?_; rw [World.setRow_alloc_new]; have HB2 := Lib.hid (HB1.out.alloc HB1.out.size (.cells (headC kd m d) 82)); obtain ⟨c0, c1, -⟩ := head_cells (heap_alloc_new w1 (.cells (headC kd m d) 82)); generalize w1.alloc (.cells (headC kd m d) 82) = w2 at *; generalize w1.heap.size = D at *))
          go_ret2
          obtain ⟨xs, h1, h2, h3⟩ := HF.out
          exact ⟨_, i, rfl, xs, h1.below HB2.out, h2.trans (HB2.out.mono h2.size), h3⟩
        · have ht' : i + 44 + m ≤ n := by omega
          by_cases hci : c = i + 44
          · have HM0 : Hid (m = 0) := show m = 0 by omega
            have HCi := Lib.hid hci
            have h0 : c - (i + 44) = 0 := by omega
            clear hci
            go_wp2_with (first
              | (go_at_call 35; refine (HNH.out _ rfl).mono ?_; rintro e w1 ⟨rfl, hb⟩; have HB1 := Lib.hid hb; clear hb)
              | (refine wpList_store_row rfl 82 (.tmp 7) (.tmp 20) rfl w1.heap.size (headC kd m d) rfl rfl 82 zeroC (heap_alloc_new w1 (.cells zeroC 82)) HP.out HZc.out HA.out ?_; rw [World.setRow_alloc_new]; have HB2 := Lib.hid (HB1.out.alloc HB1.out.size (.cells (headC kd m d) 82)); obtain ⟨c0, c1, cr⟩ := head_cells (heap_alloc_new w1 (.cells (headC kd m d) 82)); have HCr := Lib.hid cr; clear cr; generalize w1.alloc (.cells (headC kd m d) 82) = w2 at *; generalize w1.heap.size = D at *))
            rw [show i + 44 + m - (i + 44) = m by omega]
            have HPB : Hid (∀ w', Below W.heap.size W w' → Bytes w' (some ⟨b, o, none⟩) m (payOf l i)) := fun w' h => pay_bytes (HB.out.below HB.out.lt h) HM.out ht' (fun h => absurd HM0.out (by omega))
            have HCp : Hid (m ≤ c - (i + 44)) := by have := HM0.out; show m ≤ _; omega
            clear HM0 HCi h0
            generalize c - (i + 44) = cp at *
            have hso2 := (HSo.out.on hki HSk.out).below HB2.out
            have HSo2 := Lib.hid hso2
            have HSM := Lib.hid (show ∀ w', Below w2.heap.size w2 w' → Calls Tryz.prog 36 #[.slice (some ⟨b, o, none⟩) m cp] w' fun e w'' => e = .returned (.agg (vals (dig (payOf l i))).toArray) ∧ Below w2.heap.size w2 w'' from fun w' h => (dig_prog w' (some ⟨b, o, none⟩) m cp _ (HPB.out w' (HSo2.out.bel.trans (h.mono HSo2.out.bel.size))) (by omega) HCp.out (HL.out.below HL.out.lt (HSo2.out.bel.trans (h.mono HSo2.out.bel.size)))).mono fun e w'' h2 => ⟨h2.1, h.trans (h2.2.mono h.size)⟩)
            have HEq := Lib.hid (fun w' => eq_bytes w' (dig (payOf l i)) d (dig_length _) HDl.out (dig_lt _) (by rw [HD.out]; exact fun x hx => HB.out.2.1 x (List.mem_of_mem_drop (List.mem_of_mem_drop (List.mem_of_mem_take hx)))))
            have hDl : D < w2.heap.size := block_lt_of_cell c0
            have HDL := Lib.hid hDl
            have h54 := Tryz.underlying80
            have hsz : (Tryz.prog.info? 80).map (·.size) = some (vals d).length := by have := size54 d HDl.out; simpa using this
            obtain ⟨bb, hbb⟩ : ∃ bb, bb = decide (dig (payOf l i) = d) := ⟨_, rfl⟩
            rw [← hbb] at HEq
            have HBB := Lib.hid hbb
            clear hso2 hDl hbb HNH
            obtain ⟨e, he⟩ : ∃ e, e = i + 44 + m := ⟨_, rfl⟩
            have HE := Lib.hid he
            have hen : e ≤ n := by omega
            have ee : ((i : Int) + 44 + (m : Int)) = (e : Nat) := by omega
            rw [ee]
            have hik : k < e := by omega
            have hie : i < e := by omega
            clear he ee ht ht'
            refine wp_region_noPanic ?_
            refine wp_region_held_drew (S := fun w' => Below w2.heap.size w2 w') (by kernel_rfl) (codec.below_draws (Below.refl _ _) 1) (fun hHeld => ?_)
            refine wpAnyH_take (i := 0) (v := .slice (some ⟨b, o, none⟩) m cp) rfl (by kernel_rfl) (by kernel_rfl) (by kernel_rfl) (fun _ _ _ h => h) (Or.inl ⟨by rfl, fun w' _ => by go_simp⟩) hHeld ?_
            refine wpAnyH_take (i := 2) (v := .pointer (some ⟨D, 2, none⟩)) rfl (by kernel_rfl) (by kernel_rfl) (by kernel_rfl) (fun _ _ _ h => h) (Or.inl ⟨by rfl, fun w' _ => by go_simp⟩) hHeld ?_
            refine wpAnyH_take (i := 3) (v := .agg (vals d).toArray) rfl (by kernel_rfl) (by kernel_rfl) (by kernel_rfl) (fun _ _ _ h => h) (yieldsIf_load_mid (by rfl) 80 (.tmp 47) rfl D 2 rfl (vals d) _ (fun _ hw => range_below hw HDL.out HCr.out) h54 rfl hsz) hHeld ?_
            refine wpAnyH_ready (rs := [1]) (by kernel_rfl) (by simp) ?_
            refine AllReadyH.cons rfl (fun K hK => ?_) AllReadyH.nil
            go_simp
            refine (HSM.out _ hHeld).mono ?_
            rintro e5 w5 ⟨rfl, hb5⟩
            go_wp2_with fail
            refine hK.out _ _ hb5 (fun hH5 => ?_)
            clear hK K hHeld
            have hq := HEq.out
            refine wpAnyH_take (i := 4) (v := .bool bb) rfl (by kernel_rfl) (by kernel_rfl) (by kernel_rfl) (fun _ _ _ h => h) (Or.inl ⟨by rfl, fun w' _ => by go_simp⟩) hH5 ?_
            refine wpAnyH_done (by kernel_rfl) ?_ _
            refine NoPanic.normal ?_
            have HSo5 := Lib.hid (HSo2.out.below hH5)
            have d0 : w5.cell? ⟨D, 0, none⟩ = some (.int .i64 kd) := by rw [← c0]; exact hH5.cell (p := ⟨D, 0, none⟩) HDL.out
            clear hq hH5 HSM HEq HSo2 HB2 c0 c1 HCr hb5
            cases bb with
            | false =>
              have hne : dig (payOf l i) ≠ told l i := by
                have := HBB.out
                rw [HD.out] at this
                simpa using this.symm
              have HSo6 := Lib.hid (HSo5.out.on (k' := e) (t' := e) (by omega) (scan_bad l i k e (by rw [HB.out.1]; omega) HR.out (by rw [← HM.out]; exact HE.out) (by rw [HB.out.1]; exact hen) hne))
              clear hne
              go_wp2_with fail
              go_roundw
              case rel => ((repeat apply Exists.intro); exact ⟨⟨e, hen, rfl, HSo6.out⟩, rfl⟩)
              case measure => (show n - e < n - k; omega)
            | true =>
              have heq : dig (payOf l i) = told l i := by
                have := HBB.out
                rw [HD.out] at this
                simpa using this.symm
              have HSc := Lib.hid (scan_rec l i k e (by rw [HB.out.1]; omega) HR.out (by rw [← HM.out]; exact HE.out) (by rw [HB.out.1]; exact hen) heq)
              obtain ⟨xs, r1, r2, r3, r4⟩ := HSo5.out
              have R1 := Lib.hid (show Recs W.heap.size 87 w5.drew u4 xs from r1.drewN 1)
              have R2 := Lib.hid r2
              have R3 := Lib.hid r3
              have R4 := Lib.hid r4
              have HPb := Lib.hid (show Bytes w5.drew _ m (payOf l i) from (HPB.out w5 r2).drewN 1)
              have d1 : w5.drew.cell? ⟨D, 0, none⟩ = some (.int .i64 kd) := d0
              have HDl5 := Lib.hid (block_lt_of_cell d0)
              clear heq r1 r2 r3 r4 HSo5
              go_wp2_with fail
              go_region_law (first
                | (refine step_append_rec rfl (.tmp 50) (.tmp 57) 54 87 rfl Tryz.underlying54 infoP W.heap.size u4 xs (by simp [Act.eval, Act.put]) HX6.out.1 HX6.out.2.2.1 (by have := R3.out; omega) ⟨⟨i, kd, payOf l i⟩, some ⟨G, 0, none⟩, m, m⟩ (0, 0) w6.heap.size rfl (by simp [Act.eval, Act.put]) HX6.out.2.1 HX6.out.2.2.2.1 ?_; intro v7 w7 hR7 hb7; have HR7 := Lib.hid hR7; have HB7 := Lib.hid (HX6.out.2.2.2.2.trans hb7); clear hR7 hb7)
                | (go_simp; go_at_call 37; refine (copied_any _ _ m cp _ HPb.out (by omega)).mono ?_; rintro e6 w6 ⟨rfl, hw6⟩; have HX6 := Lib.hid (copied_recs R1.out R2.out HPb.out hw6); have d6 : w6.cell? ⟨D, 0, none⟩ = some (.int .i64 kd) := (cell_new HDl5.out hw6).trans d1; obtain ⟨G, hG⟩ : ∃ G, G = w5.drew.heap.size := ⟨_, rfl⟩; rw [← hG] at HX6 ⊢; clear hw6 hG))
              all_goals
                have HSo7 : Hid (Sofar W 87 l v7 e e w7) := sofar_rec HR7.out HB7.out R3.out hie R4.out HSc.out HKd.out
                clear d0 d1 d6 HX6 HR7 HB7 R1 R2 R3 R4 HSc HPb HPB
                go_wp2
                go_roundw
                case rel => ((repeat apply Exists.intro); exact ⟨⟨e, hen, rfl, HSo7.out⟩, rfl⟩)
                case measure => (show n - e < n - k; omega)
          · go_wp2_with (first
              | (go_at_call 35; refine (HNH.out _ rfl).mono ?_; rintro e w1 ⟨rfl, hb⟩; have HB1 := Lib.hid hb; clear hb)
              | (refine wpList_store_row rfl 82 (.tmp 7) (.tmp 20) rfl w1.heap.size (headC kd m d) rfl rfl 82 zeroC (heap_alloc_new w1 (.cells zeroC 82)) HP.out HZc.out HA.out ?_; rw [World.setRow_alloc_new]; have HB2 := Lib.hid (HB1.out.alloc HB1.out.size (.cells (headC kd m d) 82)); obtain ⟨c0, c1, cr⟩ := head_cells (heap_alloc_new w1 (.cells (headC kd m d) 82)); have HCr := Lib.hid cr; clear cr; generalize w1.alloc (.cells (headC kd m d) 82) = w2 at *; generalize w1.heap.size = D at *))
            rw [show i + 44 + m - (i + 44) = m by omega]
            have HPB : Hid (∀ w', Below W.heap.size W w' → Bytes w' (some ⟨b, o + (i + 44), none⟩) m (payOf l i)) := fun w' h => pay_bytes (HB.out.below HB.out.lt h) HM.out ht' (fun _ => rfl)
            have HCp : Hid (m ≤ c - (i + 44)) := by show m ≤ _; omega
            clear hci
            generalize c - (i + 44) = cp at *
            have hso2 := (HSo.out.on hki HSk.out).below HB2.out
            have HSo2 := Lib.hid hso2
            have HSM := Lib.hid (show ∀ w', Below w2.heap.size w2 w' → Calls Tryz.prog 36 #[.slice (some ⟨b, o + (i + 44), none⟩) m cp] w' fun e w'' => e = .returned (.agg (vals (dig (payOf l i))).toArray) ∧ Below w2.heap.size w2 w'' from fun w' h => (dig_prog w' (some ⟨b, o + (i + 44), none⟩) m cp _ (HPB.out w' (HSo2.out.bel.trans (h.mono HSo2.out.bel.size))) (by omega) HCp.out (HL.out.below HL.out.lt (HSo2.out.bel.trans (h.mono HSo2.out.bel.size)))).mono fun e w'' h2 => ⟨h2.1, h.trans (h2.2.mono h.size)⟩)
            have HEq := Lib.hid (fun w' => eq_bytes w' (dig (payOf l i)) d (dig_length _) HDl.out (dig_lt _) (by rw [HD.out]; exact fun x hx => HB.out.2.1 x (List.mem_of_mem_drop (List.mem_of_mem_drop (List.mem_of_mem_take hx)))))
            have hDl : D < w2.heap.size := block_lt_of_cell c0
            have HDL := Lib.hid hDl
            have h54 := Tryz.underlying80
            have hsz : (Tryz.prog.info? 80).map (·.size) = some (vals d).length := by have := size54 d HDl.out; simpa using this
            obtain ⟨bb, hbb⟩ : ∃ bb, bb = decide (dig (payOf l i) = d) := ⟨_, rfl⟩
            rw [← hbb] at HEq
            have HBB := Lib.hid hbb
            clear hso2 hDl hbb HNH
            obtain ⟨e, he⟩ : ∃ e, e = i + 44 + m := ⟨_, rfl⟩
            have HE := Lib.hid he
            have hen : e ≤ n := by omega
            have ee : ((i : Int) + 44 + (m : Int)) = (e : Nat) := by omega
            rw [ee]
            have hik : k < e := by omega
            have hie : i < e := by omega
            clear he ee ht ht'
            refine wp_region_noPanic ?_
            refine wp_region_held_drew (S := fun w' => Below w2.heap.size w2 w') (by kernel_rfl) (codec.below_draws (Below.refl _ _) 1) (fun hHeld => ?_)
            refine wpAnyH_take (i := 0) (v := .slice (some ⟨b, o + (i + 44), none⟩) m cp) rfl (by kernel_rfl) (by kernel_rfl) (by kernel_rfl) (fun _ _ _ h => h) (Or.inl ⟨by rfl, fun w' _ => by go_simp⟩) hHeld ?_
            refine wpAnyH_take (i := 2) (v := .pointer (some ⟨D, 2, none⟩)) rfl (by kernel_rfl) (by kernel_rfl) (by kernel_rfl) (fun _ _ _ h => h) (Or.inl ⟨by rfl, fun w' _ => by go_simp⟩) hHeld ?_
            refine wpAnyH_take (i := 3) (v := .agg (vals d).toArray) rfl (by kernel_rfl) (by kernel_rfl) (by kernel_rfl) (fun _ _ _ h => h) (yieldsIf_load_mid (by rfl) 80 (.tmp 47) rfl D 2 rfl (vals d) _ (fun _ hw => range_below hw HDL.out HCr.out) h54 rfl hsz) hHeld ?_
            refine wpAnyH_ready (rs := [1]) (by kernel_rfl) (by simp) ?_
            refine AllReadyH.cons rfl (fun K hK => ?_) AllReadyH.nil
            go_simp
            refine (HSM.out _ hHeld).mono ?_
            rintro e5 w5 ⟨rfl, hb5⟩
            go_wp2_with fail
            refine hK.out _ _ hb5 (fun hH5 => ?_)
            clear hK K hHeld
            have hq := HEq.out
            refine wpAnyH_take (i := 4) (v := .bool bb) rfl (by kernel_rfl) (by kernel_rfl) (by kernel_rfl) (fun _ _ _ h => h) (Or.inl ⟨by rfl, fun w' _ => by go_simp⟩) hH5 ?_
            refine wpAnyH_done (by kernel_rfl) ?_ _
            refine NoPanic.normal ?_
            have HSo5 := Lib.hid (HSo2.out.below hH5)
            have d0 : w5.cell? ⟨D, 0, none⟩ = some (.int .i64 kd) := by rw [← c0]; exact hH5.cell (p := ⟨D, 0, none⟩) HDL.out
            clear hq hH5 HSM HEq HSo2 HB2 c0 c1 HCr hb5
            cases bb with
            | false =>
              have hne : dig (payOf l i) ≠ told l i := by
                have := HBB.out
                rw [HD.out] at this
                simpa using this.symm
              have HSo6 := Lib.hid (HSo5.out.on (k' := e) (t' := e) (by omega) (scan_bad l i k e (by rw [HB.out.1]; omega) HR.out (by rw [← HM.out]; exact HE.out) (by rw [HB.out.1]; exact hen) hne))
              clear hne
              go_wp2_with fail
              go_roundw
              case rel => ((repeat apply Exists.intro); exact ⟨⟨e, hen, rfl, HSo6.out⟩, rfl⟩)
              case measure => (show n - e < n - k; omega)
            | true =>
              have heq : dig (payOf l i) = told l i := by
                have := HBB.out
                rw [HD.out] at this
                simpa using this.symm
              have HSc := Lib.hid (scan_rec l i k e (by rw [HB.out.1]; omega) HR.out (by rw [← HM.out]; exact HE.out) (by rw [HB.out.1]; exact hen) heq)
              obtain ⟨xs, r1, r2, r3, r4⟩ := HSo5.out
              have R1 := Lib.hid (show Recs W.heap.size 87 w5.drew u4 xs from r1.drewN 1)
              have R2 := Lib.hid r2
              have R3 := Lib.hid r3
              have R4 := Lib.hid r4
              have HPb := Lib.hid (show Bytes w5.drew _ m (payOf l i) from (HPB.out w5 r2).drewN 1)
              have d1 : w5.drew.cell? ⟨D, 0, none⟩ = some (.int .i64 kd) := d0
              have HDl5 := Lib.hid (block_lt_of_cell d0)
              clear heq r1 r2 r3 r4 HSo5
              go_wp2_with fail
              go_region_law (first
                | (refine step_append_rec rfl (.tmp 50) (.tmp 57) 54 87 rfl Tryz.underlying54 infoP W.heap.size u4 xs (by simp [Act.eval, Act.put]) HX6.out.1 HX6.out.2.2.1 (by have := R3.out; omega) ⟨⟨i, kd, payOf l i⟩, some ⟨G, 0, none⟩, m, m⟩ (0, 0) w6.heap.size rfl (by simp [Act.eval, Act.put]) HX6.out.2.1 HX6.out.2.2.2.1 ?_; intro v7 w7 hR7 hb7; have HR7 := Lib.hid hR7; have HB7 := Lib.hid (HX6.out.2.2.2.2.trans hb7); clear hR7 hb7)
                | (go_simp; go_at_call 37; refine (copied_any _ _ m cp _ HPb.out (by omega)).mono ?_; rintro e6 w6 ⟨rfl, hw6⟩; have HX6 := Lib.hid (copied_recs R1.out R2.out HPb.out hw6); have d6 : w6.cell? ⟨D, 0, none⟩ = some (.int .i64 kd) := (cell_new HDl5.out hw6).trans d1; obtain ⟨G, hG⟩ : ∃ G, G = w5.drew.heap.size := ⟨_, rfl⟩; rw [← hG] at HX6 ⊢; clear hw6 hG))
              all_goals
                have HSo7 : Hid (Sofar W 87 l v7 e e w7) := sofar_rec HR7.out HB7.out R3.out hie R4.out HSc.out HKd.out
                clear d0 d1 d6 HX6 HR7 HB7 R1 R2 R3 R4 HSc HPb HPB
                go_wp2
                go_roundw
                case rel => ((repeat apply Exists.intro); exact ⟨⟨e, hen, rfl, HSo7.out⟩, rfl⟩)
                case measure => (show n - e < n - k; omega)
    · obtain rfl : k = n := by omega
      have HF := Lib.hid (HSo.out.found (scan_end l k k (by rw [HB.out.1]; omega)))
      go_wp2
      go_ret2
      exact ⟨_, k, rfl, HF.out⟩
end Go.Proofs.YtfmdhcjniikfdaaGreatDoor.frm
/- The number that the document reads. -/
namespace Go.Proofs.YtfmdhcjniikfdaaGreatDoor.codec
open Go.ChangeShapes Go.WideShapes Go.ChangeAt Go.RowKit
set_option linter.unusedVariables false
set_option maxRecDepth 100000
set_option linter.unusedSimpArgs false

set_option maxHeartbeats 1000000 in
theorem number_any (w : World) (A : Option Addr) (n c : Nat) (l : List Nat) (h : Bytes w A n l) (hn : n ≤ 7) :
    Calls Tryz.prog 62 #[.slice A n c] w fun e w' => e = .returned (.int .u64 (numOf l : Nat)) ∧ w = w' := by
  have HB := Lib.hid h
  clear h
  go_enter Tryz.func62, Tryz.ntmps62
  go_wp2
  go_loopw [3, 7] (fun v i wr => ∃ k x : Nat, k ≤ n ∧ i = .int .i64 k ∧ x = numOf (l.take k) ∧ v = .int .u64 x ∧ wr = w) (fun _ i _ => n - (intOf i).toNat)
  case atStart => exact ⟨0, 0, by omega, rfl, by simp [numOf, numFrom], rfl, rfl⟩
  case round =>
    obtain ⟨k, x, hk, rfl, hx, rfl, rfl⟩ := hrel
    have hx' : x < 256 ^ k := by rw [hx]; exact numOf_lt l HB.out.2.1 k
    by_cases hlt : k < n
    · obtain ⟨b', o', rfl, hc⟩ := HB.out.2.2 (by omega)
      obtain ⟨y, hy, hy2, hcell⟩ : ∃ y, y = l.getD k 0 ∧ y < 256 ∧ wr.cell? ⟨b', o' + k, none⟩ = some (.int .u8 (y : Nat)) := ⟨_, rfl, getD_lt256 HB.out.2.1 k, hc k hlt⟩
      have hx6 : x < 281474976710656 := Nat.lt_of_lt_of_le hx' (Nat.le_trans (Nat.pow_le_pow_right (by omega) (show k ≤ 6 by omega)) (by decide))
      have HX := Lib.hid hx
      have HY := Lib.hid hy
      clear hx hx' hy hc
      go_wp2
      go_roundw
      case rel =>
        refine ⟨k + 1, x * 256 + y, by omega, rfl, ?_, by simp, trivial⟩
        rw [numOf_take l k (by have := HB.out.1; omega), ← HX.out, ← HY.out]
      case measure => simp [intOf]; omega
    · obtain rfl : k = n := by omega
      have HX := Lib.hid hx
      clear hx hx'
      go_wp2
      go_ret
      refine ⟨?_, rfl⟩
      have := HX.out
      rw [List.take_of_length_le (by have := HB.out.1; omega)] at this
      rw [← this]
      rfl
end Go.Proofs.YtfmdhcjniikfdaaGreatDoor.codec
/- What the document says of a head's place. -/
namespace Go.Proofs.YtfmdhcjniikfdaaGreatDoor.frm
open Go.ChangeShapes Go.WideShapes Go.ChangeAt Go.RowKit
open Go.Proofs.YtfmdhcjniikfdaaGreatDoor.codec (Bytes vals vals_append vals_length vals_one OutIs More Made New bytesOf byteAt bytesOf_length bytesOf_lt Fits strOf)
set_option linter.unusedVariables false
set_option maxRecDepth 100000
set_option linter.unusedSimpArgs false

def No (W : World) (e : Ending) (w' : World) : Prop := e = .returned (.tuple #[.int .i64 0, .int .i64 0, .bool false]) ∧ Below W.heap.size W w'
theorem no_same (W : World) (q : Nat) : No W (.returned (.tuple #[.int .i64 0, .int .i64 0, .bool false])) (W.drewN q) := ⟨rfl, codec.below_draws (Below.refl _ _) q⟩
theorem bytes_cell {w : World} {b o n : Nat} {l : List Nat} (h : Bytes w (some ⟨b, o, none⟩) n l) (i : Nat) (hi : i < n) : w.cell? ⟨b, o + i, none⟩ = some (.int .u8 (l.getD i 0 : Nat)) := by
  obtain ⟨b, o, e, hc⟩ := h.2.2 (by omega)
  cases e
  exact hc i hi
set_option maxHeartbeats 1000000 in
theorem refHead_short (W : World) (A : Option Addr) (n c i : Nat) (hi : n < i + 44) (hin : i < 50000) (hnm : n ≤ 40000) :
    Calls Tryz.prog 39 #[.slice A n c, .int .i64 i] W fun e w' => No W e w' := by
  go_enter Tryz.func39, Tryz.ntmps39
  go_wp2
  go_ret3
  exact no_same W 0
set_option maxHeartbeats 1000000 in
theorem refHead_mark (W : World) (b o : Nat) (n c i x0 x1 x2 : Nat) (hi : i + 44 ≤ n) (hnm : n ≤ 40000) (c0 : W.cell? ⟨b, o + i, none⟩ = some (.int .u8 x0)) (c1 : W.cell? ⟨b, o + (i + 1), none⟩ = some (.int .u8 x1)) (c2 : W.cell? ⟨b, o + (i + 2), none⟩ = some (.int .u8 x2)) (hne : ¬ (x0 = 99 ∧ x1 = 117 ∧ x2 = 98)) :
    Calls Tryz.prog 39 #[.slice (some ⟨b, o, none⟩) n c, .int .i64 i] W fun e w' => No W e w' := by
  by_cases h0 : x0 = 99
  · subst h0
    by_cases h1 : x1 = 117
    · subst h1
      have h2 : ((x2 : Int) != 98) = true := by rw [bne_iff_ne]; omega
      clear hne
      go_enter Tryz.func39, Tryz.ntmps39
      go_wp2
      go_ret3
      exact no_same W 0
    · have h1' : ((x1 : Int) != 117) = true := by rw [bne_iff_ne]; omega
      clear hne h1
      go_enter Tryz.func39, Tryz.ntmps39
      go_wp2
      go_ret3
      exact no_same W 0
  · have h0' : ((x0 : Int) != 99) = true := by rw [bne_iff_ne]; omega
    clear hne h0
    go_enter Tryz.func39, Tryz.ntmps39
    go_wp2
    go_ret3
    exact no_same W 0
set_option maxHeartbeats 2000000 in
theorem refHead_rest (W : World) (b o : Nat) (n c i x3 m x C : Nat) (r : Bool) (hi : i + 44 ≤ n) (hc : n ≤ c) (hnm : n ≤ 40000) (c0 : W.cell? ⟨b, o + i, none⟩ = some (.int .u8 99)) (c1 : W.cell? ⟨b, o + (i + 1), none⟩ = some (.int .u8 117)) (c2 : W.cell? ⟨b, o + (i + 2), none⟩ = some (.int .u8 98))
    (c3 : W.cell? ⟨b, o + (i + 3), none⟩ = some (.int .u8 x3)) (h3 : x3 < 256) (hm4 : m < 4294967296) (hx4 : x < 4294967296) (hC4 : C < 4294967296) (hr : r = decide (1 ≤ x3 ∧ x3 ≤ 3 ∧ m ≤ 30000 ∧ x = C))
    (hN1 : Calls Tryz.prog 62 #[.slice (some ⟨b, o + (i + 4), none⟩) 4 (c - (i + 4))] W fun e w' => e = .returned (.int .u64 m) ∧ W = w')
    (hN2 : ∀ q, Calls Tryz.prog 62 #[.slice (some ⟨b, o + (i + 8), none⟩) 4 (c - (i + 8))] (W.drewN q) fun e w' => e = .returned (.int .u64 x) ∧ ∃ r, w' = W.drewN r)
    (hCr : ∀ q, Calls Tryz.prog 54 #[.slice (some ⟨b, o + i, none⟩) 8 (c - i)] (W.drewN q) fun e w' => e = .returned (.int .u32 C) ∧ ∃ r, w' = W.drewN r) :
    Calls Tryz.prog 39 #[.slice (some ⟨b, o, none⟩) n c, .int .i64 i] W fun e w' => e = .returned (.tuple #[.int .i64 (if r = true then x3 else 0 : Nat), .int .i64 (if r = true then m else 0 : Nat), .bool r]) ∧ Below W.heap.size W w' := by
  have W3 := Lib.hid (show IntKind.i64.wrap ((i : Int) + 3) = (i : Int) + 3 from IntWalk.i64_in _ (by omega))
  have W8 := Lib.hid (show IntKind.i64.wrap ((i : Int) + 8) = (i : Int) + 8 from IntWalk.i64_in _ (by omega))
  have W12 := Lib.hid (show IntKind.i64.wrap ((i : Int) + 12) = (i : Int) + 12 from IntWalk.i64_in _ (by omega))
  have T3 := Lib.hid (show ((i : Int) + 3).toNat = i + 3 by omega)
  have T8 := Lib.hid (show ((i : Int) + 8).toNat = i + 8 by omega)
  have T12 := Lib.hid (show ((i : Int) + 12).toNat = i + 12 by omega)
  have i3 : (0 : Int) ≤ (i : Int) + 3 := by omega
  have i3' : (i : Int) + 3 < (n : Int) := by omega
  have i8 : (0 : Int) ≤ (i : Int) + 8 := by omega
  have i8' : (i : Int) + 8 ≤ (i : Int) + 12 := by omega
  have i8c : (i : Int) + 8 ≤ (c : Int) := by omega
  have i12 : (i : Int) + 12 ≤ (c : Int) := by omega
  have i0 : (i : Int) ≤ (i : Int) + 8 := by omega
  have H1 := Lib.hid hN1
  have H2 := Lib.hid hN2
  have H3 := Lib.hid hCr
  clear hN1 hN2 hCr
  by_cases hk1 : x3 < 1
  · have hr' : r = false := by rw [hr]; simp; omega
    subst hr'
    clear hr
    go_enter Tryz.func39, Tryz.ntmps39
    go_wp2_with (go_at_call 62; refine H1.out.mono ?_; rintro e w1 ⟨rfl, rfl⟩)
    have k1 : decide ((x3 : Int) < 1) = true := by simp; omega
    have w3 := W3.out
    have w8 := W8.out
    have w12 := W12.out
    have t3 := T3.out
    have t8 := T8.out
    have t12 := T12.out
    go_quiet (fail)
    clear w3 w8 w12 t3 t8 t12
    go_wp2
    go_ret3
    exact ⟨rfl, codec.below_draws (Below.refl _ _) _⟩
  · by_cases hk3 : 3 < x3
    · have hr' : r = false := by rw [hr]; simp; omega
      subst hr'
      clear hr
      go_enter Tryz.func39, Tryz.ntmps39
      go_wp2_with (go_at_call 62; refine H1.out.mono ?_; rintro e w1 ⟨rfl, rfl⟩)
      have k1 : decide ((x3 : Int) < 1) = false := by simp; omega
      have k2 : decide ((3 : Int) < (x3 : Int)) = true := by simp; omega
      have w3 := W3.out
      have w8 := W8.out
      have w12 := W12.out
      have t3 := T3.out
      have t8 := T8.out
      have t12 := T12.out
      go_quiet (fail)
      clear w3 w8 w12 t3 t8 t12
      go_wp2
      go_ret3
      exact ⟨rfl, codec.below_draws (Below.refl _ _) _⟩
    · by_cases hm : 30000 < m
      · have hr' : r = false := by rw [hr]; simp; omega
        subst hr'
        clear hr
        go_enter Tryz.func39, Tryz.ntmps39
        go_wp2_with (go_at_call 62; refine H1.out.mono ?_; rintro e w1 ⟨rfl, rfl⟩)
        have k1 : decide ((x3 : Int) < 1) = false := by simp; omega
        have k2 : decide ((3 : Int) < (x3 : Int)) = false := by simp; omega
        have k3 : decide ((30000 : Int) < (m : Int)) = true := by simp; omega
        have w3 := W3.out
        have w8 := W8.out
        have w12 := W12.out
        have t3 := T3.out
        have t8 := T8.out
        have t12 := T12.out
        go_quiet (fail)
        clear w3 w8 w12 t3 t8 t12
        go_wp2
        go_ret3
        exact ⟨rfl, codec.below_draws (Below.refl _ _) _⟩
      · by_cases hx : x = C
        · have hr' : r = true := by rw [hr]; simp; omega
          subst hr' hx
          clear hr
          have hne : ((x : Int) != (x : Int)) = false := by simp
          go_enter Tryz.func39, Tryz.ntmps39
          go_wp2_with (go_at_call 62; refine H1.out.mono ?_; rintro e w1 ⟨rfl, rfl⟩)
          have k1 : decide ((x3 : Int) < 1) = false := by simp; omega
          have k2 : decide ((3 : Int) < (x3 : Int)) = false := by simp; omega
          have k3 : decide ((30000 : Int) < (m : Int)) = false := by simp; omega
          have w3 := W3.out
          have w8 := W8.out
          have w12 := W12.out
          have t3 := T3.out
          have t8 := T8.out
          have t12 := T12.out
          go_quiet ((first | (go_at_call 62; exact H2.out _) | (go_at_call 54; exact H3.out _)))
          clear w3 w8 w12 t3 t8 t12
          go_wp2
          go_ret3
          exact ⟨rfl, codec.below_draws (Below.refl _ _) _⟩
        · have hr' : r = false := by rw [hr]; simp; omega
          subst hr'
          clear hr
          have hne : ((x : Int) != (C : Int)) = true := by rw [bne_iff_ne]; omega
          clear hx
          go_enter Tryz.func39, Tryz.ntmps39
          go_wp2_with (go_at_call 62; refine H1.out.mono ?_; rintro e w1 ⟨rfl, rfl⟩)
          have k1 : decide ((x3 : Int) < 1) = false := by simp; omega
          have k2 : decide ((3 : Int) < (x3 : Int)) = false := by simp; omega
          have k3 : decide ((30000 : Int) < (m : Int)) = false := by simp; omega
          have w3 := W3.out
          have w8 := W8.out
          have w12 := W12.out
          have t3 := T3.out
          have t8 := T8.out
          have t12 := T12.out
          go_quiet ((first | (go_at_call 62; exact H2.out _) | (go_at_call 54; exact H3.out _)))
          clear w3 w8 w12 t3 t8 t12
          go_wp2
          go_ret3
          exact ⟨rfl, codec.below_draws (Below.refl _ _) _⟩
theorem take3 {l : List Nat} (h : 44 ≤ l.length) : l.take 3 = [l.getD 0 0, l.getD 1 0, l.getD 2 0] := by
  match l, h with
  | a :: b :: c :: r, _ => rfl
theorem refHead_any (W : World) (b o : Nat) (n c i : Nat) (l : List Nat) (hB : Bytes W (some ⟨b, o, none⟩) n l) (hi : i < n) (hc : n ≤ c) (hnm : n ≤ 40000) :
    Calls Tryz.prog 39 #[.slice (some ⟨b, o, none⟩) n c, .int .i64 i] W fun e w' => e = .returned (.tuple #[.int .i64 (if rightB (l.drop i) = true then (l.drop i).getD 3 0 else 0 : Nat), .int .i64 (if rightB (l.drop i) = true then numOf4 (l.drop i) else 0 : Nat), .bool (rightB (l.drop i))]) ∧ Below W.heap.size W w' := by
  have hn := hB.1
  by_cases h44 : n < i + 44
  · have hr : rightB (l.drop i) = false := by
      unfold rightB
      rw [decide_eq_false_iff_not]
      intro h
      have := h.1
      simp at this
      omega
    rw [hr]
    exact (refHead_short W _ n c i h44 (by omega) hnm).mono fun e w' h => h
  · have g : ∀ j, (l.drop i).getD j 0 = l.getD (i + j) 0 := fun j => by simp [List.getD]
    have hl44 : 44 ≤ (l.drop i).length := by simp; omega
    by_cases hm : l.getD (i + 0) 0 = 99 ∧ l.getD (i + 1) 0 = 117 ∧ l.getD (i + 2) 0 = 98
    · have c0 := bytes_cell hB (i + 0) (by omega)
      have c1 := bytes_cell hB (i + 1) (by omega)
      have c2 := bytes_cell hB (i + 2) (by omega)
      rw [hm.1] at c0
      rw [hm.2.1] at c1
      rw [hm.2.2] at c2
      have hr : rightB (l.drop i) = decide (1 ≤ (l.drop i).getD 3 0 ∧ (l.drop i).getD 3 0 ≤ 3 ∧ numOf4 (l.drop i) ≤ 30000 ∧ codec.numOf (((l.drop i).drop 8).take 4) = crcOf ((l.drop i).take 8)) := by
        unfold rightB numOf4
        rw [take3 hl44, g 0, g 1, g 2, hm.1, hm.2.1, hm.2.2]
        rw [Bool.eq_iff_iff, decide_eq_true_eq, decide_eq_true_eq]
        simp only [hl44, true_and]
      have hb := fun (x : Nat) (hx : x ∈ l) => hB.2.1 x hx
      have hlt : ∀ t : List Nat, (∀ x ∈ t, x ∈ l) → codec.numOf (t.take 4) < 4294967296 := fun t ht => by
        have := codec.numOf_lt (t.take 4) (fun x hx => hb x (ht x (List.mem_of_mem_take hx))) 4
        rw [List.take_take] at this
        exact this
      have c3 := bytes_cell hB (i + 3) (by omega)
      have d4 := bytes_take (bytes_drop hB (i + 4) (by omega)) 4 (by omega)
      have d8 := bytes_take (bytes_drop hB (i + 8) (by omega)) 4 (by omega)
      have d0 := bytes_take (bytes_drop hB i (by omega)) 8 (by omega)
      have e4 : (l.drop i).drop 4 = l.drop (i + 4) := by rw [List.drop_drop]
      have e8 : (l.drop i).drop 8 = l.drop (i + 8) := by rw [List.drop_drop]
      refine refHead_rest W b o n c i _ (numOf4 (l.drop i)) (codec.numOf (((l.drop i).drop 8).take 4)) (crcOf ((l.drop i).take 8)) _ (by omega) hc hnm c0 c1 c2 (by rw [g 3]; exact c3) (by rw [g 3]; exact codec.getD_lt256 hb _) (hlt _ (fun x hx => List.mem_of_mem_drop (List.mem_of_mem_drop hx))) (hlt _ (fun x hx => List.mem_of_mem_drop (List.mem_of_mem_drop hx))) (crcOf_lt fun x hx => hb x (List.mem_of_mem_drop (List.mem_of_mem_take hx))) hr ?_ ?_ ?_
      · unfold numOf4
        rw [e4]
        exact codec.number_any W _ 4 _ _ d4 (by omega)
      · intro q
        rw [e8]
        exact (codec.number_any (W.drewN q) _ 4 (c - (i + 8)) _ (d8.drewN q) (by omega)).mono fun _ _ ⟨he, hw⟩ => ⟨he, q, hw.symm⟩
      · intro q
        exact (crc_ref _ 8 (c - i) _ (W.drewN q) (d0.drewN q) (by unfold maxLen; omega)).mono fun _ _ ⟨he, hw⟩ => ⟨he, q, hw.symm⟩
    · have hr : rightB (l.drop i) = false := by
        unfold rightB
        rw [decide_eq_false_iff_not]
        intro h
        rw [take3 hl44, g 0, g 1, g 2] at h
        have := h.2.1
        simp only [List.cons.injEq] at this
        exact hm ⟨this.1, this.2.1, this.2.2.1⟩
      rw [hr]
      exact (refHead_mark W b o n c i _ _ _ (by omega) hnm (bytes_cell hB (i + 0) (by omega)) (bytes_cell hB (i + 1) (by omega)) (bytes_cell hB (i + 2) (by omega)) hm).mono fun e w' h => h
end Go.Proofs.YtfmdhcjniikfdaaGreatDoor.frm
/- What the document says of a scan. -/
namespace Go.Proofs.YtfmdhcjniikfdaaGreatDoor.frm
open Go.ChangeShapes Go.WideShapes Go.ChangeAt Go.RowKit
open Go.Proofs.YtfmdhcjniikfdaaGreatDoor.codec (Bytes vals vals_append vals_length vals_one OutIs More Made New bytesOf byteAt bytesOf_length bytesOf_lt Fits strOf)
set_option linter.unusedVariables false
set_option maxRecDepth 100000
set_option linter.unusedSimpArgs false

theorem own_form {w : World} {B N : Nat} {v : Value} {M : List Nat} (h : w.ownsRow B 5 1 v M.length (vals M)) (hne : v ≠ .slice none 0 0) (hb : ∀ x ∈ M, x < 256) (hN : M.length = N) :
    ∃ g cap, v = .slice (some ⟨g, 0, none⟩) N cap ∧ B ≤ g ∧ Bytes w (some ⟨g, 0, none⟩) N M ∧ N ≤ cap := by
  subst hN
  rcases h.2 with ⟨e, _⟩ | ⟨g, cap, cur, e, hB, _, hc, _⟩
  · exact absurd e hne
  · subst e
    exact ⟨g, cap, rfl, hB, codec.own_bytes' h rfl hb, hc⟩

theorem copy_rec {W w5 w6 : World} {E : TypeId} {v v5 : Value} {xs : List X} {A : Option Addr} {m : Nat} {p : List Nat} (h1 : Recs W.heap.size E w5 v xs) (h2 : Below W.heap.size W w5) (hp : Bytes w5 A m p)
    (ho : w6.ownsRow w5.heap.size 5 1 v5 ([] ++ p).length (vals ([] ++ p))) (hg : (w5.alloc (.cells #[] 5)).grownBy w6 (Value.slice (some ⟨w5.heap.size, 0, none⟩) 0 0).ownBlock) (hnn : v5 = .slice none 0 0 ↔ Value.slice (some ⟨w5.heap.size, 0, none⟩) 0 0 = .slice none 0 0 ∧ m = 0) :
    ∃ g cap, v5 = .slice (some ⟨g, 0, none⟩) m cap ∧ Recs W.heap.size E w6 v xs ∧ Bytes w6 (some ⟨g, 0, none⟩) m p ∧ W.heap.size ≤ w6.heap.size ∧ (∀ ad, (some ⟨g, 0, none⟩ : Option Addr) = some ad → 0 < m → v.ownBlock ≠ some ad.block) ∧ Below W.heap.size W w6 := by
  have hb : Below w5.heap.size w5 w6 := ((Below.refl _ _).alloc (Nat.le_refl _) _).trans ⟨hg.os, hg.tape, hg.output, hg.size, fun k hk => hg.block k (by simp; omega) (fun e => by
    have := Option.some.inj e
    simp at this
    omega)⟩
  rw [List.nil_append] at ho
  obtain ⟨g, cap, e, hB, hBy, _⟩ := own_form ho (fun e => by have := (hnn.1 e).1; cases this) hp.2.1 hp.1
  have hb' := h2.trans (hb.mono h2.size)
  refine ⟨g, cap, e, h1.below hb, hBy, hb'.size, fun ad e _ e' => ?_, hb'⟩
  cases e
  have := (h1.1.lt _ e').2
  simp at this
  omega
set_option maxHeartbeats 4000000 in
theorem refScan_any (W : World) (A : Option Addr) (n c : Nat) (l : List Nat) (hB : Bytes W A n l) (hc : n ≤ c) (hnm : n ≤ 40000) :
    Calls Tryz.prog 25 #[.slice A n c] W fun e w' => ∃ v torn, e = .returned (.tuple #[v, .int .i64 (torn : Nat)]) ∧ Found W 71 l v torn w' := by
  have HB := Lib.hid hB
  have HS := Lib.hid (sofar_start W 71 l)
  clear hB
  go_enter Tryz.func25, Tryz.ntmps25
  go_wp2
  go_loopw [4, 5, 6] (fun v d t wr => ∃ k tn : Nat, k ≤ n ∧ d = .int .i64 k ∧ t = .int .i64 tn ∧ Sofar W 71 l v k tn wr) (fun _ d _ _ => n - (intOf d).toNat)
  case atStart => exact ⟨0, 0, Nat.zero_le _, rfl, rfl, HS.out⟩
  case round =>
    clear HS
    obtain ⟨k, tn, hk, rfl, rfl, hso⟩ := hrel
    have HSo := Lib.hid hso
    clear hso
    by_cases hlt : k < n
    · obtain ⟨b, o, rfl, -⟩ := HB.out.2.2 (by omega)
      have HNH := Lib.hid (refHead_any wr b o n c k l (HB.out.below HB.out.lt HSo.out.bel) hlt hc hnm)
      by_cases hr : rightB (l.drop k) = true
      · rw [if_pos hr, if_pos hr, hr] at HNH
        obtain ⟨hlong, hm3⟩ := right_long hr
        rw [HB.out.1] at hlong
        obtain ⟨m, hm⟩ : ∃ m, m = numOf4 (l.drop k) := ⟨_, rfl⟩
        obtain ⟨kd, hkd⟩ : ∃ kd, kd = (l.drop k).getD 3 0 := ⟨_, rfl⟩
        rw [← hm, ← hkd] at HNH
        rw [← hm] at hm3
        have HM := Lib.hid hm
        have HKd := Lib.hid hkd
        have HR := Lib.hid hr
        clear hr hm hkd
        by_cases ht : n < k + 44 + m
        · have HF := Lib.hid (HSo.out.found (scan_torn l k tn (by rw [HB.out.1]; omega) HR.out (by rw [HB.out.1, ← HM.out]; omega)))
          go_wp2_with (go_at_call 39; refine HNH.out.mono ?_; rintro e w1 ⟨rfl, hb⟩; have HB2 := Lib.hid hb; clear hb)
          go_ret2
          obtain ⟨xs, h1, h2, h3⟩ := HF.out
          exact ⟨_, k, rfl, xs, h1.below HB2.out, h2.trans (HB2.out.mono h2.size), h3⟩
        · have ht' : k + 44 + m ≤ n := by omega
          by_cases hci : c = k + 44
          · have HM0 : Hid (m = 0) := show m = 0 by omega
            have h0 : c - (k + 44) = 0 := by omega
            have HCi := Lib.hid hci
            clear hci
            go_wp2_with (go_at_call 39; refine HNH.out.mono ?_; rintro e w1 ⟨rfl, hb⟩; have HB2 := Lib.hid hb; clear hb)
            have HPB : Hid (∀ w', Below W.heap.size W w' → Bytes w' (some ⟨b, o, none⟩) m (payOf l k)) := fun w' h => pay_bytes (HB.out.below HB.out.lt h) HM.out ht' (fun h => absurd HM0.out (by omega))
            have HCp : Hid (m ≤ 0) := by have := HM0.out; show m ≤ _; omega
            rw [show k + 44 + m - (k + 44) = m by omega, h0]
            clear HM0 HCi h0
            have HSo2 := Lib.hid (HSo.out.below HB2.out)
            with_reducible refine (dig_ref w1 (some ⟨b, o, none⟩) m 0 (payOf l k) (HPB.out w1 HSo2.out.bel) (by omega) (fun e => by cases e)).mono ?_
            rintro e w2 ⟨rfl, hb2⟩
            obtain ⟨dd, hdd⟩ : ∃ dd, dd = (vals (dig (payOf l k))).toArray := ⟨_, rfl⟩
            have HSo3 := Lib.hid (HSo2.out.below hb2)
            have HA := Lib.hid (all_vals (dig (payOf l k)))
            have HP := Lib.hid (size54 (dig (payOf l k)) (dig_length _))
            have HZ := Lib.hid (show (Array.replicate 32 (Value.int .u8 0)).size = (vals (dig (payOf l k))).toArray.size by simp [vals, dig_length])
            have HRw := Lib.hid (heap_alloc_new w2 (.cells (Array.replicate 32 (Value.int .u8 0)) 80))
            rw [← hdd] at HA HP HZ ⊢
            have HDd := Lib.hid hdd
            clear hb2 hdd HNH HB2 HSo2
            go_wp2_with (refine wpList_store_row rfl 80 (.tmp 11) (.tmp 45) rfl w2.heap.size dd rfl rfl 80 _ HRw.out HP.out HZ.out HA.out ?_; rw [World.setRow_alloc_new]; obtain ⟨D, hD⟩ : ∃ D, D = w2.heap.size := ⟨_, rfl⟩; obtain ⟨w3, hw3⟩ : ∃ w3, w3 = w2.alloc (.cells dd 80) := ⟨_, rfl⟩; rw [← hw3, ← hD]; have HSo4 := Lib.hid (show Sofar W 71 l u4 k tn w3 by rw [hw3]; exact HSo3.out.below ((Below.refl _ _).alloc (Nat.le_refl _) _)); have HD4 := Lib.hid (show Bytes w3 (some ⟨D, 0, none⟩) 32 (dig (payOf l k)) by rw [hw3, HDd.out]; exact lit_at w2 _ (dig_lt _) _ _ hD (dig_length _)); clear hD hw3 HRw HA HP HZ HSo3 HDd)
            obtain ⟨T1, hT1⟩ : ∃ T1, T1 = strOf (dig (payOf l k)) := ⟨_, rfl⟩
            obtain ⟨T2, hT2⟩ : ∃ T2, T2 = strOf (told l k) := ⟨_, rfl⟩
            have c1 : ∀ q, (convert 22 9 (.slice (some ⟨D, 0, none⟩) 32 32)).run Tryz.prog (w3.drewN q) = .ok (.string T1) (w3.drewN q) := fun q => by rw [hT1]; exact (HD4.out.drewN q).text 32
            have hBt : Bytes w3 (some ⟨b, o + (k + 12), none⟩) 32 (told l k) := by
              have := bytes_take (bytes_drop (HB.out.below HB.out.lt HSo4.out.bel) (k + 12) (by omega)) 32 (by omega)
              rw [← List.drop_drop] at this
              exact this
            have c2 : ∀ q, (convert 22 9 (.slice (some ⟨b, o + (k + 12), none⟩) (k + 44 - (k + 12)) (c - (k + 12)))).run Tryz.prog (w3.drewN q) = .ok (.string T2) (w3.drewN q) := fun q => by rw [hT2, show k + 44 - (k + 12) = 32 by omega]; exact (hBt.drewN q).text _
            have c3 : ∀ q, (convert 22 9 (.slice (some ⟨b, o + (k + 12), none⟩) 32 (c - (k + 12)))).run Tryz.prog (w3.drewN q) = .ok (.string T2) (w3.drewN q) := fun q => by rw [hT2]; exact (hBt.drewN q).text _
            have hcn : ¬ c = k + 12 := by omega
            have hsl := fun w g => slice54 w g
            obtain ⟨e, he⟩ : ∃ e, e = k + 44 + m := ⟨_, rfl⟩
            have HE := Lib.hid he
            have hen : e ≤ n := by omega
            have hke : k < e := by omega
            have ee : Hid ((k : Int) + 44 + (m : Int) = (e : Nat)) := by show _ = _; omega
            have W12 := IntWalk.i64_in ((k : Int) + 12) (by omega)
            have W44 := IntWalk.i64_in ((k : Int) + 44) (by omega)
            have HW := Lib.hid (And.intro W12 W44)
            have t12 : Hid (((k : Int) + 12).toNat = k + 12 ∧ ((k : Int) + 44).toNat = k + 44) := ⟨by omega, by omega⟩
            have i1 : (0 : Int) ≤ (k : Int) + 12 := by omega
            have i2 : (k : Int) + 12 ≤ (k : Int) + 44 := by omega
            have i3 : (k : Int) + 44 ≤ (c : Int) := by omega
            by_cases hdg : dig (payOf l k) = told l k
            · have hq : (T1.toList == T2.toList) = true := by rw [hT1, hT2, hdg, beq_self_eq_true]
              have HSc := Lib.hid (scan_rec l k tn e (by rw [HB.out.1]; omega) HR.out (by rw [← HM.out]; exact he) (by rw [HB.out.1]; exact hen) hdg)
              clear he hdg hT1 hT2 hBt
              obtain ⟨t1, t2⟩ := t12.out
              clear t12
              go_quiet (fail)
              clear W12 W44 t1 t2 c1 c2 c3 HD4
              have HSo5 := Lib.hid (HSo4.out.below (codec.below_draws (Below.refl _ _) nq))
              generalize w3.drewN nq = w4 at *
              obtain ⟨xs, r1, r2, r3, r4⟩ := HSo5.out
              have R1 := Lib.hid r1
              have R2 := Lib.hid r2
              have R3 := Lib.hid r3
              have R4 := Lib.hid r4
              have HPb := Lib.hid (HPB.out w4 r2)
              clear r1 r2 r3 r4 HSo4 HSo5 hq
              go_wp2_with (first
                | (at_builtin; refine codec.wpList_append_bytes rfl (.tmp 59) (.tmp 60) rfl w4.heap.size _ [] rfl (World.ownsRow_made w4 #[] 0 (Nat.le_refl _) (Nat.zero_le _) rfl) (by simp) (some ⟨b, o, none⟩) m 0 (payOf l k) rfl (HPb.out.alloc _) (fun e => by cases e) (by simp; omega) ?_; intro v5 w5 ho hg hnn _; have HX5 := Lib.hid (copy_rec R1.out R2.out HPb.out ho hg hnn); clear ho hg hnn; obtain ⟨g5, cap5, rfl, hX5⟩ := HX5.out; have HX6 := Lib.hid hX5; clear hX5 HX5)
                | (at_builtin; refine wpList_append_rec rfl (.tmp 56) (.tmp 63) 64 71 rfl Tryz.underlying64 infoD W.heap.size u4 xs rfl HX6.out.1 HX6.out.2.2.1 (by have := R3.out; omega) ⟨⟨k, kd, payOf l k⟩, some ⟨g5, 0, none⟩, m, cap5⟩ (0, 0) w5.heap.size rfl rfl HX6.out.2.1 HX6.out.2.2.2.1 ?_; intro v6 w6 hR6 hb6; have HSo7 := Lib.hid (show Sofar W 71 l v6 e e w6 from sofar_rec hR6 (HX6.out.2.2.2.2.trans hb6) R3.out hke R4.out HSc.out HKd.out); clear hR6 hb6))
              go_roundw
              case rel => first | exact ⟨e, e, hen, by rw [← ee.out], by rw [← ee.out], HSo7.out⟩ | ((repeat apply Exists.intro); exact ⟨⟨e, e, hen, by rw [← ee.out], by rw [← ee.out], HSo7.out⟩, rfl⟩)
              case measure => (show n - ((k : Int) + 44 + (m : Int)).toNat < n - k; have := HE.out; omega)
            · have hq : (T1.toList == T2.toList) = false := by
                have h2 : (told l k).length = 32 := hBt.1
                have := str_ne (T := T1) (S := T2) (fun e => hdg (codec.strOf_inj (dig_lt _) hBt.2.1 (by rw [← hT1, ← hT2]; exact e)))
                rw [ByteArray.toList_eq T2]
                exact this
              have HSc := Lib.hid (scan_bad l k tn e (by rw [HB.out.1]; omega) HR.out (by rw [← HM.out]; exact he) (by rw [HB.out.1]; exact hen) hdg)
              clear he hdg hT1 hT2 hBt
              obtain ⟨t1, t2⟩ := t12.out
              clear t12
              go_quiet (fail)
              clear W12 W44 t1 t2 c1 c2 c3 HD4
              have HSo5 := Lib.hid ((HSo4.out.below (codec.below_draws (Below.refl _ _) nq)).on (k' := e) (t' := e) (by omega) HSc.out)
              generalize w3.drewN nq = w4 at *
              clear HSo4 hq
              go_wp2_with fail
              go_roundw
              case rel => first | exact ⟨e, e, hen, by rw [← ee.out], by rw [← ee.out], HSo5.out⟩ | ((repeat apply Exists.intro); exact ⟨⟨e, e, hen, by rw [← ee.out], by rw [← ee.out], HSo5.out⟩, rfl⟩)
              case measure => (show n - ((k : Int) + 44 + (m : Int)).toNat < n - k; have := HE.out; omega)
          · go_wp2_with (go_at_call 39; refine HNH.out.mono ?_; rintro e w1 ⟨rfl, hb⟩; have HB2 := Lib.hid hb; clear hb)
            rw [show k + 44 + m - (k + 44) = m by omega]
            have HPB : Hid (∀ w', Below W.heap.size W w' → Bytes w' (some ⟨b, o + (k + 44), none⟩) m (payOf l k)) := fun w' h => pay_bytes (HB.out.below HB.out.lt h) HM.out ht' (fun _ => rfl)
            have HCp : Hid (m ≤ c - (k + 44)) := by show m ≤ _; omega
            clear hci
            generalize c - (k + 44) = cp at *
            have HSo2 := Lib.hid (HSo.out.below HB2.out)
            with_reducible refine (dig_ref w1 (some ⟨b, o + (k + 44), none⟩) m cp (payOf l k) (HPB.out w1 HSo2.out.bel) (by omega) (fun e => by cases e)).mono ?_
            rintro e w2 ⟨rfl, hb2⟩
            obtain ⟨dd, hdd⟩ : ∃ dd, dd = (vals (dig (payOf l k))).toArray := ⟨_, rfl⟩
            have HSo3 := Lib.hid (HSo2.out.below hb2)
            have HA := Lib.hid (all_vals (dig (payOf l k)))
            have HP := Lib.hid (size54 (dig (payOf l k)) (dig_length _))
            have HZ := Lib.hid (show (Array.replicate 32 (Value.int .u8 0)).size = (vals (dig (payOf l k))).toArray.size by simp [vals, dig_length])
            have HRw := Lib.hid (heap_alloc_new w2 (.cells (Array.replicate 32 (Value.int .u8 0)) 80))
            rw [← hdd] at HA HP HZ ⊢
            have HDd := Lib.hid hdd
            clear hb2 hdd HNH HB2 HSo2
            go_wp2_with (refine wpList_store_row rfl 80 (.tmp 11) (.tmp 45) rfl w2.heap.size dd rfl rfl 80 _ HRw.out HP.out HZ.out HA.out ?_; rw [World.setRow_alloc_new]; obtain ⟨D, hD⟩ : ∃ D, D = w2.heap.size := ⟨_, rfl⟩; obtain ⟨w3, hw3⟩ : ∃ w3, w3 = w2.alloc (.cells dd 80) := ⟨_, rfl⟩; rw [← hw3, ← hD]; have HSo4 := Lib.hid (show Sofar W 71 l u4 k tn w3 by rw [hw3]; exact HSo3.out.below ((Below.refl _ _).alloc (Nat.le_refl _) _)); have HD4 := Lib.hid (show Bytes w3 (some ⟨D, 0, none⟩) 32 (dig (payOf l k)) by rw [hw3, HDd.out]; exact lit_at w2 _ (dig_lt _) _ _ hD (dig_length _)); clear hD hw3 HRw HA HP HZ HSo3 HDd)
            obtain ⟨T1, hT1⟩ : ∃ T1, T1 = strOf (dig (payOf l k)) := ⟨_, rfl⟩
            obtain ⟨T2, hT2⟩ : ∃ T2, T2 = strOf (told l k) := ⟨_, rfl⟩
            have c1 : ∀ q, (convert 22 9 (.slice (some ⟨D, 0, none⟩) 32 32)).run Tryz.prog (w3.drewN q) = .ok (.string T1) (w3.drewN q) := fun q => by rw [hT1]; exact (HD4.out.drewN q).text 32
            have hBt : Bytes w3 (some ⟨b, o + (k + 12), none⟩) 32 (told l k) := by
              have := bytes_take (bytes_drop (HB.out.below HB.out.lt HSo4.out.bel) (k + 12) (by omega)) 32 (by omega)
              rw [← List.drop_drop] at this
              exact this
            have c2 : ∀ q, (convert 22 9 (.slice (some ⟨b, o + (k + 12), none⟩) (k + 44 - (k + 12)) (c - (k + 12)))).run Tryz.prog (w3.drewN q) = .ok (.string T2) (w3.drewN q) := fun q => by rw [hT2, show k + 44 - (k + 12) = 32 by omega]; exact (hBt.drewN q).text _
            have c3 : ∀ q, (convert 22 9 (.slice (some ⟨b, o + (k + 12), none⟩) 32 (c - (k + 12)))).run Tryz.prog (w3.drewN q) = .ok (.string T2) (w3.drewN q) := fun q => by rw [hT2]; exact (hBt.drewN q).text _
            have hcn : ¬ c = k + 12 := by omega
            have hsl := fun w g => slice54 w g
            obtain ⟨e, he⟩ : ∃ e, e = k + 44 + m := ⟨_, rfl⟩
            have HE := Lib.hid he
            have hen : e ≤ n := by omega
            have hke : k < e := by omega
            have ee : Hid ((k : Int) + 44 + (m : Int) = (e : Nat)) := by show _ = _; omega
            have W12 := IntWalk.i64_in ((k : Int) + 12) (by omega)
            have W44 := IntWalk.i64_in ((k : Int) + 44) (by omega)
            have HW := Lib.hid (And.intro W12 W44)
            have t12 : Hid (((k : Int) + 12).toNat = k + 12 ∧ ((k : Int) + 44).toNat = k + 44) := ⟨by omega, by omega⟩
            have i1 : (0 : Int) ≤ (k : Int) + 12 := by omega
            have i2 : (k : Int) + 12 ≤ (k : Int) + 44 := by omega
            have i3 : (k : Int) + 44 ≤ (c : Int) := by omega
            by_cases hdg : dig (payOf l k) = told l k
            · have hq : (T1.toList == T2.toList) = true := by rw [hT1, hT2, hdg, beq_self_eq_true]
              have HSc := Lib.hid (scan_rec l k tn e (by rw [HB.out.1]; omega) HR.out (by rw [← HM.out]; exact he) (by rw [HB.out.1]; exact hen) hdg)
              clear he hdg hT1 hT2 hBt
              obtain ⟨t1, t2⟩ := t12.out
              clear t12
              go_quiet (fail)
              clear W12 W44 t1 t2 c1 c2 c3 HD4
              have HSo5 := Lib.hid (HSo4.out.below (codec.below_draws (Below.refl _ _) nq))
              generalize w3.drewN nq = w4 at *
              obtain ⟨xs, r1, r2, r3, r4⟩ := HSo5.out
              have R1 := Lib.hid r1
              have R2 := Lib.hid r2
              have R3 := Lib.hid r3
              have R4 := Lib.hid r4
              have HPb := Lib.hid (HPB.out w4 r2)
              clear r1 r2 r3 r4 HSo4 HSo5 hq
              go_wp2_with (first
                | (at_builtin; refine codec.wpList_append_bytes rfl (.tmp 59) (.tmp 60) rfl w4.heap.size _ [] rfl (World.ownsRow_made w4 #[] 0 (Nat.le_refl _) (Nat.zero_le _) rfl) (by simp) (some ⟨b, o + (k + 44), none⟩) m cp (payOf l k) rfl (HPb.out.alloc _) (fun e => by cases e) (by simp; omega) ?_; intro v5 w5 ho hg hnn _; have HX5 := Lib.hid (copy_rec R1.out R2.out HPb.out ho hg hnn); clear ho hg hnn; obtain ⟨g5, cap5, rfl, hX5⟩ := HX5.out; have HX6 := Lib.hid hX5; clear hX5 HX5)
                | (at_builtin; refine wpList_append_rec rfl (.tmp 56) (.tmp 63) 64 71 rfl Tryz.underlying64 infoD W.heap.size u4 xs rfl HX6.out.1 HX6.out.2.2.1 (by have := R3.out; omega) ⟨⟨k, kd, payOf l k⟩, some ⟨g5, 0, none⟩, m, cap5⟩ (0, 0) w5.heap.size rfl rfl HX6.out.2.1 HX6.out.2.2.2.1 ?_; intro v6 w6 hR6 hb6; have HSo7 := Lib.hid (show Sofar W 71 l v6 e e w6 from sofar_rec hR6 (HX6.out.2.2.2.2.trans hb6) R3.out hke R4.out HSc.out HKd.out); clear hR6 hb6))
              go_roundw
              case rel => first | exact ⟨e, e, hen, by rw [← ee.out], by rw [← ee.out], HSo7.out⟩ | ((repeat apply Exists.intro); exact ⟨⟨e, e, hen, by rw [← ee.out], by rw [← ee.out], HSo7.out⟩, rfl⟩)
              case measure => (show n - ((k : Int) + 44 + (m : Int)).toNat < n - k; have := HE.out; omega)
            · have hq : (T1.toList == T2.toList) = false := by
                have h2 : (told l k).length = 32 := hBt.1
                have := str_ne (T := T1) (S := T2) (fun e => hdg (codec.strOf_inj (dig_lt _) hBt.2.1 (by rw [← hT1, ← hT2]; exact e)))
                rw [ByteArray.toList_eq T2]
                exact this
              have HSc := Lib.hid (scan_bad l k tn e (by rw [HB.out.1]; omega) HR.out (by rw [← HM.out]; exact he) (by rw [HB.out.1]; exact hen) hdg)
              clear he hdg hT1 hT2 hBt
              obtain ⟨t1, t2⟩ := t12.out
              clear t12
              go_quiet (fail)
              clear W12 W44 t1 t2 c1 c2 c3 HD4
              have HSo5 := Lib.hid ((HSo4.out.below (codec.below_draws (Below.refl _ _) nq)).on (k' := e) (t' := e) (by omega) HSc.out)
              generalize w3.drewN nq = w4 at *
              clear HSo4 hq
              go_wp2_with fail
              go_roundw
              case rel => first | exact ⟨e, e, hen, by rw [← ee.out], by rw [← ee.out], HSo5.out⟩ | ((repeat apply Exists.intro); exact ⟨⟨e, e, hen, by rw [← ee.out], by rw [← ee.out], HSo5.out⟩, rfl⟩)
              case measure => (show n - ((k : Int) + 44 + (m : Int)).toNat < n - k; have := HE.out; omega)
      · rw [Bool.not_eq_true] at hr
        rw [hr] at HNH
        have HSo2 := Lib.hid (HSo.out.on (k' := k + 1) (t' := tn) (by omega) (scan_skip l k tn (by rw [HB.out.1]; omega) hr))
        clear hr
        go_wp2_with (go_at_call 39; refine HNH.out.mono ?_; rintro e w1 ⟨rfl, hb⟩; have HSo3 := Lib.hid (HSo2.out.below hb); clear hb)
        go_roundw
        case rel => first | exact ⟨k + 1, tn, by omega, by go_num, rfl, HSo3.out⟩ | ((repeat apply Exists.intro); exact ⟨⟨k + 1, tn, by omega, by go_num, rfl, HSo3.out⟩, rfl⟩)
        case measure => (show n - ((k : Int) + 1).toNat < n - k; omega)
    · obtain rfl : k = n := by omega
      have HF := Lib.hid (HSo.out.found (scan_end l k tn (by rw [HB.out.1]; omega)))
      go_wp2
      go_ret2
      exact ⟨_, tn, rfl, HF.out⟩
end Go.Proofs.YtfmdhcjniikfdaaGreatDoor.frm
/- Lists of records, compared. -/
namespace Go.Proofs.YtfmdhcjniikfdaaGreatDoor.frm
open Go.ChangeShapes Go.WideShapes Go.ChangeAt Go.RowKit
open Go.Proofs.YtfmdhcjniikfdaaGreatDoor.codec (Bytes vals vals_append vals_length vals_one OutIs More Made New bytesOf byteAt bytesOf_length bytesOf_lt Fits strOf)
set_option linter.unusedVariables false
set_option maxRecDepth 100000
set_option linter.unusedSimpArgs false

/-- A slice that reads as records. -/
def Reads (w : World) (A : Option Addr) (n : Nat) (xs : List X) : Prop := xs.length = n ∧ ∀ k, k < n → ∃ b o x, A = some ⟨b, o, none⟩ ∧ xs[k]? = some x ∧ w.cell? ⟨b, o + k * 3, none⟩ = some (.int .i64 (x.r.at_ : Nat)) ∧ w.cell? ⟨b, o + k * 3 + 1, none⟩ = some (.int .i64 (x.r.kind : Nat)) ∧ w.cell? ⟨b, o + k * 3 + 2, none⟩ = some (.slice x.A x.n x.c) ∧ Bytes w x.A x.n x.r.pay
theorem Reads.take {w : World} {A : Option Addr} {n : Nat} {xs : List X} (h : Reads w A n xs) (m : Nat) (hm : m ≤ n) : Reads w A m (xs.take m) := by
  refine ⟨by rw [List.length_take, h.1]; omega, fun k hk => ?_⟩
  obtain ⟨b, o, x, h1, h2, h3⟩ := h.2 k (by omega)
  exact ⟨b, o, x, h1, by rw [List.getElem?_take, if_pos hk]; exact h2, h3⟩
theorem Reads.drewN {w : World} {A : Option Addr} {n : Nat} {xs : List X} (h : Reads w A n xs) (q : Nat) : Reads (w.drewN q) A n xs :=
  ⟨h.1, fun k hk => by
    obtain ⟨b, o, x, h1, h2, h3, h4, h5, h6⟩ := h.2 k hk
    exact ⟨b, o, x, h1, h2, h3, h4, h5, h6.drewN q⟩⟩
theorem cellsX_at : ∀ (xs : List X) (k : Nat) (x : X), xs[k]? = some x → (cellsX xs)[k * 3]? = some (.int .i64 (x.r.at_ : Nat)) ∧ (cellsX xs)[k * 3 + 1]? = some (.int .i64 (x.r.kind : Nat)) ∧ (cellsX xs)[k * 3 + 2]? = some (.slice x.A x.n x.c)
  | [], k, x, h => by simp at h
  | y :: ys, 0, x, h => by
    simp at h
    subst h
    exact ⟨rfl, rfl, rfl⟩
  | y :: ys, k + 1, x, h => by
    have := cellsX_at ys k x (by simpa using h)
    have e : ∀ j, (cellsX (y :: ys))[(k + 1) * 3 + j]? = (cellsX ys)[k * 3 + j]? := fun j => by
      rw [show (k + 1) * 3 + j = k * 3 + j + 3 by omega]
      rfl
    exact ⟨by rw [← this.1]; exact e 0, by rw [← this.2.1]; exact e 1, by rw [← this.2.2]; exact e 2⟩
theorem Recs.reads {B : Nat} {E : TypeId} {w : World} {v : Value} {xs : List X} (h : Recs B E w v xs) : ∃ A c, v = .slice A xs.length c ∧ xs.length ≤ c ∧ Reads w A xs.length xs := by
  rcases h.1.2 with ⟨e, h0⟩ | ⟨g, cap, cur, e, hB, hg, hc, _⟩
  · exact ⟨none, 0, by rw [h0]; exact e, by omega, rfl, fun k hk => by omega⟩
  · refine ⟨_, cap, e, hc, rfl, fun k hk => ?_⟩
    have hx : xs[k]? = some xs[k] := List.getElem?_eq_getElem hk
    obtain ⟨c0, c1, c2⟩ := cellsX_at xs k _ hx
    have key : ∀ j u, (cellsX xs)[j]? = some u → w.cell? ⟨g, 0 + j, none⟩ = some u := fun j u hu => by
      have := h.1.cells (g := g) (by rw [e]; rfl) j u hu
      rw [codec.add_none] at this
      exact this
    exact ⟨g, 0, xs[k], rfl, hx, key _ _ c0, by rw [Nat.add_assoc]; exact key _ _ c1, by rw [Nat.add_assoc]; exact key _ _ c2, (h.2 _ (List.getElem_mem hk)).1⟩
theorem scanF_length (l : List Nat) : ∀ f i t, i + (scanF l f i t).1.length ≤ max i l.length := by
  intro f
  induction f with
  | zero => intro i t; rw [scanF]; simp; omega
  | succ f ih =>
    intro i t
    rw [scanF]
    by_cases hi : i < l.length
    · rw [if_pos hi]
      by_cases hr : rightB (l.drop i) = true
      · rw [if_pos hr]
        by_cases ht : l.length < i + 44 + numOf4 (l.drop i)
        · rw [if_pos ht]
          simp
          omega
        · rw [if_neg ht]
          have := ih (i + 44 + numOf4 (l.drop i)) (i + 44 + numOf4 (l.drop i))
          simp only []
          split
          · simp only [List.length_cons]
            omega
          · omega
      · rw [if_neg hr]
        have := ih (i + 1) t
        omega
    · rw [if_neg hi]
      simp
      omega
theorem scan_length (l : List Nat) : (scan l 0 0).1.length ≤ l.length := by
  have := scanF_length l (l.length - 0) 0 0
  unfold scan
  omega
end Go.Proofs.YtfmdhcjniikfdaaGreatDoor.frm
