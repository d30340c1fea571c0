/- Where a right head stands. -/
import Derived.Test.YtbgnhjmijcpffaaDoorFraC
namespace Go.Proofs.YtbgnhjmijcpffaaDoor.frm
open Go.ChangeShapes Go.WideShapes Go.ChangeAt Go.RowKit
open Go.Proofs.YtbgnhjmijcpffaaDoor.codec (Bytes vals vals_append vals_length vals_one OutIs More Made New bytesOf byteAt bytesOf_length bytesOf_lt Fits strOf)
set_option linter.unusedVariables false
set_option maxRecDepth 100000
set_option linter.unusedSimpArgs false

/-- Does a right head stand at the start of these bytes? -/
def rightB (l : List Nat) : Bool := decide (44 ≤ l.length ∧ l.take 3 = [99, 117, 98] ∧ 1 ≤ l.getD 3 0 ∧ l.getD 3 0 ≤ 3 ∧ codec.numOf ((l.drop 4).take 4) ≤ 30000 ∧ codec.numOf ((l.drop 8).take 4) = crcOf (l.take 8))
/-- The cells of a head. -/
def headC (k n : Nat) (d : List Nat) : Array Value := (Value.int .i64 (k : Nat) :: Value.int .i64 (n : Nat) :: vals d).toArray
def zeroC : Array Value := headC 0 0 (List.replicate 32 0)
theorem headC_size (k n : Nat) (d : List Nat) (h : d.length = 32) : (headC k n d).size = 34 := by simp [headC, vals, h]
theorem size57 (k n : Nat) (d : List Nat) (h : d.length = 32) : (Tryd.prog.info? 57).map (·.size) = some (headC k n d).size := by
  rw [headC_size k n d h]
  kernel_rfl
theorem all_head (k n : Nat) (d : List Nat) : (headC k n d).all (·.oneCell') = true := by
  rw [Array.all_eq_true]
  intro i hi
  unfold headC at hi ⊢
  have h : ∀ u ∈ (Value.int .i64 (k : Nat) :: Value.int .i64 (n : Nat) :: vals d), u.oneCell' = true := by
    intro u hu
    simp only [List.mem_cons] at hu
    rcases hu with rfl | rfl | hu
    · rfl
    · rfl
    · exact vals_one d u hu
  exact h _ (by simp)
theorem zero57 (w : World) : (zeroValue 57).run Tryd.prog w = .ok (.agg zeroC) w := by kernel_rfl

theorem results_cell_tmp {P : Program} {fn : Func} {p q : Tmp} {ty : TypeId} (h : fn.results = #[.cell p ty, .tmp q]) (tmps : Array Value) (w : World) (g : Nat) (t : TypeId) (cs : Array Value) (fr : Nat × Nat) (d : TypeDesc)
    (hp : tmps.getD p undef = .pointer (some ⟨g, 0, none⟩)) (hg : w.heap[g]? = some (.cells cs t fr))
    (hu : P.underlying ty = some d) (hd : (match d with | .struct _ | .array _ _ => true | _ => false) = true) (hi : (P.info? ty).map (·.size) = some cs.size) :
    (results fn tmps).run P w = .ok (.tuple #[.agg cs, tmps.getD q undef]) w := by
  have hp' : tmps[p]?.getD undef = .pointer (some ⟨g, 0, none⟩) := by simpa using hp
  simp [results, h, hp', asAddr, run_loadVar_row w g t ty cs fr d hg hu hd hi]
theorem results_tmp_cell_tmp {P : Program} {fn : Func} {r p q : Tmp} {ty : TypeId} (h : fn.results = #[.tmp r, .cell p ty, .tmp q]) (tmps : Array Value) (w : World) (g : Nat) (t : TypeId) (cs : Array Value) (fr : Nat × Nat) (d : TypeDesc)
    (hp : tmps.getD p undef = .pointer (some ⟨g, 0, none⟩)) (hg : w.heap[g]? = some (.cells cs t fr))
    (hu : P.underlying ty = some d) (hd : (match d with | .struct _ | .array _ _ => true | _ => false) = true) (hi : (P.info? ty).map (·.size) = some cs.size) :
    (results fn tmps).run P w = .ok (.tuple #[tmps.getD r undef, .agg cs, tmps.getD q undef]) w := by
  have hp' : tmps[p]?.getD undef = .pointer (some ⟨g, 0, none⟩) := by simpa using hp
  simp [results, h, hp', asAddr, run_loadVar_row w g t ty cs fr d hg hu hd hi]
/-- The result's cell, and what was. -/
def Cell (W : World) (cs : Array Value) (w : World) : Prop := w.heap[W.heap.size]? = some (.cells cs 57 (0, 0)) ∧ Below W.heap.size W w
theorem cell_start (W : World) : Cell W zeroC (W.alloc (.cells zeroC 57)) := ⟨heap_alloc_new W _, (Below.refl _ _).alloc (Nat.le_refl _) _⟩
theorem Cell.lt {W w : World} {cs : Array Value} (h : Cell W cs w) : W.heap.size < w.heap.size := (Array.getElem?_eq_some_iff.1 h.1).1
theorem Cell.below {W w w' : World} {cs : Array Value} (h : Cell W cs w) (hb : Below w.heap.size w w') : Cell W cs w' := ⟨(hb.block _ h.lt).trans h.1, h.2.trans (hb.mono h.2.size)⟩
theorem Cell.put {W w : World} {cs cs' : Array Value} (h : Cell W cs w) : Cell W cs' (w.setRow W.heap.size cs') := ⟨setRow_heap w _ _ _ _ _ h.1, sumDoor.below_setRow h.2 (Nat.le_refl _) _⟩
set_option maxHeartbeats 1000000 in
theorem rightHead_short (W : World) (A : Option Addr) (n c : Nat) (hn : n < 44) :
    Calls Tryd.prog 33 #[.slice A n c] W fun e w' => e = .returned (.tuple #[.agg zeroC, .bool false]) ∧ Below W.heap.size W w' := by
  have HS := Lib.hid (cell_start W)
  have HP := Lib.hid (size57 0 0 (List.replicate 32 0) (by simp))
  have HA := Lib.hid (all_head 0 0 (List.replicate 32 0))
  go_enter Tryd.func33, Tryd.ntmps33
  go_wp2_with (first
    | (refine sumDoor.wpList_buildTo rfl 57 _ rfl zeroC (by kernel_rfl) ?_; refine sumDoor.forget (fun w1 => Cell W zeroC w1) HS.out ?_; intro w1 hR1; have HR := Lib.hid hR1; clear hR1 HS)
    | (refine wpList_store_row rfl 57 (.tmp 2) (.tmp 18) rfl W.heap.size zeroC rfl rfl 57 zeroC HR.out.1 HP.out rfl HA.out ?_; refine sumDoor.forget (fun w1 => Cell W zeroC w1) HR.out.put ?_; intro w2 hR2; have HR2 := Lib.hid hR2; clear hR2 HR))
  exact bodyPost_ret (results_cell_tmp Tryd.results33 _ _ W.heap.size _ _ _ _ rfl HR2.out.1 Tryd.underlying57 rfl HP.out) rfl ⟨rfl, HR2.out.2⟩
theorem bytes_take {w : World} {A : Option Addr} {n : Nat} {l : List Nat} (h : Bytes w A n l) (k : Nat) (hk : k ≤ n) : Bytes w A k (l.take k) := by
  refine ⟨by rw [List.length_take, h.1]; omega, fun b hb => h.2.1 b (List.mem_of_mem_take hb), fun h0 => ?_⟩
  obtain ⟨b, o, rfl, hc⟩ := h.2.2 (by omega)
  refine ⟨b, o, rfl, fun i hi => ?_⟩
  rw [hc i (by omega)]
  simp [List.getD, hi]
theorem bytes_drop {w : World} {b o : Nat} {n : Nat} {l : List Nat} (h : Bytes w (some ⟨b, o, none⟩) n l) (k : Nat) (hk : k < n) : Bytes w (some ⟨b, o + k, none⟩) (n - k) (l.drop k) := by
  refine ⟨by rw [List.length_drop, h.1], fun x hx => h.2.1 x (List.mem_of_mem_drop hx), fun h0 => ?_⟩
  obtain ⟨b, o, e, hc⟩ := h.2.2 (by omega)
  cases e
  refine ⟨_, _, rfl, fun i hi => ?_⟩
  rw [Nat.add_assoc, hc (k + i) (by omega)]
  simp [List.getD]
theorem str_ne {T S : ByteArray} (h : T ≠ S) : (T.toList == S.data.toList) = false := by
  rw [beq_eq_false_iff_ne, ByteArray.toList_eq]
  intro e
  apply h
  obtain ⟨⟨t⟩⟩ := T
  obtain ⟨⟨u⟩⟩ := S
  simp at e
  rw [e]
set_option maxHeartbeats 1000000 in
theorem rightHead_mark (W : World) (b o : Nat) (n c : Nat) (l : List Nat) (hB : Bytes W (some ⟨b, o, none⟩) n l) (hn : 44 ≤ n) (hc : n ≤ c) (hnm : n ≤ 50000) (hm : l.take 3 ≠ [99, 117, 98]) :
    Calls Tryd.prog 33 #[.slice (some ⟨b, o, none⟩) n c] W fun e w' => e = .returned (.tuple #[.agg zeroC, .bool false]) ∧ Below W.heap.size W w' := by
  have HS := Lib.hid (cell_start W)
  have HP := Lib.hid (size57 0 0 (List.replicate 32 0) (by simp))
  have HA := Lib.hid (all_head 0 0 (List.replicate 32 0))
  obtain ⟨T, hT⟩ : ∃ T, T = strOf (l.take 3) := ⟨_, rfl⟩
  have c1 : ∀ cs, (convert 22 9 (.slice (some ⟨b, o, none⟩) 3 c)).run Tryd.prog (W.alloc (.cells cs 57)) = .ok (.string T) (W.alloc (.cells cs 57)) := fun cs => by
    rw [hT]
    exact ((bytes_take hB 3 (by omega)).alloc _).text c
  have hne := str_ne (fun e : T = ⟨#[99, 117, 98]⟩ => hm (codec.strOf_inj (fun x hx => hB.2.1 x (List.mem_of_mem_take hx)) (by decide) (hT.symm.trans e)))
  clear hT hm hB
  go_enter Tryd.func33, Tryd.ntmps33
  go_wp2_with (first
    | (refine sumDoor.wpList_buildTo rfl 57 _ rfl zeroC (by kernel_rfl) ?_; refine sumDoor.forget (fun w1 => Cell W zeroC w1) HS.out ?_; intro w1 hR1; have HR := Lib.hid hR1; clear hR1 HS)
    | (refine wpList_store_row rfl 57 (.tmp 2) (.tmp 18) rfl W.heap.size zeroC rfl rfl 57 zeroC HR.out.1 HP.out rfl HA.out ?_; refine sumDoor.forget (fun w1 => Cell W zeroC w1) HR.out.put ?_; intro w2 hR2; have HR2 := Lib.hid hR2; clear hR2 HR))
  exact bodyPost_ret (results_cell_tmp Tryd.results33 _ _ W.heap.size _ _ _ _ rfl HR2.out.1 Tryd.underlying57 rfl HP.out) rfl ⟨rfl, HR2.out.2⟩
/-- An In over bytes that were copied, beside the result's cell. -/
def Inn (W : World) (cs : Array Value) (q : Nat) (L : List Nat) (w : World) : Prop := ∃ g o c, codec.InIs w q g o c L ∧ Cell W cs w ∧ W.heap.size < q ∧ c ≤ 41 ∧ g < w.heap.size
theorem newIn_cell {W w1 : World} {A : Option Addr} {c : Nat} {L : List Nat} (h : Cell W zeroC w1) (hB : Bytes w1 A 41 L) :
    Calls Tryd.prog 40 #[.slice A 41 c] w1 fun e w' => ∃ q, e = .returned (.pointer (some ⟨q, 0, none⟩)) ∧ Inn W zeroC q L w' :=
  (codec.newIn_any w1 A 41 c L hB (by omega)).mono fun _ w' ⟨he, hi, hb⟩ => ⟨_, he, _, _, _, hi, h.below hb, by have := h.lt; omega, Nat.le_refl _, by
    have := (Array.getElem?_eq_some_iff.1 hi.1).1
    omega⟩
theorem Cell.touch {W w w' : World} {cs : Array Value} {q : Nat} (h : Cell W cs w) (hq : W.heap.size < q) (ht : codec.Touch (fun i => i = q) w w') : Cell W cs w' :=
  ⟨(ht.2.2.2.2 _ h.lt (by omega)).trans h.1, h.2.trans (ht.toBelow W.heap.size h.2.size (fun i hi e => by omega))⟩
theorem inn_N {W w : World} {cs : Array Value} {q : Nat} {L : List Nat} (s : Nat) (h : Inn W cs q L w) (h1 : 1 ≤ s) (h7 : s ≤ 7) (hs : s ≤ L.length) :
    Calls Tryd.prog 41 #[.pointer (some ⟨q, 0, none⟩), .int .i64 s] w fun e w' => e = .returned (.int .i64 (codec.numOf (L.take s) : Nat)) ∧ Inn W cs q (L.drop s) w' := by
  obtain ⟨g, o, c, hi, hc, hq, h41, hg⟩ := h
  exact (codec.inN_good w q g o c s L hi (by omega) (by omega) (by omega) (by omega)).mono fun _ w' ⟨he, o', c', h1, h2, h3⟩ => ⟨he, g, o', c', h1, hc.touch hq h2, hq, by omega, Nat.lt_of_lt_of_le hg h2.2.2.2.1⟩
end Go.Proofs.YtbgnhjmijcpffaaDoor.frm
