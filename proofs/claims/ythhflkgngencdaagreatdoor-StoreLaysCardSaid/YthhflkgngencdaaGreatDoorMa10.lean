/- The head of a payload, and its frame. -/
import Derived.Test.YthhflkgngencdaaGreatDoorMa09
import Derived.Lib.SmallJoins
import Derived.Deep.RegionWith
import Derived.Deep.RegionHeld3
import Derived.Deep.MidRow
namespace Go.Proofs.YthhflkgngencdaaGreatDoor.frm
open Go.ChangeShapes Go.WideShapes Go.ChangeAt Go.RowKit
open Go.Proofs.YthhflkgngencdaaGreatDoor.codec (Bytes vals vals_append vals_length vals_one OutIs More Made New bytesOf byteAt bytesOf_length bytesOf_lt Fits strOf)
set_option linter.unusedVariables false
set_option maxRecDepth 100000
set_option linter.unusedSimpArgs false

theorem size54 (l : List Nat) (h : l.length = 32) : (Tryz.prog.info? 273).map (·.size) = some (vals l).toArray.size := by
  rw [show (vals l).toArray.size = 32 by simp [vals, h]]
  kernel_rfl
theorem all_vals (l : List Nat) : (vals l).toArray.all (·.oneCell') = true := by
  rw [Array.all_eq_true]
  intro i hi
  have := vals_one l (vals l)[i] (List.getElem_mem (by simpa using hi))
  simpa using this
theorem zero54 (w : World) : (zeroValue 273).run Tryz.prog w = .ok (.agg (Array.replicate 32 (.int .u8 0))) w := by kernel_rfl
set_option maxHeartbeats 2000000 in
theorem headOf_any (W : World) (k n c : Nat) (A : Option Addr) (p : List Nat) (h1 : 1 ≤ k) (h3 : k ≤ 3) (hB : Bytes W A n p) (hn : n ≤ 30000) (hc : n ≤ c) (hL : sumDoor.Laid W) :
    Calls Tryz.prog 170 #[.int .i64 k, .slice A n c] W fun e w' => ∃ v, e = .returned v ∧ Made W (headL k p) v w' := by
  have HB := Lib.hid hB
  have HL := Lib.hid hL
  have HT := Lib.hid (two_start W)
  have HZ := Lib.hid zero54
  have hsl := fun w g => slice54 w g
  have hcv := fun (w : World) (C : Array Value) (n c g : Nat) (hg : g = w.heap.size) => Go.Joins.run_convert_bytes_const_at (P := Tryz.prog) w 40 5 C n c g hg Tryz.underlying40 Tryz.underlying5
  clear hB hL
  go_enter Tryz.func170, Tryz.ntmps170
  go_wp2_with fail
  refine (raw_two (HT.out.alloc _) (m := [99, 117, 98]) (lit_at _ [99, 117, 98] (by decide) 5 (3, 4) (by simp) rfl) (by simp) (by simp) (by simp; omega)).mono ?_
  rintro e w1 ⟨rfl, F1, hT1, -⟩
  have HT1 := Lib.hid hT1
  clear hT1 HT
  go_wp2_with fail
  refine (outN_two (v := k) (n := 1) HT1.out (by simp) (by omega) (by omega) (by omega)).mono ?_
  rintro e w2 ⟨rfl, F2, hT2, -⟩
  have HT2 := Lib.hid hT2
  clear hT2 HT1
  go_wp2_with fail
  refine (outN_two (v := n) (n := 4) HT2.out (by simp [bytesOf]) (by omega) (by omega) (by omega)).mono ?_
  rintro e w3 ⟨rfl, F3, hT3, -⟩
  have hf : [] ++ [99, 117, 98] ++ bytesOf k 1 ++ bytesOf n 4 = first k p.length := by
    have := HB.out.1
    rw [this, show bytesOf k 1 = [k] by simp [bytesOf, byteAt]; omega]
    rfl
  rw [hf] at hT3
  have HT3 := Lib.hid hT3
  clear hT3 HT2 hf
  go_wp2_with fail
  refine (end_two HT3.out 8 (first_length _ _) (by omega)).mono ?_
  rintro e w4 ⟨g, rfl, hT4, hB4, hg4⟩
  have HG := Lib.hid (show g ∉ [W.heap.size + 1] from fun h => by
    have := HT3.out.2.1.lt _ h
    omega)
  have hBw := HB.out.below HB.out.lt hT4.2.2.2.2.2
  have HD := Lib.hid (dig_prog w4 A n c p hBw (by omega) hc (HL.out.below HL.out.lt hT4.2.2.2.2.2))
  have HT4 := Lib.hid hT4
  have HB4 := Lib.hid hB4
  clear hT4 HT3 hBw hB4 hg4
  go_wp2_with fail
  refine HD.out.mono ?_
  rintro e w5 ⟨rfl, hb5⟩
  obtain ⟨d, hd⟩ : ∃ d, d = (vals (dig p)).toArray := ⟨_, rfl⟩
  have HT5 := Lib.hid (HT4.out.below hb5)
  have HB5 := Lib.hid (HB4.out.below HB4.out.lt hb5)
  have HA := Lib.hid (all_vals (dig p))
  have HP := Lib.hid (size54 (dig p) (dig_length p))
  have HS := Lib.hid (show (Array.replicate 32 (Value.int .u8 0)).size = (vals (dig p)).toArray.size by simp [vals, dig_length])
  have HR := Lib.hid (heap_alloc_new w5 (.cells (Array.replicate 32 (Value.int .u8 0)) 273))
  rw [← hd] at HA HP HS ⊢
  have HDq := Lib.hid hd
  clear hb5 HD HT4 HB4 hd
  go_wp2_with (refine wpList_store_row rfl 273 (.tmp 9) (.tmp 25) rfl w5.heap.size d rfl rfl 273 _ HR.out HP.out HS.out HA.out ?_)
  rw [World.setRow_alloc_new]
  have hlt5 := HT5.out.2.1.lt (W.heap.size + 1) (by simp)
  obtain ⟨D, hD⟩ : ∃ D, D = w5.heap.size := ⟨_, rfl⟩
  obtain ⟨w6, hw6⟩ : ∃ w6, w6 = w5.alloc (.cells d 273) := ⟨_, rfl⟩
  rw [← hw6, ← hD]
  have HT6 : Hid (Two W W.heap.size (first k p.length) F3 (W.heap.size + 1) [] [W.heap.size + 1] w6) := by rw [hw6]; exact HT5.out.alloc _
  have HB6 : Hid (Bytes w6 (some ⟨g, 0, none⟩) 8 (first k p.length)) := by rw [hw6]; exact HB5.out.alloc _
  have HD6 : Hid (Bytes w6 (some ⟨D, 0, none⟩) 32 (dig p)) := by
    rw [hw6, HDq.out]
    exact lit_at w5 (dig p) (dig_lt p) _ _ hD (dig_length p)
  have HDn : Hid (D ∉ [W.heap.size + 1]) := by
    show ¬ _
    simp
    omega
  have HDl : Hid (D < w6.heap.size) := by
    show _ < _
    rw [hw6, hD]
    simp
  have HGl : Hid (g < w6.heap.size) := HB6.out.lt _ rfl (by omega)
  clear HR HA HP HS HB5 HT5 hlt5 hD hw6 HDq
  refine (raw_two2 HT6.out HB6.out (by simp) (fun e => by cases e) (fun ad e _ => by cases e; exact HG.out)).mono ?_
  rintro e w7 ⟨rfl, F7, hT7, hg7⟩
  have HT7 := Lib.hid hT7
  have HB7 := Lib.hid (hg7.bytes HB6.out HG.out)
  have HD7 := Lib.hid (hg7.bytes HD6.out HDn.out)
  have HDn7 := Lib.hid (hg7.not HDn.out HDl.out)
  clear hT7 hg7 HT6 HB6 HD6 HDn HG HGl
  have hcl := crcOf_lt (l := first k p.length) (first_lt (by omega))
  have HC := Lib.hid (crc_prog (some ⟨g, 0, none⟩) 8 8 (first k p.length) w7 HB7.out (by unfold maxLen; omega))
  have HLF := Lib.hid (first_length k p.length)
  generalize hCe : crcOf (first k p.length) = C at *
  have HCe := Lib.hid hCe
  clear hCe
  go_wp2_with (go_at_call 187; refine HC.out.mono ?_; rintro e w8 ⟨rfl, rfl⟩)
  refine (outN_two2 (v := C) (n := 4) HT7.out (by simp [HLF.out]) (by omega) (by omega) (by omega)).mono ?_
  rintro e w9 ⟨rfl, F9, hT9, hg9⟩
  have HT9 := Lib.hid hT9
  have HD9 := Lib.hid (hg9.bytes HD7.out HDn7.out)
  have HDn9 := Lib.hid (hg9.not HDn7.out (HD7.out.lt _ rfl (by omega)))
  clear hT9 hg9 HT7 HD7 HDn7 HB7 HC
  go_wp2_with fail
  refine (raw_two2 HT9.out HD9.out (by simp [HLF.out, bytesOf]) (fun e => by cases e) (fun ad e _ => by cases e; exact HDn9.out)).mono ?_
  rintro e w10 ⟨rfl, F10, hT10, hg10⟩
  have HT10 := Lib.hid hT10
  clear hT10 hg10 HT9 HD9 HDn9
  go_wp2_with fail
  refine (end_two2 HT10.out (by simp [HLF.out, bytesOf, dig_length])).mono ?_
  rintro e w11 ⟨v, rfl, hM⟩
  have HM := Lib.hid hM
  clear hM HT10
  go_wp2_with fail
  go_ret
  refine ⟨v, rfl, ?_⟩
  have := HM.out
  rw [← HCe.out] at this
  exact this

set_option maxHeartbeats 2000000 in
/-- The frame of a payload that may be. -/
theorem frame_good (W : World) (k n c : Nat) (A : Option Addr) (p : List Nat) (h1 : 1 ≤ k) (h3 : k ≤ 3) (hB : Bytes W A n p) (hn : n ≤ 30000) (hc : n ≤ c) (hA : A = none → c = 0) (hL : sumDoor.Laid W) :
    Calls Tryz.prog 128 #[.int .i64 k, .slice A n c] W fun e w' => ∃ v, e = .returned (.tuple #[v, .int .i64 0]) ∧ Made W (frameL k p) v w' := by
  have hd : decide ((1 : Int) ≤ (k : Nat) ∧ ((k : Nat) : Int) ≤ 3) = true := by simp; omega
  have HB := Lib.hid hB
  have HL := Lib.hid hL
  have HN := Lib.hid hA
  have HO := Lib.hid (codec.fresh_new W)
  clear hB hL hA
  go_enter Tryz.func128, Tryz.ntmps128
  go_wp2_with (go_at_call 169; refine (isKind_any _ _).mono ?_; rw [hd]; rintro e w1 ⟨rfl, rfl⟩)
  have hb1 : Below W.heap.size W (W.alloc (.cells #[.pointer none, .int .i64 0, .bool false] 154)) := (Below.refl _ _).alloc (Nat.le_refl _) _
  refine (headOf_any _ k n c A p h1 h3 (HB.out.below HB.out.lt hb1) hn hc (HL.out.below HL.out.lt hb1)).mono ?_
  rintro e w2 ⟨v, rfl, hM⟩
  obtain ⟨g, rfl, hg, hb2, hBg⟩ := hM.bytes
  rw [headL_length] at hBg ⊢
  have HO2 := Lib.hid (HO.out.below hb2)
  have HB2 := Lib.hid hBg
  have HBel := Lib.hid (hb1.trans (hb2.mono hb1.size))
  have HG := Lib.hid (show g ∉ [W.heap.size] from fun h => by
    simp at h hg
    omega)
  clear hM hb1 hb2 hBg hg HO
  go_wp2_with fail
  refine (codec.raw_good w2 W.heap.size [] [W.heap.size] _ 44 44 _ HO2.out HB2.out (by simp) (fun e => by cases e) (fun ad e _ => by cases e; exact HG.out)).mono ?_
  rintro e w3 ⟨rfl, F3, hO3, ht3, hF3⟩
  have hb3 : Below W.heap.size W w3 := HBel.out.trans (ht3.toBelow W.heap.size HBel.out.size (fun i hi hF => by simp at hF; omega))
  have hF3' : ∀ k ∈ F3, W.heap.size ≤ k := fun k hk => by
    rcases hF3 k hk with h | h
    · simp at h; omega
    · exact Nat.le_trans HBel.out.size h
  have HO3 := Lib.hid hO3
  have HB3 := Lib.hid (HB.out.below HB.out.lt hb3)
  have HF3 := Lib.hid hF3'
  have HBel3 := Lib.hid hb3
  clear hO3 ht3 hF3 hF3' hb3 HO2 HB2 HG HBel
  go_wp2_with fail
  refine (codec.raw_good w3 W.heap.size ([] ++ headL k p) F3 A n c p HO3.out HB3.out (by simp [headL_length]; omega) HN.out (fun ad e h0 hF => absurd (HB.out.lt ad e h0) (by have := HF3.out _ hF; omega))).mono ?_
  rintro e w4 ⟨rfl, F4, hO4, ht4, hF4⟩
  have HO4 := Lib.hid hO4
  have HBel4 := Lib.hid (HBel3.out.trans (ht4.toBelow W.heap.size HBel3.out.size (fun i hi hF => absurd (HF3.out i hF) (by omega))))
  clear hO4 ht4 hF4 HO3 HBel3 HF3
  go_wp2_with fail
  refine (codec.end_good w4 W.heap.size ([] ++ headL k p ++ p) F4 HO4.out (by simp [headL_length, HB.out.1]; omega)).mono ?_
  rintro e w5 ⟨v, rfl, g5, hv, h5, hb5, hM5⟩
  have HM := Lib.hid (show Made W (frameL k p) v w5 from ⟨g5, hv, Nat.le_trans HBel4.out.size h5, HBel4.out.trans (hb5.mono HBel4.out.size), hM5⟩)
  clear hv h5 hb5 hM5 HO4 HBel4
  go_wp2_with fail
  go_ret2
  exact ⟨v, rfl, HM.out⟩
end Go.Proofs.YthhflkgngencdaaGreatDoor.frm
namespace Go.Proofs.YthhflkgngencdaaGreatDoor.frm
open Go.ChangeShapes Go.WideShapes Go.ChangeAt Go.RowKit
open Go.Proofs.YthhflkgngencdaaGreatDoor.codec (Bytes vals vals_append vals_length vals_one OutIs More Made New bytesOf byteAt bytesOf_length bytesOf_lt Fits strOf)
set_option linter.unusedVariables false
set_option maxRecDepth 100000
set_option linter.unusedSimpArgs false

/-- Bytes of the call's own. -/
def Mine (W : World) (v : Value) (M : List Nat) (w : World) : Prop := w.ownsRow W.heap.size 5 1 v M.length (vals M) ∧ Below W.heap.size W w
theorem Mine.below {W w w' : World} {v : Value} {M : List Nat} (h : Mine W v M w) (hb : Below w.heap.size w w') : Mine W v M w' :=
  ⟨h.1.kept (row := none) ⟨hb.os, hb.tape, hb.output, hb.size, fun i hi _ => hb.block i hi⟩ (by cases hv : v.ownBlock <;> simp), h.2.trans (hb.mono h.2.size)⟩
theorem Mine.alloc {W w : World} {v : Value} {M : List Nat} (h : Mine W v M w) (o : Obj) : Mine W v M (w.alloc o) := h.below ((Below.refl _ _).alloc (Nat.le_refl _) _)
theorem Mine.more {W w w' : World} {v v' : Value} {M M' : List Nat} (h : Mine W v M w) (ho : w'.ownsRow W.heap.size 5 1 v' M'.length (vals M')) (hg : w.grownBy w' v.ownBlock) : Mine W v' M' w' :=
  ⟨ho, h.2.trans ⟨hg.os, hg.tape, hg.output, hg.size, fun i hi => hg.block i (Nat.lt_of_lt_of_le hi h.2.size) (fun e => by have := (h.1.lt _ e.symm).1; omega)⟩⟩
theorem Mine.form {W w : World} {v : Value} {M : List Nat} (h : Mine W v M w) (N : Nat) (hN : M.length = N) (h0 : 0 < N) : ∃ g cap, v = .slice (some ⟨g, 0, none⟩) N cap ∧ N ≤ cap ∧ W.heap.size ≤ g := by
  subst hN
  rcases h.1.2 with ⟨_, h1⟩ | ⟨g, cap, cur, e, hb, _, hc, _⟩
  · omega
  · exact ⟨g, cap, e, hc, hb⟩
theorem Mine.bytes {W w : World} {g N cap : Nat} {M : List Nat} (h : Mine W (.slice (some ⟨g, 0, none⟩) N cap) M w) (hN : M.length = N) (hb : ∀ x ∈ M, x < 256) : Bytes w (some ⟨g, 0, none⟩) N M := codec.own_bytes' h.1 hN hb
end Go.Proofs.YthhflkgngencdaaGreatDoor.frm
namespace Go.Proofs.YthhflkgngencdaaGreatDoor.frm
open Go.ChangeShapes Go.WideShapes Go.ChangeAt Go.RowKit
open Go.Proofs.YthhflkgngencdaaGreatDoor.codec (Bytes vals vals_append vals_length vals_one OutIs More Made New bytesOf byteAt bytesOf_length bytesOf_lt Fits strOf)
set_option linter.unusedVariables false
set_option maxRecDepth 100000
set_option linter.unusedSimpArgs false

/-- Does a right head stand at the start of these bytes? -/
def rightB (l : List Nat) : Bool := decide (44 ≤ l.length ∧ l.take 3 = [99, 117, 98] ∧ 1 ≤ l.getD 3 0 ∧ l.getD 3 0 ≤ 3 ∧ codec.numOf ((l.drop 4).take 4) ≤ 30000 ∧ codec.numOf ((l.drop 8).take 4) = crcOf (l.take 8))
/-- The cells of a head. -/
def headC (k n : Nat) (d : List Nat) : Array Value := (Value.int .i64 (k : Nat) :: Value.int .i64 (n : Nat) :: vals d).toArray
def zeroC : Array Value := headC 0 0 (List.replicate 32 0)
theorem headC_size (k n : Nat) (d : List Nat) (h : d.length = 32) : (headC k n d).size = 34 := by simp [headC, vals, h]
theorem size57 (k n : Nat) (d : List Nat) (h : d.length = 32) : (Tryz.prog.info? 278).map (·.size) = some (headC k n d).size := by
  rw [headC_size k n d h]
  kernel_rfl
theorem all_head (k n : Nat) (d : List Nat) : (headC k n d).all (·.oneCell') = true := by
  rw [Array.all_eq_true]
  intro i hi
  unfold headC at hi ⊢
  have h : ∀ u ∈ (Value.int .i64 (k : Nat) :: Value.int .i64 (n : Nat) :: vals d), u.oneCell' = true := by
    intro u hu
    simp only [List.mem_cons] at hu
    rcases hu with rfl | rfl | hu
    · rfl
    · rfl
    · exact vals_one d u hu
  exact h _ (by simp)
theorem results_cell_tmp {P : Program} {fn : Func} {p q : Tmp} {ty : TypeId} (h : fn.results = #[.cell p ty, .tmp q]) (tmps : Array Value) (w : World) (g : Nat) (t : TypeId) (cs : Array Value) (fr : Nat × Nat) (d : TypeDesc)
    (hp : tmps.getD p undef = .pointer (some ⟨g, 0, none⟩)) (hg : w.heap[g]? = some (.cells cs t fr))
    (hu : P.underlying ty = some d) (hd : (match d with | .struct _ | .array _ _ => true | _ => false) = true) (hi : (P.info? ty).map (·.size) = some cs.size) :
    (results fn tmps).run P w = .ok (.tuple #[.agg cs, tmps.getD q undef]) w := by
  have hp' : tmps[p]?.getD undef = .pointer (some ⟨g, 0, none⟩) := by simpa using hp
  simp [results, h, hp', asAddr, run_loadVar_row w g t ty cs fr d hg hu hd hi]
theorem results_tmp_cell_tmp {P : Program} {fn : Func} {r p q : Tmp} {ty : TypeId} (h : fn.results = #[.tmp r, .cell p ty, .tmp q]) (tmps : Array Value) (w : World) (g : Nat) (t : TypeId) (cs : Array Value) (fr : Nat × Nat) (d : TypeDesc)
    (hp : tmps.getD p undef = .pointer (some ⟨g, 0, none⟩)) (hg : w.heap[g]? = some (.cells cs t fr))
    (hu : P.underlying ty = some d) (hd : (match d with | .struct _ | .array _ _ => true | _ => false) = true) (hi : (P.info? ty).map (·.size) = some cs.size) :
    (results fn tmps).run P w = .ok (.tuple #[tmps.getD r undef, .agg cs, tmps.getD q undef]) w := by
  have hp' : tmps[p]?.getD undef = .pointer (some ⟨g, 0, none⟩) := by simpa using hp
  simp [results, h, hp', asAddr, run_loadVar_row w g t ty cs fr d hg hu hd hi]
/-- The result's cell, and what was. -/
def Cell (W : World) (cs : Array Value) (w : World) : Prop := w.heap[W.heap.size]? = some (.cells cs 278 (0, 0)) ∧ Below W.heap.size W w
theorem cell_start (W : World) : Cell W zeroC (W.alloc (.cells zeroC 278)) := ⟨heap_alloc_new W _, (Below.refl _ _).alloc (Nat.le_refl _) _⟩
theorem Cell.lt {W w : World} {cs : Array Value} (h : Cell W cs w) : W.heap.size < w.heap.size := (Array.getElem?_eq_some_iff.1 h.1).1
theorem Cell.below {W w w' : World} {cs : Array Value} (h : Cell W cs w) (hb : Below w.heap.size w w') : Cell W cs w' := ⟨(hb.block _ h.lt).trans h.1, h.2.trans (hb.mono h.2.size)⟩
theorem Cell.put {W w : World} {cs cs' : Array Value} (h : Cell W cs w) : Cell W cs' (w.setRow W.heap.size cs') := ⟨setRow_heap w _ _ _ _ _ h.1, sumDoor.below_setRow h.2 (Nat.le_refl _) _⟩
set_option maxHeartbeats 1000000 in
theorem rightHead_short (W : World) (A : Option Addr) (n c : Nat) (hn : n < 44) :
    Calls Tryz.prog 229 #[.slice A n c] W fun e w' => e = .returned (.tuple #[.agg zeroC, .bool false]) ∧ Below W.heap.size W w' := by
  have HS := Lib.hid (cell_start W)
  have HP := Lib.hid (size57 0 0 (List.replicate 32 0) (by simp))
  have HA := Lib.hid (all_head 0 0 (List.replicate 32 0))
  go_enter Tryz.func229, Tryz.ntmps229
  go_wp2_with (first
    | (refine sumDoor.wpList_buildTo rfl 278 _ rfl zeroC (by kernel_rfl) ?_; refine sumDoor.forget (fun w1 => Cell W zeroC w1) HS.out ?_; intro w1 hR1; have HR := Lib.hid hR1; clear hR1 HS)
    | (refine wpList_store_row rfl 278 (.tmp 2) (.tmp 18) rfl W.heap.size zeroC rfl rfl 278 zeroC HR.out.1 HP.out rfl HA.out ?_; refine sumDoor.forget (fun w1 => Cell W zeroC w1) HR.out.put ?_; intro w2 hR2; have HR2 := Lib.hid hR2; clear hR2 HR))
  exact bodyPost_ret (results_cell_tmp Tryz.results229 _ _ W.heap.size _ _ _ _ rfl HR2.out.1 Tryz.underlying278 rfl HP.out) rfl ⟨rfl, HR2.out.2⟩
theorem bytes_take {w : World} {A : Option Addr} {n : Nat} {l : List Nat} (h : Bytes w A n l) (k : Nat) (hk : k ≤ n) : Bytes w A k (l.take k) := by
  refine ⟨by rw [List.length_take, h.1]; omega, fun b hb => h.2.1 b (List.mem_of_mem_take hb), fun h0 => ?_⟩
  obtain ⟨b, o, rfl, hc⟩ := h.2.2 (by omega)
  refine ⟨b, o, rfl, fun i hi => ?_⟩
  rw [hc i (by omega)]
  simp [List.getD, hi]
theorem bytes_drop {w : World} {b o : Nat} {n : Nat} {l : List Nat} (h : Bytes w (some ⟨b, o, none⟩) n l) (k : Nat) (hk : k < n) : Bytes w (some ⟨b, o + k, none⟩) (n - k) (l.drop k) := by
  refine ⟨by rw [List.length_drop, h.1], fun x hx => h.2.1 x (List.mem_of_mem_drop hx), fun h0 => ?_⟩
  obtain ⟨b, o, e, hc⟩ := h.2.2 (by omega)
  cases e
  refine ⟨_, _, rfl, fun i hi => ?_⟩
  rw [Nat.add_assoc, hc (k + i) (by omega)]
  simp [List.getD]
theorem str_ne {T S : ByteArray} (h : T ≠ S) : (T.toList == S.data.toList) = false := by
  rw [beq_eq_false_iff_ne, ByteArray.toList_eq]
  intro e
  apply h
  obtain ⟨⟨t⟩⟩ := T
  obtain ⟨⟨u⟩⟩ := S
  simp at e
  rw [e]
set_option maxHeartbeats 1000000 in
theorem rightHead_mark (W : World) (b o : Nat) (n c : Nat) (l : List Nat) (hB : Bytes W (some ⟨b, o, none⟩) n l) (hn : 44 ≤ n) (hc : n ≤ c) (hnm : n ≤ 16000000) (hm : l.take 3 ≠ [99, 117, 98]) :
    Calls Tryz.prog 229 #[.slice (some ⟨b, o, none⟩) n c] W fun e w' => e = .returned (.tuple #[.agg zeroC, .bool false]) ∧ Below W.heap.size W w' := by
  have HS := Lib.hid (cell_start W)
  have HP := Lib.hid (size57 0 0 (List.replicate 32 0) (by simp))
  have HA := Lib.hid (all_head 0 0 (List.replicate 32 0))
  obtain ⟨T, hT⟩ : ∃ T, T = strOf (l.take 3) := ⟨_, rfl⟩
  have c1 : ∀ cs, (convert 40 9 (.slice (some ⟨b, o, none⟩) 3 c)).run Tryz.prog (W.alloc (.cells cs 278)) = .ok (.string T) (W.alloc (.cells cs 278)) := fun cs => by
    rw [hT]
    exact ((bytes_take hB 3 (by omega)).alloc _).text c
  have hne := str_ne (fun e : T = ⟨#[99, 117, 98]⟩ => hm (codec.strOf_inj (fun x hx => hB.2.1 x (List.mem_of_mem_take hx)) (by decide) (hT.symm.trans e)))
  clear hT hm hB
  go_enter Tryz.func229, Tryz.ntmps229
  go_wp2_with (first
    | (refine sumDoor.wpList_buildTo rfl 278 _ rfl zeroC (by kernel_rfl) ?_; refine sumDoor.forget (fun w1 => Cell W zeroC w1) HS.out ?_; intro w1 hR1; have HR := Lib.hid hR1; clear hR1 HS)
    | (refine wpList_store_row rfl 278 (.tmp 2) (.tmp 18) rfl W.heap.size zeroC rfl rfl 278 zeroC HR.out.1 HP.out rfl HA.out ?_; refine sumDoor.forget (fun w1 => Cell W zeroC w1) HR.out.put ?_; intro w2 hR2; have HR2 := Lib.hid hR2; clear hR2 HR))
  exact bodyPost_ret (results_cell_tmp Tryz.results229 _ _ W.heap.size _ _ _ _ rfl HR2.out.1 Tryz.underlying278 rfl HP.out) rfl ⟨rfl, HR2.out.2⟩
/-- An In over bytes that were copied, beside the result's cell. -/
def Inn (W : World) (cs : Array Value) (q : Nat) (L : List Nat) (w : World) : Prop := ∃ g o c, codec.InIs w q g o c L ∧ Cell W cs w ∧ W.heap.size < q ∧ c ≤ 41 ∧ g < w.heap.size
theorem newIn_cell {W w1 : World} {A : Option Addr} {c : Nat} {L : List Nat} (h : Cell W zeroC w1) (hB : Bytes w1 A 41 L) :
    Calls Tryz.prog 230 #[.slice A 41 c] w1 fun e w' => ∃ q, e = .returned (.pointer (some ⟨q, 0, none⟩)) ∧ Inn W zeroC q L w' :=
  (codec.newIn_any w1 A 41 c L hB (by omega)).mono fun _ w' ⟨he, hi, hb⟩ => ⟨_, he, _, _, _, hi, h.below hb, by have := h.lt; omega, Nat.le_refl _, by
    have := (Array.getElem?_eq_some_iff.1 hi.1).1
    omega⟩
theorem Cell.touch {W w w' : World} {cs : Array Value} {q : Nat} (h : Cell W cs w) (hq : W.heap.size < q) (ht : codec.Touch (fun i => i = q) w w') : Cell W cs w' :=
  ⟨(ht.2.2.2.2 _ h.lt (by omega)).trans h.1, h.2.trans (ht.toBelow W.heap.size h.2.size (fun i hi e => by omega))⟩
theorem inn_N {W w : World} {cs : Array Value} {q : Nat} {L : List Nat} (s : Nat) (h : Inn W cs q L w) (h1 : 1 ≤ s) (h7 : s ≤ 7) (hs : s ≤ L.length) :
    Calls Tryz.prog 214 #[.pointer (some ⟨q, 0, none⟩), .int .i64 s] w fun e w' => e = .returned (.int .i64 (codec.numOf (L.take s) : Nat)) ∧ Inn W cs q (L.drop s) w' := by
  obtain ⟨g, o, c, hi, hc, hq, h41, hg⟩ := h
  exact (codec.inN_good w q g o c s L hi (by omega) (by omega) (by omega) (by omega)).mono fun _ w' ⟨he, o', c', h1, h2, h3⟩ => ⟨he, g, o', c', h1, hc.touch hq h2, hq, by omega, Nat.lt_of_lt_of_le hg h2.2.2.2.1⟩
end Go.Proofs.YthhflkgngencdaaGreatDoor.frm
namespace Go.Proofs.YthhflkgngencdaaGreatDoor.frm
open Go.ChangeShapes Go.WideShapes Go.ChangeAt Go.RowKit
open Go.Proofs.YthhflkgngencdaaGreatDoor.codec (Bytes vals vals_append vals_length vals_one OutIs More Made New bytesOf byteAt bytesOf_length bytesOf_lt Fits strOf)
set_option linter.unusedVariables false
set_option maxRecDepth 100000
set_option linter.unusedSimpArgs false

/-- What the three numbers of a head are. -/
theorem head_nums (l : List Nat) (hn : 44 ≤ l.length) :
    ((l.drop 3).take 41).length = 41 ∧ codec.numOf (((l.drop 3).take 41).take 1) = l.getD 3 0 ∧ codec.numOf ((((l.drop 3).take 41).drop 1).take 4) = codec.numOf ((l.drop 4).take 4) ∧
    codec.numOf (((((l.drop 3).take 41).drop 1).drop 4).take 4) = codec.numOf ((l.drop 8).take 4) ∧ ((((((l.drop 3).take 41).drop 1).drop 4).drop 4).take 32) = (l.drop 12).take 32 := by
  refine ⟨by simp; omega, ?_, ?_, ?_, ?_⟩
  · match l, hn with
    | a :: b :: c :: d :: r, _ => simp [codec.numOf, codec.numFrom]
  · congr 1
    rw [List.drop_take, List.drop_drop, List.take_take]
    rfl
  · congr 1
    rw [List.drop_take, List.drop_take, List.drop_drop, List.drop_drop, List.take_take]
    rfl
  · rw [List.drop_take, List.drop_take, List.drop_take, List.drop_drop, List.drop_drop, List.drop_drop, List.take_take]
    rfl

theorem inn_Raw {W w : World} {cs : Array Value} {q : Nat} {L : List Nat} (h : Inn W cs q L w) (hs : 32 ≤ L.length) :
    Calls Tryz.prog 232 #[.pointer (some ⟨q, 0, none⟩), .int .i64 32] w fun e w' => ∃ g', e = .returned (.slice (some ⟨g', 0, none⟩) 32 32) ∧ Bytes w' (some ⟨g', 0, none⟩) 32 (L.take 32) ∧ Cell W cs w' ∧ ∀ D, D < w.heap.size → D ≠ q → w'.heap[D]? = w.heap[D]? := by
  obtain ⟨g, o, c, hi, hc, hq, h41, hg⟩ := h
  have hl : (L.take 32).length = 32 := by simp; omega
  refine (codec.inRaw_good w q g o c 32 L hi hg (by omega) (by omega) (by omega)).mono ?_
  rintro e w' ⟨⟨g', he, hB⟩, o', c', h1, h2, h3⟩
  rw [show (32 : Int).toNat = 32 from rfl, hl] at he hB
  exact ⟨g', he, hB, hc.touch hq h2, fun D hD hne => h2.2.2.2.2 D hD hne⟩
theorem Inn.alloc {W w : World} {cs : Array Value} {q : Nat} {L : List Nat} (h : Inn W cs q L w) (ob : Obj) : Inn W cs q L (w.alloc ob) := by
  obtain ⟨g, o, c, hi, hc, hq, h41, hg⟩ := h
  exact ⟨g, o, c, hi.alloc hg ob, hc.below ((Below.refl _ _).alloc (Nat.le_refl _) _), hq, h41, by simp; omega⟩
theorem Inn.drew {W w : World} {cs : Array Value} {q : Nat} {L : List Nat} (h : Inn W cs q L w) : Inn W cs q L w.drew := by
  obtain ⟨g, o, c, hi, hc, hq, h41, hg⟩ := h
  exact ⟨g, o, c, hi.kept rfl rfl, ⟨hc.1, hc.2.os, hc.2.tape, hc.2.output, hc.2.size, hc.2.block⟩, hq, h41, hg⟩
theorem Inn.q_lt {W w : World} {cs : Array Value} {q : Nat} {L : List Nat} (h : Inn W cs q L w) : q < w.heap.size ∧ W.heap.size < w.heap.size := by
  obtain ⟨g, o, c, hi, hc, hq, h41, hg⟩ := h
  exact ⟨hi.facts.2.2.2, hc.lt⟩
theorem splice_head (k m : Nat) (d : List Nat) (hd : d.length = 32) : (splice (Value.int .i64 (k : Nat) :: Value.int .i64 (m : Nat) :: vals (List.replicate 32 0)) 2 (vals d)).toArray = headC k m d := by
  unfold headC splice
  simp [vals, hd]
theorem slice54_at (w : World) (g o : Nat) : (Instr.sliceAt 273 (Value.pointer (some ⟨g, o, none⟩)) none none none).run Tryz.prog w = .ok (.slice (some ⟨g, o, none⟩) 32 32) w := by kernel_rfl

set_option maxHeartbeats 1000000 in
theorem rightHead_bad (W : World) (b o : Nat) (n c : Nat) (l : List Nat) (hB : Bytes W (some ⟨b, o, none⟩) n l) (hn : 44 ≤ n) (hc : n ≤ c) (hnm : n ≤ 16000000) (hm : l.take 3 = [99, 117, 98]) (hbad : rightB l = false) :
    Calls Tryz.prog 229 #[.slice (some ⟨b, o, none⟩) n c] W fun e w' => e = .returned (.tuple #[.agg zeroC, .bool false]) ∧ Below W.heap.size W w' := by
  have hlen := hB.1
  obtain ⟨e0, e1, e2, e3, e4⟩ := head_nums l (by omega)
  obtain ⟨k, hk⟩ : ∃ k, k = l.getD 3 0 := ⟨_, rfl⟩
  obtain ⟨m, hm'⟩ : ∃ m, m = codec.numOf ((l.drop 4).take 4) := ⟨_, rfl⟩
  obtain ⟨x, hx⟩ : ∃ x, x = codec.numOf ((l.drop 8).take 4) := ⟨_, rfl⟩
  obtain ⟨C, hC⟩ : ∃ C, C = crcOf (l.take 8) := ⟨_, rfl⟩
  obtain ⟨L, hL⟩ : ∃ L, L = (l.drop 3).take 41 := ⟨_, rfl⟩
  rw [← hL] at e0 e1 e2 e3 e4
  rw [← hk] at e1
  rw [← hm'] at e2
  rw [← hx] at e3
  have hk256 : k < 256 := by rw [hk]; exact codec.getD_lt256 hB.2.1 3
  have hm4 : m < 4294967296 := by
    have := codec.numOf_lt ((l.drop 4).take 4) (fun b hb => hB.2.1 b (List.mem_of_mem_drop (List.mem_of_mem_take hb))) 4
    rw [List.take_take] at this
    rw [hm']
    exact this
  have hx4 : x < 4294967296 := by
    have := codec.numOf_lt ((l.drop 8).take 4) (fun b hb => hB.2.1 b (List.mem_of_mem_drop (List.mem_of_mem_take hb))) 4
    rw [List.take_take] at this
    rw [hx]
    exact this
  have hC4 : C < 4294967296 := by rw [hC]; exact crcOf_lt (fun b hb => hB.2.1 b (List.mem_of_mem_take hb))
  have hbad' : ¬ (1 ≤ k ∧ k ≤ 3 ∧ m ≤ 30000 ∧ x = C) := fun h => by
    have : rightB l = true := by
      unfold rightB
      rw [decide_eq_true_eq]
      exact ⟨by omega, hm, by omega, by omega, by omega, by omega⟩
    rw [hbad] at this
    cases this
  have HS := Lib.hid (cell_start W)
  have HP := Lib.hid (size57 0 0 (List.replicate 32 0) (by simp))
  have HA := Lib.hid (all_head 0 0 (List.replicate 32 0))
  have c1 : ∀ cs, (convert 40 9 (.slice (some ⟨b, o, none⟩) 3 c)).run Tryz.prog (W.alloc (.cells cs 278)) = .ok (.string ⟨#[99, 117, 98]⟩) (W.alloc (.cells cs 278)) := fun cs => by
    have := ((bytes_take hB 3 (by omega)).alloc (.cells cs 278)).text c
    rw [hm] at this
    exact this
  have HB1 := Lib.hid (show ∀ w1, Cell W zeroC w1 → Bytes w1 (some ⟨b, o + 3, none⟩) 41 L from fun w1 h => by
    rw [hL]
    exact bytes_take (bytes_drop (hB.below hB.lt h.2) 3 (by omega)) 41 (by omega))
  have HB2 := Lib.hid (show ∀ w1, Cell W zeroC w1 → Calls Tryz.prog 187 #[.slice (some ⟨b, o, none⟩) 8 c] w1 fun e w' => e = .returned (.int .u32 (C : Nat)) ∧ w1 = w' from fun w1 h => by
    rw [hC]
    exact crc_prog _ 8 c _ w1 (bytes_take (hB.below hB.lt h.2) 8 (by omega)) (by unfold maxLen; omega))
  have H1 := Lib.hid e1
  have H2 := Lib.hid e2
  have H3 := Lib.hid e3
  clear hbad hm hB hk hm' hx hC hL e1 e2 e3 e4
  have hcase : (¬ (1 ≤ k ∧ k ≤ 3)) ∨ ((1 ≤ k ∧ k ≤ 3) ∧ 30000 < m) ∨ ((1 ≤ k ∧ k ≤ 3) ∧ m ≤ 30000 ∧ x ≠ C) := by omega
  clear hbad'
  go_enter Tryz.func229, Tryz.ntmps229
  go_wp2_with fail
  refine (newIn_cell HS.out (HB1.out _ HS.out)).mono ?_
  rintro e w1 ⟨q, rfl, hI⟩
  have HI := Lib.hid hI
  clear hI HS HB1 c1
  go_wp2_with fail
  refine (inn_N 1 HI.out (by omega) (by omega) (by omega)).mono ?_
  rw [H1.out]
  rintro e w2 ⟨rfl, hI⟩
  have HI2 := Lib.hid hI
  clear hI HI
  go_wp2_with fail
  refine (inn_N 4 HI2.out (by omega) (by omega) (by simp; omega)).mono ?_
  rw [H2.out]
  rintro e w3 ⟨rfl, hI⟩
  have HI3 := Lib.hid hI
  clear hI HI2
  go_wp2_with fail
  refine (inn_N 4 HI3.out (by omega) (by omega) (by simp; omega)).mono ?_
  rw [H3.out]
  rintro e w4 ⟨rfl, hI⟩
  have HI4 := Lib.hid hI
  have HCell : Hid (Cell W zeroC w4) := by
    obtain ⟨_, _, _, _, h, _⟩ := HI4.out
    exact h
  clear hI HI3 H1 H2 H3 HI4
  go_wp2_with fail
  rcases hcase with hk | ⟨hk, hm⟩ | ⟨hk, hm, hne⟩
  · have hd : decide ((1 : Int) ≤ (k : Nat) ∧ ((k : Nat) : Int) ≤ 3) = false := by simp; omega
    clear hk
    go_wp2_with (first
      | (go_at_call 169; refine (isKind_any _ _).mono ?_; rw [hd]; rintro e w5 ⟨rfl, rfl⟩)
      | (refine sumDoor.wpList_buildTo rfl 278 _ rfl zeroC (by kernel_rfl) ?_)
      | (refine wpList_store_row rfl 278 (.tmp 2) (.tmp 43) rfl W.heap.size zeroC rfl rfl 278 zeroC HCell.out.1 HP.out rfl HA.out ?_; refine sumDoor.forget (fun w1 => Cell W zeroC w1) HCell.out.put ?_; intro w2 hR2; have HR2 := Lib.hid hR2; clear hR2 HCell))
    exact bodyPost_ret (results_cell_tmp Tryz.results229 _ _ W.heap.size _ _ _ _ rfl HR2.out.1 Tryz.underlying278 rfl HP.out) rfl ⟨rfl, HR2.out.2⟩
  · have hd : decide ((1 : Int) ≤ (k : Nat) ∧ ((k : Nat) : Int) ≤ 3) = true := by simp; omega
    clear hk
    go_wp2_with (first
      | (go_at_call 169; refine (isKind_any _ _).mono ?_; rw [hd]; rintro e w5 ⟨rfl, rfl⟩)
      | (refine sumDoor.wpList_buildTo rfl 278 _ rfl zeroC (by kernel_rfl) ?_)
      | (refine wpList_store_row rfl 278 (.tmp 2) (.tmp 43) rfl W.heap.size zeroC rfl rfl 278 zeroC HCell.out.1 HP.out rfl HA.out ?_; refine sumDoor.forget (fun w1 => Cell W zeroC w1) HCell.out.put ?_; intro w2 hR2; have HR2 := Lib.hid hR2; clear hR2 HCell))
    exact bodyPost_ret (results_cell_tmp Tryz.results229 _ _ W.heap.size _ _ _ _ rfl HR2.out.1 Tryz.underlying278 rfl HP.out) rfl ⟨rfl, HR2.out.2⟩
  · have hd : decide ((1 : Int) ≤ (k : Nat) ∧ ((k : Nat) : Int) ≤ 3) = true := by simp; omega
    have hne' : ((x : Int) != (C : Int)) = true := by rw [bne_iff_ne]; omega
    clear hk hne
    go_wp2_with (first
      | (go_at_call 169; refine (isKind_any _ _).mono ?_; rw [hd]; rintro e w5 ⟨rfl, rfl⟩)
      | (go_at_call 187; refine (HB2.out _ HCell.out).mono ?_; rintro e w5 ⟨rfl, rfl⟩)
      | (refine sumDoor.wpList_buildTo rfl 278 _ rfl zeroC (by kernel_rfl) ?_)
      | (refine wpList_store_row rfl 278 (.tmp 2) (.tmp 43) rfl W.heap.size zeroC rfl rfl 278 zeroC HCell.out.1 HP.out rfl HA.out ?_; refine sumDoor.forget (fun w1 => Cell W zeroC w1) HCell.out.put ?_; intro w2 hR2; have HR2 := Lib.hid hR2; clear hR2 HCell))
    exact bodyPost_ret (results_cell_tmp Tryz.results229 _ _ W.heap.size _ _ _ _ rfl HR2.out.1 Tryz.underlying278 rfl HP.out) rfl ⟨rfl, HR2.out.2⟩
def numOf4 (l : List Nat) : Nat := codec.numOf ((l.drop 4).take 4)
set_option maxHeartbeats 1000000 in
theorem rightHead_good (W : World) (b o : Nat) (n c : Nat) (l : List Nat) (hB : Bytes W (some ⟨b, o, none⟩) n l) (hn : 44 ≤ n) (hc : n ≤ c) (hnm : n ≤ 16000000) (hbad : rightB l = true) :
    Calls Tryz.prog 229 #[.slice (some ⟨b, o, none⟩) n c] W fun e w' => e = .returned (.tuple #[.agg (headC (l.getD 3 0) (numOf4 l) ((l.drop 12).take 32)), .bool true]) ∧ Below W.heap.size W w' := by
  have hlen := hB.1
  have hm : l.take 3 = [99, 117, 98] := by
    unfold rightB at hbad
    rw [decide_eq_true_eq] at hbad
    exact hbad.2.1
  obtain ⟨e0, e1, e2, e3, e4⟩ := head_nums l (by omega)
  obtain ⟨k, hk⟩ : ∃ k, k = l.getD 3 0 := ⟨_, rfl⟩
  obtain ⟨m, hm'⟩ : ∃ m, m = codec.numOf ((l.drop 4).take 4) := ⟨_, rfl⟩
  obtain ⟨x, hx⟩ : ∃ x, x = codec.numOf ((l.drop 8).take 4) := ⟨_, rfl⟩
  obtain ⟨C, hC⟩ : ∃ C, C = crcOf (l.take 8) := ⟨_, rfl⟩
  obtain ⟨L, hL⟩ : ∃ L, L = (l.drop 3).take 41 := ⟨_, rfl⟩
  rw [← hL] at e0 e1 e2 e3 e4
  rw [← hk] at e1
  rw [← hm'] at e2
  rw [← hx] at e3
  have hk256 : k < 256 := by rw [hk]; exact codec.getD_lt256 hB.2.1 3
  have hm4 : m < 4294967296 := by
    have := codec.numOf_lt ((l.drop 4).take 4) (fun b hb => hB.2.1 b (List.mem_of_mem_drop (List.mem_of_mem_take hb))) 4
    rw [List.take_take] at this
    rw [hm']
    exact this
  have hx4 : x < 4294967296 := by
    have := codec.numOf_lt ((l.drop 8).take 4) (fun b hb => hB.2.1 b (List.mem_of_mem_drop (List.mem_of_mem_take hb))) 4
    rw [List.take_take] at this
    rw [hx]
    exact this
  have hC4 : C < 4294967296 := by rw [hC]; exact crcOf_lt (fun b hb => hB.2.1 b (List.mem_of_mem_take hb))
  obtain ⟨d, hdq⟩ : ∃ d, d = (l.drop 12).take 32 := ⟨_, rfl⟩
  rw [← hdq] at e4
  have hdl : d.length = 32 := by rw [hdq]; simp; omega
  have hall : 1 ≤ k ∧ k ≤ 3 ∧ m ≤ 30000 ∧ x = C := by
    unfold rightB at hbad
    rw [decide_eq_true_eq] at hbad
    omega
  have HS := Lib.hid (cell_start W)
  have HP := Lib.hid (size57 0 0 (List.replicate 32 0) (by simp))
  have HA := Lib.hid (all_head 0 0 (List.replicate 32 0))
  have c1 : ∀ cs, (convert 40 9 (.slice (some ⟨b, o, none⟩) 3 c)).run Tryz.prog (W.alloc (.cells cs 278)) = .ok (.string ⟨#[99, 117, 98]⟩) (W.alloc (.cells cs 278)) := fun cs => by
    have := ((bytes_take hB 3 (by omega)).alloc (.cells cs 278)).text c
    rw [hm] at this
    exact this
  have HB1 := Lib.hid (show ∀ w1, Cell W zeroC w1 → Bytes w1 (some ⟨b, o + 3, none⟩) 41 L from fun w1 h => by
    rw [hL]
    exact bytes_take (bytes_drop (hB.below hB.lt h.2) 3 (by omega)) 41 (by omega))
  have HB2 := Lib.hid (show ∀ w1, Cell W zeroC w1 → Calls Tryz.prog 187 #[.slice (some ⟨b, o, none⟩) 8 c] w1 fun e w' => e = .returned (.int .u32 (C : Nat)) ∧ w1 = w' from fun w1 h => by
    rw [hC]
    exact crc_prog _ 8 c _ w1 (bytes_take (hB.below hB.lt h.2) 8 (by omega)) (by unfold maxLen; omega))
  have H1 := Lib.hid e1
  have H2 := Lib.hid e2
  have H3 := Lib.hid e3
  have H4 := Lib.hid e4
  unfold numOf4
  rw [← hk, ← hm', ← hdq]
  clear hbad hm hB hk hm' hx hC hL e1 e2 e3 e4 hdq
  obtain ⟨hk1, hk3, hm, rfl⟩ := hall
  have hd : decide ((1 : Int) ≤ (k : Nat) ∧ ((k : Nat) : Int) ≤ 3) = true := by simp; omega
  have hne' : ((x : Int) != (x : Int)) = false := by simp
  have HD := Lib.hid hdl
  have HP2 := Lib.hid (size57 k m (List.replicate 32 0) (by simp))
  have HA2 := Lib.hid (all_head k m (List.replicate 32 0))
  have HP3 := Lib.hid (size57 k m d hdl)
  have HA3 := Lib.hid (all_head k m d)
  have HZ3 := Lib.hid (show zeroC.size = (headC k m d).size by rw [headC_size k m d hdl]; rfl)
  have hsl := fun w g o => slice54_at w g o
  go_enter Tryz.func229, Tryz.ntmps229
  go_wp2_with fail
  refine (newIn_cell HS.out (HB1.out _ HS.out)).mono ?_
  rintro e w1 ⟨q, rfl, hI⟩
  have HI := Lib.hid hI
  clear hI HS HB1 c1
  go_wp2_with fail
  refine (inn_N 1 HI.out (by omega) (by omega) (by omega)).mono ?_
  rw [H1.out]
  rintro e w2 ⟨rfl, hI⟩
  have HI2 := Lib.hid hI
  clear hI HI
  go_wp2_with fail
  refine (inn_N 4 HI2.out (by omega) (by omega) (by simp; omega)).mono ?_
  rw [H2.out]
  rintro e w3 ⟨rfl, hI⟩
  have HI3 := Lib.hid hI
  clear hI HI2
  go_wp2_with fail
  refine (inn_N 4 HI3.out (by omega) (by omega) (by simp; omega)).mono ?_
  rw [H3.out]
  rintro e w4 ⟨rfl, hI⟩
  have HI4 := Lib.hid hI
  have HCell : Hid (Cell W zeroC w4) := by
    obtain ⟨_, _, _, _, h, _⟩ := HI4.out
    exact h
  clear hI HI3 H1 H2 H3
  go_wp2_with (first
    | (go_at_call 169; refine (isKind_any _ _).mono ?_; rw [hd]; rintro e w5 ⟨rfl, rfl⟩)
    | (go_at_call 187; refine (HB2.out _ HCell.out).mono ?_; rintro e w5 ⟨rfl, rfl⟩)
    | (refine sumDoor.wpList_buildTo rfl 278 _ rfl (headC k m (List.replicate 32 0)) (by kernel_rfl) ?_)
    | (refine wpList_store_row rfl 278 (.tmp 8) (.tmp 46) rfl w4.heap.size (headC k m (List.replicate 32 0)) rfl rfl 278 zeroC (heap_alloc_new w4 (.cells zeroC 278)) HP2.out rfl HA2.out ?_; rw [World.setRow_alloc_new]))
  have hql := HI4.out.q_lt
  have HI5 := Lib.hid (HI4.out.alloc (.cells (headC k m (List.replicate 32 0)) 278))
  have HR5 := Lib.hid (heap_alloc_new w4 (.cells (headC k m (List.replicate 32 0)) 278))
  have hDs : w4.heap.size < (w4.alloc (.cells (headC k m (List.replicate 32 0)) 278)).heap.size := by simp
  generalize w4.alloc (.cells (headC k m (List.replicate 32 0)) 278) = w5 at *
  generalize w4.heap.size = D at *
  have HDq := Lib.hid (show D ≠ q ∧ W.heap.size < D ∧ D < w5.heap.size from ⟨by omega, by omega, hDs⟩)
  have HRaw := Lib.hid (inn_Raw HI5.out.drew (by simp; omega))
  rw [H4.out] at HRaw
  clear hql hDs HI4 HCell HI5 H4 HB2 HP HA HP2 HA2
  go_region_law (first
    | (refine step_copy_splice rfl (.tmp 48) (.tmp 50) 40 40 rfl 5 Tryz.underlying40 (by kernel_rfl) (some ⟨D, 2, none⟩) (some ⟨g', 0, none⟩) 32 32 32 32 (by simp [Act.eval, Act.put]) (by simp [Act.eval, Act.put]) D 2 (Value.int .i64 (k : Nat) :: Value.int .i64 (m : Nat) :: vals (List.replicate 32 0)) 278 HR6.out (vals d) (by rw [vals_length, HD.out]; rfl) ?_ (by simp [vals, HD.out]) (vals_one d) D w6 (Below.refl _ _) (Nat.le_refl _) ?_; exact HSrc.out; intro w7 hR7 hb7; have HC7 := Lib.hid (show w7.heap[D]? = some (.cells (headC k m d) 278 (0, 0)) by have := hR7.out; rw [splice_head k m d HD.out] at this; exact this); have HCell7 := Lib.hid (show Cell W zeroC w7 from ⟨(hb7.block _ HDq.out.2.1).trans HC6.out.1, HC6.out.2.trans (hb7.mono (Nat.le_of_lt HDq.out.2.1))⟩); clear hR7 hb7)
    | (go_simp; go_at_call 232; refine HRaw.out.mono ?_; rintro e w6 ⟨g', rfl, hB6, hC6, hk6⟩; have HR6 := Lib.hid ((hk6 D HDq.out.2.2 HDq.out.1).trans HR5.out); have HC6 := Lib.hid hC6; have HSrc := Lib.hid (show 0 < (vals d).length → (some ⟨D, 2, none⟩ : Option Addr) = some ⟨D, 2, none⟩ ∧ ∃ ad, (some ⟨g', 0, none⟩ : Option Addr) = some ad ∧ ∀ j v, (vals d)[j]? = some v → w6.cell? (ad.add j) = some v from fun _ => ⟨rfl, hB6.cells (by omega)⟩); clear hB6 hC6 hk6))
  all_goals
    clear HDq HRaw HR5 HSrc HC6 HR6
    go_wp2_with (first
      | (refine wpList_load_row rfl 278 (.tmp 8) rfl D rfl 278 (headC k m d) _ _ HC7.out Tryz.underlying278 rfl HP3.out ?_)
      | (refine wpList_store_row rfl 278 (.tmp 2) (.tmp 52) rfl W.heap.size (headC k m d) rfl rfl 278 zeroC HCell7.out.1 HP3.out HZ3.out HA3.out ?_; refine sumDoor.forget (fun w1 => Cell W (headC k m d) w1) HCell7.out.put ?_; intro w8 hR8; have HR8 := Lib.hid hR8; clear hR8 HCell7))
    exact bodyPost_ret (results_cell_tmp Tryz.results229 _ _ W.heap.size _ _ _ _ rfl HR8.out.1 Tryz.underlying278 rfl HP3.out) rfl ⟨rfl, HR8.out.2⟩
end Go.Proofs.YthhflkgngencdaaGreatDoor.frm
namespace Go.Proofs.YthhflkgngencdaaGreatDoor.frm
open Go.ChangeShapes Go.WideShapes Go.ChangeAt Go.RowKit
open Go.Proofs.YthhflkgngencdaaGreatDoor.codec (Bytes vals vals_append vals_length vals_one OutIs More Made New bytesOf byteAt bytesOf_length bytesOf_lt Fits strOf)
set_option linter.unusedVariables false
set_option maxRecDepth 100000
set_option linter.unusedSimpArgs false

/-- What stands at the start of these bytes, as a head's cells. -/
def headL' (l : List Nat) : Array Value := if rightB l = true then headC (l.getD 3 0) (numOf4 l) ((l.drop 12).take 32) else zeroC
theorem rightHead_any (W : World) (b o : Nat) (n c : Nat) (l : List Nat) (hB : Bytes W (some ⟨b, o, none⟩) n l) (hc : n ≤ c) (hnm : n ≤ 16000000) :
    Calls Tryz.prog 229 #[.slice (some ⟨b, o, none⟩) n c] W fun e w' => e = .returned (.tuple #[.agg (headL' l), .bool (rightB l)]) ∧ Below W.heap.size W w' := by
  unfold headL'
  by_cases h44 : n < 44
  · have hr : rightB l = false := by
      unfold rightB
      rw [decide_eq_false_iff_not]
      intro h
      have := hB.1
      omega
    rw [hr]
    exact rightHead_short W _ n c h44
  · by_cases hr : rightB l = true
    · rw [if_pos hr, hr]
      exact rightHead_good W b o n c l hB (by omega) hc hnm hr
    · rw [if_neg hr]
      rw [Bool.not_eq_true] at hr
      rw [hr]
      by_cases hm : l.take 3 = [99, 117, 98]
      · exact rightHead_bad W b o n c l hB (by omega) hc hnm hm hr
      · exact rightHead_mark W b o n c l hB (by omega) hc hnm hm
/-- The next place at which a right head stands. -/
def nx (l : List Nat) : Nat → Nat → Option Nat
  | 0, _ => none
  | f + 1, i => if rightB (l.drop i) = true then some i else nx l f (i + 1)

theorem headL_size (l : List Nat) (h : l.length ≤ 44 → rightB l = rightB l) : (headL' l).size = 34 := by
  unfold headL'
  by_cases hr : rightB l = true
  · rw [if_pos hr]
    refine headC_size _ _ _ ?_
    unfold rightB at hr
    rw [decide_eq_true_eq] at hr
    simp
    omega
  · rw [if_neg hr]
    exact headC_size 0 0 (List.replicate 32 0) (by simp)
theorem sizeL (l : List Nat) : (Tryz.prog.info? 278).map (·.size) = some (headL' l).size := by
  rw [headL_size l (fun _ => rfl)]
  kernel_rfl
theorem allL (l : List Nat) : (headL' l).all (·.oneCell') = true := by
  unfold headL'
  split
  · exact all_head _ _ _
  · exact all_head 0 0 (List.replicate 32 0)
theorem step_store_row {P : Program} {ops : Array Oper} {o : Oper} {a : Act} {w : World} {K : Act → World → Prop} {Q : Exit → Act → World → Prop} {E : Prop} (hgd : o.guard = none) (ty : TypeId) (x y : Operand) (ho : o.op = .store ty x y)
    (g : Nat) (cells : Array Value) (hx : a.eval x = .pointer (some ⟨g, 0, none⟩)) (hy : a.eval y = .agg cells)
    (t : TypeId) (old : Array Value) (hg : w.heap[g]? = some (.cells old t (0, 0))) (hi : (P.info? ty).map (·.size) = some cells.size)
    (hold : old.size = cells.size) (h1 : cells.all (·.oneCell') = true)
    (h : K (a.put o.dst undef) (w.setRow g cells)) : if Region.wanted o (yielded ops a.tmps) = true then Oper.wp P o a w K Q else E := by
  have hw : Region.wanted o (yielded ops a.tmps) = true := by simp [Region.wanted, hgd]
  rw [if_pos hw]
  exact wp_store_row ty x y ho g cells hx hy t old hg hi hold h1 h
theorem range_row {w : World} {D : Nat} {cs : List Value} {t : TypeId} {fr : Nat × Nat} (h : w.heap[D]? = some (.cells cs.toArray t fr)) : w.rangeAt D 0 cs := by
  intro j v hv
  rw [Nat.zero_add, cell_of_row _ _ _ _ _ _ h]
  simpa using hv
theorem Cell.alloc {W w : World} {cs : Array Value} (h : Cell W cs w) (o : Obj) : Cell W cs (w.alloc o) := h.below ((Below.refl _ _).alloc (Nat.le_refl _) _)
theorem Cell.drew {W w : World} {cs : Array Value} (h : Cell W cs w) : Cell W cs w.drew := ⟨h.1, h.2.os, h.2.tape, h.2.output, h.2.size, h.2.block⟩

set_option maxHeartbeats 1000000 in
theorem nextHead_any (W : World) (A : Option Addr) (n c fr : Nat) (l : List Nat) (hB : Bytes W A n l) (hc : n ≤ c) (hnm : n ≤ 16000000) (hf : fr ≤ n) (R : Value) (hR : R = match nx l (n - fr) fr with | some i => .tuple #[.int .i64 (i : Nat), .agg (headL' (l.drop i)), .bool true] | none => .tuple #[.int .i64 0, .agg zeroC, .bool false]) :
    Calls Tryz.prog 203 #[.slice A n c, .int .i64 fr] W fun e w' => e = .returned R ∧ Below W.heap.size W w' := by
  have HB := Lib.hid hB
  have HR := Lib.hid hR
  have HS := Lib.hid (cell_start W)
  have HP := Lib.hid (size57 0 0 (List.replicate 32 0) (by simp))
  have HA := Lib.hid (all_head 0 0 (List.replicate 32 0))
  clear hB hR
  go_enter Tryz.func203, Tryz.ntmps203
  go_wp2
  go_loopw [7] (fun i wr => ∃ k : Nat, fr ≤ k ∧ k ≤ n ∧ i = .int .i64 k ∧ Cell W zeroC wr ∧ nx l (n - fr) fr = nx l (n - k) k) (fun i _ => n - (intOf i).toNat)
  case atStart => exact ⟨fr, Nat.le_refl _, hf, rfl, HS.out, rfl⟩
  case round =>
    clear HS
    obtain ⟨k, hfk, hk, rfl, hcell, hnx⟩ := hrel
    have HC := Lib.hid hcell
    have HN := Lib.hid hnx
    clear hcell hnx
    by_cases hlt : k < n
    · obtain ⟨b, o, rfl, _⟩ := HB.out.2.2 (by omega)
      have HRH := Lib.hid (rightHead_any wr b (o + k) (n - k) (c - k) (l.drop k) (bytes_drop (HB.out.below HB.out.lt HC.out.2) k hlt) (by omega) (by omega))
      have HPk := Lib.hid (sizeL (l.drop k))
      have HAk := Lib.hid (allL (l.drop k))
      have HZk := Lib.hid (show zeroC.size = (headL' (l.drop k)).size by rw [headL_size _ (fun _ => rfl)]; rfl)
      by_cases hr : rightB (l.drop k) = true
      · rw [hr] at HRH
        have HRf : Hid (R = .tuple #[.int .i64 (k : Nat), .agg (headL' (l.drop k)), .bool true]) := by
          show R = _
          rw [HR.out, HN.out, show n - k = (n - (k + 1)) + 1 by omega, nx, if_pos hr]
        generalize headL' (l.drop k) = cs at *
        clear hr HN HR
        go_wp2_with (first
          | (go_at_call 229; refine HRH.out.mono ?_; rintro e w1 ⟨rfl, hb⟩; have HC1 := Lib.hid (HC.out.below hb); clear hb)
          | (refine wpList_store_row rfl 278 (.tmp 8) (.tmp 22) rfl w1.heap.size cs rfl rfl 278 zeroC (heap_alloc_new w1 (.cells zeroC 278)) HPk.out HZk.out HAk.out ?_; rw [World.setRow_alloc_new]; have HC2 := Lib.hid (HC1.out.alloc (.cells cs 278)); have HH2 := Lib.hid (heap_alloc_new w1 (.cells cs 278)); have HDl := Lib.hid HC1.out.lt; generalize w1.alloc (.cells cs 278) = w2 at *; generalize w1.heap.size = D at *))
        clear HRH HC1
        obtain ⟨csl, rfl⟩ : ∃ csl : List Value, csl.toArray = cs := ⟨cs.toList, by simp⟩
        have h57 := Tryz.underlying278
        have hsz : (Tryz.prog.info? 278).map (·.size) = some csl.length := by have := HPk.out; simpa using this
        have hDW : D ≠ W.heap.size := by have := HDl.out; omega
        refine wp_region_noPanic ?_
        refine wp_region_held_drew (S := fun w' => w'.heap[D]? = some (.cells csl.toArray 278 (0, 0))) (by kernel_rfl) HH2.out (fun hHeld => ?_)
        refine wpAnyH_take (i := 0) (v := .int .i64 (k : Nat)) rfl (by kernel_rfl) (by kernel_rfl) (by kernel_rfl) (fun _ _ _ h => h) (Or.inl ⟨by rfl, fun w' _ => by go_simp⟩) hHeld ?_
        refine wpAnyH_take (i := 1) (v := .agg csl.toArray) rfl (by kernel_rfl) (by kernel_rfl) (by kernel_rfl) (fun _ _ _ h => h) (yieldsIf_load_mid (by rfl) 278 (.tmp 8) rfl D 0 rfl csl _ (fun _ hw => range_row hw) h57 rfl hsz) hHeld ?_
        refine wpAnyH_take (i := 2) (v := .int .i64 (k : Nat)) rfl (by kernel_rfl) (by kernel_rfl) (by kernel_rfl) (fun _ _ _ h => h) (Or.inl ⟨by rfl, fun w' _ => by go_simp⟩) hHeld ?_
        refine wpAnyH_ready (rs := [3]) (by kernel_rfl) (by simp) ?_
        refine AllReadyH.cons rfl (fun K hK => ?_) AllReadyH.nil
        refine step_store_row rfl 278 (.tmp 5) (.tmp 26) rfl W.heap.size csl.toArray (by simp [Act.eval, Act.put]) (by simp [Act.eval, Act.put]) 278 zeroC HC2.out.drew.1 HPk.out HZk.out HAk.out ?_
        have HC3 : Hid (Cell W csl.toArray (w2.drew.setRow W.heap.size csl.toArray)) := HC2.out.drew.put
        refine hK.out _ _ ((setRow_other w2.drew W.heap.size D csl.toArray hDW).trans HH2.out) (fun hH5 => ?_)
        clear hK K hHeld
        refine wpAnyH_take (i := 4) (v := .bool true) rfl (by kernel_rfl) (by kernel_rfl) (by kernel_rfl) (fun _ _ _ h => h) (Or.inl ⟨by rfl, fun w' _ => by go_simp⟩) hH5 ?_
        refine wpAnyH_done (by kernel_rfl) ?_ _
        refine NoPanic.normal ?_
        generalize w2.drew.setRow W.heap.size csl.toArray = w3 at *
        go_wp2
        refine bodyPost_ret (results_tmp_cell_tmp Tryz.results203 _ _ W.heap.size _ _ _ _ rfl HC3.out.1 Tryz.underlying278 rfl HPk.out) rfl ⟨?_, HC3.out.2⟩
        rw [HRf.out]
        rfl
      · rw [Bool.not_eq_true] at hr
        rw [hr] at HRH
        have HN2 : Hid (nx l (n - k) k = nx l (n - (k + 1)) (k + 1)) := by
          show _ = _
          rw [show n - k = (n - (k + 1)) + 1 by omega, nx, if_neg (by rw [hr]; simp)]
        generalize headL' (l.drop k) = cs at *
        clear hr
        go_wp2_with (first
          | (go_at_call 229; refine HRH.out.mono ?_; rintro e w1 ⟨rfl, hb⟩; have HC1 := Lib.hid (HC.out.below hb); clear hb)
          | (refine wpList_store_row rfl 278 (.tmp 8) (.tmp 22) rfl w1.heap.size cs rfl rfl 278 zeroC (heap_alloc_new w1 (.cells zeroC 278)) HPk.out HZk.out HAk.out ?_; rw [World.setRow_alloc_new]; have HC2 := Lib.hid (HC1.out.alloc (.cells cs 278)); generalize w1.alloc (.cells cs 278) = w2 at *))
        go_roundw
        case rel => exact ⟨k + 1, by omega, by omega, by go_num, HC2.out, by rw [HN.out, HN2.out]⟩
        case measure => simp [intOf]; omega
    · obtain rfl : k = n := by omega
      have HRf : Hid (R = .tuple #[.int .i64 0, .agg zeroC, .bool false]) := by
        show R = _
        rw [HR.out, HN.out, Nat.sub_self, nx]
      clear HN HR HB
      go_wp2_with (first
        | (refine sumDoor.wpList_buildTo rfl 278 _ rfl zeroC (by kernel_rfl) ?_)
        | (refine wpList_store_row rfl 278 (.tmp 5) (.tmp 27) rfl W.heap.size zeroC rfl rfl 278 zeroC HC.out.1 HP.out rfl HA.out ?_; refine sumDoor.forget (fun w1 => Cell W zeroC w1) HC.out.put ?_; intro w2 hR2; have HR2 := Lib.hid hR2; clear hR2 HC))
      refine bodyPost_ret (results_tmp_cell_tmp Tryz.results203 _ _ W.heap.size _ _ _ _ rfl HR2.out.1 Tryz.underlying278 rfl HP.out) rfl ⟨?_, HR2.out.2⟩
      rw [HRf.out]
      rfl
end Go.Proofs.YthhflkgngencdaaGreatDoor.frm
