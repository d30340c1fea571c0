/- Where the next right head stands. -/
import Derived.Test.YtbgnhjmijcpffaaDoorFraG
import Derived.Deep.RegionHeld3
import Derived.Deep.MidRow
namespace Go.Proofs.YtbgnhjmijcpffaaDoor.frm
open Go.ChangeShapes Go.WideShapes Go.ChangeAt Go.RowKit
open Go.Proofs.YtbgnhjmijcpffaaDoor.codec (Bytes vals vals_append vals_length vals_one OutIs More Made New bytesOf byteAt bytesOf_length bytesOf_lt Fits strOf)
set_option linter.unusedVariables false
set_option maxRecDepth 100000
set_option linter.unusedSimpArgs false

/-- What stands at the start of these bytes, as a head's cells. -/
def headL' (l : List Nat) : Array Value := if rightB l = true then headC (l.getD 3 0) (numOf4 l) ((l.drop 12).take 32) else zeroC
theorem rightHead_any (W : World) (b o : Nat) (n c : Nat) (l : List Nat) (hB : Bytes W (some ⟨b, o, none⟩) n l) (hc : n ≤ c) (hnm : n ≤ 50000) :
    Calls Tryd.prog 33 #[.slice (some ⟨b, o, none⟩) n c] W fun e w' => e = .returned (.tuple #[.agg (headL' l), .bool (rightB l)]) ∧ Below W.heap.size W w' := by
  unfold headL'
  by_cases h44 : n < 44
  · have hr : rightB l = false := by
      unfold rightB
      rw [decide_eq_false_iff_not]
      intro h
      have := hB.1
      omega
    rw [hr]
    exact rightHead_short W _ n c h44
  · by_cases hr : rightB l = true
    · rw [if_pos hr, hr]
      exact rightHead_good W b o n c l hB (by omega) hc hnm hr
    · rw [if_neg hr]
      rw [Bool.not_eq_true] at hr
      rw [hr]
      by_cases hm : l.take 3 = [99, 117, 98]
      · exact rightHead_bad W b o n c l hB (by omega) hc hnm hm hr
      · exact rightHead_mark W b o n c l hB (by omega) hc hnm hm
/-- The next place at which a right head stands. -/
def nx (l : List Nat) : Nat → Nat → Option Nat
  | 0, _ => none
  | f + 1, i => if rightB (l.drop i) = true then some i else nx l f (i + 1)

theorem headL_size (l : List Nat) (h : l.length ≤ 44 → rightB l = rightB l) : (headL' l).size = 34 := by
  unfold headL'
  by_cases hr : rightB l = true
  · rw [if_pos hr]
    refine headC_size _ _ _ ?_
    unfold rightB at hr
    rw [decide_eq_true_eq] at hr
    simp
    omega
  · rw [if_neg hr]
    exact headC_size 0 0 (List.replicate 32 0) (by simp)
theorem sizeL (l : List Nat) : (Tryd.prog.info? 57).map (·.size) = some (headL' l).size := by
  rw [headL_size l (fun _ => rfl)]
  kernel_rfl
theorem allL (l : List Nat) : (headL' l).all (·.oneCell') = true := by
  unfold headL'
  split
  · exact all_head _ _ _
  · exact all_head 0 0 (List.replicate 32 0)
theorem step_load_row {P : Program} {ops : Array Oper} {o : Oper} {a : Act} {w : World} {K : Act → World → Prop} {Q : Exit → Act → World → Prop} {E : Prop} (hgd : o.guard = none) (ty : TypeId) (x : Operand) (ho : o.op = .load ty x)
    (g : Nat) (hx : a.eval x = .pointer (some ⟨g, 0, none⟩)) (t : TypeId) (cs : Array Value) (fr : Nat × Nat) (d : TypeDesc) (hg : w.heap[g]? = some (.cells cs t fr))
    (hu : P.underlying ty = some d) (hd : (match d with | .struct _ | .array _ _ => true | _ => false) = true) (hi : (P.info? ty).map (·.size) = some cs.size)
    (h : K (a.put o.dst (.agg cs)) w) : if Region.wanted o (yielded ops a.tmps) = true then Oper.wp P o a w K Q else E := by
  have hw : Region.wanted o (yielded ops a.tmps) = true := by simp [Region.wanted, hgd]
  rw [if_pos hw]
  exact wp_load_row ty x ho g hx t cs fr d hg hu hd hi h
theorem step_store_row {P : Program} {ops : Array Oper} {o : Oper} {a : Act} {w : World} {K : Act → World → Prop} {Q : Exit → Act → World → Prop} {E : Prop} (hgd : o.guard = none) (ty : TypeId) (x y : Operand) (ho : o.op = .store ty x y)
    (g : Nat) (cells : Array Value) (hx : a.eval x = .pointer (some ⟨g, 0, none⟩)) (hy : a.eval y = .agg cells)
    (t : TypeId) (old : Array Value) (hg : w.heap[g]? = some (.cells old t (0, 0))) (hi : (P.info? ty).map (·.size) = some cells.size)
    (hold : old.size = cells.size) (h1 : cells.all (·.oneCell') = true)
    (h : K (a.put o.dst undef) (w.setRow g cells)) : if Region.wanted o (yielded ops a.tmps) = true then Oper.wp P o a w K Q else E := by
  have hw : Region.wanted o (yielded ops a.tmps) = true := by simp [Region.wanted, hgd]
  rw [if_pos hw]
  exact wp_store_row ty x y ho g cells hx hy t old hg hi hold h1 h
theorem range_row {w : World} {D : Nat} {cs : List Value} {t : TypeId} {fr : Nat × Nat} (h : w.heap[D]? = some (.cells cs.toArray t fr)) : w.rangeAt D 0 cs := by
  intro j v hv
  rw [Nat.zero_add, cell_of_row _ _ _ _ _ _ h]
  simpa using hv
theorem Cell.alloc {W w : World} {cs : Array Value} (h : Cell W cs w) (o : Obj) : Cell W cs (w.alloc o) := h.below ((Below.refl _ _).alloc (Nat.le_refl _) _)
theorem Cell.drew {W w : World} {cs : Array Value} (h : Cell W cs w) : Cell W cs w.drew := ⟨h.1, h.2.os, h.2.tape, h.2.output, h.2.size, h.2.block⟩

set_option maxHeartbeats 1000000 in
theorem nextHead_any (W : World) (A : Option Addr) (n c fr : Nat) (l : List Nat) (hB : Bytes W A n l) (hc : n ≤ c) (hnm : n ≤ 50000) (hf : fr ≤ n) (R : Value) (hR : R = match nx l (n - fr) fr with | some i => .tuple #[.int .i64 (i : Nat), .agg (headL' (l.drop i)), .bool true] | none => .tuple #[.int .i64 0, .agg zeroC, .bool false]) :
    Calls Tryd.prog 21 #[.slice A n c, .int .i64 fr] W fun e w' => e = .returned R ∧ Below W.heap.size W w' := by
  have HB := Lib.hid hB
  have HR := Lib.hid hR
  have HS := Lib.hid (cell_start W)
  have HP := Lib.hid (size57 0 0 (List.replicate 32 0) (by simp))
  have HA := Lib.hid (all_head 0 0 (List.replicate 32 0))
  clear hB hR
  go_enter Tryd.func21, Tryd.ntmps21
  go_wp2
  go_loopw [7] (fun i wr => ∃ k : Nat, fr ≤ k ∧ k ≤ n ∧ i = .int .i64 k ∧ Cell W zeroC wr ∧ nx l (n - fr) fr = nx l (n - k) k) (fun i _ => n - (intOf i).toNat)
  case atStart => exact ⟨fr, Nat.le_refl _, hf, rfl, HS.out, rfl⟩
  case round =>
    clear HS
    obtain ⟨k, hfk, hk, rfl, hcell, hnx⟩ := hrel
    have HC := Lib.hid hcell
    have HN := Lib.hid hnx
    clear hcell hnx
    by_cases hlt : k < n
    · obtain ⟨b, o, rfl, _⟩ := HB.out.2.2 (by omega)
      have HRH := Lib.hid (rightHead_any wr b (o + k) (n - k) (c - k) (l.drop k) (bytes_drop (HB.out.below HB.out.lt HC.out.2) k hlt) (by omega) (by omega))
      have HPk := Lib.hid (sizeL (l.drop k))
      have HAk := Lib.hid (allL (l.drop k))
      have HZk := Lib.hid (show zeroC.size = (headL' (l.drop k)).size by rw [headL_size _ (fun _ => rfl)]; rfl)
      by_cases hr : rightB (l.drop k) = true
      · rw [hr] at HRH
        have HRf : Hid (R = .tuple #[.int .i64 (k : Nat), .agg (headL' (l.drop k)), .bool true]) := by
          show R = _
          rw [HR.out, HN.out, show n - k = (n - (k + 1)) + 1 by omega, nx, if_pos hr]
        generalize headL' (l.drop k) = cs at *
        clear hr HN HR
        go_wp2_with (first
          | (go_at_call 33; refine HRH.out.mono ?_; rintro e w1 ⟨rfl, hb⟩; have HC1 := Lib.hid (HC.out.below hb); clear hb)
          | (refine wpList_store_row rfl 57 (.tmp 8) (.tmp 22) rfl w1.heap.size cs rfl rfl 57 zeroC (heap_alloc_new w1 (.cells zeroC 57)) HPk.out HZk.out HAk.out ?_; rw [World.setRow_alloc_new]; have HC2 := Lib.hid (HC1.out.alloc (.cells cs 57)); have HH2 := Lib.hid (heap_alloc_new w1 (.cells cs 57)); have HDl := Lib.hid HC1.out.lt; generalize w1.alloc (.cells cs 57) = w2 at *; generalize w1.heap.size = D at *))
        clear HRH HC1
        obtain ⟨csl, rfl⟩ : ∃ csl : List Value, csl.toArray = cs := ⟨cs.toList, by simp⟩
        have h57 := Tryd.underlying57
        have hsz : (Tryd.prog.info? 57).map (·.size) = some csl.length := by have := HPk.out; simpa using this
        have hDW : D ≠ W.heap.size := by have := HDl.out; omega
        refine wp_region_noPanic ?_
        refine wp_region_held_drew (S := fun w' => w'.heap[D]? = some (.cells csl.toArray 57 (0, 0))) (by kernel_rfl) HH2.out (fun hHeld => ?_)
        refine wpAnyH_take (i := 0) (v := .int .i64 (k : Nat)) rfl (by kernel_rfl) (by kernel_rfl) (by kernel_rfl) (fun _ _ _ h => h) (Or.inl ⟨by rfl, fun w' _ => by go_simp⟩) hHeld ?_
        refine wpAnyH_take (i := 1) (v := .agg csl.toArray) rfl (by kernel_rfl) (by kernel_rfl) (by kernel_rfl) (fun _ _ _ h => h) (yieldsIf_load_mid (by rfl) 57 (.tmp 8) rfl D 0 rfl csl _ (fun _ hw => range_row hw) h57 rfl hsz) hHeld ?_
        refine wpAnyH_take (i := 2) (v := .int .i64 (k : Nat)) rfl (by kernel_rfl) (by kernel_rfl) (by kernel_rfl) (fun _ _ _ h => h) (Or.inl ⟨by rfl, fun w' _ => by go_simp⟩) hHeld ?_
        refine wpAnyH_ready (rs := [3]) (by kernel_rfl) (by simp) ?_
        refine AllReadyH.cons rfl (fun K hK => ?_) AllReadyH.nil
        refine step_store_row rfl 57 (.tmp 5) (.tmp 26) rfl W.heap.size csl.toArray (by simp [Act.eval, Act.put]) (by simp [Act.eval, Act.put]) 57 zeroC HC2.out.drew.1 HPk.out HZk.out HAk.out ?_
        have HC3 : Hid (Cell W csl.toArray (w2.drew.setRow W.heap.size csl.toArray)) := HC2.out.drew.put
        refine hK.out _ _ ((setRow_other w2.drew W.heap.size D csl.toArray hDW).trans HH2.out) (fun hH5 => ?_)
        clear hK K hHeld
        refine wpAnyH_take (i := 4) (v := .bool true) rfl (by kernel_rfl) (by kernel_rfl) (by kernel_rfl) (fun _ _ _ h => h) (Or.inl ⟨by rfl, fun w' _ => by go_simp⟩) hH5 ?_
        refine wpAnyH_done (by kernel_rfl) ?_ _
        refine NoPanic.normal ?_
        generalize w2.drew.setRow W.heap.size csl.toArray = w3 at *
        go_wp2
        refine bodyPost_ret (results_tmp_cell_tmp Tryd.results21 _ _ W.heap.size _ _ _ _ rfl HC3.out.1 Tryd.underlying57 rfl HPk.out) rfl ⟨?_, HC3.out.2⟩
        rw [HRf.out]
        rfl
      · rw [Bool.not_eq_true] at hr
        rw [hr] at HRH
        have HN2 : Hid (nx l (n - k) k = nx l (n - (k + 1)) (k + 1)) := by
          show _ = _
          rw [show n - k = (n - (k + 1)) + 1 by omega, nx, if_neg (by rw [hr]; simp)]
        generalize headL' (l.drop k) = cs at *
        clear hr
        go_wp2_with (first
          | (go_at_call 33; refine HRH.out.mono ?_; rintro e w1 ⟨rfl, hb⟩; have HC1 := Lib.hid (HC.out.below hb); clear hb)
          | (refine wpList_store_row rfl 57 (.tmp 8) (.tmp 22) rfl w1.heap.size cs rfl rfl 57 zeroC (heap_alloc_new w1 (.cells zeroC 57)) HPk.out HZk.out HAk.out ?_; rw [World.setRow_alloc_new]; have HC2 := Lib.hid (HC1.out.alloc (.cells cs 57)); generalize w1.alloc (.cells cs 57) = w2 at *))
        go_roundw
        case rel => exact ⟨k + 1, by omega, by omega, by go_num, HC2.out, by rw [HN.out, HN2.out]⟩
        case measure => simp [intOf]; omega
    · obtain rfl : k = n := by omega
      have HRf : Hid (R = .tuple #[.int .i64 0, .agg zeroC, .bool false]) := by
        show R = _
        rw [HR.out, HN.out, Nat.sub_self, nx]
      clear HN HR HB
      go_wp2_with (first
        | (refine sumDoor.wpList_buildTo rfl 57 _ rfl zeroC (by kernel_rfl) ?_)
        | (refine wpList_store_row rfl 57 (.tmp 5) (.tmp 27) rfl W.heap.size zeroC rfl rfl 57 zeroC HC.out.1 HP.out rfl HA.out ?_; refine sumDoor.forget (fun w1 => Cell W zeroC w1) HC.out.put ?_; intro w2 hR2; have HR2 := Lib.hid hR2; clear hR2 HC))
      refine bodyPost_ret (results_tmp_cell_tmp Tryd.results21 _ _ W.heap.size _ _ _ _ rfl HR2.out.1 Tryd.underlying57 rfl HP.out) rfl ⟨?_, HR2.out.2⟩
      rw [HRf.out]
      rfl
end Go.Proofs.YtbgnhjmijcpffaaDoor.frm
