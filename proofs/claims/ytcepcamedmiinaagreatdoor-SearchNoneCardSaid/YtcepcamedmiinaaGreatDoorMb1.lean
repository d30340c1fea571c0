/- strings.Cut at one byte, for texts of any length. -/
import Derived.Test.YtcepcamedmiinaaGreatDoorMb2
namespace Go.Proofs.YtcepcamedmiinaaGreatDoor.sq
open Go.ChangeShapes Go.WideShapes Go.ChangeAt Go.RowKit
set_option linter.unusedVariables false
set_option maxRecDepth 100000
set_option linter.unusedSimpArgs false

theorem byte_index (c : UInt8) : ∀ l : List UInt8, Lib.index l [c] = Lib.indexByte l c
  | [] => by simp [Lib.index, Lib.indexByte]
  | b :: l => by
    rw [Lib.index, Lib.indexByte, byte_index c l]
    by_cases h : b = c
    · subst h; simp [List.isPrefixOf]
    · have hp : ([c] : List UInt8).isPrefixOf (b :: l) = false := by simp [List.isPrefixOf, Ne.symm h]
      have hq : (b == c) = false := by simpa using h
      rw [hp]
      simp [hq]
set_option maxHeartbeats 1000000 in
theorem cutIn_one (w : World) (s : ByteArray) (c : UInt8) (hs : s.size ≤ 140737488355328) :
    Calls Tryz.prog 100 #[.string s, .string ⟨#[c]⟩] w fun e w' => e = .returned (.tuple #[.string ⟨(Lib.cut s.data.toList (⟨#[c]⟩ : ByteArray).data.toList).1.toArray⟩, .string ⟨(Lib.cut s.data.toList (⟨#[c]⟩ : ByteArray).data.toList).2.1.toArray⟩, .bool (Lib.cut s.data.toList (⟨#[c]⟩ : ByteArray).data.toList).2.2]) ∧ ∃ n, w' = w.drewN n := by
  have hI := Lib.hid (fun w => Tryz.stringslite_Index_one s c w)
  have hb : Lib.index s.data.toList (⟨#[c]⟩ : ByteArray).data.toList = Lib.indexByte s.data.toList c := byte_index c _
  rcases Lib.indexB_cases s (⟨#[c]⟩ : ByteArray) with hix | ⟨i, hix, hroom⟩
  · obtain ⟨e1, e2, e3⟩ := Lib.cutB_miss s (⟨#[c]⟩ : ByteArray) hix
    rw [e1, e2, e3]
    have hi2 : Lib.indexByte s.data.toList c = -1 := by rw [← hb]; exact hix
    clear e1 e2 e3 hix hb
    go_enter Tryz.func100, Tryz.ntmps100
    go_wp2_with (go_at_call 112; refine (hI.out _).mono ?_; rintro e w' ⟨rfl, hw⟩; replace hw := hw.symm; subst hw; rw [hi2])
    go_ret3
    exact ⟨by first | rfl | simp, 0, rfl⟩
  · obtain ⟨e1, e2, e3⟩ := Lib.cutB_hit s (⟨#[c]⟩ : ByteArray) i hix
    rw [e1, e2, e3]
    have hi2 : Lib.indexByte s.data.toList c = (i : Int) := by rw [← hb]; exact hix
    have hone : (⟨#[c]⟩ : ByteArray).size = 1 := rfl
    rw [hone] at hroom ⊢
    have c1 : (0 : Int) ≤ ↑i := by omega
    have c2 : (↑i : Int) ≤ ↑s.size := by omega
    have c3 : (0 : Int) ≤ ↑i + 1 := by omega
    have c4 : (↑i + 1 : Int) ≤ ↑s.size := by omega
    clear e1 e2 e3 hix hb
    go_enter Tryz.func100, Tryz.ntmps100
    go_wp2_with (go_at_call 112; refine (hI.out _).mono ?_; rintro e w' ⟨rfl, hw⟩; replace hw := hw.symm; subst hw; rw [hi2])
    go_region
    go_wp2
    go_ret3
    exact ⟨rfl, 1, rfl⟩
theorem cut_one (w : World) (s : ByteArray) (c : UInt8) (hs : s.size ≤ 140737488355328) :
    Calls Tryz.prog 76 #[.string s, .string ⟨#[c]⟩] w fun e w' => e = .returned (.tuple #[.string ⟨(Lib.cut s.data.toList (⟨#[c]⟩ : ByteArray).data.toList).1.toArray⟩, .string ⟨(Lib.cut s.data.toList (⟨#[c]⟩ : ByteArray).data.toList).2.1.toArray⟩, .bool (Lib.cut s.data.toList (⟨#[c]⟩ : ByteArray).data.toList).2.2]) ∧ ∃ n, w' = w.drewN n := by
  have hI := Lib.hid (fun w => cutIn_one w s c hs)
  go_enter Tryz.func76, Tryz.ntmps76
  go_wp2_with (go_at_call 100; refine (hI.out _).mono ?_; rintro e w' ⟨rfl, n, rfl⟩)
  go_ret3
  exact ⟨rfl, n, rfl⟩
end Go.Proofs.YtcepcamedmiinaaGreatDoor.sq
namespace Go.Proofs.YtcepcamedmiinaaGreatDoor.sq
open Go.ChangeShapes Go.WideShapes Go.ChangeAt Go.RowKit
open Go.Proofs.YtcepcamedmiinaaGreatDoor.row
set_option linter.unusedVariables false
set_option maxRecDepth 100000
set_option linter.unusedSimpArgs false

/-- A library's variable holds some number. -/
def Room (w : World) : Prop := ∃ m, w.cell? ⟨1, 0, none⟩ = some (.int .i64 m)
theorem Room.below {w w' : World} (h : Room w) (hb : Below w.heap.size w w') : Room w' := by
  obtain ⟨m, hm⟩ := h
  exact ⟨m, (hb.cell (p := ⟨1, 0, none⟩) (block_lt_of_cell hm)).trans hm⟩
/-- What a cut answers. -/
def CutAns (c : UInt8) (w : World) (s : ByteArray) (e : Ending) (w' : World) : Prop :=
  ∃ a b : ByteArray, e = .returned (.tuple #[.string a, .string b, .bool (cutC c s.data.toList).2.2]) ∧ a.data.toList = (cutC c s.data.toList).1 ∧ b.data.toList = (cutC c s.data.toList).2.1 ∧ a.size + b.size + (if (cutC c s.data.toList).2.2 then 1 else 0) = s.size ∧ Below w.heap.size w w'
theorem cut_any (w : World) (s : ByteArray) (c : UInt8) (hs : s.size ≤ 140737488355328) (hr : Room w) :
    Calls Tryz.prog 76 #[.string s, .string ⟨#[c]⟩] w fun e w' => CutAns c w s e w' := by
  refine (cut_one w s c hs).mono ?_
  rintro e w' ⟨he, n, rfl⟩
  have hc : Lib.cut s.data.toList (⟨#[c]⟩ : ByteArray).data.toList = cutC c s.data.toList := cut_eq c _
  rw [hc] at he
  refine ⟨_, _, he, rfl, rfl, ?_, codec.below_draws (Below.refl _ _) n⟩
  rw [← len_eq s, ← cutC_length c s.data.toList]
  simp [ByteArray.size]
theorem results_cell_tmp {P : Program} {fn : Func} {p q : Tmp} {ty : TypeId} (h : fn.results = #[.cell p ty, .tmp q]) (tmps : Array Value) (w : World) (g : Nat) (t : TypeId) (cs : Array Value) (fr : Nat × Nat) (d : TypeDesc)
    (hp : tmps.getD p undef = .pointer (some ⟨g, 0, none⟩)) (hg : w.heap[g]? = some (.cells cs t fr))
    (hu : P.underlying ty = some d) (hd : (match d with | .struct _ | .array _ _ => true | _ => false) = true) (hi : (P.info? ty).map (·.size) = some cs.size) :
    (results fn tmps).run P w = .ok (.tuple #[.agg cs, tmps.getD q undef]) w := by
  have hp' : tmps[p]?.getD undef = .pointer (some ⟨g, 0, none⟩) := by simpa using hp
  simp [results, h, hp', asAddr, run_loadVar_row w g t ty cs fr d hg hu hd hi]
/-- What reading a part answers. -/
def PartAns (l : List UInt8) (w : World) (e : Ending) (w' : World) : Prop :=
  ∃ f t : Nat, e = .returned (.tuple #[.agg #[.int .u32 (f : Nat), .int .u32 (t : Nat)], .bool (partL l).isSome]) ∧ (∀ x, partL l = some x → x = ⟨f, t⟩) ∧ Below w.heap.size w w'
theorem numV_form (l : List UInt8) : ∃ (f : Nat) (b : Bool), numV l = .tuple #[.int .u32 (f : Nat), .bool b] ∧ (b = true → numL l = some f) ∧ (b = false → numL l = none) := by
  refine ⟨_, _, rfl, fun h => ?_, fun h => ?_⟩
  · obtain ⟨v, hv⟩ := Option.isSome_iff_exists.1 h
    rw [hv]
    rfl
  · simpa using h
theorem partAns_of {l : List UInt8} {w w' : World} {f t : Nat} {b d : Bool} (h1 : b = true → numL (cutC 58 l).1 = some f) (h2 : b = false → numL (cutC 58 l).1 = none)
    (h3 : d = true → numL (if (cutC 58 l).2.2 then (cutC 58 l).2.1 else (cutC 58 l).1) = some t) (h4 : d = false → numL (if (cutC 58 l).2.2 then (cutC 58 l).2.1 else (cutC 58 l).1) = none) (hb : Below w.heap.size w w') :
    PartAns l w (.returned (.tuple #[.agg #[.int .u32 (f : Nat), .int .u32 (t : Nat)], .bool (b && d)])) w' := by
  have key : (partL l).isSome = (b && d) ∧ ∀ x, partL l = some x → x = ⟨f, t⟩ := by
    unfold partL
    cases b with
    | false => rw [h2 rfl]; exact ⟨rfl, fun x h => by cases h⟩
    | true =>
      rw [h1 rfl]
      cases d with
      | false => rw [h4 rfl]; exact ⟨rfl, fun x h => by cases h⟩
      | true => rw [h3 rfl]; exact ⟨rfl, fun x h => by cases h; rfl⟩
  exact ⟨f, t, by rw [key.1], key.2, hb⟩
set_option maxHeartbeats 140737488355328 in
theorem part_any (w : World) (s : ByteArray) (hs : s.size ≤ 140737488355328) (hr : Room w) :
    Calls Tryz.prog 77 #[.string s] w fun e w' => PartAns s.data.toList w e w' := by
  obtain ⟨W1, hW1⟩ : ∃ W1, W1 = w.alloc (.cells #[.int .u32 0, .int .u32 0] 96) := ⟨_, rfl⟩
  have HB := Lib.hid (show Below w.heap.size w W1 by rw [hW1]; exact (Below.refl _ _).alloc (Nat.le_refl _) _)
  have HX := Lib.hid (show W1.heap[w.heap.size]? = some (.cells #[.int .u32 0, .int .u32 0] 96 (0, 0)) by rw [hW1]; exact heap_alloc_new _ _)
  have HC := Lib.hid (cut_any W1 s 58 hs (hr.below HB.out))
  have HW1 := Lib.hid hW1
  clear hr hW1
  go_enter Tryz.func77, Tryz.ntmps77
  go_wp2_with fail
  rw [← HW1.out]
  refine HC.out.mono ?_
  rintro e w2 ⟨a, b, rfl, ha, hb, hz, hbel⟩
  have HB2 := Lib.hid (HB.out.trans (hbel.mono HB.out.size))
  have hx2 : w2.heap[w.heap.size]? = some (.cells #[.int .u32 0, .int .u32 0] 96 (0, 0)) := (hbel.block _ (Array.getElem?_eq_some_iff.1 HX.out).1).trans HX.out
  have HX2 := Lib.hid hx2
  have HA := Lib.hid (fun w => pnum_any w a (by omega))
  have HBn := Lib.hid (fun w => pnum_any w b (by omega))
  rw [ha] at HA
  rw [hb] at HBn
  have c0 := cell_at hx2 0 _ rfl
  have c1 := cell_at hx2 1 _ rfl
  have z0 := frozen_of_row _ _ 0 _ _ hx2
  have z1 := frozen_of_row _ _ 1 _ _ hx2
  obtain ⟨f, p, e1, f1, f2⟩ := numV_form (cutC 58 s.data.toList).1
  obtain ⟨t, q, e2, t1, t2⟩ := numV_form (cutC 58 s.data.toList).2.1
  have HF := Lib.hid (And.intro f1 f2)
  have HT := Lib.hid (And.intro t1 t2)
  rw [e1] at HA
  rw [e2] at HBn
  clear ha hb hz hbel hx2 e1 e2 f1 f2 t1 t2
  cases hm : (cutC 58 s.data.toList).2.2
  · have HM := Lib.hid hm
    obtain ⟨k1, k2, k3⟩ := two HX2.out rfl (.int .u32 (f : Nat)) (.int .u32 (f : Nat))
    have HK := Lib.hid k1
    have HL := Lib.hid (partAns_of (l := s.data.toList) (w := w) (b := p) (d := p) (f := f) (t := f) HF.out.1 HF.out.2 (by rw [hm]; exact HF.out.1) (by rw [hm]; exact HF.out.2) (k3 _ _ HB2.out (Nat.le_refl _)))
    clear hm k1 k2 k3
    cases p <;> (go_wp2_with (go_at_call 101; with_reducible refine Calls.mono (HA.out _) ?_; rintro e w3 ⟨rfl, hw⟩; replace hw := hw.symm; subst hw); exact bodyPost_ret (results_cell_tmp Tryz.results77 _ _ w.heap.size _ _ _ _ rfl HK.out Tryz.underlying96 rfl (spanSize _ rfl)) rfl HL.out)
  · have HM := Lib.hid hm
    obtain ⟨k1, k2, k3⟩ := two HX2.out rfl (.int .u32 (f : Nat)) (.int .u32 (t : Nat))
    have HK := Lib.hid k1
    have HL := Lib.hid (partAns_of (l := s.data.toList) (w := w) (b := p) (d := q) (f := f) (t := t) HF.out.1 HF.out.2 (by rw [hm]; exact HT.out.1) (by rw [hm]; exact HT.out.2) (k3 _ _ HB2.out (Nat.le_refl _)))
    clear hm k1 k2 k3
    cases p <;> (go_wp2_with (go_at_call 101; first | (with_reducible refine Calls.mono (HA.out _) ?_; rintro e w3 ⟨rfl, hw⟩; replace hw := hw.symm; subst hw) | (with_reducible refine Calls.mono (HBn.out _) ?_; rintro e w3 ⟨rfl, hw⟩; replace hw := hw.symm; subst hw)); exact bodyPost_ret (results_cell_tmp Tryz.results77 _ _ w.heap.size _ _ _ _ rfl HK.out Tryz.underlying96 rfl (spanSize _ rfl)) rfl HL.out)
end Go.Proofs.YtcepcamedmiinaaGreatDoor.sq
