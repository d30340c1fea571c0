/- What the document's disk answers: the plain part, and the acts that change no bytes. -/
import Derived.Test.YtedhbcaakdfcbaaDh
import Derived.Test.YtedhbcaakdfcbaaEb
import Derived.Test.YtedhbcaakdfcbaaBb
namespace Go.Proofs.Ytedhbcaakdfcbaa.disk
open Go.ChangeShapes Go.WideShapes Go.ChangeAt Go.RowKit Go.Maps Go.WideMaps
set_option linter.unusedVariables false
set_option linter.unusedSimpArgs false

/-- The blocks of the document's disk. -/
def RFoot (p : Nat) (v : Value) (xs : List RF) (j : Nat) : Prop := j = p ∨ v.ownBlock = some j ∨ ∃ x ∈ xs, ∃ ad, x.A = some ad ∧ 0 < x.n ∧ ad.block = j
/-- A disk of the document behind an act: fuse, lost, files, answer. -/
def RDoes (w : World) (base p : Nat) (v : Value) (xs : List RF) (cap : Int) (r : Int × Bool × FL × Int) (e : Ending) (w' : World) : Prop :=
  e = .returned (.int .i64 r.2.2.2) ∧ ∃ v' xs', Ref w' base p v' cap r.1 r.2.1 xs' ∧ absF xs' = r.2.2.1 ∧ Touch (RFoot p v xs) w w' ∧ ∀ j, RFoot p v' xs' j → RFoot p v xs j ∨ w.heap.size ≤ j
theorem rd_same {w w' : World} {base p : Nat} {v : Value} {xs : List RF} {cap fuse : Int} {lost : Bool} (r : Int) (h : Ref w' base p v cap fuse lost xs) (ht : Touch (fun j => j = p) w w') : RDoes w base p v xs cap (fuse, lost, absF xs, r) (.returned (.int .i64 r)) w' :=
  ⟨rfl, v, xs, h, rfl, ht.mono fun _ _ e => .inl e, fun _ hj => .inl hj⟩
theorem rd_drop {w w1 w' : World} {base p : Nat} {v v' : Value} {xs : List RF} {cap fuse : Int} {lost : Bool} (r : Int) (hr : Rising (absF xs)) {i : Nat} (hi : i < xs.length) (ht0 : Touch (fun j => j = p) w w1) (h : Ref w' base p v' cap fuse lost (xs.take i ++ xs.drop (i + 1))) (ht : Touch (fun j => j = p) w1 w') (hn : ∀ g, v'.ownBlock = some g → w1.heap.size ≤ g) : RDoes w base p v xs cap (fuse, lost, dropL (keyF xs[i]) (absF xs), r) (.returned (.int .i64 r)) w' := by
  refine ⟨rfl, v', _, h, abs_drop hr hi, (ht0.trans (ht.mono fun _ _ e => .inl e)).mono fun _ _ e => .inl e, fun j hj => ?_⟩
  rcases hj with hj | hj | ⟨x, hx, ad, h1, h2, h3⟩
  · exact .inl (.inl hj)
  · exact .inr (Nat.le_trans ht0.2.2.2.1 (hn j hj))
  · refine .inl (.inr (.inr ⟨x, ?_, ad, h1, h2, h3⟩))
    rcases List.mem_append.1 hx with hx | hx
    · exact List.mem_of_mem_take hx
    · exact List.mem_of_mem_drop hx
/-- The document's acts on a disk that is not lost. -/
def rFuse (fuse : Int) (L : FL) (n : Int) : Int × Bool × FL × Int := if n < 0 then (fuse, false, L, 1) else (n, false, L, 0)
def rSync (fuse : Int) (L : FL) (k : Nm) : Int × Bool × FL × Int := match fmL L k with
  | none => (fuse, false, L, 7)
  | some f => if fuse = 0 then (0, true, L, 6) else ((rBurnt fuse false).1, false, insL k (allSafe f.l) L, 0)
def rRemove (fuse : Int) (L : FL) (k : Nm) : Int × Bool × FL × Int := match fmL L k with
  | none => (fuse, false, L, 7)
  | some f => if fuse = 0 then (0, true, L, 6) else ((rBurnt fuse false).1, false, dropL k L, 0)
def rLose (fuse : Int) (L : FL) (k : Nm) : Int × Bool × FL × Int := match fmL L k with
  | none => (fuse, false, L, 7)
  | some f => (fuse, false, dropL k L, 0)
set_option maxRecDepth 50000 in
set_option maxHeartbeats 4000000 in
theorem act_lost {w : World} {base p : Nat} {v : Value} {cap fuse : Int} {xs : List RF} (h : Ref w base p v cap fuse true xs) (hr : Rising (absF xs)) (s t : ByteArray) (m : Int) (B : Option Addr) (n c : Nat) (kind : Int) :
    Calls Try.prog 10 #[.pointer (some ⟨p, 0, none⟩), .int .i64 kind, .string s, .string t, .int .i64 m, .slice B n c] w (RDoes w base p v xs cap (fuse, true, absF xs, 6)) := by
  obtain ⟨d0, d1, d2, d3, hfz⟩ := h.facts
  have HR := Lib.hid h
  clear h d0 d1 d2 hfz
  go_enter Try.func10, Try.ntmps10
  go_wp2_with fail
  go_ret
  exact rd_same 6 HR.out (Touch.refl _ _)
set_option maxRecDepth 50000 in
set_option maxHeartbeats 4000000 in
theorem act_fuse {w : World} {base p : Nat} {v : Value} {cap fuse : Int} {xs : List RF} (h : Ref w base p v cap fuse false xs) (hr : Rising (absF xs)) (s t : ByteArray) (m : Int) (B : Option Addr) (n c : Nat) :
    Calls Try.prog 10 #[.pointer (some ⟨p, 0, none⟩), .int .i64 4, .string s, .string t, .int .i64 m, .slice B n c] w (RDoes w base p v xs cap (rFuse fuse (absF xs) m)) := by
  obtain ⟨d0, d1, d2, d3, hfz⟩ := h.facts
  have H27 := Lib.hid (at_any h s)
  have hz2 := hfz 2
  have HR := Lib.hid h
  clear h d0 d1 hfz
  by_cases hm : m < 0
  · rw [show rFuse fuse (absF xs) m = (fuse, false, absF xs, 1) from if_pos hm]
    go_enter Try.func10, Try.ntmps10
    go_wp2_with (go_at_call 27; refine H27.out.mono ?_; rintro e w1 ⟨rfl, rfl⟩)
    go_ret
    exact rd_same 1 HR.out (Touch.refl _ _)
  · rw [show rFuse fuse (absF xs) m = (m, false, absF xs, 0) from if_neg hm]
    go_enter Try.func10, Try.ntmps10
    go_wp2_with (go_at_call 27; refine H27.out.mono ?_; rintro e w1 ⟨rfl, rfl⟩)
    go_ret
    exact rd_same 0 (ref_own HR.out rfl) ((Touch.refl (fun j => j = p) w).setCell ⟨p, 2, none⟩ (.inr rfl) _)
set_option maxRecDepth 50000 in
set_option maxHeartbeats 4000000 in
theorem act_remove {w : World} {base p : Nat} {v : Value} {cap fuse : Int} {xs : List RF} (h : Ref w base p v cap fuse false xs) (hr : Rising (absF xs)) (s t : ByteArray) (m : Int) (B : Option Addr) (n c : Nat) (hbase : base ≤ w.heap.size) (hf0 : -1 ≤ fuse) (hf1 : fuse ≤ 9223372036854775807) :
    Calls Try.prog 10 #[.pointer (some ⟨p, 0, none⟩), .int .i64 3, .string s, .string t, .int .i64 m, .slice B n c] w (RDoes w base p v xs cap (rRemove fuse (absF xs) s.data.toList)) := by
  obtain ⟨d0, d1, d2, d3, hfz⟩ := h.facts
  have H27 := Lib.hid (at_any h s)
  have HR := Lib.hid h
  have HRis := Lib.hid hr
  rcases at_cases hr s.data.toList with ⟨h1, h2, _⟩ | ⟨i, hi, h1, h2, h3, h4⟩
  · rw [show rRemove fuse (absF xs) s.data.toList = (fuse, false, absF xs, 7) by simp [rRemove, h2]]
    rw [h1] at H27
    clear h d0 d1 d2 hfz hr h1 h2
    go_enter Try.func10, Try.ntmps10
    go_wp2_with (go_at_call 27; refine H27.out.mono ?_; rintro e w1 ⟨rfl, rfl⟩)
    go_ret
    exact rd_same 7 HR.out (Touch.refl _ _)
  · rw [h1] at H27
    have H30 := Lib.hid (burns_any h hf0 hf1)
    have H3 := Lib.hid h3
    have HI := Lib.hid hi
    have y0 : decide (((i : Nat) : Int) < 0) = false := by simp
    by_cases hz : fuse = 0
    · rw [show rRemove fuse (absF xs) s.data.toList = (0, true, absF xs, 6) by simp [rRemove, h4, hz]]
      rw [decide_eq_true hz] at H30
      have e30 : rBurnt fuse false = (0, true) := by simp [rBurnt, hz]
      rw [e30] at H30
      clear h d0 d1 d2 hfz hr h1 h2 h3 h4 e30 hz
      go_enter Try.func10, Try.ntmps10
      go_wp2_with (first | (go_at_call 27; refine H27.out.mono ?_; rintro e w1 ⟨rfl, rfl⟩) | (go_at_call 30; refine H30.out.mono ?_; rintro e w1 ⟨rfl, hq1, hq2⟩; have HQ1 := Lib.hid hq1; have HQ2 := Lib.hid hq2; clear hq1 hq2))
      go_ret
      exact rd_same 6 HQ1.out HQ2.out
    · rw [show rRemove fuse (absF xs) s.data.toList = ((rBurnt fuse false).1, false, dropL s.data.toList (absF xs), 0) by simp [rRemove, h4, hz]]
      rw [decide_eq_false hz] at H30
      have e30 : (rBurnt fuse false).2 = false := by unfold rBurnt; rw [if_neg hz]; split <;> rfl
      rw [e30] at H30
      have H1 := Lib.hid h1
      have HB := Lib.hid hbase
      clear h d0 d1 d2 hfz hr h1 h2 h3 h4 e30 hz
      go_enter Try.func10, Try.ntmps10
      go_wp2_with (first | (go_at_call 27; refine H27.out.mono ?_; rintro e w1 ⟨rfl, rfl⟩) | (go_at_call 30; refine H30.out.mono ?_; rintro e w1 ⟨rfl, hq1, hq2⟩; have HQ1 := Lib.hid hq1; have HQ2 := Lib.hid hq2; clear hq1 hq2) | (go_at_call 32; refine (drop32_any HQ1.out s i HI.out H1.out (Nat.le_trans HB.out HQ2.out.2.2.2.1)).mono ?_; rintro e w2 ⟨rfl, v2, hq1, hq2, hq3⟩; have HQ3 := Lib.hid hq1; have HQ4 := Lib.hid hq2; have HQ5 := Lib.hid hq3; clear hq1 hq2 hq3))
      go_ret
      have := rd_drop (v := v) 0 HRis.out HI.out HQ2.out HQ3.out HQ4.out HQ5.out
      rw [H3.out] at this
      exact this
set_option maxRecDepth 50000 in
set_option maxHeartbeats 4000000 in
theorem act_lose {w : World} {base p : Nat} {v : Value} {cap fuse : Int} {xs : List RF} (h : Ref w base p v cap fuse false xs) (hr : Rising (absF xs)) (s t : ByteArray) (m : Int) (B : Option Addr) (n c : Nat) (hbase : base ≤ w.heap.size) (hf0 : -1 ≤ fuse) (hf1 : fuse ≤ 9223372036854775807) :
    Calls Try.prog 10 #[.pointer (some ⟨p, 0, none⟩), .int .i64 6, .string s, .string t, .int .i64 m, .slice B n c] w (RDoes w base p v xs cap (rLose fuse (absF xs) s.data.toList)) := by
  obtain ⟨d0, d1, d2, d3, hfz⟩ := h.facts
  have H27 := Lib.hid (at_any h s)
  have HR := Lib.hid h
  have HRis := Lib.hid hr
  rcases at_cases hr s.data.toList with ⟨h1, h2, _⟩ | ⟨i, hi, h1, h2, h3, h4⟩
  · rw [show rLose fuse (absF xs) s.data.toList = (fuse, false, absF xs, 7) by simp [rLose, h2]]
    rw [h1] at H27
    clear h d0 d1 d2 hfz hr h1 h2
    go_enter Try.func10, Try.ntmps10
    go_wp2_with (go_at_call 27; refine H27.out.mono ?_; rintro e w1 ⟨rfl, rfl⟩)
    go_ret
    exact rd_same 7 HR.out (Touch.refl _ _)
  · rw [h1] at H27
    have H3 := Lib.hid h3
    have HI := Lib.hid hi
    have y0 : decide (((i : Nat) : Int) < 0) = false := by simp
    rw [show rLose fuse (absF xs) s.data.toList = (fuse, false, dropL s.data.toList (absF xs), 0) by simp [rLose, h4]]
    have H1 := Lib.hid h1
    have HB := Lib.hid hbase
    clear h d0 d1 d2 hfz hr h1 h2 h3 h4
    go_enter Try.func10, Try.ntmps10
    go_wp2_with (first | (go_at_call 27; refine H27.out.mono ?_; rintro e w1 ⟨rfl, rfl⟩) | (go_at_call 32; refine (drop32_any HR.out s i HI.out H1.out HB.out).mono ?_; rintro e w2 ⟨rfl, v2, hq1, hq2, hq3⟩; have HQ3 := Lib.hid hq1; have HQ4 := Lib.hid hq2; have HQ5 := Lib.hid hq3; clear hq1 hq2 hq3))
    go_ret
    have := rd_drop (v := v) 0 HRis.out HI.out (Touch.refl _ _) HQ3.out HQ4.out HQ5.out
    rw [H3.out] at this
    exact this
end Go.Proofs.Ytedhbcaakdfcbaa.disk
