/- MailAppends. -/
import Derived.Test.YtepngemlaiffgaaDoorMm4
namespace Go.Proofs.YtepngemlaiffgaaDoor.mal
open Go.ChangeShapes Go.WideShapes Go.ChangeAt Go.RowKit
open Go.Proofs.YtepngemlaiffgaaDoor.codec (Bytes vals)
open Go.Proofs.YtepngemlaiffgaaDoor.bod (cell_at Fit boxed named formedB fitsB)
open Go.Proofs.YtepngemlaiffgaaDoor.lg (Nt Y Rd Own Oct cM fM fl fl_at nts nts_at nts_len take_next)
set_option linter.unusedVariables false
set_option maxRecDepth 100000
set_option linter.unusedSimpArgs false

theorem own_rd {B : Nat} {E : TypeId} {w : World} {A : Option Addr} {n c : Nat} {ys : List Y} (h : Own cM 4 B E w (.slice A n c) ys) : Rd cM 4 w A n ys ∧ (A = none → c = 0) := by
  obtain ⟨A', c', e, -, hn, hr⟩ := h.rd fM
  have hl := own_len h
  simp at e
  obtain ⟨rfl, -, rfl⟩ := e
  rw [hl] at hr
  exact ⟨hr, hn⟩
theorem eqM_self (t : Nt) : eqM t t = true := eqM_yes rfl rfl rfl rfl
theorem all2_self : ∀ l : List Nt, all2 eqM l l = true
  | [] => rfl
  | t :: r => by rw [all2, eqM_self, all2_self r]; rfl
theorem sameB_self (S : ByteArray) (E X : Nat) (l : List Nt) : sameB S E X l S E X l = true := by
  unfold sameB
  rw [all2_self]
  simp
theorem rise_more {X X' : Nat} (h : X ≤ X') : ∀ (l : List Nt) (st : Nat × Bool), (l.foldl (ris X) st).2 = true → l.foldl (ris X') st = l.foldl (ris X) st
  | [], st, _ => rfl
  | n :: r, st, hl => by
    rw [List.foldl_cons, List.foldl_cons]
    have h1 : (ris X st n).2 = true := by
      cases hb : (ris X st n).2 with
      | true => rfl
      | false => rw [List.foldl_cons, rise_false r _ hb] at hl; cases hl
    have h2 : ris X' st n = ris X st n := by
      unfold ris at *
      simp only [Bool.and_eq_true, decide_eq_true_eq] at h1
      rw [h1.1, decide_eq_true (show st.1 < n.u ∧ n.u < X from h1.2), decide_eq_true (show st.1 < n.u ∧ n.u < X' by omega)]
    rw [h2]
    exact rise_more h r _ (by rw [List.foldl_cons] at hl; exact hl)
theorem rise_lt {X : Nat} : ∀ (l : List Nt) (st : Nat × Bool), st.1 < X → (l.foldl (ris X) st).2 = true → (l.foldl (ris X) st).1 < X
  | [], st, h, _ => h
  | n :: r, st, h, hl => by
    rw [List.foldl_cons] at hl ⊢
    have h1 : (ris X st n).2 = true := by
      cases hb : (ris X st n).2 with
      | true => rfl
      | false => rw [rise_false r _ hb] at hl; cases hl
    unfold ris at h1
    simp only [Bool.and_eq_true, decide_eq_true_eq] at h1
    exact rise_lt r _ (by show n.u < X; exact h1.2.2) hl
theorem right_parts {S : ByteArray} {E X : Nat} {l : List Nt} (h : right S E X l = true) : named S = true ∧ E ≠ 0 ∧ X ≠ 0 ∧ l.length ≤ 500 ∧ (rise X l).2 = true ∧ ∀ n ∈ l, fit1 n = true := by
  unfold right at h
  simp only [Bool.and_eq_true, decide_eq_true_eq, List.all_eq_true] at h
  exact h
theorem right_of {S : ByteArray} {E X : Nat} {l : List Nt} (h1 : named S = true) (h2 : E ≠ 0) (h3 : X ≠ 0) (h4 : l.length ≤ 500) (h5 : (rise X l).2 = true) (h6 : ∀ n ∈ l, fit1 n = true) : right S E X l = true := by
  unfold right
  simp only [Bool.and_eq_true, decide_eq_true_eq, List.all_eq_true]
  exact ⟨h1, h2, h3, h4, h5, h6⟩
/-- A message more: right as before. -/
theorem right_snoc {S : ByteArray} {E X : Nat} {l : List Nt} {t : Nt} (h : right S E X l = true) (hl : l.length < 500) (hu : t.u = X) (ht : fitsB t.d t.f t.o.length = true) : right S E (X + 1) (l ++ [t]) = true := by
  obtain ⟨h1, h2, h3, h4, h5, h6⟩ := right_parts h
  have hr : rise (X + 1) l = rise X l := rise_more (by omega) l _ h5
  have hlt : (rise X l).1 < X := rise_lt l _ (by show 0 < X; omega) h5
  refine right_of h1 h2 (by omega) (by simp; omega) ?_ (fun n hn => ?_)
  · rw [rise_snoc, hr]
    show ((rise X l).2 && decide _) = true
    rw [h5, decide_eq_true (by omega)]
    rfl
  · rcases List.mem_append.1 hn with hn | hn
    · exact h6 n hn
    · simp at hn
      subst hn
      unfold fit1
      rw [ht, decide_eq_true (by omega)]
      rfl
theorem formed_of {S : ByteArray} {E X : Nat} {l : List Nt} {d f : Int} (h : right S E X l = true) : formedB 2 E S X d f 0 = fitsB d f 0 := by
  obtain ⟨h1, h2, h3, -⟩ := right_parts h
  rw [bod.formed_two, h1, decide_eq_true h2, decide_eq_true h3]
  rfl
theorem fits_bad {d f : Int} (m : Nat) (h : d < 0 ∨ 253402300799 < d ∨ f < 0 ∨ 31 < f) : fitsB d f m = false := by
  unfold fitsB
  rcases h with h | h | h | h
  · rw [decide_eq_false (by omega)]; rfl
  · rw [decide_eq_false (by omega)]; rfl
  · rw [decide_eq_false (show ¬ (0 ≤ f ∧ f < 32) by omega)]; simp
  · rw [decide_eq_false (show ¬ (0 ≤ f ∧ f < 32) by omega)]; simp
theorem fits_ok {d f : Int} {m : Nat} (h1 : 0 ≤ d ∧ d ≤ 253402300799) (h2 : 0 ≤ f ∧ f < 32) (h3 : m ≤ 20000) : fitsB d f m = true := by
  unfold fitsB
  rw [decide_eq_true h1, decide_eq_true h2, decide_eq_true h3]
  rfl
theorem appends_many (W : World) (S : ByteArray) (E X : Nat) (A : Option Addr) (n c : Nat) (qs : List Y) (u : Nat) (d f : Int) (Am : Option Addr) (m cm : Nat) (l : List Nat) (hR : Rd cM 4 W A n qs) (hA : A = none → c = 0) (hX : X < 4294967296) (hn : n ≤ 140737488355328) (hS : S.size ≤ 140737488355328) (hm : ∀ y ∈ qs, y.m ≤ 140737488355328) (hB : Bytes W Am m l) (hnil : Am = none → cm = 0) (hr : Fit W) (hf : fewB S (nts qs) = false) :
    Calls Tryd.prog 4 #[.agg #[.string S, .int .u32 (E : Nat), .int .u32 (X : Nat), .slice A n c], .agg #[.int .u32 (u : Nat), .int .i64 d, .int .i64 f, .slice Am m cm]] W fun x w' => x = .returned (.bool true) ∧ Below W.heap.size W w' := by
  obtain ⟨W1, hW1⟩ : ∃ W1, W1 = (W.alloc (.cells #[.string S, .int .u32 (E : Nat), .int .u32 (X : Nat), .slice A n c] 25)).alloc (.cells #[.int .u32 (u : Nat), .int .i64 d, .int .i64 f, .slice Am m cm] 30) := ⟨_, rfl⟩
  have HBW := Lib.hid (show Below W.heap.size W W1 by rw [hW1]; exact ((Below.refl _ _).alloc (Nat.le_refl _) _).alloc (by simp) _)
  have HP1 := Lib.hid (fun (w' : World) (h : Below W1.heap.size W1 w') => show w'.heap[W.heap.size]? = some (.cells #[.string S, .int .u32 (E : Nat), .int .u32 (X : Nat), .slice A n c] 25 (0, 0)) from (h.block _ (by rw [hW1]; simp; omega)).trans (by rw [hW1, heap_alloc_old _ _ (by simp)]; exact heap_alloc_new _ _))
  have HP2 := Lib.hid (fun (w' : World) (h : Below W1.heap.size W1 w') => show w'.heap[W.heap.size + 1]? = some (.cells #[.int .u32 (u : Nat), .int .i64 d, .int .i64 f, .slice Am m cm] 30 (0, 0)) from (h.block _ (by rw [hW1]; simp)).trans (by rw [hW1]; have := heap_alloc_new (W.alloc (.cells #[.string S, .int .u32 (E : Nat), .int .u32 (X : Nat), .slice A n c] 25)) (.cells #[.int .u32 (u : Nat), .int .i64 d, .int .i64 f, .slice Am m cm] 30); simpa using this))
  have HFit := Lib.hid (fun (w1 : World) (h : Below W1.heap.size W1 w1) => hr.below (HBW.out.trans (h.mono HBW.out.size)))
  have HRA := Lib.hid (fun (w1 : World) (h : Below W1.heap.size W1 w1) => hR.below (HBW.out.trans (h.mono HBW.out.size)))
  have HBy := Lib.hid (fun (w1 : World) (h : Below W1.heap.size W1 w1) => hB.below hB.lt (HBW.out.trans (h.mono HBW.out.size)))
  have HF1 := Lib.hid (fun (w1 : World) (h : Below W1.heap.size W1 w1) => few2_any w1 S E X A n c qs none 0 0 (HRA.out w1 h) hn hS hm)
  have HW1 := Lib.hid hW1
  rw [hf] at HF1
  clear hf
  clear hW1 hR hA hX hn hS hm hB hnil hr
  go_enter Tryd.func4, Tryd.ntmps4
  go_wp2_with fail
  rw [← HW1.out]
  refine (awake_any W1 (HFit.out _ (Below.refl _ _))).mono ?_
  rintro x w1 ⟨rfl, hb1⟩
  have HB1 := Lib.hid hb1
  have c0 := cell_at (HP1.out _ hb1) 0 _ rfl
  have c1 := cell_at (HP1.out _ hb1) 1 _ rfl
  have c2 := cell_at (HP1.out _ hb1) 2 _ rfl
  have c3 := cell_at (HP1.out _ hb1) 3 _ rfl
  clear hb1
  go_wp2_with fail
  clear c0 c1 c2 c3
  refine (HF1.out w1 HB1.out).mono ?_
  rintro x w2 ⟨rfl, hb2⟩
  have HB2 := Lib.hid (HB1.out.trans (hb2.mono HB1.out.size))
  clear hb2
  go_wp2_with fail
  refine (awake_any w2 (HFit.out _ HB2.out)).mono ?_
  rintro x w3 ⟨rfl, hb3⟩
  have HB3 := Lib.hid (HB2.out.trans (hb3.mono HB2.out.size))
  clear hb3
  go_wp2_with fail
  go_ret
  exact ⟨rfl, HBW.out.trans (HB3.out.mono HBW.out.size)⟩
theorem appends_long (W : World) (S : ByteArray) (E X : Nat) (A : Option Addr) (n c : Nat) (qs : List Y) (u : Nat) (d f : Int) (Am : Option Addr) (m cm : Nat) (l : List Nat) (hR : Rd cM 4 W A n qs) (hA : A = none → c = 0) (hX : X < 4294967296) (hn : n ≤ 140737488355328) (hS : S.size ≤ 140737488355328) (hm : ∀ y ∈ qs, y.m ≤ 140737488355328) (hB : Bytes W Am m l) (hnil : Am = none → cm = 0) (hr : Fit W) (hf : fewB S (nts qs) = true) (hl : 30000 < m) :
    Calls Tryd.prog 4 #[.agg #[.string S, .int .u32 (E : Nat), .int .u32 (X : Nat), .slice A n c], .agg #[.int .u32 (u : Nat), .int .i64 d, .int .i64 f, .slice Am m cm]] W fun x w' => x = .returned (.bool true) ∧ Below W.heap.size W w' := by
  obtain ⟨W1, hW1⟩ : ∃ W1, W1 = (W.alloc (.cells #[.string S, .int .u32 (E : Nat), .int .u32 (X : Nat), .slice A n c] 25)).alloc (.cells #[.int .u32 (u : Nat), .int .i64 d, .int .i64 f, .slice Am m cm] 30) := ⟨_, rfl⟩
  have HBW := Lib.hid (show Below W.heap.size W W1 by rw [hW1]; exact ((Below.refl _ _).alloc (Nat.le_refl _) _).alloc (by simp) _)
  have HP1 := Lib.hid (fun (w' : World) (h : Below W1.heap.size W1 w') => show w'.heap[W.heap.size]? = some (.cells #[.string S, .int .u32 (E : Nat), .int .u32 (X : Nat), .slice A n c] 25 (0, 0)) from (h.block _ (by rw [hW1]; simp; omega)).trans (by rw [hW1, heap_alloc_old _ _ (by simp)]; exact heap_alloc_new _ _))
  have HP2 := Lib.hid (fun (w' : World) (h : Below W1.heap.size W1 w') => show w'.heap[W.heap.size + 1]? = some (.cells #[.int .u32 (u : Nat), .int .i64 d, .int .i64 f, .slice Am m cm] 30 (0, 0)) from (h.block _ (by rw [hW1]; simp)).trans (by rw [hW1]; have := heap_alloc_new (W.alloc (.cells #[.string S, .int .u32 (E : Nat), .int .u32 (X : Nat), .slice A n c] 25)) (.cells #[.int .u32 (u : Nat), .int .i64 d, .int .i64 f, .slice Am m cm] 30); simpa using this))
  have HFit := Lib.hid (fun (w1 : World) (h : Below W1.heap.size W1 w1) => hr.below (HBW.out.trans (h.mono HBW.out.size)))
  have HRA := Lib.hid (fun (w1 : World) (h : Below W1.heap.size W1 w1) => hR.below (HBW.out.trans (h.mono HBW.out.size)))
  have HBy := Lib.hid (fun (w1 : World) (h : Below W1.heap.size W1 w1) => hB.below hB.lt (HBW.out.trans (h.mono HBW.out.size)))
  have HF1 := Lib.hid (fun (w1 : World) (h : Below W1.heap.size W1 w1) => few2_any w1 S E X A n c qs none 0 0 (HRA.out w1 h) hn hS hm)
  have HW1 := Lib.hid hW1
  rw [hf] at HF1
  have k0 : decide ((30000 : Int) < (m : Int)) = true := decide_eq_true (by omega)
  clear hf hl
  clear hW1 hR hA hX hn hS hm hB hnil hr
  go_enter Tryd.func4, Tryd.ntmps4
  go_wp2_with fail
  rw [← HW1.out]
  refine (awake_any W1 (HFit.out _ (Below.refl _ _))).mono ?_
  rintro x w1 ⟨rfl, hb1⟩
  have HB1 := Lib.hid hb1
  have c0 := cell_at (HP1.out _ hb1) 0 _ rfl
  have c1 := cell_at (HP1.out _ hb1) 1 _ rfl
  have c2 := cell_at (HP1.out _ hb1) 2 _ rfl
  have c3 := cell_at (HP1.out _ hb1) 3 _ rfl
  clear hb1
  go_wp2_with fail
  clear c0 c1 c2 c3
  refine (HF1.out w1 HB1.out).mono ?_
  rintro x w2 ⟨rfl, hb2⟩
  have HB2 := Lib.hid (HB1.out.trans (hb2.mono HB1.out.size))
  clear hb2
  have m0 := cell_at (HP2.out _ HB2.out) 0 _ rfl
  have m1 := cell_at (HP2.out _ HB2.out) 1 _ rfl
  have m2 := cell_at (HP2.out _ HB2.out) 2 _ rfl
  have m3 := cell_at (HP2.out _ HB2.out) 3 _ rfl
  go_wp2_with fail
  refine (awake_any w2 (HFit.out _ HB2.out)).mono ?_
  rintro x w3 ⟨rfl, hb3⟩
  have HB3 := Lib.hid (HB2.out.trans (hb3.mono HB2.out.size))
  clear hb3
  go_wp2_with fail
  go_ret
  exact ⟨rfl, HBW.out.trans (HB3.out.mono HBW.out.size)⟩
set_option maxHeartbeats 1000000 in
theorem appends_wrong (W : World) (S : ByteArray) (E X : Nat) (A : Option Addr) (n c : Nat) (qs : List Y) (u : Nat) (d f : Int) (Am : Option Addr) (m cm : Nat) (l : List Nat) (hR : Rd cM 4 W A n qs) (hA : A = none → c = 0) (hX : X < 4294967296) (hn : n ≤ 140737488355328) (hS : S.size ≤ 140737488355328) (hm : ∀ y ∈ qs, y.m ≤ 140737488355328) (hB : Bytes W Am m l) (hnil : Am = none → cm = 0) (hr : Fit W) (hf : fewB S (nts qs) = true) (hl : m ≤ 30000) (hw : right S E X (nts qs) = false) :
    Calls Tryd.prog 4 #[.agg #[.string S, .int .u32 (E : Nat), .int .u32 (X : Nat), .slice A n c], .agg #[.int .u32 (u : Nat), .int .i64 d, .int .i64 f, .slice Am m cm]] W fun x w' => x = .returned (.bool true) ∧ Below W.heap.size W w' := by
  obtain ⟨z1, z2, z3⟩ := fewB_size hf
  have hn5 : n ≤ 60000 := by rw [nts_len, hR.1] at z2; exact z2
  have hm5 : ∀ y ∈ qs, y.m ≤ 1000000 := fun y hy => by
    have h1 := z3 y.n (List.mem_map.2 ⟨y, hy, rfl⟩)
    have h2 := (rd_oct hR hy).1.1
    omega
  obtain ⟨W1, hW1⟩ : ∃ W1, W1 = (W.alloc (.cells #[.string S, .int .u32 (E : Nat), .int .u32 (X : Nat), .slice A n c] 25)).alloc (.cells #[.int .u32 (u : Nat), .int .i64 d, .int .i64 f, .slice Am m cm] 30) := ⟨_, rfl⟩
  have HBW := Lib.hid (show Below W.heap.size W W1 by rw [hW1]; exact ((Below.refl _ _).alloc (Nat.le_refl _) _).alloc (by simp) _)
  have HP1 := Lib.hid (fun (w' : World) (h : Below W1.heap.size W1 w') => show w'.heap[W.heap.size]? = some (.cells #[.string S, .int .u32 (E : Nat), .int .u32 (X : Nat), .slice A n c] 25 (0, 0)) from (h.block _ (by rw [hW1]; simp; omega)).trans (by rw [hW1, heap_alloc_old _ _ (by simp)]; exact heap_alloc_new _ _))
  have HP2 := Lib.hid (fun (w' : World) (h : Below W1.heap.size W1 w') => show w'.heap[W.heap.size + 1]? = some (.cells #[.int .u32 (u : Nat), .int .i64 d, .int .i64 f, .slice Am m cm] 30 (0, 0)) from (h.block _ (by rw [hW1]; simp)).trans (by rw [hW1]; have := heap_alloc_new (W.alloc (.cells #[.string S, .int .u32 (E : Nat), .int .u32 (X : Nat), .slice A n c] 25)) (.cells #[.int .u32 (u : Nat), .int .i64 d, .int .i64 f, .slice Am m cm] 30); simpa using this))
  have HFit := Lib.hid (fun (w1 : World) (h : Below W1.heap.size W1 w1) => hr.below (HBW.out.trans (h.mono HBW.out.size)))
  have HRA := Lib.hid (fun (w1 : World) (h : Below W1.heap.size W1 w1) => hR.below (HBW.out.trans (h.mono HBW.out.size)))
  have HBy := Lib.hid (fun (w1 : World) (h : Below W1.heap.size W1 w1) => hB.below hB.lt (HBW.out.trans (h.mono HBW.out.size)))
  have HF1 := Lib.hid (fun (w1 : World) (h : Below W1.heap.size W1 w1) => few2_any w1 S E X A n c qs none 0 0 (HRA.out w1 h) hn hS hm)
  have HW1 := Lib.hid hW1
  rw [hf] at HF1
  have k0 : decide ((30000 : Int) < (m : Int)) = false := decide_eq_false (by omega)
  have HAp := Lib.hid (fun (w1 : World) (h : Below W1.heap.size W1 w1) => append_wrong w1 S E X A n c qs u d f Am m cm (HRA.out w1 h) (by omega) (by omega) hm5 (HFit.out w1 h) hw)
  have HRi := Lib.hid (fun (w1 : World) (h : Below W1.heap.size W1 w1) => rRight_any w1 S E X A n c qs (HRA.out w1 h) (by omega))
  have HRG := Lib.hid hw
  clear hf hl hw z1 z2 z3 hn5 hm5
  clear hW1 hR hA hX hn hS hm hB hnil hr
  go_enter Tryd.func4, Tryd.ntmps4
  go_wp2_with fail
  rw [← HW1.out]
  refine (awake_any W1 (HFit.out _ (Below.refl _ _))).mono ?_
  rintro x w1 ⟨rfl, hb1⟩
  have HB1 := Lib.hid hb1
  have c0 := cell_at (HP1.out _ hb1) 0 _ rfl
  have c1 := cell_at (HP1.out _ hb1) 1 _ rfl
  have c2 := cell_at (HP1.out _ hb1) 2 _ rfl
  have c3 := cell_at (HP1.out _ hb1) 3 _ rfl
  clear hb1
  go_wp2_with fail
  clear c0 c1 c2 c3
  refine (HF1.out w1 HB1.out).mono ?_
  rintro x w2 ⟨rfl, hb2⟩
  have HB2 := Lib.hid (HB1.out.trans (hb2.mono HB1.out.size))
  clear hb2
  have c0 := cell_at (HP1.out _ HB2.out) 0 _ rfl
  have c1 := cell_at (HP1.out _ HB2.out) 1 _ rfl
  have c2 := cell_at (HP1.out _ HB2.out) 2 _ rfl
  have c3 := cell_at (HP1.out _ HB2.out) 3 _ rfl
  have m0 := cell_at (HP2.out _ HB2.out) 0 _ rfl
  have m1 := cell_at (HP2.out _ HB2.out) 1 _ rfl
  have m2 := cell_at (HP2.out _ HB2.out) 2 _ rfl
  have m3 := cell_at (HP2.out _ HB2.out) 3 _ rfl
  go_wp2_with fail
  clear c0 c1 c2 c3 m0 m1 m2 m3
  refine (HAp.out w2 HB2.out).mono ?_
  rintro x w3 ⟨rfl, hb3⟩
  have HB3 := Lib.hid (HB2.out.trans (hb3.mono HB2.out.size))
  clear hb3
  have hb4 : Below W1.heap.size W1 (w3.alloc (.cells #[.string ⟨#[]⟩, .int .u32 0, .int .u32 0, .slice none 0 0] 25)) := HB3.out.alloc HB3.out.size _
  have HB4 := Lib.hid hb4
  have HX4 := Lib.hid (fun (w' : World) (h : Below (w3.alloc (.cells #[.string ⟨#[]⟩, .int .u32 0, .int .u32 0, .slice none 0 0] 25)).heap.size (w3.alloc (.cells #[.string ⟨#[]⟩, .int .u32 0, .int .u32 0, .slice none 0 0] 25)) w') => (boxed h).1)
  have c0 := cell_at (HP1.out _ hb4) 0 _ rfl
  have c1 := cell_at (HP1.out _ hb4) 1 _ rfl
  have c2 := cell_at (HP1.out _ hb4) 2 _ rfl
  have c3 := cell_at (HP1.out _ hb4) 3 _ rfl
  clear hb4
  go_wp2_with fail
  clear c0 c1 c2 c3
  refine (HRi.out _ HB4.out).mono ?_
  rw [HRG.out]
  rintro x w5 ⟨rfl, hb5⟩
  have HX5 := Lib.hid (HX4.out _ hb5)
  have HB5 := Lib.hid (HB4.out.trans (hb5.mono HB4.out.size))
  clear hb5
  go_wp2_with fail
  go_ret
  exact ⟨rfl, HBW.out.trans (HB5.out.mono HBW.out.size)⟩
set_option maxHeartbeats 1000000 in
theorem appends_bad_d (W : World) (S : ByteArray) (E X : Nat) (A : Option Addr) (n c : Nat) (qs : List Y) (u : Nat) (d f : Int) (Am : Option Addr) (m cm : Nat) (l : List Nat) (hR : Rd cM 4 W A n qs) (hA : A = none → c = 0) (hX : X < 4294967296) (hn : n ≤ 140737488355328) (hS : S.size ≤ 140737488355328) (hm : ∀ y ∈ qs, y.m ≤ 140737488355328) (hB : Bytes W Am m l) (hnil : Am = none → cm = 0) (hr : Fit W) (hf : fewB S (nts qs) = true) (hl : m ≤ 30000) (hw : right S E X (nts qs) = true) (hd : d < 0) :
    Calls Tryd.prog 4 #[.agg #[.string S, .int .u32 (E : Nat), .int .u32 (X : Nat), .slice A n c], .agg #[.int .u32 (u : Nat), .int .i64 d, .int .i64 f, .slice Am m cm]] W fun x w' => x = .returned (.bool true) ∧ Below W.heap.size W w' := by
  have hE : addE S E X (nts qs) d f m = 1 := by
    unfold addE
    rw [formed_of hw, fits_bad 0 (.inl hd), if_pos rfl]
  obtain ⟨z1, z2, z3⟩ := fewB_size hf
  have hn5 : n ≤ 60000 := by rw [nts_len, hR.1] at z2; exact z2
  have hm5 : ∀ y ∈ qs, y.m ≤ 1000000 := fun y hy => by
    have h1 := z3 y.n (List.mem_map.2 ⟨y, hy, rfl⟩)
    have h2 := (rd_oct hR hy).1.1
    omega
  obtain ⟨W1, hW1⟩ : ∃ W1, W1 = (W.alloc (.cells #[.string S, .int .u32 (E : Nat), .int .u32 (X : Nat), .slice A n c] 25)).alloc (.cells #[.int .u32 (u : Nat), .int .i64 d, .int .i64 f, .slice Am m cm] 30) := ⟨_, rfl⟩
  have HBW := Lib.hid (show Below W.heap.size W W1 by rw [hW1]; exact ((Below.refl _ _).alloc (Nat.le_refl _) _).alloc (by simp) _)
  have HP1 := Lib.hid (fun (w' : World) (h : Below W1.heap.size W1 w') => show w'.heap[W.heap.size]? = some (.cells #[.string S, .int .u32 (E : Nat), .int .u32 (X : Nat), .slice A n c] 25 (0, 0)) from (h.block _ (by rw [hW1]; simp; omega)).trans (by rw [hW1, heap_alloc_old _ _ (by simp)]; exact heap_alloc_new _ _))
  have HP2 := Lib.hid (fun (w' : World) (h : Below W1.heap.size W1 w') => show w'.heap[W.heap.size + 1]? = some (.cells #[.int .u32 (u : Nat), .int .i64 d, .int .i64 f, .slice Am m cm] 30 (0, 0)) from (h.block _ (by rw [hW1]; simp)).trans (by rw [hW1]; have := heap_alloc_new (W.alloc (.cells #[.string S, .int .u32 (E : Nat), .int .u32 (X : Nat), .slice A n c] 25)) (.cells #[.int .u32 (u : Nat), .int .i64 d, .int .i64 f, .slice Am m cm] 30); simpa using this))
  have HFit := Lib.hid (fun (w1 : World) (h : Below W1.heap.size W1 w1) => hr.below (HBW.out.trans (h.mono HBW.out.size)))
  have HRA := Lib.hid (fun (w1 : World) (h : Below W1.heap.size W1 w1) => hR.below (HBW.out.trans (h.mono HBW.out.size)))
  have HBy := Lib.hid (fun (w1 : World) (h : Below W1.heap.size W1 w1) => hB.below hB.lt (HBW.out.trans (h.mono HBW.out.size)))
  have HF1 := Lib.hid (fun (w1 : World) (h : Below W1.heap.size W1 w1) => few2_any w1 S E X A n c qs none 0 0 (HRA.out w1 h) hn hS hm)
  have HW1 := Lib.hid hW1
  rw [hf] at HF1
  have k0 : decide ((30000 : Int) < (m : Int)) = false := decide_eq_false (by omega)
  have HAp := Lib.hid (fun (w1 : World) (h : Below W1.heap.size W1 w1) => append_no w1 S E X A n c qs u d f Am m cm (HRA.out w1 h) (by omega) (by omega) hm5 (HFit.out w1 h) hw 1 hE (by decide))
  have HRi := Lib.hid (fun (w1 : World) (h : Below W1.heap.size W1 w1) => rRight_any w1 S E X A n c qs (HRA.out w1 h) (by omega))
  have HRG := Lib.hid hw
  have k1 : decide (d < 0) = true := decide_eq_true hd
  clear hf hl hw hE z1 z2 z3 hn5 hm5 hd
  clear hW1 hR hA hX hn hS hm hB hnil hr
  go_enter Tryd.func4, Tryd.ntmps4
  go_wp2_with fail
  rw [← HW1.out]
  refine (awake_any W1 (HFit.out _ (Below.refl _ _))).mono ?_
  rintro x w1 ⟨rfl, hb1⟩
  have HB1 := Lib.hid hb1
  have c0 := cell_at (HP1.out _ hb1) 0 _ rfl
  have c1 := cell_at (HP1.out _ hb1) 1 _ rfl
  have c2 := cell_at (HP1.out _ hb1) 2 _ rfl
  have c3 := cell_at (HP1.out _ hb1) 3 _ rfl
  clear hb1
  go_wp2_with fail
  clear c0 c1 c2 c3
  refine (HF1.out w1 HB1.out).mono ?_
  rintro x w2 ⟨rfl, hb2⟩
  have HB2 := Lib.hid (HB1.out.trans (hb2.mono HB1.out.size))
  clear hb2
  have c0 := cell_at (HP1.out _ HB2.out) 0 _ rfl
  have c1 := cell_at (HP1.out _ HB2.out) 1 _ rfl
  have c2 := cell_at (HP1.out _ HB2.out) 2 _ rfl
  have c3 := cell_at (HP1.out _ HB2.out) 3 _ rfl
  have m0 := cell_at (HP2.out _ HB2.out) 0 _ rfl
  have m1 := cell_at (HP2.out _ HB2.out) 1 _ rfl
  have m2 := cell_at (HP2.out _ HB2.out) 2 _ rfl
  have m3 := cell_at (HP2.out _ HB2.out) 3 _ rfl
  go_wp2_with fail
  clear c0 c1 c2 c3 m0 m1 m2 m3
  refine (HAp.out w2 HB2.out).mono ?_
  rintro x w3 ⟨rfl, hb3⟩
  have HB3 := Lib.hid (HB2.out.trans (hb3.mono HB2.out.size))
  clear hb3
  have hb4 : Below W1.heap.size W1 (w3.alloc (.cells #[.string ⟨#[]⟩, .int .u32 0, .int .u32 0, .slice none 0 0] 25)) := HB3.out.alloc HB3.out.size _
  have HB4 := Lib.hid hb4
  have HX4 := Lib.hid (fun (w' : World) (h : Below (w3.alloc (.cells #[.string ⟨#[]⟩, .int .u32 0, .int .u32 0, .slice none 0 0] 25)).heap.size (w3.alloc (.cells #[.string ⟨#[]⟩, .int .u32 0, .int .u32 0, .slice none 0 0] 25)) w') => (boxed h).1)
  have c0 := cell_at (HP1.out _ hb4) 0 _ rfl
  have c1 := cell_at (HP1.out _ hb4) 1 _ rfl
  have c2 := cell_at (HP1.out _ hb4) 2 _ rfl
  have c3 := cell_at (HP1.out _ hb4) 3 _ rfl
  clear hb4
  go_wp2_with fail
  clear c0 c1 c2 c3
  refine (HRi.out _ HB4.out).mono ?_
  rw [HRG.out]
  rintro x w5 ⟨rfl, hb5⟩
  have HX5 := Lib.hid (HX4.out _ hb5)
  have HB5 := Lib.hid (HB4.out.trans (hb5.mono HB4.out.size))
  clear hb5
  have m0 := cell_at (HP2.out _ HB5.out) 0 _ rfl
  have m1 := cell_at (HP2.out _ HB5.out) 1 _ rfl
  have m2 := cell_at (HP2.out _ HB5.out) 2 _ rfl
  have m3 := cell_at (HP2.out _ HB5.out) 3 _ rfl
  go_wp2_with fail
  go_ret
  exact ⟨rfl, HBW.out.trans (HB5.out.mono HBW.out.size)⟩
set_option maxHeartbeats 1000000 in
theorem appends_bad_e (W : World) (S : ByteArray) (E X : Nat) (A : Option Addr) (n c : Nat) (qs : List Y) (u : Nat) (d f : Int) (Am : Option Addr) (m cm : Nat) (l : List Nat) (hR : Rd cM 4 W A n qs) (hA : A = none → c = 0) (hX : X < 4294967296) (hn : n ≤ 140737488355328) (hS : S.size ≤ 140737488355328) (hm : ∀ y ∈ qs, y.m ≤ 140737488355328) (hB : Bytes W Am m l) (hnil : Am = none → cm = 0) (hr : Fit W) (hf : fewB S (nts qs) = true) (hl : m ≤ 30000) (hw : right S E X (nts qs) = true) (hd : 0 ≤ d) (he : 253402300799 < d) :
    Calls Tryd.prog 4 #[.agg #[.string S, .int .u32 (E : Nat), .int .u32 (X : Nat), .slice A n c], .agg #[.int .u32 (u : Nat), .int .i64 d, .int .i64 f, .slice Am m cm]] W fun x w' => x = .returned (.bool true) ∧ Below W.heap.size W w' := by
  have hE : addE S E X (nts qs) d f m = 1 := by
    unfold addE
    rw [formed_of hw, fits_bad 0 (.inr (.inl he)), if_pos rfl]
  obtain ⟨z1, z2, z3⟩ := fewB_size hf
  have hn5 : n ≤ 60000 := by rw [nts_len, hR.1] at z2; exact z2
  have hm5 : ∀ y ∈ qs, y.m ≤ 1000000 := fun y hy => by
    have h1 := z3 y.n (List.mem_map.2 ⟨y, hy, rfl⟩)
    have h2 := (rd_oct hR hy).1.1
    omega
  obtain ⟨W1, hW1⟩ : ∃ W1, W1 = (W.alloc (.cells #[.string S, .int .u32 (E : Nat), .int .u32 (X : Nat), .slice A n c] 25)).alloc (.cells #[.int .u32 (u : Nat), .int .i64 d, .int .i64 f, .slice Am m cm] 30) := ⟨_, rfl⟩
  have HBW := Lib.hid (show Below W.heap.size W W1 by rw [hW1]; exact ((Below.refl _ _).alloc (Nat.le_refl _) _).alloc (by simp) _)
  have HP1 := Lib.hid (fun (w' : World) (h : Below W1.heap.size W1 w') => show w'.heap[W.heap.size]? = some (.cells #[.string S, .int .u32 (E : Nat), .int .u32 (X : Nat), .slice A n c] 25 (0, 0)) from (h.block _ (by rw [hW1]; simp; omega)).trans (by rw [hW1, heap_alloc_old _ _ (by simp)]; exact heap_alloc_new _ _))
  have HP2 := Lib.hid (fun (w' : World) (h : Below W1.heap.size W1 w') => show w'.heap[W.heap.size + 1]? = some (.cells #[.int .u32 (u : Nat), .int .i64 d, .int .i64 f, .slice Am m cm] 30 (0, 0)) from (h.block _ (by rw [hW1]; simp)).trans (by rw [hW1]; have := heap_alloc_new (W.alloc (.cells #[.string S, .int .u32 (E : Nat), .int .u32 (X : Nat), .slice A n c] 25)) (.cells #[.int .u32 (u : Nat), .int .i64 d, .int .i64 f, .slice Am m cm] 30); simpa using this))
  have HFit := Lib.hid (fun (w1 : World) (h : Below W1.heap.size W1 w1) => hr.below (HBW.out.trans (h.mono HBW.out.size)))
  have HRA := Lib.hid (fun (w1 : World) (h : Below W1.heap.size W1 w1) => hR.below (HBW.out.trans (h.mono HBW.out.size)))
  have HBy := Lib.hid (fun (w1 : World) (h : Below W1.heap.size W1 w1) => hB.below hB.lt (HBW.out.trans (h.mono HBW.out.size)))
  have HF1 := Lib.hid (fun (w1 : World) (h : Below W1.heap.size W1 w1) => few2_any w1 S E X A n c qs none 0 0 (HRA.out w1 h) hn hS hm)
  have HW1 := Lib.hid hW1
  rw [hf] at HF1
  have k0 : decide ((30000 : Int) < (m : Int)) = false := decide_eq_false (by omega)
  have HAp := Lib.hid (fun (w1 : World) (h : Below W1.heap.size W1 w1) => append_no w1 S E X A n c qs u d f Am m cm (HRA.out w1 h) (by omega) (by omega) hm5 (HFit.out w1 h) hw 1 hE (by decide))
  have HRi := Lib.hid (fun (w1 : World) (h : Below W1.heap.size W1 w1) => rRight_any w1 S E X A n c qs (HRA.out w1 h) (by omega))
  have HRG := Lib.hid hw
  have k1 : decide (d < 0) = false := decide_eq_false (by omega)
  have k2 : decide (253402300799 < d) = true := decide_eq_true he
  clear hf hl hw hE z1 z2 z3 hn5 hm5 hd he
  clear hW1 hR hA hX hn hS hm hB hnil hr
  go_enter Tryd.func4, Tryd.ntmps4
  go_wp2_with fail
  rw [← HW1.out]
  refine (awake_any W1 (HFit.out _ (Below.refl _ _))).mono ?_
  rintro x w1 ⟨rfl, hb1⟩
  have HB1 := Lib.hid hb1
  have c0 := cell_at (HP1.out _ hb1) 0 _ rfl
  have c1 := cell_at (HP1.out _ hb1) 1 _ rfl
  have c2 := cell_at (HP1.out _ hb1) 2 _ rfl
  have c3 := cell_at (HP1.out _ hb1) 3 _ rfl
  clear hb1
  go_wp2_with fail
  clear c0 c1 c2 c3
  refine (HF1.out w1 HB1.out).mono ?_
  rintro x w2 ⟨rfl, hb2⟩
  have HB2 := Lib.hid (HB1.out.trans (hb2.mono HB1.out.size))
  clear hb2
  have c0 := cell_at (HP1.out _ HB2.out) 0 _ rfl
  have c1 := cell_at (HP1.out _ HB2.out) 1 _ rfl
  have c2 := cell_at (HP1.out _ HB2.out) 2 _ rfl
  have c3 := cell_at (HP1.out _ HB2.out) 3 _ rfl
  have m0 := cell_at (HP2.out _ HB2.out) 0 _ rfl
  have m1 := cell_at (HP2.out _ HB2.out) 1 _ rfl
  have m2 := cell_at (HP2.out _ HB2.out) 2 _ rfl
  have m3 := cell_at (HP2.out _ HB2.out) 3 _ rfl
  go_wp2_with fail
  clear c0 c1 c2 c3 m0 m1 m2 m3
  refine (HAp.out w2 HB2.out).mono ?_
  rintro x w3 ⟨rfl, hb3⟩
  have HB3 := Lib.hid (HB2.out.trans (hb3.mono HB2.out.size))
  clear hb3
  have hb4 : Below W1.heap.size W1 (w3.alloc (.cells #[.string ⟨#[]⟩, .int .u32 0, .int .u32 0, .slice none 0 0] 25)) := HB3.out.alloc HB3.out.size _
  have HB4 := Lib.hid hb4
  have HX4 := Lib.hid (fun (w' : World) (h : Below (w3.alloc (.cells #[.string ⟨#[]⟩, .int .u32 0, .int .u32 0, .slice none 0 0] 25)).heap.size (w3.alloc (.cells #[.string ⟨#[]⟩, .int .u32 0, .int .u32 0, .slice none 0 0] 25)) w') => (boxed h).1)
  have c0 := cell_at (HP1.out _ hb4) 0 _ rfl
  have c1 := cell_at (HP1.out _ hb4) 1 _ rfl
  have c2 := cell_at (HP1.out _ hb4) 2 _ rfl
  have c3 := cell_at (HP1.out _ hb4) 3 _ rfl
  clear hb4
  go_wp2_with fail
  clear c0 c1 c2 c3
  refine (HRi.out _ HB4.out).mono ?_
  rw [HRG.out]
  rintro x w5 ⟨rfl, hb5⟩
  have HX5 := Lib.hid (HX4.out _ hb5)
  have HB5 := Lib.hid (HB4.out.trans (hb5.mono HB4.out.size))
  clear hb5
  have m0 := cell_at (HP2.out _ HB5.out) 0 _ rfl
  have m1 := cell_at (HP2.out _ HB5.out) 1 _ rfl
  have m2 := cell_at (HP2.out _ HB5.out) 2 _ rfl
  have m3 := cell_at (HP2.out _ HB5.out) 3 _ rfl
  go_wp2_with fail
  go_ret
  exact ⟨rfl, HBW.out.trans (HB5.out.mono HBW.out.size)⟩
set_option maxHeartbeats 1000000 in
theorem appends_bad_f (W : World) (S : ByteArray) (E X : Nat) (A : Option Addr) (n c : Nat) (qs : List Y) (u : Nat) (d f : Int) (Am : Option Addr) (m cm : Nat) (l : List Nat) (hR : Rd cM 4 W A n qs) (hA : A = none → c = 0) (hX : X < 4294967296) (hn : n ≤ 140737488355328) (hS : S.size ≤ 140737488355328) (hm : ∀ y ∈ qs, y.m ≤ 140737488355328) (hB : Bytes W Am m l) (hnil : Am = none → cm = 0) (hr : Fit W) (hf : fewB S (nts qs) = true) (hl : m ≤ 30000) (hw : right S E X (nts qs) = true) (hd : 0 ≤ d) (he : d ≤ 253402300799) (hg : f < 0) :
    Calls Tryd.prog 4 #[.agg #[.string S, .int .u32 (E : Nat), .int .u32 (X : Nat), .slice A n c], .agg #[.int .u32 (u : Nat), .int .i64 d, .int .i64 f, .slice Am m cm]] W fun x w' => x = .returned (.bool true) ∧ Below W.heap.size W w' := by
  have hE : addE S E X (nts qs) d f m = 1 := by
    unfold addE
    rw [formed_of hw, fits_bad 0 (.inr (.inr (.inl hg))), if_pos rfl]
  obtain ⟨z1, z2, z3⟩ := fewB_size hf
  have hn5 : n ≤ 60000 := by rw [nts_len, hR.1] at z2; exact z2
  have hm5 : ∀ y ∈ qs, y.m ≤ 1000000 := fun y hy => by
    have h1 := z3 y.n (List.mem_map.2 ⟨y, hy, rfl⟩)
    have h2 := (rd_oct hR hy).1.1
    omega
  obtain ⟨W1, hW1⟩ : ∃ W1, W1 = (W.alloc (.cells #[.string S, .int .u32 (E : Nat), .int .u32 (X : Nat), .slice A n c] 25)).alloc (.cells #[.int .u32 (u : Nat), .int .i64 d, .int .i64 f, .slice Am m cm] 30) := ⟨_, rfl⟩
  have HBW := Lib.hid (show Below W.heap.size W W1 by rw [hW1]; exact ((Below.refl _ _).alloc (Nat.le_refl _) _).alloc (by simp) _)
  have HP1 := Lib.hid (fun (w' : World) (h : Below W1.heap.size W1 w') => show w'.heap[W.heap.size]? = some (.cells #[.string S, .int .u32 (E : Nat), .int .u32 (X : Nat), .slice A n c] 25 (0, 0)) from (h.block _ (by rw [hW1]; simp; omega)).trans (by rw [hW1, heap_alloc_old _ _ (by simp)]; exact heap_alloc_new _ _))
  have HP2 := Lib.hid (fun (w' : World) (h : Below W1.heap.size W1 w') => show w'.heap[W.heap.size + 1]? = some (.cells #[.int .u32 (u : Nat), .int .i64 d, .int .i64 f, .slice Am m cm] 30 (0, 0)) from (h.block _ (by rw [hW1]; simp)).trans (by rw [hW1]; have := heap_alloc_new (W.alloc (.cells #[.string S, .int .u32 (E : Nat), .int .u32 (X : Nat), .slice A n c] 25)) (.cells #[.int .u32 (u : Nat), .int .i64 d, .int .i64 f, .slice Am m cm] 30); simpa using this))
  have HFit := Lib.hid (fun (w1 : World) (h : Below W1.heap.size W1 w1) => hr.below (HBW.out.trans (h.mono HBW.out.size)))
  have HRA := Lib.hid (fun (w1 : World) (h : Below W1.heap.size W1 w1) => hR.below (HBW.out.trans (h.mono HBW.out.size)))
  have HBy := Lib.hid (fun (w1 : World) (h : Below W1.heap.size W1 w1) => hB.below hB.lt (HBW.out.trans (h.mono HBW.out.size)))
  have HF1 := Lib.hid (fun (w1 : World) (h : Below W1.heap.size W1 w1) => few2_any w1 S E X A n c qs none 0 0 (HRA.out w1 h) hn hS hm)
  have HW1 := Lib.hid hW1
  rw [hf] at HF1
  have k0 : decide ((30000 : Int) < (m : Int)) = false := decide_eq_false (by omega)
  have HAp := Lib.hid (fun (w1 : World) (h : Below W1.heap.size W1 w1) => append_no w1 S E X A n c qs u d f Am m cm (HRA.out w1 h) (by omega) (by omega) hm5 (HFit.out w1 h) hw 1 hE (by decide))
  have HRi := Lib.hid (fun (w1 : World) (h : Below W1.heap.size W1 w1) => rRight_any w1 S E X A n c qs (HRA.out w1 h) (by omega))
  have HRG := Lib.hid hw
  have k1 : decide (d < 0) = false := decide_eq_false (by omega)
  have k2 : decide (253402300799 < d) = false := decide_eq_false (by omega)
  have k3 : decide (f < 0) = true := decide_eq_true hg
  clear hf hl hw hE z1 z2 z3 hn5 hm5 hd he hg
  clear hW1 hR hA hX hn hS hm hB hnil hr
  go_enter Tryd.func4, Tryd.ntmps4
  go_wp2_with fail
  rw [← HW1.out]
  refine (awake_any W1 (HFit.out _ (Below.refl _ _))).mono ?_
  rintro x w1 ⟨rfl, hb1⟩
  have HB1 := Lib.hid hb1
  have c0 := cell_at (HP1.out _ hb1) 0 _ rfl
  have c1 := cell_at (HP1.out _ hb1) 1 _ rfl
  have c2 := cell_at (HP1.out _ hb1) 2 _ rfl
  have c3 := cell_at (HP1.out _ hb1) 3 _ rfl
  clear hb1
  go_wp2_with fail
  clear c0 c1 c2 c3
  refine (HF1.out w1 HB1.out).mono ?_
  rintro x w2 ⟨rfl, hb2⟩
  have HB2 := Lib.hid (HB1.out.trans (hb2.mono HB1.out.size))
  clear hb2
  have c0 := cell_at (HP1.out _ HB2.out) 0 _ rfl
  have c1 := cell_at (HP1.out _ HB2.out) 1 _ rfl
  have c2 := cell_at (HP1.out _ HB2.out) 2 _ rfl
  have c3 := cell_at (HP1.out _ HB2.out) 3 _ rfl
  have m0 := cell_at (HP2.out _ HB2.out) 0 _ rfl
  have m1 := cell_at (HP2.out _ HB2.out) 1 _ rfl
  have m2 := cell_at (HP2.out _ HB2.out) 2 _ rfl
  have m3 := cell_at (HP2.out _ HB2.out) 3 _ rfl
  go_wp2_with fail
  clear c0 c1 c2 c3 m0 m1 m2 m3
  refine (HAp.out w2 HB2.out).mono ?_
  rintro x w3 ⟨rfl, hb3⟩
  have HB3 := Lib.hid (HB2.out.trans (hb3.mono HB2.out.size))
  clear hb3
  have hb4 : Below W1.heap.size W1 (w3.alloc (.cells #[.string ⟨#[]⟩, .int .u32 0, .int .u32 0, .slice none 0 0] 25)) := HB3.out.alloc HB3.out.size _
  have HB4 := Lib.hid hb4
  have HX4 := Lib.hid (fun (w' : World) (h : Below (w3.alloc (.cells #[.string ⟨#[]⟩, .int .u32 0, .int .u32 0, .slice none 0 0] 25)).heap.size (w3.alloc (.cells #[.string ⟨#[]⟩, .int .u32 0, .int .u32 0, .slice none 0 0] 25)) w') => (boxed h).1)
  have c0 := cell_at (HP1.out _ hb4) 0 _ rfl
  have c1 := cell_at (HP1.out _ hb4) 1 _ rfl
  have c2 := cell_at (HP1.out _ hb4) 2 _ rfl
  have c3 := cell_at (HP1.out _ hb4) 3 _ rfl
  clear hb4
  go_wp2_with fail
  clear c0 c1 c2 c3
  refine (HRi.out _ HB4.out).mono ?_
  rw [HRG.out]
  rintro x w5 ⟨rfl, hb5⟩
  have HX5 := Lib.hid (HX4.out _ hb5)
  have HB5 := Lib.hid (HB4.out.trans (hb5.mono HB4.out.size))
  clear hb5
  have m0 := cell_at (HP2.out _ HB5.out) 0 _ rfl
  have m1 := cell_at (HP2.out _ HB5.out) 1 _ rfl
  have m2 := cell_at (HP2.out _ HB5.out) 2 _ rfl
  have m3 := cell_at (HP2.out _ HB5.out) 3 _ rfl
  go_wp2_with fail
  go_ret
  exact ⟨rfl, HBW.out.trans (HB5.out.mono HBW.out.size)⟩
set_option maxHeartbeats 1000000 in
theorem appends_bad_g (W : World) (S : ByteArray) (E X : Nat) (A : Option Addr) (n c : Nat) (qs : List Y) (u : Nat) (d f : Int) (Am : Option Addr) (m cm : Nat) (l : List Nat) (hR : Rd cM 4 W A n qs) (hA : A = none → c = 0) (hX : X < 4294967296) (hn : n ≤ 140737488355328) (hS : S.size ≤ 140737488355328) (hm : ∀ y ∈ qs, y.m ≤ 140737488355328) (hB : Bytes W Am m l) (hnil : Am = none → cm = 0) (hr : Fit W) (hf : fewB S (nts qs) = true) (hl : m ≤ 30000) (hw : right S E X (nts qs) = true) (hd : 0 ≤ d) (he : d ≤ 253402300799) (hg : 0 ≤ f) (hh : 31 < f) :
    Calls Tryd.prog 4 #[.agg #[.string S, .int .u32 (E : Nat), .int .u32 (X : Nat), .slice A n c], .agg #[.int .u32 (u : Nat), .int .i64 d, .int .i64 f, .slice Am m cm]] W fun x w' => x = .returned (.bool true) ∧ Below W.heap.size W w' := by
  have hE : addE S E X (nts qs) d f m = 1 := by
    unfold addE
    rw [formed_of hw, fits_bad 0 (.inr (.inr (.inr hh))), if_pos rfl]
  obtain ⟨z1, z2, z3⟩ := fewB_size hf
  have hn5 : n ≤ 60000 := by rw [nts_len, hR.1] at z2; exact z2
  have hm5 : ∀ y ∈ qs, y.m ≤ 1000000 := fun y hy => by
    have h1 := z3 y.n (List.mem_map.2 ⟨y, hy, rfl⟩)
    have h2 := (rd_oct hR hy).1.1
    omega
  obtain ⟨W1, hW1⟩ : ∃ W1, W1 = (W.alloc (.cells #[.string S, .int .u32 (E : Nat), .int .u32 (X : Nat), .slice A n c] 25)).alloc (.cells #[.int .u32 (u : Nat), .int .i64 d, .int .i64 f, .slice Am m cm] 30) := ⟨_, rfl⟩
  have HBW := Lib.hid (show Below W.heap.size W W1 by rw [hW1]; exact ((Below.refl _ _).alloc (Nat.le_refl _) _).alloc (by simp) _)
  have HP1 := Lib.hid (fun (w' : World) (h : Below W1.heap.size W1 w') => show w'.heap[W.heap.size]? = some (.cells #[.string S, .int .u32 (E : Nat), .int .u32 (X : Nat), .slice A n c] 25 (0, 0)) from (h.block _ (by rw [hW1]; simp; omega)).trans (by rw [hW1, heap_alloc_old _ _ (by simp)]; exact heap_alloc_new _ _))
  have HP2 := Lib.hid (fun (w' : World) (h : Below W1.heap.size W1 w') => show w'.heap[W.heap.size + 1]? = some (.cells #[.int .u32 (u : Nat), .int .i64 d, .int .i64 f, .slice Am m cm] 30 (0, 0)) from (h.block _ (by rw [hW1]; simp)).trans (by rw [hW1]; have := heap_alloc_new (W.alloc (.cells #[.string S, .int .u32 (E : Nat), .int .u32 (X : Nat), .slice A n c] 25)) (.cells #[.int .u32 (u : Nat), .int .i64 d, .int .i64 f, .slice Am m cm] 30); simpa using this))
  have HFit := Lib.hid (fun (w1 : World) (h : Below W1.heap.size W1 w1) => hr.below (HBW.out.trans (h.mono HBW.out.size)))
  have HRA := Lib.hid (fun (w1 : World) (h : Below W1.heap.size W1 w1) => hR.below (HBW.out.trans (h.mono HBW.out.size)))
  have HBy := Lib.hid (fun (w1 : World) (h : Below W1.heap.size W1 w1) => hB.below hB.lt (HBW.out.trans (h.mono HBW.out.size)))
  have HF1 := Lib.hid (fun (w1 : World) (h : Below W1.heap.size W1 w1) => few2_any w1 S E X A n c qs none 0 0 (HRA.out w1 h) hn hS hm)
  have HW1 := Lib.hid hW1
  rw [hf] at HF1
  have k0 : decide ((30000 : Int) < (m : Int)) = false := decide_eq_false (by omega)
  have HAp := Lib.hid (fun (w1 : World) (h : Below W1.heap.size W1 w1) => append_no w1 S E X A n c qs u d f Am m cm (HRA.out w1 h) (by omega) (by omega) hm5 (HFit.out w1 h) hw 1 hE (by decide))
  have HRi := Lib.hid (fun (w1 : World) (h : Below W1.heap.size W1 w1) => rRight_any w1 S E X A n c qs (HRA.out w1 h) (by omega))
  have HRG := Lib.hid hw
  have k1 : decide (d < 0) = false := decide_eq_false (by omega)
  have k2 : decide (253402300799 < d) = false := decide_eq_false (by omega)
  have k3 : decide (f < 0) = false := decide_eq_false (by omega)
  have k4 : decide (31 < f) = true := decide_eq_true hh
  clear hf hl hw hE z1 z2 z3 hn5 hm5 hd he hg hh
  clear hW1 hR hA hX hn hS hm hB hnil hr
  go_enter Tryd.func4, Tryd.ntmps4
  go_wp2_with fail
  rw [← HW1.out]
  refine (awake_any W1 (HFit.out _ (Below.refl _ _))).mono ?_
  rintro x w1 ⟨rfl, hb1⟩
  have HB1 := Lib.hid hb1
  have c0 := cell_at (HP1.out _ hb1) 0 _ rfl
  have c1 := cell_at (HP1.out _ hb1) 1 _ rfl
  have c2 := cell_at (HP1.out _ hb1) 2 _ rfl
  have c3 := cell_at (HP1.out _ hb1) 3 _ rfl
  clear hb1
  go_wp2_with fail
  clear c0 c1 c2 c3
  refine (HF1.out w1 HB1.out).mono ?_
  rintro x w2 ⟨rfl, hb2⟩
  have HB2 := Lib.hid (HB1.out.trans (hb2.mono HB1.out.size))
  clear hb2
  have c0 := cell_at (HP1.out _ HB2.out) 0 _ rfl
  have c1 := cell_at (HP1.out _ HB2.out) 1 _ rfl
  have c2 := cell_at (HP1.out _ HB2.out) 2 _ rfl
  have c3 := cell_at (HP1.out _ HB2.out) 3 _ rfl
  have m0 := cell_at (HP2.out _ HB2.out) 0 _ rfl
  have m1 := cell_at (HP2.out _ HB2.out) 1 _ rfl
  have m2 := cell_at (HP2.out _ HB2.out) 2 _ rfl
  have m3 := cell_at (HP2.out _ HB2.out) 3 _ rfl
  go_wp2_with fail
  clear c0 c1 c2 c3 m0 m1 m2 m3
  refine (HAp.out w2 HB2.out).mono ?_
  rintro x w3 ⟨rfl, hb3⟩
  have HB3 := Lib.hid (HB2.out.trans (hb3.mono HB2.out.size))
  clear hb3
  have hb4 : Below W1.heap.size W1 (w3.alloc (.cells #[.string ⟨#[]⟩, .int .u32 0, .int .u32 0, .slice none 0 0] 25)) := HB3.out.alloc HB3.out.size _
  have HB4 := Lib.hid hb4
  have HX4 := Lib.hid (fun (w' : World) (h : Below (w3.alloc (.cells #[.string ⟨#[]⟩, .int .u32 0, .int .u32 0, .slice none 0 0] 25)).heap.size (w3.alloc (.cells #[.string ⟨#[]⟩, .int .u32 0, .int .u32 0, .slice none 0 0] 25)) w') => (boxed h).1)
  have c0 := cell_at (HP1.out _ hb4) 0 _ rfl
  have c1 := cell_at (HP1.out _ hb4) 1 _ rfl
  have c2 := cell_at (HP1.out _ hb4) 2 _ rfl
  have c3 := cell_at (HP1.out _ hb4) 3 _ rfl
  clear hb4
  go_wp2_with fail
  clear c0 c1 c2 c3
  refine (HRi.out _ HB4.out).mono ?_
  rw [HRG.out]
  rintro x w5 ⟨rfl, hb5⟩
  have HX5 := Lib.hid (HX4.out _ hb5)
  have HB5 := Lib.hid (HB4.out.trans (hb5.mono HB4.out.size))
  clear hb5
  have m0 := cell_at (HP2.out _ HB5.out) 0 _ rfl
  have m1 := cell_at (HP2.out _ HB5.out) 1 _ rfl
  have m2 := cell_at (HP2.out _ HB5.out) 2 _ rfl
  have m3 := cell_at (HP2.out _ HB5.out) 3 _ rfl
  go_wp2_with fail
  go_ret
  exact ⟨rfl, HBW.out.trans (HB5.out.mono HBW.out.size)⟩
set_option maxHeartbeats 1000000 in
theorem appends_over (W : World) (S : ByteArray) (E X : Nat) (A : Option Addr) (n c : Nat) (qs : List Y) (u : Nat) (d f : Int) (Am : Option Addr) (m cm : Nat) (l : List Nat) (hR : Rd cM 4 W A n qs) (hA : A = none → c = 0) (hX : X < 4294967296) (hn : n ≤ 140737488355328) (hS : S.size ≤ 140737488355328) (hm : ∀ y ∈ qs, y.m ≤ 140737488355328) (hB : Bytes W Am m l) (hnil : Am = none → cm = 0) (hr : Fit W) (hf : fewB S (nts qs) = true) (hl : m ≤ 30000) (hw : right S E X (nts qs) = true) (hd : 0 ≤ d ∧ d ≤ 253402300799) (hg : 0 ≤ f ∧ f < 32) (ho : 20000 < m) :
    Calls Tryd.prog 4 #[.agg #[.string S, .int .u32 (E : Nat), .int .u32 (X : Nat), .slice A n c], .agg #[.int .u32 (u : Nat), .int .i64 d, .int .i64 f, .slice Am m cm]] W fun x w' => x = .returned (.bool true) ∧ Below W.heap.size W w' := by
  have hE : addE S E X (nts qs) d f m = 3 := by
    unfold addE
    rw [formed_of hw, fits_ok hd hg (Nat.zero_le _), if_neg (by simp), if_pos ho]
  obtain ⟨z1, z2, z3⟩ := fewB_size hf
  have hn5 : n ≤ 60000 := by rw [nts_len, hR.1] at z2; exact z2
  have hm5 : ∀ y ∈ qs, y.m ≤ 1000000 := fun y hy => by
    have h1 := z3 y.n (List.mem_map.2 ⟨y, hy, rfl⟩)
    have h2 := (rd_oct hR hy).1.1
    omega
  obtain ⟨W1, hW1⟩ : ∃ W1, W1 = (W.alloc (.cells #[.string S, .int .u32 (E : Nat), .int .u32 (X : Nat), .slice A n c] 25)).alloc (.cells #[.int .u32 (u : Nat), .int .i64 d, .int .i64 f, .slice Am m cm] 30) := ⟨_, rfl⟩
  have HBW := Lib.hid (show Below W.heap.size W W1 by rw [hW1]; exact ((Below.refl _ _).alloc (Nat.le_refl _) _).alloc (by simp) _)
  have HP1 := Lib.hid (fun (w' : World) (h : Below W1.heap.size W1 w') => show w'.heap[W.heap.size]? = some (.cells #[.string S, .int .u32 (E : Nat), .int .u32 (X : Nat), .slice A n c] 25 (0, 0)) from (h.block _ (by rw [hW1]; simp; omega)).trans (by rw [hW1, heap_alloc_old _ _ (by simp)]; exact heap_alloc_new _ _))
  have HP2 := Lib.hid (fun (w' : World) (h : Below W1.heap.size W1 w') => show w'.heap[W.heap.size + 1]? = some (.cells #[.int .u32 (u : Nat), .int .i64 d, .int .i64 f, .slice Am m cm] 30 (0, 0)) from (h.block _ (by rw [hW1]; simp)).trans (by rw [hW1]; have := heap_alloc_new (W.alloc (.cells #[.string S, .int .u32 (E : Nat), .int .u32 (X : Nat), .slice A n c] 25)) (.cells #[.int .u32 (u : Nat), .int .i64 d, .int .i64 f, .slice Am m cm] 30); simpa using this))
  have HFit := Lib.hid (fun (w1 : World) (h : Below W1.heap.size W1 w1) => hr.below (HBW.out.trans (h.mono HBW.out.size)))
  have HRA := Lib.hid (fun (w1 : World) (h : Below W1.heap.size W1 w1) => hR.below (HBW.out.trans (h.mono HBW.out.size)))
  have HBy := Lib.hid (fun (w1 : World) (h : Below W1.heap.size W1 w1) => hB.below hB.lt (HBW.out.trans (h.mono HBW.out.size)))
  have HF1 := Lib.hid (fun (w1 : World) (h : Below W1.heap.size W1 w1) => few2_any w1 S E X A n c qs none 0 0 (HRA.out w1 h) hn hS hm)
  have HW1 := Lib.hid hW1
  rw [hf] at HF1
  have k0 : decide ((30000 : Int) < (m : Int)) = false := decide_eq_false (by omega)
  have HAp := Lib.hid (fun (w1 : World) (h : Below W1.heap.size W1 w1) => append_no w1 S E X A n c qs u d f Am m cm (HRA.out w1 h) (by omega) (by omega) hm5 (HFit.out w1 h) hw 3 hE (by decide))
  have HRi := Lib.hid (fun (w1 : World) (h : Below W1.heap.size W1 w1) => rRight_any w1 S E X A n c qs (HRA.out w1 h) (by omega))
  have HRG := Lib.hid hw
  have k1 : decide (d < 0) = false := decide_eq_false (by omega)
  have k2 : decide (253402300799 < d) = false := decide_eq_false (by omega)
  have k3 : decide (f < 0) = false := decide_eq_false (by omega)
  have k4 : decide (31 < f) = false := decide_eq_false (by omega)
  have k5 : decide ((20000 : Int) < (m : Int)) = true := decide_eq_true (by omega)
  clear hf hl hw hE hd hg ho z1 z2 z3 hn5 hm5
  clear hW1 hR hA hX hn hS hm hB hnil hr
  go_enter Tryd.func4, Tryd.ntmps4
  go_wp2_with fail
  rw [← HW1.out]
  refine (awake_any W1 (HFit.out _ (Below.refl _ _))).mono ?_
  rintro x w1 ⟨rfl, hb1⟩
  have HB1 := Lib.hid hb1
  have c0 := cell_at (HP1.out _ hb1) 0 _ rfl
  have c1 := cell_at (HP1.out _ hb1) 1 _ rfl
  have c2 := cell_at (HP1.out _ hb1) 2 _ rfl
  have c3 := cell_at (HP1.out _ hb1) 3 _ rfl
  clear hb1
  go_wp2_with fail
  clear c0 c1 c2 c3
  refine (HF1.out w1 HB1.out).mono ?_
  rintro x w2 ⟨rfl, hb2⟩
  have HB2 := Lib.hid (HB1.out.trans (hb2.mono HB1.out.size))
  clear hb2
  have c0 := cell_at (HP1.out _ HB2.out) 0 _ rfl
  have c1 := cell_at (HP1.out _ HB2.out) 1 _ rfl
  have c2 := cell_at (HP1.out _ HB2.out) 2 _ rfl
  have c3 := cell_at (HP1.out _ HB2.out) 3 _ rfl
  have m0 := cell_at (HP2.out _ HB2.out) 0 _ rfl
  have m1 := cell_at (HP2.out _ HB2.out) 1 _ rfl
  have m2 := cell_at (HP2.out _ HB2.out) 2 _ rfl
  have m3 := cell_at (HP2.out _ HB2.out) 3 _ rfl
  go_wp2_with fail
  clear c0 c1 c2 c3 m0 m1 m2 m3
  refine (HAp.out w2 HB2.out).mono ?_
  rintro x w3 ⟨rfl, hb3⟩
  have HB3 := Lib.hid (HB2.out.trans (hb3.mono HB2.out.size))
  clear hb3
  have hb4 : Below W1.heap.size W1 (w3.alloc (.cells #[.string ⟨#[]⟩, .int .u32 0, .int .u32 0, .slice none 0 0] 25)) := HB3.out.alloc HB3.out.size _
  have HB4 := Lib.hid hb4
  have HX4 := Lib.hid (fun (w' : World) (h : Below (w3.alloc (.cells #[.string ⟨#[]⟩, .int .u32 0, .int .u32 0, .slice none 0 0] 25)).heap.size (w3.alloc (.cells #[.string ⟨#[]⟩, .int .u32 0, .int .u32 0, .slice none 0 0] 25)) w') => (boxed h).1)
  have c0 := cell_at (HP1.out _ hb4) 0 _ rfl
  have c1 := cell_at (HP1.out _ hb4) 1 _ rfl
  have c2 := cell_at (HP1.out _ hb4) 2 _ rfl
  have c3 := cell_at (HP1.out _ hb4) 3 _ rfl
  clear hb4
  go_wp2_with fail
  clear c0 c1 c2 c3
  refine (HRi.out _ HB4.out).mono ?_
  rw [HRG.out]
  rintro x w5 ⟨rfl, hb5⟩
  have HX5 := Lib.hid (HX4.out _ hb5)
  have HB5 := Lib.hid (HB4.out.trans (hb5.mono HB4.out.size))
  clear hb5
  have m0 := cell_at (HP2.out _ HB5.out) 0 _ rfl
  have m1 := cell_at (HP2.out _ HB5.out) 1 _ rfl
  have m2 := cell_at (HP2.out _ HB5.out) 2 _ rfl
  have m3 := cell_at (HP2.out _ HB5.out) 3 _ rfl
  go_wp2_with fail
  go_ret
  exact ⟨rfl, HBW.out.trans (HB5.out.mono HBW.out.size)⟩
set_option maxHeartbeats 2000000 in
theorem appends_full (W : World) (S : ByteArray) (E X : Nat) (A : Option Addr) (n c : Nat) (qs : List Y) (u : Nat) (d f : Int) (Am : Option Addr) (m cm : Nat) (l : List Nat) (hR : Rd cM 4 W A n qs) (hA : A = none → c = 0) (hX : X < 4294967296) (hn : n ≤ 140737488355328) (hS : S.size ≤ 140737488355328) (hm : ∀ y ∈ qs, y.m ≤ 140737488355328) (hB : Bytes W Am m l) (hnil : Am = none → cm = 0) (hr : Fit W) (hf : fewB S (nts qs) = true) (hl : m ≤ 20000) (hw : right S E X (nts qs) = true) (hd : 0 ≤ d ∧ d ≤ 253402300799) (hg : 0 ≤ f ∧ f < 32) (hn4 : n < 500) (hX4 : X = 4294967295) :
    Calls Tryd.prog 4 #[.agg #[.string S, .int .u32 (E : Nat), .int .u32 (X : Nat), .slice A n c], .agg #[.int .u32 (u : Nat), .int .i64 d, .int .i64 f, .slice Am m cm]] W fun x w' => x = .returned (.bool true) ∧ Below W.heap.size W w' := by
  have hE : addE S E X (nts qs) d f m = 4 := by
    unfold addE
    rw [formed_of hw, fits_ok hd hg (Nat.zero_le _), if_neg (by simp), if_neg (by omega), if_neg (by rw [nts_len, hR.1]; omega), if_pos hX4]
  obtain ⟨z1, z2, z3⟩ := fewB_size hf
  have hn5 : n ≤ 60000 := by rw [nts_len, hR.1] at z2; exact z2
  have hm5 : ∀ y ∈ qs, y.m ≤ 1000000 := fun y hy => by
    have h1 := z3 y.n (List.mem_map.2 ⟨y, hy, rfl⟩)
    have h2 := (rd_oct hR hy).1.1
    omega
  obtain ⟨W1, hW1⟩ : ∃ W1, W1 = (W.alloc (.cells #[.string S, .int .u32 (E : Nat), .int .u32 (X : Nat), .slice A n c] 25)).alloc (.cells #[.int .u32 (u : Nat), .int .i64 d, .int .i64 f, .slice Am m cm] 30) := ⟨_, rfl⟩
  have HBW := Lib.hid (show Below W.heap.size W W1 by rw [hW1]; exact ((Below.refl _ _).alloc (Nat.le_refl _) _).alloc (by simp) _)
  have HP1 := Lib.hid (fun (w' : World) (h : Below W1.heap.size W1 w') => show w'.heap[W.heap.size]? = some (.cells #[.string S, .int .u32 (E : Nat), .int .u32 (X : Nat), .slice A n c] 25 (0, 0)) from (h.block _ (by rw [hW1]; simp; omega)).trans (by rw [hW1, heap_alloc_old _ _ (by simp)]; exact heap_alloc_new _ _))
  have HP2 := Lib.hid (fun (w' : World) (h : Below W1.heap.size W1 w') => show w'.heap[W.heap.size + 1]? = some (.cells #[.int .u32 (u : Nat), .int .i64 d, .int .i64 f, .slice Am m cm] 30 (0, 0)) from (h.block _ (by rw [hW1]; simp)).trans (by rw [hW1]; have := heap_alloc_new (W.alloc (.cells #[.string S, .int .u32 (E : Nat), .int .u32 (X : Nat), .slice A n c] 25)) (.cells #[.int .u32 (u : Nat), .int .i64 d, .int .i64 f, .slice Am m cm] 30); simpa using this))
  have HFit := Lib.hid (fun (w1 : World) (h : Below W1.heap.size W1 w1) => hr.below (HBW.out.trans (h.mono HBW.out.size)))
  have HRA := Lib.hid (fun (w1 : World) (h : Below W1.heap.size W1 w1) => hR.below (HBW.out.trans (h.mono HBW.out.size)))
  have HBy := Lib.hid (fun (w1 : World) (h : Below W1.heap.size W1 w1) => hB.below hB.lt (HBW.out.trans (h.mono HBW.out.size)))
  have HF1 := Lib.hid (fun (w1 : World) (h : Below W1.heap.size W1 w1) => few2_any w1 S E X A n c qs none 0 0 (HRA.out w1 h) hn hS hm)
  have HW1 := Lib.hid hW1
  rw [hf] at HF1
  have k0 : decide ((30000 : Int) < (m : Int)) = false := decide_eq_false (by omega)
  have HAp := Lib.hid (fun (w1 : World) (h : Below W1.heap.size W1 w1) => append_no w1 S E X A n c qs u d f Am m cm (HRA.out w1 h) (by omega) (by omega) hm5 (HFit.out w1 h) hw 4 hE (by decide))
  have HRi := Lib.hid (fun (w1 : World) (h : Below W1.heap.size W1 w1) => rRight_any w1 S E X A n c qs (HRA.out w1 h) (by omega))
  have HRe := Lib.hid (fun (w1 : World) => rappend_full w1 S E X A n c u d f Am m cm hn4 hX4)
  have HRG := Lib.hid hw
  have k1 : decide (d < 0) = false := decide_eq_false (by omega)
  have k2 : decide (253402300799 < d) = false := decide_eq_false (by omega)
  have k3 : decide (f < 0) = false := decide_eq_false (by omega)
  have k4 : decide (31 < f) = false := decide_eq_false (by omega)
  have k5 : decide ((20000 : Int) < (m : Int)) = false := decide_eq_false (by omega)
  clear hf hl hw hE hd hg z1 z2 z3 hn5 hm5 hn4 hX4
  clear hW1 hR hA hX hn hS hm hB hnil hr
  go_enter Tryd.func4, Tryd.ntmps4
  go_wp2_with fail
  rw [← HW1.out]
  refine (awake_any W1 (HFit.out _ (Below.refl _ _))).mono ?_
  rintro x w1 ⟨rfl, hb1⟩
  have HB1 := Lib.hid hb1
  have c0 := cell_at (HP1.out _ hb1) 0 _ rfl
  have c1 := cell_at (HP1.out _ hb1) 1 _ rfl
  have c2 := cell_at (HP1.out _ hb1) 2 _ rfl
  have c3 := cell_at (HP1.out _ hb1) 3 _ rfl
  clear hb1
  go_wp2_with fail
  clear c0 c1 c2 c3
  refine (HF1.out w1 HB1.out).mono ?_
  rintro x w2 ⟨rfl, hb2⟩
  have HB2 := Lib.hid (HB1.out.trans (hb2.mono HB1.out.size))
  clear hb2
  have c0 := cell_at (HP1.out _ HB2.out) 0 _ rfl
  have c1 := cell_at (HP1.out _ HB2.out) 1 _ rfl
  have c2 := cell_at (HP1.out _ HB2.out) 2 _ rfl
  have c3 := cell_at (HP1.out _ HB2.out) 3 _ rfl
  have m0 := cell_at (HP2.out _ HB2.out) 0 _ rfl
  have m1 := cell_at (HP2.out _ HB2.out) 1 _ rfl
  have m2 := cell_at (HP2.out _ HB2.out) 2 _ rfl
  have m3 := cell_at (HP2.out _ HB2.out) 3 _ rfl
  go_wp2_with fail
  clear c0 c1 c2 c3 m0 m1 m2 m3
  refine (HAp.out w2 HB2.out).mono ?_
  rintro x w3 ⟨rfl, hb3⟩
  have HB3 := Lib.hid (HB2.out.trans (hb3.mono HB2.out.size))
  clear hb3
  have hb4 : Below W1.heap.size W1 (w3.alloc (.cells #[.string ⟨#[]⟩, .int .u32 0, .int .u32 0, .slice none 0 0] 25)) := HB3.out.alloc HB3.out.size _
  have HB4 := Lib.hid hb4
  have HX4 := Lib.hid (fun (w' : World) (h : Below (w3.alloc (.cells #[.string ⟨#[]⟩, .int .u32 0, .int .u32 0, .slice none 0 0] 25)).heap.size (w3.alloc (.cells #[.string ⟨#[]⟩, .int .u32 0, .int .u32 0, .slice none 0 0] 25)) w') => (boxed h).1)
  have c0 := cell_at (HP1.out _ hb4) 0 _ rfl
  have c1 := cell_at (HP1.out _ hb4) 1 _ rfl
  have c2 := cell_at (HP1.out _ hb4) 2 _ rfl
  have c3 := cell_at (HP1.out _ hb4) 3 _ rfl
  clear hb4
  go_wp2_with fail
  clear c0 c1 c2 c3
  refine (HRi.out _ HB4.out).mono ?_
  rw [HRG.out]
  rintro x w5 ⟨rfl, hb5⟩
  have HX5 := Lib.hid (HX4.out _ hb5)
  have HB5 := Lib.hid (HB4.out.trans (hb5.mono HB4.out.size))
  clear hb5
  have m0 := cell_at (HP2.out _ HB5.out) 0 _ rfl
  have m1 := cell_at (HP2.out _ HB5.out) 1 _ rfl
  have m2 := cell_at (HP2.out _ HB5.out) 2 _ rfl
  have m3 := cell_at (HP2.out _ HB5.out) 3 _ rfl
  have c0 := cell_at (HP1.out _ HB5.out) 0 _ rfl
  have c1 := cell_at (HP1.out _ HB5.out) 1 _ rfl
  have c2 := cell_at (HP1.out _ HB5.out) 2 _ rfl
  have c3 := cell_at (HP1.out _ HB5.out) 3 _ rfl
  go_wp2_with fail
  clear c0 c1 c2 c3 m0 m1 m2 m3
  refine (HRe.out w5).mono ?_
  rintro x w6 ⟨rfl, hb6⟩
  have HB6 := Lib.hid (HB5.out.trans (hb6.mono HB5.out.size))
  have hlt := (Array.getElem?_eq_some_iff.1 HX5.out).1
  have hx7 : (w6.alloc (.cells #[.string ⟨#[]⟩, .int .u32 0, .int .u32 0, .slice none 0 0] 25)).heap[w3.heap.size]? = some (.cells #[.string ⟨#[]⟩, .int .u32 0, .int .u32 0, .slice none 0 0] 25 (0, 0)) := by rw [heap_alloc_old _ _ (Nat.lt_of_lt_of_le hlt hb6.size), hb6.block _ hlt]; exact HX5.out
  have HB7 := Lib.hid (HB6.out.alloc HB6.out.size (.cells #[.string ⟨#[]⟩, .int .u32 0, .int .u32 0, .slice none 0 0] 25))
  have x0 := cell_at hx7 0 _ rfl
  have x1 := cell_at hx7 1 _ rfl
  have x2 := cell_at hx7 2 _ rfl
  have x3 := cell_at hx7 3 _ rfl
  have HSB := Lib.hid (sameBox_any (w6.alloc (.cells #[.string ⟨#[]⟩, .int .u32 0, .int .u32 0, .slice none 0 0] 25)) ⟨#[]⟩ ⟨#[]⟩ 0 0 0 0 none none 0 0 0 0 [] [] (lg.Rd.empty _) (lg.Rd.empty _) (by decide))
  rw [show nts [] = [] from rfl, sameB_self] at HSB
  clear hb6 hlt hx7
  go_wp2_with fail
  refine HSB.out.mono ?_
  rintro x w8 ⟨rfl, hb8⟩
  have HB8 := Lib.hid (HB7.out.trans (hb8.mono HB7.out.size))
  clear hb8 x0 x1 x2 x3
  go_wp2_with fail
  go_ret
  exact ⟨rfl, HBW.out.trans (HB8.out.mono HBW.out.size)⟩
set_option maxHeartbeats 2000000 in
theorem appends_manyM (W : World) (S : ByteArray) (E X : Nat) (A : Option Addr) (n c : Nat) (qs : List Y) (u : Nat) (d f : Int) (Am : Option Addr) (m cm : Nat) (l : List Nat) (hR : Rd cM 4 W A n qs) (hA : A = none → c = 0) (hX : X < 4294967296) (hn : n ≤ 140737488355328) (hS : S.size ≤ 140737488355328) (hm : ∀ y ∈ qs, y.m ≤ 140737488355328) (hB : Bytes W Am m l) (hnil : Am = none → cm = 0) (hr : Fit W) (hf : fewB S (nts qs) = true) (hl : m ≤ 20000) (hw : right S E X (nts qs) = true) (hd : 0 ≤ d ∧ d ≤ 253402300799) (hg : 0 ≤ f ∧ f < 32) (hn4 : 500 ≤ n) :
    Calls Tryd.prog 4 #[.agg #[.string S, .int .u32 (E : Nat), .int .u32 (X : Nat), .slice A n c], .agg #[.int .u32 (u : Nat), .int .i64 d, .int .i64 f, .slice Am m cm]] W fun x w' => x = .returned (.bool true) ∧ Below W.heap.size W w' := by
  have hE : addE S E X (nts qs) d f m = 5 := by
    unfold addE
    rw [formed_of hw, fits_ok hd hg (Nat.zero_le _), if_neg (by simp), if_neg (by omega), if_pos (by rw [nts_len, hR.1]; omega)]
  obtain ⟨z1, z2, z3⟩ := fewB_size hf
  have hn5 : n ≤ 60000 := by rw [nts_len, hR.1] at z2; exact z2
  have hm5 : ∀ y ∈ qs, y.m ≤ 1000000 := fun y hy => by
    have h1 := z3 y.n (List.mem_map.2 ⟨y, hy, rfl⟩)
    have h2 := (rd_oct hR hy).1.1
    omega
  obtain ⟨W1, hW1⟩ : ∃ W1, W1 = (W.alloc (.cells #[.string S, .int .u32 (E : Nat), .int .u32 (X : Nat), .slice A n c] 25)).alloc (.cells #[.int .u32 (u : Nat), .int .i64 d, .int .i64 f, .slice Am m cm] 30) := ⟨_, rfl⟩
  have HBW := Lib.hid (show Below W.heap.size W W1 by rw [hW1]; exact ((Below.refl _ _).alloc (Nat.le_refl _) _).alloc (by simp) _)
  have HP1 := Lib.hid (fun (w' : World) (h : Below W1.heap.size W1 w') => show w'.heap[W.heap.size]? = some (.cells #[.string S, .int .u32 (E : Nat), .int .u32 (X : Nat), .slice A n c] 25 (0, 0)) from (h.block _ (by rw [hW1]; simp; omega)).trans (by rw [hW1, heap_alloc_old _ _ (by simp)]; exact heap_alloc_new _ _))
  have HP2 := Lib.hid (fun (w' : World) (h : Below W1.heap.size W1 w') => show w'.heap[W.heap.size + 1]? = some (.cells #[.int .u32 (u : Nat), .int .i64 d, .int .i64 f, .slice Am m cm] 30 (0, 0)) from (h.block _ (by rw [hW1]; simp)).trans (by rw [hW1]; have := heap_alloc_new (W.alloc (.cells #[.string S, .int .u32 (E : Nat), .int .u32 (X : Nat), .slice A n c] 25)) (.cells #[.int .u32 (u : Nat), .int .i64 d, .int .i64 f, .slice Am m cm] 30); simpa using this))
  have HFit := Lib.hid (fun (w1 : World) (h : Below W1.heap.size W1 w1) => hr.below (HBW.out.trans (h.mono HBW.out.size)))
  have HRA := Lib.hid (fun (w1 : World) (h : Below W1.heap.size W1 w1) => hR.below (HBW.out.trans (h.mono HBW.out.size)))
  have HBy := Lib.hid (fun (w1 : World) (h : Below W1.heap.size W1 w1) => hB.below hB.lt (HBW.out.trans (h.mono HBW.out.size)))
  have HF1 := Lib.hid (fun (w1 : World) (h : Below W1.heap.size W1 w1) => few2_any w1 S E X A n c qs none 0 0 (HRA.out w1 h) hn hS hm)
  have HW1 := Lib.hid hW1
  rw [hf] at HF1
  have k0 : decide ((30000 : Int) < (m : Int)) = false := decide_eq_false (by omega)
  have HAp := Lib.hid (fun (w1 : World) (h : Below W1.heap.size W1 w1) => append_no w1 S E X A n c qs u d f Am m cm (HRA.out w1 h) (by omega) (by omega) hm5 (HFit.out w1 h) hw 5 hE (by decide))
  have HRi := Lib.hid (fun (w1 : World) (h : Below W1.heap.size W1 w1) => rRight_any w1 S E X A n c qs (HRA.out w1 h) (by omega))
  have HRe := Lib.hid (fun (w1 : World) => rappend_many w1 S E X A n c u d f Am m cm hn4)
  have HRG := Lib.hid hw
  have k1 : decide (d < 0) = false := decide_eq_false (by omega)
  have k2 : decide (253402300799 < d) = false := decide_eq_false (by omega)
  have k3 : decide (f < 0) = false := decide_eq_false (by omega)
  have k4 : decide (31 < f) = false := decide_eq_false (by omega)
  have k5 : decide ((20000 : Int) < (m : Int)) = false := decide_eq_false (by omega)
  clear hf hl hw hE hd hg z1 z2 z3 hn5 hm5 hn4
  clear hW1 hR hA hX hn hS hm hB hnil hr
  go_enter Tryd.func4, Tryd.ntmps4
  go_wp2_with fail
  rw [← HW1.out]
  refine (awake_any W1 (HFit.out _ (Below.refl _ _))).mono ?_
  rintro x w1 ⟨rfl, hb1⟩
  have HB1 := Lib.hid hb1
  have c0 := cell_at (HP1.out _ hb1) 0 _ rfl
  have c1 := cell_at (HP1.out _ hb1) 1 _ rfl
  have c2 := cell_at (HP1.out _ hb1) 2 _ rfl
  have c3 := cell_at (HP1.out _ hb1) 3 _ rfl
  clear hb1
  go_wp2_with fail
  clear c0 c1 c2 c3
  refine (HF1.out w1 HB1.out).mono ?_
  rintro x w2 ⟨rfl, hb2⟩
  have HB2 := Lib.hid (HB1.out.trans (hb2.mono HB1.out.size))
  clear hb2
  have c0 := cell_at (HP1.out _ HB2.out) 0 _ rfl
  have c1 := cell_at (HP1.out _ HB2.out) 1 _ rfl
  have c2 := cell_at (HP1.out _ HB2.out) 2 _ rfl
  have c3 := cell_at (HP1.out _ HB2.out) 3 _ rfl
  have m0 := cell_at (HP2.out _ HB2.out) 0 _ rfl
  have m1 := cell_at (HP2.out _ HB2.out) 1 _ rfl
  have m2 := cell_at (HP2.out _ HB2.out) 2 _ rfl
  have m3 := cell_at (HP2.out _ HB2.out) 3 _ rfl
  go_wp2_with fail
  clear c0 c1 c2 c3 m0 m1 m2 m3
  refine (HAp.out w2 HB2.out).mono ?_
  rintro x w3 ⟨rfl, hb3⟩
  have HB3 := Lib.hid (HB2.out.trans (hb3.mono HB2.out.size))
  clear hb3
  have hb4 : Below W1.heap.size W1 (w3.alloc (.cells #[.string ⟨#[]⟩, .int .u32 0, .int .u32 0, .slice none 0 0] 25)) := HB3.out.alloc HB3.out.size _
  have HB4 := Lib.hid hb4
  have HX4 := Lib.hid (fun (w' : World) (h : Below (w3.alloc (.cells #[.string ⟨#[]⟩, .int .u32 0, .int .u32 0, .slice none 0 0] 25)).heap.size (w3.alloc (.cells #[.string ⟨#[]⟩, .int .u32 0, .int .u32 0, .slice none 0 0] 25)) w') => (boxed h).1)
  have c0 := cell_at (HP1.out _ hb4) 0 _ rfl
  have c1 := cell_at (HP1.out _ hb4) 1 _ rfl
  have c2 := cell_at (HP1.out _ hb4) 2 _ rfl
  have c3 := cell_at (HP1.out _ hb4) 3 _ rfl
  clear hb4
  go_wp2_with fail
  clear c0 c1 c2 c3
  refine (HRi.out _ HB4.out).mono ?_
  rw [HRG.out]
  rintro x w5 ⟨rfl, hb5⟩
  have HX5 := Lib.hid (HX4.out _ hb5)
  have HB5 := Lib.hid (HB4.out.trans (hb5.mono HB4.out.size))
  clear hb5
  have m0 := cell_at (HP2.out _ HB5.out) 0 _ rfl
  have m1 := cell_at (HP2.out _ HB5.out) 1 _ rfl
  have m2 := cell_at (HP2.out _ HB5.out) 2 _ rfl
  have m3 := cell_at (HP2.out _ HB5.out) 3 _ rfl
  have c0 := cell_at (HP1.out _ HB5.out) 0 _ rfl
  have c1 := cell_at (HP1.out _ HB5.out) 1 _ rfl
  have c2 := cell_at (HP1.out _ HB5.out) 2 _ rfl
  have c3 := cell_at (HP1.out _ HB5.out) 3 _ rfl
  go_wp2_with fail
  clear c0 c1 c2 c3 m0 m1 m2 m3
  refine (HRe.out w5).mono ?_
  rintro x w6 ⟨rfl, hb6⟩
  have HB6 := Lib.hid (HB5.out.trans (hb6.mono HB5.out.size))
  have hlt := (Array.getElem?_eq_some_iff.1 HX5.out).1
  have hx7 : (w6.alloc (.cells #[.string ⟨#[]⟩, .int .u32 0, .int .u32 0, .slice none 0 0] 25)).heap[w3.heap.size]? = some (.cells #[.string ⟨#[]⟩, .int .u32 0, .int .u32 0, .slice none 0 0] 25 (0, 0)) := by rw [heap_alloc_old _ _ (Nat.lt_of_lt_of_le hlt hb6.size), hb6.block _ hlt]; exact HX5.out
  have HB7 := Lib.hid (HB6.out.alloc HB6.out.size (.cells #[.string ⟨#[]⟩, .int .u32 0, .int .u32 0, .slice none 0 0] 25))
  have x0 := cell_at hx7 0 _ rfl
  have x1 := cell_at hx7 1 _ rfl
  have x2 := cell_at hx7 2 _ rfl
  have x3 := cell_at hx7 3 _ rfl
  have HSB := Lib.hid (sameBox_any (w6.alloc (.cells #[.string ⟨#[]⟩, .int .u32 0, .int .u32 0, .slice none 0 0] 25)) ⟨#[]⟩ ⟨#[]⟩ 0 0 0 0 none none 0 0 0 0 [] [] (lg.Rd.empty _) (lg.Rd.empty _) (by decide))
  rw [show nts [] = [] from rfl, sameB_self] at HSB
  clear hb6 hlt hx7
  go_wp2_with fail
  refine HSB.out.mono ?_
  rintro x w8 ⟨rfl, hb8⟩
  have HB8 := Lib.hid (HB7.out.trans (hb8.mono HB7.out.size))
  clear hb8 x0 x1 x2 x3
  go_wp2_with fail
  go_ret
  exact ⟨rfl, HBW.out.trans (HB8.out.mono HBW.out.size)⟩
set_option maxHeartbeats 4000000 in
theorem appends_yes (W : World) (S : ByteArray) (E X : Nat) (A : Option Addr) (n c : Nat) (qs : List Y) (u : Nat) (d f : Int) (Am : Option Addr) (m cm : Nat) (l : List Nat) (hR : Rd cM 4 W A n qs) (hA : A = none → c = 0) (hX : X < 4294967296) (hn : n ≤ 140737488355328) (hS : S.size ≤ 140737488355328) (hm : ∀ y ∈ qs, y.m ≤ 140737488355328) (hB : Bytes W Am m l) (hnil : Am = none → cm = 0) (hr : Fit W) (hf : fewB S (nts qs) = true) (hl : m ≤ 20000) (hw : right S E X (nts qs) = true) (hd : 0 ≤ d ∧ d ≤ 253402300799) (hg : 0 ≤ f ∧ f < 32) (hn4 : n < 500) (hX4 : X < 4294967295) :
    Calls Tryd.prog 4 #[.agg #[.string S, .int .u32 (E : Nat), .int .u32 (X : Nat), .slice A n c], .agg #[.int .u32 (u : Nat), .int .i64 d, .int .i64 f, .slice Am m cm]] W fun x w' => x = .returned (.bool true) ∧ Below W.heap.size W w' := by
  have hE : addE S E X (nts qs) d f m = 0 := by
    unfold addE
    rw [formed_of hw, fits_ok hd hg (Nat.zero_le _), if_neg (by simp), if_neg (by omega), if_neg (by rw [nts_len, hR.1]; omega), if_neg (by omega)]
  have hR2 : right S E (X + 1) (nts qs ++ [⟨2, E, S, X, d, f, l⟩]) = true := right_snoc hw (by rw [nts_len, hR.1]; omega) rfl (fits_ok hd hg (show l.length ≤ 20000 by rw [hB.1]; exact hl))
  obtain ⟨z1, z2, z3⟩ := fewB_size hf
  have hn5 : n ≤ 60000 := by rw [nts_len, hR.1] at z2; exact z2
  have hm5 : ∀ y ∈ qs, y.m ≤ 1000000 := fun y hy => by
    have h1 := z3 y.n (List.mem_map.2 ⟨y, hy, rfl⟩)
    have h2 := (rd_oct hR hy).1.1
    omega
  obtain ⟨W1, hW1⟩ : ∃ W1, W1 = (W.alloc (.cells #[.string S, .int .u32 (E : Nat), .int .u32 (X : Nat), .slice A n c] 25)).alloc (.cells #[.int .u32 (u : Nat), .int .i64 d, .int .i64 f, .slice Am m cm] 30) := ⟨_, rfl⟩
  have HBW := Lib.hid (show Below W.heap.size W W1 by rw [hW1]; exact ((Below.refl _ _).alloc (Nat.le_refl _) _).alloc (by simp) _)
  have HP1 := Lib.hid (fun (w' : World) (h : Below W1.heap.size W1 w') => show w'.heap[W.heap.size]? = some (.cells #[.string S, .int .u32 (E : Nat), .int .u32 (X : Nat), .slice A n c] 25 (0, 0)) from (h.block _ (by rw [hW1]; simp; omega)).trans (by rw [hW1, heap_alloc_old _ _ (by simp)]; exact heap_alloc_new _ _))
  have HP2 := Lib.hid (fun (w' : World) (h : Below W1.heap.size W1 w') => show w'.heap[W.heap.size + 1]? = some (.cells #[.int .u32 (u : Nat), .int .i64 d, .int .i64 f, .slice Am m cm] 30 (0, 0)) from (h.block _ (by rw [hW1]; simp)).trans (by rw [hW1]; have := heap_alloc_new (W.alloc (.cells #[.string S, .int .u32 (E : Nat), .int .u32 (X : Nat), .slice A n c] 25)) (.cells #[.int .u32 (u : Nat), .int .i64 d, .int .i64 f, .slice Am m cm] 30); simpa using this))
  have HFit := Lib.hid (fun (w1 : World) (h : Below W1.heap.size W1 w1) => hr.below (HBW.out.trans (h.mono HBW.out.size)))
  have HRA := Lib.hid (fun (w1 : World) (h : Below W1.heap.size W1 w1) => hR.below (HBW.out.trans (h.mono HBW.out.size)))
  have HBy := Lib.hid (fun (w1 : World) (h : Below W1.heap.size W1 w1) => hB.below hB.lt (HBW.out.trans (h.mono HBW.out.size)))
  have HF1 := Lib.hid (fun (w1 : World) (h : Below W1.heap.size W1 w1) => few2_any w1 S E X A n c qs none 0 0 (HRA.out w1 h) hn hS hm)
  have HW1 := Lib.hid hW1
  rw [hf] at HF1
  have k0 : decide ((30000 : Int) < (m : Int)) = false := decide_eq_false (by omega)
  have HAp := Lib.hid (fun (w1 : World) (h : Below W1.heap.size W1 w1) => append_yes w1 S E X A n c qs u d f Am m cm (HRA.out w1 h) (by omega) (by omega) hm5 (HFit.out w1 h) hw hX l (HBy.out w1 h) hnil hE)
  have HRi := Lib.hid (fun (w1 : World) (h : Below W1.heap.size W1 w1) => rRight_any w1 S E X A n c qs (HRA.out w1 h) (by omega))
  have HRe := Lib.hid (fun (w1 : World) (h : Below W1.heap.size W1 w1) => rappend_yes w1 S E X A n c u d f Am m cm qs (HRA.out w1 h) hA hn4 hX4 l (HBy.out w1 h) hnil)
  have HRG := Lib.hid hw
  have HRG2 := Lib.hid hR2
  have HSZ := Lib.hid z1
  have HNL := Lib.hid (show (nts qs ++ [(⟨2, E, S, X, d, f, l⟩ : Nt)]).length ≤ 500 by simp [nts_len, hR.1]; omega)
  have k1 : decide (d < 0) = false := decide_eq_false (by omega)
  have k2 : decide (253402300799 < d) = false := decide_eq_false (by omega)
  have k3 : decide (f < 0) = false := decide_eq_false (by omega)
  have k4 : decide (31 < f) = false := decide_eq_false (by omega)
  have k5 : decide ((20000 : Int) < (m : Int)) = false := decide_eq_false (by omega)
  clear hf hl hw hE hR2 hd hg z1 z2 z3 hn5 hm5 hn4 hX4
  clear hW1 hR hA hX hn hS hm hB hnil hr
  go_enter Tryd.func4, Tryd.ntmps4
  go_wp2_with fail
  rw [← HW1.out]
  refine (awake_any W1 (HFit.out _ (Below.refl _ _))).mono ?_
  rintro x w1 ⟨rfl, hb1⟩
  have HB1 := Lib.hid hb1
  have c0 := cell_at (HP1.out _ hb1) 0 _ rfl
  have c1 := cell_at (HP1.out _ hb1) 1 _ rfl
  have c2 := cell_at (HP1.out _ hb1) 2 _ rfl
  have c3_ := cell_at (HP1.out _ hb1) 3 _ rfl
  clear hb1
  go_wp2_with fail
  clear c0 c1 c2 c3_
  refine (HF1.out w1 HB1.out).mono ?_
  rintro x w2 ⟨rfl, hb2⟩
  have HB2 := Lib.hid (HB1.out.trans (hb2.mono HB1.out.size))
  clear hb2
  have c0 := cell_at (HP1.out _ HB2.out) 0 _ rfl
  have c1 := cell_at (HP1.out _ HB2.out) 1 _ rfl
  have c2 := cell_at (HP1.out _ HB2.out) 2 _ rfl
  have c3_ := cell_at (HP1.out _ HB2.out) 3 _ rfl
  have m0 := cell_at (HP2.out _ HB2.out) 0 _ rfl
  have m1 := cell_at (HP2.out _ HB2.out) 1 _ rfl
  have m2 := cell_at (HP2.out _ HB2.out) 2 _ rfl
  have m3 := cell_at (HP2.out _ HB2.out) 3 _ rfl
  go_wp2_with fail
  clear c0 c1 c2 c3_ m0 m1 m2 m3
  refine (HAp.out w2 HB2.out).mono ?_
  rintro x w3 ⟨A3, n3, c3, ys3, rfl, ho3, hl3, hb3⟩
  have HB3 := Lib.hid (HB2.out.trans (hb3.mono HB2.out.size))
  have HO3 := Lib.hid ho3
  have HL3 := Lib.hid hl3
  clear hb3 ho3 hl3
  have hb4 : Below W1.heap.size W1 (w3.alloc (.cells #[.string S, .int .u32 (E : Nat), .int .u32 ((X : Int) + 1), .slice A3 n3 c3] 25)) := HB3.out.alloc HB3.out.size _
  have HB4 := Lib.hid hb4
  have HX4 := Lib.hid (fun (w' : World) (h : Below (w3.alloc (.cells #[.string S, .int .u32 (E : Nat), .int .u32 ((X : Int) + 1), .slice A3 n3 c3] 25)).heap.size (w3.alloc (.cells #[.string S, .int .u32 (E : Nat), .int .u32 ((X : Int) + 1), .slice A3 n3 c3] 25)) w') => (boxed h).1)
  have c0 := cell_at (HP1.out _ hb4) 0 _ rfl
  have c1 := cell_at (HP1.out _ hb4) 1 _ rfl
  have c2 := cell_at (HP1.out _ hb4) 2 _ rfl
  have c3_ := cell_at (HP1.out _ hb4) 3 _ rfl
  clear hb4
  go_wp2_with fail
  clear c0 c1 c2 c3_
  refine (HRi.out _ HB4.out).mono ?_
  rw [HRG.out]
  rintro x w5 ⟨rfl, hb5⟩
  have HX5 := Lib.hid (HX4.out _ hb5)
  have HB35 := Lib.hid (show Below w3.heap.size w3 w5 from (boxed hb5).2)
  have HB5 := Lib.hid (HB4.out.trans (hb5.mono HB4.out.size))
  clear hb5
  have m0 := cell_at (HP2.out _ HB5.out) 0 _ rfl
  have m1 := cell_at (HP2.out _ HB5.out) 1 _ rfl
  have m2 := cell_at (HP2.out _ HB5.out) 2 _ rfl
  have m3 := cell_at (HP2.out _ HB5.out) 3 _ rfl
  have c0 := cell_at (HP1.out _ HB5.out) 0 _ rfl
  have c1 := cell_at (HP1.out _ HB5.out) 1 _ rfl
  have c2 := cell_at (HP1.out _ HB5.out) 2 _ rfl
  have c3_ := cell_at (HP1.out _ HB5.out) 3 _ rfl
  go_wp2_with fail
  clear c0 c1 c2 c3_ m0 m1 m2 m3
  refine (HRe.out w5 HB5.out).mono ?_
  rintro x w6 ⟨A6, n6, c6, ys6, rfl, ho6, hl6, hb6⟩
  have HB6 := Lib.hid (HB5.out.trans (hb6.mono HB5.out.size))
  have hlt := (Array.getElem?_eq_some_iff.1 HX5.out).1
  have h36 : Below w3.heap.size w3 w6 := HB35.out.trans (hb6.mono HB35.out.size)
  have hx7 : (w6.alloc (.cells #[.string S, .int .u32 (E : Nat), .int .u32 ((X : Int) + 1), .slice A6 n6 c6] 25)).heap[w3.heap.size]? = some (.cells #[.string S, .int .u32 (E : Nat), .int .u32 ((X : Int) + 1), .slice A3 n3 c3] 25 (0, 0)) := by rw [heap_alloc_old _ _ (Nat.lt_of_lt_of_le hlt hb6.size), hb6.block _ hlt]; exact HX5.out
  have HB7 := Lib.hid (HB6.out.alloc HB6.out.size (.cells #[.string S, .int .u32 (E : Nat), .int .u32 ((X : Int) + 1), .slice A6 n6 c6] 25))
  have h67 : Below w6.heap.size w6 (w6.alloc (.cells #[.string S, .int .u32 (E : Nat), .int .u32 ((X : Int) + 1), .slice A6 n6 c6] 25)) := (Below.refl _ _).alloc (Nat.le_refl _) _
  have HR3 := Lib.hid (fun (w' : World) (h : Below (w6.alloc (.cells #[.string S, .int .u32 (E : Nat), .int .u32 ((X : Int) + 1), .slice A6 n6 c6] 25)).heap.size (w6.alloc (.cells #[.string S, .int .u32 (E : Nat), .int .u32 ((X : Int) + 1), .slice A6 n6 c6] 25)) w') => (own_rd HO3.out).1.below (h36.trans ((h67.trans (h.mono h67.size)).mono h36.size)))
  have HR6 := Lib.hid ((own_rd ho6).1.below h67)
  have x0 := cell_at hx7 0 _ rfl
  have x1 := cell_at hx7 1 _ rfl
  have x2 := cell_at hx7 2 _ rfl
  have x3 := cell_at hx7 3 _ rfl
  have HX7 := Lib.hid hx7
  have HSB := Lib.hid (sameBox_any (w6.alloc (.cells #[.string S, .int .u32 (E : Nat), .int .u32 ((X : Int) + 1), .slice A6 n6 c6] 25)) S S E (X + 1) E (X + 1) A3 A6 n3 c3 n6 c6 ys3 ys6 (HR3.out _ (Below.refl _ _)) HR6.out (by have h1 := (own_rd HO3.out).1.1; have h2 := HNL.out; rw [← HL3.out, nts_len] at h2; omega))
  have e1 : ((X + 1 : Nat) : Int) = (X : Int) + 1 := by omega
  rw [HL3.out, hl6, sameB_self, e1] at HSB
  have HE1 := Lib.hid e1
  clear e1
  clear hb6 hlt hx7 h36 h67 ho6 hl6
  go_wp2_with fail
  refine HSB.out.mono ?_
  rintro x w8 ⟨rfl, hb8⟩
  have HB8 := Lib.hid (HB7.out.trans (hb8.mono HB7.out.size))
  have HRR := Lib.hid (rRight_any w8 S E (X + 1) A3 n3 c3 ys3 (HR3.out _ hb8) (by have := HSZ.out; omega))
  rw [HL3.out, HRG2.out, HE1.out] at HRR
  have hx8 := (hb8.block _ (Array.getElem?_eq_some_iff.1 HX7.out).1).trans HX7.out
  clear x0 x1 x2 x3 hb8
  have x0 := cell_at hx8 0 _ rfl
  have x1 := cell_at hx8 1 _ rfl
  have x2 := cell_at hx8 2 _ rfl
  have x3 := cell_at hx8 3 _ rfl
  clear hx8
  go_wp2_with fail
  refine HRR.out.mono ?_
  rintro x w9 ⟨rfl, hb9⟩
  have HB9 := Lib.hid (HB8.out.trans (hb9.mono HB8.out.size))
  clear hb9 x0 x1 x2 x3
  have cc2 := cell_at (HP1.out _ HB9.out) 2 _ rfl
  go_wp2_with fail
  go_ret
  exact ⟨rfl, HBW.out.trans (HB9.out.mono HBW.out.size)⟩
theorem appends_walk (W : World) (S : ByteArray) (E X : Nat) (A : Option Addr) (n c : Nat) (qs : List Y) (u : Nat) (d f : Int) (Am : Option Addr) (m cm : Nat) (l : List Nat) (hR : Rd cM 4 W A n qs) (hA : A = none → c = 0) (hX : X < 4294967296) (hn : n ≤ 140737488355328) (hS : S.size ≤ 140737488355328) (hm : ∀ y ∈ qs, y.m ≤ 140737488355328) (hB : Bytes W Am m l) (hnil : Am = none → cm = 0) (hr : Fit W) :
    Calls Tryd.prog 4 #[.agg #[.string S, .int .u32 (E : Nat), .int .u32 (X : Nat), .slice A n c], .agg #[.int .u32 (u : Nat), .int .i64 d, .int .i64 f, .slice Am m cm]] W fun x w' => x = .returned (.bool true) ∧ Below W.heap.size W w' := by
  cases hf : fewB S (nts qs) with
  | false => exact appends_many W S E X A n c qs u d f Am m cm l hR hA hX hn hS hm hB hnil hr hf
  | true =>
    by_cases hl : 30000 < m
    · exact appends_long W S E X A n c qs u d f Am m cm l hR hA hX hn hS hm hB hnil hr hf hl
    · cases hw : right S E X (nts qs) with
      | false => exact appends_wrong W S E X A n c qs u d f Am m cm l hR hA hX hn hS hm hB hnil hr hf (by omega) hw
      | true =>
        by_cases h1 : d < 0
        · exact appends_bad_d W S E X A n c qs u d f Am m cm l hR hA hX hn hS hm hB hnil hr hf (by omega) hw h1
        by_cases h2 : 253402300799 < d
        · exact appends_bad_e W S E X A n c qs u d f Am m cm l hR hA hX hn hS hm hB hnil hr hf (by omega) hw (by omega) h2
        by_cases h3 : f < 0
        · exact appends_bad_f W S E X A n c qs u d f Am m cm l hR hA hX hn hS hm hB hnil hr hf (by omega) hw (by omega) (by omega) h3
        by_cases h4 : 31 < f
        · exact appends_bad_g W S E X A n c qs u d f Am m cm l hR hA hX hn hS hm hB hnil hr hf (by omega) hw (by omega) (by omega) (by omega) h4
        by_cases h5 : 20000 < m
        · exact appends_over W S E X A n c qs u d f Am m cm l hR hA hX hn hS hm hB hnil hr hf (by omega) hw (by omega) (by omega) h5
        by_cases h6 : 500 ≤ n
        · exact appends_manyM W S E X A n c qs u d f Am m cm l hR hA hX hn hS hm hB hnil hr hf (by omega) hw (by omega) (by omega) h6
        by_cases h7 : X = 4294967295
        · exact appends_full W S E X A n c qs u d f Am m cm l hR hA hX hn hS hm hB hnil hr hf (by omega) hw (by omega) (by omega) (by omega) h7
        exact appends_yes W S E X A n c qs u d f Am m cm l hR hA hX hn hS hm hB hnil hr hf (by omega) hw (by omega) (by omega) (by omega) (by omega)
end Go.Proofs.YtepngemlaiffgaaDoor.mal
