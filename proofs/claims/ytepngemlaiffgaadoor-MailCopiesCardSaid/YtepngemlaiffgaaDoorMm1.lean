/- Mailboxes as such: when one is right, which message has a UID: plain mathematics. -/
import Derived.Test.YtepngemlaiffgaaDoorMc3
import Derived.Deep.RegionWith
import Derived.Deep.RegionHeld3
namespace Go.Proofs.YtepngemlaiffgaaDoor.mal
open Go.Proofs.YtepngemlaiffgaaDoor.bod (formedB named fitsB emptyB)
open Go.Proofs.YtepngemlaiffgaaDoor.lg (Nt take_next)
set_option linter.unusedVariables false
set_option linter.unusedSimpArgs false

/-- The UIDs rise, and are below the next one. -/
def ris (X : Nat) (st : Nat × Bool) (n : Nt) : Nat × Bool := (n.u, st.2 && decide (st.1 < n.u ∧ n.u < X))
def rise (X : Nat) (l : List Nt) : Nat × Bool := l.foldl (ris X) (0, true)
theorem rise_snoc (X : Nat) (l : List Nt) (n : Nt) : rise X (l ++ [n]) = ris X (rise X l) n := by simp [rise]
theorem rise_false {X : Nat} : ∀ (l : List Nt) (st : Nat × Bool), st.2 = false → (l.foldl (ris X) st).2 = false
  | [], st, h => h
  | n :: r, st, h => rise_false r _ (by simp [ris, h])
theorem rise_stop {X : Nat} {l : List Nt} {i : Nat} (h : (rise X (l.take i)).2 = false) : (rise X l).2 = false := by
  have e : rise X l = (l.drop i).foldl (ris X) (rise X (l.take i)) := by
    unfold rise
    rw [← List.foldl_append, List.take_append_drop]
  rw [e]
  exact rise_false _ _ h
/-- May a message be? -/
def fit1 (n : Nt) : Bool := decide (n.u ≠ 0) && fitsB n.d n.f n.o.length
/-- May a mailbox be? -/
def right (S : ByteArray) (E X : Nat) (l : List Nt) : Bool :=
  named S && (decide (E ≠ 0) && (decide (X ≠ 0) && (decide (l.length ≤ 500) && ((rise X l).2 && l.all fit1))))
theorem formed_box (S : ByteArray) (E : Nat) : formedB 1 E S 0 0 0 0 = (decide (E ≠ 0) && named S) := by
  simp [formedB, emptyB]
theorem formed_msg (S : ByteArray) (E : Nat) (n : Nt) : formedB 2 E S n.u n.d n.f n.o.length = (decide (E ≠ 0) && (named S && fit1 n)) := by
  simp [formedB, fit1]
theorem right_prog (S : ByteArray) (E X : Nat) (l : List Nt) :
    (formedB 1 E S 0 0 0 0 && (decide (X ≠ 0) && (decide (l.length ≤ 500) && ((rise X l).2 && !l.any fun n => !formedB 2 E S n.u n.d n.f n.o.length)))) = right S E X l := by
  rw [formed_box]
  simp only [formed_msg]
  unfold right
  cases named S <;> cases decide (E ≠ 0) <;> simp [List.all_eq_not_any_not]
/-- The first of which p holds. -/
def fr {α : Type} (p : α → Bool) : List α → Nat → Int
  | [], _ => -1
  | x :: r, k => if p x then (k : Int) else fr p r (k + 1)
theorem fr_at {α : Type} {p : α → Bool} {l : List α} {k : Nat} {x : α} (h : l[k]? = some x) : fr p (l.drop k) k = if p x then (k : Int) else fr p (l.drop (k + 1)) (k + 1) := by
  obtain ⟨h1, h2⟩ := List.getElem?_eq_some_iff.1 h
  rw [List.drop_eq_getElem_cons h1, fr, h2]
theorem fr_end {α : Type} {p : α → Bool} {l : List α} {k : Nat} (h : l.length ≤ k) : fr p (l.drop k) k = -1 := by
  rw [List.drop_eq_nil_of_le h, fr]
theorem fr_any {α : Type} (p : α → Bool) : ∀ (l : List α) (k : Nat), decide (0 ≤ fr p l k) = l.any p
  | [], k => by simp [fr]
  | x :: r, k => by
    rw [fr, List.any_cons]
    cases hx : p x with
    | true => simp
    | false => simpa using fr_any p r (k + 1)
theorem fr_map {α β : Type} (p : β → Bool) (f : α → β) : ∀ (l : List α) (k : Nat), fr (fun x => p (f x)) l k = fr p (l.map f) k
  | [], k => rfl
  | x :: r, k => by
    rw [List.map_cons, fr, fr, fr_map p f r]
/-- How much there is of a mailbox. -/
def sumO (l : List Nt) : Nat := (l.map fun n => 1 + n.o.length).sum
theorem sumO_snoc (l : List Nt) (n : Nt) : sumO (l ++ [n]) = sumO l + (1 + n.o.length) := by simp [sumO]
theorem sumO_take (l : List Nt) (k : Nat) : sumO (l.take k) ≤ sumO l := by
  have h : sumO (l.take k ++ l.drop k) = sumO (l.take k) + sumO (l.drop k) := by
    unfold sumO
    rw [List.map_append, List.sum_append]
  rw [List.take_append_drop] at h
  omega
theorem sumO_len (l : List Nt) : l.length ≤ sumO l := by
  induction l with
  | nil => simp [sumO]
  | cons n r ih =>
    have : sumO (n :: r) = 1 + n.o.length + sumO r := by simp [sumO]
    rw [this, List.length_cons]
    omega
theorem sumO_mem {l : List Nt} {n : Nt} (h : n ∈ l) : n.o.length ≤ sumO l := by
  induction l with
  | nil => cases h
  | cons m r ih =>
    have e : sumO (m :: r) = 1 + m.o.length + sumO r := by simp [sumO]
    rcases List.mem_cons.1 h with rfl | h
    · omega
    · have := ih h
      omega
def fewB (S : ByteArray) (l : List Nt) : Bool := decide (S.size + sumO l ≤ 60000)
theorem fewB_size {S : ByteArray} {l : List Nt} (h : fewB S l = true) : S.size ≤ 60000 ∧ l.length ≤ 60000 ∧ ∀ n ∈ l, n.o.length ≤ 60000 := by
  have h := of_decide_eq_true h
  have := sumO_len l
  exact ⟨by omega, by omega, fun n hn => by have := sumO_mem hn; omega⟩
end Go.Proofs.YtepngemlaiffgaaDoor.mal
namespace Go.Proofs.YtepngemlaiffgaaDoor.mal
open Go.ChangeShapes Go.WideShapes Go.ChangeAt Go.RowKit
open Go.Proofs.YtepngemlaiffgaaDoor.codec (Bytes)
open Go.Proofs.YtepngemlaiffgaaDoor.bod (cell_at Fit formedB boxed)
open Go.Proofs.YtepngemlaiffgaaDoor.lg (Nt Y Rd cM nts nts_at nts_len take_next)
set_option linter.unusedVariables false
set_option maxRecDepth 100000
set_option linter.unusedSimpArgs false

set_option maxHeartbeats 2000000 in
theorem few_any (W : World) (S : ByteArray) (E X : Nat) (A : Option Addr) (n c : Nat) (qs : List Y) (hR : Rd cM 4 W A n qs) (hn : n ≤ 140737488355328) (hS : S.size ≤ 140737488355328) (hm : ∀ y ∈ qs, y.m ≤ 140737488355328) :
    Calls Tryd.prog 25 #[.agg #[.string S, .int .u32 E, .int .u32 X, .slice A n c]] W fun x w' => x = .returned (.bool (fewB S (nts qs))) ∧ Below W.heap.size W w' := by
  obtain ⟨W1, hW1⟩ : ∃ W1, W1 = W.alloc (.cells #[.string S, .int .u32 E, .int .u32 X, .slice A n c] 25) := ⟨_, rfl⟩
  have HBW := Lib.hid (show Below W.heap.size W W1 by rw [hW1]; exact (Below.refl _ _).alloc (Nat.le_refl _) _)
  have hX1 : W1.heap[W.heap.size]? = some (.cells #[.string S, .int .u32 E, .int .u32 X, .slice A n c] 25 (0, 0)) := by rw [hW1]; exact heap_alloc_new _ _
  have HR := Lib.hid (hR.below HBW.out)
  have HL := Lib.hid (show (nts qs).length = n by rw [nts_len, hR.1])
  have HM := Lib.hid hm
  have HW1 := Lib.hid hW1
  have HXX := Lib.hid hX1
  have c0 := cell_at hX1 0 _ rfl
  have c3 := cell_at hX1 3 _ rfl
  rw [hW1] at c0 c3
  clear hW1 hR hm hX1
  go_enter Tryd.func25, Tryd.ntmps25
  go_wp2_with fail
  rw [← HW1.out]
  clear c0 c3
  have c3 := cell_at HXX.out 3 _ rfl
  go_loop [3, 11] (fun s i => ∃ k t : Nat, k ≤ n ∧ i = .int .i64 k ∧ s = .int .i64 t ∧ (t ≤ 140737488355328 ∧ (k = 0 ∨ t ≤ 60000)) ∧ Hid (t = S.size + sumO ((nts qs).take k))) (fun _ i => n - (intOf i).toNat)
  case atStart => exact ⟨0, S.size, Nat.zero_le _, rfl, rfl, ⟨hS, .inl rfl⟩, Lib.hid rfl⟩
  case round =>
    obtain ⟨k, t, hk, rfl, rfl, ⟨ht, ht2⟩, HT⟩ := hrel
    by_cases hlt : k < n
    · obtain ⟨b, o, ⟨⟨tk, te, ts, tu, td, tf, to_⟩, a, A', m', c'⟩, rfl, hx, d0, d1, d2, d3, hoc⟩ := HR.out.at4 k hlt
      have hmm := HM.out _ (List.mem_of_getElem? hx)
      have HT2 : Hid (S.size + sumO ((nts qs).take (k + 1)) = t + (1 + m')) := Lib.hid (by have h1 : to_.length = m' := hoc.1.1; have h2 := HT.out; rw [take_next (nts_at hx), sumO_snoc]; show S.size + (sumO ((nts qs).take k) + (1 + to_.length)) = _; omega)
      simp only [] at d0 d1 d2 d3 hmm
      have hlt' : (k : Int) < (n : Int) := by omega
      clear hx hoc
      by_cases hg : t + (1 + m') ≤ 60000
      · have hg' : decide ((60000 : Int) < (t : Int) + 1 + (m' : Int)) = false := by rw [decide_eq_false_iff_not]; omega
        go_wp2_with fail
        go_round
        case rel => first | exact ⟨k + 1, t + (1 + m'), by omega, by go_num, by go_num, ⟨by omega, .inr hg⟩, Lib.hid HT2.out.symm⟩ | ((repeat apply Exists.intro); exact ⟨⟨k + 1, t + (1 + m'), by omega, by go_num, by go_num, ⟨by omega, .inr hg⟩, Lib.hid HT2.out.symm⟩, rfl⟩)
        case measure => (show n - ((k : Int) + 1).toNat < n - k; omega)
      · have hg' : decide ((60000 : Int) < (t : Int) + 1 + (m' : Int)) = true := by rw [decide_eq_true_iff]; omega
        have HF : Hid (fewB S (nts qs) = false) := Lib.hid (by
          unfold fewB
          have h1 := sumO_take (nts qs) (k + 1)
          have h2 := HT2.out
          rw [decide_eq_false_iff_not]
          omega)
        go_wp2_with fail
        go_ret
        exact ⟨by rw [HF.out]; rfl, HBW.out⟩
    · obtain rfl : k = n := by omega
      have HF : Hid (fewB S (nts qs) = decide ((t : Int) ≤ 60000)) := Lib.hid (by
        have h := HT.out
        rw [List.take_of_length_le (by rw [HL.out]; omega)] at h
        unfold fewB
        rw [← h, Bool.eq_iff_iff, decide_eq_true_iff, decide_eq_true_iff]
        omega)
      go_wp2_with fail
      go_ret
      exact ⟨by rw [HF.out]; rfl, HBW.out⟩
theorem few2_any (W : World) (S : ByteArray) (E X : Nat) (A : Option Addr) (n c : Nat) (qs : List Y) (B : Option Addr) (q d : Nat) (hR : Rd cM 4 W A n qs) (hn : n ≤ 140737488355328) (hS : S.size ≤ 140737488355328) (hm : ∀ y ∈ qs, y.m ≤ 140737488355328) :
    Calls Tryd.prog 9 #[.agg #[.string S, .int .u32 E, .int .u32 X, .slice A n c], .slice B q d] W fun x w' => x = .returned (.bool (fewB S (nts qs) && decide (q ≤ 600))) ∧ Below W.heap.size W w' := by
  have hF := few_any (W.alloc (.cells #[.string S, .int .u32 E, .int .u32 X, .slice A n c] 25)) S E X A n c qs (hR.below ((Below.refl _ _).alloc (Nat.le_refl _) _)) hn hS hm
  have hq : decide ((q : Int) ≤ 600) = decide (q ≤ 600) := by rw [decide_eq_decide]; omega
  generalize fewB S (nts qs) = b at *
  have HF := Lib.hid hF
  clear hF hR hm
  cases b
  · go_enter Tryd.func9, Tryd.ntmps9
    go_wp2_with (go_at_call 25; refine HF.out.mono ?_; rintro e w1 ⟨rfl, hb⟩)
    go_ret
    exact ⟨rfl, (boxed hb).2⟩
  · go_enter Tryd.func9, Tryd.ntmps9
    go_wp2_with (go_at_call 25; refine HF.out.mono ?_; rintro e w1 ⟨rfl, hb⟩)
    go_ret
    exact ⟨by simp [hq], (boxed hb).2⟩
/-- A message of a mailbox: may it be? -/
theorem isFormed_any (w : World) (S : ByteArray) (E X : Nat) (A : Option Addr) (n c : Nat) (u : Nat) (d f : Int) (A' : Option Addr) (n' c' : Nat) (hs : S.size ≤ 100000) (hr : Fit w) :
    Calls Tryd.prog 29 #[.agg #[.string S, .int .u32 E, .int .u32 X, .slice A n c], .agg #[.int .u32 u, .int .i64 d, .int .i64 f, .slice A' n' c']] w fun e w' => e = .returned (.bool (formedB 2 E S u d f n')) ∧ Below w.heap.size w w' := by
  have h0 : Below w.heap.size w ((w.alloc (.cells #[.string S, .int .u32 E, .int .u32 X, .slice A n c] 25)).alloc (.cells #[.int .u32 u, .int .i64 d, .int .i64 f, .slice A' n' c'] 30)) := ((Below.refl _ _).alloc (Nat.le_refl _) _).alloc (by simp) _
  have HF := Lib.hid (bod.formed2 _ E u S d f A' n' c' hs (hr.below h0))
  have H0 := Lib.hid h0
  clear h0 hr
  go_enter Tryd.func29, Tryd.ntmps29
  go_wp2_with (go_at_call 30; refine HF.out.mono ?_; rintro e w1 ⟨rfl, hb⟩)
  go_ret
  exact ⟨rfl, H0.out.trans (hb.mono H0.out.size)⟩
/-- The same, asked by the closure. -/
theorem wrong_any (w : World) (g : Nat) (S : ByteArray) (E X : Nat) (A : Option Addr) (n c : Nat) (u : Nat) (d f : Int) (A' : Option Addr) (n' c' : Nat) (hs : S.size ≤ 100000) (hr : Fit w) (hg : w.heap[g]? = some (.cells #[.string S, .int .u32 E, .int .u32 X, .slice A n c] 25 (0, 0))) :
    Calls Tryd.prog 28 #[.agg #[.int .u32 u, .int .i64 d, .int .i64 f, .slice A' n' c'], .pointer (some ⟨g, 0, none⟩)] w fun e w' => e = .returned (.bool (!formedB 2 E S u d f n')) ∧ Below w.heap.size w w' := by
  have h0 : Below w.heap.size w (w.alloc (.cells #[.int .u32 u, .int .i64 d, .int .i64 f, .slice A' n' c'] 30)) := (Below.refl _ _).alloc (Nat.le_refl _) _
  have hlt : g < w.heap.size := (Array.getElem?_eq_some_iff.1 hg).1
  have hg1 : (w.alloc (.cells #[.int .u32 u, .int .i64 d, .int .i64 f, .slice A' n' c'] 30)).heap[g]? = some (.cells #[.string S, .int .u32 E, .int .u32 X, .slice A n c] 25 (0, 0)) := by rw [heap_alloc_old _ _ hlt]; exact hg
  have HF := Lib.hid (isFormed_any _ S E X A n c u d f A' n' c' hs (hr.below h0))
  have H0 := Lib.hid h0
  have c0 := cell_at hg1 0 _ rfl
  have c1 := cell_at hg1 1 _ rfl
  have c2 := cell_at hg1 2 _ rfl
  have c3 := cell_at hg1 3 _ rfl
  clear h0 hr hg hg1 hlt
  go_enter Tryd.func28, Tryd.ntmps28
  go_wp2_with (go_at_call 29; refine HF.out.mono ?_; rintro e w1 ⟨rfl, hb⟩)
  go_ret
  exact ⟨rfl, H0.out.trans (hb.mono H0.out.size)⟩
set_option maxHeartbeats 1000000 in
theorem rise_any (W : World) (S : ByteArray) (E X : Nat) (A : Option Addr) (n c : Nat) (qs : List Y) (hR : Rd cM 4 W A n qs) (hn : n ≤ 1000000) :
    Calls Tryd.prog 31 #[.agg #[.string S, .int .u32 E, .int .u32 X, .slice A n c]] W fun e w' => e = .returned (.bool (rise X (nts qs)).2) ∧ Below W.heap.size W w' := by
  obtain ⟨W1, hW1⟩ : ∃ W1, W1 = W.alloc (.cells #[.string S, .int .u32 E, .int .u32 X, .slice A n c] 25) := ⟨_, rfl⟩
  have HBW := Lib.hid (show Below W.heap.size W W1 by rw [hW1]; exact (Below.refl _ _).alloc (Nat.le_refl _) _)
  have hX1 : W1.heap[W.heap.size]? = some (.cells #[.string S, .int .u32 E, .int .u32 X, .slice A n c] 25 (0, 0)) := by rw [hW1]; exact heap_alloc_new _ _
  have HR := Lib.hid (hR.below HBW.out)
  have HL := Lib.hid (show (nts qs).length = n by rw [nts_len, hR.1])
  have HW1 := Lib.hid hW1
  have HC := Lib.hid (fun (w' : World) (h : Below W1.heap.size W1 w') => cell_at (show w'.heap[W.heap.size]? = some (.cells #[.string S, .int .u32 E, .int .u32 X, .slice A n c] 25 (0, 0)) by rw [h.block _ (by rw [hW1]; simp)]; exact hX1) 2 _ rfl)
  have c3 := cell_at hX1 3 _ rfl
  rw [hW1] at c3
  clear hW1 hR hX1
  go_enter Tryd.func31, Tryd.ntmps31
  go_wp2_with fail
  rw [← HW1.out]
  clear c3
  go_loopw [3, 9] (fun s i wr => ∃ k : Nat, k ≤ n ∧ i = .int .i64 k ∧ s = .int .u32 ((rise X ((nts qs).take k)).1 : Nat) ∧ Hid ((rise X ((nts qs).take k)).2 = true) ∧ Hid (Below W1.heap.size W1 wr)) (fun _ i _ => n - (intOf i).toNat)
  case atStart => exact ⟨0, Nat.zero_le _, rfl, rfl, Lib.hid rfl, Lib.hid (Below.refl _ _)⟩
  case round =>
    obtain ⟨k, hk, rfl, rfl, HU, HB⟩ := hrel
    by_cases hlt : k < n
    · obtain ⟨b, o, ⟨⟨tk, te, ts, tu, td, tf, to_⟩, a, A', m', c'⟩, rfl, hx, d0, d1, d2, d3, hoc⟩ := (HR.out.below HB.out).at4 k hlt
      have hT := congrArg (rise X) (take_next (nts_at hx))
      simp only [] at d0 d1 d2 d3 hT
      rw [rise_snoc] at hT
      simp only [ris, HU.out, Bool.true_and] at hT
      have HT := Lib.hid hT
      have hlt' : (k : Int) < (n : Int) := by omega
      have HA := Lib.hid (HB.out.alloc HB.out.size (.cells #[.int .u32 (tu : Nat), .int .i64 td, .int .i64 tf, .slice A' m' c'] 30))
      have e2 := HC.out _ HA.out
      clear hx hT hoc
      generalize (rise X ((nts qs).take k)).1 = g at *
      by_cases h1 : tu ≤ g
      · have q1 : decide (tu ≤ g) = true := decide_eq_true h1
        have HS := Lib.hid (show (rise X (nts qs)).2 = false from rise_stop (i := k + 1) (by rw [HT.out]; exact decide_eq_false (by omega)))
        clear HT h1
        go_wp2_with fail
        go_ret
        exact ⟨by rw [HS.out]; rfl, HBW.out.trans (HA.out.mono HBW.out.size)⟩
      · have q1 : decide (tu ≤ g) = false := decide_eq_false h1
        by_cases h2 : X ≤ tu
        · have q2 : decide (X ≤ tu) = true := decide_eq_true h2
          have HS := Lib.hid (show (rise X (nts qs)).2 = false from rise_stop (i := k + 1) (by rw [HT.out]; exact decide_eq_false (by omega)))
          clear HT h1 h2
          go_wp2_with fail
          go_ret
          exact ⟨by rw [HS.out]; rfl, HBW.out.trans (HA.out.mono HBW.out.size)⟩
        · have q2 : decide (X ≤ tu) = false := decide_eq_false h2
          have HS := Lib.hid (show rise X ((nts qs).take (k + 1)) = (tu, true) by rw [HT.out, decide_eq_true (by omega)])
          clear HT h1 h2
          go_wp2_with fail
          go_roundw
          case rel => first | exact ⟨k + 1, by omega, by go_num, by rw [HS.out], Lib.hid (by rw [HS.out]), HA⟩ | ((repeat apply Exists.intro); exact ⟨⟨k + 1, by omega, by go_num, by rw [HS.out], Lib.hid (by rw [HS.out]), HA⟩, rfl⟩)
          case measure => (show n - ((k : Int) + 1).toNat < n - k; omega)
    · obtain rfl : k = n := by omega
      have HF := Lib.hid (show (rise X (nts qs)).2 = true by have h := HU.out; rw [List.take_of_length_le (by rw [HL.out]; omega)] at h; exact h)
      go_wp2_with fail
      go_ret
      exact ⟨by rw [HF.out]; rfl, HBW.out.trans (HB.out.mono HBW.out.size)⟩
end Go.Proofs.YtepngemlaiffgaaDoor.mal
namespace Go.Proofs.YtepngemlaiffgaaDoor.mal
open Go.ChangeShapes Go.WideShapes Go.ChangeAt Go.RowKit
open Go.Proofs.YtepngemlaiffgaaDoor.codec (Bytes)
open Go.Proofs.YtepngemlaiffgaaDoor.bod (cell_at Fit formedB fitsB boxed named)
open Go.Proofs.YtepngemlaiffgaaDoor.lg (Nt Y Rd cM nts nts_at nts_len take_next)
set_option linter.unusedVariables false
set_option maxRecDepth 100000
set_option linter.unusedSimpArgs false

set_option maxHeartbeats 1000000 in
theorem indexR_any (W : World) (A : Option Addr) (n c g : Nat) (qs : List Y) (p : Nt → Bool) (hR : Rd cM 4 W A n qs) (hn : n ≤ 1000000)
    (hp : ∀ (w' : World) (u : Nat) (d f : Int) (A' : Option Addr) (n' c' : Nat) (nt : Nt), Below W.heap.size W w' → nt.u = u ∧ nt.d = d ∧ nt.f = f ∧ nt.o.length = n' → Calls Tryd.prog 28 #[.agg #[.int .u32 u, .int .i64 d, .int .i64 f, .slice A' n' c'], .pointer (some ⟨g, 0, none⟩)] w' fun e w1 => e = .returned (.bool (p nt)) ∧ Below w'.heap.size w' w1) :
    Calls Tryd.prog 37 #[.slice A n c, .func (.func 28) #[] #[.pointer (some ⟨g, 0, none⟩)]] W fun e w' => e = .returned (.int .i64 (fr p (nts qs) 0)) ∧ Below W.heap.size W w' := by
  have HR := Lib.hid hR
  have HP := Lib.hid hp
  have HL := Lib.hid (show (nts qs).length = n by rw [nts_len, hR.1])
  clear hR hp
  go_enter Tryd.func37, Tryd.ntmps37
  go_wp2
  go_loopw [8] (fun i wr => ∃ k : Nat, k ≤ n ∧ i = .int .i64 k ∧ Hid (fr p (nts qs) 0 = fr p ((nts qs).drop k) k) ∧ Hid (Below W.heap.size W wr)) (fun i _ => n - (intOf i).toNat)
  case atStart => exact ⟨0, Nat.zero_le _, rfl, Lib.hid rfl, Lib.hid (Below.refl _ _)⟩
  case round =>
    obtain ⟨k, hk, rfl, HU, HB⟩ := hrel
    by_cases hlt : k < n
    · obtain ⟨b, o, ⟨⟨tk, te, ts, tu, td, tf, to_⟩, a, A', m', c'⟩, rfl, hx, d0, d1, d2, d3, hoc⟩ := (HR.out.below HB.out).at4 k hlt
      have hF := fr_at (p := p) (nts_at hx)
      simp only [] at d0 d1 d2 d3 hF
      have hlt' : (k : Int) < (n : Int) := by omega
      have hW := HP.out wr tu td tf A' m' c' ⟨tk, te, ts, tu, td, tf, to_⟩ HB.out ⟨rfl, rfl, rfl, hoc.1.1⟩
      clear hx hoc
      cases hq : p ⟨tk, te, ts, tu, td, tf, to_⟩
      · rw [hq] at hW hF
        have HW := Lib.hid hW
        have HF := Lib.hid (HU.out.trans (hF.trans (if_neg (by simp))))
        clear hW hq hF
        go_wp2_with (go_at_call 28; refine HW.out.mono ?_; rintro e w1 ⟨rfl, hb⟩; have HB1 := Lib.hid hb; clear hb)
        go_roundw
        case rel => first | exact ⟨k + 1, by omega, by go_num, HF, Lib.hid (HB.out.trans (HB1.out.mono HB.out.size))⟩ | ((repeat apply Exists.intro); exact ⟨⟨k + 1, by omega, by go_num, HF, Lib.hid (HB.out.trans (HB1.out.mono HB.out.size))⟩, rfl⟩)
        case measure => (show n - ((k : Int) + 1).toNat < n - k; omega)
      · rw [hq] at hW hF
        have HW := Lib.hid hW
        have HF := Lib.hid (HU.out.trans (hF.trans (if_pos rfl)))
        clear hW hq hF
        go_wp2_with (go_at_call 28; refine HW.out.mono ?_; rintro e w1 ⟨rfl, hb⟩; have HB1 := Lib.hid hb; clear hb)
        go_ret
        exact ⟨by rw [HF.out]; rfl, HB.out.trans (HB1.out.mono HB.out.size)⟩
    · obtain rfl : k = n := by omega
      have HF := Lib.hid (HU.out.trans (fr_end (p := p) (l := nts qs) (k := k) (by rw [HL.out]; omega)))
      go_wp2
      go_ret
      exact ⟨by rw [HF.out]; rfl, HB.out⟩
set_option maxHeartbeats 1000000 in
theorem indexA_any (W : World) (A : Option Addr) (n c g : Nat) (qs : List Y) (p : Nt → Bool) (hR : Rd cM 4 W A n qs) (hn : n ≤ 1000000)
    (hp : ∀ (w' : World) (u : Nat) (d f : Int) (A' : Option Addr) (n' c' : Nat) (nt : Nt), Below W.heap.size W w' → nt.u = u ∧ nt.d = d ∧ nt.f = f ∧ nt.o.length = n' → Calls Tryd.prog 38 #[.agg #[.int .u32 u, .int .i64 d, .int .i64 f, .slice A' n' c'], .pointer (some ⟨g, 0, none⟩)] w' fun e w1 => e = .returned (.bool (p nt)) ∧ Below w'.heap.size w' w1) :
    Calls Tryd.prog 37 #[.slice A n c, .func (.func 38) #[] #[.pointer (some ⟨g, 0, none⟩)]] W fun e w' => e = .returned (.int .i64 (fr p (nts qs) 0)) ∧ Below W.heap.size W w' := by
  have HR := Lib.hid hR
  have HP := Lib.hid hp
  have HL := Lib.hid (show (nts qs).length = n by rw [nts_len, hR.1])
  clear hR hp
  go_enter Tryd.func37, Tryd.ntmps37
  go_wp2
  go_loopw [8] (fun i wr => ∃ k : Nat, k ≤ n ∧ i = .int .i64 k ∧ Hid (fr p (nts qs) 0 = fr p ((nts qs).drop k) k) ∧ Hid (Below W.heap.size W wr)) (fun i _ => n - (intOf i).toNat)
  case atStart => exact ⟨0, Nat.zero_le _, rfl, Lib.hid rfl, Lib.hid (Below.refl _ _)⟩
  case round =>
    obtain ⟨k, hk, rfl, HU, HB⟩ := hrel
    by_cases hlt : k < n
    · obtain ⟨b, o, ⟨⟨tk, te, ts, tu, td, tf, to_⟩, a, A', m', c'⟩, rfl, hx, d0, d1, d2, d3, hoc⟩ := (HR.out.below HB.out).at4 k hlt
      have hF := fr_at (p := p) (nts_at hx)
      simp only [] at d0 d1 d2 d3 hF
      have hlt' : (k : Int) < (n : Int) := by omega
      have hW := HP.out wr tu td tf A' m' c' ⟨tk, te, ts, tu, td, tf, to_⟩ HB.out ⟨rfl, rfl, rfl, hoc.1.1⟩
      clear hx hoc
      cases hq : p ⟨tk, te, ts, tu, td, tf, to_⟩
      · rw [hq] at hW hF
        have HW := Lib.hid hW
        have HF := Lib.hid (HU.out.trans (hF.trans (if_neg (by simp))))
        clear hW hq hF
        go_wp2_with (go_at_call 38; refine HW.out.mono ?_; rintro e w1 ⟨rfl, hb⟩; have HB1 := Lib.hid hb; clear hb)
        go_roundw
        case rel => first | exact ⟨k + 1, by omega, by go_num, HF, Lib.hid (HB.out.trans (HB1.out.mono HB.out.size))⟩ | ((repeat apply Exists.intro); exact ⟨⟨k + 1, by omega, by go_num, HF, Lib.hid (HB.out.trans (HB1.out.mono HB.out.size))⟩, rfl⟩)
        case measure => (show n - ((k : Int) + 1).toNat < n - k; omega)
      · rw [hq] at hW hF
        have HW := Lib.hid hW
        have HF := Lib.hid (HU.out.trans (hF.trans (if_pos rfl)))
        clear hW hq hF
        go_wp2_with (go_at_call 38; refine HW.out.mono ?_; rintro e w1 ⟨rfl, hb⟩; have HB1 := Lib.hid hb; clear hb)
        go_ret
        exact ⟨by rw [HF.out]; rfl, HB.out.trans (HB1.out.mono HB.out.size)⟩
    · obtain rfl : k = n := by omega
      have HF := Lib.hid (HU.out.trans (fr_end (p := p) (l := nts qs) (k := k) (by rw [HL.out]; omega)))
      go_wp2
      go_ret
      exact ⟨by rw [HF.out]; rfl, HB.out⟩
theorem containsR_any (W : World) (A : Option Addr) (n c g : Nat) (S : ByteArray) (E X : Nat) (B : Option Addr) (q d : Nat) (qs : List Y) (hR : Rd cM 4 W A n qs) (hn : n ≤ 1000000) (hs : S.size ≤ 100000) (hr : Fit W) (hg : W.heap[g]? = some (.cells #[.string S, .int .u32 E, .int .u32 X, .slice B q d] 25 (0, 0))) :
    Calls Tryd.prog 32 #[.slice A n c, .func (.func 28) #[] #[.pointer (some ⟨g, 0, none⟩)]] W fun e w' => e = .returned (.bool ((nts qs).any fun n => !formedB 2 E S n.u n.d n.f n.o.length)) ∧ Below W.heap.size W w' := by
  have hlt : g < W.heap.size := (Array.getElem?_eq_some_iff.1 hg).1
  have hI := indexR_any W A n c g qs (fun n => !formedB 2 E S n.u n.d n.f n.o.length) hR hn (fun w' u d' f A' n' c' nt hb hh => by
    obtain ⟨rfl, rfl, rfl, rfl⟩ := hh
    exact wrong_any w' g S E X B q d nt.u nt.d nt.f A' nt.o.length c' hs (hr.below hb) (by rw [hb.block _ hlt]; exact hg))
  have ha := fr_any (fun n : Nt => !formedB 2 E S n.u n.d n.f n.o.length) (nts qs) 0
  generalize fr (fun n : Nt => !formedB 2 E S n.u n.d n.f n.o.length) (nts qs) 0 = z at *
  rw [← ha]
  have HI := Lib.hid hI
  clear hI hR hr ha
  go_enter Tryd.func32, Tryd.ntmps32
  go_wp2_with (go_at_call 37; refine HI.out.mono ?_; rintro e w1 ⟨rfl, hb⟩; have HB1 := Lib.hid hb; clear hb)
  go_ret
  exact ⟨rfl, HB1.out⟩
theorem right_zero (S : ByteArray) (E X : Nat) (l : List Nt) (h : right S E X l = true) : S.size ≤ 100000 := by
  unfold right at h
  rw [Bool.and_eq_true] at h
  have := bod.named_size h.1
  omega
set_option maxHeartbeats 2000000 in
theorem right_any (W : World) (S : ByteArray) (E X : Nat) (A : Option Addr) (n c : Nat) (qs : List Y) (hR : Rd cM 4 W A n qs) (hn : n ≤ 1000000) (hs : S.size ≤ 100000) (hr : Fit W) :
    Calls Tryd.prog 12 #[.agg #[.string S, .int .u32 E, .int .u32 X, .slice A n c]] W fun e w' => e = .returned (.bool (right S E X (nts qs))) ∧ Below W.heap.size W w' := by
  rw [← right_prog, nts_len, hR.1]
  obtain ⟨W1, hW1⟩ : ∃ W1, W1 = W.alloc (.cells #[.string S, .int .u32 E, .int .u32 X, .slice A n c] 25) := ⟨_, rfl⟩
  have HBW := Lib.hid (show Below W.heap.size W W1 by rw [hW1]; exact (Below.refl _ _).alloc (Nat.le_refl _) _)
  have hX1 : W1.heap[W.heap.size]? = some (.cells #[.string S, .int .u32 E, .int .u32 X, .slice A n c] 25 (0, 0)) := by rw [hW1]; exact heap_alloc_new _ _
  have HX := Lib.hid (fun (w' : World) (h : Below W1.heap.size W1 w') => show w'.heap[W.heap.size]? = some (.cells #[.string S, .int .u32 E, .int .u32 X, .slice A n c] 25 (0, 0)) by rw [h.block _ (by rw [hW1]; simp)]; exact hX1)
  have HF1 := Lib.hid (bod.formed1 W1 E 0 S 0 0 none 0 0 hs (hr.below HBW.out))
  have HRi := Lib.hid (fun (w' : World) (h : Below W1.heap.size W1 w') => rise_any w' S E X A n c qs (hR.below (HBW.out.trans (h.mono HBW.out.size))) hn)
  have HCo := Lib.hid (fun (w' : World) (h : Below W1.heap.size W1 w') => containsR_any w' A n c W.heap.size S E X A n c qs (hR.below (HBW.out.trans (h.mono HBW.out.size))) hn hs (hr.below (HBW.out.trans (h.mono HBW.out.size))) (HX.out w' h))
  have HW1 := Lib.hid hW1
  have hmf : ∀ (fn : Fn) (first cap : Array Value) (w : World), (Instr.makeFunc fn first cap).run Tryd.prog w = .ok (.func fn first cap) w := fun _ _ _ _ => rfl
  have c0 := cell_at hX1 0 _ rfl
  have c1 := cell_at hX1 1 _ rfl
  rw [hW1] at c0 c1
  clear hW1 hX1 hR hs hr
  generalize formedB 1 E S 0 0 0 0 = b1 at *
  generalize (rise X (nts qs)).2 = b2 at *
  generalize ((nts qs).any fun n => !formedB 2 E S n.u n.d n.f n.o.length) = b3 at *
  have qn : decide ((n : Int) ≤ 500) = decide (n ≤ 500) := by rw [decide_eq_decide]; omega
  cases b1
  · -- no name, or no epoch
    go_enter Tryd.func12, Tryd.ntmps12
    go_wp2_with fail
    rw [← HW1.out]
    clear c0 c1
    refine HF1.out.mono ?_
    rintro e w1 ⟨rfl, hb1⟩
    have HB1 := Lib.hid hb1
    clear hb1
    go_wp2_with fail
    go_ret
    exact ⟨rfl, HBW.out.trans (HB1.out.mono HBW.out.size)⟩
  · have c2 := fun (w1 : World) (h : Below W1.heap.size W1 w1) => cell_at (HX.out w1 h) 2 _ rfl
    have c3 := fun (w1 : World) (h : Below W1.heap.size W1 w1) => cell_at (HX.out w1 h) 3 _ rfl
    have HC2 := Lib.hid c2
    have HC3 := Lib.hid c3
    clear c2 c3
    go_enter Tryd.func12, Tryd.ntmps12
    go_wp2_with fail
    rw [← HW1.out]
    clear c0 c1
    refine HF1.out.mono ?_
    rintro e w1 ⟨rfl, hb1⟩
    have HB1 := Lib.hid hb1
    have c2 := HC2.out _ hb1
    clear hb1
    by_cases hX : X = 0
    · subst hX
      go_wp2_with fail
      go_ret
      exact ⟨rfl, HBW.out.trans (HB1.out.mono HBW.out.size)⟩
    have qX : ((X : Int) != 0) = true := by rw [bne_iff_ne]; omega
    have HX0 := Lib.hid (decide_eq_true hX)
    clear hX
    have c3 := HC3.out _ HB1.out
    by_cases h5 : n ≤ 500
    case neg =>
      rw [decide_eq_false h5] at qn
      have H5 := Lib.hid (decide_eq_false h5)
      clear h5
      go_wp2_with fail
      go_ret
      exact ⟨by rw [HX0.out, H5.out]; rfl, HBW.out.trans (HB1.out.mono HBW.out.size)⟩
    rw [decide_eq_true h5] at qn
    have H5 := Lib.hid (decide_eq_true h5)
    have c0 := cell_at (HX.out _ HB1.out) 0 _ rfl
    have c1 := cell_at (HX.out _ HB1.out) 1 _ rfl
    clear h5
    cases b2
    · go_wp2_with fail
      refine (HRi.out _ HB1.out).mono ?_
      rintro e w2 ⟨rfl, hb2⟩
      have HB2 := Lib.hid (HB1.out.trans (hb2.mono HB1.out.size))
      clear hb2 c0 c1 c2 c3
      go_wp2_with fail
      go_ret
      exact ⟨by rw [HX0.out, H5.out]; rfl, HBW.out.trans (HB2.out.mono HBW.out.size)⟩
    · go_wp2_with fail
      refine (HRi.out _ HB1.out).mono ?_
      rintro e w2 ⟨rfl, hb2⟩
      have HB2 := Lib.hid (HB1.out.trans (hb2.mono HB1.out.size))
      clear hb2 c0 c1 c2 c3
      have c3 := HC3.out _ HB2.out
      go_wp2_with fail
      refine (HCo.out _ HB2.out).mono ?_
      rintro e w3 ⟨rfl, hb3⟩
      have HB3 := Lib.hid (HB2.out.trans (hb3.mono HB2.out.size))
      clear hb3 c3
      go_wp2_with fail
      go_ret
      exact ⟨by rw [HX0.out, H5.out]; rfl, HBW.out.trans (HB3.out.mono HBW.out.size)⟩
end Go.Proofs.YtepngemlaiffgaaDoor.mal
