/- Mailboxes as such: when one is right, which message has a UID: plain mathematics. -/
import Derived.Test.YtcepcamedmiinaaGreatDoorMk5
import Derived.Test.YtcepcamedmiinaaGreatDoorMk6
import Derived.Deep.RegionWith
import Derived.Deep.RegionHeld3
namespace Go.Proofs.YtcepcamedmiinaaGreatDoor.mal
open Go.Proofs.YtcepcamedmiinaaGreatDoor.bod (formedB named fitsB emptyB)
open Go.Proofs.YtcepcamedmiinaaGreatDoor.lg (Nt take_next)
set_option linter.unusedVariables false
set_option linter.unusedSimpArgs false

/-- The UIDs rise, and are below the next one. -/
def ris (X : Nat) (st : Nat × Bool) (n : Nt) : Nat × Bool := (n.u, st.2 && decide (st.1 < n.u ∧ n.u < X))
def rise (X : Nat) (l : List Nt) : Nat × Bool := l.foldl (ris X) (0, true)
theorem rise_snoc (X : Nat) (l : List Nt) (n : Nt) : rise X (l ++ [n]) = ris X (rise X l) n := by simp [rise]
theorem rise_false {X : Nat} : ∀ (l : List Nt) (st : Nat × Bool), st.2 = false → (l.foldl (ris X) st).2 = false
  | [], st, h => h
  | n :: r, st, h => rise_false r _ (by simp [ris, h])
theorem rise_stop {X : Nat} {l : List Nt} {i : Nat} (h : (rise X (l.take i)).2 = false) : (rise X l).2 = false := by
  have e : rise X l = (l.drop i).foldl (ris X) (rise X (l.take i)) := by
    unfold rise
    rw [← List.foldl_append, List.take_append_drop]
  rw [e]
  exact rise_false _ _ h
/-- May a message be? -/
def fit1 (n : Nt) : Bool := decide (n.u ≠ 0) && fitsB n.d n.f n.o.length
/-- May a mailbox be? -/
def right (S : ByteArray) (E X : Nat) (l : List Nt) : Bool :=
  named S && (decide (E ≠ 0) && (decide (X ≠ 0) && (decide (l.length ≤ 500) && ((rise X l).2 && l.all fit1))))
theorem formed_box (S : ByteArray) (E : Nat) : formedB 1 E S 0 0 0 0 = (decide (E ≠ 0) && named S) := by
  simp [formedB, emptyB]
theorem formed_msg (S : ByteArray) (E : Nat) (n : Nt) : formedB 2 E S n.u n.d n.f n.o.length = (decide (E ≠ 0) && (named S && fit1 n)) := by
  simp [formedB, fit1]
theorem right_prog (S : ByteArray) (E X : Nat) (l : List Nt) :
    (formedB 1 E S 0 0 0 0 && (decide (X ≠ 0) && (decide (l.length ≤ 500) && ((rise X l).2 && !l.any fun n => !formedB 2 E S n.u n.d n.f n.o.length)))) = right S E X l := by
  rw [formed_box]
  simp only [formed_msg]
  unfold right
  cases named S <;> cases decide (E ≠ 0) <;> simp [List.all_eq_not_any_not]
/-- The first of which p holds. -/
def fr {α : Type} (p : α → Bool) : List α → Nat → Int
  | [], _ => -1
  | x :: r, k => if p x then (k : Int) else fr p r (k + 1)
theorem fr_at {α : Type} {p : α → Bool} {l : List α} {k : Nat} {x : α} (h : l[k]? = some x) : fr p (l.drop k) k = if p x then (k : Int) else fr p (l.drop (k + 1)) (k + 1) := by
  obtain ⟨h1, h2⟩ := List.getElem?_eq_some_iff.1 h
  rw [List.drop_eq_getElem_cons h1, fr, h2]
theorem fr_end {α : Type} {p : α → Bool} {l : List α} {k : Nat} (h : l.length ≤ k) : fr p (l.drop k) k = -1 := by
  rw [List.drop_eq_nil_of_le h, fr]
theorem fr_any {α : Type} (p : α → Bool) : ∀ (l : List α) (k : Nat), decide (0 ≤ fr p l k) = l.any p
  | [], k => by simp [fr]
  | x :: r, k => by
    rw [fr, List.any_cons]
    cases hx : p x with
    | true => simp
    | false => simpa using fr_any p r (k + 1)
theorem fr_map {α β : Type} (p : β → Bool) (f : α → β) : ∀ (l : List α) (k : Nat), fr (fun x => p (f x)) l k = fr p (l.map f) k
  | [], k => rfl
  | x :: r, k => by
    rw [List.map_cons, fr, fr, fr_map p f r]
/-- How much there is of a mailbox. -/
def sumO (l : List Nt) : Nat := (l.map fun n => 1 + n.o.length).sum
theorem sumO_snoc (l : List Nt) (n : Nt) : sumO (l ++ [n]) = sumO l + (1 + n.o.length) := by simp [sumO]
theorem sumO_take (l : List Nt) (k : Nat) : sumO (l.take k) ≤ sumO l := by
  have h : sumO (l.take k ++ l.drop k) = sumO (l.take k) + sumO (l.drop k) := by
    unfold sumO
    rw [List.map_append, List.sum_append]
  rw [List.take_append_drop] at h
  omega
theorem sumO_len (l : List Nt) : l.length ≤ sumO l := by
  induction l with
  | nil => simp [sumO]
  | cons n r ih =>
    have : sumO (n :: r) = 1 + n.o.length + sumO r := by simp [sumO]
    rw [this, List.length_cons]
    omega
theorem sumO_mem {l : List Nt} {n : Nt} (h : n ∈ l) : n.o.length ≤ sumO l := by
  induction l with
  | nil => cases h
  | cons m r ih =>
    have e : sumO (m :: r) = 1 + m.o.length + sumO r := by simp [sumO]
    rcases List.mem_cons.1 h with rfl | h
    · omega
    · have := ih h
      omega
def fewB (S : ByteArray) (l : List Nt) : Bool := decide (S.size + sumO l ≤ 60000)
theorem fewB_size {S : ByteArray} {l : List Nt} (h : fewB S l = true) : S.size ≤ 60000 ∧ l.length ≤ 60000 ∧ ∀ n ∈ l, n.o.length ≤ 60000 := by
  have h := of_decide_eq_true h
  have := sumO_len l
  exact ⟨by omega, by omega, fun n hn => by have := sumO_mem hn; omega⟩
end Go.Proofs.YtcepcamedmiinaaGreatDoor.mal
namespace Go.Proofs.YtcepcamedmiinaaGreatDoor.mal
open Go.ChangeShapes Go.WideShapes Go.ChangeAt Go.RowKit
open Go.Proofs.YtcepcamedmiinaaGreatDoor.codec (Bytes)
open Go.Proofs.YtcepcamedmiinaaGreatDoor.bod (cell_at Fit formedB boxed)
open Go.Proofs.YtcepcamedmiinaaGreatDoor.lg (Nt Y Rd cM nts nts_at nts_len take_next)
set_option linter.unusedVariables false
set_option maxRecDepth 100000
set_option linter.unusedSimpArgs false

set_option maxHeartbeats 2000000 in
theorem few_any (W : World) (S : ByteArray) (E X : Nat) (A : Option Addr) (n c : Nat) (qs : List Y) (hR : Rd cM 4 W A n qs) (hn : n ≤ 140737488355328) (hS : S.size ≤ 140737488355328) (hm : ∀ y ∈ qs, y.m ≤ 140737488355328) :
    Calls Tryz.prog 6 #[.agg #[.string S, .int .u32 E, .int .u32 X, .slice A n c]] W fun x w' => x = .returned (.bool (fewB S (nts qs))) ∧ Below W.heap.size W w' := by
  obtain ⟨W1, hW1⟩ : ∃ W1, W1 = W.alloc (.cells #[.string S, .int .u32 E, .int .u32 X, .slice A n c] 25) := ⟨_, rfl⟩
  have HBW := Lib.hid (show Below W.heap.size W W1 by rw [hW1]; exact (Below.refl _ _).alloc (Nat.le_refl _) _)
  have hX1 : W1.heap[W.heap.size]? = some (.cells #[.string S, .int .u32 E, .int .u32 X, .slice A n c] 25 (0, 0)) := by rw [hW1]; exact heap_alloc_new _ _
  have HR := Lib.hid (hR.below HBW.out)
  have HL := Lib.hid (show (nts qs).length = n by rw [nts_len, hR.1])
  have HM := Lib.hid hm
  have HW1 := Lib.hid hW1
  have HXX := Lib.hid hX1
  have c0 := cell_at hX1 0 _ rfl
  have c3 := cell_at hX1 3 _ rfl
  rw [hW1] at c0 c3
  clear hW1 hR hm hX1
  go_enter Tryz.func6, Tryz.ntmps6
  go_wp2_with fail
  rw [← HW1.out]
  clear c0 c3
  have c3 := cell_at HXX.out 3 _ rfl
  go_loop [3, 11] (fun s i => ∃ k t : Nat, k ≤ n ∧ i = .int .i64 k ∧ s = .int .i64 t ∧ (t ≤ 140737488355328 ∧ (k = 0 ∨ t ≤ 60000)) ∧ Hid (t = S.size + sumO ((nts qs).take k))) (fun _ i => n - (intOf i).toNat)
  case atStart => exact ⟨0, S.size, Nat.zero_le _, rfl, rfl, ⟨hS, .inl rfl⟩, Lib.hid rfl⟩
  case round =>
    obtain ⟨k, t, hk, rfl, rfl, ⟨ht, ht2⟩, HT⟩ := hrel
    by_cases hlt : k < n
    · obtain ⟨b, o, ⟨⟨tk, te, ts, tu, td, tf, to_⟩, a, A', m', c'⟩, rfl, hx, d0, d1, d2, d3, hoc⟩ := HR.out.at4 k hlt
      have hmm := HM.out _ (List.mem_of_getElem? hx)
      have HT2 : Hid (S.size + sumO ((nts qs).take (k + 1)) = t + (1 + m')) := Lib.hid (by have h1 : to_.length = m' := hoc.1.1; have h2 := HT.out; rw [take_next (nts_at hx), sumO_snoc]; show S.size + (sumO ((nts qs).take k) + (1 + to_.length)) = _; omega)
      simp only [] at d0 d1 d2 d3 hmm
      have hlt' : (k : Int) < (n : Int) := by omega
      clear hx hoc
      by_cases hg : t + (1 + m') ≤ 60000
      · have hg' : decide ((60000 : Int) < (t : Int) + 1 + (m' : Int)) = false := by rw [decide_eq_false_iff_not]; omega
        go_wp2_with fail
        go_round
        case rel => first | exact ⟨k + 1, t + (1 + m'), by omega, by go_num, by go_num, ⟨by omega, .inr hg⟩, Lib.hid HT2.out.symm⟩ | ((repeat apply Exists.intro); exact ⟨⟨k + 1, t + (1 + m'), by omega, by go_num, by go_num, ⟨by omega, .inr hg⟩, Lib.hid HT2.out.symm⟩, rfl⟩)
        case measure => (show n - ((k : Int) + 1).toNat < n - k; omega)
      · have hg' : decide ((60000 : Int) < (t : Int) + 1 + (m' : Int)) = true := by rw [decide_eq_true_iff]; omega
        have HF : Hid (fewB S (nts qs) = false) := Lib.hid (by
          unfold fewB
          have h1 := sumO_take (nts qs) (k + 1)
          have h2 := HT2.out
          rw [decide_eq_false_iff_not]
          omega)
        go_wp2_with fail
        go_ret
        exact ⟨by rw [HF.out]; rfl, HBW.out⟩
    · obtain rfl : k = n := by omega
      have HF : Hid (fewB S (nts qs) = decide ((t : Int) ≤ 60000)) := Lib.hid (by
        have h := HT.out
        rw [List.take_of_length_le (by rw [HL.out]; omega)] at h
        unfold fewB
        rw [← h, Bool.eq_iff_iff, decide_eq_true_iff, decide_eq_true_iff]
        omega)
      go_wp2_with fail
      go_ret
      exact ⟨by rw [HF.out]; rfl, HBW.out⟩
end Go.Proofs.YtcepcamedmiinaaGreatDoor.mal
namespace Go.Proofs.YtcepcamedmiinaaGreatDoor.bod
open Go.ChangeShapes Go.WideShapes Go.ChangeAt Go.RowKit
open Go.Proofs.YtcepcamedmiinaaGreatDoor.codec (Bytes)
set_option linter.unusedVariables false
set_option linter.unusedSimpArgs false
set_option maxRecDepth 100000

theorem rFits_any (w : World) (u : Nat) (d f : Int) (A : Option Addr) (n c : Nat) :
    Calls Tryz.prog 12 #[.agg #[.int .u32 u, .int .i64 d, .int .i64 f, .slice A n c]] w fun e w' => e = .returned (.bool (fitsB d f n)) ∧ Below w.heap.size w w' := by
  by_cases h0 : 0 ≤ d
  rotate_left
  · have hE : fitsB d f n = false := by unfold fitsB; simp; omega
    rw [hE]
    have g0 : decide ((0 : Int) ≤ d) = false := decide_eq_false (by omega)
    clear hE h0
    go_enter Tryz.func12, Tryz.ntmps12
    go_wp2
    go_ret
    exact ⟨rfl, (Below.refl _ _).alloc (Nat.le_refl _) _⟩
  by_cases h1 : d ≤ 253402300799
  rotate_left
  · have hE : fitsB d f n = false := by unfold fitsB; simp; omega
    rw [hE]
    have g0 : decide ((0 : Int) ≤ d) = true := decide_eq_true (by omega)
    have g1 : decide (d ≤ 253402300799) = false := decide_eq_false (by omega)
    clear hE h0 h1
    go_enter Tryz.func12, Tryz.ntmps12
    go_wp2
    go_ret
    exact ⟨rfl, (Below.refl _ _).alloc (Nat.le_refl _) _⟩
  by_cases h2 : 0 ≤ f
  rotate_left
  · have hE : fitsB d f n = false := by unfold fitsB; simp; omega
    rw [hE]
    have g0 : decide ((0 : Int) ≤ d) = true := decide_eq_true (by omega)
    have g1 : decide (d ≤ 253402300799) = true := decide_eq_true (by omega)
    have g2 : decide ((0 : Int) ≤ f) = false := decide_eq_false (by omega)
    clear hE h0 h1 h2
    go_enter Tryz.func12, Tryz.ntmps12
    go_wp2
    go_ret
    exact ⟨rfl, (Below.refl _ _).alloc (Nat.le_refl _) _⟩
  by_cases h3 : f < 32
  rotate_left
  · have hE : fitsB d f n = false := by unfold fitsB; simp; omega
    rw [hE]
    have g0 : decide ((0 : Int) ≤ d) = true := decide_eq_true (by omega)
    have g1 : decide (d ≤ 253402300799) = true := decide_eq_true (by omega)
    have g2 : decide ((0 : Int) ≤ f) = true := decide_eq_true (by omega)
    have g3 : decide (f < 32) = false := decide_eq_false (by omega)
    clear hE h0 h1 h2 h3
    go_enter Tryz.func12, Tryz.ntmps12
    go_wp2
    go_ret
    exact ⟨rfl, (Below.refl _ _).alloc (Nat.le_refl _) _⟩
  by_cases h4 : n ≤ 20000
  rotate_left
  · have hE : fitsB d f n = false := by unfold fitsB; simp; omega
    rw [hE]
    have g0 : decide ((0 : Int) ≤ d) = true := decide_eq_true (by omega)
    have g1 : decide (d ≤ 253402300799) = true := decide_eq_true (by omega)
    have g2 : decide ((0 : Int) ≤ f) = true := decide_eq_true (by omega)
    have g3 : decide (f < 32) = true := decide_eq_true (by omega)
    have g4 : decide ((n : Int) ≤ 20000) = false := decide_eq_false (by omega)
    clear hE h0 h1 h2 h3 h4
    go_enter Tryz.func12, Tryz.ntmps12
    go_wp2
    go_ret
    exact ⟨rfl, (Below.refl _ _).alloc (Nat.le_refl _) _⟩
  have hE : fitsB d f n = true := by unfold fitsB; simp; omega
  rw [hE]
  have g0 : decide ((0 : Int) ≤ d) = true := decide_eq_true (by omega)
  have g1 : decide (d ≤ 253402300799) = true := decide_eq_true (by omega)
  have g2 : decide ((0 : Int) ≤ f) = true := decide_eq_true (by omega)
  have g3 : decide (f < 32) = true := decide_eq_true (by omega)
  have g4 : decide ((n : Int) ≤ 20000) = true := decide_eq_true (by omega)
  clear hE h0 h1 h2 h3 h4
  go_enter Tryz.func12, Tryz.ntmps12
  go_wp2
  go_ret
  exact ⟨rfl, (Below.refl _ _).alloc (Nat.le_refl _) _⟩
end Go.Proofs.YtcepcamedmiinaaGreatDoor.bod
namespace Go.Proofs.YtcepcamedmiinaaGreatDoor.mal
open Go.ChangeShapes Go.WideShapes Go.ChangeAt Go.RowKit
open Go.Proofs.YtcepcamedmiinaaGreatDoor.codec (Bytes)
open Go.Proofs.YtcepcamedmiinaaGreatDoor.bod (cell_at Fit formedB fitsB boxed named)
open Go.Proofs.YtcepcamedmiinaaGreatDoor.lg (Nt Y Rd cM nts nts_at nts_len take_next)
set_option linter.unusedVariables false
set_option maxRecDepth 100000
set_option linter.unusedSimpArgs false

theorem right_zero (S : ByteArray) (E X : Nat) (l : List Nt) (h : right S E X l = true) : S.size ≤ 100000 := by
  unfold right at h
  rw [Bool.and_eq_true] at h
  have := bod.named_size h.1
  omega
end Go.Proofs.YtcepcamedmiinaaGreatDoor.mal
