/- The reader of a command's tokens: what it holds, and what its first steps do. -/
import Derived.Test.YtbhpgghbpibalaaGreatDoorMa4
namespace Go.Proofs.YtbhpgghbpibalaaGreatDoor.par
open Go.ChangeShapes Go.WideShapes Go.ChangeAt Go.RowKit
open Go.Proofs.YtbhpgghbpibalaaGreatDoor.codec (Bytes vals)
open Go.Proofs.YtbhpgghbpibalaaGreatDoor.row
open Go.Proofs.YtbhpgghbpibalaaGreatDoor.lx (Tk cT fT Fit tok_at octs)
set_option linter.unusedVariables false
set_option maxRecDepth 100000
set_option linter.unusedSimpArgs false

/-- A reader at p, of whose tokens these are left. -/
def RS (w : World) (p : Nat) (l : List Tk) (bad : Bool) : Prop :=
  ∃ (R : Option Addr) (m d : Nat), m ≤ d ∧ (R = none → d = 0) ∧ m ≤ 200 ∧ Rd cT 2 w R m l ∧ (∀ a, R = some a → a.block < p) ∧ (∀ t ∈ l, Fit 3000 t) ∧ w.heap[p]? = some (.cells #[.slice R m d, .bool bad] 37 (0, 0))
theorem facts {w : World} {p : Nat} {v : Value} {b : Bool} (h : w.heap[p]? = some (.cells #[v, .bool b] 37 (0, 0))) :
    w.cell? ⟨p, 0, none⟩ = some v ∧ w.cell? ⟨p, 0 + 1, none⟩ = some (.bool b) ∧ w.frozen? ⟨p, 0, none⟩ = false ∧ w.frozen? ⟨p, 0 + 1, none⟩ = false ∧ p < w.heap.size :=
  ⟨by simp [World.cell?, h], by simp [World.cell?, h], by simp [World.frozen?, h], by simp [World.frozen?, h], (Array.getElem?_eq_some_iff.1 h).1⟩
theorem set0 {w : World} {p : Nat} {v v' : Value} {b : Bool} (h : w.heap[p]? = some (.cells #[v, .bool b] 37 (0, 0))) :
    (w.setCell ⟨p, 0, none⟩ v').heap[p]? = some (.cells #[v', .bool b] 37 (0, 0)) := by
  rw [heap_setCell_same w p 0 _ _ _ h]; rfl
theorem set1 {w : World} {p : Nat} {v : Value} {b b' : Bool} (h : w.heap[p]? = some (.cells #[v, .bool b] 37 (0, 0))) :
    (w.setCell ⟨p, 0 + 1, none⟩ (.bool b')).heap[p]? = some (.cells #[v, .bool b'] 37 (0, 0)) := by
  rw [heap_setCell_same w p (0 + 1) _ _ _ h]; rfl
theorem touch_set (w : World) (p i : Nat) (v : Value) : codec.Touch (· = p) w (w.setCell ⟨p, i, none⟩ v) := codec.Touch.setCell (F := fun x => x = p) (codec.Touch.refl (fun x => x = p) w) ⟨p, i, none⟩ (.inr rfl) v
theorem rd_touch {w w' : World} {R : Option Addr} {m : Nat} {l : List Tk} {F : Nat → Prop} (h : Rd cT 2 w R m l) (ht : codec.Touch F w w') (hF : ∀ a, R = some a → ¬ F a.block) : Rd cT 2 w' R m l := by
  refine ⟨h.1, fun k hk => ?_⟩
  obtain ⟨b, o, y, h1, h2, h3⟩ := h.2 k hk
  refine ⟨b, o, y, h1, h2, fun j v hv => ?_⟩
  have h4 := h3 j v hv
  have hlt := block_lt_of_cell h4
  have e := ht.2.2.2.2 b hlt (hF _ h1)
  simp only [World.cell?] at h4 ⊢
  rw [e]
  exact h4
theorem RS.lt {w : World} {p : Nat} {l : List Tk} {b : Bool} (h : RS w p l b) : p < w.heap.size := by
  obtain ⟨R, m, d, h1, h2, h3, h4, h5, h6, h7⟩ := h
  exact (facts h7).2.2.2.2
/-- What touches nothing up to the reader keeps it. -/
theorem RS.touch {w w' : World} {p : Nat} {l : List Tk} {b : Bool} {F : Nat → Prop} (h : RS w p l b) (ht : codec.Touch F w w') (hF : ∀ i, i ≤ p → ¬ F i) : RS w' p l b := by
  obtain ⟨R, m, d, h1, h2, h3, h4, h5, h6, h7⟩ := h
  exact ⟨R, m, d, h1, h2, h3, rd_touch h4 ht (fun a ha => hF _ (Nat.le_of_lt (h5 a ha))), h5, h6, by rw [ht.2.2.2.2 p (facts h7).2.2.2.2 (hF p (Nat.le_refl p))]; exact h7⟩
theorem RS.below {w w' : World} {p : Nat} {l : List Tk} {b : Bool} (h : RS w p l b) (hb : Below w.heap.size w w') : RS w' p l b :=
  h.touch (F := fun i => w.heap.size ≤ i) ⟨hb.os, hb.tape, hb.output, hb.size, fun k hk _ => hb.block k hk⟩ (fun i hi h' => by have := h.lt; omega)
theorem RS.bad {w : World} {p : Nat} {l : List Tk} {b : Bool} (h : RS w p l b) : RS (w.setCell ⟨p, 0 + 1, none⟩ (.bool true)) p l true := by
  obtain ⟨R, m, d, h1, h2, h3, h4, h5, h6, h7⟩ := h
  exact ⟨R, m, d, h1, h2, h3, rd_touch h4 (touch_set w p _ _) (fun a ha e => by have := h5 a ha; omega), h5, h6, set1 h7⟩
theorem RS.free {w : World} {p : Nat} {l : List Tk} {b : Bool} (h : RS w p l b) : w.frozen? ⟨p, 0 + 1, none⟩ = false ∧ w.cell? ⟨p, 0 + 1, none⟩ = some (.bool b) ∧ w.frozen? ⟨p, 0, none⟩ = false := by
  obtain ⟨R, m, d, h1, h2, h3, h4, h5, h6, h7⟩ := h
  exact ⟨(facts h7).2.2.2.1, (facts h7).2.1, (facts h7).2.2.1⟩
theorem RS.head {w : World} {p : Nat} {l : List Tk} {b : Bool} (h : RS w p l b) : ∃ R m d, w.cell? ⟨p, 0, none⟩ = some (.slice R m d) ∧ l.length = m ∧ m ≤ d ∧ m ≤ 200 := by
  obtain ⟨R, m, d, h1, h2, h3, h4, h5, h6, h7⟩ := h
  exact ⟨R, m, d, (facts h7).1, h4.1, h1, h3⟩
theorem RS.short {w : World} {p : Nat} {l : List Tk} {b : Bool} (h : RS w p l b) : l.length ≤ 200 := by
  obtain ⟨R, m, d, h1, h2, h3, h4⟩ := h.head
  omega
theorem RS.fit {w : World} {p : Nat} {l : List Tk} {b : Bool} (h : RS w p l b) : ∀ t ∈ l, Fit 3000 t := by
  obtain ⟨R, m, d, h1, h2, h3, h4, h5, h6, h7⟩ := h
  exact h6

/-- Whether a token of the kind comes. -/
def comesB (l : List Tk) (bad : Bool) (k : Nat) : Bool := !bad && (match l with | [] => false | t :: _ => decide (t.k = k))
def takeT (l : List Tk) (bad : Bool) (k : Nat) : List Nat := if comesB l bad k = true then (match l with | [] => [] | t :: _ => t.t) else []
def takeL (l : List Tk) (bad : Bool) (k : Nat) : List Tk := if comesB l bad k = true then l.tail else l
theorem comes_bad (l : List Tk) (k : Nat) : comesB l true k = false := rfl
theorem comes_nil (b : Bool) (k : Nat) : comesB [] b k = false := by cases b <;> rfl
theorem takeL_sub (l : List Tk) (bad : Bool) (k : Nat) : ∀ t ∈ takeL l bad k, t ∈ l := by
  intro t ht
  unfold takeL at ht
  split at ht
  · exact List.mem_of_mem_tail ht
  · exact ht
theorem takeL_less {l : List Tk} {bad : Bool} {k : Nat} (h : comesB l bad k = true) : (takeL l bad k).length + 1 = l.length := by
  unfold takeL
  rw [if_pos h]
  cases l with
  | nil => rw [comes_nil] at h; cases h
  | cons t r => rfl
theorem takeL_le (l : List Tk) (bad : Bool) (k : Nat) : (takeL l bad k).length ≤ l.length := by
  unfold takeL
  split
  · rw [List.length_tail]; omega
  · exact Nat.le_refl _
theorem takeT_fit {l : List Tk} {bad : Bool} {k : Nat} (h : ∀ t ∈ l, Fit 3000 t) : (takeT l bad k).length ≤ 3000 ∧ ∀ x ∈ takeT l bad k, x < 256 := by
  unfold takeT
  split
  · cases l with
    | nil => exact ⟨by simp, by simp⟩
    | cons t r => exact (h t (by simp)).2
  · exact ⟨by simp, by simp⟩
theorem takeT_atom {l : List Tk} {bad : Bool} (h : ∀ t ∈ l, Fit 3000 t) : ∀ x ∈ takeT l bad 1, x < 128 := by
  unfold takeT
  split
  · rename_i hc
    cases l with
    | nil => simp
    | cons t r =>
      have hk : t.k = 1 := by
        unfold comesB at hc
        simp at hc
        exact hc.2
      intro x hx
      rcases (h t (by simp)).1 with h1 | h1 | h1
      · have := h1.2.2 x hx
        simp [lx.isAt] at this
        omega
      · have := h1.1; omega
      · rcases h1.1 with h2 | h2 <;> omega
  · simp

set_option maxHeartbeats 1600000 in
theorem comes_any (w : World) (p : Nat) (l : List Tk) (bad : Bool) (k : Nat) (hk : k < 10) (h : RS w p l bad) :
    Calls Tryz.prog 48 #[.pointer (some ⟨p, 0, none⟩), .int .i64 k] w fun e w' => e = .returned (.bool (comesB l bad k)) ∧ w' = w := by
  obtain ⟨R, m, d, h1, h2, h3, h4, h5, h6, h7⟩ := h
  obtain ⟨c0, c1, f0, f1, hlt⟩ := facts h7
  clear h7
  cases bad with
  | true =>
    rw [comes_bad]
    clear h1 h2 h3 h4 h5 h6
    go_enter Tryz.func48, Tryz.ntmps48
    go_wp2
    go_ret
    exact ⟨rfl, rfl⟩
  | false =>
    cases l with
    | nil =>
      rw [comes_nil]
      obtain rfl : m = 0 := by have := h4.1; simpa using this.symm
      clear h1 h2 h3 h4 h5 h6
      go_enter Tryz.func48, Tryz.ntmps48
      go_wp2
      go_ret
      exact ⟨rfl, rfl⟩
    | cons t r =>
      have hm : 0 < m := by have := h4.1; simp at this; omega
      obtain ⟨b, o, y, rfl, hy, k1, k2⟩ := tok_at h4 0 hm
      obtain rfl : t = y := by simpa using hy
      rw [show o + 0 * 2 = o by omega] at k1
      have e : comesB (t :: r) false k = decide (t.k = k) := by unfold comesB; simp
      rw [e]
      have hm0 : decide ((0 : Int) < (m : Int)) = true := decide_eq_true (by omega)
      have hm1 : ((0 : Int) < (m : Int)) := by omega
      obtain ⟨tk, htk⟩ : ∃ q, t.k = q := ⟨_, rfl⟩
      rw [htk] at k1
      have ek : ((tk : Int) == (k : Int)) = decide (t.k = k) := by
        rw [htk]
        by_cases hh : tk = k
        · rw [hh]; simp
        · rw [decide_eq_false hh, beq_eq_false_iff_ne]; omega
      rw [← ek]
      clear h1 h2 h3 h4 h5 h6 e ek k2 hy htk hm
      go_enter Tryz.func48, Tryz.ntmps48
      go_wp2
      go_ret
      exact ⟨rfl, rfl⟩
end Go.Proofs.YtbhpgghbpibalaaGreatDoor.par
namespace Go.Proofs.YtbhpgghbpibalaaGreatDoor.par
open Go.ChangeShapes Go.WideShapes Go.ChangeAt Go.RowKit
open Go.Proofs.YtbhpgghbpibalaaGreatDoor.codec (Bytes vals)
open Go.Proofs.YtbhpgghbpibalaaGreatDoor.row
open Go.Proofs.YtbhpgghbpibalaaGreatDoor.lx (Tk cT fT Fit tok_at octs)
set_option linter.unusedVariables false
set_option maxRecDepth 100000
set_option linter.unusedSimpArgs false

/-- What is left behind the first one. -/
theorem rd_tail {w : World} {b o m : Nat} {t : Tk} {r : List Tk} (h : Rd cT 2 w (some ⟨b, o, none⟩) m (t :: r)) (A : Option Addr) (hA : 1 < m → A = some ⟨b, o + 2, none⟩) : Rd cT 2 w A (m - 1) r := by
  have hl := h.1
  refine ⟨by simp at hl; omega, fun k hk => ?_⟩
  obtain ⟨b1, o1, y, h1, h2, h3⟩ := h.2 (k + 1) (by omega)
  cases h1
  refine ⟨b, o + 2, y, hA (by omega), by simpa using h2, fun j v hv => ?_⟩
  have := h3 j v hv
  rw [show o + 2 + k * 2 + j = o + (k + 1) * 2 + j by omega]
  exact this
/-- What taking one of a kind does. -/
def TakeAns (w : World) (p : Nat) (l : List Tk) (bad : Bool) (k : Nat) (e : Ending) (w' : World) : Prop :=
  e = .returned (.string (lx.strOf (takeT l bad k))) ∧ RS w' p (takeL l bad k) (!comesB l bad k) ∧ codec.Touch (· = p) w w'
theorem take_no (w : World) (p : Nat) (l : List Tk) (bad : Bool) (k : Nat) (hk : k < 10) (h : RS w p l bad) (hn : comesB l bad k = false) :
    Calls Tryz.prog 27 #[.pointer (some ⟨p, 0, none⟩), .int .i64 k] w (TakeAns w p l bad k) := by
  have hb := h.bad
  have HC := Lib.hid (comes_any w p l bad k hk h)
  rw [hn] at HC
  obtain ⟨f1, c1, f0⟩ := h.free
  have HZ := Lib.hid (show TakeAns w p l bad k (.returned (.string ⟨#[]⟩)) (w.setCell ⟨p, 0 + 1, none⟩ (.bool true)) from by
    refine ⟨?_, ?_, touch_set w p _ _⟩
    · unfold takeT; rw [hn]; rfl
    · unfold takeL; rw [hn]; exact hb)
  clear h hb hn
  go_enter Tryz.func27, Tryz.ntmps27
  go_wp2_with (go_at_call 48; refine HC.out.mono ?_; rintro e w1 ⟨rfl, hw⟩; replace hw := hw.symm; subst hw)
  go_ret
  exact HZ.out
set_option maxHeartbeats 1600000 in
theorem take_yes (w : World) (p : Nat) (l : List Tk) (bad : Bool) (k : Nat) (hk : k < 10) (h : RS w p l bad) (hn : comesB l bad k = true) :
    Calls Tryz.prog 27 #[.pointer (some ⟨p, 0, none⟩), .int .i64 k] w (TakeAns w p l bad k) := by
  have HC := Lib.hid (comes_any w p l bad k hk h)
  rw [hn] at HC
  obtain ⟨R, m, d, h1, h2, h3, h4, h5, h6, h7⟩ := h
  obtain ⟨c0, c1, f0, f1, hlt⟩ := facts h7
  cases l with
  | nil => rw [comes_nil] at hn; cases hn
  | cons t r =>
    obtain rfl : bad = false := by cases bad with
      | true => rw [comes_bad] at hn; cases hn
      | false => rfl
    have hm : 0 < m := by have := h4.1; simp at this; omega
    obtain ⟨b, o, y, rfl, hy, k1, k2⟩ := tok_at h4 0 hm
    obtain rfl : t = y := by simpa using hy
    rw [show o + 0 * 2 + 1 = o + 1 by omega] at k2
    have e1 : takeT (t :: r) false k = t.t := by unfold takeT; rw [if_pos hn]
    have e2 : takeL (t :: r) false k = r := by unfold takeL; rw [if_pos hn]; rfl
    have hbp := h5 _ rfl
    have HZ := Lib.hid (show ∀ A : Option Addr, (1 < d → A = some ⟨b, o + 2, none⟩) → (∀ a, A = some a → a.block < p) → (A = none → d - 1 = 0) → TakeAns w p (t :: r) false k (.returned (.string (lx.strOf t.t))) (w.setCell ⟨p, 0, none⟩ (.slice A (m - 1) (d - 1))) from fun A hA hA2 hA3 => by
      refine ⟨by rw [e1], ?_, touch_set w p _ _⟩
      rw [e2, hn]
      refine ⟨A, m - 1, d - 1, by omega, hA3, by omega, rd_touch (rd_tail h4 A (fun h => hA (by omega))) (touch_set w p _ _) (fun a ha e => by have := hA2 a ha; omega), hA2, fun t ht => h6 t (by simp [ht]), set0 h7⟩)
    have l0 : (0 : Int) < (m : Int) := by omega
    have hd1 : 1 ≤ d := by omega
    have hm1 : 1 ≤ m := hm
    by_cases hdd : d = 1
    · subst hdd
      clear h1 h2 h4 h5 h6 h7 hy hn e1 e2 k1
      go_enter Tryz.func27, Tryz.ntmps27
      go_wp2_with (go_at_call 48; refine HC.out.mono ?_; rintro e w1 ⟨rfl, hw⟩; replace hw := hw.symm; subst hw)
      go_ret
      exact HZ.out (some ⟨b, o, none⟩) (fun h => by omega) (fun a ha => by cases ha; exact hbp) (fun e => by cases e)
    · have hd2 : 1 < d := by omega
      clear h1 h2 h4 h5 h6 h7 hy hn e1 e2 k1
      go_enter Tryz.func27, Tryz.ntmps27
      go_wp2_with (go_at_call 48; refine HC.out.mono ?_; rintro e w1 ⟨rfl, hw⟩; replace hw := hw.symm; subst hw)
      go_ret
      exact HZ.out (some ⟨b, o + 2, none⟩) (fun _ => rfl) (fun a ha => by cases ha; exact hbp) (fun e => by cases e)
theorem take_any (w : World) (p : Nat) (l : List Tk) (bad : Bool) (k : Nat) (hk : k < 10) (h : RS w p l bad) :
    Calls Tryz.prog 27 #[.pointer (some ⟨p, 0, none⟩), .int .i64 k] w (TakeAns w p l bad k) := by
  cases hn : comesB l bad k with
  | true => exact take_yes w p l bad k hk h hn
  | false => exact take_no w p l bad k hk h hn
theorem must_any (w : World) (p : Nat) (l : List Tk) (bad ok : Bool) (h : RS w p l bad) :
    Calls Tryz.prog 28 #[.pointer (some ⟨p, 0, none⟩), .bool ok] w fun e w' => e = .returned (.tuple #[]) ∧ RS w' p l (bad || !ok) ∧ codec.Touch (· = p) w w' := by
  obtain ⟨f1, c1, f0⟩ := h.free
  have HB := Lib.hid (show RS (w.setCell ⟨p, 0 + 1, none⟩ (.bool true)) p l (bad || !false) from by cases bad <;> exact h.bad)
  have HA := Lib.hid (show RS w p l (bad || !true) from by cases bad <;> exact h)
  clear h
  cases ok with
  | true =>
    go_enter Tryz.func28, Tryz.ntmps28
    go_wp2
    go_end0
    exact ⟨rfl, HA.out, codec.Touch.refl _ _⟩
  | false =>
    go_enter Tryz.func28, Tryz.ntmps28
    go_wp2
    go_end0
    exact ⟨rfl, HB.out, touch_set w p _ _⟩
theorem done_any (w : World) (p : Nat) (l : List Tk) (bad : Bool) (h : RS w p l bad) :
    Calls Tryz.prog 10 #[.pointer (some ⟨p, 0, none⟩)] w fun e w' => e = .returned (.bool (!bad && l.isEmpty)) ∧ w' = w := by
  obtain ⟨R, m, d, c0, hl, hmd, hm⟩ := h.head
  obtain ⟨f1, c1, f0⟩ := h.free
  have hlt := h.lt
  cases bad with
  | true =>
    clear h
    go_enter Tryz.func10, Tryz.ntmps10
    go_wp2
    go_ret
    exact ⟨rfl, rfl⟩
  | false =>
    clear h
    have e : l.isEmpty = ((m : Int) == 0) := by
      cases l with
      | nil => simp at hl; subst hl; rfl
      | cons t r => simp at hl; rw [List.isEmpty_cons]; symm; rw [beq_eq_false_iff_ne]; omega
    rw [e]
    clear e hl
    go_enter Tryz.func10, Tryz.ntmps10
    go_wp2
    go_ret
    exact ⟨rfl, rfl⟩
end Go.Proofs.YtbhpgghbpibalaaGreatDoor.par
