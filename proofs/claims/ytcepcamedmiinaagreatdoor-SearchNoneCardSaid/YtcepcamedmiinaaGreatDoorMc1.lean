/- The reader of keys' tokens: what it holds, and what its first steps do. -/
import Derived.Test.YtcepcamedmiinaaGreatDoorMa2
import Derived.Test.YtcepcamedmiinaaGreatDoorMb4
import Derived.WalkSmall
namespace Go.Proofs.YtcepcamedmiinaaGreatDoor.sea
open Go.ChangeShapes Go.WideShapes Go.ChangeAt Go.RowKit
open Go.Proofs.YtcepcamedmiinaaGreatDoor.codec (Bytes vals)
open Go.Proofs.YtcepcamedmiinaaGreatDoor.row
set_option linter.unusedVariables false
set_option maxRecDepth 100000
set_option linter.unusedSimpArgs false

def cT (t : Tk) : List Value := [.int .i64 t.k, .string t.t]
theorem fT : Fm cT 2 := ⟨fun _ => rfl, fun y u hu => by simp [cT] at hu; rcases hu with rfl | rfl <;> rfl⟩
theorem infoT : (Tryz.prog.info? 34).map (fun i => (i.zero, i.size, i.bytes)) = some (some (.agg #[.int .i64 0, .string ⟨#[]⟩]), 2, 24) := by kernel_rfl
theorem tok_at {w : World} {A : Option Addr} {n : Nat} {ys : List Tk} (h : Rd cT 2 w A n ys) (k : Nat) (hk : k < n) : ∃ b o y, A = some ⟨b, o, none⟩ ∧ ys[k]? = some y ∧ w.cell? ⟨b, o + k * 2, none⟩ = some (.int .i64 y.k) ∧ w.cell? ⟨b, o + k * 2 + 1, none⟩ = some (.string y.t) := by
  obtain ⟨b, o, y, h1, h2, h3⟩ := h.2 k hk
  exact ⟨b, o, y, h1, h2, h3 0 _ rfl, h3 1 _ rfl⟩
/-- A text of a size that may be. -/
def Big (t : Tk) : Prop := t.t.size ≤ 140737488355328
/-- A reader at p, of whose tokens these are left. -/
def RS (w : World) (p : Nat) (l : List Tk) (bad : Bool) : Prop :=
  ∃ (R : Option Addr) (m d : Nat), m ≤ d ∧ (R = none → d = 0) ∧ m ≤ 200 ∧ Rd cT 2 w R m l ∧ (∀ a, R = some a → 0 < m → a.block < p) ∧ (∀ t ∈ l, Big t) ∧ w.heap[p]? = some (.cells #[.slice R m d, .bool bad] 56 (0, 0))
theorem facts {w : World} {p : Nat} {v : Value} {b : Bool} (h : w.heap[p]? = some (.cells #[v, .bool b] 56 (0, 0))) :
    w.cell? ⟨p, 0, none⟩ = some v ∧ w.cell? ⟨p, 0 + 1, none⟩ = some (.bool b) ∧ w.frozen? ⟨p, 0, none⟩ = false ∧ w.frozen? ⟨p, 0 + 1, none⟩ = false ∧ p < w.heap.size :=
  ⟨by simp [World.cell?, h], by simp [World.cell?, h], by simp [World.frozen?, h], by simp [World.frozen?, h], (Array.getElem?_eq_some_iff.1 h).1⟩
theorem set0 {w : World} {p : Nat} {v v' : Value} {b : Bool} (h : w.heap[p]? = some (.cells #[v, .bool b] 56 (0, 0))) :
    (w.setCell ⟨p, 0, none⟩ v').heap[p]? = some (.cells #[v', .bool b] 56 (0, 0)) := by
  rw [heap_setCell_same w p 0 _ _ _ h]; rfl
theorem set1 {w : World} {p : Nat} {v : Value} {b b' : Bool} (h : w.heap[p]? = some (.cells #[v, .bool b] 56 (0, 0))) :
    (w.setCell ⟨p, 0 + 1, none⟩ (.bool b')).heap[p]? = some (.cells #[v, .bool b'] 56 (0, 0)) := by
  rw [heap_setCell_same w p (0 + 1) _ _ _ h]; rfl
theorem touch_set (w : World) (p i : Nat) (v : Value) : codec.Touch (· = p) w (w.setCell ⟨p, i, none⟩ v) := codec.Touch.setCell (F := fun x => x = p) (codec.Touch.refl (fun x => x = p) w) ⟨p, i, none⟩ (.inr rfl) v
theorem rd_touch {w w' : World} {R : Option Addr} {m : Nat} {l : List Tk} {F : Nat → Prop} (h : Rd cT 2 w R m l) (ht : codec.Touch F w w') (hF : ∀ a, R = some a → 0 < m → ¬ F a.block) : Rd cT 2 w' R m l := by
  refine ⟨h.1, fun k hk => ?_⟩
  obtain ⟨b, o, y, h1, h2, h3⟩ := h.2 k hk
  refine ⟨b, o, y, h1, h2, fun j v hv => ?_⟩
  have h4 := h3 j v hv
  have hlt := block_lt_of_cell h4
  have e := ht.2.2.2.2 b hlt (hF _ h1 (by omega))
  simp only [World.cell?] at h4 ⊢
  rw [e]
  exact h4
theorem RS.lt {w : World} {p : Nat} {l : List Tk} {b : Bool} (h : RS w p l b) : p < w.heap.size := by
  obtain ⟨R, m, d, h1, h2, h3, h4, h5, h6, h7⟩ := h
  exact (facts h7).2.2.2.2
/-- What touches nothing up to the reader keeps it. -/
theorem RS.touch {w w' : World} {p : Nat} {l : List Tk} {b : Bool} {F : Nat → Prop} (h : RS w p l b) (ht : codec.Touch F w w') (hF : ∀ i, i ≤ p → ¬ F i) : RS w' p l b := by
  obtain ⟨R, m, d, h1, h2, h3, h4, h5, h6, h7⟩ := h
  exact ⟨R, m, d, h1, h2, h3, rd_touch h4 ht (fun a ha h0 => hF _ (Nat.le_of_lt (h5 a ha h0))), h5, h6, by rw [ht.2.2.2.2 p (facts h7).2.2.2.2 (hF p (Nat.le_refl p))]; exact h7⟩
theorem RS.below {w w' : World} {p : Nat} {l : List Tk} {b : Bool} (h : RS w p l b) (hb : Below w.heap.size w w') : RS w' p l b :=
  h.touch (F := fun i => w.heap.size ≤ i) ⟨hb.os, hb.tape, hb.output, hb.size, fun k hk _ => hb.block k hk⟩ (fun i hi h' => by have := h.lt; omega)
theorem RS.bad {w : World} {p : Nat} {l : List Tk} {b : Bool} (h : RS w p l b) : RS (w.setCell ⟨p, 0 + 1, none⟩ (.bool true)) p l true := by
  obtain ⟨R, m, d, h1, h2, h3, h4, h5, h6, h7⟩ := h
  exact ⟨R, m, d, h1, h2, h3, rd_touch h4 (touch_set w p _ _) (fun a ha h0 e => by have := h5 a ha h0; omega), h5, h6, set1 h7⟩
theorem RS.free {w : World} {p : Nat} {l : List Tk} {b : Bool} (h : RS w p l b) : w.frozen? ⟨p, 0 + 1, none⟩ = false ∧ w.cell? ⟨p, 0 + 1, none⟩ = some (.bool b) ∧ w.frozen? ⟨p, 0, none⟩ = false := by
  obtain ⟨R, m, d, h1, h2, h3, h4, h5, h6, h7⟩ := h
  exact ⟨(facts h7).2.2.2.1, (facts h7).2.1, (facts h7).2.2.1⟩
theorem RS.head {w : World} {p : Nat} {l : List Tk} {b : Bool} (h : RS w p l b) : ∃ R m d, w.cell? ⟨p, 0, none⟩ = some (.slice R m d) ∧ l.length = m ∧ m ≤ d ∧ m ≤ 200 := by
  obtain ⟨R, m, d, h1, h2, h3, h4, h5, h6, h7⟩ := h
  exact ⟨R, m, d, (facts h7).1, h4.1, h1, h3⟩
theorem RS.short {w : World} {p : Nat} {l : List Tk} {b : Bool} (h : RS w p l b) : l.length ≤ 200 := by
  obtain ⟨R, m, d, h1, h2, h3, h4⟩ := h.head
  omega
theorem RS.fit {w : World} {p : Nat} {l : List Tk} {b : Bool} (h : RS w p l b) : ∀ t ∈ l, Big t := by
  obtain ⟨R, m, d, h1, h2, h3, h4, h5, h6, h7⟩ := h
  exact h6

set_option maxHeartbeats 1600000 in
theorem comes_any (w : World) (p : Nat) (l : List Tk) (bad : Bool) (k : Int) (h : RS w p l bad) :
    Calls Tryz.prog 20 #[.pointer (some ⟨p, 0, none⟩), .int .i64 k] w fun e w' => e = .returned (.bool (comesB l bad k)) ∧ w' = w := by
  obtain ⟨R, m, d, h1, h2, h3, h4, h5, h6, h7⟩ := h
  obtain ⟨c0, c1, f0, f1, hlt⟩ := facts h7
  clear h7
  cases bad with
  | true =>
    rw [comes_bad]
    clear h1 h2 h3 h4 h5 h6
    go_enter Tryz.func20, Tryz.ntmps20
    go_wp2
    go_ret
    exact ⟨rfl, rfl⟩
  | false =>
    cases l with
    | nil =>
      rw [comes_nil]
      obtain rfl : m = 0 := by have := h4.1; simpa using this.symm
      clear h1 h2 h3 h4 h5 h6
      go_enter Tryz.func20, Tryz.ntmps20
      go_wp2
      go_ret
      exact ⟨rfl, rfl⟩
    | cons t r =>
      have hm : 0 < m := by have := h4.1; simp at this; omega
      obtain ⟨b, o, y, rfl, hy, k1, k2⟩ := tok_at h4 0 hm
      obtain rfl : t = y := by simpa using hy
      rw [show o + 0 * 2 = o by omega] at k1
      have e : comesB (t :: r) false k = decide (t.k = k) := by unfold comesB; simp
      rw [e]
      have hm0 : decide ((0 : Int) < (m : Int)) = true := decide_eq_true (by omega)
      have hm1 : ((0 : Int) < (m : Int)) := by omega
      obtain ⟨tk, htk⟩ : ∃ q, t.k = q := ⟨_, rfl⟩
      rw [htk] at k1
      have ek : (tk == k) = decide (t.k = k) := by rw [htk]; rfl
      rw [← ek]
      clear h1 h2 h3 h4 h5 h6 e ek k2 hy htk hm
      go_enter Tryz.func20, Tryz.ntmps20
      go_wp2
      go_ret
      exact ⟨rfl, rfl⟩
/-- What is left behind the first one. -/
theorem rd_tail {w : World} {b o m : Nat} {t : Tk} {r : List Tk} (h : Rd cT 2 w (some ⟨b, o, none⟩) m (t :: r)) (A : Option Addr) (hA : 1 < m → A = some ⟨b, o + 2, none⟩) : Rd cT 2 w A (m - 1) r := by
  have hl := h.1
  refine ⟨by simp at hl; omega, fun k hk => ?_⟩
  obtain ⟨b1, o1, y, h1, h2, h3⟩ := h.2 (k + 1) (by omega)
  cases h1
  refine ⟨b, o + 2, y, hA (by omega), by simpa using h2, fun j v hv => ?_⟩
  have := h3 j v hv
  rw [show o + 2 + k * 2 + j = o + (k + 1) * 2 + j by omega]
  exact this
/-- What taking one of a kind does. -/
def TakeAns (w : World) (p : Nat) (l : List Tk) (bad : Bool) (k : Int) (e : Ending) (w' : World) : Prop :=
  e = .returned (.string (takeT l bad k)) ∧ RS w' p (takeL l bad k) (!comesB l bad k) ∧ codec.Touch (· = p) w w'
theorem take_no (w : World) (p : Nat) (l : List Tk) (bad : Bool) (k : Int) (h : RS w p l bad) (hn : comesB l bad k = false) :
    Calls Tryz.prog 27 #[.pointer (some ⟨p, 0, none⟩), .int .i64 k] w (TakeAns w p l bad k) := by
  have hb := h.bad
  have HC := Lib.hid (comes_any w p l bad k h)
  rw [hn] at HC
  obtain ⟨f1, c1, f0⟩ := h.free
  have HZ := Lib.hid (show TakeAns w p l bad k (.returned (.string ⟨#[]⟩)) (w.setCell ⟨p, 0 + 1, none⟩ (.bool true)) from by
    refine ⟨?_, ?_, touch_set w p _ _⟩
    · unfold takeT; rw [hn]; rfl
    · unfold takeL; rw [hn]; exact hb)
  clear h hb hn
  go_enter Tryz.func27, Tryz.ntmps27
  go_wp2_with (go_at_call 20; refine HC.out.mono ?_; rintro e w1 ⟨rfl, hw⟩; replace hw := hw.symm; subst hw)
  go_ret
  exact HZ.out
set_option maxHeartbeats 1600000 in
theorem take_yes (w : World) (p : Nat) (l : List Tk) (bad : Bool) (k : Int) (h : RS w p l bad) (hn : comesB l bad k = true) :
    Calls Tryz.prog 27 #[.pointer (some ⟨p, 0, none⟩), .int .i64 k] w (TakeAns w p l bad k) := by
  have HC := Lib.hid (comes_any w p l bad k h)
  rw [hn] at HC
  obtain ⟨R, m, d, h1, h2, h3, h4, h5, h6, h7⟩ := h
  obtain ⟨c0, c1, f0, f1, hlt⟩ := facts h7
  cases l with
  | nil => rw [comes_nil] at hn; cases hn
  | cons t r =>
    obtain rfl : bad = false := by cases bad with
      | true => rw [comes_bad] at hn; cases hn
      | false => rfl
    have hm : 0 < m := by have := h4.1; simp at this; omega
    obtain ⟨b, o, y, rfl, hy, k1, k2⟩ := tok_at h4 0 hm
    obtain rfl : t = y := by simpa using hy
    rw [show o + 0 * 2 + 1 = o + 1 by omega] at k2
    have e1 : takeT (t :: r) false k = t.t := by unfold takeT; rw [if_pos hn]
    have e2 : takeL (t :: r) false k = r := by unfold takeL; rw [if_pos hn]; rfl
    have hbp := h5 _ rfl hm
    have HZ := Lib.hid (show ∀ A : Option Addr, (1 < d → A = some ⟨b, o + 2, none⟩) → (∀ a, A = some a → a.block < p) → (A = none → d - 1 = 0) → TakeAns w p (t :: r) false k (.returned (.string (t.t))) (w.setCell ⟨p, 0, none⟩ (.slice A (m - 1) (d - 1))) from fun A hA hA2 hA3 => by
      refine ⟨by rw [e1], ?_, touch_set w p _ _⟩
      rw [e2, hn]
      refine ⟨A, m - 1, d - 1, by omega, hA3, by omega, rd_touch (rd_tail h4 A (fun h => hA (by omega))) (touch_set w p _ _) (fun a ha _ e => by have := hA2 a ha; omega), fun a ha _ => hA2 a ha, fun t ht => h6 t (by simp [ht]), set0 h7⟩)
    have l0 : (0 : Int) < (m : Int) := by omega
    have hd1 : 1 ≤ d := by omega
    have hm1 : 1 ≤ m := hm
    by_cases hdd : d = 1
    · subst hdd
      clear h1 h2 h4 h5 h6 h7 hy hn e1 e2 k1
      go_enter Tryz.func27, Tryz.ntmps27
      go_wp2_with (go_at_call 20; refine HC.out.mono ?_; rintro e w1 ⟨rfl, hw⟩; replace hw := hw.symm; subst hw)
      go_ret
      exact HZ.out (some ⟨b, o, none⟩) (fun h => by omega) (fun a ha => by cases ha; exact hbp) (fun e => by cases e)
    · have hd2 : 1 < d := by omega
      clear h1 h2 h4 h5 h6 h7 hy hn e1 e2 k1
      go_enter Tryz.func27, Tryz.ntmps27
      go_wp2_with (go_at_call 20; refine HC.out.mono ?_; rintro e w1 ⟨rfl, hw⟩; replace hw := hw.symm; subst hw)
      go_ret
      exact HZ.out (some ⟨b, o + 2, none⟩) (fun _ => rfl) (fun a ha => by cases ha; exact hbp) (fun e => by cases e)
theorem take_any (w : World) (p : Nat) (l : List Tk) (bad : Bool) (k : Int) (h : RS w p l bad) :
    Calls Tryz.prog 27 #[.pointer (some ⟨p, 0, none⟩), .int .i64 k] w (TakeAns w p l bad k) := by
  cases hn : comesB l bad k with
  | true => exact take_yes w p l bad k h hn
  | false => exact take_no w p l bad k h hn
theorem must_any (w : World) (p : Nat) (l : List Tk) (bad ok : Bool) (h : RS w p l bad) :
    Calls Tryz.prog 24 #[.pointer (some ⟨p, 0, none⟩), .bool ok] w fun e w' => e = .returned (.tuple #[]) ∧ RS w' p l (bad || !ok) ∧ codec.Touch (· = p) w w' := by
  obtain ⟨f1, c1, f0⟩ := h.free
  have HB := Lib.hid (show RS (w.setCell ⟨p, 0 + 1, none⟩ (.bool true)) p l (bad || !false) from by cases bad <;> exact h.bad)
  have HA := Lib.hid (show RS w p l (bad || !true) from by cases bad <;> exact h)
  clear h
  cases ok with
  | true =>
    go_enter Tryz.func24, Tryz.ntmps24
    go_wp2
    go_end0
    exact ⟨rfl, HA.out, codec.Touch.refl _ _⟩
  | false =>
    go_enter Tryz.func24, Tryz.ntmps24
    go_wp2
    go_end0
    exact ⟨rfl, HB.out, touch_set w p _ _⟩

theorem take_big {w : World} {p : Nat} {l : List Tk} {b : Bool} {k : Int} (h : RS w p l b) : (takeT l b k).size ≤ 140737488355328 := by
  unfold takeT
  split
  · cases l with
    | nil => exact Nat.zero_le _
    | cons t r => exact h.fit t (by simp)
  · exact Nat.zero_le _
end Go.Proofs.YtcepcamedmiinaaGreatDoor.sea
namespace Go.Proofs.YtcepcamedmiinaaGreatDoor.sea
open Go.ChangeShapes Go.WideShapes Go.ChangeAt Go.RowKit
open Go.Proofs.YtcepcamedmiinaaGreatDoor.codec (Bytes vals)
open Go.Proofs.YtcepcamedmiinaaGreatDoor.row
set_option linter.unusedVariables false
set_option maxRecDepth 100000
set_option linter.unusedSimpArgs false

/-- A variable that holds an error. -/
def Err (g : Nat) (w : World) : Prop := ∃ tp q t fr, w.heap[g]? = some (.cells #[.iface tp q] t fr)
theorem Err.below {g : Nat} {w w' : World} (h : Err g w) (hb : Below w.heap.size w w') : Err g w' := by
  obtain ⟨tp, q, t, fr, h⟩ := h
  exact ⟨tp, q, t, fr, (hb.block _ (Array.getElem?_eq_some_iff.1 h).1).trans h⟩
def flags10 : Array Value := #[.string ⟨#[83, 69, 69, 78]⟩, .int .i64 1, .string ⟨#[65, 78, 83, 87, 69, 82, 69, 68]⟩, .int .i64 2, .string ⟨#[70, 76, 65, 71, 71, 69, 68]⟩, .int .i64 4, .string ⟨#[68, 69, 76, 69, 84, 69, 68]⟩, .int .i64 8, .string ⟨#[68, 82, 65, 70, 84]⟩, .int .i64 16]
/-- The variable holds the five names, and their flags. -/
def Five (w : World) : Prop := ∃ t fr, w.heap[0]? = some (.cells flags10 t fr)
theorem Five.below {w w' : World} (h : Five w) (hb : Below w.heap.size w w') : Five w' := by
  obtain ⟨t, fr, h⟩ := h
  exact ⟨t, fr, (hb.block _ (Array.getElem?_eq_some_iff.1 h).1).trans h⟩
/-- What the libraries' variables and the listed ones hold. -/
structure Env (w : World) : Prop where
  room : hd.Room w
  syn : Err 2 w
  ran : Err 3 w
  five : Five w
theorem Env.below {w w' : World} (h : Env w) (hb : Below w.heap.size w w') : Env w' := ⟨h.room.below hb, h.syn.below hb, h.ran.below hb, h.five.below hb⟩
theorem var_syn {w : World} (h : Err 2 w) : ∃ tp q, w.var? Tryz.prog "strconv.ErrSyntax" = some #[.iface tp q] := by
  obtain ⟨tp, q, t, fr, h⟩ := h
  refine ⟨tp, q, ?_⟩
  unfold World.var?
  rw [show Tryz.prog.globalNamed "strconv.ErrSyntax" = some 2 by kernel_rfl]
  simp only [Option.bind_some, h]
theorem var_ran {w : World} (h : Err 3 w) : ∃ tp q, w.var? Tryz.prog "strconv.ErrRange" = some #[.iface tp q] := by
  obtain ⟨tp, q, t, fr, h⟩ := h
  refine ⟨tp, q, ?_⟩
  unfold World.var?
  rw [show Tryz.prog.globalNamed "strconv.ErrRange" = some 3 by kernel_rfl]
  simp only [Option.bind_some, h]
/-- A reader, and what it stands on. -/
def ST (w : World) (p : Nat) (l : List Tk) (bad : Bool) : Prop := RS w p l bad ∧ ∃ w0, Env w0 ∧ w0.heap.size ≤ p ∧ Below w0.heap.size w0 w
theorem ST.env {w : World} {p : Nat} {l : List Tk} {b : Bool} (h : ST w p l b) : Env w := by
  obtain ⟨_, w0, he, _, hb⟩ := h
  exact he.below hb
theorem ST.move {w w' : World} {p : Nat} {l l' : List Tk} {b b' : Bool} (h : ST w p l b) (hr : RS w' p l' b') (ht : codec.Touch (· = p) w w') : ST w' p l' b' := by
  obtain ⟨h1, w0, he, hp, hb⟩ := h
  have := h1.lt
  exact ⟨hr, w0, he, hp, hb.trans (ht.toBelow _ (by omega) (fun i hi e => by omega))⟩
theorem ST.touch {w w' : World} {p : Nat} {l : List Tk} {b : Bool} {F : Nat → Prop} (h : ST w p l b) (ht : codec.Touch F w w') (hF : ∀ i, i ≤ p → ¬ F i) : ST w' p l b := by
  obtain ⟨h1, w0, he, hp, hb⟩ := h
  have := h1.lt
  exact ⟨h1.touch ht hF, w0, he, hp, hb.trans (ht.toBelow _ (by omega) (fun i hi e => hF i (by omega) e))⟩
theorem below_touch (G : Nat → Prop) {w w1 : World} (hb : Below w.heap.size w w1) : codec.Touch G w w1 := ⟨hb.os, hb.tape, hb.output, hb.size, fun k hk _ => hb.block k hk⟩
theorem ST.below {w w' : World} {p : Nat} {l : List Tk} {b : Bool} (h : ST w p l b) (hb : Below w.heap.size w w') : ST w' p l b :=
  h.touch (below_touch (fun _ => False) hb) (fun i _ h => h)
theorem touch_trans {p : Nat} {a b c : World} (h : codec.Touch (· = p) a b) (k : codec.Touch (· = p) b c) : codec.Touch (· = p) a c :=
  h.trans (k.mono fun i _ e => .inl e)
/-- A text's number. -/
def numV (s : ByteArray) : Int := match Lib.atoiAll s.data.toList with | .ok v => v | .range => Lib.atoiSat s.data.toList | _ => 0
def isOkN (s : ByteArray) : Bool := match Lib.atoiAll s.data.toList with | .ok _ => true | _ => false
def digB (c : Nat) : Bool := decide (48 ≤ c) && decide (c ≤ 57)
def digsB (s : ByteArray) : Bool := (nums s).all digB && (decide (1 ≤ s.size) && decide (s.size ≤ 9))
def isNumS (s : ByteArray) : Bool := isOkN s && digsB s
theorem string_lies (w : World) (s : ByteArray) : Bytes (Lib.bytesWorld w 5 s) (some ⟨w.heap.size, 0, none⟩) s.size (nums s) := by
  refine ⟨nums_len s, nums_lt s, fun _ => ⟨w.heap.size, 0, rfl, fun i hi => ?_⟩⟩
  rw [Nat.zero_add, Lib.bytesWorld_cell w 5 s i hi]
  have h3 : i < s.data.toList.length := hi
  rw [List.getD, List.getD, List.getElem?_eq_getElem h3]
  unfold nums
  rw [List.getElem?_map, List.getElem?_eq_getElem h3]
  rfl
theorem all_no {l : List Nat} {k : Nat} {p : Nat → Bool} (hk : k < l.length) (h : p (l.getD k 0) = false) : l.all p = false := by
  rw [List.all_eq_false]
  refine ⟨l.getD k 0, ?_, by rw [h]; exact Bool.false_ne_true⟩
  rw [List.getD, List.getElem?_eq_getElem hk]
  exact List.getElem_mem hk
theorem all_yes {l : List Nat} {p : Nat → Bool} (h : ∀ i, i < l.length → p (l.getD i 0) = true) : l.all p = true := by
  rw [List.all_eq_true]
  intro x hx
  obtain ⟨i, hi, rfl⟩ := List.mem_iff_getElem.1 hx
  have := h i hi
  rwa [List.getD, List.getElem?_eq_getElem hi] at this
set_option maxHeartbeats 2000000 in
theorem isNumber_any (w : World) (s : ByteArray) (hs : s.size ≤ 140737488355328) :
    Calls Tryz.prog 54 #[.string s] w fun e w' => e = .returned (.bool (digsB s)) ∧ Below w.heap.size w w' := by
  have hcv := fun (w' : World) (s : ByteArray) => Lib.run_convert_string_bytes (P := Tryz.prog) w' 9 37 5 s Tryz.underlying9 Tryz.underlying37 Tryz.underlying5
  have HX := Lib.hid (string_lies w s)
  have HBl := Lib.hid (Lib.bytesWorld_below w 5 s)
  have HL := Lib.hid (nums_len s)
  have HLt := Lib.hid (nums_lt s)
  obtain ⟨cp, hcp⟩ : ∃ cp, cp = grownCap w s.size 0 5 := ⟨_, rfl⟩
  unfold digsB
  generalize nums s = l at *
  go_enter Tryz.func54, Tryz.ntmps54
  go_wp2
  rw [← hcp]
  clear hcp
  generalize Lib.bytesWorld w 5 s = w1 at *
  go_loop [4, 8] (fun _ i => ∃ k : Nat, k ≤ s.size ∧ i = .int .i64 k ∧ Hid (∀ i, i < k → digB (l.getD i 0) = true)) (fun _ i => s.size - (intOf i).toNat)
  case atStart => exact ⟨0, Nat.zero_le _, rfl, Lib.hid (fun i hi => by omega)⟩
  case round =>
    obtain ⟨k, hk, rfl, HA⟩ := hrel
    by_cases hlt : k < s.size
    · have hlt' : (k : Int) < (s.size : Int) := by omega
      obtain ⟨b, o, hbo, hcell⟩ := HX.out.2.2 (by omega)
      cases hbo
      have hck := hcell k hlt
      rw [Nat.zero_add] at hck
      have HNo := Lib.hid (fun h => all_no (l := l) (k := k) (p := digB) (by rw [HL.out]; exact hlt) h)
      have HYes := Lib.hid (fun (h : digB (l.getD k 0) = true) => (fun i (hi : i < k + 1) => by
        by_cases e : i = k
        · subst e; exact h
        · exact HA.out i (by omega) : ∀ i, i < k + 1 → digB (l.getD i 0) = true))
      generalize l.getD k 0 = c at *
      clear hcell
      unfold digB at HNo HYes
      by_cases h1 : 48 ≤ c
      · have q1 : decide ((c : Int) < 48) = false := decide_eq_false (by omega)
        by_cases h2 : c ≤ 57
        · have q2 : decide ((57 : Int) < (c : Int)) = false := decide_eq_false (by omega)
          rw [decide_eq_true h1, decide_eq_true h2] at HYes
          clear HNo h1 h2
          go_wp2
          go_round
          · exact ⟨k + 1, by omega, by go_num, Lib.hid (fun i hi => by have := HYes.out rfl i hi; unfold digB at this; unfold digB; exact this)⟩
          · show s.size - ((k : Int) + 1).toNat < s.size - k; omega
        · have q2 : decide ((57 : Int) < (c : Int)) = true := decide_eq_true (by omega)
          rw [decide_eq_true h1, decide_eq_false h2] at HNo
          clear HYes h1 h2
          go_wp2
          go_ret
          exact ⟨by have := HNo.out rfl; unfold digB at *; rw [this]; rfl, HBl.out⟩
      · have q1 : decide ((c : Int) < 48) = true := decide_eq_true (by omega)
        rw [decide_eq_false h1] at HNo
        clear HYes h1
        go_wp2
        go_ret
        exact ⟨by have := HNo.out rfl; unfold digB at *; rw [this]; rfl, HBl.out⟩
    · obtain rfl : k = s.size := by omega
      have HAll := Lib.hid (all_yes (l := l) (p := digB) (by rw [HL.out]; exact HA.out))
      by_cases h1 : 1 ≤ s.size
      · have q1 : decide ((1 : Int) ≤ (s.size : Int)) = true := decide_eq_true (by omega)
        have q1' : decide ((s.size : Int) < 1) = false := decide_eq_false (by omega)
        by_cases h2 : s.size ≤ 9
        · have q2 : decide ((s.size : Int) ≤ 9) = true := decide_eq_true (by omega)
          have q2' : decide ((9 : Int) < (s.size : Int)) = false := decide_eq_false (by omega)
          go_wp2
          go_ret
          exact ⟨by simp [HAll.out, h1, h2], HBl.out⟩
        · have q2 : decide ((s.size : Int) ≤ 9) = false := decide_eq_false (by omega)
          have q2' : decide ((9 : Int) < (s.size : Int)) = true := decide_eq_true (by omega)
          go_wp2
          go_ret
          exact ⟨by simp [HAll.out, h1, h2], HBl.out⟩
      · have q1 : decide ((1 : Int) ≤ (s.size : Int)) = false := decide_eq_false (by omega)
        have q1' : decide ((s.size : Int) < 1) = true := decide_eq_true (by omega)
        go_wp2
        go_ret
        exact ⟨by simp [HAll.out, h1], HBl.out⟩
/-- What asking a word answers. -/
def WordAns (w : World) (p : Nat) (l : List Tk) (bad : Bool) (e : Ending) (w' : World) : Prop :=
  ∃ g n, e = .returned (.slice (some ⟨g, 0, none⟩) n n) ∧ w.heap.size ≤ g ∧ g < w'.heap.size ∧ Bytes w' (some ⟨g, 0, none⟩) n (lowL (nums (wordT l bad))) ∧ ST w' p (wordL l bad) (wordB l bad) ∧ codec.Touch (· = p) w w'
theorem word_of {w w1 : World} {p : Nat} {l l' : List Tk} {b b' : Bool} {s : ByteArray} (h : ST w p l b) (hr : RS w1 p l' b') (ht : codec.Touch (· = p) w w1) (hs : s.size ≤ 140737488355328) (h1 : wordT l b = s) (h2 : wordL l b = l') (h3 : wordB l b = b') :
    Calls Tryz.prog 48 #[.string s] w1 (WordAns w p l b) := by
  refine (smallS_any w1 s hs).mono ?_
  rintro e w2 ⟨g, rfl, k1, k2, k3, k4⟩
  exact ⟨g, _, rfl, Nat.le_trans ht.2.2.2.1 k1, k2, by rw [h1]; exact k3, by rw [h2, h3]; exact (h.move hr ht).below k4, touch_trans ht (below_touch _ k4)⟩
set_option maxHeartbeats 1000000 in
theorem word_any (w : World) (p : Nat) (l : List Tk) (bad : Bool) (h : ST w p l bad) :
    Calls Tryz.prog 32 #[.pointer (some ⟨p, 0, none⟩)] w (WordAns w p l bad) := by
  have HC := Lib.hid (comes_any w p l bad 2 h.1)
  have H2 := Lib.hid (take_any w p l bad 2 h.1)
  have H1 := Lib.hid (take_any w p l bad 1 h.1)
  have HS := Lib.hid h
  clear h
  cases hc : comesB l bad 2 with
  | true =>
    rw [hc] at HC
    have e1 : wordT l bad = takeT l bad 2 := by unfold wordT; rw [if_pos hc]
    have e2 : wordL l bad = takeL l bad 2 := by unfold wordL; rw [if_pos hc]
    have e3 : wordB l bad = !comesB l bad 2 := by unfold wordB; rw [if_pos hc]
    have HE := Lib.hid (And.intro e1 (And.intro e2 e3))
    clear hc e1 e2 e3 H1
    go_enter Tryz.func32, Tryz.ntmps32
    go_wp2_with (first | (go_at_call 20; refine HC.out.mono ?_; rintro e w1 ⟨rfl, hw⟩; replace hw := hw.symm; subst hw) | fail)
    refine H2.out.mono ?_
    rintro e w1 ⟨rfl, hr, ht⟩
    have HW := Lib.hid (word_of HS.out hr ht (take_big HS.out.1) HE.out.1 HE.out.2.1 HE.out.2.2)
    clear hr ht
    go_wp2_with fail
    refine HW.out.mono ?_
    rintro e w2 ⟨g, n, rfl, k⟩
    have HK := Lib.hid k
    clear k
    go_wp2
    go_ret
    exact ⟨g, n, rfl, HK.out⟩
  | false =>
    rw [hc] at HC
    have hc' : ¬ comesB l bad 2 = true := by rw [hc]; exact Bool.false_ne_true
    have e1 : wordT l bad = takeT l bad 1 := by unfold wordT; rw [if_neg hc']
    have e2 : wordL l bad = takeL l bad 1 := by unfold wordL; rw [if_neg hc']
    have e3 : wordB l bad = !comesB l bad 1 := by unfold wordB; rw [if_neg hc']
    have HE := Lib.hid (And.intro e1 (And.intro e2 e3))
    clear hc hc' e1 e2 e3 H2
    go_enter Tryz.func32, Tryz.ntmps32
    go_wp2_with (first | (go_at_call 20; refine HC.out.mono ?_; rintro e w1 ⟨rfl, hw⟩; replace hw := hw.symm; subst hw) | fail)
    refine H1.out.mono ?_
    rintro e w1 ⟨rfl, hr, ht⟩
    have HW := Lib.hid (word_of HS.out hr ht (take_big HS.out.1) HE.out.1 HE.out.2.1 HE.out.2.2)
    clear hr ht
    go_wp2_with fail
    refine HW.out.mono ?_
    rintro e w2 ⟨g, n, rfl, k⟩
    have HK := Lib.hid k
    clear k
    go_wp2
    go_ret
    exact ⟨g, n, rfl, HK.out⟩
/-- What asking a number answers. -/
def NumAns (w : World) (p : Nat) (l : List Tk) (bad : Bool) (e : Ending) (w' : World) : Prop :=
  e = .returned (.int .i64 (numV (takeT l bad 1))) ∧ ST w' p (takeL l bad 1) (!comesB l bad 1 || !isNumS (takeT l bad 1)) ∧ codec.Touch (· = p) w w'
/-- strconv.Atoi of any text. -/
theorem atoi_any (w : World) (s : ByteArray) (hs : s.size ≤ 140737488355328) (hE : Env w) :
    Calls Tryz.prog 53 #[.string s] w fun e w' => ∃ er : Value, e = .returned (.tuple #[.int .i64 (numV s), er]) ∧ (if isOkN s then er = .nilIface else ∃ t N, er = .iface t (.pointer (some ⟨N, 0, none⟩))) ∧ Below w.heap.size w w' := by
  unfold numV isOkN
  cases h : Lib.atoiAll s.data.toList with
  | ok v =>
    refine (Tryz.strconv_Atoi_ok s (by omega) v h w).mono ?_
    rintro e w' ⟨rfl, hw⟩
    refine ⟨_, rfl, rfl, ?_⟩
    rcases hw with rfl | ⟨t, rfl⟩
    · exact Below.refl _ _
    · exact Lib.bytesWorld_below w 5 t
  | range =>
    obtain ⟨tp, q, hv⟩ := var_ran hE.ran
    refine (Tryz.strconv_Atoi_range_var s (by omega) h tp q w hv).mono ?_
    rintro e w' ⟨N, rfl, _, _, hb⟩
    exact ⟨_, rfl, ⟨_, N, rfl⟩, hb⟩
  | _ =>
    obtain ⟨tp, q, hv⟩ := var_syn hE.syn
    refine (Tryz.strconv_Atoi_syntax_var s (by omega) h tp q w hv).mono ?_
    rintro e w' ⟨N, rfl, _, _, hb⟩
    exact ⟨_, rfl, ⟨_, N, rfl⟩, hb⟩
set_option maxHeartbeats 1000000 in
theorem number_any (w : World) (p : Nat) (l : List Tk) (bad : Bool) (h : ST w p l bad) :
    Calls Tryz.prog 41 #[.pointer (some ⟨p, 0, none⟩)] w (NumAns w p l bad) := by
  have H1 := take_any w p l bad 1 h.1
  have HS := Lib.hid h
  have HZ := Lib.hid (take_big (k := 1) h.1)
  unfold TakeAns at H1
  unfold NumAns
  generalize takeT l bad 1 = s at *
  obtain ⟨c1, hc1⟩ : ∃ c1, c1 = comesB l bad 1 := ⟨_, rfl⟩
  rw [← hc1] at H1 ⊢
  generalize takeL l bad 1 = l1 at *
  have H1 := Lib.hid H1
  clear h hc1
  have hK : isNumS s = (isOkN s && digsB s) := rfl
  go_enter Tryz.func41, Tryz.ntmps41
  go_wp2_with fail
  refine H1.out.mono ?_
  rintro e w1 ⟨rfl, hr, ht⟩
  have HT := Lib.hid ht
  have HS1 := Lib.hid (HS.out.move hr ht)
  have HA := Lib.hid (atoi_any w1 s HZ.out HS1.out.env)
  clear hr ht
  cases hok : isOkN s with
  | true =>
    rw [hok] at HA
    have HK := Lib.hid hK
    clear hK
    go_wp2_with fail
    refine HA.out.mono ?_
    rintro e w2 ⟨er, rfl, her, hb⟩
    have her' : er = .nilIface := her
    subst her'
    have HS2 := Lib.hid (HS1.out.below hb)
    have HT2 := Lib.hid (touch_trans HT.out (below_touch _ hb))
    have HN := Lib.hid (isNumber_any w2 s HZ.out)
    clear her hb
    generalize hz : numV s = z at *
    have HZz := Lib.hid hz
    clear hz
    go_wp2_with fail
    refine HN.out.mono ?_
    rintro e w3 ⟨rfl, hb⟩
    have HS3 := Lib.hid (HS2.out.below hb)
    have HT3 := Lib.hid (touch_trans HT2.out (below_touch _ hb))
    have HM := Lib.hid (must_any w3 p l1 (!c1) (digsB s) HS3.out.1)
    clear hb
    have HO := Lib.hid hok
    clear hok
    generalize digsB s = d at *
    cases d <;> (
      go_wp2_with fail
      refine HM.out.mono ?_
      rintro e w4 ⟨rfl, hr, ht⟩
      have HS4 := Lib.hid (HS3.out.move hr ht)
      have HT4 := Lib.hid (touch_trans HT3.out ht)
      clear hr ht
      go_wp2
      go_ret
      exact ⟨by rw [HZz.out]; rfl, by rw [HK.out, HO.out]; exact HS4.out, HT4.out⟩)
  | false =>
    rw [hok] at HA
    have HK := Lib.hid hK
    clear hK
    go_wp2_with fail
    refine HA.out.mono ?_
    rintro e w2 ⟨er, rfl, her, hb⟩
    have her' : ∃ t N, er = .iface t (.pointer (some ⟨N, 0, none⟩)) := her
    obtain ⟨t, N, rfl⟩ := her'
    have HS2 := Lib.hid (HS1.out.below hb)
    have HT2 := Lib.hid (touch_trans HT.out (below_touch _ hb))
    have HM := Lib.hid (must_any w2 p l1 (!c1) false HS2.out.1)
    clear her hb
    generalize hz : numV s = z at *
    have HZz := Lib.hid hz
    clear hz
    have HO := Lib.hid hok
    clear hok
    go_wp2_with fail
    refine HM.out.mono ?_
    rintro e w4 ⟨rfl, hr, ht⟩
    have HS4 := Lib.hid (HS2.out.move hr ht)
    have HT4 := Lib.hid (touch_trans HT2.out ht)
    clear hr ht
    go_wp2
    go_ret
    exact ⟨by rw [HZz.out]; rfl, by rw [HK.out, HO.out]; exact HS4.out, HT4.out⟩
theorem rdX_touch {w w' : World} {R : Option Addr} {m : Nat} {l : List sq.X} {F : Nat → Prop} (h : Rd sq.cX 2 w R m l) (ht : codec.Touch F w w') (hF : ∀ a, R = some a → ¬ F a.block) : Rd sq.cX 2 w' R m l := by
  refine ⟨h.1, fun k hk => ?_⟩
  obtain ⟨b, o, y, h1, h2, h3⟩ := h.2 k hk
  refine ⟨b, o, y, h1, h2, fun j v hv => ?_⟩
  have h4 := h3 j v hv
  have hlt := block_lt_of_cell h4
  have e := ht.2.2.2.2 b hlt (hF _ h1)
  simp only [World.cell?] at h4 ⊢
  rw [e]
  exact h4
/-- A set's parts; whether a text is one. -/
def spans (s : ByteArray) : List sq.X := (sq.setL s.data.toList).getD []
def isSetS (s : ByteArray) : Bool := (sq.setL s.data.toList).isSome
/-- What asking a set answers. -/
def SetAns (w : World) (p : Nat) (s : ByteArray) (l : List Tk) (bad : Bool) (e : Ending) (w' : World) : Prop :=
  ∃ A c n, e = .returned (.slice A n c) ∧ ST w' p l (bad || !isSetS s) ∧ codec.Touch (· = p) w w' ∧ (isSetS s = true → Rd sq.cX 2 w' A n (spans s) ∧ n ≤ 100 ∧ ∀ a, A = some a → w.heap.size ≤ a.block ∧ a.block < w'.heap.size)
set_option maxHeartbeats 1000000 in
theorem set_any (w : World) (p : Nat) (s : ByteArray) (l : List Tk) (bad : Bool) (h : ST w p l bad) (hs : s.size ≤ 140737488355328) :
    Calls Tryz.prog 44 #[.pointer (some ⟨p, 0, none⟩), .string s] w (SetAns w p s l bad) := by
  have HP := Lib.hid (sq.parse_any w s hs h.env.room)
  have HS := Lib.hid h
  unfold SetAns isSetS spans
  clear h hs
  go_enter Tryz.func44, Tryz.ntmps44
  go_wp2_with fail
  refine HP.out.mono ?_
  rintro e w1 ⟨hb, hcase⟩
  have HS1 := Lib.hid (HS.out.below hb)
  have HT1 := Lib.hid (below_touch (· = p) hb)
  clear hb
  rcases hcase with ⟨ho, rfl⟩ | ⟨xs, A, c, ho, rfl, hR, hx, hA⟩
  · have HO := Lib.hid ho
    have HM := Lib.hid (must_any w1 p l bad false HS1.out.1)
    clear ho
    go_wp2_with fail
    refine HM.out.mono ?_
    rintro e w2 ⟨rfl, hr, ht⟩
    have HS2 := Lib.hid (HS1.out.move hr ht)
    have HT2 := Lib.hid (touch_trans HT1.out ht)
    clear hr ht
    go_wp2
    go_ret
    exact ⟨none, 0, 0, rfl, by rw [HO.out]; exact HS2.out, HT2.out, fun h => by rw [HO.out] at h; cases h⟩
  · have HO := Lib.hid ho
    have HM := Lib.hid (must_any w1 p l bad true HS1.out.1)
    have HR := Lib.hid hR
    have HX := Lib.hid hx
    have HA := Lib.hid hA
    clear ho hR hx hA
    generalize hn : xs.length = n at *
    have HN := Lib.hid hn
    clear hn
    go_wp2_with fail
    refine HM.out.mono ?_
    rintro e w2 ⟨rfl, hr, ht⟩
    have HS2 := Lib.hid (HS1.out.move hr ht)
    have HT2 := Lib.hid (touch_trans HT1.out ht)
    have HT3 := Lib.hid ht
    clear hr ht
    go_wp2
    go_ret
    exact ⟨A, c, _, rfl, by rw [HO.out]; exact HS2.out, HT2.out, fun _ => ⟨by
      rw [HO.out]
      exact rdX_touch HR.out HT3.out (fun a ha e => by have := (HA.out a ha).1; have := HS.out.1.lt; omega), HX.out, fun a ha => ⟨(HA.out a ha).1, Nat.lt_of_lt_of_le (HA.out a ha).2 HT3.out.2.2.2.1⟩⟩⟩
end Go.Proofs.YtcepcamedmiinaaGreatDoor.sea
