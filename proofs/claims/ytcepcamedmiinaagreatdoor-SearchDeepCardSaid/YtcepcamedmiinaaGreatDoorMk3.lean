/- Plain mathematics of dates: years, months, the text of a time. -/
import Derived.Lib.ItoaNum
import Derived.Lib.Fold
import Derived.Lib.Strings
import Derived.Test.YtcepcamedmiinaaGreatDoorRows
import Derived.Test.YtcepcamedmiinaaGreatDoorMs
import Derived.WalkKit
import Derived.ProofKit
import Derived.OpenShut
import Derived.ShutString
import Derived.ChangeOld
import Derived.Below
import Derived.Outline
import Derived.WalkSpells
import Derived.Lib.Hide
import Derived.Deep.QuietTactic
import Derived.BigQuiet
import Derived.Deep.OwnRows
import Derived.Deep.WholeRow
import Derived.StillTailTactics
import Derived.Deep.RegionLaw
import Derived.Lib.AppendStr
import Derived.Lib.AppendIntMem
import Derived.OwnWalk
import Derived.Laws.OwnMore
import Derived.Laws.IdiomStrings
namespace Go.Proofs.YtcepcamedmiinaaGreatDoor.dat
open Go.Lib
set_option linter.unusedVariables false
set_option linter.unusedSimpArgs false

/-- Byte i of s. -/
def byt (s : ByteArray) (i : Nat) : Nat := (s.data[i]!).toNat
theorem byt_at (s : ByteArray) (i : Nat) (h : i < s.size) : (s[i]'h).toNat = byt s i := by
  unfold byt
  rw [getElem!_pos s.data i (by simpa using h)]; rfl
theorem byt_lt (s : ByteArray) (i : Nat) : byt s i < 256 := UInt8.toNat_lt _
theorem byt_of (l : List UInt8) (i : Nat) : byt ⟨l.toArray⟩ i = (l.getD i 0).toNat := by
  unfold byt
  by_cases h : i < l.length
  · rw [getElem!_pos _ i (by simpa using h), List.getD, List.getElem?_eq_getElem h]
    simp
  · rw [getElem!_neg _ i (by simpa using h), List.getD, List.getElem?_eq_none (by omega)]
    rfl

/-! ### Years and months -/
def leapN (y : Nat) : Bool := decide (y % 4 = 0 ∧ (y % 100 ≠ 0 ∨ y % 400 = 0))
def ylen (y : Nat) : Nat := if leapN y then 366 else 365
def daysN (y m : Nat) : Nat := if m = 2 then (if leapN y then 29 else 28) else if m = 4 ∨ m = 6 ∨ m = 9 ∨ m = 11 then 30 else 31
theorem daysN_pos (y m : Nat) : 28 ≤ daysN y m ∧ daysN y m ≤ 31 := by
  unfold daysN
  split
  · split <;> omega
  · split <;> omega
/-- The days of the first months. -/
def cum (y : Nat) : Nat → Nat
  | 0 => 0
  | k + 1 => cum y k + daysN y (k + 1)
theorem cum12 (y : Nat) : cum y 12 = ylen y := by
  unfold ylen
  cases h : leapN y <;> simp [cum, daysN, h]
theorem cum_mono (y : Nat) {a b : Nat} (h : a ≤ b) : cum y a ≤ cum y b := by
  induction b with
  | zero => obtain rfl : a = 0 := by omega
            exact Nat.le_refl _
  | succ b ih =>
    by_cases e : a = b + 1
    · subst e; exact Nat.le_refl _
    · have := ih (by omega)
      simp only [cum]; omega
theorem cum_step (y k : Nat) (h : 1 ≤ k) : cum y k = cum y (k - 1) + daysN y k := by
  obtain ⟨j, rfl⟩ : ∃ j, k = j + 1 := ⟨k - 1, by omega⟩
  rfl
theorem cum_le (y k : Nat) : cum y k ≤ 31 * k := by
  induction k with
  | zero => exact Nat.le_refl _
  | succ k ih => have := (daysN_pos y (k + 1)).2; simp only [cum]; omega
/-- The day, from 1970 on, that a year begins with. -/
def nY (y : Nat) : Int := 365 * ((y : Int) - 1) + ((y : Int) - 1).tdiv 4 - ((y : Int) - 1).tdiv 100 + ((y : Int) - 1).tdiv 400 - 719162
theorem nY_nat (x : Nat) : nY (x + 1) = 365 * (x : Int) + ((x / 4 : Nat) : Int) - ((x / 100 : Nat) : Int) + ((x / 400 : Nat) : Int) - 719162 := by
  unfold nY
  rw [show (((x + 1 : Nat) : Int) - 1) = (x : Int) by omega]
  rfl
theorem nY_zero : nY 0 = -719527 := by decide
theorem nY_1970 : nY 1970 = 0 := by decide
theorem nY_1969 : nY 1969 = -365 := by decide
theorem nY_10000 : nY 10000 = 2932897 := by decide
theorem nY_succ (y : Nat) (h : 1 ≤ y) : nY (y + 1) = nY y + ylen y := by
  obtain ⟨x, rfl⟩ : ∃ x, y = x + 1 := ⟨y - 1, by omega⟩
  rw [nY_nat, nY_nat]
  unfold ylen leapN
  by_cases h1 : (x + 1) % 4 = 0 ∧ ((x + 1) % 100 ≠ 0 ∨ (x + 1) % 400 = 0)
  · rw [if_pos (by simpa using h1)]
    omega
  · rw [if_neg (by simpa using h1)]
    omega
theorem ylen_pos (y : Nat) : 365 ≤ ylen y ∧ ylen y ≤ 366 := by unfold ylen; split <;> omega
theorem nY_mono {a b : Nat} (h1 : 1 ≤ a) (h : a ≤ b) : nY a ≤ nY b := by
  induction b with
  | zero => omega
  | succ b ih =>
    by_cases e : a = b + 1
    · subst e; exact Int.le_refl _
    · have := ih (by omega)
      have := nY_succ b (by omega)
      omega
theorem nY_low (y : Nat) (h : y ≤ 1968) : nY y ≤ -366 - 365 := by
  rcases y with _ | x
  · rw [nY_zero]; omega
  · rw [nY_nat]; omega
theorem nY_bounds (y : Nat) (h : y ≤ 10000) : -719527 ≤ nY y ∧ nY y ≤ 2932897 := by
  rcases y with _ | x
  · rw [nY_zero]; omega
  · rw [nY_nat]; omega
theorem nY_near (k : Nat) (h : k ≤ 8030) : nY (1970 + k) ≤ 366 * k := by
  rw [show 1970 + k = (1969 + k) + 1 by omega, nY_nat]
  omega
theorem year_at : ∀ (n : Nat) (d : Int), 0 ≤ d → d < nY (1970 + n) → ∃ Y, 1970 ≤ Y ∧ Y < 1970 + n ∧ nY Y ≤ d ∧ d < nY (Y + 1)
  | 0, d, h0, h => by rw [show 1970 + 0 = 1970 from rfl, nY_1970] at h; omega
  | n + 1, d, h0, h => by
    by_cases h' : d < nY (1970 + n)
    · obtain ⟨Y, a, b, c, e⟩ := year_at n d h0 h'
      exact ⟨Y, a, by omega, c, e⟩
    · exact ⟨1970 + n, by omega, by omega, by omega, h⟩
theorem month_at (y : Nat) : ∀ (n r : Nat), r < cum y n → ∃ M, 1 ≤ M ∧ M ≤ n ∧ cum y (M - 1) ≤ r ∧ r < cum y M
  | 0, r, h => by simp [cum] at h
  | n + 1, r, h => by
    by_cases h' : r < cum y n
    · obtain ⟨M, a, b, c, d⟩ := month_at y n r h'
      exact ⟨M, a, by omega, c, d⟩
    · exact ⟨n + 1, by omega, Nat.le_refl _, by simpa using h', h⟩
/-- What a day is. -/
structure Civ (day : Int) (Y M D : Nat) : Prop where
  y0 : 1970 ≤ Y
  y1 : Y ≤ 9999
  m0 : 1 ≤ M
  m1 : M ≤ 12
  d0 : 1 ≤ D
  d1 : D ≤ daysN Y M
  eq : day = nY Y + (cum Y (M - 1) : Nat) + D - 1
theorem civ_at (d : Int) (h0 : 0 ≤ d) (h1 : d ≤ 2932896) : ∃ Y M D, Civ d Y M D := by
  obtain ⟨Y, a, b, c, e⟩ := year_at 8030 d h0 (by rw [show 1970 + 8030 = 10000 from rfl, nY_10000]; omega)
  obtain ⟨r, hr⟩ := Int.eq_ofNat_of_zero_le (show 0 ≤ d - nY Y by omega)
  have hy := nY_succ Y (by omega)
  obtain ⟨M, m0, m1, c0, c1⟩ := month_at Y 12 r (by rw [cum12]; omega)
  have hs := cum_step Y M m0
  exact ⟨Y, M, r - cum Y (M - 1) + 1, a, by omega, m0, m1, by omega, by omega, by omega⟩
theorem Civ.next {d : Int} {Y M D : Nat} (h : Civ d Y M D) : d < nY (Y + 1) := by
  have h1 := nY_succ Y (by have := h.y0; omega)
  have h2 := cum_mono Y h.m1
  have h3 := cum_step Y M h.m0
  rw [cum12] at h2
  have := h.eq; have := h.d1; have := h.d0
  omega
theorem Civ.first {d : Int} {Y M D : Nat} (h : Civ d Y M D) : nY Y ≤ d := by
  have := h.eq; have := h.d0
  omega
theorem Civ.year {d : Int} {Y M D : Nat} (h : Civ d Y M D) {y : Nat} (hy : y ≤ Y) (h1 : 1 ≤ y) : nY (y + 1) ≤ d ↔ y < Y := by
  constructor
  · intro h2
    have h3 := h.next
    rcases Nat.lt_or_ge y Y with h4 | h4
    · exact h4
    · obtain rfl : y = Y := by omega
      omega
  · intro h2
    have := nY_mono (a := y + 1) (b := Y) (by omega) (by omega)
    have := h.first
    omega
/-- Behind the first k - 1 months there are still so many days. -/
theorem Civ.month {d : Int} {Y M D : Nat} (h : Civ d Y M D) {k : Nat} (hk : 1 ≤ k) (hM : k ≤ M) : cum Y (k - 1) ≤ cum Y (M - 1) ∧ (daysN Y k < cum Y (M - 1) + D - cum Y (k - 1) ↔ k < M) := by
  have h1 := cum_mono Y (show k - 1 ≤ M - 1 by omega)
  have h2 := cum_step Y k hk
  refine ⟨h1, ?_⟩
  constructor
  · intro h3
    rcases Nat.lt_or_ge k M with h4 | h4
    · exact h4
    · obtain rfl : k = M := by omega
      have := h.d1
      omega
  · intro h3
    have := cum_mono Y (show k ≤ M - 1 by omega)
    have := h.d0
    omega

/-! ### The text -/
def nameL : Nat → List UInt8
  | 1 => [74, 97, 110] | 2 => [70, 101, 98] | 3 => [77, 97, 114] | 4 => [65, 112, 114] | 5 => [77, 97, 121] | 6 => [74, 117, 110]
  | 7 => [74, 117, 108] | 8 => [65, 117, 103] | 9 => [83, 101, 112] | 10 => [79, 99, 116] | 11 => [78, 111, 118] | 12 => [68, 101, 99] | _ => []
theorem twelve {m : Nat} (h0 : 1 ≤ m) (h1 : m ≤ 12) : m = 1 ∨ m = 2 ∨ m = 3 ∨ m = 4 ∨ m = 5 ∨ m = 6 ∨ m = 7 ∨ m = 8 ∨ m = 9 ∨ m = 10 ∨ m = 11 ∨ m = 12 := by omega
theorem nameL_length {m : Nat} (h0 : 1 ≤ m) (h1 : m ≤ 12) : (nameL m).length = 3 := by
  rcases twelve h0 h1 with rfl | rfl | rfl | rfl | rfl | rfl | rfl | rfl | rfl | rfl | rfl | rfl <;> rfl
def two (v : Nat) : List UInt8 := [dg v 1, dg v 0]
def four (v : Nat) : List UInt8 := [dg v 3, dg v 2, dg v 1, dg v 0]
def tensB (D : Nat) : UInt8 := if D < 10 then 32 else dg D 1
/-- The digits of v, from the right: so many. -/
def digL (v : Nat) : Nat → List UInt8
  | 0 => []
  | k + 1 => dg v k :: digL v k
theorem digL_two (v : Nat) : digL v 2 = two v := rfl
theorem digL_four (v : Nat) : digL v 4 = four v := rfl
/-- What stands ahead of the zone. -/
def headL (Y M D s : Nat) : List UInt8 :=
  tensB D :: dg D 0 :: 45 :: (nameL M ++ 45 :: (four Y ++ 32 :: (two (s / 3600) ++ 58 :: (two (s / 60 % 60) ++ 58 :: two (s % 60)))))
def textL (Y M D s : Nat) : List UInt8 := headL Y M D s ++ [32, 43, 48, 48, 48, 48]
theorem itoa_four {Y : Nat} (h0 : 1000 ≤ Y) (h1 : Y ≤ 9999) : itoa (Y : Int) = four Y := by
  unfold itoa
  rw [if_neg (by omega), show ((Y : Int)).toNat = Y by omega, decDigits_eq, nDigits_unique 3 Y (by omega) (by omega)]
  rfl
theorem two_small {v : Nat} (h : v < 100) : two v = [UInt8.ofNat (48 + v / 10), UInt8.ofNat (48 + v % 10)] := by
  unfold two dg
  rw [show 10 ^ 1 = 10 from rfl, show 10 ^ 0 = 1 from rfl, Nat.div_one, show v / 10 % 10 = v / 10 by omega]
end Go.Proofs.YtcepcamedmiinaaGreatDoor.dat
namespace Go.Proofs.YtcepcamedmiinaaGreatDoor.dat
open Go.ChangeShapes Go.WideShapes Go.ChangeAt Go.RowKit
open Go.Lib (dg itoa byteCells strCells)
set_option linter.unusedVariables false
set_option linter.unusedSimpArgs false

theorem tdiv_in (p : Int) (n : Int) (hn : 1 ≤ n) (h : -1 ≤ p ∧ p ≤ 10001) : -1 ≤ p.tdiv n ∧ p.tdiv n ≤ 10001 := by
  rcases Int.lt_or_le p 0 with h0 | h0
  · obtain rfl : p = -1 := by omega
    rw [Int.neg_tdiv]
    have h1 : Int.tdiv 1 n = 1 / n := Int.tdiv_eq_ediv_of_nonneg (by omega)
    have h2 : (1 : Int) / n ≤ 1 := Int.ediv_le_self _ (by omega)
    have h3 : 0 ≤ (1 : Int) / n := Int.ediv_nonneg (by omega) (by omega)
    omega
  · rw [Int.tdiv_eq_ediv_of_nonneg h0]
    have h2 : p / n ≤ p := Int.ediv_le_self _ (by omega)
    have h3 : 0 ≤ p / n := Int.ediv_nonneg (by omega) (by omega)
    omega
theorem u8_digit (n : Nat) (h : n < 10) : ((48 + n : Nat) : Int) = ((UInt8.ofNat (48 + n)).toNat : Int) := by
  rw [UInt8.toNat_ofNat']
  omega
theorem dg0_nat (v : Nat) : (dg v 0).toNat = 48 + v % 10 := by
  unfold dg
  rw [UInt8.toNat_ofNat', show 10 ^ 0 = 1 from rfl, Nat.div_one]
  omega
theorem dg_nat (v j : Nat) : (dg v j).toNat = 48 + v / 10 ^ j % 10 := by
  unfold dg
  rw [UInt8.toNat_ofNat']
  omega
end Go.Proofs.YtcepcamedmiinaaGreatDoor.dat
namespace Go.Proofs.YtcepcamedmiinaaGreatDoor.dat
open Go.ChangeShapes Go.WideShapes Go.ChangeAt Go.RowKit
open Go.Lib (dg itoa byteCells strCells)
set_option linter.unusedVariables false
set_option linter.unusedSimpArgs false

theorem byte_text (w : World) (x : Nat) (hx : x < 256) :
    (convert 37 9 (.slice (some ⟨w.heap.size, 0, none⟩) 1 1)).run Tryz.prog (w.alloc (.cells #[.int .u8 (x : Nat)] 5)) = .ok (.string ⟨#[UInt8.ofNat x]⟩) (w.alloc (.cells #[.int .u8 (x : Nat)] 5)) := by
  have h := Go.run_convert_bytes_back (P := Tryz.prog) (w.alloc (.cells #[.int .u8 (x : Nat)] 5)) 37 9 5 ⟨w.heap.size, 0, none⟩ 1 [UInt8.ofNat x] Tryz.underlying37 Tryz.underlying5 Tryz.underlying9 (fun j hj => by
    obtain rfl : j = 0 := by simpa using hj
    have e : (UInt8.ofNat x).toNat = x := by rw [UInt8.toNat_ofNat']; omega
    show (w.alloc (.cells #[.int .u8 (x : Nat)] 5)).cell? ⟨w.heap.size, 0, none⟩ = some (.int .u8 ((UInt8.ofNat x).toNat : Int))
    simp only [World.cell?]
    rw [heap_alloc_new]
    simp [e])
  exact h
theorem digL_length (v k : Nat) : (digL v k).length = k := by
  induction k with
  | zero => rfl
  | succ k ih => simp [digL, ih]
theorem bytes_cons (x : UInt8) (l : List UInt8) : (⟨#[x]⟩ : ByteArray) ++ ⟨l.toArray⟩ = ⟨(x :: l).toArray⟩ := by
  apply ByteArray.ext
  simp
end Go.Proofs.YtcepcamedmiinaaGreatDoor.dat
namespace Go.Proofs.YtcepcamedmiinaaGreatDoor.dat
open Go.ChangeShapes Go.WideShapes Go.ChangeAt Go.RowKit
open Go.Lib (dg itoa byteCells strCells)
set_option linter.unusedVariables false
set_option linter.unusedSimpArgs false

theorem info5 : ∃ i, Tryz.prog.info? 5 = some i ∧ i.zero = some (.int .u8 0) ∧ i.size = 1 ∧ i.bytes = 1 := by
  have h : (Tryz.prog.info? 5).map (fun i => (i.zero, i.size, i.bytes)) = some (some (.int .u8 0), 1, 1) := by kernel_rfl
  cases hq : Tryz.prog.info? 5 with
  | none => rw [hq] at h; cases h
  | some i =>
    rw [hq] at h
    simp only [Option.map_some, Option.some.injEq, Prod.mk.injEq] at h
    exact ⟨i, rfl, h.1, h.2.1, h.2.2⟩
/-- The slice v holds the bytes l, in a block of the call's own. -/
def Bu (W0 : World) (B : Nat) (v : Value) (l : List UInt8) (w : World) : Prop := w.ownsRow B 5 1 v l.length (byteCells l) ∧ Below B W0 w ∧ B ≤ w.heap.size
theorem Bu.grown {W0 w w' : World} {B : Nat} {v v' : Value} {l l' : List UInt8} (h : Bu W0 B v l w) (ho : w'.ownsRow B 5 1 v' l'.length (byteCells l')) (hg : w.grownBy w' v.ownBlock) : Bu W0 B v' l' w' :=
  ⟨ho, h.2.1.grown hg h.2.2 (fun k hk => (h.1.lt k hk).1), Nat.le_trans h.2.2 hg.size⟩
theorem Bu.alloc {W0 w : World} {B : Nat} {v : Value} {l : List UInt8} (h : Bu W0 B v l w) (o : Obj) : Bu W0 B v l (w.alloc o) :=
  ⟨h.1.alloc o, h.2.1.alloc h.2.2 o, Nat.le_trans h.2.2 ((Below.refl 0 w).alloc (Nat.zero_le _) o).size⟩
theorem Bu.made (w : World) (cur : Array Value) (cap : Nat) (hm : cap ≤ maxLen) (hs : cur.size = cap * 1) : Bu w w.heap.size (.slice (some ⟨w.heap.size, 0, none⟩) 0 cap) [] (w.alloc (.cells cur 5)) :=
  ⟨World.ownsRow_made w cur cap (Nat.le_refl _) hm hs, (Below.refl _ _).alloc (Nat.le_refl _) _, by simp⟩
theorem cells_one (l : List UInt8) : ∀ u ∈ byteCells l, u.oneCell' = true := by
  intro u hu
  simp only [byteCells, List.mem_map] at hu
  obtain ⟨b, -, rfl⟩ := hu
  rfl
/-- Bytes that the statement itself has laid. -/
theorem step_lit {ops : Array Oper} {rest : List Oper} {o : Oper} {a : Act} {Q : Exit → Act → World → Prop} (hgd : o.guard = none) (s x : Operand)
    (ho : o.op = .call { callee := .builtin .append, args := #[s, x], argTypes := #[37, 37] })
    (W0 w0 : World) (B : Nat) (v : Value) (l new : List UInt8) (cs : Array Value) (m : Nat) (hcs : cs = (byteCells new).toArray) (hm : m = new.length) (hb : Bu W0 B v l w0) (hs : a.eval s = v)
    (hx : a.eval x = .slice (some ⟨w0.heap.size, 0, none⟩) m m) (hl : l.length + new.length ≤ 1000)
    (h : ∀ v' w', Bu W0 B v' (l ++ new) w' → wpList Tryz.prog ops Q rest (a.put o.dst v') w') : wpList Tryz.prog ops Q (o :: rest) a (w0.alloc (.cells cs 5)) := by
  subst hcs
  subst hm
  obtain ⟨i, h1, h2, h3, h4⟩ := info5
  have hb' := hb.alloc (.cells (byteCells new).toArray 5)
  refine wpList_append_own _ hgd s x 37 ho B 5 i (.int .u8 0) 1 1 Tryz.underlying37 h1 h2 h3 h4 rfl (by decide) v l.length (byteCells l) hs hb'.1 ⟨w0.heap.size, 0, none⟩ new.length new.length (byteCells new) hx (by simp [byteCells]) ?_ (cells_one _) (by unfold maxLen; omega) (by omega) hb'.2.2 ?_
  · intro j u hu
    have e : ((⟨w0.heap.size, 0, none⟩ : Addr).add j) = ⟨w0.heap.size, j, none⟩ := by simp [Addr.add]; intro h; exact h.symm
    rw [e]
    simp only [World.cell?]
    rw [heap_alloc_new]
    simpa using hu
  · intro v' w' ho' hg _
    refine h v' w' (hb'.grown ?_ hg)
    rw [List.length_append]
    simpa [byteCells] using ho'
/-- A text's bytes. -/
theorem step_str {ops : Array Oper} {rest : List Oper} {o : Oper} {a : Act} {Q : Exit → Act → World → Prop} {w : World} (hgd : o.guard = none) (s x : Operand)
    (ho : o.op = .call { callee := .builtin .append, args := #[s, x], argTypes := #[37, 9] })
    (W0 : World) (B : Nat) (v : Value) (l new : List UInt8) (hb : Bu W0 B v l w) (hs : a.eval s = v) (hx : a.eval x = .string ⟨new.toArray⟩) (hl : l.length + new.length ≤ 1000)
    (h : ∀ v' w', Bu W0 B v' (l ++ new) w' → wpList Tryz.prog ops Q rest (a.put o.dst v') w') : wpList Tryz.prog ops Q (o :: rest) a w := by
  obtain ⟨i, h1, h2, h3, h4⟩ := info5
  have hz : (⟨new.toArray⟩ : ByteArray).size = new.length := rfl
  refine Lib.wpList_append_own_string w hgd s x 37 9 ho B 5 i Tryz.underlying37 Tryz.underlying9 h1 h2 h3 h4 v l.length (byteCells l) hs hb.1 ⟨new.toArray⟩ hx (by rw [hz]; unfold maxLen; omega) (by rw [hz]; omega) hb.2.2 ?_
  intro v' w' ho' hg _
  refine h v' w' (hb.grown ?_ hg)
  rw [List.length_append]
  rw [hz, Lib.strCells_toArray] at ho'
  simpa [byteCells] using ho'
theorem Bu.text {W0 w : World} {B : Nat} {v : Value} {l : List UInt8} (h : Bu W0 B v l w) (h0 : 0 < l.length) : (convert 37 9 v).run Tryz.prog w = .ok (.string ⟨l.toArray⟩) w := by
  obtain ⟨hl, h⟩ := h.1
  rcases h with ⟨-, h⟩ | ⟨g, cap, cur, rfl, -, hg, h2, -, h4, h5⟩
  · omega
  · refine Go.run_convert_bytes_back (P := Tryz.prog) w 37 9 5 ⟨g, 0, none⟩ cap l Tryz.underlying37 Tryz.underlying5 Tryz.underlying9 (fun j hj => ?_)
    have e : ((⟨g, 0, none⟩ : Addr).add j) = ⟨g, j, none⟩ := by simp [Addr.add]; intro h; exact h.symm
    rw [e]
    simp only [World.cell?, hg]
    have h6 : (cur.toList.take (l.length * 1))[j]? = some (.int .u8 (l[j].toNat : Int)) := by rw [h5]; simp [byteCells, hj]
    rw [List.getElem?_take] at h6
    split at h6
    · simpa using h6
    · cases h6

end Go.Proofs.YtcepcamedmiinaaGreatDoor.dat
namespace Go.Proofs.YtcepcamedmiinaaGreatDoor.dat
open Go.ChangeShapes Go.WideShapes Go.ChangeAt Go.RowKit
open Go.Lib (dg itoa byteCells strCells)
set_option linter.unusedVariables false
set_option linter.unusedSimpArgs false

/-- What the library's decimal numeral asks of its own table. -/
def Tens (w : World) : Prop := Lib.TabBelow Tryz.prog w.heap.size w "internal/strconv.uint64pow10" .u64 Lib.pow10Tab
theorem Tens.on {w w' : World} (h : Tens w) (hb : Below w.heap.size w w') : Lib.TabBelow Tryz.prog w.heap.size w' "internal/strconv.uint64pow10" .u64 Lib.pow10Tab := Lib.TabBelow.on h hb
theorem make26 (w : World) : ∃ w2, (Instr.makeSlice 37 (.int .i64 0) (.int .i64 26)).run Tryz.prog w = .ok (.slice (some ⟨w.heap.size, 0, none⟩) 0 26) w2 ∧ Bu w w.heap.size (.slice (some ⟨w.heap.size, 0, none⟩) 0 26) [] w2 := by
  obtain ⟨i, h1, h2, h3, h4⟩ := info5
  obtain ⟨w2, hr, ho, hg⟩ := run_makeSlice_owned w w.heap.size 37 5 i (.int .u8 0) 1 Tryz.underlying37 h1 h2 h3 .i64 .i64 26 (by omega) (by omega) (by unfold maxLen; omega) (Nat.le_refl _)
  exact ⟨w2, hr, ho, (Below.refl _ _).grown hg (Nat.le_refl _) (fun k hk => by cases hk), hg.size⟩
end Go.Proofs.YtcepcamedmiinaaGreatDoor.dat
