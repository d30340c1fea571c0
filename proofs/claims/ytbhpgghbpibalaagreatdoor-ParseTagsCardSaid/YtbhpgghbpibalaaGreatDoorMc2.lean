/- Plain mathematics of flags: five bits, their names. -/
import Derived.Test.YtbhpgghbpibalaaGreatDoorMc1
import Derived.Lib.Join
import Derived.Laws.BitsLemmas
import Derived.Lib.LaidTab
import Derived.LaidSub
import Derived.MakeChecks
import Derived.Test.YtbhpgghbpibalaaGreatDoorMs
import Derived.SliceStrings
namespace Go.Proofs.YtbhpgghbpibalaaGreatDoor.flg
open Go.Lib Go.Proofs.YtbhpgghbpibalaaGreatDoor.alk
set_option linter.unusedVariables false
set_option linter.unusedSimpArgs false

/-- The five lowest bits of a number. -/
def five (x : Int) : Nat := (x % 32).toNat
theorem five_lt (x : Int) : five x < 32 := by unfold five; omega
def bitB (x : Int) (i : Nat) : Bool := decide (x / 2 ^ i % 2 = 1)
theorem bitB_five (x : Int) (i : Nat) (h : i < 5) : bitB x i = (five x).testBit i := by
  have key : (five x).testBit i = decide (five x / 2 ^ i % 2 = 1) := by rw [Nat.testBit_eq_decide_div_mod_eq]
  rw [key, Bool.eq_iff_iff]
  unfold bitB five
  simp only [decide_eq_true_eq]
  match i, h with
  | 0, _ => omega
  | 1, _ => omega
  | 2, _ => omega
  | 3, _ => omega
  | 4, _ => omega

theorem ofInt_five (x : Int) : (BitVec.ofInt 64 x).toNat % 32 = five x := by
  rw [BitVec.toNat_ofInt]
  unfold five
  omega
theorem wrap_mod (n : Nat) : IntKind.i64.wrap (n : Int) % 32 = (n : Int) % 32 := by
  rw [IntKind.wrap_i64]
  omega
theorem i64_and31 (n : Int) : bits .and .i64 n 31 = five n := by
  have h31 : (BitVec.ofInt 64 31).toNat = 2 ^ 5 - 1 := by decide
  have key : (BitVec.ofInt 64 n &&& BitVec.ofInt 64 31).toNat = (BitVec.ofInt 64 n).toNat % 2 ^ 5 := by
    rw [BitVec.toNat_and, h31, Nat.and_two_pow_sub_one_eq_mod]
  show IntKind.i64.wrap ((BitVec.ofInt 64 n &&& BitVec.ofInt 64 31).toNat : Nat) = _
  rw [key, show 2 ^ 5 = 32 from rfl, ofInt_five, IntKind.wrap_i64]
  have := five_lt n
  omega
theorem i64_and1 (n : Int) : bits .and .i64 n 1 = n % 2 := by
  have h1 : (BitVec.ofInt 64 1).toNat = 2 ^ 1 - 1 := by decide
  have key : (BitVec.ofInt 64 n &&& BitVec.ofInt 64 1).toNat = (n % ((2 ^ 64 : Nat) : Int)).toNat % 2 ^ 1 := by
    rw [BitVec.toNat_and, BitVec.toNat_ofInt, h1, Nat.and_two_pow_sub_one_eq_mod]
  show IntKind.i64.wrap ((BitVec.ofInt 64 n &&& BitVec.ofInt 64 1).toNat : Nat) = n % 2
  rw [key, IntKind.wrap_i64]
  omega
theorem five_of_nat {x : Int} {n : Nat} (h : x % 32 = (n : Int) % 32) : five x = n % 32 := by unfold five; omega
theorem five_or (x y : Int) : five (bits .or .i64 x y) = five x ||| five y := by
  have e : bits .or .i64 x y = IntKind.i64.wrap ((BitVec.ofInt 64 x ||| BitVec.ofInt 64 y).toNat : Nat) := rfl
  rw [e, five_of_nat (wrap_mod _), BitVec.toNat_or, show 32 = 2 ^ 5 from rfl, Nat.or_mod_two_pow]
  congr 1 <;> exact ofInt_five _
theorem five_andNot (x y : Int) : five (bits .andNot .i64 x y) = five x &&& (31 ^^^ five y) := by
  have e : bits .andNot .i64 x y = IntKind.i64.wrap ((BitVec.ofInt 64 x &&& ~~~ BitVec.ofInt 64 y).toNat : Nat) := rfl
  rw [e, five_of_nat (wrap_mod _), BitVec.toNat_and, show 32 = 2 ^ 5 from rfl, Nat.and_mod_two_pow, show 2 ^ 5 = 32 from rfl, ofInt_five]
  congr 1
  rw [← ofInt_five y]
  obtain ⟨v, hv⟩ : ∃ v, BitVec.ofInt 64 y = v := ⟨_, rfl⟩
  rw [hv, BitVec.toNat_not]
  have h := v.isLt
  have h32 : v.toNat % 32 < 32 := Nat.mod_lt _ (by decide)
  have h1 : (2 ^ 64 - 1 - v.toNat) % 32 = 31 - v.toNat % 32 := by omega
  rw [h1]
  generalize v.toNat % 32 = k at h32
  revert k
  decide

/-- What the document makes of two flags, bit by bit. -/
def goes (how : Int) (a c : Bool) : Bool := decide (how = 0) && c || decide (how = 1) && (a || c) || decide (how = 2) && a && !c || (decide (how < 0) || decide (2 < how)) && a
def chg (x y how : Int) : Nat → Nat
  | 0 => 0
  | k + 1 => chg x y how k + (if goes how (bitB x k) (bitB y k) then 2 ^ k else 0)
theorem chg_lt (x y how : Int) : ∀ k, chg x y how k < 2 ^ k
  | 0 => Nat.zero_lt_one
  | k + 1 => by
    have := chg_lt x y how k
    unfold chg
    rw [Nat.pow_succ]
    split <;> omega
/-- The same of the five lowest bits. -/
def chgN (m n : Nat) (h : Nat) : Nat := if h = 0 then n else if h = 1 then m ||| n else if h = 2 then m &&& (31 ^^^ n) else m
def kind (how : Int) : Nat := if how = 0 then 0 else if how = 1 then 1 else if how = 2 then 2 else 3
def goesN (h : Nat) (a c : Bool) : Bool := if h = 0 then c else if h = 1 then a || c else if h = 2 then a && !c else a
theorem goes_kind (how : Int) (a c : Bool) : goes how a c = goesN (kind how) a c := by
  unfold goes goesN kind
  by_cases h0 : how = 0
  · subst h0; cases a <;> cases c <;> rfl
  · by_cases h1 : how = 1
    · subst h1; cases a <;> cases c <;> rfl
    · by_cases h2 : how = 2
      · subst h2; cases a <;> cases c <;> rfl
      · have h3 : (decide (how < 0) || decide (2 < how)) = true := by
          simp only [Bool.or_eq_true, decide_eq_true_eq]; omega
        rw [h3]
        simp [h0, h1, h2]
def sumN (m n h : Nat) : Nat := (if goesN h (m.testBit 0) (n.testBit 0) then 1 else 0) + (if goesN h (m.testBit 1) (n.testBit 1) then 2 else 0) + (if goesN h (m.testBit 2) (n.testBit 2) then 4 else 0) + (if goesN h (m.testBit 3) (n.testBit 3) then 8 else 0) + (if goesN h (m.testBit 4) (n.testBit 4) then 16 else 0)
theorem sum_all : ∀ h, h < 4 → ∀ m, m < 32 → ∀ n, n < 32 → sumN m n h = chgN m n h := by decide +kernel
theorem kind_lt (how : Int) : kind how < 4 := by
  unfold kind
  repeat' split
  all_goals omega
theorem chg_five (x y how : Int) : chg x y how 5 = chgN (five x) (five y) (kind how) := by
  rw [← sum_all _ (kind_lt how) _ (five_lt x) _ (five_lt y)]
  simp only [chg, goes_kind, bitB_five x 0 (by decide), bitB_five x 1 (by decide), bitB_five x 2 (by decide), bitB_five x 3 (by decide), bitB_five x 4 (by decide), bitB_five y 0 (by decide), bitB_five y 1 (by decide), bitB_five y 2 (by decide), bitB_five y 3 (by decide), bitB_five y 4 (by decide)]
  unfold sumN
  simp only [Nat.zero_add, Nat.reducePow]
theorem twice_all : ∀ h, h < 4 → ∀ m, m < 32 → ∀ n, n < 32 → chgN (chgN m n h) n h = chgN m n h := by decide +kernel
theorem chgN_lt : ∀ h, h < 4 → ∀ m, m < 32 → ∀ n, n < 32 → chgN m n h < 32 := by decide +kernel

/-! ### Names -/
def nm (k : Nat) : List UInt8 :=
  if k = 0 then [92, 83, 101, 101, 110] else if k = 1 then [92, 65, 110, 115, 119, 101, 114, 101, 100] else if k = 2 then [92, 70, 108, 97, 103, 103, 101, 100] else if k = 3 then [92, 68, 101, 108, 101, 116, 101, 100] else [92, 68, 114, 97, 102, 116]
def nmS (k : Nat) : ByteArray := ⟨(nm k).toArray⟩
theorem nmS_size (k : Nat) : (nmS k).size = (nm k).length := rfl
theorem nm_len (k : Nat) (h : k < 5) : 5 ≤ (nm k).length ∧ (nm k).length ≤ 9 := by
  revert k; decide
/-- The names of the first k bits of m. -/
def names (m : Nat) : Nat → List ByteArray
  | 0 => []
  | k + 1 => names m k ++ (if m.testBit k then [nmS k] else [])
theorem names_len (m : Nat) : ∀ k, (names m k).length ≤ k
  | 0 => Nat.le_refl _
  | k + 1 => by
    have := names_len m k
    unfold names
    rw [List.length_append]
    split <;> simp <;> omega
def lists (m : Nat) : List UInt8 := join ((names m 5).map (·.data.toList)) [32]
def printL (m : Nat) : List UInt8 := 40 :: lists m ++ [41]
/-- The same as the document builds it. -/
def accL (m : Nat) : Nat → List UInt8
  | 0 => []
  | k + 1 => if m.testBit k then (if accL m k = [] then [] else accL m k ++ [32]) ++ nm k else accL m k
theorem acc_all : ∀ m, m < 32 → accL m 5 = lists m := by decide +kernel
theorem acc_len (m : Nat) : ∀ k, k ≤ 5 → (accL m k).length ≤ 10 * k
  | 0, _ => Nat.le_refl _
  | k + 1, h => by
    have := acc_len m k (by omega)
    have := nm_len k (by omega)
    unfold accL
    split
    · split <;> simp <;> omega
    · omega
theorem lists_len (m : Nat) (h : m < 32) : (lists m).length ≤ 50 := by
  rw [← acc_all m h]; exact acc_len m 5 (Nat.le_refl _)

/-! ### Flags of names -/
def bitN (s : ByteArray) : Nat := if alike s (nmS 0) then 1 else if alike s (nmS 1) then 2 else if alike s (nmS 2) then 4 else if alike s (nmS 3) then 8 else if alike s (nmS 4) then 16 else 0
theorem five_cases {k : Nat} (h : k < 5) : k = 0 ∨ k = 1 ∨ k = 2 ∨ k = 3 ∨ k = 4 := by omega
theorem bitN_hit (s : ByteArray) (k : Nat) (h : k < 5) (hn : ∀ j, j < k → alike s (nmS j) = false) (hk : alike s (nmS k) = true) : bitN s = 2 ^ k := by
  unfold bitN
  rcases five_cases h with rfl | rfl | rfl | rfl | rfl
  · simp [hk]
  · simp [hk, hn 0 (by omega)]
  · simp [hk, hn 0 (by omega), hn 1 (by omega)]
  · simp [hk, hn 0 (by omega), hn 1 (by omega), hn 2 (by omega)]
  · simp [hk, hn 0 (by omega), hn 1 (by omega), hn 2 (by omega), hn 3 (by omega)]
theorem bitN_none (s : ByteArray) (hn : ∀ j, j < 5 → alike s (nmS j) = false) : bitN s = 0 := by
  unfold bitN
  simp [hn 0 (by omega), hn 1 (by omega), hn 2 (by omega), hn 3 (by omega), hn 4 (by omega)]
theorem bitN_lt (s : ByteArray) : bitN s < 32 := by
  unfold bitN
  repeat' split
  all_goals omega
theorem names_apart : ∀ j, j < 5 → ∀ k, k < 5 → j ≠ k → alike (nmS j) (nmS k) = false := by decide +kernel
theorem names_like : ∀ k, k < 5 → alike (nmS k) (nmS k) = true := by decide +kernel
theorem bitN_only (s : ByteArray) (k : Nat) (h : k < 5) (hk : alike s (nmS k) = true) : bitN s = 2 ^ k := by
  refine bitN_hit s k h (fun j hj => ?_) hk
  cases ha : alike s (nmS j)
  · rfl
  · have := alike_both ha hk
    rw [names_apart j (by omega) k h (by omega)] at this
    cases this
theorem bitN_cases (s : ByteArray) : (bitN s = 0 ∧ ∀ k, k < 5 → alike s (nmS k) = false) ∨ ∃ k, k < 5 ∧ bitN s = 2 ^ k ∧ alike s (nmS k) = true := by
  by_cases h : ∃ k, k < 5 ∧ alike s (nmS k) = true
  · obtain ⟨k, hk, ha⟩ := h
    exact .inr ⟨k, hk, bitN_only s k hk ha, ha⟩
  · have hn : ∀ k, k < 5 → alike s (nmS k) = false := fun k hk => by
      cases ha : alike s (nmS k)
      · rfl
      · exact absurd ⟨k, hk, ha⟩ h
    exact .inl ⟨bitN_none s hn, hn⟩
theorem pow_bits : ∀ j, j < 5 → ∀ k, k < 5 → (2 ^ j).testBit k = decide (j = k) := by decide +kernel
theorem bitN_bit (s : ByteArray) (k : Nat) (h : k < 5) : (bitN s).testBit k = alike s (nmS k) := by
  rcases bitN_cases s with ⟨h0, hn⟩ | ⟨j, hj, hb, ha⟩
  · rw [h0, hn k h, Nat.zero_testBit]
  · rw [hb, pow_bits j hj k h]
    by_cases hjk : j = k
    · subst hjk; rw [ha]; simp
    · rw [decide_eq_false hjk]
      cases hk : alike s (nmS k)
      · rfl
      · have := alike_both ha hk
        rw [names_apart j hj k h hjk] at this
        cases this
def ors (X : Nat → ByteArray) : Nat → Nat
  | 0 => 0
  | k + 1 => ors X k ||| bitN (X k)
theorem ors_lt (X : Nat → ByteArray) : ∀ k, ors X k < 32
  | 0 => (by decide : 0 < 32)
  | k + 1 => Nat.or_lt_two_pow (n := 5) (ors_lt X k) (bitN_lt _)
theorem ors_bit (X : Nat → ByteArray) (n k : Nat) (h : k < 5) : (ors X (n + 1)).testBit k = ((ors X n).testBit k || alike (X n) (nmS k)) := by
  show (ors X n ||| bitN (X n)).testBit k = _
  rw [Nat.testBit_or, bitN_bit _ k h]
/-- A number out of five bits. -/
def sumB (m : Nat) : Nat → Nat
  | 0 => 0
  | k + 1 => sumB m k + (if m.testBit k then 2 ^ k else 0)
theorem sumB_five : ∀ m, m < 32 → sumB m 5 = m := by decide +kernel
theorem sumB_lt (m : Nat) : ∀ k, sumB m k < 2 ^ k
  | 0 => Nat.zero_lt_one
  | k + 1 => by
    have := sumB_lt m k
    unfold sumB
    rw [Nat.pow_succ]
    split <;> omega
/-- What is made of n names. -/
def fine (X : Nat → ByteArray) (n : Nat) : Prop := ∀ j, j < n → bitN (X j) ≠ 0
theorem names_ors : ∀ m, m < 32 → ors (fun j => (names m 5).getD j ByteArray.empty) (names m 5).length = m ∧ ∀ j, j < (names m 5).length → bitN ((names m 5).getD j ByteArray.empty) ≠ 0 := by decide +kernel
end Go.Proofs.YtbhpgghbpibalaaGreatDoor.flg
namespace Go.Proofs.YtbhpgghbpibalaaGreatDoor.flg
open Go.ChangeShapes Go.WideShapes Go.ChangeAt Go.RowKit Go.Proofs.YtbhpgghbpibalaaGreatDoor.alk
set_option linter.unusedVariables false
set_option linter.unusedSimpArgs false

/-- The five names as an array. -/
theorem index_five (k : Nat) (hk : k < 5) (w : World) :
    (Instr.index 130 (.agg #[.string ⟨#[92, 83, 101, 101, 110]⟩, .string ⟨#[92, 65, 110, 115, 119, 101, 114, 101, 100]⟩, .string ⟨#[92, 70, 108, 97, 103, 103, 101, 100]⟩, .string ⟨#[92, 68, 101, 108, 101, 116, 101, 100]⟩, .string ⟨#[92, 68, 114, 97, 102, 116]⟩]) (.int .i64 (k : Nat))).run Tryz.prog w = .ok (.string (nmS k)) w := by
  rcases five_cases hk with rfl | rfl | rfl | rfl | rfl <;> kernel_rfl
theorem bit_and (x : Int) (k : Nat) {b : Bool} (h : bitB x k = b) : bits .and .i64 (x / 2 ^ k) 1 = if b then 1 else 0 := by
  subst h
  rw [i64_and1]
  unfold bitB
  by_cases h : x / 2 ^ k % 2 = 1
  · rw [decide_eq_true h, h]; rfl
  · rw [decide_eq_false h]
    have h1 := Int.emod_nonneg (x / 2 ^ k) (show (2 : Int) ≠ 0 by decide)
    have h2 := Int.emod_lt_of_pos (x / 2 ^ k) (show (0 : Int) < 2 by decide)
    simp only [Bool.false_eq_true, if_false]
    omega
end Go.Proofs.YtbhpgghbpibalaaGreatDoor.flg
namespace Go.Proofs.YtbhpgghbpibalaaGreatDoor.flg
open Go.ChangeShapes Go.WideShapes Go.ChangeAt Go.RowKit Go.Proofs.YtbhpgghbpibalaaGreatDoor.alk
set_option linter.unusedVariables false
set_option linter.unusedSimpArgs false

def accS (m k : Nat) : ByteArray := ⟨(accL m k).toArray⟩
theorem accS_size (m k : Nat) (h : k ≤ 5) : (accS m k).size ≤ 50 := by
  have := acc_len m k h
  have e : (accS m k).size = (accL m k).length := rfl
  omega
theorem text_cat (a b : List UInt8) : (⟨a.toArray⟩ : ByteArray) ++ ⟨b.toArray⟩ = ⟨(a ++ b).toArray⟩ := by
  apply ByteArray.ext
  simp
theorem accS_off (m k : Nat) (h : m.testBit k = false) : accS m (k + 1) = accS m k := by
  unfold accS
  rw [show accL m (k + 1) = (if m.testBit k then (if accL m k = [] then [] else accL m k ++ [32]) ++ nm k else accL m k) from rfl, h]; rfl
theorem accS_first (m k : Nat) (h : m.testBit k = true) (he : accL m k = []) : accS m (k + 1) = accS m k ++ nmS k ∧ accS m k = ⟨#[]⟩ := by
  have e0 : accS m k = ⟨#[]⟩ := by unfold accS; rw [he]
  refine ⟨?_, e0⟩
  unfold accS
  rw [show accL m (k + 1) = (if m.testBit k then (if accL m k = [] then [] else accL m k ++ [32]) ++ nm k else accL m k) from rfl, h, if_pos rfl, if_pos he, he]
  exact (text_cat [] (nm k)).symm
theorem accS_more (m k : Nat) (h : m.testBit k = true) (he : accL m k ≠ []) : accS m (k + 1) = accS m k ++ ⟨#[32]⟩ ++ nmS k := by
  unfold accS
  rw [show accL m (k + 1) = (if m.testBit k then (if accL m k = [] then [] else accL m k ++ [32]) ++ nm k else accL m k) from rfl, h, if_pos rfl, if_neg he]
  show _ = (⟨(accL m k).toArray⟩ ++ ⟨[32].toArray⟩ : ByteArray) ++ ⟨(nm k).toArray⟩
  rw [text_cat, text_cat]
theorem print_acc (m : Nat) (h : m < 32) : (⟨(printL m).toArray⟩ : ByteArray) = ⟨#[40]⟩ ++ accS m 5 ++ ⟨#[41]⟩ := by
  unfold printL accS
  rw [acc_all m h]
  show _ = (⟨[40].toArray⟩ ++ ⟨(lists m).toArray⟩ : ByteArray) ++ ⟨[41].toArray⟩
  rw [text_cat, text_cat]
  rfl

end Go.Proofs.YtbhpgghbpibalaaGreatDoor.flg
namespace Go.Proofs.YtbhpgghbpibalaaGreatDoor.flg
open Go.ChangeShapes Go.WideShapes Go.ChangeAt Go.RowKit Go.Proofs.YtbhpgghbpibalaaGreatDoor.alk
set_option linter.unusedVariables false
set_option linter.unusedSimpArgs false
set_option maxRecDepth 100000

def names5 : Array Value := #[.string ⟨#[92, 83, 101, 101, 110]⟩, .string ⟨#[92, 65, 110, 115, 119, 101, 114, 101, 100]⟩, .string ⟨#[92, 70, 108, 97, 103, 103, 101, 100]⟩, .string ⟨#[92, 68, 101, 108, 101, 116, 101, 100]⟩, .string ⟨#[92, 68, 114, 97, 102, 116]⟩]
/-- The variable holds the five names. -/
def Names (w : World) : Prop := ∃ t fr, w.heap[3]? = some (.cells names5 t fr)
theorem Names.below {w w' : World} (h : Names w) (hb : Below w.heap.size w w') : Names w' := by
  obtain ⟨t, fr, h⟩ := h
  have hlt : 3 < w.heap.size := (Array.getElem?_eq_some_iff.1 h).1
  exact ⟨t, fr, (hb.block _ hlt).trans h⟩
def textData {H : Type} (zs : List (List UInt8)) : DataW H := .agg (zs.map fun z => .lit (.string z))
/-- An array of strings that reads as a table holds the table's strings. -/
theorem cells_of_texts {H : Type} {enc : TypeId × Value → H} {P : Program} {w : World} {base : Nat} {sp : Nat → Bool} {held : Bool} {fuel : Nat} {t e : TypeId} {n : Nat} {cs : List Value} {zs : List (List UInt8)} {p : List MemPlace}
    (ht : P.underlying t = some (.array n e)) (he : P.underlying e = some .string) (hce : P.cellsOf e = 1) (hct : P.cellsOf t = n)
    (h : DataW.trod enc P w base sp held fuel t cs = some (textData zs, p)) : cs = zs.map fun z => Value.string ⟨z.toArray⟩ := by
  cases fuel with
  | zero => simp [DataW.trod] at h
  | succ fuel =>
    simp only [DataW.trod, ht, hce, hct, Nat.mul_one] at h
    split at h
    · rename_i hl
      obtain ⟨xs, hm, hx⟩ := Option.map_eq_some_iff.1 h
      have hxs : xs.map (·.1) = zs.map fun z => (DataW.lit (.string z) : DataW H) := by
        have := congrArg Prod.fst hx
        simpa [textData] using this
      have hxl : xs.length = n := by simpa using Lib.mapM_length hm
      have hzl : zs.length = n := by
        have := congrArg List.length hxs
        simp at this
        omega
      apply List.ext_getElem?
      intro i
      by_cases hi : i < n
      · obtain ⟨b, hb, hf⟩ := Lib.mapM_at hm i i (by simp [hi])
        obtain ⟨z, hc, rfl, _⟩ := DataW.trod_string he hf
        have h1 : cs[i]? = some (.string z) := by
          have := congrArg (·[0]?) hc
          simpa [List.getElem?_take, List.getElem?_drop] using this
        have h2 : (xs.map (·.1))[i]? = some (DataW.lit (.string z.data.toList) : DataW H) := by simp [hb]
        rw [hxs] at h2
        simp only [List.getElem?_map, Option.map_eq_some_iff, DataW.lit.injEq, Lit.string.injEq] at h2
        obtain ⟨z', hz', rfl⟩ := h2
        simp [h1, hz']
      · rw [List.getElem?_eq_none (by omega), List.getElem?_eq_none (by simp; omega)]
    · cases h
theorem names_of {w : World} (h : laidMet Tryz.prog [("cubby/flag.inOrder", Rows.laid_cubby_flag_inOrder)] w) : Names w := by
  have e : (Rows.laid_cubby_flag_inOrder : DataW Unit) = textData [nm 0, nm 1, nm 2, nm 3, nm 4] := by kernel_rfl
  rw [e] at h
  obtain ⟨ps, ⟨g', t', cs, fuel, p, q, hg', ht', hvar, hd, _, _⟩, _⟩ := h
  obtain rfl := Option.some.inj ((show Tryz.prog.globalNamed "cubby/flag.inOrder" = some 3 by kernel_rfl).symm.trans hg')
  obtain rfl := Option.some.inj ((show (Tryz.prog.globals[3]?).map (·.type) = some 130 by kernel_rfl).symm.trans ht')
  have hcs := cells_of_texts (n := 5) Tryz.underlying130 Tryz.underlying9 (by kernel_rfl) (by kernel_rfl) hd
  unfold World.var? at hvar
  rw [show Tryz.prog.globalNamed "cubby/flag.inOrder" = some 3 by kernel_rfl] at hvar
  simp only [Option.bind_some] at hvar
  split at hvar
  · rename_i c t fr hh
    refine ⟨t, fr, hh.trans ?_⟩
    have h1 := Option.some.inj hvar
    have h2 : cs = names5 := by
      apply Array.ext'
      rw [hcs]; rfl
    rw [h1, h2]
  · cases hvar
end Go.Proofs.YtbhpgghbpibalaaGreatDoor.flg
namespace Go.Proofs.YtbhpgghbpibalaaGreatDoor.flg
open Go.ChangeShapes Go.WideShapes Go.ChangeAt Go.RowKit Go.Proofs.YtbhpgghbpibalaaGreatDoor.alk
set_option linter.unusedVariables false
set_option linter.unusedSimpArgs false

theorem info9 : ∃ i, Tryz.prog.info? 9 = some i ∧ i.zero = some (.string ⟨#[]⟩) ∧ i.size = 1 ∧ i.bytes = 16 := by
  have h : (Tryz.prog.info? 9).map (fun i => (i.zero, i.size, i.bytes)) = some (some (.string ⟨#[]⟩), 1, 16) := by kernel_rfl
  cases hq : Tryz.prog.info? 9 with
  | none => rw [hq] at h; cases h
  | some i =>
    rw [hq] at h
    simp only [Option.map_some, Option.some.injEq, Prod.mk.injEq] at h
    exact ⟨i, rfl, h.1, h.2.1, h.2.2⟩
def svals (l : List ByteArray) : List Value := l.map Value.string
/-- The slice holds these texts, in a row of the call's own. -/
def Tx (w : World) (B : Nat) (v : Value) (l : List ByteArray) : Prop := w.ownsRow B 9 1 v l.length (svals l)
theorem names_on (m k : Nat) (h : m.testBit k = true) : names m (k + 1) = names m k ++ [nmS k] := by
  show names m k ++ (if m.testBit k then [nmS k] else []) = _
  rw [h]; rfl
theorem names_off (m k : Nat) (h : m.testBit k = false) : names m (k + 1) = names m k := by
  show names m k ++ (if m.testBit k then [nmS k] else []) = _
  rw [h, if_neg (by decide), List.append_nil]

end Go.Proofs.YtbhpgghbpibalaaGreatDoor.flg
namespace Go.Proofs.YtbhpgghbpibalaaGreatDoor.flg
open Go.ChangeShapes Go.WideShapes Go.ChangeAt Go.RowKit Go.Proofs.YtbhpgghbpibalaaGreatDoor.alk
set_option linter.unusedVariables false
set_option linter.unusedSimpArgs false
set_option maxRecDepth 100000

/-- The letters of the names. -/
def letters : List Nat := [92, 83, 101, 110, 65, 115, 119, 114, 100, 70, 108, 97, 103, 68, 116, 102]
def swap (c : Nat) : Nat := if 97 ≤ c then c - 32 else c + 32
theorem letters_plain : ∀ c ∈ letters, c = 83 ∨ c = 115 ∨ (c < 128 ∧ asciiL.getD c 0 = (c : Int)) ∨ (c < 128 ∧ swap c < 128 ∧ swap c ≠ c ∧ asciiL.getD c 0 = (swap c : Int) ∧ asciiL.getD (swap c) 0 = (c : Int)) := by decide +kernel
theorem name_letters : ∀ k, k < 5 → ∀ j, j < (nm k).length → byt (nmS k) j ∈ letters := by decide +kernel
theorem name_low (k : Nat) (hk : k < 5) (j : Nat) (hj : j < (nm k).length) : byt (nmS k) j < 128 ∧ (Plain (byt (nmS k) j) ∨ byt (nmS k) j = 83 ∨ byt (nmS k) j = 115 ∨ Fixed (byt (nmS k) j)) := by
  rcases letters_plain _ (name_letters k hk j hj) with h | h | h | ⟨a, b, c, d, e⟩
  · rw [h]; exact ⟨by omega, .inr (.inl rfl)⟩
  · rw [h]; exact ⟨by omega, .inr (.inr (.inl rfl))⟩
  · exact ⟨h.1, .inr (.inr (.inr h))⟩
  · exact ⟨a, .inl ⟨_, a, b, c, d, e⟩⟩
/-- Of a text as long as a name the library's comparison answers whether they are the same letters. -/
theorem fold_name (w : World) (s : ByteArray) (k : Nat) (hk : k < 5) (hs : s.size = (nmS k).size) (hF : Fold w) :
    Calls Tryz.prog 72 #[.string s, .string (nmS k)] w fun e w' => e = .returned (.bool (alike s (nmS k))) ∧ Below w.heap.size w w' := by
  have hl := name_low k hk
  have hnl := nm_len k hk
  have hnz : (nmS k).size = (nm k).length := nmS_size k
  by_cases hhi : ∃ j, j < (nm k).length ∧ 128 ≤ byt s j
  · have hne : alike s (nmS k) = false := by
      obtain ⟨j, hj, hb⟩ := hhi
      refine alike_false s _ j (by omega) ?_
      have := low_high _ _ hb (hl j hj).1
      simp only [beq_eq_false_iff_ne]
      exact fun h => this h.symm
    rw [hne]
    exact fold_high w s _ (nm k).length (by omega) (hs.trans hnz) hnz hF hhi hl
  · have hasc : ∀ (l : ByteArray), l.size = (nm k).length → (∀ j, j < (nm k).length → byt l j < 128) → ∀ (j : Nat) b, l.data.toList[j]? = some b → b.toNat < 128 := by
      intro l hlz hb j b hj
      have hj3 : j < (nm k).length := by
        have := (List.getElem?_eq_some_iff.1 hj).1
        rw [← Lib.size_eq] at this
        omega
      have := hb j hj3
      obtain ⟨h', e⟩ := List.getElem?_eq_some_iff.1 hj
      rw [← byt_list l j h', e] at this
      exact this
    refine (Tryz.strings_EqualFold s (nmS k) w (by omega) (hasc s (hs.trans hnz) fun j hj => ?_) (hasc _ hnz fun j hj => (hl j hj).1)).mono ?_
    · rcases Nat.lt_or_ge (byt s j) 128 with h | h
      · exact h
      · exact absurd ⟨j, hj, h⟩ hhi
    · rintro e w' ⟨rfl, rfl⟩
      rw [alike_fold s _ hs]
      exact ⟨rfl, Below.refl _ _⟩

/-- The tables that are read. -/
structure Tab (w : World) : Prop where
  fold : Fold w
  names : Names w
theorem Tab.below {w w' : World} (h : Tab w) (hb : Below w.heap.size w w') : Tab w' := ⟨h.fold.below hb, h.names.below hb⟩

theorem pow_wrap (k : Nat) (hk : k < 5) : wrap64 ((2 : Int) ^ k) = ((2 ^ k : Nat) : Int) := by
  rcases five_cases hk with rfl | rfl | rfl | rfl | rfl <;> kernel_rfl
set_option maxHeartbeats 3200000 in
theorem bitOf_any (w : World) (s : ByteArray) (hT : Tab w) :
    Calls Tryz.prog 77 #[.string s] w fun e w' => e = .returned (.int .i64 (bitN s : Nat)) ∧ Below w.heap.size w w' := by
  obtain ⟨t, fr, hN⟩ := hT.names
  have HC := Lib.hid hN
  have HF := Lib.hid hT.fold
  have HI := Lib.hid (fun k hk w => index_five k hk w)
  clear hN hT
  go_enter Tryz.func77, Tryz.ntmps77
  go_wp2_with (refine wpList_load_row rfl 130 (.global 3) rfl 3 rfl t names5 fr _ HC.out Tryz.underlying130 rfl rfl ?_)
  go_loopw [6] (fun i wr => ∃ k : Nat, k ≤ 5 ∧ i = .int .i64 k ∧ Hid (∀ j, j < k → alike s (nmS j) = false) ∧ Hid (Below w.heap.size w wr)) (fun i _ => 5 - (intOf i).toNat)
  case atStart => exact ⟨0, Nat.zero_le _, rfl, fun j h => absurd h (Nat.not_lt_zero _), Below.refl _ _⟩
  case round =>
    obtain ⟨k, hk, rfl, hh, hb⟩ := hrel
    by_cases hk5 : k < 5
    · have hI := HI.out k hk5
      have HE := Lib.hid (fun (w : World) (hs : s.size = (nmS k).size) (hF : Fold w) => fold_name w s k hk5 hs hF)
      have HFr := Lib.hid (HF.out.below hb.out)
      have HIT := Lib.hid (bitN_hit s k hk5 hh.out)
      have HNX := Lib.hid (show alike s (nmS k) = false → ∀ j, j < k + 1 → alike s (nmS j) = false by
        intro h j hj
        rcases Nat.lt_succ_iff_lt_or_eq.1 hj with h' | rfl
        · exact hh.out j h'
        · exact h)
      have HSZ := Lib.hid (alike_size s (nmS k))
      obtain ⟨q, hq⟩ : ∃ q, nmS k = q := ⟨_, rfl⟩
      rw [hq] at hI HE HIT HNX HSZ
      clear hq
      by_cases hs : s.size = q.size
      · have hsb : ((s.size : Int) == (q.size : Int)) = true := by rw [beq_iff_eq]; omega
        have HS := Lib.hid hs
        clear hs
        cases ha : alike s q
        · rw [ha] at HE HNX
          have HN := Lib.hid (HNX.out rfl)
          clear ha HNX HIT HSZ
          unfold names5
          go_wp2_with (go_at_call 72; refine (HE.out _ HS.out HFr.out).mono ?_; rintro e w2 ⟨rfl, hb2⟩)
          exact ⟨⟨k + 1, hk5, by simp, HN.out, hb.out.trans (hb2.mono hb.out.size)⟩, by simp [intOf]; omega⟩
        · rw [ha] at HE HIT
          have HR := Lib.hid (HIT.out rfl)
          clear ha HNX HIT HSZ
          unfold names5
          go_wp2_with (go_at_call 72; refine (HE.out _ HS.out HFr.out).mono ?_; rintro e w2 ⟨rfl, hb2⟩)
          go_ret
          rw [HR.out]
          exact ⟨congrArg (fun z => Ending.returned (Value.int .i64 z)) (pow_wrap k hk5), hb.out.trans (hb2.mono hb.out.size)⟩
      · have hsb : ((s.size : Int) == (q.size : Int)) = false := by rw [beq_eq_false_iff_ne]; omega
        have HN := Lib.hid (HNX.out (HSZ.out hs))
        clear hs HNX HIT HSZ HE
        unfold names5
        go_wp2
        exact ⟨⟨k + 1, hk5, by simp, HN.out, hb.out⟩, by simp [intOf]; omega⟩
    · obtain rfl : k = 5 := by omega
      have HR := Lib.hid (bitN_none s hh.out)
      go_wp2
      go_ret
      rw [HR.out]
      exact ⟨rfl, hb.out⟩
end Go.Proofs.YtbhpgghbpibalaaGreatDoor.flg
namespace Go.Proofs.YtbhpgghbpibalaaGreatDoor.flg
open Go.ChangeShapes Go.WideShapes Go.ChangeAt Go.RowKit Go.Proofs.YtbhpgghbpibalaaGreatDoor.alk
set_option linter.unusedVariables false
set_option linter.unusedSimpArgs false

theorem _root_.Go.World.rowIs.drewN' {w : World} {b : Nat} {t : TypeId} {n : Nat} {f : Nat → Value} (h : w.rowIs b t n f) (q : Nat) : (w.drewN q).rowIs b t n f := h
theorem below_draws {B : Nat} {w w' : World} (h : Below B w w') (q : Nat) : Below B w (w'.drewN q) := h.trans ⟨rfl, rfl, rfl, Nat.le_refl _, fun _ _ => rfl⟩
/-- The row of what there is, while name i is looked at: ahead of k all of it, from k on what was ahead of i. -/
def hasF (X : Nat → ByteArray) (i k : Nat) : Nat → Value := fun j => .bool (if j < k then (ors X (i + 1)).testBit j else (ors X i).testBit j)
def fnd (X : Nat → ByteArray) (i k : Nat) : Bool := (List.range k).any fun j => alike (X i) (nmS j)
theorem fnd_succ (X : Nat → ByteArray) (i k : Nat) : fnd X i (k + 1) = (fnd X i k || alike (X i) (nmS k)) := by
  unfold fnd
  rw [List.range_succ, List.any_append]
  simp
theorem fnd_five (X : Nat → ByteArray) (i : Nat) : fnd X i 5 = (bitN (X i) != 0) := by
  rcases bitN_cases (X i) with ⟨h0, hn⟩ | ⟨j, hj, hb, ha⟩
  · rw [h0]
    unfold fnd
    rw [List.any_eq_false.2 (fun j hj => by rw [hn j (List.mem_range.1 hj)]; decide)]
    rfl
  · have h1 : fnd X i 5 = true := by
      unfold fnd
      rw [List.any_eq_true]
      exact ⟨j, List.mem_range.2 hj, ha⟩
    have h2 : (2 : Nat) ^ j ≠ 0 := by
      rcases five_cases hj with rfl | rfl | rfl | rfl | rfl <;> decide
    rw [h1, hb]
    simp [h2]
theorem has_off {wr : World} {g : Nat} {t : TypeId} {X : Nat → ByteArray} {i k : Nat} (hk : k < 5) (h : wr.rowIs g t 5 (hasF X i k)) (ha : alike (X i) (nmS k) = false) : wr.rowIs g t 5 (hasF X i (k + 1)) := by
  refine h.congr fun j hj => ?_
  unfold hasF
  by_cases hjk : j = k
  · subst hjk
    rw [if_neg (by omega), if_pos (by omega), ors_bit X i j hk, ha, Bool.or_false]
  · by_cases hl : j < k
    · rw [if_pos hl, if_pos (by omega)]
    · rw [if_neg hl, if_neg (by omega)]
theorem has_on {wr : World} {g : Nat} {t : TypeId} {X : Nat → ByteArray} {i k : Nat} (hk : k < 5) (h : wr.rowIs g t 5 (hasF X i k)) (ha : alike (X i) (nmS k) = true) : (wr.setCell ⟨g, k, none⟩ (.bool true)).rowIs g t 5 (hasF X i (k + 1)) := by
  refine (h.set k _).congr fun j hj => ?_
  unfold hasF
  by_cases hjk : j = k
  · subst hjk
    rw [if_pos rfl, if_pos (by omega), ors_bit X i j hk, ha, Bool.or_true]
  · rw [if_neg hjk]
    by_cases hl : j < k
    · rw [if_pos hl, if_pos (by omega)]
    · rw [if_neg hl, if_neg (by omega)]
theorem has_start {wr : World} {g : Nat} {t : TypeId} {X : Nat → ByteArray} {i : Nat} (h : wr.rowIs g t 5 (fun j => .bool ((ors X i).testBit j))) : wr.rowIs g t 5 (hasF X i 0) :=
  h.congr fun j hj => by unfold hasF; rw [if_neg (Nat.not_lt_zero _)]
theorem has_end {wr : World} {g : Nat} {t : TypeId} {X : Nat → ByteArray} {i : Nat} (h : wr.rowIs g t 5 (hasF X i 5)) : wr.rowIs g t 5 (fun j => .bool ((ors X (i + 1)).testBit j)) :=
  h.congr fun j hj => by unfold hasF; rw [if_pos hj]
theorem row_new (w : World) (t : TypeId) (X : Nat → ByteArray) : (w.alloc (.cells #[.bool false, .bool false, .bool false, .bool false, .bool false] t)).rowIs w.heap.size t 5 (fun j => .bool ((ors X 0).testBit j)) := by
  refine World.rowIs_alloc w #[.bool false, .bool false, .bool false, .bool false, .bool false] t _ fun i hi => ?_
  have hi5 : i < 5 := hi
  rcases five_cases hi5 with rfl | rfl | rfl | rfl | rfl <;> simp [ors]
/-- Whether all of n are names. -/
def fineB (X : Nat → ByteArray) (n : Nat) : Bool := (List.range n).all fun j => bitN (X j) != 0
theorem fine_true {X : Nat → ByteArray} {n : Nat} (h : ∀ j, j < n → (bitN (X j) != 0) = true) : fineB X n = true := by
  unfold fineB
  rw [List.all_eq_true]
  exact fun j hj => h j (List.mem_range.1 hj)
theorem fine_false {X : Nat → ByteArray} {n : Nat} (i : Nat) (hi : i < n) (h : (bitN (X i) != 0) = false) : fineB X n = false := by
  unfold fineB
  rw [List.all_eq_false]
  exact ⟨i, List.mem_range.2 hi, by simp [h]⟩
/-- What is answered. -/
def parN (X : Nat → ByteArray) (n : Nat) : Nat := if fineB X n then ors X n else 0

end Go.Proofs.YtbhpgghbpibalaaGreatDoor.flg
namespace Go.Proofs.YtbhpgghbpibalaaGreatDoor.flg
open Go.ChangeShapes Go.WideShapes Go.ChangeAt Go.RowKit Go.Proofs.YtbhpgghbpibalaaGreatDoor.alk
set_option linter.unusedVariables false
set_option linter.unusedSimpArgs false

/-- A slice of n texts, each at most Z bytes. -/
def Strs (w : World) (v : Value) (n Z : Nat) (X : Nat → ByteArray) : Prop :=
  ∃ a cap, v = .slice a n cap ∧ (0 < n → ∃ b o, a = some ⟨b, o, none⟩ ∧ b < w.heap.size ∧ ∀ j, j < n → w.cell? ⟨b, o + j, none⟩ = some (.string (X j)) ∧ (X j).size ≤ Z)
theorem Strs.below {w w' : World} {v : Value} {n Z : Nat} {X : Nat → ByteArray} (h : Strs w v n Z X) (hb : Below w.heap.size w w') : Strs w' v n Z X := by
  obtain ⟨a, cap, hv, h⟩ := h
  refine ⟨a, cap, hv, fun hn => ?_⟩
  obtain ⟨b, o, ha, hlt, hc⟩ := h hn
  exact ⟨b, o, ha, Nat.lt_of_lt_of_le hlt hb.size, fun j hj => ⟨(hb.cell (p := ⟨b, o + j, none⟩) hlt).trans (hc j hj).1, (hc j hj).2⟩⟩
/-- A slice of texts that came in. -/
theorem strs_in {H : Type} {enc : TypeId × Value → H} {W : World} {a0 : Option Addr} {len0 cap0 : Nat} {d0 : DataW H} {p0 : List MemPlace} (h0 : DataW.Trod enc Tryz.prog W 0 (fun _ => true) true 90 (.slice a0 len0 cap0) d0 p0) :
    ∃ X, Strs W (.slice a0 len0 cap0) len0 maxLen X ∧ len0 ≤ maxLen := by
  obtain ⟨fuel, hf⟩ := h0
  rcases open_strings Tryz.underlying90 Tryz.underlying9 (by kernel_rfl) hf with ⟨hcs, _⟩ | ⟨x, l, c, zs, hcs, _, hl, hm, hz, _, hcell, hwz⟩
  · simp [Value.cells] at hcs
    obtain ⟨rfl, rfl, rfl⟩ := hcs
    exact ⟨fun _ => ByteArray.empty, ⟨none, 0, rfl, fun h => absurd h (by omega)⟩, Nat.zero_le _⟩
  · simp [Value.cells] at hcs
    obtain ⟨rfl, rfl, rfl⟩ := hcs
    have hz' : zs.length = cap0 := by simpa using hz
    refine ⟨fun j => zs.getD j ByteArray.empty, ⟨some x, cap0, rfl, fun hn => ?_⟩, by omega⟩
    obtain ⟨b, o, spot⟩ := x
    have h0 := hcell 0 (by omega)
    have hspot : spot = none := by simpa [Addr.add] using World.cell?_spot h0
    subst hspot
    have ha : ∀ i, (Addr.mk b o none).add i = ⟨b, o + i, none⟩ := fun i => by unfold Addr.add; split <;> simp_all
    refine ⟨b, o, rfl, ?_, fun j hj => ⟨?_, ?_⟩⟩
    · have := block_lt_of_cell h0
      rw [ha] at this
      exact this
    · rw [← ha, hcell j (by omega)]
    · have hj' : j < zs.length := by omega
      have e : zs.getD j ByteArray.empty = zs[j] := by simp [List.getD, hj']
      show (zs.getD j ByteArray.empty).size ≤ maxLen
      rw [e]
      exact hwz _ (List.getElem_mem hj')

theorem i64_or_nat (a b : Nat) (ha : a < 32) (hb : b < 32) : bits .or .i64 (a : Int) (b : Int) = ((a ||| b : Nat) : Int) := by
  have e : bits .or .i64 (a : Int) (b : Int) = IntKind.i64.wrap ((BitVec.ofInt 64 (a : Int) ||| BitVec.ofInt 64 (b : Int)).toNat : Nat) := rfl
  have h := Nat.or_lt_two_pow (n := 5) ha hb
  rw [e, BitVec.toNat_or, BitVec.toNat_ofInt, BitVec.toNat_ofInt, IntKind.wrap_i64]
  have e1 : ((a : Int) % ((2 ^ 64 : Nat) : Int)).toNat = a := by omega
  have e2 : ((b : Int) % ((2 ^ 64 : Nat) : Int)).toNat = b := by omega
  rw [e1, e2]
  omega

theorem parse_none (w : World) (a : Option Addr) (cap : Nat) :
    Calls Tryz.prog 58 #[.slice a 0 cap] w fun e w' => e = .returned (.tuple #[.int .i64 0, .bool true]) ∧ w' = w := by
  go_enter Tryz.func58, Tryz.ntmps58
  go_wp2
  go_loop [4, 10] (fun f x => f = .int .i64 0 ∧ x = .int .i64 0) (fun _ _ => 0)
  case atStart => exact ⟨rfl, rfl⟩
  case round =>
    obtain ⟨rfl, rfl⟩ := hrel
    go_wp2
    go_ret2
    exact ⟨rfl, rfl⟩
set_option maxHeartbeats 3200000 in
theorem parse_some (w : World) (b o n cap Z : Nat) (X : Nat → ByteArray) (hn : n ≤ 1000) (hc : ∀ j, j < n → w.cell? ⟨b, o + j, none⟩ = some (.string (X j)) ∧ (X j).size ≤ Z) (hb : b < w.heap.size) (hT : Tab w) :
    Calls Tryz.prog 58 #[.slice (some ⟨b, o, none⟩) n cap] w fun e w' => e = .returned (.tuple #[.int .i64 (parN X n : Nat), .bool (fineB X n)]) ∧ Below w.heap.size w w' := by
  have HCE := Lib.hid hc
  have HT := Lib.hid hT
  have HBG := Lib.hid hb
  clear hc hb hT
  go_enter Tryz.func58, Tryz.ntmps58
  go_wp2
  go_loopw [4, 10] (fun f x wr => ∃ i : Nat, i ≤ n ∧ x = .int .i64 i ∧ f = .int .i64 (ors X i : Nat) ∧ Hid (∀ j, j < i → (bitN (X j) != 0) = true) ∧ Hid (Below w.heap.size w wr)) (fun _ x _ => n - (intOf x).toNat)
  case atStart => exact ⟨0, Nat.zero_le _, rfl, rfl, fun j h => absurd h (Nat.not_lt_zero _), Below.refl _ _⟩
  case round =>
    obtain ⟨i, hi, rfl, rfl, hh, hbl⟩ := hrel
    by_cases hin : i < n
    · have HCR := Lib.hid (show wr.cell? ⟨b, o + i, none⟩ = some (.string (X i)) from (hbl.out.cell (p := ⟨b, o + i, none⟩) HBG.out).trans (HCE.out i hin).1)
      have HBI := Lib.hid (bitOf_any wr (X i) (HT.out.below hbl.out))
      have hor := i64_or_nat _ _ (ors_lt X i) (bitN_lt (X i))
      have hs : ors X (i + 1) = ors X i ||| bitN (X i) := rfl
      have hl := ors_lt X i
      have hl2 := bitN_lt (X i)
      have HNX := Lib.hid (show (bitN (X i) != 0) = true → ∀ j, j < i + 1 → (bitN (X j) != 0) = true by
        intro h j hj
        rcases Nat.lt_succ_iff_lt_or_eq.1 hj with h' | rfl
        · exact hh.out j h'
        · exact h)
      have HNO := Lib.hid (fun h => fine_false (X := X) i hin h)
      have hcr := HCR.out
      have k1 : (0 : Int) ≤ (i : Int) := by omega
      have k2 : (i : Int) < (n : Int) := by omega
      obtain ⟨q, hq⟩ : ∃ q, bitN (X i) = q := ⟨_, rfl⟩
      obtain ⟨m, hm⟩ : ∃ m, ors X i = m := ⟨_, rfl⟩
      rw [hq] at HBI hor hs hl2 HNX HNO
      rw [hm] at hor hs hl ⊢
      have HS := Lib.hid hs
      have HOR := Lib.hid hor
      clear hs hm hq hor
      by_cases hz : q = 0
      · have HP := Lib.hid (HNO.out (by rw [hz]; rfl))
        subst hz
        clear HNX HNO
        go_wp2_with (go_at_call 77; refine HBI.out.mono ?_; rintro e w2 ⟨rfl, hb2⟩)
        go_ret2
        unfold parN
        rw [HP.out]
        exact ⟨rfl, hbl.out.trans (hb2.mono hbl.out.size)⟩
      · have hqb : ((q : Int) == 0) = false := by rw [beq_eq_false_iff_ne]; omega
        have HN := Lib.hid (HNX.out (by simpa using hz))
        clear hz HNX HNO
        go_wp2_with (go_at_call 77; refine HBI.out.mono ?_; rintro e w2 ⟨rfl, hb2⟩)
        exact ⟨⟨i + 1, hin, by simp, by rw [HS.out, HOR.out], HN.out, hbl.out.trans (hb2.mono hbl.out.size)⟩, by simp [intOf]; omega⟩
    · obtain rfl : i = n := by omega
      have HP := Lib.hid (fine_true hh.out)
      have HPR := Lib.hid (show parN X i = ors X i by unfold parN; rw [HP.out]; rfl)
      obtain ⟨m, hm⟩ : ∃ m, ors X i = m := ⟨_, rfl⟩
      rw [hm] at HPR ⊢
      clear hm
      go_wp2
      go_ret2
      rw [HP.out, HPR.out]
      exact ⟨rfl, hbl.out⟩
theorem parse_any (w : World) (v : Value) (n Z : Nat) (X : Nat → ByteArray) (hn : n ≤ 1000) (h : Strs w v n Z X) (hT : Tab w) :
    Calls Tryz.prog 58 #[v] w fun e w' => e = .returned (.tuple #[.int .i64 (parN X n : Nat), .bool (fineB X n)]) ∧ Below w.heap.size w w' := by
  obtain ⟨a, cap, rfl, h⟩ := h
  by_cases h0 : n = 0
  · subst h0
    refine (parse_none w a cap).mono ?_
    rintro e w' ⟨rfl, rfl⟩
    exact ⟨rfl, Below.refl _ _⟩
  · obtain ⟨b, o, rfl, hlt, hc⟩ := h (by omega)
    exact parse_some w b o n cap Z X hn hc hlt hT
end Go.Proofs.YtbhpgghbpibalaaGreatDoor.flg
