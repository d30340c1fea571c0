/- Texts in any letters: plain mathematics. -/
import Derived.Lib.Fold
import Derived.Lib.Strings
import Derived.Test.YtcepcamedmiinaaGreatDoorRows
import Derived.WalkKit
import Derived.ProofKit
import Derived.OpenShut
import Derived.ShutString
import Derived.ChangeOld
import Derived.Below
import Derived.Outline
import Derived.WalkSpells
import Derived.Lib.Hide
import Derived.Deep.QuietTactic
import Derived.BigQuiet
import Derived.Deep.OwnRows
import Derived.Deep.WholeRow
import Derived.StillTailTactics
import Derived.Deep.RegionLaw
import Derived.Lib.Join
import Derived.Laws.BitsLemmas
namespace Go.Proofs.YtcepcamedmiinaaGreatDoor.alk
open Go.Lib
set_option linter.unusedVariables false
set_option linter.unusedSimpArgs false

/-- Byte i of s. -/
def byt (s : ByteArray) (i : Nat) : Nat := (s.data[i]!).toNat
theorem byt_at (s : ByteArray) (i : Nat) (h : i < s.size) : (s[i]'h).toNat = byt s i := by
  unfold byt
  rw [getElem!_pos s.data i (by simpa using h)]; rfl
theorem byt_lt (s : ByteArray) (i : Nat) : byt s i < 256 := UInt8.toNat_lt _
theorem byt_of (l : List UInt8) (i : Nat) : byt ⟨l.toArray⟩ i = (l.getD i 0).toNat := by
  unfold byt
  by_cases h : i < l.length
  · rw [getElem!_pos _ i (by simpa using h), List.getD, List.getElem?_eq_getElem h]
    simp
  · rw [getElem!_neg _ i (by simpa using h), List.getD, List.getElem?_eq_none (by omega)]
    rfl
theorem byt_list (s : ByteArray) (i : Nat) (h : i < s.data.toList.length) : (s.data.toList[i]).toNat = byt s i := by
  unfold byt
  rw [getElem!_pos s.data i (by simpa using h)]
  simp

def low (c : Nat) : Nat := if 65 ≤ c ∧ c ≤ 90 then c + 32 else c
def alike (s t : ByteArray) : Bool := decide (s.size = t.size) && (List.range s.size).all fun i => low (byt s i) == low (byt t i)
theorem alike_false (s t : ByteArray) (i : Nat) (h : i < s.size) (hne : (low (byt s i) == low (byt t i)) = false) : alike s t = false := by
  unfold alike
  have : ((List.range s.size).all fun i => low (byt s i) == low (byt t i)) = false := by
    rw [List.all_eq_false]
    exact ⟨i, List.mem_range.2 h, by simp [hne]⟩
  rw [this, Bool.and_false]
theorem alike_true (s t : ByteArray) (h : s.size = t.size) (he : ∀ i, i < s.size → (low (byt s i) == low (byt t i)) = true) : alike s t = true := by
  unfold alike
  simp only [h, decide_true, Bool.true_and, List.all_eq_true, List.mem_range]
  intro i hi
  exact he i (by omega)
theorem alike_size (s t : ByteArray) (h : s.size ≠ t.size) : alike s t = false := by
  unfold alike
  simp [h]
theorem alike_iff (s t : ByteArray) : alike s t = true ↔ s.size = t.size ∧ ∀ i, i < s.size → low (byt s i) = low (byt t i) := by
  unfold alike
  simp only [Bool.and_eq_true, decide_eq_true_eq, List.all_eq_true, List.mem_range, beq_iff_eq]
/-- Two that are like one are like each other. -/
theorem alike_both {s t u : ByteArray} (h : alike s t = true) (k : alike s u = true) : alike t u = true := by
  rw [alike_iff] at *
  exact ⟨h.1.symm.trans k.1, fun i hi => (h.2 i (by omega)).symm.trans (k.2 i (by omega))⟩

theorem fold_low (x y : UInt8) : foldEq x y = (low x.toNat == low y.toNat) := by
  have hx := UInt8.toNat_lt x
  have hy := UInt8.toNat_lt y
  rw [Bool.eq_iff_iff]
  unfold foldEq low
  simp only [decide_eq_true_eq, beq_iff_eq]
  split <;> split <;> omega
theorem equalFold_map : ∀ (s t : List UInt8), equalFold s t = (s.map (fun c => low c.toNat) == t.map (fun c => low c.toNat))
  | [], [] => rfl
  | [], _ :: _ => rfl
  | _ :: _, [] => rfl
  | x :: s, y :: t => by
    rw [equalFold, equalFold_map s t, fold_low]
    simp
theorem byt_extract (s : ByteArray) (a b i : Nat) (h : a + i < b) (hb : b ≤ s.size) : byt (s.extract a b) i = byt s (a + i) := by
  have h1 : i < (s.extract a b).size := by rw [ByteArray.size_extract]; omega
  rw [← byt_at _ i h1, ← byt_at s (a + i) (by omega), ByteArray.getElem_extract]
theorem alike_fold (s t : ByteArray) (h : s.size = t.size) : alike s t = equalFold s.data.toList t.data.toList := by
  rw [equalFold_map, Bool.eq_iff_iff, alike_iff, beq_iff_eq]
  have hs : s.data.toList.length = s.size := (Lib.size_eq s).symm
  have ht : t.data.toList.length = t.size := (Lib.size_eq t).symm
  constructor
  · rintro ⟨-, hh⟩
    apply List.ext_getElem
    · simp only [List.length_map]; omega
    · intro i h1 h2
      simp only [List.length_map] at h1 h2
      rw [List.getElem_map, List.getElem_map, byt_list s i h1, byt_list t i h2]
      exact hh i (by omega)
  · intro hh
    refine ⟨h, fun i hi => ?_⟩
    have h1 : i < s.data.toList.length := by omega
    have h2 : i < t.data.toList.length := by omega
    have e := congrArg (fun l => l[i]?) hh
    simp only [List.getElem?_map, List.getElem?_eq_getElem h1, List.getElem?_eq_getElem h2, Option.map_some, Option.some.injEq] at e
    rw [byt_list s i h1, byt_list t i h2] at e
    exact e
theorem low_high (x y : Nat) (hx : 128 ≤ x) (hy : y < 128) : low y ≠ low x := by
  unfold low
  split <;> split <;> omega
end Go.Proofs.YtcepcamedmiinaaGreatDoor.alk
namespace Go.Proofs.YtcepcamedmiinaaGreatDoor.alk
open Go.ChangeShapes Go.WideShapes Go.ChangeAt Go.RowKit
set_option linter.unusedVariables false
set_option linter.unusedSimpArgs false

theorem small_any (w : World) (c : Nat) (hc : c < 256) :
    Calls Tryz.prog 17 #[.int .u8 (c : Nat)] w fun e w' => e = .returned (.int .u8 (low c : Nat)) ∧ w' = w := by
  unfold low
  by_cases h : 65 ≤ c ∧ c ≤ 90
  · rw [if_pos h]
    go_enter Tryz.func17, Tryz.ntmps17
    go_wp2
    go_ret
    exact ⟨by congr 1, rfl⟩
  · rw [if_neg h]
    go_enter Tryz.func17, Tryz.ntmps17
    go_wp2
    all_goals first | (exfalso; omega) | (go_ret; exact ⟨rfl, rfl⟩)

/-- The world has drawn, and nothing else. -/
def Drew (w w' : World) : Prop := ∃ n, w' = w.drewN n
theorem Drew.refl (w : World) : Drew w w := ⟨0, rfl⟩
theorem Drew.drewN {w w' : World} (h : Drew w w') (q : Nat) : Drew w (w'.drewN q) := by
  obtain ⟨n, rfl⟩ := h
  exact ⟨n + q, by rw [World.drewN_drewN]⟩
theorem Drew.below {w w' : World} (h : Drew w w') (B : Nat) : Below B w w' := by
  obtain ⟨n, rfl⟩ := h
  exact ⟨rfl, rfl, rfl, Nat.le_refl _, fun _ _ => rfl⟩

set_option maxHeartbeats 1600000 in
theorem alike_any (w : World) (s t : ByteArray) (hs : s.size ≤ 100000) (ht : t.size ≤ 100000) :
    Calls Tryz.prog 18 #[.string s, .string t] w fun e w' => e = .returned (.bool (alike s t)) ∧ Drew w w' := by
  by_cases hst : s.size = t.size
  · have HST := Lib.hid hst
    have hne : ((s.size : Int) != (t.size : Int)) = false := by simp [hst]
    clear hst
    go_enter Tryz.func18, Tryz.ntmps18
    go_wp2
    go_loopw [13] (fun i wr => ∃ k : Nat, k ≤ s.size ∧ i = .int .i64 k ∧ Hid (∀ j, j < k → (low (byt s j) == low (byt t j)) = true) ∧ Hid (Drew w wr)) (fun i _ => s.size - (intOf i).toNat)
    case atStart => exact ⟨0, Nat.zero_le _, rfl, fun j h => absurd h (Nat.not_lt_zero _), Drew.refl _⟩
    case round =>
      obtain ⟨k, hk, rfl, hh, hd⟩ := hrel
      by_cases hkl : k < s.size
      · have hkt : k < t.size := by have := HST.out; omega
        go_wp2
        have k1 : (0 : Int) ≤ (k : Int) := by omega
        have k2 : (k : Int) < (s.size : Int) := by omega
        have k3 : (k : Int) < (t.size : Int) := by omega
        go_quiet ((go_at_call 17; exact Calls.quiet_of_same (small_any _ _ (UInt8.toNat_lt _))))
        simp only [byt_at]
        cases hb : (low (byt s k) == low (byt t k))
        · have hb' : (((low (byt s k) : Nat) : Int) != ((low (byt t k) : Nat) : Int)) = true := by
            rw [bne_iff_ne]
            simp at hb
            omega
          go_wp2
          go_ret
          rw [alike_false s t k hkl hb]
          exact ⟨rfl, hd.out.drewN _⟩
        · have hb' : (((low (byt s k) : Nat) : Int) != ((low (byt t k) : Nat) : Int)) = false := by
            simp at hb
            simp [hb]
          have HB := Lib.hid hb
          clear hb
          go_wp2
          refine ⟨⟨k + 1, hkl, by simp, fun j hj => ?_, hd.out.drewN _⟩, by simp [intOf]; omega⟩
          rcases Nat.lt_succ_iff_lt_or_eq.1 hj with h' | rfl
          · exact hh.out j h'
          · exact HB.out
      · go_wp2
        go_ret
        rw [alike_true s t HST.out fun j hj => hh.out j (by omega)]
        exact ⟨rfl, hd.out⟩
  · rw [alike_size s t hst]
    go_enter Tryz.func18, Tryz.ntmps18
    go_wp2
    all_goals first | (exfalso; omega) | (go_ret; exact ⟨rfl, Drew.refl _⟩)

end Go.Proofs.YtcepcamedmiinaaGreatDoor.alk
namespace Go.Proofs.YtcepcamedmiinaaGreatDoor.flg
open Go.Lib Go.Proofs.YtcepcamedmiinaaGreatDoor.alk
set_option linter.unusedVariables false
set_option linter.unusedSimpArgs false

/-- The five lowest bits of a number. -/
def five (x : Int) : Nat := (x % 32).toNat
theorem five_lt (x : Int) : five x < 32 := by unfold five; omega
def bitB (x : Int) (i : Nat) : Bool := decide (x / 2 ^ i % 2 = 1)
theorem bitB_five (x : Int) (i : Nat) (h : i < 5) : bitB x i = (five x).testBit i := by
  have key : (five x).testBit i = decide (five x / 2 ^ i % 2 = 1) := by rw [Nat.testBit_eq_decide_div_mod_eq]
  rw [key, Bool.eq_iff_iff]
  unfold bitB five
  simp only [decide_eq_true_eq]
  match i, h with
  | 0, _ => omega
  | 1, _ => omega
  | 2, _ => omega
  | 3, _ => omega
  | 4, _ => omega

theorem ofInt_five (x : Int) : (BitVec.ofInt 64 x).toNat % 32 = five x := by
  rw [BitVec.toNat_ofInt]
  unfold five
  omega
theorem wrap_mod (n : Nat) : IntKind.i64.wrap (n : Int) % 32 = (n : Int) % 32 := by
  rw [IntKind.wrap_i64]
  omega
theorem i64_and31 (n : Int) : bits .and .i64 n 31 = five n := by
  have h31 : (BitVec.ofInt 64 31).toNat = 2 ^ 5 - 1 := by decide
  have key : (BitVec.ofInt 64 n &&& BitVec.ofInt 64 31).toNat = (BitVec.ofInt 64 n).toNat % 2 ^ 5 := by
    rw [BitVec.toNat_and, h31, Nat.and_two_pow_sub_one_eq_mod]
  show IntKind.i64.wrap ((BitVec.ofInt 64 n &&& BitVec.ofInt 64 31).toNat : Nat) = _
  rw [key, show 2 ^ 5 = 32 from rfl, ofInt_five, IntKind.wrap_i64]
  have := five_lt n
  omega
theorem i64_and1 (n : Int) : bits .and .i64 n 1 = n % 2 := by
  have h1 : (BitVec.ofInt 64 1).toNat = 2 ^ 1 - 1 := by decide
  have key : (BitVec.ofInt 64 n &&& BitVec.ofInt 64 1).toNat = (n % ((2 ^ 64 : Nat) : Int)).toNat % 2 ^ 1 := by
    rw [BitVec.toNat_and, BitVec.toNat_ofInt, h1, Nat.and_two_pow_sub_one_eq_mod]
  show IntKind.i64.wrap ((BitVec.ofInt 64 n &&& BitVec.ofInt 64 1).toNat : Nat) = n % 2
  rw [key, IntKind.wrap_i64]
  omega
theorem five_of_nat {x : Int} {n : Nat} (h : x % 32 = (n : Int) % 32) : five x = n % 32 := by unfold five; omega
theorem five_or (x y : Int) : five (bits .or .i64 x y) = five x ||| five y := by
  have e : bits .or .i64 x y = IntKind.i64.wrap ((BitVec.ofInt 64 x ||| BitVec.ofInt 64 y).toNat : Nat) := rfl
  rw [e, five_of_nat (wrap_mod _), BitVec.toNat_or, show 32 = 2 ^ 5 from rfl, Nat.or_mod_two_pow]
  congr 1 <;> exact ofInt_five _
theorem five_andNot (x y : Int) : five (bits .andNot .i64 x y) = five x &&& (31 ^^^ five y) := by
  have e : bits .andNot .i64 x y = IntKind.i64.wrap ((BitVec.ofInt 64 x &&& ~~~ BitVec.ofInt 64 y).toNat : Nat) := rfl
  rw [e, five_of_nat (wrap_mod _), BitVec.toNat_and, show 32 = 2 ^ 5 from rfl, Nat.and_mod_two_pow, show 2 ^ 5 = 32 from rfl, ofInt_five]
  congr 1
  rw [← ofInt_five y]
  obtain ⟨v, hv⟩ : ∃ v, BitVec.ofInt 64 y = v := ⟨_, rfl⟩
  rw [hv, BitVec.toNat_not]
  have h := v.isLt
  have h32 : v.toNat % 32 < 32 := Nat.mod_lt _ (by decide)
  have h1 : (2 ^ 64 - 1 - v.toNat) % 32 = 31 - v.toNat % 32 := by omega
  rw [h1]
  generalize v.toNat % 32 = k at h32
  revert k
  decide

/-- What the document makes of two flags, bit by bit. -/
def goes (how : Int) (a c : Bool) : Bool := decide (how = 0) && c || decide (how = 1) && (a || c) || decide (how = 2) && a && !c || (decide (how < 0) || decide (2 < how)) && a
def chg (x y how : Int) : Nat → Nat
  | 0 => 0
  | k + 1 => chg x y how k + (if goes how (bitB x k) (bitB y k) then 2 ^ k else 0)
theorem chg_lt (x y how : Int) : ∀ k, chg x y how k < 2 ^ k
  | 0 => Nat.zero_lt_one
  | k + 1 => by
    have := chg_lt x y how k
    unfold chg
    rw [Nat.pow_succ]
    split <;> omega
/-- The same of the five lowest bits. -/
def chgN (m n : Nat) (h : Nat) : Nat := if h = 0 then n else if h = 1 then m ||| n else if h = 2 then m &&& (31 ^^^ n) else m
def kind (how : Int) : Nat := if how = 0 then 0 else if how = 1 then 1 else if how = 2 then 2 else 3
def goesN (h : Nat) (a c : Bool) : Bool := if h = 0 then c else if h = 1 then a || c else if h = 2 then a && !c else a
theorem goes_kind (how : Int) (a c : Bool) : goes how a c = goesN (kind how) a c := by
  unfold goes goesN kind
  by_cases h0 : how = 0
  · subst h0; cases a <;> cases c <;> rfl
  · by_cases h1 : how = 1
    · subst h1; cases a <;> cases c <;> rfl
    · by_cases h2 : how = 2
      · subst h2; cases a <;> cases c <;> rfl
      · have h3 : (decide (how < 0) || decide (2 < how)) = true := by
          simp only [Bool.or_eq_true, decide_eq_true_eq]; omega
        rw [h3]
        simp [h0, h1, h2]
def sumN (m n h : Nat) : Nat := (if goesN h (m.testBit 0) (n.testBit 0) then 1 else 0) + (if goesN h (m.testBit 1) (n.testBit 1) then 2 else 0) + (if goesN h (m.testBit 2) (n.testBit 2) then 4 else 0) + (if goesN h (m.testBit 3) (n.testBit 3) then 8 else 0) + (if goesN h (m.testBit 4) (n.testBit 4) then 16 else 0)
theorem sum_all : ∀ h, h < 4 → ∀ m, m < 32 → ∀ n, n < 32 → sumN m n h = chgN m n h := by decide +kernel
theorem kind_lt (how : Int) : kind how < 4 := by
  unfold kind
  repeat' split
  all_goals omega
theorem chg_five (x y how : Int) : chg x y how 5 = chgN (five x) (five y) (kind how) := by
  rw [← sum_all _ (kind_lt how) _ (five_lt x) _ (five_lt y)]
  simp only [chg, goes_kind, bitB_five x 0 (by decide), bitB_five x 1 (by decide), bitB_five x 2 (by decide), bitB_five x 3 (by decide), bitB_five x 4 (by decide), bitB_five y 0 (by decide), bitB_five y 1 (by decide), bitB_five y 2 (by decide), bitB_five y 3 (by decide), bitB_five y 4 (by decide)]
  unfold sumN
  simp only [Nat.zero_add, Nat.reducePow]
theorem twice_all : ∀ h, h < 4 → ∀ m, m < 32 → ∀ n, n < 32 → chgN (chgN m n h) n h = chgN m n h := by decide +kernel
theorem chgN_lt : ∀ h, h < 4 → ∀ m, m < 32 → ∀ n, n < 32 → chgN m n h < 32 := by decide +kernel

/-! ### Names -/
def nm (k : Nat) : List UInt8 :=
  if k = 0 then [92, 83, 101, 101, 110] else if k = 1 then [92, 65, 110, 115, 119, 101, 114, 101, 100] else if k = 2 then [92, 70, 108, 97, 103, 103, 101, 100] else if k = 3 then [92, 68, 101, 108, 101, 116, 101, 100] else [92, 68, 114, 97, 102, 116]
def nmS (k : Nat) : ByteArray := ⟨(nm k).toArray⟩
theorem nmS_size (k : Nat) : (nmS k).size = (nm k).length := rfl
theorem nm_len (k : Nat) (h : k < 5) : 5 ≤ (nm k).length ∧ (nm k).length ≤ 9 := by
  revert k; decide
/-- The names of the first k bits of m. -/
def names (m : Nat) : Nat → List ByteArray
  | 0 => []
  | k + 1 => names m k ++ (if m.testBit k then [nmS k] else [])
theorem names_len (m : Nat) : ∀ k, (names m k).length ≤ k
  | 0 => Nat.le_refl _
  | k + 1 => by
    have := names_len m k
    unfold names
    rw [List.length_append]
    split <;> simp <;> omega
def lists (m : Nat) : List UInt8 := join ((names m 5).map (·.data.toList)) [32]
def printL (m : Nat) : List UInt8 := 40 :: lists m ++ [41]
/-- The same as the document builds it. -/
def accL (m : Nat) : Nat → List UInt8
  | 0 => []
  | k + 1 => if m.testBit k then (if accL m k = [] then [] else accL m k ++ [32]) ++ nm k else accL m k
theorem acc_all : ∀ m, m < 32 → accL m 5 = lists m := by decide +kernel
theorem acc_len (m : Nat) : ∀ k, k ≤ 5 → (accL m k).length ≤ 10 * k
  | 0, _ => Nat.le_refl _
  | k + 1, h => by
    have := acc_len m k (by omega)
    have := nm_len k (by omega)
    unfold accL
    split
    · split <;> simp <;> omega
    · omega
theorem lists_len (m : Nat) (h : m < 32) : (lists m).length ≤ 50 := by
  rw [← acc_all m h]; exact acc_len m 5 (Nat.le_refl _)

/-! ### Flags of names -/
def bitN (s : ByteArray) : Nat := if alike s (nmS 0) then 1 else if alike s (nmS 1) then 2 else if alike s (nmS 2) then 4 else if alike s (nmS 3) then 8 else if alike s (nmS 4) then 16 else 0
theorem five_cases {k : Nat} (h : k < 5) : k = 0 ∨ k = 1 ∨ k = 2 ∨ k = 3 ∨ k = 4 := by omega
theorem bitN_hit (s : ByteArray) (k : Nat) (h : k < 5) (hn : ∀ j, j < k → alike s (nmS j) = false) (hk : alike s (nmS k) = true) : bitN s = 2 ^ k := by
  unfold bitN
  rcases five_cases h with rfl | rfl | rfl | rfl | rfl
  · simp [hk]
  · simp [hk, hn 0 (by omega)]
  · simp [hk, hn 0 (by omega), hn 1 (by omega)]
  · simp [hk, hn 0 (by omega), hn 1 (by omega), hn 2 (by omega)]
  · simp [hk, hn 0 (by omega), hn 1 (by omega), hn 2 (by omega), hn 3 (by omega)]
theorem bitN_none (s : ByteArray) (hn : ∀ j, j < 5 → alike s (nmS j) = false) : bitN s = 0 := by
  unfold bitN
  simp [hn 0 (by omega), hn 1 (by omega), hn 2 (by omega), hn 3 (by omega), hn 4 (by omega)]
theorem bitN_lt (s : ByteArray) : bitN s < 32 := by
  unfold bitN
  repeat' split
  all_goals omega
theorem names_apart : ∀ j, j < 5 → ∀ k, k < 5 → j ≠ k → alike (nmS j) (nmS k) = false := by decide +kernel
theorem names_like : ∀ k, k < 5 → alike (nmS k) (nmS k) = true := by decide +kernel
theorem bitN_only (s : ByteArray) (k : Nat) (h : k < 5) (hk : alike s (nmS k) = true) : bitN s = 2 ^ k := by
  refine bitN_hit s k h (fun j hj => ?_) hk
  cases ha : alike s (nmS j)
  · rfl
  · have := alike_both ha hk
    rw [names_apart j (by omega) k h (by omega)] at this
    cases this
theorem bitN_cases (s : ByteArray) : (bitN s = 0 ∧ ∀ k, k < 5 → alike s (nmS k) = false) ∨ ∃ k, k < 5 ∧ bitN s = 2 ^ k ∧ alike s (nmS k) = true := by
  by_cases h : ∃ k, k < 5 ∧ alike s (nmS k) = true
  · obtain ⟨k, hk, ha⟩ := h
    exact .inr ⟨k, hk, bitN_only s k hk ha, ha⟩
  · have hn : ∀ k, k < 5 → alike s (nmS k) = false := fun k hk => by
      cases ha : alike s (nmS k)
      · rfl
      · exact absurd ⟨k, hk, ha⟩ h
    exact .inl ⟨bitN_none s hn, hn⟩
theorem pow_bits : ∀ j, j < 5 → ∀ k, k < 5 → (2 ^ j).testBit k = decide (j = k) := by decide +kernel
theorem bitN_bit (s : ByteArray) (k : Nat) (h : k < 5) : (bitN s).testBit k = alike s (nmS k) := by
  rcases bitN_cases s with ⟨h0, hn⟩ | ⟨j, hj, hb, ha⟩
  · rw [h0, hn k h, Nat.zero_testBit]
  · rw [hb, pow_bits j hj k h]
    by_cases hjk : j = k
    · subst hjk; rw [ha]; simp
    · rw [decide_eq_false hjk]
      cases hk : alike s (nmS k)
      · rfl
      · have := alike_both ha hk
        rw [names_apart j hj k h hjk] at this
        cases this
def ors (X : Nat → ByteArray) : Nat → Nat
  | 0 => 0
  | k + 1 => ors X k ||| bitN (X k)
theorem ors_lt (X : Nat → ByteArray) : ∀ k, ors X k < 32
  | 0 => (by decide : 0 < 32)
  | k + 1 => Nat.or_lt_two_pow (n := 5) (ors_lt X k) (bitN_lt _)
theorem ors_bit (X : Nat → ByteArray) (n k : Nat) (h : k < 5) : (ors X (n + 1)).testBit k = ((ors X n).testBit k || alike (X n) (nmS k)) := by
  show (ors X n ||| bitN (X n)).testBit k = _
  rw [Nat.testBit_or, bitN_bit _ k h]
/-- A number out of five bits. -/
def sumB (m : Nat) : Nat → Nat
  | 0 => 0
  | k + 1 => sumB m k + (if m.testBit k then 2 ^ k else 0)
theorem sumB_five : ∀ m, m < 32 → sumB m 5 = m := by decide +kernel
theorem sumB_lt (m : Nat) : ∀ k, sumB m k < 2 ^ k
  | 0 => Nat.zero_lt_one
  | k + 1 => by
    have := sumB_lt m k
    unfold sumB
    rw [Nat.pow_succ]
    split <;> omega
/-- What is made of n names. -/
def fine (X : Nat → ByteArray) (n : Nat) : Prop := ∀ j, j < n → bitN (X j) ≠ 0
theorem names_ors : ∀ m, m < 32 → ors (fun j => (names m 5).getD j ByteArray.empty) (names m 5).length = m ∧ ∀ j, j < (names m 5).length → bitN ((names m 5).getD j ByteArray.empty) ≠ 0 := by decide +kernel
end Go.Proofs.YtcepcamedmiinaaGreatDoor.flg
namespace Go.Proofs.YtcepcamedmiinaaGreatDoor.flg
open Go.ChangeShapes Go.WideShapes Go.ChangeAt Go.RowKit Go.Proofs.YtcepcamedmiinaaGreatDoor.alk
set_option linter.unusedVariables false
set_option linter.unusedSimpArgs false

theorem bit_and (x : Int) (k : Nat) {b : Bool} (h : bitB x k = b) : bits .and .i64 (x / 2 ^ k) 1 = if b then 1 else 0 := by
  subst h
  rw [i64_and1]
  unfold bitB
  by_cases h : x / 2 ^ k % 2 = 1
  · rw [decide_eq_true h, h]; rfl
  · rw [decide_eq_false h]
    have h1 := Int.emod_nonneg (x / 2 ^ k) (show (2 : Int) ≠ 0 by decide)
    have h2 := Int.emod_lt_of_pos (x / 2 ^ k) (show (0 : Int) < 2 by decide)
    simp only [Bool.false_eq_true, if_false]
    omega
end Go.Proofs.YtcepcamedmiinaaGreatDoor.flg
