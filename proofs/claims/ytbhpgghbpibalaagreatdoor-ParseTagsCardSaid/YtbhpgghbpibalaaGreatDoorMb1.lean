/- Plain mathematics of names: parts, letters, what stands ahead of the last stroke. -/
import Derived.Lib.SplitLaws
import Derived.Lib.IndexBytes
import Derived.Lib.LastIndexByte
import Derived.Lib.Fold
import Derived.Lib.Strings
import Derived.Test.YtbhpgghbpibalaaGreatDoorRows
import Derived.Test.YtbhpgghbpibalaaGreatDoorMs
import Derived.WalkKit
import Derived.ProofKit
import Derived.OpenShut
import Derived.ShutString
import Derived.ChangeOld
import Derived.Below
import Derived.Outline
import Derived.WalkSpells
import Derived.Lib.Hide
import Derived.Deep.QuietTactic
import Derived.BigQuiet
import Derived.Deep.OwnRows
import Derived.Deep.WholeRow
import Derived.StillTailTactics
import Derived.Deep.RegionLaw
import Derived.Shelf.Vars
namespace Go.Proofs.YtbhpgghbpibalaaGreatDoor.nam
open Go.Lib

/-- Byte i of s. -/
def byt (s : ByteArray) (i : Nat) : Nat := (s.data[i]!).toNat
theorem byt_at (s : ByteArray) (i : Nat) (h : i < s.size) : (s[i]'h).toNat = byt s i := by
  unfold byt
  rw [getElem!_pos s.data i (by simpa using h)]; rfl
theorem byt_lt (s : ByteArray) (i : Nat) : byt s i < 256 := UInt8.toNat_lt _
theorem byt_list (s : ByteArray) (i : Nat) (h : i < s.size) : ∃ h', (s.data.toList[i]'h').toNat = byt s i := by
  have h' : i < s.data.toList.length := by rw [← size_eq]; exact h
  refine ⟨h', ?_⟩
  unfold byt
  rw [getElem!_pos s.data i (by simpa using h)]
  simp
theorem byt_some (s : ByteArray) (i : Nat) (h : i < s.size) : ∃ c : UInt8, s.data.toList[i]? = some c ∧ c.toNat = byt s i := by
  obtain ⟨h', e⟩ := byt_list s i h
  exact ⟨_, List.getElem?_eq_getElem h', e⟩

/-- May the byte stand in a part of a name? -/
def nameB (c : Nat) : Bool := decide (c = 46 ∨ c = 95 ∨ c = 45 ∨ (97 ≤ c ∧ c ≤ 122) ∨ (65 ≤ c ∧ c ≤ 90) ∨ (48 ≤ c ∧ c ≤ 57))
theorem nameB_stroke : nameB 47 = false := by decide
/-- Is it a part? -/
def partL (l : List UInt8) : Bool := !l.isEmpty && l.all fun c => nameB c.toNat
/-- The parts of what comes, each ends in a stroke or with it; `p`: a stroke stands ahead. -/
def runL : Bool → List UInt8 → Option Bool
  | p, [] => some p
  | p, c :: r => if c.toNat = 47 then (if p then none else runL true r) else if nameB c.toNat then runL false r else none
theorem runL_append : ∀ (p : Bool) (a b : List UInt8), runL p (a ++ b) = (runL p a).bind fun q => runL q b
  | p, [], b => by simp [runL]
  | p, c :: r, b => by
    simp only [List.cons_append, runL]
    split
    · split
      · rfl
      · exact runL_append true r b
    · split
      · exact runL_append false r b
      · rfl
theorem runL_take (p : Bool) (l : List UInt8) (k : Nat) (h : runL p (l.take k) = none) : runL p l = none := by
  rw [← List.take_append_drop k l, runL_append, h]; rfl
theorem runL_plain (p : Bool) : ∀ (a : List UInt8), (∀ c ∈ a, c.toNat ≠ 47) → runL p a = if a.all (fun c => nameB c.toNat) then some (a.isEmpty && p) else none
  | [], _ => by simp [runL]
  | c :: r, h => by
    have hc : c.toNat ≠ 47 := h c (by simp)
    have ih := runL_plain false r fun x hx => h x (by simp [hx])
    simp only [runL, if_neg hc, List.all_cons]
    by_cases hn : nameB c.toNat = true
    · simp [hn, ih]
    · simp [hn]
def goodL (l : List UInt8) : Bool := runL true l == some false

theorem partL_plain (a : List UInt8) (h : ∀ c ∈ a, c.toNat ≠ 47) : partL a = (runL true a == some false) := by
  rw [runL_plain true a h]
  unfold partL
  cases a.all (fun c => nameB c.toNat) <;> cases a <;> simp
theorem partL_false (a : List UInt8) (c : UInt8) (hc : c ∈ a) (hn : nameB c.toNat = false) : partL a = false := by
  unfold partL
  have : (a.all fun c => nameB c.toNat) = false := by
    rw [List.all_eq_false]
    exact ⟨c, hc, by simp [hn]⟩
  rw [this, Bool.and_false]

theorem split_good : ∀ (k : Nat) (s : List UInt8), count s [47] = k → (splitK [47] 0 k s).all partL = goodL s
  | 0, s, h => by
    have hi : index s [47] = -1 := by
      rcases Int.lt_or_eq_of_le (index_ge s [47]) with h1 | h1
      · obtain ⟨i, hi⟩ := Int.eq_ofNat_of_zero_le (show 0 ≤ index s [47] by omega)
        have := count_hit (s := s) (sub := [47]) (by simp) hi
        omega
      · exact h1.symm
    rw [index_one] at hi
    have hn : ∀ c ∈ s, c.toNat ≠ 47 := fun c hc e => by
      obtain ⟨k, hk⟩ := List.mem_iff_getElem?.1 hc
      refine indexByte_none hi k ?_
      rw [hk]
      exact congrArg some (UInt8.toNat_inj.1 (by simpa using e))
    simp only [splitK, List.all_cons, List.all_nil, Bool.and_true]
    rw [partL_plain s hn]
    rfl
  | k + 1, s, h => by
    have hm : index s [47] ≠ -1 := fun e => by rw [count_miss e] at h; omega
    have hge := index_ge s [47]
    obtain ⟨i, hi⟩ := Int.eq_ofNat_of_zero_le (show 0 ≤ index s [47] by omega)
    have hc := count_hit (s := s) (sub := [47]) (by simp) hi
    have hi' := hi
    rw [index_one] at hi'
    obtain ⟨h1, h2⟩ := indexByte_some hi'
    have hlt : i < s.length := (List.getElem?_eq_some_iff.1 h1).1
    have hge' : ¬ (index s [47] == -1) = true := by simpa using hm
    have et : (index s [47]).toNat = i := by omega
    rw [splitK, if_neg hge', et]
    simp only [Nat.add_zero, List.length_cons, List.length_nil, Nat.zero_add, List.all_cons]
    simp only [List.length_cons, List.length_nil, Nat.zero_add] at hc
    rw [split_good k (s.drop (i + 1)) (by omega)]
    have hn : ∀ c ∈ s.take i, c.toNat ≠ 47 := fun c hc e => by
      obtain ⟨k, hk⟩ := List.mem_iff_getElem?.1 hc
      have hkl : k < i := by
        have := (List.getElem?_eq_some_iff.1 hk).1
        rw [List.length_take] at this
        omega
      rw [List.getElem?_take, if_pos hkl] at hk
      refine h2 k hkl ?_
      rw [hk]
      exact congrArg some (UInt8.toNat_inj.1 (by simpa using e))
    have e1 : s = s.take i ++ 47 :: s.drop (i + 1) := by
      have : s[i] = 47 := by
        have := List.getElem?_eq_some_iff.1 h1
        exact this.2
      rw [← this, List.getElem_cons_drop, List.take_append_drop]
    unfold goodL
    rw [partL_plain _ hn]
    conv => rhs; rw [e1, runL_append]
    cases hr : runL true (s.take i) with
    | none => simp
    | some q => cases q <;> simp [runL]

theorem split_goodB (s : ByteArray) : (splitB ⟨#[47]⟩ 0 (countB s ⟨#[47]⟩) s).all (fun t => partL t.data.toList) = goodL s.data.toList := by
  have h := split_good _ s.data.toList rfl
  have e := splitB_data ⟨#[47]⟩ 0 (countB s ⟨#[47]⟩) s
  have e2 : (splitB ⟨#[47]⟩ 0 (countB s ⟨#[47]⟩) s).all (fun t => partL t.data.toList) = ((splitB ⟨#[47]⟩ 0 (countB s ⟨#[47]⟩) s).map (·.data.toList)).all partL := by
    rw [List.all_map]; rfl
  rw [e2, e]
  exact h

theorem splitB_size (sep : ByteArray) : ∀ (k : Nat) (s : ByteArray), ∀ t ∈ splitB sep 0 k s, t.size ≤ s.size
  | 0, s, t, h => by
    rw [splitB_zero] at h
    simp at h
    subst h
    exact Nat.le_refl _
  | k + 1, s, t, h => by
    unfold splitB at h
    split at h
    · simp at h
      subst h
      exact Nat.le_refl _
    · rcases List.mem_cons.1 h with rfl | h
      · rw [ByteArray.size_extract]; omega
      · have := splitB_size sep k _ t h
        rw [ByteArray.size_extract] at this
        omega

/-- A small letter for a great one. -/
def low (c : Nat) : Nat := if 65 ≤ c ∧ c ≤ 90 then c + 32 else c
def alike (s t : ByteArray) : Bool := decide (s.size = t.size) && (List.range s.size).all fun i => low (byt s i) == low (byt t i)
theorem alike_false (s t : ByteArray) (i : Nat) (h : i < s.size) (hne : (low (byt s i) == low (byt t i)) = false) : alike s t = false := by
  unfold alike
  have : ((List.range s.size).all fun i => low (byt s i) == low (byt t i)) = false := by
    rw [List.all_eq_false]
    exact ⟨i, List.mem_range.2 h, by simp [hne]⟩
  rw [this, Bool.and_false]
theorem alike_true (s t : ByteArray) (h : s.size = t.size) (he : ∀ i, i < s.size → (low (byt s i) == low (byt t i)) = true) : alike s t = true := by
  unfold alike
  simp only [h, decide_true, Bool.true_and, List.all_eq_true, List.mem_range]
  intro i hi
  exact he i (by omega)
theorem alike_size (s t : ByteArray) (h : s.size ≠ t.size) : alike s t = false := by
  unfold alike
  simp [h]

def inbox : ByteArray := ⟨#[105, 110, 98, 111, 120]⟩
def INBOX : ByteArray := ⟨#[73, 78, 66, 79, 88]⟩
theorem fold_low (x y : UInt8) : foldEq x y = (low x.toNat == low y.toNat) := by
  have hx := UInt8.toNat_lt x
  have hy := UInt8.toNat_lt y
  rw [Bool.eq_iff_iff]
  unfold foldEq low
  simp only [decide_eq_true_eq, beq_iff_eq]
  split <;> split <;> omega
theorem equalFold_map : ∀ (s t : List UInt8), equalFold s t = (s.map (fun c => low c.toNat) == t.map (fun c => low c.toNat))
  | [], [] => rfl
  | [], _ :: _ => rfl
  | _ :: _, [] => rfl
  | x :: s, y :: t => by
    rw [equalFold, equalFold_map s t, fold_low]
    simp
theorem alike_map (s t : ByteArray) : alike s t = (s.data.toList.map (fun c => low c.toNat) == t.data.toList.map (fun c => low c.toNat)) := by
  have hs := size_eq s
  have ht := size_eq t
  rw [Bool.eq_iff_iff]
  unfold alike
  simp only [Bool.and_eq_true, decide_eq_true_eq, List.all_eq_true, List.mem_range, beq_iff_eq]
  constructor
  · rintro ⟨h1, h2⟩
    apply List.ext_getElem
    · simp only [List.length_map]; omega
    · intro i hi hi'
      simp only [List.length_map] at hi hi'
      have h3 := h2 i (by omega)
      obtain ⟨a, ea⟩ := byt_list s i (by omega)
      obtain ⟨b, eb⟩ := byt_list t i (by omega)
      simp only [List.getElem_map, ea, eb]
      exact h3
  · intro h
    have hl : s.size = t.size := by
      have := congrArg List.length h
      simp only [List.length_map] at this
      omega
    refine ⟨hl, fun i hi => ?_⟩
    obtain ⟨a, ea⟩ := byt_list s i hi
    obtain ⟨b, eb⟩ := byt_list t i (by omega)
    have := congrArg (fun l : List Nat => l[i]?) h
    simp only [List.getElem?_map, List.getElem?_eq_getElem a, List.getElem?_eq_getElem b, Option.map_some, Option.some.injEq, ea, eb] at this
    exact this
theorem fold_inbox (s : ByteArray) : equalFold s.data.toList INBOX.data.toList = alike s inbox := by
  rw [equalFold_map, alike_map]
  have : INBOX.data.toList.map (fun c => low c.toNat) = inbox.data.toList.map (fun c => low c.toNat) := by decide
  rw [this]

/-- Is it a name? -/
def normOk (s : ByteArray) : Bool := decide (s.size ≤ 60) && goodL s.data.toList
def normS (s : ByteArray) : ByteArray := if normOk s then (if alike s inbox then INBOX else s) else ⟨#[]⟩
theorem goodL_ascii (l : List UInt8) (p : Bool) (h : runL p l ≠ none) : ∀ c ∈ l, c.toNat < 128 := by
  induction l generalizing p with
  | nil => simp
  | cons c r ih =>
    intro x hx
    simp only [runL] at h
    rcases List.mem_cons.1 hx with rfl | hx'
    · by_cases h1 : x.toNat = 47
      · omega
      · rw [if_neg h1] at h
        cases hn : nameB x.toNat
        · rw [hn] at h; simp at h
        · unfold nameB at hn
          simp only [decide_eq_true_eq] at hn
          omega
    · by_cases h1 : c.toNat = 47
      · rw [if_pos h1] at h
        cases p
        · exact ih true (by simpa using h) x hx'
        · simp at h
      · rw [if_neg h1] at h
        cases hn : nameB c.toNat
        · rw [hn] at h; simp at h
        · rw [hn] at h
          exact ih false (by simpa using h) x hx'
theorem normOk_ascii (s : ByteArray) (h : normOk s = true) : ∀ (j : Nat) b, s.data.toList[j]? = some b → b.toNat < 128 := by
  intro j b hb
  unfold normOk goodL at h
  simp only [Bool.and_eq_true, beq_iff_eq] at h
  exact goodL_ascii _ true (by rw [h.2]; simp) b (List.mem_of_getElem? hb)
theorem INBOX_ascii : ∀ (j : Nat) b, INBOX.data.toList[j]? = some b → b.toNat < 128 := by
  intro j b hb
  have : ∀ c ∈ INBOX.data.toList, c.toNat < 128 := by decide
  exact this b (List.mem_of_getElem? hb)
theorem normOk_INBOX : normOk INBOX = true := by decide
theorem alike_INBOX : alike INBOX inbox = true := by decide
theorem normOk_inbox : normOk inbox = true := by decide
theorem alike_inbox : alike inbox inbox = true := by decide
theorem norm_again (s : ByteArray) (h : normOk s = true) : normOk (normS s) = true ∧ normS (normS s) = normS s := by
  have e : normS s = if alike s inbox then INBOX else s := by unfold normS; rw [if_pos h]
  by_cases ha : alike s inbox = true
  · rw [if_pos ha] at e
    rw [e]
    refine ⟨normOk_INBOX, ?_⟩
    unfold normS
    rw [if_pos normOk_INBOX, if_pos alike_INBOX]
  · rw [if_neg ha] at e
    rw [e]
    exact ⟨h, e⟩

/-! ### One byte more -/
theorem take_succ_byt (s : ByteArray) (k : Nat) (h : k < s.size) : ∃ c : UInt8, c.toNat = byt s k ∧ s.data.toList.take (k + 1) = s.data.toList.take k ++ [c] := by
  obtain ⟨c, hc, e⟩ := byt_some s k h
  refine ⟨c, e, ?_⟩
  rw [List.take_add_one, hc]
  rfl
theorem run_stroke_stroke (s : ByteArray) (k : Nat) (h : k < s.size) (hr : runL true (s.data.toList.take k) = some true) (hb : byt s k = 47) : goodL s.data.toList = false := by
  obtain ⟨c, e, et⟩ := take_succ_byt s k h
  have : runL true (s.data.toList.take (k + 1)) = none := by
    rw [et, runL_append, hr]
    simp [runL, e, hb]
  unfold goodL
  rw [runL_take true _ (k + 1) this]; rfl
theorem run_bad (s : ByteArray) (k : Nat) (h : k < s.size) (q : Bool) (hr : runL true (s.data.toList.take k) = some q) (hb : byt s k ≠ 47) (hn : nameB (byt s k) = false) : goodL s.data.toList = false := by
  obtain ⟨c, e, et⟩ := take_succ_byt s k h
  have : runL true (s.data.toList.take (k + 1)) = none := by
    rw [et, runL_append, hr]
    simp [runL, e, hb, hn]
  unfold goodL
  rw [runL_take true _ (k + 1) this]; rfl
theorem run_stroke (s : ByteArray) (k : Nat) (h : k < s.size) (hr : runL true (s.data.toList.take k) = some false) (hb : byt s k = 47) : runL true (s.data.toList.take (k + 1)) = some true := by
  obtain ⟨c, e, et⟩ := take_succ_byt s k h
  rw [et, runL_append, hr]
  simp [runL, e, hb]
theorem run_good (s : ByteArray) (k : Nat) (h : k < s.size) (q : Bool) (hr : runL true (s.data.toList.take k) = some q) (hb : byt s k ≠ 47) (hn : nameB (byt s k) = true) : runL true (s.data.toList.take (k + 1)) = some false := by
  obtain ⟨c, e, et⟩ := take_succ_byt s k h
  rw [et, runL_append, hr]
  simp [runL, e, hb, hn]
theorem run_end (s : ByteArray) (q : Bool) (hr : runL true (s.data.toList.take s.size) = some q) : goodL s.data.toList = !q := by
  have : s.data.toList.take s.size = s.data.toList := by rw [size_eq, List.take_length]
  rw [this] at hr
  unfold goodL
  rw [hr]
  cases q <;> rfl
theorem part_bad (s : ByteArray) (k : Nat) (h : k < s.size) (hn : nameB (byt s k) = false) : partL s.data.toList = false := by
  obtain ⟨c, hc, e⟩ := byt_some s k h
  exact partL_false _ c (List.mem_of_getElem? hc) (by rw [e]; exact hn)
theorem part_end (s : ByteArray) (h : ∀ k, k < s.size → nameB (byt s k) = true) : partL s.data.toList = decide (s.size ≠ 0) := by
  have hall : (s.data.toList.all fun c => nameB c.toNat) = true := by
    rw [List.all_eq_true]
    intro c hc
    obtain ⟨k, hk⟩ := List.mem_iff_getElem?.1 hc
    have hlt : k < s.size := by rw [size_eq]; exact (List.getElem?_eq_some_iff.1 hk).1
    obtain ⟨c', hc', e⟩ := byt_some s k hlt
    rw [hk] at hc'
    cases hc'
    rw [e]
    exact h k hlt
  unfold partL
  rw [hall, Bool.and_true, size_eq]
  cases s.data.toList <;> simp

/-! ### What stands ahead of the last stroke -/
def upN (s : ByteArray) : Nat := (lastIndexByte s 47).toNat
def upS (s : ByteArray) : ByteArray := s.extract 0 (upN s)
theorem extract_zero (s : ByteArray) : s.extract 0 0 = ⟨#[]⟩ := by
  apply ByteArray.ext
  simp
theorem upN_le (s : ByteArray) : upN s ≤ s.size := by
  unfold upN
  rcases lastIndexByte_spec s 47 with ⟨h, _⟩ | ⟨i, hi, h, _⟩ <;> rw [h] <;> simp <;> omega
end Go.Proofs.YtbhpgghbpibalaaGreatDoor.nam
namespace Go.Proofs.YtbhpgghbpibalaaGreatDoor.nam
open Go.ChangeShapes Go.WideShapes Go.ChangeAt Go.RowKit
open Go.Lib (countB splitB)
set_option linter.unusedVariables false
set_option linter.unusedSimpArgs false

theorem nameByte_any (w : World) (c : Nat) (hc : c < 256) :
    Calls Tryz.prog 105 #[.int .u8 (c : Nat)] w fun e w' => e = .returned (.bool (nameB c)) ∧ w' = w := by
  go_enter Tryz.func105, Tryz.ntmps105
  go_wp2
  all_goals (go_ret; refine ⟨congrArg (fun b => Ending.returned (Value.bool b)) ?_, rfl⟩; rw [Bool.eq_iff_iff]; simp [nameB] at * <;> omega)

theorem part_any (w : World) (s : ByteArray) (hs : s.size ≤ 100000) :
    Calls Tryz.prog 86 #[.string s] w fun e w' => e = .returned (.bool (partL s.data.toList)) ∧ w' = w := by
  go_enter Tryz.func86, Tryz.ntmps86
  go_wp2
  go_loop [6] (fun i => ∃ k : Nat, k ≤ s.size ∧ i = .int .i64 k ∧ Hid (∀ j, j < k → nameB (byt s j) = true)) (fun i => s.size - (intOf i).toNat)
  case atStart => exact ⟨0, Nat.zero_le _, rfl, fun j h => absurd h (Nat.not_lt_zero _)⟩
  case round =>
    obtain ⟨k, hk, rfl, hh⟩ := hrel
    go_wp2_with (go_at_call 105; refine (nameByte_any _ _ (UInt8.toNat_lt _)).mono ?_; rintro e w' ⟨rfl, rfl⟩)
    · have hlt : k < s.size := by assumption
      have h : (!nameB (s[k]).toNat) = true := by assumption
      rw [byt_at] at h
      go_ret
      rw [part_bad s k hlt (by simpa using h)]
      exact ⟨rfl, rfl⟩
    · have hlt : k < s.size := by assumption
      have h : (!nameB (s[k]).toNat) = false := by assumption
      rw [byt_at] at h
      refine ⟨⟨k + 1, hlt, by simp, fun j hj => ?_⟩, by simp [intOf]; omega⟩
      rcases Nat.lt_succ_iff_lt_or_eq.1 hj with h' | rfl
      · exact hh.out j h'
      · simpa using h
    · have hlt : ¬ k < s.size := by assumption
      go_ret
      rw [part_end s (fun j hj => hh.out j (by omega)), Lib.toList_data, Lib.size_eq]
      refine ⟨congrArg (fun b => Ending.returned (Value.bool b)) ?_, rfl⟩
      cases s.data.toList <;> simp

def slash : ByteArray := ⟨#[47]⟩
theorem split_any (w : World) (s : ByteArray) (m : Int) (hs : s.size ≤ 100000) (hm : w.cell? ⟨0, 0, none⟩ = some (.int .i64 m)) :
    Calls Tryz.prog 85 #[.string s, .string ⟨#[47]⟩] w fun e w' => ∃ L : List ByteArray, Hid ((L.all fun t => partL t.data.toList) = goodL s.data.toList) ∧ L.length ≤ 1000000 ∧ e = .returned (.slice (some ⟨w.heap.size, 0, none⟩) L.length L.length) ∧
      Below w.heap.size w w' ∧ (∀ (k : Nat) t, L[k]? = some t → w'.cell? ⟨w.heap.size, k, none⟩ = some (.string t)) ∧ ∀ t ∈ L, t.size ≤ 100000 := by
  refine (Tryz.strings_Split s ⟨#[47]⟩ m w (by omega) hm (by decide)).mono ?_
  rintro e w' ⟨rfl, rfl⟩
  have hl : (splitB ⟨#[47]⟩ 0 (countB s ⟨#[47]⟩) s).length = countB s ⟨#[47]⟩ + 1 := Lib.splitB_all ⟨#[47]⟩ (by decide) 0 _ s rfl
  have hc : countB s ⟨#[47]⟩ ≤ s.size := Lib.countB_le ⟨#[47]⟩ (by decide) s.size s (Nat.le_refl _)
  refine ⟨splitB ⟨#[47]⟩ 0 (countB s ⟨#[47]⟩) s, split_goodB s, by omega, by rw [hl], (Below.refl _ _).alloc (Nat.le_refl _) _, fun k t ht => ?_, fun t ht => ?_⟩
  · simp only [World.cell?]
    rw [heap_alloc_new]
    simp [ht]
  · have := splitB_size _ _ s t ht
    omega

set_option maxHeartbeats 1600000 in
theorem name_any (w : World) (s : ByteArray) (m : Int) (hs : s.size ≤ 100000) (hm : w.cell? ⟨0, 0, none⟩ = some (.int .i64 m)) :
    Calls Tryz.prog 71 #[.string s] w fun e w' => e = .returned (.bool (normOk s)) ∧ Below w.heap.size w w' := by
  by_cases h60 : s.size ≤ 60
  · have e60 : normOk s = goodL s.data.toList := by simp [normOk, h60]
    rw [e60]
    go_enter Tryz.func71, Tryz.ntmps71
    go_wp2_with (go_at_call 85; refine (split_any w s m hs hm).mono ?_; rintro e w1 ⟨L, hL, hlen, rfl, hb, hcell, hsz⟩; have HC := Lib.hid hcell; clear hcell)
    go_loop [11] (fun i => ∃ k : Nat, k ≤ L.length ∧ i = .int .i64 k ∧ Hid (∀ (j : Nat) t, L[j]? = some t → j < k → partL t.data.toList = true)) (fun i => L.length - (intOf i).toNat)
    case atStart => exact ⟨0, Nat.zero_le _, rfl, fun j t _ h => absurd h (Nat.not_lt_zero _)⟩
    case round =>
      obtain ⟨k, hk, rfl, hh⟩ := hrel
      by_cases hkl : k < L.length
      · obtain ⟨t, ht⟩ : ∃ t, L[k]? = some t := ⟨_, List.getElem?_eq_getElem hkl⟩
        have hc := HC.out k t ht
        have hts := hsz t (List.mem_of_getElem? ht)
        have HT := Lib.hid ht
        clear ht
        go_wp2_with (go_at_call 86; refine (part_any _ t hts).mono ?_; rintro e w2 ⟨rfl, rfl⟩)
        · have h : (!partL t.data.toList) = true := by assumption
          go_ret
          refine ⟨congrArg (fun b => Ending.returned (Value.bool b)) ?_, hb⟩
          rw [← hL.out]
          symm
          rw [List.all_eq_false]
          exact ⟨t, List.mem_of_getElem? HT.out, by simpa using h⟩
        · have h : (!partL t.data.toList) = false := by assumption
          refine ⟨⟨k + 1, hkl, by simp, fun j u hu hj => ?_⟩, by simp [intOf]; omega⟩
          rcases Nat.lt_succ_iff_lt_or_eq.1 hj with h' | rfl
          · exact hh.out j u hu h'
          · rw [HT.out] at hu
            cases hu
            simpa using h
      · go_wp2
        go_ret
        refine ⟨congrArg (fun b => Ending.returned (Value.bool b)) ?_, hb⟩
        rw [← hL.out]
        symm
        rw [List.all_eq_true]
        intro t ht
        obtain ⟨j, hj⟩ := List.mem_iff_getElem?.1 ht
        exact hh.out j t hj (by have := (List.getElem?_eq_some_iff.1 hj).1; omega)
  · have e60 : normOk s = false := by simp [normOk, h60]
    rw [e60]
    go_enter Tryz.func71, Tryz.ntmps71
    go_wp2
    go_ret
    exact ⟨rfl, Below.refl _ _⟩

theorem clone_any (w : World) (s : ByteArray) (hs : s.size ≤ 100000) :
    Calls Tryz.prog 73 #[.string s] w fun e w' => e = .returned (.string s) ∧ Below w.heap.size w w' := by
  go_enter Tryz.func73, Tryz.ntmps73
  go_wp2_with (go_at_call 88; refine (Tryz.stringslite_Clone s w (by omega)).mono ?_; rintro e w1 ⟨rfl, hb⟩)
  go_ret
  exact ⟨rfl, hb⟩

theorem fold_any (w : World) (s : ByteArray) (hs : s.size ≤ 100000) (hn : normOk s = true) :
    Calls Tryz.prog 72 #[.string s, .string ⟨#[73, 78, 66, 79, 88]⟩] w fun e w' => e = .returned (.bool (alike s inbox)) ∧ w' = w := by
  refine (Tryz.strings_EqualFold s INBOX w (by omega) (normOk_ascii s hn) INBOX_ascii).mono ?_
  rintro e w' ⟨rfl, rfl⟩
  rw [fold_inbox]
  exact ⟨rfl, rfl⟩

theorem norm_any (w : World) (s : ByteArray) (m : Int) (hs : s.size ≤ 100000) (hm : w.cell? ⟨0, 0, none⟩ = some (.int .i64 m)) :
    Calls Tryz.prog 54 #[.string s] w fun e w' => e = .returned (.tuple #[.string (normS s), .bool (normOk s)]) ∧ Below w.heap.size w w' := by
  unfold normS
  cases hn : normOk s
  · simp only [Bool.false_eq_true, if_false]
    go_enter Tryz.func54, Tryz.ntmps54
    go_wp2_with (go_at_call 71; refine (name_any w s m hs hm).mono ?_; rintro e w1 ⟨rfl, hb⟩; rw [hn])
    go_ret2
    exact ⟨rfl, hb⟩
  · simp only [if_true]
    cases ha : alike s inbox
    · simp only [Bool.false_eq_true, if_false]
      go_enter Tryz.func54, Tryz.ntmps54
      go_wp2_with (first | (go_at_call 71; refine (name_any w s m hs hm).mono ?_; rintro e w1 ⟨rfl, hb⟩; rw [hn]) | (go_at_call 72; refine (fold_any _ s hs hn).mono ?_; rintro e w2 ⟨rfl, rfl⟩; rw [ha]) | (go_at_call 73; refine (clone_any _ s hs).mono ?_; rintro e w3 ⟨rfl, hb3⟩))
      go_ret2
      exact ⟨rfl, hb.trans (hb3.mono hb.size)⟩
    · simp only [if_true]
      go_enter Tryz.func54, Tryz.ntmps54
      go_wp2_with (first | (go_at_call 71; refine (name_any w s m hs hm).mono ?_; rintro e w1 ⟨rfl, hb⟩; rw [hn]) | (go_at_call 72; refine (fold_any _ s hs hn).mono ?_; rintro e w2 ⟨rfl, rfl⟩; rw [ha]))
      go_ret2
      exact ⟨rfl, hb⟩

/-- The world has drawn, and nothing else. -/
def Drew (w w' : World) : Prop := ∃ n, w' = w.drewN n
theorem Drew.refl (w : World) : Drew w w := ⟨0, rfl⟩
theorem Drew.drewN {w w' : World} (h : Drew w w') (q : Nat) : Drew w (w'.drewN q) := by
  obtain ⟨n, rfl⟩ := h
  exact ⟨n + q, by rw [World.drewN_drewN]⟩
theorem Drew.below {w w' : World} (h : Drew w w') (B : Nat) : Below B w w' := by
  obtain ⟨n, rfl⟩ := h
  exact ⟨rfl, rfl, rfl, Nat.le_refl _, fun _ _ => rfl⟩

end Go.Proofs.YtbhpgghbpibalaaGreatDoor.nam
namespace Go.Proofs.YtbhpgghbpibalaaGreatDoor.nam
open Go.ChangeShapes Go.WideShapes Go.ChangeAt Go.RowKit
set_option linter.unusedVariables false
set_option linter.unusedSimpArgs false

theorem normS_bad (s : ByteArray) (h : normOk s = false) : normS s = ⟨#[]⟩ := by
  unfold normS
  rw [h]; rfl
theorem ok_bad (s : ByteArray) (h : goodL s.data.toList = false) : normOk s = false := by
  unfold normOk
  rw [h, Bool.and_false]

end Go.Proofs.YtbhpgghbpibalaaGreatDoor.nam
namespace Go.Proofs.YtbhpgghbpibalaaGreatDoor.nam
open Go.ChangeShapes Go.WideShapes Go.ChangeAt Go.RowKit
set_option linter.unusedVariables false
set_option linter.unusedSimpArgs false

/-- What the library's search asks of its own variable. -/
def Room (w : World) : Prop := ∃ m, w.cell? ⟨0, 0, none⟩ = some (.int .i64 m)
theorem Room.below {w w' : World} (h : Room w) (hb : Below w.heap.size w w') : Room w' := by
  obtain ⟨m, hm⟩ := h
  exact ⟨m, (hb.cell (block_lt_of_cell hm)).trans hm⟩

theorem normR (w : World) (s : ByteArray) (hs : s.size ≤ 100000) (hr : Room w) :
    Calls Tryz.prog 54 #[.string s] w fun e w' => e = .returned (.tuple #[.string (normS s), .bool (normOk s)]) ∧ Below w.heap.size w w' := by
  obtain ⟨m, hm⟩ := hr
  exact norm_any w s m hs hm

theorem Room.of_shape {w : World} (h : w.ShapedOpen Tryz.prog) : Room w :=
  cell_of_shapedOpen_int (t := 3) (zero := #[.int .i64 0]) h (of_decide_eq_true (by kernel_rfl)) (by kernel_rfl) rfl (by kernel_rfl) (by kernel_rfl) Tryz.underlying3
end Go.Proofs.YtbhpgghbpibalaaGreatDoor.nam
