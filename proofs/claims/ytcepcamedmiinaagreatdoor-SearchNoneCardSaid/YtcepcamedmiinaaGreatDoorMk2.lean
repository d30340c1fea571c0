/- Plain mathematics of names: parts, letters, what stands ahead of the last stroke. -/
import Derived.Lib.SplitLaws
import Derived.Lib.IndexBytes
import Derived.Lib.LastIndexByte
import Derived.Lib.Fold
import Derived.Lib.Strings
import Derived.Test.YtcepcamedmiinaaGreatDoorRows
import Derived.Test.YtcepcamedmiinaaGreatDoorMs
import Derived.WalkKit
import Derived.ProofKit
import Derived.OpenShut
import Derived.ShutString
import Derived.ChangeOld
import Derived.Below
import Derived.Outline
import Derived.WalkSpells
import Derived.Lib.Hide
import Derived.Deep.QuietTactic
import Derived.BigQuiet
import Derived.Deep.OwnRows
import Derived.Deep.WholeRow
import Derived.StillTailTactics
import Derived.Deep.RegionLaw
import Derived.Shelf.Vars
namespace Go.Proofs.YtcepcamedmiinaaGreatDoor.nam
open Go.Lib

/-- Byte i of s. -/
def byt (s : ByteArray) (i : Nat) : Nat := (s.data[i]!).toNat
theorem byt_at (s : ByteArray) (i : Nat) (h : i < s.size) : (s[i]'h).toNat = byt s i := by
  unfold byt
  rw [getElem!_pos s.data i (by simpa using h)]; rfl
theorem byt_lt (s : ByteArray) (i : Nat) : byt s i < 256 := UInt8.toNat_lt _
theorem byt_list (s : ByteArray) (i : Nat) (h : i < s.size) : ∃ h', (s.data.toList[i]'h').toNat = byt s i := by
  have h' : i < s.data.toList.length := by rw [← size_eq]; exact h
  refine ⟨h', ?_⟩
  unfold byt
  rw [getElem!_pos s.data i (by simpa using h)]
  simp
theorem byt_some (s : ByteArray) (i : Nat) (h : i < s.size) : ∃ c : UInt8, s.data.toList[i]? = some c ∧ c.toNat = byt s i := by
  obtain ⟨h', e⟩ := byt_list s i h
  exact ⟨_, List.getElem?_eq_getElem h', e⟩

/-- May the byte stand in a part of a name? -/
def nameB (c : Nat) : Bool := decide (c = 46 ∨ c = 95 ∨ c = 45 ∨ (97 ≤ c ∧ c ≤ 122) ∨ (65 ≤ c ∧ c ≤ 90) ∨ (48 ≤ c ∧ c ≤ 57))
theorem nameB_stroke : nameB 47 = false := by decide
/-- Is it a part? -/
def partL (l : List UInt8) : Bool := !l.isEmpty && l.all fun c => nameB c.toNat
/-- The parts of what comes, each ends in a stroke or with it; `p`: a stroke stands ahead. -/
def runL : Bool → List UInt8 → Option Bool
  | p, [] => some p
  | p, c :: r => if c.toNat = 47 then (if p then none else runL true r) else if nameB c.toNat then runL false r else none
theorem runL_append : ∀ (p : Bool) (a b : List UInt8), runL p (a ++ b) = (runL p a).bind fun q => runL q b
  | p, [], b => by simp [runL]
  | p, c :: r, b => by
    simp only [List.cons_append, runL]
    split
    · split
      · rfl
      · exact runL_append true r b
    · split
      · exact runL_append false r b
      · rfl
theorem runL_take (p : Bool) (l : List UInt8) (k : Nat) (h : runL p (l.take k) = none) : runL p l = none := by
  rw [← List.take_append_drop k l, runL_append, h]; rfl
theorem runL_plain (p : Bool) : ∀ (a : List UInt8), (∀ c ∈ a, c.toNat ≠ 47) → runL p a = if a.all (fun c => nameB c.toNat) then some (a.isEmpty && p) else none
  | [], _ => by simp [runL]
  | c :: r, h => by
    have hc : c.toNat ≠ 47 := h c (by simp)
    have ih := runL_plain false r fun x hx => h x (by simp [hx])
    simp only [runL, if_neg hc, List.all_cons]
    by_cases hn : nameB c.toNat = true
    · simp [hn, ih]
    · simp [hn]
def goodL (l : List UInt8) : Bool := runL true l == some false

theorem partL_plain (a : List UInt8) (h : ∀ c ∈ a, c.toNat ≠ 47) : partL a = (runL true a == some false) := by
  rw [runL_plain true a h]
  unfold partL
  cases a.all (fun c => nameB c.toNat) <;> cases a <;> simp
theorem partL_false (a : List UInt8) (c : UInt8) (hc : c ∈ a) (hn : nameB c.toNat = false) : partL a = false := by
  unfold partL
  have : (a.all fun c => nameB c.toNat) = false := by
    rw [List.all_eq_false]
    exact ⟨c, hc, by simp [hn]⟩
  rw [this, Bool.and_false]

theorem split_good : ∀ (k : Nat) (s : List UInt8), count s [47] = k → (splitK [47] 0 k s).all partL = goodL s
  | 0, s, h => by
    have hi : index s [47] = -1 := by
      rcases Int.lt_or_eq_of_le (index_ge s [47]) with h1 | h1
      · obtain ⟨i, hi⟩ := Int.eq_ofNat_of_zero_le (show 0 ≤ index s [47] by omega)
        have := count_hit (s := s) (sub := [47]) (by simp) hi
        omega
      · exact h1.symm
    rw [index_one] at hi
    have hn : ∀ c ∈ s, c.toNat ≠ 47 := fun c hc e => by
      obtain ⟨k, hk⟩ := List.mem_iff_getElem?.1 hc
      refine indexByte_none hi k ?_
      rw [hk]
      exact congrArg some (UInt8.toNat_inj.1 (by simpa using e))
    simp only [splitK, List.all_cons, List.all_nil, Bool.and_true]
    rw [partL_plain s hn]
    rfl
  | k + 1, s, h => by
    have hm : index s [47] ≠ -1 := fun e => by rw [count_miss e] at h; omega
    have hge := index_ge s [47]
    obtain ⟨i, hi⟩ := Int.eq_ofNat_of_zero_le (show 0 ≤ index s [47] by omega)
    have hc := count_hit (s := s) (sub := [47]) (by simp) hi
    have hi' := hi
    rw [index_one] at hi'
    obtain ⟨h1, h2⟩ := indexByte_some hi'
    have hlt : i < s.length := (List.getElem?_eq_some_iff.1 h1).1
    have hge' : ¬ (index s [47] == -1) = true := by simpa using hm
    have et : (index s [47]).toNat = i := by omega
    rw [splitK, if_neg hge', et]
    simp only [Nat.add_zero, List.length_cons, List.length_nil, Nat.zero_add, List.all_cons]
    simp only [List.length_cons, List.length_nil, Nat.zero_add] at hc
    rw [split_good k (s.drop (i + 1)) (by omega)]
    have hn : ∀ c ∈ s.take i, c.toNat ≠ 47 := fun c hc e => by
      obtain ⟨k, hk⟩ := List.mem_iff_getElem?.1 hc
      have hkl : k < i := by
        have := (List.getElem?_eq_some_iff.1 hk).1
        rw [List.length_take] at this
        omega
      rw [List.getElem?_take, if_pos hkl] at hk
      refine h2 k hkl ?_
      rw [hk]
      exact congrArg some (UInt8.toNat_inj.1 (by simpa using e))
    have e1 : s = s.take i ++ 47 :: s.drop (i + 1) := by
      have : s[i] = 47 := by
        have := List.getElem?_eq_some_iff.1 h1
        exact this.2
      rw [← this, List.getElem_cons_drop, List.take_append_drop]
    unfold goodL
    rw [partL_plain _ hn]
    conv => rhs; rw [e1, runL_append]
    cases hr : runL true (s.take i) with
    | none => simp
    | some q => cases q <;> simp [runL]

theorem split_goodB (s : ByteArray) : (splitB ⟨#[47]⟩ 0 (countB s ⟨#[47]⟩) s).all (fun t => partL t.data.toList) = goodL s.data.toList := by
  have h := split_good _ s.data.toList rfl
  have e := splitB_data ⟨#[47]⟩ 0 (countB s ⟨#[47]⟩) s
  have e2 : (splitB ⟨#[47]⟩ 0 (countB s ⟨#[47]⟩) s).all (fun t => partL t.data.toList) = ((splitB ⟨#[47]⟩ 0 (countB s ⟨#[47]⟩) s).map (·.data.toList)).all partL := by
    rw [List.all_map]; rfl
  rw [e2, e]
  exact h

theorem splitB_size (sep : ByteArray) : ∀ (k : Nat) (s : ByteArray), ∀ t ∈ splitB sep 0 k s, t.size ≤ s.size
  | 0, s, t, h => by
    rw [splitB_zero] at h
    simp at h
    subst h
    exact Nat.le_refl _
  | k + 1, s, t, h => by
    unfold splitB at h
    split at h
    · simp at h
      subst h
      exact Nat.le_refl _
    · rcases List.mem_cons.1 h with rfl | h
      · rw [ByteArray.size_extract]; omega
      · have := splitB_size sep k _ t h
        rw [ByteArray.size_extract] at this
        omega

/-- A small letter for a great one. -/
def low (c : Nat) : Nat := if 65 ≤ c ∧ c ≤ 90 then c + 32 else c
def alike (s t : ByteArray) : Bool := decide (s.size = t.size) && (List.range s.size).all fun i => low (byt s i) == low (byt t i)
theorem alike_false (s t : ByteArray) (i : Nat) (h : i < s.size) (hne : (low (byt s i) == low (byt t i)) = false) : alike s t = false := by
  unfold alike
  have : ((List.range s.size).all fun i => low (byt s i) == low (byt t i)) = false := by
    rw [List.all_eq_false]
    exact ⟨i, List.mem_range.2 h, by simp [hne]⟩
  rw [this, Bool.and_false]
theorem alike_true (s t : ByteArray) (h : s.size = t.size) (he : ∀ i, i < s.size → (low (byt s i) == low (byt t i)) = true) : alike s t = true := by
  unfold alike
  simp only [h, decide_true, Bool.true_and, List.all_eq_true, List.mem_range]
  intro i hi
  exact he i (by omega)
theorem alike_size (s t : ByteArray) (h : s.size ≠ t.size) : alike s t = false := by
  unfold alike
  simp [h]

def inbox : ByteArray := ⟨#[105, 110, 98, 111, 120]⟩
def INBOX : ByteArray := ⟨#[73, 78, 66, 79, 88]⟩
theorem fold_low (x y : UInt8) : foldEq x y = (low x.toNat == low y.toNat) := by
  have hx := UInt8.toNat_lt x
  have hy := UInt8.toNat_lt y
  rw [Bool.eq_iff_iff]
  unfold foldEq low
  simp only [decide_eq_true_eq, beq_iff_eq]
  split <;> split <;> omega
theorem equalFold_map : ∀ (s t : List UInt8), equalFold s t = (s.map (fun c => low c.toNat) == t.map (fun c => low c.toNat))
  | [], [] => rfl
  | [], _ :: _ => rfl
  | _ :: _, [] => rfl
  | x :: s, y :: t => by
    rw [equalFold, equalFold_map s t, fold_low]
    simp
theorem alike_map (s t : ByteArray) : alike s t = (s.data.toList.map (fun c => low c.toNat) == t.data.toList.map (fun c => low c.toNat)) := by
  have hs := size_eq s
  have ht := size_eq t
  rw [Bool.eq_iff_iff]
  unfold alike
  simp only [Bool.and_eq_true, decide_eq_true_eq, List.all_eq_true, List.mem_range, beq_iff_eq]
  constructor
  · rintro ⟨h1, h2⟩
    apply List.ext_getElem
    · simp only [List.length_map]; omega
    · intro i hi hi'
      simp only [List.length_map] at hi hi'
      have h3 := h2 i (by omega)
      obtain ⟨a, ea⟩ := byt_list s i (by omega)
      obtain ⟨b, eb⟩ := byt_list t i (by omega)
      simp only [List.getElem_map, ea, eb]
      exact h3
  · intro h
    have hl : s.size = t.size := by
      have := congrArg List.length h
      simp only [List.length_map] at this
      omega
    refine ⟨hl, fun i hi => ?_⟩
    obtain ⟨a, ea⟩ := byt_list s i hi
    obtain ⟨b, eb⟩ := byt_list t i (by omega)
    have := congrArg (fun l : List Nat => l[i]?) h
    simp only [List.getElem?_map, List.getElem?_eq_getElem a, List.getElem?_eq_getElem b, Option.map_some, Option.some.injEq, ea, eb] at this
    exact this
theorem fold_inbox (s : ByteArray) : equalFold s.data.toList INBOX.data.toList = alike s inbox := by
  rw [equalFold_map, alike_map]
  have : INBOX.data.toList.map (fun c => low c.toNat) = inbox.data.toList.map (fun c => low c.toNat) := by decide
  rw [this]

/-- Is it a name? -/
def normOk (s : ByteArray) : Bool := decide (s.size ≤ 60) && goodL s.data.toList
def normS (s : ByteArray) : ByteArray := if normOk s then (if alike s inbox then INBOX else s) else ⟨#[]⟩
theorem goodL_ascii (l : List UInt8) (p : Bool) (h : runL p l ≠ none) : ∀ c ∈ l, c.toNat < 128 := by
  induction l generalizing p with
  | nil => simp
  | cons c r ih =>
    intro x hx
    simp only [runL] at h
    rcases List.mem_cons.1 hx with rfl | hx'
    · by_cases h1 : x.toNat = 47
      · omega
      · rw [if_neg h1] at h
        cases hn : nameB x.toNat
        · rw [hn] at h; simp at h
        · unfold nameB at hn
          simp only [decide_eq_true_eq] at hn
          omega
    · by_cases h1 : c.toNat = 47
      · rw [if_pos h1] at h
        cases p
        · exact ih true (by simpa using h) x hx'
        · simp at h
      · rw [if_neg h1] at h
        cases hn : nameB c.toNat
        · rw [hn] at h; simp at h
        · rw [hn] at h
          exact ih false (by simpa using h) x hx'
theorem normOk_ascii (s : ByteArray) (h : normOk s = true) : ∀ (j : Nat) b, s.data.toList[j]? = some b → b.toNat < 128 := by
  intro j b hb
  unfold normOk goodL at h
  simp only [Bool.and_eq_true, beq_iff_eq] at h
  exact goodL_ascii _ true (by rw [h.2]; simp) b (List.mem_of_getElem? hb)
theorem INBOX_ascii : ∀ (j : Nat) b, INBOX.data.toList[j]? = some b → b.toNat < 128 := by
  intro j b hb
  have : ∀ c ∈ INBOX.data.toList, c.toNat < 128 := by decide
  exact this b (List.mem_of_getElem? hb)
theorem normOk_INBOX : normOk INBOX = true := by decide
theorem alike_INBOX : alike INBOX inbox = true := by decide
theorem normOk_inbox : normOk inbox = true := by decide
theorem alike_inbox : alike inbox inbox = true := by decide
theorem norm_again (s : ByteArray) (h : normOk s = true) : normOk (normS s) = true ∧ normS (normS s) = normS s := by
  have e : normS s = if alike s inbox then INBOX else s := by unfold normS; rw [if_pos h]
  by_cases ha : alike s inbox = true
  · rw [if_pos ha] at e
    rw [e]
    refine ⟨normOk_INBOX, ?_⟩
    unfold normS
    rw [if_pos normOk_INBOX, if_pos alike_INBOX]
  · rw [if_neg ha] at e
    rw [e]
    exact ⟨h, e⟩

/-! ### One byte more -/
theorem take_succ_byt (s : ByteArray) (k : Nat) (h : k < s.size) : ∃ c : UInt8, c.toNat = byt s k ∧ s.data.toList.take (k + 1) = s.data.toList.take k ++ [c] := by
  obtain ⟨c, hc, e⟩ := byt_some s k h
  refine ⟨c, e, ?_⟩
  rw [List.take_add_one, hc]
  rfl
theorem run_stroke_stroke (s : ByteArray) (k : Nat) (h : k < s.size) (hr : runL true (s.data.toList.take k) = some true) (hb : byt s k = 47) : goodL s.data.toList = false := by
  obtain ⟨c, e, et⟩ := take_succ_byt s k h
  have : runL true (s.data.toList.take (k + 1)) = none := by
    rw [et, runL_append, hr]
    simp [runL, e, hb]
  unfold goodL
  rw [runL_take true _ (k + 1) this]; rfl
theorem run_bad (s : ByteArray) (k : Nat) (h : k < s.size) (q : Bool) (hr : runL true (s.data.toList.take k) = some q) (hb : byt s k ≠ 47) (hn : nameB (byt s k) = false) : goodL s.data.toList = false := by
  obtain ⟨c, e, et⟩ := take_succ_byt s k h
  have : runL true (s.data.toList.take (k + 1)) = none := by
    rw [et, runL_append, hr]
    simp [runL, e, hb, hn]
  unfold goodL
  rw [runL_take true _ (k + 1) this]; rfl
theorem run_stroke (s : ByteArray) (k : Nat) (h : k < s.size) (hr : runL true (s.data.toList.take k) = some false) (hb : byt s k = 47) : runL true (s.data.toList.take (k + 1)) = some true := by
  obtain ⟨c, e, et⟩ := take_succ_byt s k h
  rw [et, runL_append, hr]
  simp [runL, e, hb]
theorem run_good (s : ByteArray) (k : Nat) (h : k < s.size) (q : Bool) (hr : runL true (s.data.toList.take k) = some q) (hb : byt s k ≠ 47) (hn : nameB (byt s k) = true) : runL true (s.data.toList.take (k + 1)) = some false := by
  obtain ⟨c, e, et⟩ := take_succ_byt s k h
  rw [et, runL_append, hr]
  simp [runL, e, hb, hn]
theorem run_end (s : ByteArray) (q : Bool) (hr : runL true (s.data.toList.take s.size) = some q) : goodL s.data.toList = !q := by
  have : s.data.toList.take s.size = s.data.toList := by rw [size_eq, List.take_length]
  rw [this] at hr
  unfold goodL
  rw [hr]
  cases q <;> rfl
theorem part_bad (s : ByteArray) (k : Nat) (h : k < s.size) (hn : nameB (byt s k) = false) : partL s.data.toList = false := by
  obtain ⟨c, hc, e⟩ := byt_some s k h
  exact partL_false _ c (List.mem_of_getElem? hc) (by rw [e]; exact hn)
theorem part_end (s : ByteArray) (h : ∀ k, k < s.size → nameB (byt s k) = true) : partL s.data.toList = decide (s.size ≠ 0) := by
  have hall : (s.data.toList.all fun c => nameB c.toNat) = true := by
    rw [List.all_eq_true]
    intro c hc
    obtain ⟨k, hk⟩ := List.mem_iff_getElem?.1 hc
    have hlt : k < s.size := by rw [size_eq]; exact (List.getElem?_eq_some_iff.1 hk).1
    obtain ⟨c', hc', e⟩ := byt_some s k hlt
    rw [hk] at hc'
    cases hc'
    rw [e]
    exact h k hlt
  unfold partL
  rw [hall, Bool.and_true, size_eq]
  cases s.data.toList <;> simp

/-! ### What stands ahead of the last stroke -/
def upN (s : ByteArray) : Nat := (lastIndexByte s 47).toNat
def upS (s : ByteArray) : ByteArray := s.extract 0 (upN s)
theorem extract_zero (s : ByteArray) : s.extract 0 0 = ⟨#[]⟩ := by
  apply ByteArray.ext
  simp
theorem upN_le (s : ByteArray) : upN s ≤ s.size := by
  unfold upN
  rcases lastIndexByte_spec s 47 with ⟨h, _⟩ | ⟨i, hi, h, _⟩ <;> rw [h] <;> simp <;> omega
end Go.Proofs.YtcepcamedmiinaaGreatDoor.nam
namespace Go.Proofs.YtcepcamedmiinaaGreatDoor.nam
open Go.ChangeShapes Go.WideShapes Go.ChangeAt Go.RowKit
open Go.Lib (countB splitB)
set_option linter.unusedVariables false
set_option linter.unusedSimpArgs false

def slash : ByteArray := ⟨#[47]⟩
theorem small_any (w : World) (c : Nat) (hc : c < 256) :
    Calls Tryz.prog 17 #[.int .u8 (c : Nat)] w fun e w' => e = .returned (.int .u8 (low c : Nat)) ∧ w' = w := by
  unfold low
  by_cases h : 65 ≤ c ∧ c ≤ 90
  · rw [if_pos h]
    go_enter Tryz.func17, Tryz.ntmps17
    go_wp2
    go_ret
    exact ⟨by congr 1, rfl⟩
  · rw [if_neg h]
    go_enter Tryz.func17, Tryz.ntmps17
    go_wp2
    all_goals first | (exfalso; omega) | (go_ret; exact ⟨rfl, rfl⟩)

/-- The world has drawn, and nothing else. -/
def Drew (w w' : World) : Prop := ∃ n, w' = w.drewN n
theorem Drew.refl (w : World) : Drew w w := ⟨0, rfl⟩
theorem Drew.drewN {w w' : World} (h : Drew w w') (q : Nat) : Drew w (w'.drewN q) := by
  obtain ⟨n, rfl⟩ := h
  exact ⟨n + q, by rw [World.drewN_drewN]⟩
theorem Drew.below {w w' : World} (h : Drew w w') (B : Nat) : Below B w w' := by
  obtain ⟨n, rfl⟩ := h
  exact ⟨rfl, rfl, rfl, Nat.le_refl _, fun _ _ => rfl⟩

set_option maxHeartbeats 1600000 in
theorem alike_any (w : World) (s t : ByteArray) (hs : s.size ≤ 100000) (ht : t.size ≤ 100000) :
    Calls Tryz.prog 18 #[.string s, .string t] w fun e w' => e = .returned (.bool (alike s t)) ∧ Drew w w' := by
  by_cases hst : s.size = t.size
  · have HST := Lib.hid hst
    have hne : ((s.size : Int) != (t.size : Int)) = false := by simp [hst]
    clear hst
    go_enter Tryz.func18, Tryz.ntmps18
    go_wp2
    go_loopw [13] (fun i wr => ∃ k : Nat, k ≤ s.size ∧ i = .int .i64 k ∧ Hid (∀ j, j < k → (low (byt s j) == low (byt t j)) = true) ∧ Hid (Drew w wr)) (fun i _ => s.size - (intOf i).toNat)
    case atStart => exact ⟨0, Nat.zero_le _, rfl, fun j h => absurd h (Nat.not_lt_zero _), Drew.refl _⟩
    case round =>
      obtain ⟨k, hk, rfl, hh, hd⟩ := hrel
      by_cases hkl : k < s.size
      · have hkt : k < t.size := by have := HST.out; omega
        go_wp2
        have k1 : (0 : Int) ≤ (k : Int) := by omega
        have k2 : (k : Int) < (s.size : Int) := by omega
        have k3 : (k : Int) < (t.size : Int) := by omega
        go_quiet ((go_at_call 17; exact Calls.quiet_of_same (small_any _ _ (UInt8.toNat_lt _))))
        simp only [byt_at]
        cases hb : (low (byt s k) == low (byt t k))
        · have hb' : (((low (byt s k) : Nat) : Int) != ((low (byt t k) : Nat) : Int)) = true := by
            rw [bne_iff_ne]
            simp at hb
            omega
          go_wp2
          go_ret
          rw [alike_false s t k hkl hb]
          exact ⟨rfl, hd.out.drewN _⟩
        · have hb' : (((low (byt s k) : Nat) : Int) != ((low (byt t k) : Nat) : Int)) = false := by
            simp at hb
            simp [hb]
          have HB := Lib.hid hb
          clear hb
          go_wp2
          refine ⟨⟨k + 1, hkl, by simp, fun j hj => ?_, hd.out.drewN _⟩, by simp [intOf]; omega⟩
          rcases Nat.lt_succ_iff_lt_or_eq.1 hj with h' | rfl
          · exact hh.out j h'
          · exact HB.out
      · go_wp2
        go_ret
        rw [alike_true s t HST.out fun j hj => hh.out j (by omega)]
        exact ⟨rfl, hd.out⟩
  · rw [alike_size s t hst]
    go_enter Tryz.func18, Tryz.ntmps18
    go_wp2
    all_goals first | (exfalso; omega) | (go_ret; exact ⟨rfl, Drew.refl _⟩)
end Go.Proofs.YtcepcamedmiinaaGreatDoor.nam
namespace Go.Proofs.YtcepcamedmiinaaGreatDoor.nam
open Go.ChangeShapes Go.WideShapes Go.ChangeAt Go.RowKit
set_option linter.unusedVariables false
set_option linter.unusedSimpArgs false

theorem normS_bad (s : ByteArray) (h : normOk s = false) : normS s = ⟨#[]⟩ := by
  unfold normS
  rw [h]; rfl
theorem ok_bad (s : ByteArray) (h : goodL s.data.toList = false) : normOk s = false := by
  unfold normOk
  rw [h, Bool.and_false]

set_option maxHeartbeats 1600000 in
theorem rNorm_any (w : World) (s : ByteArray) (hs : s.size ≤ 100000) :
    Calls Tryz.prog 15 #[.string s] w fun e w' => e = .returned (.tuple #[.string (normS s), .bool (normOk s)]) ∧ Drew w w' := by
  go_enter Tryz.func15, Tryz.ntmps15
  go_wp2
  go_loop [9, 4] (fun vi vl => ∃ (k l : Nat), k ≤ s.size ∧ l < 256 ∧ vi = .int .i64 k ∧ vl = .int .u8 l ∧ Hid (runL true (s.data.toList.take k) = some (decide (l = 47)))) (fun vi _ => s.size - (intOf vi).toNat)
  case atStart => exact ⟨0, 47, Nat.zero_le _, by decide, rfl, rfl, show runL true (s.data.toList.take 0) = some (decide (47 = 47)) by simp [runL]⟩
  case round =>
    obtain ⟨k, l, hk, hl, rfl, rfl, hh⟩ := hrel
    by_cases hkl : k < s.size
    · obtain ⟨c, hc⟩ : ∃ c, byt s k = c := ⟨_, rfl⟩
      have hc256 : c < 256 := hc ▸ byt_lt s k
      have e1 : (s[k]).toNat = c := by rw [byt_at]; exact hc
      have HC := Lib.hid hc
      clear hc
      by_cases h47 : c = 47
      · subst h47
        by_cases hl47 : l = 47
        · subst hl47
          have hb := ok_bad s (run_stroke_stroke s k hkl (hh.out.trans (by simp)) HC.out)
          have hb2 := normS_bad s hb
          go_wp2
          go_ret2
          first | exact ⟨rfl, Drew.refl _⟩ | (rw [hb, hb2]; exact ⟨rfl, Drew.refl _⟩)
        · have hr := run_stroke s k hkl (hh.out.trans (by simp [hl47])) HC.out
          have HR := Lib.hid hr
          clear hr
          have hl47' : ((l : Int) == 47) = false := by simp; omega
          go_wp2
          exact ⟨⟨k + 1, 47, hkl, by decide, by simp, rfl, HR.out⟩, by simp [intOf]; omega⟩
      · obtain ⟨lc, hlc⟩ : ∃ lc, low c = lc := ⟨_, rfl⟩
        have hsm := fun w => small_any w c hc256
        rw [hlc] at hsm
        cases hn : nameB c
        · have hb := ok_bad s (run_bad s k hkl _ hh.out (by rw [HC.out]; exact h47) (by rw [HC.out]; exact hn))
          have hb2 := normS_bad s hb
          have h1 : c ≠ 46 ∧ c ≠ 95 ∧ c ≠ 45 ∧ ¬ (97 ≤ lc ∧ lc ≤ 122) ∧ ¬ (48 ≤ c ∧ c ≤ 57) := by
            unfold nameB at hn
            unfold low at hlc
            simp only [decide_eq_false_iff_not] at hn
            split at hlc <;> omega
          have g1 : ((c : Int) == 46) = false := by simp; omega
          have g2 : ((c : Int) == 95) = false := by simp; omega
          have g3 : ((c : Int) == 45) = false := by simp; omega
          have g4 : ((c : Int) == 47) = false := by simp; omega
          clear hn hlc
          go_wp2_with (go_at_call 17; refine (hsm _).mono ?_; rintro e w' ⟨rfl, rfl⟩)
          all_goals first
            | (exfalso; simp at *; omega)
            | (go_ret2; first | exact ⟨rfl, Drew.refl _⟩ | (rw [hb, hb2]; exact ⟨rfl, Drew.refl _⟩))
        · have hr := run_good s k hkl _ hh.out (by rw [HC.out]; exact h47) (by rw [HC.out]; exact hn)
          have hr' : runL true (s.data.toList.take (k + 1)) = some (decide (c = 47)) := by rw [hr]; simp [h47]
          have HR := Lib.hid hr'
          clear hr hr'
          have h1 : c = 46 ∨ c = 95 ∨ c = 45 ∨ (97 ≤ lc ∧ lc ≤ 122) ∨ (48 ≤ c ∧ c ≤ 57) := by
            unfold nameB at hn
            unfold low at hlc
            simp only [decide_eq_true_eq] at hn
            split at hlc <;> omega
          have H1 := Lib.hid h1
          clear hn hlc h1
          have g4 : ((c : Int) == 47) = false := by simp; omega
          go_wp2_with (go_at_call 17; refine (hsm _).mono ?_; rintro e w' ⟨rfl, rfl⟩)
          all_goals first
            | exact ⟨⟨k + 1, c, hkl, hc256, by simp, by first | rfl | (congr 1; omega), HR.out⟩, by simp [intOf]; omega⟩
            | (exfalso; have h1 := H1.out; simp at *; omega)
    · have hend := run_end s _ (by rw [show s.size = k by omega]; exact hh.out)
      have hin : (⟨#[105, 110, 98, 111, 120]⟩ : ByteArray) = inbox := rfl
      have hk60 : normOk s = (decide (s.size ≤ 60) && !decide (l = 47)) := by unfold normOk; rw [hend]
      by_cases hl47 : l = 47
      · subst hl47
        have hb : normOk s = false := by rw [hk60]; simp
        have hb2 := normS_bad s hb
        clear hk60
        go_wp2
        go_ret2
        first | exact ⟨rfl, Drew.refl _⟩ | (rw [hb, hb2]; exact ⟨rfl, Drew.refl _⟩)
      · have hl47' : ((l : Int) == 47) = false := by simp; omega
        by_cases h60 : s.size ≤ 60
        · have hb : normOk s = true := by rw [hk60]; simp [h60, hl47]
          have hb2 : normS s = if alike s inbox then INBOX else s := by unfold normS; rw [hb]; rfl
          clear hk60
          cases ha : alike s inbox
          · have hb3 : normS s = s := by rw [hb2, ha]; rfl
            clear hb2
            have HA := Lib.hid ha
            clear ha
            go_wp2_with (go_at_call 18; refine (alike_any _ s inbox hs (by decide)).mono ?_; rintro e w' ⟨rfl, hd⟩; rw [HA.out])
            go_ret2
            first | exact ⟨rfl, hd⟩ | (rw [hb, hb3]; exact ⟨rfl, hd⟩)
          · have hb3 : normS s = INBOX := by rw [hb2, ha]; rfl
            clear hb2
            have HA := Lib.hid ha
            clear ha
            go_wp2_with (go_at_call 18; refine (alike_any _ s inbox hs (by decide)).mono ?_; rintro e w' ⟨rfl, hd⟩; rw [HA.out])
            go_ret2
            first | exact ⟨rfl, hd⟩ | (rw [hb, hb3]; exact ⟨rfl, hd⟩)
        · have hb : normOk s = false := by rw [hk60]; simp [h60]
          have hb2 := normS_bad s hb
          clear hk60
          go_wp2
          go_ret2
          first | exact ⟨rfl, Drew.refl _⟩ | (rw [hb, hb2]; exact ⟨rfl, Drew.refl _⟩)
end Go.Proofs.YtcepcamedmiinaaGreatDoor.nam
namespace Go.Proofs.YtcepcamedmiinaaGreatDoor.nam
open Go.ChangeShapes Go.WideShapes Go.ChangeAt Go.RowKit
set_option linter.unusedVariables false
set_option linter.unusedSimpArgs false

/-- What the library's search asks of its own variable. -/
def Room (w : World) : Prop := ∃ m, w.cell? ⟨1, 0, none⟩ = some (.int .i64 m)
theorem Room.below {w w' : World} (h : Room w) (hb : Below w.heap.size w w') : Room w' := by
  obtain ⟨m, hm⟩ := h
  exact ⟨m, (hb.cell (block_lt_of_cell hm)).trans hm⟩

theorem Room.of_shape {w : World} (h : w.ShapedOpen Tryz.prog) : Room w :=
  cell_of_shapedOpen_int (t := 3) (zero := #[.int .i64 0]) h (of_decide_eq_true (by kernel_rfl)) (by kernel_rfl) rfl (by kernel_rfl) (by kernel_rfl) Tryz.underlying3
end Go.Proofs.YtcepcamedmiinaaGreatDoor.nam
