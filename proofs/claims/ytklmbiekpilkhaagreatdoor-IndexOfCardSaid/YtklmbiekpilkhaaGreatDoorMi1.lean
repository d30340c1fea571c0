/- What is made of logs: numbers that rise, trees, indices and flags as bytes and back: plain mathematics. -/
import Derived.Test.YtklmbiekpilkhaaGreatDoorMc0
import Derived.Lib.SlicesCompact
import Derived.Sort.EncStr
import Derived.Test.YtklmbiekpilkhaaGreatDoorMc1
import Derived.Sort.OwnSorted
namespace Go.Proofs.YtklmbiekpilkhaaGreatDoor.idx
open Go.Proofs.YtklmbiekpilkhaaGreatDoor.codec (bytesOf byteAt bytesOf_length bytesOf_lt strOf numOf numFrom numOf_take numOf_lt numOf_bytes strOf_size)
open Go.Proofs.YtklmbiekpilkhaaGreatDoor.rd (got rest)
open Go.Proofs.YtklmbiekpilkhaaGreatDoor.bod (named nums txt nums_length nums_lt strOf_nums nums_strOf bytesOf_take)
set_option linter.unusedVariables false
set_option linter.unusedSimpArgs false

/-- A place: a number and a name. -/
structure P where
  n : Int
  s : ByteArray
/-- An entry, or a mark: a UID and a number. -/
structure E where
  u : Nat
  a : Int

/-! ### Numbers that rise -/
def up (f : Int) (l : List Int) : Int × Bool := l.foldl (fun st n => (n, st.2 && decide (st.1 < n))) (f, true)
theorem up_snoc (f : Int) (l : List Int) (n : Int) : up f (l ++ [n]) = (n, (up f l).2 && decide ((up f l).1 < n)) := by
  unfold up
  rw [List.foldl_append]
  rfl
theorem fold_no : ∀ (l : List Int) (st : Int × Bool), st.2 = false → (l.foldl (fun st n => (n, st.2 && decide (st.1 < n))) st).2 = false
  | [], st, h => h
  | n :: r, st, h => fold_no r _ (by simp [h])
theorem up_stop {f : Int} {l : List Int} {i : Nat} (h : (up f (l.take i)).2 = false) : (up f l).2 = false := by
  have e : up f l = (l.drop i).foldl (fun st n => (n, st.2 && decide (st.1 < n))) (up f (l.take i)) := by
    conv => lhs; rw [← List.take_append_drop i l]
    unfold up
    rw [List.foldl_append]
  rw [e]
  exact fold_no _ _ h
theorem take_next {α : Type} {l : List α} {i : Nat} {x : α} (h : l[i]? = some x) : l.take (i + 1) = l.take i ++ [x] := by
  rw [List.take_add_one, h]
  rfl

/-! ### Names, none of which is there twice -/
def boxesB (l : List ByteArray) : Bool := decide l.Nodup && l.any fun x => decide (x = nam.INBOX)
def rawL (s : ByteArray) : List UInt8 := s.data.toList
theorem rawL_inj {s t : ByteArray} (h : rawL s = rawL t) : s = t := by
  obtain ⟨⟨s⟩⟩ := s
  obtain ⟨⟨t⟩⟩ := t
  simp [rawL] at h
  rw [h]
def leB (x y : List UInt8) : Bool := decide (x ≤ y)
theorem sorted_nodup (l : List (List UInt8)) : decide ((Lib.compact (l.mergeSort fun x y => decide (x ≤ y))).length = l.length) = decide l.Nodup := by
  have hp : (l.mergeSort fun x y => decide (x ≤ y)).Perm l := List.mergeSort_perm l _
  have hs : (l.mergeSort fun x y => decide (x ≤ y)).Pairwise (fun x y => decide (x ≤ y) = true) :=
    List.pairwise_mergeSort (fun a b c h1 h2 => by simp at h1 h2 ⊢; exact List.le_trans h1 h2) (fun a b => by simpa using List.le_total a b) l
  rw [decide_eq_decide, ← hp.nodup_iff, ← hp.length_eq]
  generalize (l.mergeSort fun x y => decide (x ≤ y)) = t at *
  clear hp
  have hlen : (Lib.compact t).length = t.length ↔ ∀ j, j < t.length → Lib.keeps t.toArray j = true := by
    unfold Lib.compact Lib.compactUpTo
    rw [List.length_map]
    constructor
    · intro h j hj
      have := (List.length_filter_eq_length_iff (p := Lib.keeps t.toArray) (l := List.range t.length)).1 (by rw [h, List.length_range])
      exact this j (List.mem_range.2 hj)
    · intro h
      rw [List.length_filter_eq_length_iff.2 (fun j hj => h j (List.mem_range.1 hj)), List.length_range]
  rw [hlen, List.nodup_iff_pairwise_ne, List.pairwise_iff_getElem]
  rw [List.pairwise_iff_getElem] at hs
  constructor
  · intro h i j hi hj hij e
    have hk := h j hj
    have h1 := hs i (j - 1)
    have h2 := hs (j - 1) j (by omega) hj (by omega)
    simp only [Lib.keeps, decide_eq_true_eq] at hk h2
    rcases hk with hk | hk
    · omega
    · apply hk
      simp only [getElem!_pos, List.getElem_toArray, List.size_toArray, hj, show j - 1 < t.length by omega]
      by_cases hij' : i = j - 1
      · subst hij'
        exact e.symm
      · have h1 := hs i (j - 1) hi (by omega) (by omega)
        simp only [decide_eq_true_eq] at h1
        rw [e] at h1
        exact List.le_antisymm h1 h2
  · intro h j hj
    simp only [Lib.keeps, decide_eq_true_eq]
    by_cases hj0 : j = 0
    · exact Or.inl hj0
    · refine Or.inr fun e => ?_
      simp only [getElem!_pos, List.getElem_toArray, List.size_toArray, hj, show j - 1 < t.length by omega] at e
      exact h (j - 1) j (by omega) hj (by omega) e.symm
theorem nodup_raw (l : List ByteArray) : decide (l.map rawL).Nodup = decide l.Nodup := by
  rw [decide_eq_decide]
  constructor
  · intro h
    rw [List.nodup_iff_pairwise_ne, List.pairwise_map] at h
    exact List.nodup_iff_pairwise_ne.2 (h.imp fun hne e => hne (by rw [e]))
  · intro h
    rw [List.nodup_iff_pairwise_ne, List.pairwise_map]
    exact (List.nodup_iff_pairwise_ne.1 h).imp fun hne e => hne (rawL_inj e)
theorem any_sorted (l : List (List UInt8)) (q : List UInt8 → Bool) : (l.mergeSort fun x y => decide (x ≤ y)).any q = l.any q := by
  rw [Bool.eq_iff_iff, List.any_eq_true, List.any_eq_true]
  constructor
  · rintro ⟨y, hy, e⟩
    exact ⟨y, (List.mergeSort_perm l _).mem_iff.1 hy, e⟩
  · rintro ⟨y, hy, e⟩
    exact ⟨y, (List.mergeSort_perm l _).mem_iff.2 hy, e⟩

/-! ### Things, one behind the other, as bytes and back -/
structure Item {α : Type} (enc : α → List Nat) (wf : α → Prop) (one : Option (List Nat) → α × Option (List Nat)) : Prop where
  back : ∀ x t, wf x → one (some (enc x ++ t)) = (x, some t)
  says : ∀ l x t, (∀ b ∈ l, b < 256) → one (some l) = (x, some t) → l = enc x ++ t
def readG {α : Type} (one : Option (List Nat) → α × Option (List Nat)) : Nat → Option (List Nat) → List α × Option (List Nat)
  | 0, L => ([], L)
  | _ + 1, none => ([], none)
  | k + 1, some l => ((one (some l)).1 :: (readG one k (one (some l)).2).1, (readG one k (one (some l)).2).2)
theorem read_back {α : Type} {enc : α → List Nat} {wf : α → Prop} {one : Option (List Nat) → α × Option (List Nat)} (I : Item enc wf one) : ∀ (xs : List α) (t : List Nat), (∀ x ∈ xs, wf x) → readG one xs.length (some (xs.flatMap enc ++ t)) = (xs, some t)
  | [], t, h => rfl
  | x :: r, t, h => by
    have e : (x :: r).flatMap enc ++ t = enc x ++ (r.flatMap enc ++ t) := by simp
    rw [e, List.length_cons, readG, I.back x _ (h x (by simp)), read_back I r t (fun y hy => h y (by simp [hy]))]
theorem read_says {α : Type} {enc : α → List Nat} {wf : α → Prop} {one : Option (List Nat) → α × Option (List Nat)} (I : Item enc wf one) : ∀ (k : Nat) (l : List Nat) (xs : List α) (t : List Nat), (∀ b ∈ l, b < 256) → readG one k (some l) = (xs, some t) → l = xs.flatMap enc ++ t ∧ xs.length = k
  | 0, l, xs, t, hl, h => by
    simp only [readG, Prod.mk.injEq, Option.some.injEq] at h
    obtain ⟨rfl, rfl⟩ := h
    exact ⟨rfl, rfl⟩
  | k + 1, l, xs, t, hl, h => by
    rw [readG] at h
    cases ho : (one (some l)).2 with
    | none =>
      rw [ho] at h
      cases k <;> simp [readG] at h
    | some m =>
      rw [ho] at h
      have h1 := I.says l _ m hl (Prod.ext rfl ho)
      have hm : ∀ b ∈ m, b < 256 := fun b hb => hl b (by rw [h1]; simp [hb])
      simp only [Prod.mk.injEq] at h
      obtain ⟨e1, e2⟩ := h
      obtain ⟨e3, e4⟩ := read_says I k m _ t hm (Prod.ext rfl e2)
      subst e1
      refine ⟨?_, by simp [e4]⟩
      rw [List.flatMap_cons, List.append_assoc, ← e3]
      exact h1
theorem read_none {α : Type} (one : Option (List Nat) → α × Option (List Nat)) (k : Nat) : readG one k none = ([], none) := by cases k <;> rfl
theorem read_len {α : Type} (one : Option (List Nat) → α × Option (List Nat)) : ∀ (k : Nat) (L : Option (List Nat)), (readG one k L).1.length ≤ k
  | 0, L => Nat.le_refl _
  | k + 1, none => Nat.zero_le _
  | k + 1, some l => by simpa [readG] using read_len one k (one (some l)).2

/-! ### Pieces -/
theorem got_some {k : Nat} {l t : List Nat} (h : rest k (some l) = some t) : l = got k (some l) ++ t ∧ (got k (some l)).length = k := by
  simp only [rest] at h
  split at h
  · rename_i hk
    cases h
    simp only [got, if_pos hk]
    exact ⟨(List.take_append_drop k l).symm, by simp; omega⟩
  · simp at h
theorem rest_inv {k : Nat} {L : Option (List Nat)} {t : List Nat} (h : rest k L = some t) : ∃ l, L = some l := by
  cases L with
  | none => simp [rest] at h
  | some l => exact ⟨l, rfl⟩
theorem got_app {k : Nat} {a t : List Nat} (h : a.length = k) : got k (some (a ++ t)) = a ∧ rest k (some (a ++ t)) = some t := by
  subst h
  simp [got, rest]
/-- A number of k bytes, read and written. -/
theorem num_says {k : Nat} {l t : List Nat} (hl : ∀ b ∈ l, b < 256) (h : rest k (some l) = some t) : l = bytesOf (numOf (got k (some l))) k ++ t ∧ ∀ b ∈ t, b < 256 := by
  obtain ⟨h1, h2⟩ := got_some h
  have hg : ∀ b ∈ got k (some l), b < 256 := fun b hb => hl b (by rw [h1]; simp [hb])
  have := bytesOf_take hg k (by omega)
  rw [List.take_of_length_le (by omega)] at this
  rw [this]
  exact ⟨h1, fun b hb => hl b (by rw [h1]; simp [hb])⟩
theorem num_back {v k : Nat} {t : List Nat} (hv : v < 256 ^ k) : numOf (got k (some (bytesOf v k ++ t))) = v ∧ rest k (some (bytesOf v k ++ t)) = some t := by
  obtain ⟨h1, h2⟩ := got_app (k := k) (a := bytesOf v k) (t := t) (bytesOf_length v k)
  rw [h1]
  exact ⟨numOf_bytes v k hv, h2⟩
/-- A text, as it is read: the text, and what is left. -/
def tx (L : Option (List Nat)) : ByteArray := strOf (got (numOf (got 2 L)) (rest 2 L))
def lt (L : Option (List Nat)) : Option (List Nat) := rest (numOf (got 2 L)) (rest 2 L)
theorem txt_says {l t : List Nat} (hl : ∀ b ∈ l, b < 256) (h : lt (some l) = some t) : l = txt (tx (some l)) ++ t ∧ ∀ b ∈ t, b < 256 := by
  unfold lt at h
  obtain ⟨m, hm⟩ := rest_inv h
  obtain ⟨h1, hmb⟩ := num_says hl hm
  rw [hm] at h
  obtain ⟨h2, h3⟩ := got_some h
  have hg : ∀ b ∈ got (numOf (got 2 (some l))) (some m), b < 256 := fun b hb => hmb b (by rw [h2]; simp [hb])
  refine ⟨?_, fun b hb => hmb b (by rw [h2]; simp [hb])⟩
  unfold tx txt
  rw [hm, strOf_size, h3, nums_strOf hg, List.append_assoc, ← h2]
  exact h1
theorem txt_back {s : ByteArray} {t : List Nat} (hs : s.size < 65536) : tx (some (txt s ++ t)) = s ∧ lt (some (txt s ++ t)) = some t := by
  unfold tx lt txt
  rw [List.append_assoc]
  obtain ⟨h1, h2⟩ := num_back (v := s.size) (k := 2) (t := nums s ++ t) (by simp; omega)
  rw [h1, h2]
  obtain ⟨h3, h4⟩ := got_app (k := s.size) (a := nums s) (t := t) (nums_length s)
  rw [h3, h4, strOf_nums]
  exact ⟨rfl, rfl⟩
/-! ### Trees -/
def encP (p : P) : List Nat := bytesOf p.n.toNat 1 ++ txt p.s
def wfP (p : P) : Prop := 0 ≤ p.n ∧ p.n < 256 ∧ p.s.size < 65536
def oneP (L : Option (List Nat)) : P × Option (List Nat) := (⟨(numOf (got 1 L) : Nat), tx (rest 1 L)⟩, lt (rest 1 L))
theorem itemP : Item encP wfP oneP where
  back := by
    rintro ⟨n, s⟩ t ⟨h0, h1, h2⟩
    obtain ⟨v, rfl⟩ := Int.eq_ofNat_of_zero_le h0
    unfold encP oneP
    simp only [Int.toNat_natCast] at *
    rw [List.append_assoc]
    obtain ⟨e1, e2⟩ := num_back (v := v) (k := 1) (t := txt s ++ t) (by simp; omega)
    rw [e1, e2]
    obtain ⟨e3, e4⟩ := txt_back (s := s) (t := t) h2
    rw [e3, e4]
  says := by
    rintro l ⟨n, s⟩ t hl h
    simp only [oneP, Prod.mk.injEq, P.mk.injEq] at h
    obtain ⟨⟨rfl, rfl⟩, h⟩ := h
    have h' := h
    unfold lt at h'
    obtain ⟨m1, hm1⟩ := rest_inv h'
    obtain ⟨m, hm⟩ := rest_inv hm1
    rw [hm] at h ⊢
    obtain ⟨e1, hmb⟩ := num_says hl hm
    obtain ⟨e2, _⟩ := txt_says hmb h
    unfold encP
    simp only [Int.toNat_natCast]
    rw [List.append_assoc, ← e2]
    exact e1
def treeB (l : List P) : Bool := (up (-1) (l.map P.n)).2 && (!(l.any fun p => decide (16 ≤ p.n) || !named p.s) && boxesB (l.map P.s))
def treeL (l : List P) : List Nat := bytesOf l.length 1 ++ l.flatMap encP
def readT (l : List Nat) : List P × Option (List Nat) := readG oneP (numOf (got 1 (some l))) (rest 1 (some l))
theorem tree_back {l : List P} (h : ∀ p ∈ l, wfP p) (hl : l.length < 256) : readT (treeL l) = (l, some []) := by
  unfold readT treeL
  obtain ⟨h1, h2⟩ := num_back (v := l.length) (k := 1) (t := l.flatMap encP) (by simp; omega)
  rw [h1, h2]
  have := read_back itemP l [] h
  rwa [List.append_nil] at this
theorem tree_says {l : List Nat} {xs : List P} (hl : ∀ b ∈ l, b < 256) (h : readT l = (xs, some [])) : treeL xs = l := by
  unfold readT at h
  cases hr : rest 1 (some l) with
  | none =>
    rw [hr, read_none] at h
    cases h
  | some m =>
    obtain ⟨e1, hm⟩ := num_says hl hr
    rw [hr] at h
    obtain ⟨e2, e3⟩ := read_says itemP _ m xs [] hm h
    unfold treeL
    rw [e3]
    rw [List.append_nil] at e2
    rw [← e2]
    exact e1.symm
/-! ### Indices, and flags -/
def encE (k : Nat) (e : E) : List Nat := bytesOf e.u 4 ++ bytesOf e.a.toNat k
def wfE (k : Nat) (e : E) : Prop := e.u < 4294967296 ∧ 0 ≤ e.a ∧ e.a.toNat < 256 ^ k
def oneE (k : Nat) (L : Option (List Nat)) : E × Option (List Nat) := (⟨numOf (got 4 L), (numOf (got k (rest 4 L)) : Nat)⟩, rest k (rest 4 L))
theorem itemE (k : Nat) : Item (encE k) (wfE k) (oneE k) where
  back := by
    rintro ⟨u, a⟩ t ⟨h0, h1, h2⟩
    obtain ⟨v, rfl⟩ := Int.eq_ofNat_of_zero_le h1
    unfold encE oneE
    simp only [Int.toNat_natCast] at *
    rw [List.append_assoc]
    obtain ⟨e1, e2⟩ := num_back (v := u) (k := 4) (t := bytesOf v k ++ t) (by simp; omega)
    rw [e1, e2]
    obtain ⟨e3, e4⟩ := num_back (v := v) (k := k) (t := t) h2
    rw [e3, e4]
  says := by
    rintro l ⟨u, a⟩ t hl h
    simp only [oneE, Prod.mk.injEq, E.mk.injEq] at h
    obtain ⟨⟨rfl, rfl⟩, h⟩ := h
    obtain ⟨m, hm⟩ := rest_inv h
    rw [hm] at h ⊢
    obtain ⟨e1, hmb⟩ := num_says hl hm
    obtain ⟨e2, _⟩ := num_says hmb h
    unfold encE
    simp only [Int.toNat_natCast]
    rw [List.append_assoc, ← e2]
    exact e1
/-- What follows the head: a count of two bytes, and things. -/
def restL (k : Nat) (l : List E) : List Nat := bytesOf l.length 2 ++ l.flatMap (encE k)
def readR (k : Nat) (L : Option (List Nat)) : List E × Option (List Nat) := readG (oneE k) (numOf (got 2 L)) (rest 2 L)
theorem rest_back {k : Nat} {l : List E} (h : ∀ p ∈ l, wfE k p) (hl : l.length < 65536) : readR k (some (restL k l)) = (l, some []) := by
  unfold readR restL
  obtain ⟨h1, h2⟩ := num_back (v := l.length) (k := 2) (t := l.flatMap (encE k)) (by simp; omega)
  rw [h1, h2]
  have := read_back (itemE k) l [] h
  rwa [List.append_nil] at this
theorem rest_says {k : Nat} {L : Option (List Nat)} {xs : List E} (hl : ∀ l, L = some l → ∀ b ∈ l, b < 256) (h : readR k L = (xs, some [])) : L = some (restL k xs) := by
  unfold readR at h
  cases hr : rest 2 L with
  | none =>
    rw [hr, read_none] at h
    cases h
  | some m =>
    obtain ⟨l, rfl⟩ := rest_inv hr
    obtain ⟨e1, hm⟩ := num_says (hl l rfl) hr
    rw [hr] at h
    obtain ⟨e2, e3⟩ := read_says (itemE k) _ m xs [] hm h
    unfold restL
    rw [e3]
    rw [List.append_nil] at e2
    rw [← e2]
    exact congrArg some e1
def placeB (a : Int) : Bool := decide (0 ≤ a) && decide (a ≤ 4294967295)
def belowB (u x : Nat) : Bool := decide (u < x) || decide (x = 4294967295)
def entriesB (l : List E) (x : Nat) : Bool := decide (l.length ≤ 500) && ((up 0 (l.map fun e => (e.u : Int))).2 && !(l.any fun e => !belowB e.u x || !placeB e.a))
def flagsB (a : Int) : Bool := decide (0 ≤ a ∧ a < 32)
def marksB (l : List E) : Bool := decide (l.length ≤ 500) && ((up 0 (l.map fun e => (e.u : Int))).2 && !(l.any fun e => !flagsB e.a))
def indexB (s : ByteArray) (e x : Nat) (t : Int) (l : List E) : Bool := named s && (decide (e ≠ 0) && (decide (x ≠ 0) && (placeB t && entriesB l x)))
def indexL (s : ByteArray) (e x : Nat) (t : Nat) (l : List E) : List Nat := txt s ++ (bytesOf e 4 ++ (bytesOf x 4 ++ (bytesOf t 4 ++ restL 4 l)))
def flsB (e : Nat) (l : List E) : Bool := decide (e ≠ 0) && marksB l
def flsL (e : Nat) (l : List E) : List Nat := bytesOf e 4 ++ restL 1 l
/-- What is left behind the parts of an index's head. -/
def iN (l : List Nat) : Option (List Nat) := lt (some l)
def iE (l : List Nat) : Option (List Nat) := rest 4 (iN l)
def iX (l : List Nat) : Option (List Nat) := rest 4 (iE l)
def iT (l : List Nat) : Option (List Nat) := rest 4 (iX l)
theorem rest_read {k : Nat} {L : Option (List Nat)} {xs : List E} (h : readR k L = (xs, some [])) : ∃ l, L = some l := by
  unfold readR at h
  cases hr : rest 2 L with
  | none =>
    rw [hr, read_none] at h
    cases h
  | some m => exact rest_inv hr
theorem index_says {l : List Nat} {xs : List E} (hl : ∀ b ∈ l, b < 256) (h : readR 4 (iT l) = (xs, some [])) : indexL (tx (some l)) (numOf (got 4 (iN l))) (numOf (got 4 (iE l))) (numOf (got 4 (iX l))) xs = l := by
  obtain ⟨m4, h4⟩ := rest_read h
  obtain ⟨m3, h3⟩ := rest_inv (show rest 4 (iX l) = some m4 from h4)
  obtain ⟨m2, h2⟩ := rest_inv (show rest 4 (iE l) = some m3 from h3)
  obtain ⟨m1, h1⟩ := rest_inv (show rest 4 (iN l) = some m2 from h2)
  obtain ⟨e1, b1⟩ := txt_says hl (show lt (some l) = some m1 from h1)
  have k2 : rest 4 (some m1) = some m2 := by rw [← h1]; exact h2
  have k3 : rest 4 (some m2) = some m3 := by rw [← h2]; exact h3
  have k4 : rest 4 (some m3) = some m4 := by rw [← h3]; exact h4
  obtain ⟨e2, b2⟩ := num_says b1 k2
  obtain ⟨e3, b3⟩ := num_says b2 k3
  obtain ⟨e4, b4⟩ := num_says b3 k4
  rw [h4] at h
  have e5 := rest_says (fun m hm => by cases hm; exact b4) h
  unfold indexL
  rw [h1, h2, h3]
  cases e5
  rw [← e4, ← e3, ← e2, ← e1]
theorem fls_says {l : List Nat} {xs : List E} (hl : ∀ b ∈ l, b < 256) (h : readR 1 (rest 4 (some l)) = (xs, some [])) : flsL (numOf (got 4 (some l))) xs = l := by
  obtain ⟨m, hm⟩ := rest_read h
  obtain ⟨e1, b1⟩ := num_says hl hm
  rw [hm] at h
  have e5 := rest_says (fun m hm => by cases hm; exact b1) h
  unfold flsL
  cases e5
  rw [← e1]
end Go.Proofs.YtklmbiekpilkhaaGreatDoor.idx
namespace Go.Proofs.YtklmbiekpilkhaaGreatDoor.idx
open Go.ChangeShapes Go.WideShapes Go.ChangeAt Go.RowKit
open Go.Proofs.YtklmbiekpilkhaaGreatDoor.row
set_option linter.unusedVariables false
set_option maxRecDepth 100000
set_option linter.unusedSimpArgs false

def cP (p : P) : List Value := [.int .i64 p.n, .string p.s]
def cE (e : E) : List Value := [.int .u32 (e.u : Nat), .int .i64 e.a]
def cS (s : ByteArray) : List Value := [.string s]
theorem fP : Fm cP 2 := ⟨fun _ => rfl, fun y u hu => by simp [cP] at hu; rcases hu with rfl | rfl <;> rfl⟩
theorem fE : Fm cE 2 := ⟨fun _ => rfl, fun y u hu => by simp [cE] at hu; rcases hu with rfl | rfl <;> rfl⟩
theorem fS : Fm cS 1 := ⟨fun _ => rfl, fun y u hu => by simp [cS] at hu; subst hu; rfl⟩
theorem flS (l : List ByteArray) : fl cS l = l.map Value.string := by
  induction l with
  | nil => rfl
  | cons x r ih => rw [fl, List.flatMap_cons, List.map_cons, ← ih]; rfl
theorem atP {w : World} {A : Option Addr} {n : Nat} {ys : List P} (h : Rd cP 2 w A n ys) (k : Nat) (hk : k < n) : ∃ b o y, A = some ⟨b, o, none⟩ ∧ ys[k]? = some y ∧ w.cell? ⟨b, o + k * 2, none⟩ = some (.int .i64 y.n) ∧ w.cell? ⟨b, o + k * 2 + 1, none⟩ = some (.string y.s) := by
  obtain ⟨b, o, y, h1, h2, h3⟩ := h.2 k hk
  exact ⟨b, o, y, h1, h2, h3 0 _ rfl, h3 1 _ rfl⟩
theorem atE {w : World} {A : Option Addr} {n : Nat} {ys : List E} (h : Rd cE 2 w A n ys) (k : Nat) (hk : k < n) : ∃ b o y, A = some ⟨b, o, none⟩ ∧ ys[k]? = some y ∧ w.cell? ⟨b, o + k * 2, none⟩ = some (.int .u32 (y.u : Nat)) ∧ w.cell? ⟨b, o + k * 2 + 1, none⟩ = some (.int .i64 y.a) := by
  obtain ⟨b, o, y, h1, h2, h3⟩ := h.2 k hk
  exact ⟨b, o, y, h1, h2, h3 0 _ rfl, h3 1 _ rfl⟩
theorem atS {w : World} {A : Option Addr} {n : Nat} {ys : List ByteArray} (h : Rd cS 1 w A n ys) (k : Nat) (hk : k < n) : ∃ b o y, A = some ⟨b, o, none⟩ ∧ ys[k]? = some y ∧ w.cell? ⟨b, o + k, none⟩ = some (.string y) := by
  obtain ⟨b, o, y, h1, h2, h3⟩ := h.2 k hk
  exact ⟨b, o, y, h1, h2, by have := h3 0 _ rfl; simpa using this⟩
theorem map_at {α β : Type} {ys : List α} {k : Nat} {y : α} (f : α → β) (h : ys[k]? = some y) : (ys.map f)[k]? = some (f y) := by rw [List.getElem?_map, h]; rfl

/-- A name of any length: what is as it should be. -/
theorem norm_long (w : World) (s : ByteArray) (hs : ¬ s.size ≤ 60) :
    Calls Tryz.prog 68 #[.string s] w fun e w' => e = .returned (.tuple #[.string ⟨#[]⟩, .bool false]) ∧ Below w.heap.size w w' := by
  have hI : Calls Tryz.prog 99 #[.string s] w fun e w' => e = .returned (.bool false) ∧ Below w.heap.size w w' := by
    go_enter Tryz.func99, Tryz.ntmps99
    go_wp2
    go_ret
    exact ⟨rfl, Below.refl _ _⟩
  have HI := Lib.hid hI
  clear hI
  go_enter Tryz.func68, Tryz.ntmps68
  go_wp2_with (go_at_call 99; refine HI.out.mono ?_; rintro e w1 ⟨rfl, hb⟩)
  go_ret2
  exact ⟨rfl, hb⟩
theorem norm_all (w : World) (s : ByteArray) (hr : nam.Room w) :
    Calls Tryz.prog 68 #[.string s] w fun e w' => e = .returned (.tuple #[.string (nam.normS s), .bool (nam.normOk s)]) ∧ Below w.heap.size w w' := by
  by_cases hs : s.size ≤ 60
  · exact nam.normR w s (by omega) hr
  · have h0 : nam.normOk s = false := by simp [nam.normOk, hs]
    have h1 : nam.normS s = ⟨#[]⟩ := by simp [nam.normS, h0]
    rw [h0, h1]
    exact norm_long w s hs
theorem isName_any (w : World) (s : ByteArray) (hr : nam.Room w) :
    Calls Tryz.prog 41 #[.string s] w fun e w' => e = .returned (.bool (bod.named s)) ∧ Below w.heap.size w w' := by
  have hN := norm_all w s hr
  unfold bod.named
  generalize nam.normS s = t at *
  generalize nam.normOk s = b at *
  have HN := Lib.hid hN
  clear hN hr
  cases b
  · go_enter Tryz.func41, Tryz.ntmps41
    go_wp2_with (go_at_call 68; refine HN.out.mono ?_; rintro e w1 ⟨rfl, hb⟩)
    go_ret
    exact ⟨rfl, hb⟩
  · by_cases hts : t = s
    · subst hts
      rw [decide_eq_true rfl]
      go_enter Tryz.func41, Tryz.ntmps41
      go_wp2_with (go_at_call 68; refine HN.out.mono ?_; rintro e w1 ⟨rfl, hb⟩)
      go_ret
      exact ⟨rfl, hb⟩
    · rw [decide_eq_false hts]
      have hne := rd.str_ne hts
      clear hts
      go_enter Tryz.func41, Tryz.ntmps41
      go_wp2_with (go_at_call 68; refine HN.out.mono ?_; rintro e w1 ⟨rfl, hb⟩)
      go_ret
      exact ⟨by simpa [ByteArray.toList_eq] using hne, hb⟩
theorem number_any (w : World) (m : Int) (s : ByteArray) :
    Calls Tryz.prog 47 #[.agg #[.int .i64 m, .string s]] w fun e w' => e = .returned (.int .i64 m) ∧ Below w.heap.size w w' := by
  go_enter Tryz.func47, Tryz.ntmps47
  go_wp2
  go_ret
  exact ⟨rfl, (Below.refl _ _).alloc (Nat.le_refl _) _⟩
def wrongP (p : P) : Bool := decide (16 ≤ p.n) || !bod.named p.s
theorem wrongP_any (w : World) (m : Int) (s : ByteArray) (hr : nam.Room w) :
    Calls Tryz.prog 45 #[.agg #[.int .i64 m, .string s]] w fun e w' => e = .returned (.bool (wrongP ⟨m, s⟩)) ∧ Below w.heap.size w w' := by
  have HN := Lib.hid (isName_any (w.alloc (.cells #[.int .i64 m, .string s] 68)) s (hr.below ((Below.refl _ _).alloc (Nat.le_refl _) _)))
  unfold wrongP
  clear hr
  by_cases hm : 16 ≤ m
  · have hd : decide ((16 : Int) ≤ m) = true := decide_eq_true hm
    rw [hd]
    go_enter Tryz.func45, Tryz.ntmps45
    go_wp2
    go_ret
    exact ⟨rfl, (Below.refl _ _).alloc (Nat.le_refl _) _⟩
  · have hd : decide ((16 : Int) ≤ m) = false := decide_eq_false hm
    rw [hd]
    go_enter Tryz.func45, Tryz.ntmps45
    go_wp2_with (go_at_call 41; refine HN.out.mono ?_; rintro e w1 ⟨rfl, hb⟩)
    go_ret
    exact ⟨rfl, (boxed hb).2⟩
end Go.Proofs.YtklmbiekpilkhaaGreatDoor.idx
namespace Go.Proofs.YtklmbiekpilkhaaGreatDoor.idx
open Go.ChangeShapes Go.WideShapes Go.ChangeAt Go.RowKit
open Go.Proofs.YtklmbiekpilkhaaGreatDoor.row
set_option linter.unusedVariables false
set_option maxRecDepth 100000
set_option linter.unusedSimpArgs false

set_option maxHeartbeats 1000000 in
theorem riseP_any (W : World) (A : Option Addr) (n c : Nat) (ps : List P) (hR : Rd cP 2 W A n ps) (hn : n ≤ 1000000) :
    Calls Tryz.prog 46 #[.slice A n c, .int .i64 0, .func (.func 47) #[] #[]] W fun e w' => e = .returned (.bool (up (-1) (ps.map P.n)).2) ∧ Below W.heap.size W w' := by
  have HR := Lib.hid hR
  clear hR
  go_enter Tryz.func46, Tryz.ntmps46
  go_wp2
  go_loopw [7, 15] (fun s i wr => ∃ k : Nat, k ≤ n ∧ i = .int .i64 k ∧ s = .int .i64 (up (-1) ((ps.map P.n).take k)).1 ∧ Hid ((up (-1) ((ps.map P.n).take k)).2 = true) ∧ Hid (Below W.heap.size W wr)) (fun _ i _ => n - (intOf i).toNat)
  case atStart => exact ⟨0, Nat.zero_le _, rfl, rfl, Lib.hid rfl, Lib.hid (Below.refl _ _)⟩
  case round =>
    obtain ⟨k, hk, rfl, rfl, HU, HB⟩ := hrel
    by_cases hlt : k < n
    · obtain ⟨b, o, ⟨m, s⟩, rfl, hx, c0, c1⟩ := atP (HR.out.below HB.out) k hlt
      have hT := congrArg (up (-1)) (take_next (map_at P.n hx))
      simp only [up_snoc, HU.out, Bool.true_and] at hT
      have HT := Lib.hid hT
      simp only at c0 c1
      have hlt' : (k : Int) < (n : Int) := by omega
      have HN := Lib.hid (fun w => number_any w m s)
      clear hx hT
      generalize (up (-1) ((ps.map P.n).take k)).1 = g at *
      by_cases hg : g < m
      · have hd : decide (m ≤ g) = false := decide_eq_false (by omega)
        have HS := Lib.hid (show (up (-1) ((ps.map P.n).take (k + 1))) = (m, true) by rw [HT.out, decide_eq_true hg])
        clear HT hg
        go_wp2_with (go_at_call 47; refine (HN.out _).mono ?_; rintro e w1 ⟨rfl, hb⟩; have HB1 := Lib.hid (boxed hb).2; clear hb)
        go_roundw
        case rel => first | exact ⟨k + 1, by omega, by go_num, by rw [HS.out], Lib.hid (by rw [HS.out]), Lib.hid (HB.out.trans (HB1.out.mono HB.out.size))⟩ | ((repeat apply Exists.intro); exact ⟨⟨k + 1, by omega, by go_num, by rw [HS.out], Lib.hid (by rw [HS.out]), Lib.hid (HB.out.trans (HB1.out.mono HB.out.size))⟩, rfl⟩)
        case measure => (show n - ((k : Int) + 1).toNat < n - k; omega)
      · have hd : decide (m ≤ g) = true := decide_eq_true (by omega)
        have HS := Lib.hid (show (up (-1) (ps.map P.n)).2 = false from up_stop (i := k + 1) (by rw [HT.out, decide_eq_false hg]))
        clear HT hg
        go_wp2_with (go_at_call 47; refine (HN.out _).mono ?_; rintro e w1 ⟨rfl, hb⟩; have HB1 := Lib.hid (boxed hb).2; clear hb)
        go_ret
        exact ⟨by rw [HS.out]; rfl, HB.out.trans (HB1.out.mono HB.out.size)⟩
    · obtain rfl : k = n := by omega
      have HE : Hid ((ps.map P.n).take k = ps.map P.n) := Lib.hid (List.take_of_length_le (by rw [List.length_map, HR.out.1]; omega))
      go_wp2
      go_ret
      exact ⟨by rw [← HE.out, HU.out]; rfl, HB.out⟩
theorem any_no {α : Type} {p : α → Bool} {l : List α} (h : ∀ (j : Nat) (x : α), l[j]? = some x → p x = false) : l.any p = false := by
  rw [List.any_eq_false]
  intro x hx
  obtain ⟨j, hj⟩ := List.mem_iff_getElem?.1 hx
  rw [h j x hj]
  exact Bool.false_ne_true
theorem any_yes {α : Type} {p : α → Bool} {l : List α} {j : Nat} {x : α} (hx : l[j]? = some x) (h : p x = true) : l.any p = true := List.any_eq_true.2 ⟨x, List.mem_of_getElem? hx, h⟩
set_option maxHeartbeats 1000000 in
theorem indexFP_any (W : World) (A : Option Addr) (n c : Nat) (ps : List P) (hR : Rd cP 2 W A n ps) (hn : n ≤ 1000000) (hr : nam.Room W) :
    Calls Tryz.prog 79 #[.slice A n c, .func (.func 45) #[] #[]] W fun e w' => (∃ z : Int, e = .returned (.int .i64 z) ∧ decide (0 ≤ z) = ps.any wrongP) ∧ Below W.heap.size W w' := by
  have HR := Lib.hid hR
  have Hr := Lib.hid hr
  clear hR hr
  go_enter Tryz.func79, Tryz.ntmps79
  go_wp2
  go_loopw [8] (fun i wr => ∃ k : Nat, k ≤ n ∧ i = .int .i64 k ∧ Hid (∀ j x, j < k → ps[j]? = some x → wrongP x = false) ∧ Hid (Below W.heap.size W wr)) (fun i _ => n - (intOf i).toNat)
  case atStart => exact ⟨0, Nat.zero_le _, rfl, Lib.hid (fun j x h => absurd h (Nat.not_lt_zero _)), Lib.hid (Below.refl _ _)⟩
  case round =>
    obtain ⟨k, hk, rfl, HU, HB⟩ := hrel
    by_cases hlt : k < n
    · obtain ⟨b, o, ⟨m, s⟩, rfl, hx, c0, c1⟩ := atP (HR.out.below HB.out) k hlt
      simp only at c0 c1
      have hlt' : (k : Int) < (n : Int) := by omega
      have hW := wrongP_any wr m s (Hr.out.below HB.out)
      have HX := Lib.hid hx
      clear hx
      cases hp : wrongP ⟨m, s⟩
      · rw [hp] at hW
        have HW := Lib.hid hW
        have HP := Lib.hid hp
        clear hW hp
        go_wp2_with (go_at_call 45; refine HW.out.mono ?_; rintro e w1 ⟨rfl, hb⟩; have HB1 := Lib.hid hb; clear hb)
        go_roundw
        case rel =>
          have hU : ∀ j x, j < k + 1 → ps[j]? = some x → wrongP x = false := fun j x hj hx => by
            rcases Nat.lt_succ_iff_lt_or_eq.1 hj with h | rfl
            · exact HU.out j x h hx
            · rw [HX.out] at hx
              cases hx
              exact HP.out
          first | exact ⟨k + 1, by omega, by go_num, Lib.hid hU, Lib.hid (HB.out.trans (HB1.out.mono HB.out.size))⟩ | ((repeat apply Exists.intro); exact ⟨⟨k + 1, by omega, by go_num, Lib.hid hU, Lib.hid (HB.out.trans (HB1.out.mono HB.out.size))⟩, rfl⟩)
        case measure => (show n - ((k : Int) + 1).toNat < n - k; omega)
      · rw [hp] at hW
        have HW := Lib.hid hW
        have HP := Lib.hid (any_yes HX.out hp)
        clear hW hp
        go_wp2_with (go_at_call 45; refine HW.out.mono ?_; rintro e w1 ⟨rfl, hb⟩; have HB1 := Lib.hid hb; clear hb)
        go_ret
        exact ⟨⟨_, rfl, by rw [HP.out]; exact decide_eq_true (by omega)⟩, HB.out.trans (HB1.out.mono HB.out.size)⟩
    · obtain rfl : k = n := by omega
      have hA : ps.any wrongP = false := any_no fun j x hx => HU.out j x (by have := (List.getElem?_eq_some_iff.1 hx).1; have := HR.out.1; omega) hx
      have HA := Lib.hid hA
      clear hA
      go_wp2
      go_ret
      exact ⟨⟨_, rfl, by rw [HA.out]; rfl⟩, HB.out⟩
theorem containsP_any (W : World) (A : Option Addr) (n c : Nat) (ps : List P) (hR : Rd cP 2 W A n ps) (hn : n ≤ 1000000) (hr : nam.Room W) :
    Calls Tryz.prog 48 #[.slice A n c, .func (.func 45) #[] #[]] W fun e w' => e = .returned (.bool (ps.any wrongP)) ∧ Below W.heap.size W w' := by
  have HI := Lib.hid (indexFP_any W A n c ps hR hn hr)
  clear hR hr
  go_enter Tryz.func48, Tryz.ntmps48
  go_wp2_with (go_at_call 79; refine HI.out.mono ?_; rintro e w1 ⟨⟨z, rfl, hz⟩, hb⟩; have HB1 := Lib.hid hb; have HZ := Lib.hid hz; clear hb hz)
  go_ret
  exact ⟨by rw [← HZ.out]; rfl, HB1.out⟩
/-- The names of a tree, one by one. -/
def NS (W : World) (ps : List P) (k : Nat) (v : Value) (w : World) : Prop := Own cS 1 W.heap.size 9 w v ((ps.map P.s).take k) ∧ Below W.heap.size W w
theorem infoS : (Tryz.prog.info? 9).map (fun i => (i.zero, i.size, i.bytes)) = some (some (.string ⟨#[]⟩), 1, 16) := by kernel_rfl
set_option maxHeartbeats 1000000 in
theorem names_any (W : World) (A : Option Addr) (n c : Nat) (ps : List P) (hR : Rd cP 2 W A n ps) (hn : n ≤ 1000000) :
    Calls Tryz.prog 50 #[.slice A n c] W fun e w' => ∃ v, e = .returned v ∧ Own cS 1 W.heap.size 9 w' v (ps.map P.s) ∧ Below W.heap.size W w' := by
  have HR := Lib.hid hR
  clear hR
  go_enter Tryz.func50, Tryz.ntmps50
  go_wp2
  go_loopw [3, 8] (fun v i wr => ∃ k : Nat, k ≤ n ∧ i = .int .i64 k ∧ Hid (NS W ps k v wr)) (fun _ i _ => n - (intOf i).toNat)
  case atStart => exact ⟨0, Nat.zero_le _, rfl, Lib.hid ⟨Own.nil _ _ _ _ _, Below.refl _ _⟩⟩
  case round =>
    obtain ⟨k, hk, rfl, HS⟩ := hrel
    by_cases hlt : k < n
    · obtain ⟨b, o, ⟨m, s⟩, rfl, hx, c0, c1⟩ := atP (HR.out.below HS.out.2) k hlt
      simp only at c0 c1
      have hlt' : (k : Int) < (n : Int) := by omega
      have HT := Lib.hid (take_next (map_at P.s hx))
      have HL : Hid (((ps.map P.s).take k).length ≤ 20000000) := Lib.hid (by rw [List.length_take]; omega)
      have HO := Lib.hid (HS.out.1.alloc (.cells #[.int .i64 m, .string s] 68))
      have HB := Lib.hid (HS.out.2.alloc HS.out.2.size (.cells #[.int .i64 m, .string s] 68))
      clear hx
      go_wp2_with (at_builtin; refine row.wpList_append_own fS (by decide) (by decide) (by_ := 16) (by decide) (z := .string ⟨#[]⟩) rfl rfl (.tmp 12) (.tmp 15) 120 9 rfl Tryz.underlying120 infoS W.heap.size u3 _ rfl HO.out HB.out.size HL.out s (0, 0) _ (by simp) rfl _ rfl ?_; intro v1 w1 ho hg h3; have HS1 := Lib.hid (show NS W ps (k + 1) v1 w1 from ⟨by rw [HT.out]; exact ho, grown_below HB.out HO.out hg⟩); clear ho hg h3)
      go_roundw
      case rel => first | exact ⟨k + 1, by omega, by go_num, HS1⟩ | ((repeat apply Exists.intro); exact ⟨⟨k + 1, by omega, by go_num, HS1⟩, rfl⟩)
      case measure => (show n - ((k : Int) + 1).toNat < n - k; omega)
    · obtain rfl : k = n := by omega
      have HE : Hid ((ps.map P.s).take k = ps.map P.s) := Lib.hid (List.take_of_length_le (by rw [List.length_map, HR.out.1]; omega))
      go_wp2
      go_ret
      exact ⟨_, rfl, by rw [← HE.out]; exact HS.out.1, HS.out.2⟩
end Go.Proofs.YtklmbiekpilkhaaGreatDoor.idx
namespace Go.Proofs.YtklmbiekpilkhaaGreatDoor.idx
open Go.ChangeShapes Go.WideShapes Go.ChangeAt Go.RowKit Go.Sort
open Go.Proofs.YtklmbiekpilkhaaGreatDoor.row
set_option linter.unusedVariables false
set_option maxRecDepth 100000
set_option linter.unusedSimpArgs false

def isBox (x : ByteArray) : Bool := decide (x = nam.INBOX)
set_option maxHeartbeats 1000000 in
theorem indexS_any (W : World) (A : Option Addr) (n c : Nat) (ss : List ByteArray) (hR : Rd cS 1 W A n ss) (hn : n ≤ 1000000) :
    Calls Tryz.prog 106 #[.slice A n c, .string ⟨#[73, 78, 66, 79, 88]⟩] W fun e w' => (∃ z : Int, e = .returned (.int .i64 z) ∧ decide (0 ≤ z) = ss.any isBox) ∧ Below W.heap.size W w' := by
  have HR := Lib.hid hR
  clear hR
  go_enter Tryz.func106, Tryz.ntmps106
  go_wp2
  go_loopw [8] (fun i wr => ∃ k : Nat, k ≤ n ∧ i = .int .i64 k ∧ Hid (∀ j x, j < k → ss[j]? = some x → isBox x = false) ∧ Hid (Below W.heap.size W wr)) (fun i _ => n - (intOf i).toNat)
  case atStart => exact ⟨0, Nat.zero_le _, rfl, Lib.hid (fun j x h => absurd h (Nat.not_lt_zero _)), Lib.hid (Below.refl _ _)⟩
  case round =>
    obtain ⟨k, hk, rfl, HU, HB⟩ := hrel
    by_cases hlt : k < n
    · obtain ⟨b, o, s, rfl, hx, c0⟩ := atS (HR.out.below HB.out) k hlt
      have hlt' : (k : Int) < (n : Int) := by omega
      have HX := Lib.hid hx
      clear hx
      by_cases hs : s = nam.INBOX
      · subst hs
        have HP := Lib.hid (any_yes HX.out (p := isBox) (decide_eq_true rfl))
        have hc1 : wr.cell? ⟨b, o + k, none⟩ = some (.string ⟨#[73, 78, 66, 79, 88]⟩) := c0
        clear c0
        go_wp2
        go_ret
        exact ⟨⟨_, rfl, by rw [HP.out]; exact decide_eq_true (by omega)⟩, HB.out⟩
      · have HP := Lib.hid (show isBox s = false from decide_eq_false hs)
        have hne : (([73, 78, 66, 79, 88] : List UInt8) == s.toList) = false := by
          have := rd.str_ne (T := nam.INBOX) (S := s) (fun e => hs e.symm)
          rw [ByteArray.toList_eq] at this
          rw [ByteArray.toList_eq]
          exact this
        clear hs
        have hU : ∀ j x, j < k + 1 → ss[j]? = some x → isBox x = false := fun j x hj hx => by
          rcases Nat.lt_succ_iff_lt_or_eq.1 hj with h | rfl
          · exact HU.out j x h hx
          · rw [HX.out] at hx
            cases hx
            exact HP.out
        have HU1 := Lib.hid hU
        clear hU
        go_wp2
        go_roundw
        case rel => first | exact ⟨k + 1, by omega, by go_num, HU1, HB⟩ | ((repeat apply Exists.intro); exact ⟨⟨k + 1, by omega, by go_num, HU1, HB⟩, rfl⟩)
        case measure => (show n - ((k : Int) + 1).toNat < n - k; omega)
    · obtain rfl : k = n := by omega
      have hA : ss.any isBox = false := any_no fun j x hx => HU.out j x (by have := (List.getElem?_eq_some_iff.1 hx).1; have := HR.out.1; omega) hx
      have HA := Lib.hid hA
      clear hA
      go_wp2
      go_ret
      exact ⟨⟨_, rfl, by rw [HA.out]; rfl⟩, HB.out⟩
theorem containsS_any (W : World) (A : Option Addr) (n c : Nat) (ss : List ByteArray) (hR : Rd cS 1 W A n ss) (hn : n ≤ 1000000) :
    Calls Tryz.prog 83 #[.slice A n c, .string ⟨#[73, 78, 66, 79, 88]⟩] W fun e w' => e = .returned (.bool (ss.any isBox)) ∧ Below W.heap.size W w' := by
  have HI := Lib.hid (indexS_any W A n c ss hR hn)
  clear hR
  go_enter Tryz.func83, Tryz.ntmps83
  go_wp2_with (go_at_call 106; refine HI.out.mono ?_; rintro e w1 ⟨⟨z, rfl, hz⟩, hb⟩; have HB1 := Lib.hid hb; have HZ := Lib.hid hz; clear hb hz)
  go_ret
  exact ⟨by rw [← HZ.out]; rfl, HB1.out⟩
/-- A text out of its bytes. -/
def ofRaw (l : List UInt8) : ByteArray := ⟨l.toArray⟩
theorem ofRaw_raw (s : ByteArray) : ofRaw (rawL s) = s := by
  obtain ⟨⟨s⟩⟩ := s
  rfl
theorem map_ofRaw (l : List (List UInt8)) : l.map encStr = (l.map ofRaw).map Value.string := by
  rw [List.map_map]
  rfl
theorem names_raw (l : List ByteArray) : l.map Value.string = (l.map rawL).map encStr := by
  rw [List.map_map]
  exact List.map_congr_left fun s _ => by show Value.string s = Value.string (ofRaw (rawL s)); rw [ofRaw_raw]
theorem any_box (l : List ByteArray) (ts : List (List UInt8)) (h : ts = (l.map rawL).mergeSort fun x y => decide (x ≤ y)) : ts.any (isBox ∘ ofRaw) = l.any isBox := by
  rw [h, any_sorted, List.any_map]
  refine congrArg (List.any l) (funext fun s => ?_)
  show isBox (ofRaw (rawL s)) = isBox s
  rw [ofRaw_raw]
theorem nodup_box (l : List ByteArray) (ts : List (List UInt8)) (h : ts = (l.map rawL).mergeSort fun x y => decide (x ≤ y)) (n : Nat) (hn : l.length = n) : decide ((Lib.compact ts).length = n) = decide l.Nodup := by
  have := sorted_nodup (l.map rawL)
  rw [← h, List.length_map, hn, nodup_raw] at this
  exact this
theorem holds_at {w : World} {g : Nat} {cur : Array Value} {ss : List (List UInt8)} (hb : w.heap[g]? = some (.cells cur 9 (0, 0))) (ht : cur.toList.take (ss.length * 1) = ss.map encStr) : Holds encStr w g 0 ss.toArray :=
  holds_of_block hb (by rwa [Nat.mul_one] at ht)
theorem row_rd {w : World} {B g n cap : Nat} {zs : List ByteArray} (h : w.ownsRow B 9 1 (.slice (some ⟨g, 0, none⟩) n cap) n (zs.map Value.string)) (hn : zs.length = n) : Rd cS 1 w (some ⟨g, 0, none⟩) n zs := by
  refine ⟨hn, fun k hk => ⟨g, 0, zs[k], rfl, List.getElem?_eq_getElem (by omega), fun j v hv => ?_⟩⟩
  cases j with
  | zero =>
    simp [cS] at hv
    subst hv
    have := World.ownsRow.cells h (g := g) rfl k (.string zs[k]) (by rw [List.getElem?_map, List.getElem?_eq_getElem (by omega)]; rfl)
    rw [codec.add_none] at this
    simpa using this
  | succ j => simp [cS] at hv
theorem clone_row (w : World) (B g n cap : Nat) (ts : List (List UInt8)) (h : w.ownsRow B 9 1 (.slice (some ⟨g, 0, none⟩) n cap) n (ts.map encStr)) (hn : n ≤ 1000000) :
    Calls Tryz.prog 82 #[.slice (some ⟨g, 0, none⟩) n cap] w fun e w' => ∃ g2 c2, e = .returned (.slice (some ⟨g2, 0, none⟩) n c2) ∧ w.heap.size ≤ g2 ∧ g2 < w'.heap.size ∧ Below w.heap.size w w' ∧ Holds encStr w' g2 0 ts.toArray ∧ n ≤ c2 := by
  have ht : ts.length = n := by have := h.1; rw [List.length_map] at this; omega
  have hR := row_rd (zs := ts.map ofRaw) (by rw [← map_ofRaw]; exact h) (by rw [List.length_map]; exact ht)
  refine (Tryz.slices_Clone_string g 0 n cap (ts.map ofRaw) w (by rw [List.length_map]; omega) (by omega) (fun j hj => ?_)).mono ?_
  · rw [List.length_map] at hj
    obtain ⟨b, o, y, h1, h2, h3⟩ := hR.2 j (by omega)
    cases h1
    have := h3 0 _ rfl
    rw [List.getD, h2]
    simpa using this
  · rintro e w' ⟨v, rfl, ho, hne, hb⟩
    rw [List.take_of_length_le (by rw [List.length_map]; omega), ← map_ofRaw] at ho
    rcases ho.2 with ⟨h0, _⟩ | ⟨g2, c2, cur, h0, hB, hg, h1, h2, h3, h4⟩
    · exact absurd h0 hne
    · subst h0
      exact ⟨g2, c2, rfl, hB, (Array.getElem?_eq_some_iff.1 hg).1, hb, holds_at hg (by rw [ht]; exact h4), h1⟩
theorem below_put {B g q : Nat} (w : World) (d : Array (List UInt8)) (hB : B ≤ g) : Below B w (putRow encStr (Sort.ahead w q) g 0 d) := by
  refine ⟨rfl, rfl, rfl, by simp [putRow, mapBlock, Sort.ahead], fun k hk => ?_⟩
  have : g ≠ k := by omega
  simp [putRow, mapBlock, Sort.ahead, Array.getElem?_modify, this]
theorem compact_row (w : World) (g n c : Nat) (ts : List (List UInt8)) (hH : Holds encStr w g 0 ts.toArray) (ht : ts.length = n) (hn : n ≤ 1000000) (hc : n ≤ c) (B : Nat) (hB : B ≤ g) :
    Calls Tryz.prog 81 #[.slice (some ⟨g, 0, none⟩) n c] w fun e w' => e = .returned (.slice (some ⟨g, 0, none⟩) (Lib.compact ts).length c) ∧ Below B w w' := by
  subst ht
  refine (Tryz.slices_Compact_string g 0 c ts w hH (by omega) hc).mono ?_
  rintro e w' ⟨rfl, q, rfl⟩
  exact ⟨rfl, below_put w _ hB⟩
set_option maxHeartbeats 2000000 in
/-- A row of one name or more. -/
theorem boxes_many (W : World) (B g n cap : Nat) (cur : Array Value) (l : List ByteArray) (hl : l.length = n) (hn : n ≤ 1000000) (hB : B ≤ g) (hg : W.heap[g]? = some (.cells cur 9 (0, 0))) (h1 : n ≤ cap) (h2 : cap ≤ maxLen) (h3 : cur.size = cap * 1) (h4 : cur.toList.take (n * 1) = l.map Value.string) :
    Calls Tryz.prog 49 #[.slice (some ⟨g, 0, none⟩) n cap] W fun e w' => e = .returned (.bool (boxesB l)) ∧ Below B W w' := by
  obtain ⟨ts, hts⟩ : ∃ ts, ts = (l.map rawL).mergeSort fun x y => decide (x ≤ y) := ⟨_, rfl⟩
  have hlt : g < W.heap.size := (Array.getElem?_eq_some_iff.1 hg).1
  have hrl : (l.map rawL).length = n := by rw [List.length_map, hl]
  have htl : ts.length = n := by rw [hts, List.length_mergeSort, hrl]
  have HH : Holds encStr W g 0 (l.map rawL).toArray := holds_at hg (by rw [hrl, h4, names_raw])
  have hS := Tryz.slices_Sort_string g 0 cap (l.map rawL) W HH hlt (by omega)
  rw [hrl, ← hts] at hS
  have HS := Lib.hid hS
  have HO := Lib.hid (fun (m : Nat) (os : Array Obj) => (ownsRow_sorted (w := W) (base := B) (g := g) (cap := cap) (n := m) (e := 9) (os := os) (cur := cur) (ss := l.map rawL) (ts := ts) (by rw [htl, hrl]) hB hg (by omega) h2 h3))
  have HG := Lib.hid (fun (m : Nat) (os : Array Obj) => grownBy_sorted (w := W) (g := g) (n := m) (os := os) ts.toArray)
  have HTL := Lib.hid htl
  have HAB := Lib.hid (any_box l ts hts)
  have HND := Lib.hid (nodup_box l ts hts n hl)
  have HRL := Lib.hid hrl
  clear hS HH hg h4 h3 h2 hts htl hrl hl
  go_enter Tryz.func49, Tryz.ntmps49
  have HC := Lib.hid (fun (w : World) (h : w.ownsRow B 9 1 (.slice (some ⟨g, 0, none⟩) n cap) n (ts.map encStr)) => clone_row w B g n cap ts h hn)
  have HK := Lib.hid (fun (w : World) (g2 c2 B2 : Nat) (hH : Holds encStr w g2 0 ts.toArray) (hc : n ≤ c2) (hB : B2 ≤ g2) => compact_row w g2 n c2 ts hH HTL.out hn hc B2 hB)
  have HX := Lib.hid (fun (w : World) (h : Rd cS 1 w (some ⟨g, 0, none⟩) n (ts.map ofRaw)) => containsS_any w _ n cap _ h hn)
  generalize (Lib.compact ts).length = m at *
  by_cases hm : m = n
  · have HND1 := Lib.hid (show l.Nodup from of_decide_eq_true (by rw [← HND.out, decide_eq_true hm]))
    subst hm
    go_wp2_with (first
      | (go_at_call 80; refine HS.out.mono ?_; rintro e w1 ⟨rfl, q, os, hw⟩; have hr1 := HO.out q os; have hg1 := HG.out q os; rw [← hw, HRL.out] at hr1; rw [← hw] at hg1; have HR1 := Lib.hid hr1; have HG1 := Lib.hid hg1; clear hr1 hg1 hw)
      | (go_at_call 82; refine (HC.out w1 HR1.out).mono ?_; rintro e w2 ⟨g2, c2, rfl, hg2, hg3, hb2, hH2, hc2⟩; have HB2 := Lib.hid hb2; have HK2 := Lib.hid (HK.out w2 g2 c2 w1.heap.size hH2 hc2 hg2); clear hg2 hg3 hb2 hH2)
      | (go_at_call 81; refine HK2.out.mono ?_; rintro e w3 ⟨rfl, hb3⟩; have HB3 := Lib.hid (HB2.out.trans hb3); have HX3 := Lib.hid (HX.out w3 ((row_rd (zs := ts.map ofRaw) (by rw [← map_ofRaw]; exact HR1.out) (by rw [List.length_map]; exact HTL.out)).below HB3.out)); clear hb3)
      | (go_at_call 83; refine HX3.out.mono ?_; rintro e w4 ⟨rfl, hb4⟩; have HB4 := Lib.hid (HB3.out.trans (hb4.mono HB3.out.size)); clear hb4))
    go_ret
    refine ⟨?_, ?_⟩
    · rw [HAB.out]
      unfold boxesB
      rw [decide_eq_true HND1.out, Bool.true_and]
      rfl
    · have h0 : Below B W w1 := ⟨HG1.out.os, HG1.out.tape, HG1.out.output, HG1.out.size, fun k hk => HG1.out.block k (by omega) (fun e => by cases e; omega)⟩
      exact h0.trans (HB4.out.mono (by have := HG1.out.size; omega))
  · have HND1 := Lib.hid (show decide l.Nodup = false by rw [← HND.out, decide_eq_false hm])
    have hmn : ((m : Int) == (n : Int)) = false := by rw [beq_eq_false_iff_ne]; omega
    go_wp2_with (first
      | (go_at_call 80; refine HS.out.mono ?_; rintro e w1 ⟨rfl, q, os, hw⟩; have hr1 := HO.out q os; have hg1 := HG.out q os; rw [← hw, HRL.out] at hr1; rw [← hw] at hg1; have HR1 := Lib.hid hr1; have HG1 := Lib.hid hg1; clear hr1 hg1 hw)
      | (go_at_call 82; refine (HC.out w1 HR1.out).mono ?_; rintro e w2 ⟨g2, c2, rfl, hg2, hg3, hb2, hH2, hc2⟩; have HB2 := Lib.hid hb2; have HK2 := Lib.hid (HK.out w2 g2 c2 w1.heap.size hH2 hc2 hg2); clear hg2 hg3 hb2 hH2)
      | (go_at_call 81; refine HK2.out.mono ?_; rintro e w3 ⟨rfl, hb3⟩; have HB3 := Lib.hid (HB2.out.trans hb3); clear hb3))
    go_ret
    refine ⟨?_, ?_⟩
    · unfold boxesB
      rw [HND1.out, Bool.false_and]
      rfl
    · have h0 : Below B W w1 := ⟨HG1.out.os, HG1.out.tape, HG1.out.output, HG1.out.size, fun k hk => HG1.out.block k (by omega) (fun e => by cases e; omega)⟩
      exact h0.trans (HB3.out.mono (by have := HG1.out.size; omega))
theorem boxes_none (W : World) : Calls Tryz.prog 49 #[.slice none 0 0] W fun e w' => e = .returned (.bool (boxesB [])) ∧ Below W.heap.size W w' := by
  have HS := Lib.hid (Tryz.slices_Sort_string_none none 0 W)
  have HC := Lib.hid (Tryz.slices_Clone_string_nil 0 0 W)
  have HK := Lib.hid (Tryz.slices_Compact_string_empty none 0 W)
  have HX := Lib.hid (containsS_any W none 0 0 [] (Rd.empty W) (by omega))
  go_enter Tryz.func49, Tryz.ntmps49
  go_wp2_with (first
    | (go_at_call 80; refine HS.out.mono ?_; rintro e w1 ⟨rfl, rfl⟩)
    | (go_at_call 82; refine HC.out.mono ?_; rintro e w2 ⟨rfl, rfl⟩)
    | (go_at_call 81; refine HK.out.mono ?_; rintro e w3 ⟨rfl, rfl⟩)
    | (go_at_call 83; refine HX.out.mono ?_; rintro e w4 ⟨rfl, hb4⟩; have HB4 := Lib.hid hb4; clear hb4))
  go_ret
  exact ⟨rfl, HB4.out⟩
theorem boxes_any (W : World) (B : Nat) (v : Value) (l : List ByteArray) (h : Own cS 1 B 9 W v l) (hB : B ≤ W.heap.size) (hn : l.length ≤ 1000000) :
    Calls Tryz.prog 49 #[v] W fun e w' => e = .returned (.bool (boxesB l)) ∧ Below B W w' := by
  have h0 := h
  unfold Own at h0
  rw [flS] at h0
  rcases h0.2 with ⟨rfl, h1⟩ | ⟨g, cap, cur, rfl, hBg, hg, h1, h2, h3, h4⟩
  · obtain rfl := List.eq_nil_of_length_eq_zero h1
    exact (boxes_none W).mono fun _ _ ⟨he, hb⟩ => ⟨he, hb.mono hB⟩
  · exact boxes_many W B g l.length cap cur l rfl hn hBg hg h1 h2 h3 h4
set_option maxHeartbeats 2000000 in
theorem formedTree_any (W : World) (A : Option Addr) (n c : Nat) (ps : List P) (hR : Rd cP 2 W A n ps) (hn : n ≤ 1000000) (hr : nam.Room W) :
    Calls Tryz.prog 23 #[.slice A n c] W fun e w' => e = .returned (.bool (treeB ps)) ∧ Below W.heap.size W w' := by
  have HI := Lib.hid (riseP_any W A n c ps hR hn)
  have HC := Lib.hid (fun (w : World) (hb : Below W.heap.size W w) => containsP_any w A n c ps (hR.below hb) hn (hr.below hb))
  have HN := Lib.hid (fun (w : World) (hb : Below W.heap.size W w) => names_any w A n c ps (hR.below hb) hn)
  have HL := Lib.hid hR.1
  clear hR hr
  have hT : treeB ps = ((up (-1) (ps.map P.n)).2 && (!(ps.any wrongP) && boxesB (ps.map P.s))) := rfl
  rw [hT]
  cases h1 : (up (-1) (ps.map P.n)).2
  · rw [h1] at HI
    clear h1 hT
    go_enter Tryz.func23, Tryz.ntmps23
    go_wp2_with (go_at_call 46; refine HI.out.mono ?_; rintro e w1 ⟨rfl, hb⟩; have HB1 := Lib.hid hb; clear hb)
    go_ret
    exact ⟨rfl, HB1.out⟩
  · rw [h1] at HI
    cases h2 : ps.any wrongP
    · rw [h2] at HC
      clear h1 h2 hT
      go_enter Tryz.func23, Tryz.ntmps23
      go_wp2_with (first
        | (go_at_call 46; refine HI.out.mono ?_; rintro e w1 ⟨rfl, hb⟩; have HB1 := Lib.hid hb; clear hb)
        | (go_at_call 48; refine (HC.out w1 HB1.out).mono ?_; rintro e w2 ⟨rfl, hb⟩; have HB2 := Lib.hid (HB1.out.trans (hb.mono HB1.out.size)); clear hb)
        | (go_at_call 50; refine (HN.out w2 HB2.out).mono ?_; rintro e w3 ⟨v, rfl, ho, hb⟩; have HB3 := Lib.hid hb; have HO3 := Lib.hid ho; clear hb ho)
        | (go_at_call 49; refine (boxes_any w3 w2.heap.size v _ HO3.out HB3.out.size (by rw [List.length_map, HL.out]; exact hn)).mono ?_; rintro e w4 ⟨rfl, hb⟩; have HB4 := Lib.hid (HB2.out.trans ((HB3.out.trans hb).mono HB2.out.size)); clear hb))
      go_ret
      exact ⟨rfl, HB4.out⟩
    · rw [h2] at HC
      clear h1 h2 hT
      go_enter Tryz.func23, Tryz.ntmps23
      go_wp2_with (first
        | (go_at_call 46; refine HI.out.mono ?_; rintro e w1 ⟨rfl, hb⟩; have HB1 := Lib.hid hb; clear hb)
        | (go_at_call 48; refine (HC.out w1 HB1.out).mono ?_; rintro e w2 ⟨rfl, hb⟩; have HB2 := Lib.hid (HB1.out.trans (hb.mono HB1.out.size)); clear hb))
      go_ret
      exact ⟨rfl, HB2.out⟩
end Go.Proofs.YtklmbiekpilkhaaGreatDoor.idx
