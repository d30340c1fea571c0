/- What is made of logs: numbers that rise, trees, indices and flags as bytes and back: plain mathematics. -/
import Derived.Test.YtklmbiekpilkhaaGreatDoorBodM
import Derived.Lib.SlicesCompact
import Derived.Sort.EncStr
namespace Go.Proofs.YtklmbiekpilkhaaGreatDoor.idx
open Go.Proofs.YtklmbiekpilkhaaGreatDoor.codec (bytesOf byteAt bytesOf_length bytesOf_lt strOf numOf numFrom numOf_take numOf_lt numOf_bytes strOf_size)
open Go.Proofs.YtklmbiekpilkhaaGreatDoor.rd (got rest)
open Go.Proofs.YtklmbiekpilkhaaGreatDoor.bod (named nums txt nums_length nums_lt strOf_nums nums_strOf bytesOf_take)
set_option linter.unusedVariables false
set_option linter.unusedSimpArgs false

/-- A place: a number and a name. -/
structure P where
  n : Int
  s : ByteArray
/-- An entry, or a mark: a UID and a number. -/
structure E where
  u : Nat
  a : Int

/-! ### Numbers that rise -/
def up (f : Int) (l : List Int) : Int × Bool := l.foldl (fun st n => (n, st.2 && decide (st.1 < n))) (f, true)
theorem up_snoc (f : Int) (l : List Int) (n : Int) : up f (l ++ [n]) = (n, (up f l).2 && decide ((up f l).1 < n)) := by
  unfold up
  rw [List.foldl_append]
  rfl
theorem fold_no : ∀ (l : List Int) (st : Int × Bool), st.2 = false → (l.foldl (fun st n => (n, st.2 && decide (st.1 < n))) st).2 = false
  | [], st, h => h
  | n :: r, st, h => fold_no r _ (by simp [h])
theorem up_stop {f : Int} {l : List Int} {i : Nat} (h : (up f (l.take i)).2 = false) : (up f l).2 = false := by
  have e : up f l = (l.drop i).foldl (fun st n => (n, st.2 && decide (st.1 < n))) (up f (l.take i)) := by
    conv => lhs; rw [← List.take_append_drop i l]
    unfold up
    rw [List.foldl_append]
  rw [e]
  exact fold_no _ _ h
theorem take_next {α : Type} {l : List α} {i : Nat} {x : α} (h : l[i]? = some x) : l.take (i + 1) = l.take i ++ [x] := by
  rw [List.take_add_one, h]
  rfl

/-! ### Names, none of which is there twice -/
def boxesB (l : List ByteArray) : Bool := decide l.Nodup && l.any fun x => decide (x = nam.INBOX)
def rawL (s : ByteArray) : List UInt8 := s.data.toList
theorem rawL_inj {s t : ByteArray} (h : rawL s = rawL t) : s = t := by
  obtain ⟨⟨s⟩⟩ := s
  obtain ⟨⟨t⟩⟩ := t
  simp [rawL] at h
  rw [h]
def leB (x y : List UInt8) : Bool := decide (x ≤ y)
theorem sorted_nodup (l : List (List UInt8)) : decide ((Lib.compact (l.mergeSort fun x y => decide (x ≤ y))).length = l.length) = decide l.Nodup := by
  have hp : (l.mergeSort fun x y => decide (x ≤ y)).Perm l := List.mergeSort_perm l _
  have hs : (l.mergeSort fun x y => decide (x ≤ y)).Pairwise (fun x y => decide (x ≤ y) = true) :=
    List.pairwise_mergeSort (fun a b c h1 h2 => by simp at h1 h2 ⊢; exact List.le_trans h1 h2) (fun a b => by simpa using List.le_total a b) l
  rw [decide_eq_decide, ← hp.nodup_iff, ← hp.length_eq]
  generalize (l.mergeSort fun x y => decide (x ≤ y)) = t at *
  clear hp
  have hlen : (Lib.compact t).length = t.length ↔ ∀ j, j < t.length → Lib.keeps t.toArray j = true := by
    unfold Lib.compact Lib.compactUpTo
    rw [List.length_map]
    constructor
    · intro h j hj
      have := (List.length_filter_eq_length_iff (p := Lib.keeps t.toArray) (l := List.range t.length)).1 (by rw [h, List.length_range])
      exact this j (List.mem_range.2 hj)
    · intro h
      rw [List.length_filter_eq_length_iff.2 (fun j hj => h j (List.mem_range.1 hj)), List.length_range]
  rw [hlen, List.nodup_iff_pairwise_ne, List.pairwise_iff_getElem]
  rw [List.pairwise_iff_getElem] at hs
  constructor
  · intro h i j hi hj hij e
    have hk := h j hj
    have h1 := hs i (j - 1)
    have h2 := hs (j - 1) j (by omega) hj (by omega)
    simp only [Lib.keeps, decide_eq_true_eq] at hk h2
    rcases hk with hk | hk
    · omega
    · apply hk
      simp only [getElem!_pos, List.getElem_toArray, List.size_toArray, hj, show j - 1 < t.length by omega]
      by_cases hij' : i = j - 1
      · subst hij'
        exact e.symm
      · have h1 := hs i (j - 1) hi (by omega) (by omega)
        simp only [decide_eq_true_eq] at h1
        rw [e] at h1
        exact List.le_antisymm h1 h2
  · intro h j hj
    simp only [Lib.keeps, decide_eq_true_eq]
    by_cases hj0 : j = 0
    · exact Or.inl hj0
    · refine Or.inr fun e => ?_
      simp only [getElem!_pos, List.getElem_toArray, List.size_toArray, hj, show j - 1 < t.length by omega] at e
      exact h (j - 1) j (by omega) hj (by omega) e.symm
theorem nodup_raw (l : List ByteArray) : decide (l.map rawL).Nodup = decide l.Nodup := by
  rw [decide_eq_decide]
  constructor
  · intro h
    rw [List.nodup_iff_pairwise_ne, List.pairwise_map] at h
    exact List.nodup_iff_pairwise_ne.2 (h.imp fun hne e => hne (by rw [e]))
  · intro h
    rw [List.nodup_iff_pairwise_ne, List.pairwise_map]
    exact (List.nodup_iff_pairwise_ne.1 h).imp fun hne e => hne (rawL_inj e)
theorem any_sorted (l : List (List UInt8)) (q : List UInt8 → Bool) : (l.mergeSort fun x y => decide (x ≤ y)).any q = l.any q := by
  rw [Bool.eq_iff_iff, List.any_eq_true, List.any_eq_true]
  constructor
  · rintro ⟨y, hy, e⟩
    exact ⟨y, (List.mergeSort_perm l _).mem_iff.1 hy, e⟩
  · rintro ⟨y, hy, e⟩
    exact ⟨y, (List.mergeSort_perm l _).mem_iff.2 hy, e⟩

/-! ### Things, one behind the other, as bytes and back -/
structure Item {α : Type} (enc : α → List Nat) (wf : α → Prop) (one : Option (List Nat) → α × Option (List Nat)) : Prop where
  back : ∀ x t, wf x → one (some (enc x ++ t)) = (x, some t)
  says : ∀ l x t, (∀ b ∈ l, b < 256) → one (some l) = (x, some t) → l = enc x ++ t
def readG {α : Type} (one : Option (List Nat) → α × Option (List Nat)) : Nat → Option (List Nat) → List α × Option (List Nat)
  | 0, L => ([], L)
  | _ + 1, none => ([], none)
  | k + 1, some l => ((one (some l)).1 :: (readG one k (one (some l)).2).1, (readG one k (one (some l)).2).2)
theorem read_back {α : Type} {enc : α → List Nat} {wf : α → Prop} {one : Option (List Nat) → α × Option (List Nat)} (I : Item enc wf one) : ∀ (xs : List α) (t : List Nat), (∀ x ∈ xs, wf x) → readG one xs.length (some (xs.flatMap enc ++ t)) = (xs, some t)
  | [], t, h => rfl
  | x :: r, t, h => by
    have e : (x :: r).flatMap enc ++ t = enc x ++ (r.flatMap enc ++ t) := by simp
    rw [e, List.length_cons, readG, I.back x _ (h x (by simp)), read_back I r t (fun y hy => h y (by simp [hy]))]
theorem read_says {α : Type} {enc : α → List Nat} {wf : α → Prop} {one : Option (List Nat) → α × Option (List Nat)} (I : Item enc wf one) : ∀ (k : Nat) (l : List Nat) (xs : List α) (t : List Nat), (∀ b ∈ l, b < 256) → readG one k (some l) = (xs, some t) → l = xs.flatMap enc ++ t ∧ xs.length = k
  | 0, l, xs, t, hl, h => by
    simp only [readG, Prod.mk.injEq, Option.some.injEq] at h
    obtain ⟨rfl, rfl⟩ := h
    exact ⟨rfl, rfl⟩
  | k + 1, l, xs, t, hl, h => by
    rw [readG] at h
    cases ho : (one (some l)).2 with
    | none =>
      rw [ho] at h
      cases k <;> simp [readG] at h
    | some m =>
      rw [ho] at h
      have h1 := I.says l _ m hl (Prod.ext rfl ho)
      have hm : ∀ b ∈ m, b < 256 := fun b hb => hl b (by rw [h1]; simp [hb])
      simp only [Prod.mk.injEq] at h
      obtain ⟨e1, e2⟩ := h
      obtain ⟨e3, e4⟩ := read_says I k m _ t hm (Prod.ext rfl e2)
      subst e1
      refine ⟨?_, by simp [e4]⟩
      rw [List.flatMap_cons, List.append_assoc, ← e3]
      exact h1
theorem read_none {α : Type} (one : Option (List Nat) → α × Option (List Nat)) (k : Nat) : readG one k none = ([], none) := by cases k <;> rfl
theorem read_len {α : Type} (one : Option (List Nat) → α × Option (List Nat)) : ∀ (k : Nat) (L : Option (List Nat)), (readG one k L).1.length ≤ k
  | 0, L => Nat.le_refl _
  | k + 1, none => Nat.zero_le _
  | k + 1, some l => by simpa [readG] using read_len one k (one (some l)).2

/-! ### Pieces -/
theorem got_some {k : Nat} {l t : List Nat} (h : rest k (some l) = some t) : l = got k (some l) ++ t ∧ (got k (some l)).length = k := by
  simp only [rest] at h
  split at h
  · rename_i hk
    cases h
    simp only [got, if_pos hk]
    exact ⟨(List.take_append_drop k l).symm, by simp; omega⟩
  · simp at h
theorem rest_inv {k : Nat} {L : Option (List Nat)} {t : List Nat} (h : rest k L = some t) : ∃ l, L = some l := by
  cases L with
  | none => simp [rest] at h
  | some l => exact ⟨l, rfl⟩
theorem got_app {k : Nat} {a t : List Nat} (h : a.length = k) : got k (some (a ++ t)) = a ∧ rest k (some (a ++ t)) = some t := by
  subst h
  simp [got, rest]
/-- A number of k bytes, read and written. -/
theorem num_says {k : Nat} {l t : List Nat} (hl : ∀ b ∈ l, b < 256) (h : rest k (some l) = some t) : l = bytesOf (numOf (got k (some l))) k ++ t ∧ ∀ b ∈ t, b < 256 := by
  obtain ⟨h1, h2⟩ := got_some h
  have hg : ∀ b ∈ got k (some l), b < 256 := fun b hb => hl b (by rw [h1]; simp [hb])
  have := bytesOf_take hg k (by omega)
  rw [List.take_of_length_le (by omega)] at this
  rw [this]
  exact ⟨h1, fun b hb => hl b (by rw [h1]; simp [hb])⟩
theorem num_back {v k : Nat} {t : List Nat} (hv : v < 256 ^ k) : numOf (got k (some (bytesOf v k ++ t))) = v ∧ rest k (some (bytesOf v k ++ t)) = some t := by
  obtain ⟨h1, h2⟩ := got_app (k := k) (a := bytesOf v k) (t := t) (bytesOf_length v k)
  rw [h1]
  exact ⟨numOf_bytes v k hv, h2⟩
/-- A text, as it is read: the text, and what is left. -/
def tx (L : Option (List Nat)) : ByteArray := strOf (got (numOf (got 2 L)) (rest 2 L))
def lt (L : Option (List Nat)) : Option (List Nat) := rest (numOf (got 2 L)) (rest 2 L)
theorem txt_says {l t : List Nat} (hl : ∀ b ∈ l, b < 256) (h : lt (some l) = some t) : l = txt (tx (some l)) ++ t ∧ ∀ b ∈ t, b < 256 := by
  unfold lt at h
  obtain ⟨m, hm⟩ := rest_inv h
  obtain ⟨h1, hmb⟩ := num_says hl hm
  rw [hm] at h
  obtain ⟨h2, h3⟩ := got_some h
  have hg : ∀ b ∈ got (numOf (got 2 (some l))) (some m), b < 256 := fun b hb => hmb b (by rw [h2]; simp [hb])
  refine ⟨?_, fun b hb => hmb b (by rw [h2]; simp [hb])⟩
  unfold tx txt
  rw [hm, strOf_size, h3, nums_strOf hg, List.append_assoc, ← h2]
  exact h1
theorem txt_back {s : ByteArray} {t : List Nat} (hs : s.size < 65536) : tx (some (txt s ++ t)) = s ∧ lt (some (txt s ++ t)) = some t := by
  unfold tx lt txt
  rw [List.append_assoc]
  obtain ⟨h1, h2⟩ := num_back (v := s.size) (k := 2) (t := nums s ++ t) (by simp; omega)
  rw [h1, h2]
  obtain ⟨h3, h4⟩ := got_app (k := s.size) (a := nums s) (t := t) (nums_length s)
  rw [h3, h4, strOf_nums]
  exact ⟨rfl, rfl⟩
/-! ### Trees -/
def encP (p : P) : List Nat := bytesOf p.n.toNat 1 ++ txt p.s
def wfP (p : P) : Prop := 0 ≤ p.n ∧ p.n < 256 ∧ p.s.size < 65536
def oneP (L : Option (List Nat)) : P × Option (List Nat) := (⟨(numOf (got 1 L) : Nat), tx (rest 1 L)⟩, lt (rest 1 L))
theorem itemP : Item encP wfP oneP where
  back := by
    rintro ⟨n, s⟩ t ⟨h0, h1, h2⟩
    obtain ⟨v, rfl⟩ := Int.eq_ofNat_of_zero_le h0
    unfold encP oneP
    simp only [Int.toNat_natCast] at *
    rw [List.append_assoc]
    obtain ⟨e1, e2⟩ := num_back (v := v) (k := 1) (t := txt s ++ t) (by simp; omega)
    rw [e1, e2]
    obtain ⟨e3, e4⟩ := txt_back (s := s) (t := t) h2
    rw [e3, e4]
  says := by
    rintro l ⟨n, s⟩ t hl h
    simp only [oneP, Prod.mk.injEq, P.mk.injEq] at h
    obtain ⟨⟨rfl, rfl⟩, h⟩ := h
    have h' := h
    unfold lt at h'
    obtain ⟨m1, hm1⟩ := rest_inv h'
    obtain ⟨m, hm⟩ := rest_inv hm1
    rw [hm] at h ⊢
    obtain ⟨e1, hmb⟩ := num_says hl hm
    obtain ⟨e2, _⟩ := txt_says hmb h
    unfold encP
    simp only [Int.toNat_natCast]
    rw [List.append_assoc, ← e2]
    exact e1
def treeB (l : List P) : Bool := (up (-1) (l.map P.n)).2 && (!(l.any fun p => decide (16 ≤ p.n) || !named p.s) && boxesB (l.map P.s))
def treeL (l : List P) : List Nat := bytesOf l.length 1 ++ l.flatMap encP
def readT (l : List Nat) : List P × Option (List Nat) := readG oneP (numOf (got 1 (some l))) (rest 1 (some l))
theorem tree_back {l : List P} (h : ∀ p ∈ l, wfP p) (hl : l.length < 256) : readT (treeL l) = (l, some []) := by
  unfold readT treeL
  obtain ⟨h1, h2⟩ := num_back (v := l.length) (k := 1) (t := l.flatMap encP) (by simp; omega)
  rw [h1, h2]
  have := read_back itemP l [] h
  rwa [List.append_nil] at this
theorem tree_says {l : List Nat} {xs : List P} (hl : ∀ b ∈ l, b < 256) (h : readT l = (xs, some [])) : treeL xs = l := by
  unfold readT at h
  cases hr : rest 1 (some l) with
  | none =>
    rw [hr, read_none] at h
    cases h
  | some m =>
    obtain ⟨e1, hm⟩ := num_says hl hr
    rw [hr] at h
    obtain ⟨e2, e3⟩ := read_says itemP _ m xs [] hm h
    unfold treeL
    rw [e3]
    rw [List.append_nil] at e2
    rw [← e2]
    exact e1.symm
/-! ### Indices, and flags -/
def encE (k : Nat) (e : E) : List Nat := bytesOf e.u 4 ++ bytesOf e.a.toNat k
def wfE (k : Nat) (e : E) : Prop := e.u < 4294967296 ∧ 0 ≤ e.a ∧ e.a.toNat < 256 ^ k
def oneE (k : Nat) (L : Option (List Nat)) : E × Option (List Nat) := (⟨numOf (got 4 L), (numOf (got k (rest 4 L)) : Nat)⟩, rest k (rest 4 L))
theorem itemE (k : Nat) : Item (encE k) (wfE k) (oneE k) where
  back := by
    rintro ⟨u, a⟩ t ⟨h0, h1, h2⟩
    obtain ⟨v, rfl⟩ := Int.eq_ofNat_of_zero_le h1
    unfold encE oneE
    simp only [Int.toNat_natCast] at *
    rw [List.append_assoc]
    obtain ⟨e1, e2⟩ := num_back (v := u) (k := 4) (t := bytesOf v k ++ t) (by simp; omega)
    rw [e1, e2]
    obtain ⟨e3, e4⟩ := num_back (v := v) (k := k) (t := t) h2
    rw [e3, e4]
  says := by
    rintro l ⟨u, a⟩ t hl h
    simp only [oneE, Prod.mk.injEq, E.mk.injEq] at h
    obtain ⟨⟨rfl, rfl⟩, h⟩ := h
    obtain ⟨m, hm⟩ := rest_inv h
    rw [hm] at h ⊢
    obtain ⟨e1, hmb⟩ := num_says hl hm
    obtain ⟨e2, _⟩ := num_says hmb h
    unfold encE
    simp only [Int.toNat_natCast]
    rw [List.append_assoc, ← e2]
    exact e1
/-- What follows the head: a count of two bytes, and things. -/
def restL (k : Nat) (l : List E) : List Nat := bytesOf l.length 2 ++ l.flatMap (encE k)
def readR (k : Nat) (L : Option (List Nat)) : List E × Option (List Nat) := readG (oneE k) (numOf (got 2 L)) (rest 2 L)
theorem rest_back {k : Nat} {l : List E} (h : ∀ p ∈ l, wfE k p) (hl : l.length < 65536) : readR k (some (restL k l)) = (l, some []) := by
  unfold readR restL
  obtain ⟨h1, h2⟩ := num_back (v := l.length) (k := 2) (t := l.flatMap (encE k)) (by simp; omega)
  rw [h1, h2]
  have := read_back (itemE k) l [] h
  rwa [List.append_nil] at this
theorem rest_says {k : Nat} {L : Option (List Nat)} {xs : List E} (hl : ∀ l, L = some l → ∀ b ∈ l, b < 256) (h : readR k L = (xs, some [])) : L = some (restL k xs) := by
  unfold readR at h
  cases hr : rest 2 L with
  | none =>
    rw [hr, read_none] at h
    cases h
  | some m =>
    obtain ⟨l, rfl⟩ := rest_inv hr
    obtain ⟨e1, hm⟩ := num_says (hl l rfl) hr
    rw [hr] at h
    obtain ⟨e2, e3⟩ := read_says (itemE k) _ m xs [] hm h
    unfold restL
    rw [e3]
    rw [List.append_nil] at e2
    rw [← e2]
    exact congrArg some e1
def placeB (a : Int) : Bool := decide (0 ≤ a) && decide (a ≤ 4294967295)
def belowB (u x : Nat) : Bool := decide (u < x) || decide (x = 4294967295)
def entriesB (l : List E) (x : Nat) : Bool := decide (l.length ≤ 500) && ((up 0 (l.map fun e => (e.u : Int))).2 && !(l.any fun e => !belowB e.u x || !placeB e.a))
def flagsB (a : Int) : Bool := decide (0 ≤ a ∧ a < 32)
def marksB (l : List E) : Bool := decide (l.length ≤ 500) && ((up 0 (l.map fun e => (e.u : Int))).2 && !(l.any fun e => !flagsB e.a))
def indexB (s : ByteArray) (e x : Nat) (t : Int) (l : List E) : Bool := named s && (decide (e ≠ 0) && (decide (x ≠ 0) && (placeB t && entriesB l x)))
def indexL (s : ByteArray) (e x : Nat) (t : Nat) (l : List E) : List Nat := txt s ++ (bytesOf e 4 ++ (bytesOf x 4 ++ (bytesOf t 4 ++ restL 4 l)))
def flsB (e : Nat) (l : List E) : Bool := decide (e ≠ 0) && marksB l
def flsL (e : Nat) (l : List E) : List Nat := bytesOf e 4 ++ restL 1 l
/-- What is left behind the parts of an index's head. -/
def iN (l : List Nat) : Option (List Nat) := lt (some l)
def iE (l : List Nat) : Option (List Nat) := rest 4 (iN l)
def iX (l : List Nat) : Option (List Nat) := rest 4 (iE l)
def iT (l : List Nat) : Option (List Nat) := rest 4 (iX l)
theorem rest_read {k : Nat} {L : Option (List Nat)} {xs : List E} (h : readR k L = (xs, some [])) : ∃ l, L = some l := by
  unfold readR at h
  cases hr : rest 2 L with
  | none =>
    rw [hr, read_none] at h
    cases h
  | some m => exact rest_inv hr
theorem index_says {l : List Nat} {xs : List E} (hl : ∀ b ∈ l, b < 256) (h : readR 4 (iT l) = (xs, some [])) : indexL (tx (some l)) (numOf (got 4 (iN l))) (numOf (got 4 (iE l))) (numOf (got 4 (iX l))) xs = l := by
  obtain ⟨m4, h4⟩ := rest_read h
  obtain ⟨m3, h3⟩ := rest_inv (show rest 4 (iX l) = some m4 from h4)
  obtain ⟨m2, h2⟩ := rest_inv (show rest 4 (iE l) = some m3 from h3)
  obtain ⟨m1, h1⟩ := rest_inv (show rest 4 (iN l) = some m2 from h2)
  obtain ⟨e1, b1⟩ := txt_says hl (show lt (some l) = some m1 from h1)
  have k2 : rest 4 (some m1) = some m2 := by rw [← h1]; exact h2
  have k3 : rest 4 (some m2) = some m3 := by rw [← h2]; exact h3
  have k4 : rest 4 (some m3) = some m4 := by rw [← h3]; exact h4
  obtain ⟨e2, b2⟩ := num_says b1 k2
  obtain ⟨e3, b3⟩ := num_says b2 k3
  obtain ⟨e4, b4⟩ := num_says b3 k4
  rw [h4] at h
  have e5 := rest_says (fun m hm => by cases hm; exact b4) h
  unfold indexL
  rw [h1, h2, h3]
  cases e5
  rw [← e4, ← e3, ← e2, ← e1]
theorem fls_says {l : List Nat} {xs : List E} (hl : ∀ b ∈ l, b < 256) (h : readR 1 (rest 4 (some l)) = (xs, some [])) : flsL (numOf (got 4 (some l))) xs = l := by
  obtain ⟨m, hm⟩ := rest_read h
  obtain ⟨e1, b1⟩ := num_says hl hm
  rw [hm] at h
  have e5 := rest_says (fun m hm => by cases hm; exact b1) h
  unfold flsL
  cases e5
  rw [← e1]
end Go.Proofs.YtklmbiekpilkhaaGreatDoor.idx
