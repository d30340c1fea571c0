/- Logs: what notes, one behind the other, say: plain mathematics. -/
import Derived.Test.YtklmbiekpilkhaaGreatDoorMc0
import Derived.Test.YtklmbiekpilkhaaGreatDoorMf3
import Derived.Test.YtklmbiekpilkhaaGreatDoorMc3
import Derived.Maps.OwnSet
import Derived.Maps.OwnOps
import Derived.DeepKeys4
import Derived.WideKeyPair
namespace Go.Proofs.YtklmbiekpilkhaaGreatDoor.lg
open Go.Proofs.YtklmbiekpilkhaaGreatDoor.bod (formedB payL named fitsB emptyB named_size ok1 ok2 ok3 epN uidN datN flaN octN LA LF TX says1 says2 says3 back1 back2 back3 ep_lt uid_lt)
set_option linter.unusedVariables false
set_option linter.unusedSimpArgs false

/-- A note. -/
structure Nt where
  k : Nat
  e : Nat
  s : ByteArray
  u : Nat
  d : Int
  f : Int
  o : List Nat
def Nt.ok (n : Nt) : Prop := formedB (n.k : Nat) n.e n.s n.u n.d n.f n.o.length = true ∧ n.e < 4294967296 ∧ n.u < 4294967296
def Nt.pay (n : Nt) : List Nat := payL (n.k : Nat) n.e n.s n.u n.d n.f n.o
theorem Nt.ok.parts {n : Nt} (h : n.ok) : 1 ≤ n.k ∧ n.k ≤ 3 ∧ (n.k = 1 → n.u = 0) ∧ (n.k ≠ 1 → 1 ≤ n.u) ∧ 1 ≤ n.e ∧ n.e < 4294967296 ∧ n.u < 4294967296 := by
  obtain ⟨h, he, hu⟩ := h
  unfold formedB at h
  split at h
  · simp only [Bool.and_eq_true, decide_eq_true_eq] at h
    omega
  · split at h
    · simp only [Bool.and_eq_true, decide_eq_true_eq] at h
      omega
    · split at h
      · simp only [Bool.and_eq_true, decide_eq_true_eq] at h
        omega
      · cases h
/-- What a record of a kind says. -/
def dec (k : Nat) (L : List Nat) : Option Nt :=
  if k = 1 then (if ok1 L = true then some ⟨1, epN L, TX (LA L), 0, 0, 0, []⟩ else none)
  else if k = 2 then (if ok2 L = true then some ⟨2, epN L, TX (LF L), uidN L, datN L, flaN L, octN L⟩ else none)
  else if k = 3 then (if ok3 L = true then some ⟨3, epN L, ByteArray.empty, uidN L, 0, 0, []⟩ else none)
  else none
theorem dec_ok {k : Nat} {L : List Nat} {n : Nt} (hb : ∀ b ∈ L, b < 256) (h : dec k L = some n) : n.ok ∧ n.k = k := by
  unfold dec at h
  split at h
  · rename_i hk
    split at h
    · rename_i ho
      cases h
      exact ⟨⟨(says1 hb ho).1, ep_lt hb, by show 0 < _; omega⟩, hk.symm⟩
    · cases h
  · split at h
    · rename_i hk
      split at h
      · rename_i ho
        cases h
        exact ⟨⟨(says2 hb ho).1, ep_lt hb, uid_lt hb⟩, hk.symm⟩
      · cases h
    · split at h
      · rename_i hk
        split at h
        · rename_i ho
          cases h
          exact ⟨⟨(says3 hb ho).1, ep_lt hb, uid_lt hb⟩, hk.symm⟩
        · cases h
      · cases h
theorem dec_back {n : Nt} (h : n.ok) : dec n.k n.pay = some n := by
  have hp := h.parts
  obtain ⟨k, e, s, u, d, f, o⟩ := n
  obtain ⟨hf, he, hu⟩ := h
  simp only [Nt.pay] at *
  by_cases h1 : k = 1
  · subst h1
    obtain ⟨k1, k2, k3, rfl, rfl, rfl, rfl⟩ := back1 he hf
    unfold dec
    rw [show ((1 : Nat) : Int) = 1 from rfl, if_pos rfl, if_pos k1]
    rw [k2, k3]
  · by_cases h2 : k = 2
    · subst h2
      obtain ⟨k1, k2, k3, k4, k5, k6, k7⟩ := back2 he hu hf
      unfold dec
      rw [show ((2 : Nat) : Int) = 2 from rfl, if_neg (by decide), if_pos rfl, if_pos k1]
      rw [k2, k3, k4, k5, k6, k7]
    · obtain rfl : k = 3 := by omega
      obtain ⟨k1, k2, k3, rfl, rfl, rfl, rfl⟩ := back3 he hu hf
      unfold dec
      rw [show ((3 : Nat) : Int) = 3 from rfl, if_neg (by decide), if_neg (by decide), if_pos rfl, if_pos k1]
      rw [k2, k3]

/-! What notes say. -/
def epo (l : List Nt) : Nat := l.foldl (fun a n => max a n.e) 0
def nmL (l : List Nt) : ByteArray := l.foldl (fun a n => if n.k = 3 then a else n.s) ByteArray.empty
def top (E : Nat) (l : List Nt) : Nat := l.foldl (fun a n => if n.e = E then max a n.u else a) 0
def nxt (g : Nat) : Nat := min g 4294967294 + 1
def rnx (E : Nat) (l : List Nt) : Nat := l.foldl (fun a n => if 1 < n.k ∧ n.e = E then max a (if n.u < 4294967295 then n.u + 1 else n.u) else a) 1
theorem epo_snoc (l : List Nt) (n : Nt) : epo (l ++ [n]) = max (epo l) n.e := by simp [epo]
theorem nmL_snoc (l : List Nt) (n : Nt) : nmL (l ++ [n]) = if n.k = 3 then nmL l else n.s := by simp [nmL]
theorem top_snoc (E : Nat) (l : List Nt) (n : Nt) : top E (l ++ [n]) = if n.e = E then max (top E l) n.u else top E l := by simp [top]
theorem rnx_snoc (E : Nat) (l : List Nt) (n : Nt) : rnx E (l ++ [n]) = if 1 < n.k ∧ n.e = E then max (rnx E l) (if n.u < 4294967295 then n.u + 1 else n.u) else rnx E l := by simp [rnx]
theorem take_next {α : Type} {l : List α} {i : Nat} {x : α} (h : l[i]? = some x) : l.take (i + 1) = l.take i ++ [x] := by
  rw [List.take_add_one, h]
  rfl
theorem epo_lt {l : List Nt} (h : ∀ n ∈ l, n.ok) : epo l < 4294967296 := by
  have : ∀ (l : List Nt) (a : Nat), a < 4294967296 → (∀ n ∈ l, n.ok) → l.foldl (fun a n => max a n.e) a < 4294967296 := by
    intro l
    induction l with
    | nil => intro a h _; exact h
    | cons n r ih =>
      intro a ha hl
      have := (hl n (by simp)).parts
      exact ih _ (by show max a n.e < _; omega) (fun m hm => hl m (by simp [hm]))
  exact this l 0 (by omega) h
theorem top_lt {E : Nat} {l : List Nt} (h : ∀ n ∈ l, n.ok) : top E l < 4294967296 := by
  have : ∀ (l : List Nt) (a : Nat), a < 4294967296 → (∀ n ∈ l, n.ok) → l.foldl (fun a n => if n.e = E then max a n.u else a) a < 4294967296 := by
    intro l
    induction l with
    | nil => intro a h _; exact h
    | cons n r ih =>
      intro a ha hl
      have := (hl n (by simp)).parts
      refine ih _ ?_ (fun m hm => hl m (by simp [hm]))
      simp only []
      split <;> omega
  exact this l 0 (by omega) h
theorem rnx_eq {E : Nat} {l : List Nt} (h : ∀ n ∈ l, n.ok) : rnx E l = nxt (top E l) := by
  have : ∀ (l : List Nt) (a : Nat), (∀ n ∈ l, n.ok) → l.foldl (fun a n => if 1 < n.k ∧ n.e = E then max a (if n.u < 4294967295 then n.u + 1 else n.u) else a) (nxt a) = nxt (l.foldl (fun a n => if n.e = E then max a n.u else a) a) := by
    intro l
    induction l with
    | nil => intro a _; rfl
    | cons n r ih =>
      intro a hl
      have hp := (hl n (by simp)).parts
      rw [List.foldl_cons, List.foldl_cons, ← ih _ (fun m hm => hl m (by simp [hm]))]
      congr 1
      unfold nxt
      by_cases hE : n.e = E
      · by_cases h1 : 1 < n.k
        · rw [if_pos ⟨h1, hE⟩, if_pos hE]
          split <;> omega
        · have := hp.2.2.1 (by omega)
          rw [if_neg (fun h => h1 h.1), if_pos hE]
          omega
      · rw [if_neg (fun h => hE h.2), if_neg hE]
  exact this l 0 h

/-! Which are live. -/
def gone (n : Nt) (r : List Nt) : Bool := decide (n.k ≠ 2) || r.any fun q => decide (q.k = 3 ∧ q.e = n.e ∧ q.u = n.u)
def livB (l : List Nt) (i : Nat) : Bool := match l[i]? with
  | some n => !gone n (l.drop (i + 1))
  | none => false
def pick {α : Type} (l : List α) (b : Nat → Bool) : Nat → List α
  | 0 => []
  | i + 1 => pick l b i ++ (if b i = true then (l[i]?).toList else [])
theorem pick_yes {α : Type} {l : List α} {b : Nat → Bool} {i : Nat} {x : α} (h : l[i]? = some x) (hb : b i = true) : pick l b (i + 1) = pick l b i ++ [x] := by
  rw [pick, if_pos hb, h]
  rfl
theorem pick_no {α : Type} {l : List α} {b : Nat → Bool} {i : Nat} (hb : b i = false) : pick l b (i + 1) = pick l b i := by
  rw [pick, if_neg (by rw [hb]; simp), List.append_nil]
theorem pick_map {α β : Type} (f : α → β) (l : List α) (b : Nat → Bool) : ∀ i, (pick l b i).map f = pick (l.map f) b i
  | 0 => rfl
  | i + 1 => by
    rw [pick, pick, List.map_append, pick_map f l b i]
    congr 1
    split
    · rw [List.getElem?_map]
      cases l[i]? <;> rfl
    · rfl
theorem pick_len {α : Type} (l : List α) (b : Nat → Bool) : ∀ i, (pick l b i).length ≤ i
  | 0 => Nat.le_refl _
  | i + 1 => by
    have := pick_len l b i
    rw [pick, List.length_append]
    have : (if b i = true then (l[i]?).toList else []).length ≤ 1 := by
      split
      · cases l[i]? <;> simp
      · simp
    omega
theorem pick_mem {α : Type} {l : List α} {b : Nat → Bool} {x : α} : ∀ i, x ∈ pick l b i → x ∈ l
  | 0, h => by cases h
  | i + 1, h => by
    rw [pick] at h
    rcases List.mem_append.1 h with h | h
    · exact pick_mem i h
    · split at h
      · cases hx : l[i]? with
        | none => rw [hx] at h; cases h
        | some y =>
          rw [hx] at h
          simp at h
          subst h
          exact List.mem_of_getElem? hx
      · cases h
/-- All live messages. -/
def lives (l : List Nt) : List Nt := pick l (livB l) l.length
theorem lives_mem {l : List Nt} {n : Nt} (h : n ∈ lives l) : n ∈ l := pick_mem _ h

/-- The last UID, and whether all was clean till there. -/
def stp (E : Nat) (st : Nat × Bool) (n : Nt) : Nat × Bool := (n.u, st.2 && decide (n.e = E ∧ st.1 < n.u ∧ n.u < 4294967295))
def cl (E : Nat) (l : List Nt) : Nat × Bool := l.foldl (stp E) (0, true)
theorem cl_snoc (E : Nat) (l : List Nt) (n : Nt) : cl E (l ++ [n]) = stp E (cl E l) n := by simp [cl]
theorem cl_false {E : Nat} : ∀ (l : List Nt) (st : Nat × Bool), st.2 = false → (l.foldl (stp E) st).2 = false
  | [], st, h => h
  | n :: r, st, h => cl_false r _ (by simp [stp, h])
theorem cl_stop {E : Nat} {l : List Nt} {i : Nat} (h : (cl E (l.take i)).2 = false) : (cl E l).2 = false := by
  have e : cl E l = (l.drop i).foldl (stp E) (cl E (l.take i)) := by
    unfold cl
    rw [← List.foldl_append, List.take_append_drop]
  rw [e]
  exact cl_false _ _ h
theorem cl_lt {E : Nat} {l : List Nt} (h : ∀ n ∈ l, n.ok) : (cl E l).1 < 4294967296 := by
  have : ∀ (l : List Nt) (st : Nat × Bool), st.1 < 4294967296 → (∀ n ∈ l, n.ok) → (l.foldl (stp E) st).1 < 4294967296 := by
    intro l
    induction l with
    | nil => intro st h _; exact h
    | cons n r ih =>
      intro st hs hl
      exact ih _ (hl n (by simp)).2.2 (fun m hm => hl m (by simp [hm]))
  exact this l (0, true) (by show 0 < _; omega) h

/-! UIDs that are given anew. -/
def withU (n : Nt) (u : Nat) : Nt := { n with u := u }
def ru {α : Type} (f : α → Nat → α) (l : List α) : Nat → List α
  | 0 => l
  | i + 1 => (ru f l i).modify i (fun x => f x (i + 1))
theorem ru_at {α : Type} (f : α → Nat → α) (l : List α) : ∀ i j, (ru f l i)[j]? = if j < i then (l[j]?).map (fun x => f x (j + 1)) else l[j]?
  | 0, j => by simp [ru]
  | i + 1, j => by
    rw [ru, List.getElem?_modify, ru_at f l i j]
    by_cases h : i = j
    · subst h
      simp
    · by_cases h2 : j < i
      · simp [h, h2, show j < i + 1 by omega]
      · simp [h, h2, show ¬ j < i + 1 by omega]
theorem ru_len {α : Type} (f : α → Nat → α) (l : List α) : ∀ i, (ru f l i).length = l.length
  | 0 => rfl
  | i + 1 => by rw [ru, List.length_modify, ru_len f l i]
theorem ru_map {α β : Type} (f : α → Nat → α) (g : β → Nat → β) (m : α → β) (hm : ∀ x i, m (f x i) = g (m x) i) (l : List α) (i : Nat) : (ru f l i).map m = ru g (l.map m) i := by
  apply List.ext_getElem?
  intro j
  rw [List.getElem?_map, ru_at, ru_at, List.getElem?_map]
  split
  · cases l[j]? <;> simp [hm]
  · rfl
/-- The messages of the mailbox of notes. -/
def boxed (l : List Nt) : List Nt := if (cl (epo l) (lives l)).2 = true then lives l else ru withU (lives l) (lives l).length
def boxE (l : List Nt) : Nat := if (cl (epo l) (lives l)).2 = true then epo l else min (epo l) 4294967294 + 1
def boxX (l : List Nt) : Nat := if (cl (epo l) (lives l)).2 = true then nxt (top (epo l) l) else (lives l).length + 1

/-! Where it was said last that one is gone. -/
def lastG (l : List (Nt × Nat)) (e u : Nat) : Option Nat := l.foldl (fun a x => if x.1.k = 3 ∧ x.1.e = e ∧ x.1.u = u then some x.2 else a) none
theorem lastG_snoc (l : List (Nt × Nat)) (x : Nt × Nat) (e u : Nat) : lastG (l ++ [x]) e u = if x.1.k = 3 ∧ x.1.e = e ∧ x.1.u = u then some x.2 else lastG l e u := by simp [lastG]
theorem fold_none {e u : Nat} : ∀ (l : List (Nt × Nat)) (a : Option Nat), (∀ x ∈ l, ¬ (x.1.k = 3 ∧ x.1.e = e ∧ x.1.u = u)) → l.foldl (fun a x => if x.1.k = 3 ∧ x.1.e = e ∧ x.1.u = u then some x.2 else a) a = a
  | [], a, _ => rfl
  | x :: r, a, h => by
    rw [List.foldl_cons, if_neg (h x (by simp))]
    exact fold_none r a (fun y hy => h y (by simp [hy]))
theorem fold_some {e u : Nat} : ∀ (l : List (Nt × Nat)) (a : Option Nat), (∃ x ∈ l, x.1.k = 3 ∧ x.1.e = e ∧ x.1.u = u) → ∃ x ∈ l, l.foldl (fun a x => if x.1.k = 3 ∧ x.1.e = e ∧ x.1.u = u then some x.2 else a) a = some x.2
  | [], a, h => by obtain ⟨x, hx, _⟩ := h; cases hx
  | x :: r, a, h => by
    rw [List.foldl_cons]
    by_cases hr : ∃ y ∈ r, y.1.k = 3 ∧ y.1.e = e ∧ y.1.u = u
    · obtain ⟨y, hy, h2⟩ := fold_some r (if x.1.k = 3 ∧ x.1.e = e ∧ x.1.u = u then some x.2 else a) hr
      exact ⟨y, by simp [hy], h2⟩
    · rw [fold_none r _ (fun y hy h => hr ⟨y, hy, h⟩)]
      obtain ⟨y, hy, h2⟩ := h
      rcases List.mem_cons.1 hy with rfl | hy
      · exact ⟨y, by simp, by rw [if_pos h2]⟩
      · exact absurd ⟨y, hy, h2⟩ hr
theorem fold_where {e u : Nat} : ∀ (l : List (Nt × Nat)) (a : Option Nat) (v : Nat), l.foldl (fun a x => if x.1.k = 3 ∧ x.1.e = e ∧ x.1.u = u then some x.2 else a) a = some v → a = some v ∨ ∃ x ∈ l, x.2 = v
  | [], a, v, h => Or.inl h
  | x :: r, a, v, h => by
    rw [List.foldl_cons] at h
    rcases fold_where r _ v h with h | ⟨y, hy, h⟩
    · split at h
      · exact Or.inr ⟨x, by simp, Option.some.inj h⟩
      · exact Or.inl h
    · exact Or.inr ⟨y, by simp [hy], h⟩
/-- A message is live just if it wasn't said behind it that it is gone. -/
theorem live_at {l : List (Nt × Nat)} (hp : l.Pairwise (fun a b => a.2 < b.2)) {i : Nat} {x : Nt × Nat} (hx : l[i]? = some x) (h2 : x.1.k = 2) : livB (l.map Prod.fst) i = (match lastG l x.1.e x.1.u with
    | none => true
    | some p => decide (p < x.2)) := by
  have hi := (List.getElem?_eq_some_iff.1 hx).1
  have hsplit : l = l.take i ++ (x :: l.drop (i + 1)) := by
    conv => lhs; rw [← List.take_append_drop i l]
    rw [List.drop_eq_getElem_cons hi, (List.getElem?_eq_some_iff.1 hx).2]
  have hlt : ∀ y ∈ l.drop (i + 1), x.2 < y.2 := by
    rw [hsplit] at hp
    have := (List.pairwise_append.1 hp).2.1
    exact (List.pairwise_cons.1 this).1
  have hgt : ∀ y ∈ l.take i, y.2 < x.2 := by
    rw [hsplit] at hp
    have := (List.pairwise_append.1 hp).2.2
    exact fun y hy => this y hy x (by simp)
  have hB : livB (l.map Prod.fst) i = !((l.drop (i + 1)).any fun q => decide (q.1.k = 3 ∧ q.1.e = x.1.e ∧ q.1.u = x.1.u)) := by
    unfold livB gone
    rw [List.getElem?_map, hx]
    simp only [Option.map_some, h2, ne_eq, not_true_eq_false, decide_false, Bool.false_or]
    rw [← List.map_drop, List.any_map]
    rfl
  have hl : lastG l x.1.e x.1.u = (l.drop (i + 1)).foldl (fun a y => if y.1.k = 3 ∧ y.1.e = x.1.e ∧ y.1.u = x.1.u then some y.2 else a) (lastG (l.take i) x.1.e x.1.u) := by
    unfold lastG
    conv => lhs; rw [hsplit]
    rw [List.foldl_append, List.foldl_cons, if_neg (by omega)]
  rw [hB, hl]
  by_cases hr : ∃ y ∈ l.drop (i + 1), y.1.k = 3 ∧ y.1.e = x.1.e ∧ y.1.u = x.1.u
  · obtain ⟨y, hy, h3⟩ := fold_some (l.drop (i + 1)) (lastG (l.take i) x.1.e x.1.u) hr
    rw [h3]
    have := hlt y hy
    have ha : (l.drop (i + 1)).any (fun q => decide (q.1.k = 3 ∧ q.1.e = x.1.e ∧ q.1.u = x.1.u)) = true := by
      obtain ⟨z, hz, hzz⟩ := hr
      exact List.any_eq_true.2 ⟨z, hz, by simpa using hzz⟩
    rw [ha]
    simp
    omega
  · have hn : ∀ y ∈ l.drop (i + 1), ¬ (y.1.k = 3 ∧ y.1.e = x.1.e ∧ y.1.u = x.1.u) := fun y hy h => hr ⟨y, hy, h⟩
    rw [fold_none _ _ hn]
    have ha : (l.drop (i + 1)).any (fun q => decide (q.1.k = 3 ∧ q.1.e = x.1.e ∧ q.1.u = x.1.u)) = false := by
      rw [List.any_eq_false]
      intro y hy
      simpa using hn y hy
    rw [ha]
    cases hv : lastG (l.take i) x.1.e x.1.u with
    | none => rfl
    | some p =>
      rcases fold_where _ _ _ hv with h | ⟨y, hy, h⟩
      · cases h
      · have := hgt y hy
        simp
        omega
theorem live_not {l : List Nt} {i : Nat} {n : Nt} (hx : l[i]? = some n) (h2 : n.k ≠ 2) : livB l i = false := by
  unfold livB gone
  rw [hx]
  simp [h2]
end Go.Proofs.YtklmbiekpilkhaaGreatDoor.lg
namespace Go.Proofs.YtklmbiekpilkhaaGreatDoor.lg
open Go.ChangeShapes Go.WideShapes Go.ChangeAt Go.RowKit
open Go.Proofs.YtklmbiekpilkhaaGreatDoor.codec (Bytes)
set_option linter.unusedVariables false
set_option maxRecDepth 100000
set_option linter.unusedSimpArgs false

/-- A note, where its record begins, and where its octets lie. -/
structure Y where
  n : Nt
  p : Nat
  A : Option Addr
  m : Nat
  c : Nat
def cN (y : Y) : List Value := [.int .i64 (y.n.k : Nat), .int .u32 (y.n.e : Nat), .string y.n.s, .int .u32 (y.n.u : Nat), .int .i64 y.n.d, .int .i64 y.n.f, .slice y.A y.m y.c]
def cA (y : Y) : List Value := [.int .i64 (y.n.k : Nat), .int .u32 (y.n.e : Nat), .string y.n.s, .int .u32 (y.n.u : Nat), .int .i64 y.n.d, .int .i64 y.n.f, .slice y.A y.m y.c, .int .i64 (y.p : Nat)]
def cM (y : Y) : List Value := [.int .u32 (y.n.u : Nat), .int .i64 y.n.d, .int .i64 y.n.f, .slice y.A y.m y.c]
def cL (y : Y) : List Value := [.int .u32 (y.n.u : Nat), .int .i64 y.n.d, .int .i64 y.n.f, .slice y.A y.m y.c, .int .u32 (y.n.e : Nat), .int .i64 (y.p : Nat)]
structure Fm (F : Y → List Value) (K : Nat) : Prop where
  len : ∀ y, (F y).length = K
  one : ∀ y, ∀ u ∈ F y, u.oneCell' = true
theorem fN : Fm cN 7 := ⟨fun _ => rfl, fun y u hu => by simp [cN] at hu; rcases hu with rfl | rfl | rfl | rfl | rfl | rfl | rfl <;> rfl⟩
theorem fA : Fm cA 8 := ⟨fun _ => rfl, fun y u hu => by simp [cA] at hu; rcases hu with rfl | rfl | rfl | rfl | rfl | rfl | rfl | rfl <;> rfl⟩
theorem fM : Fm cM 4 := ⟨fun _ => rfl, fun y u hu => by simp [cM] at hu; rcases hu with rfl | rfl | rfl | rfl <;> rfl⟩
theorem fL : Fm cL 6 := ⟨fun _ => rfl, fun y u hu => by simp [cL] at hu; rcases hu with rfl | rfl | rfl | rfl | rfl | rfl <;> rfl⟩
def fl (F : Y → List Value) (ys : List Y) : List Value := ys.flatMap F
theorem fl_snoc (F : Y → List Value) (ys : List Y) (y : Y) : fl F (ys ++ [y]) = fl F ys ++ F y := by simp [fl]
theorem fl_at {F : Y → List Value} {K : Nat} (hF : Fm F K) : ∀ (ys : List Y) (k : Nat) (y : Y), ys[k]? = some y → ∀ j v, (F y)[j]? = some v → (fl F ys)[k * K + j]? = some v
  | [], k, y, h => by simp at h
  | z :: r, 0, y, h => by
    simp at h
    subst h
    intro j v hv
    have hj := (List.getElem?_eq_some_iff.1 hv).1
    rw [Nat.zero_mul, Nat.zero_add, fl, List.flatMap_cons, List.getElem?_append_left hj]
    exact hv
  | z :: r, k + 1, y, h => by
    intro j v hv
    have := fl_at hF r k y (by simpa using h) j v hv
    rw [fl, List.flatMap_cons, List.getElem?_append_right (by rw [hF.len, Nat.add_mul]; omega), hF.len, show (k + 1) * K + j - K = k * K + j by rw [Nat.add_mul]; omega]
    exact this
/-- The octets lie there. -/
def Oct (w : World) (y : Y) : Prop := Bytes w y.A y.m y.n.o ∧ (y.A = none → y.c = 0)
theorem Oct.below {w w' : World} {y : Y} (h : Oct w y) (hb : Below w.heap.size w w') : Oct w' y := ⟨h.1.below h.1.lt hb, h.2⟩
theorem Oct.grown {w w' : World} {y : Y} {row : Option Nat} (h : Oct w y) (hg : w.grownBy w' row) (hne : ∀ ad, y.A = some ad → 0 < y.m → some ad.block ≠ row) : Oct w' y :=
  ⟨h.1.kept fun ad e h0 => hg.block _ (h.1.lt ad e h0) (hne ad e h0), h.2⟩
/-- A row of the call's own. -/
def Own (F : Y → List Value) (K B : Nat) (E : TypeId) (w : World) (v : Value) (ys : List Y) : Prop :=
  w.ownsRow B E K v ys.length (fl F ys) ∧ ∀ y ∈ ys, Oct w y ∧ ∀ ad, y.A = some ad → 0 < y.m → v.ownBlock ≠ some ad.block
theorem Own.nil (F : Y → List Value) (K B : Nat) (E : TypeId) (w : World) : Own F K B E w (.slice none 0 0) [] := ⟨⟨by simp [fl], .inl ⟨rfl, rfl⟩⟩, by simp⟩
theorem Own.grown {F : Y → List Value} {K B : Nat} {E : TypeId} {w w' : World} {v : Value} {ys : List Y} {row : Option Nat} (h : Own F K B E w v ys) (hg : w.grownBy w' row) (hv : ∀ b, row = some b → v.ownBlock ≠ some b) (hne : ∀ y ∈ ys, ∀ ad, y.A = some ad → 0 < y.m → some ad.block ≠ row) : Own F K B E w' v ys := by
  refine ⟨h.1.kept hg ?_, fun y hy => ⟨(h.2 y hy).1.grown hg (hne y hy), (h.2 y hy).2⟩⟩
  cases hr : row with
  | none => cases hb : v.ownBlock <;> simp
  | some b => exact .inr (hv b hr)
theorem Own.below {F : Y → List Value} {K B : Nat} {E : TypeId} {w w' : World} {v : Value} {ys : List Y} (h : Own F K B E w v ys) (hb : Below w.heap.size w w') : Own F K B E w' v ys :=
  h.grown (row := none) ⟨hb.os, hb.tape, hb.output, hb.size, fun i hi _ => hb.block i hi⟩ (fun b e => by cases e) (fun y hy ad e h0 => by simp)
theorem Own.alloc {F : Y → List Value} {K B : Nat} {E : TypeId} {w : World} {v : Value} {ys : List Y} (h : Own F K B E w v ys) (o : Obj) : Own F K B E (w.alloc o) v ys := h.below ((Below.refl _ _).alloc (Nat.le_refl _) _)
theorem Own.lt {F : Y → List Value} {K B : Nat} {E : TypeId} {w : World} {v : Value} {ys : List Y} (h : Own F K B E w v ys) {g : Nat} (e : v.ownBlock = some g) : B ≤ g ∧ g < w.heap.size := h.1.lt g e
theorem lit_at {F : Y → List Value} {w : World} (y : Y) (t : TypeId) (m : Nat × Nat) {g : Nat} (hg : g = w.heap.size) : ∀ j u, (F y)[j]? = some u → (w.alloc (.cells (F y).toArray t m)).cell? ((⟨g, 0, none⟩ : Addr).add j) = some u := by
  intro j u hu
  subst hg
  rw [codec.add_none, Nat.zero_add, World.cell?_alloc_mark]
  simpa using hu
/-- A struct put behind those of the call's own. -/
theorem run_append_own {F : Y → List Value} {K by_ : Nat} {z : Value} (hF : Fm F K) (hK : 0 < K) (hK9 : K ≤ 9) (hby : by_ ≤ 1000) (hz : z.cells.size = K) (T E : TypeId) (hT : Tryz.prog.underlying T = some (.slice E)) (hE : (Tryz.prog.info? E).map (fun i => (i.zero, i.size, i.bytes)) = some (some z, K, by_))
    (w : World) (ty : TypeId) (B : Nat) (v : Value) (ys : List Y) (h : Own F K B E w v ys) (hB : B ≤ w.heap.size) (hn : ys.length ≤ 20000000) (y : Y) (m : Nat × Nat) (g : Nat) (hg : g = w.heap.size)
    (hx : Oct w y) (hA : ∀ ad, y.A = some ad → 0 < y.m → v.ownBlock ≠ some ad.block) :
    ∃ v' w', (Builtin.append_ #[T, T] ty #[v, .slice (some ⟨g, 0, none⟩) 1 1]).run Tryz.prog (w.alloc (.cells (F y).toArray E m)) = .ok v' w' ∧ Own F K B E w' v' (ys ++ [y]) ∧ w.grownBy w' v.ownBlock ∧ (v'.ownBlock = v.ownBlock ∨ ∃ g, v'.ownBlock = some g ∧ w.heap.size ≤ g) := by
  obtain ⟨i0, hi, hz0, hz1, hz2⟩ := info_parts hE
  have ha := h.alloc (.cells (F y).toArray E m)
  have hby2 : (ys.length + 1) * by_ ≤ 20000001 * 1000 := Nat.mul_le_mul (by omega) hby
  obtain ⟨v', w', hr, h1, h2, h3, h4⟩ := run_append_own_at (P := Tryz.prog) (w.alloc (.cells (F y).toArray E m)) B T ty E i0 _ K by_ hT hi hz0 hz1 hz2 hz hK v ys.length (fl F ys) ha.1 ⟨g, 0, none⟩ 1 1 (F y) (by rw [hF.len, Nat.one_mul]) (lit_at y E m hg) (hF.one y) (by unfold maxLen; omega) (by omega) (by simp; omega)
  have hgr : w.grownBy w' v.ownBlock := ⟨h2.os, h2.tape, h2.output, by have := h2.size; simp at this; omega, fun k hk hne => by
    rw [h2.block k (by simp; omega) hne]
    exact Below.heap_alloc _ _ _ hk⟩
  have hat : v'.ownBlock = v.ownBlock ∨ ∃ g, v'.ownBlock = some g ∧ w.heap.size ≤ g := by
    rcases h4 with h4 | h4
    · exact .inl h4
    · exact .inr ⟨_, h4, by simp⟩
  have key : ∀ q : Y, Oct w q → (∀ ad, q.A = some ad → 0 < q.m → v.ownBlock ≠ some ad.block) → Oct w' q ∧ ∀ ad, q.A = some ad → 0 < q.m → v'.ownBlock ≠ some ad.block := by
    intro q hq hne
    refine ⟨hq.grown hgr fun ad e h0 e' => hne ad e h0 e'.symm, fun ad e h0 e' => ?_⟩
    rcases hat with ha | ⟨g', ha, hg'⟩
    · exact hne ad e h0 (ha ▸ e')
    · rw [ha] at e'
      have h1 := hq.1.lt ad e h0
      have h2 := Option.some.inj e'
      omega
  refine ⟨v', w', hr, ⟨?_, fun q hq => ?_⟩, hgr, hat⟩
  · rw [fl_snoc, List.length_append]
    simpa using h1
  · rcases List.mem_append.1 hq with hq | hq
    · exact key q (h.2 q hq).1 (h.2 q hq).2
    · simp at hq
      subst hq
      exact key _ hx hA
theorem wpList_append_own {F : Y → List Value} {K by_ : Nat} {z : Value} (hF : Fm F K) (hK0 : 0 < K) (hK9 : K ≤ 9) (hby : by_ ≤ 1000) (hz : z.cells.size = K) {ops : Array Oper} {rest : List Oper} {o : Oper} {a : Act} {w : World} {Q : Exit → Act → World → Prop} (hgd : o.guard = none) (s q : Operand) (T E : TypeId)
    (ho : o.op = .call { callee := .builtin .append, args := #[s, q], argTypes := #[T, T] }) (hT : Tryz.prog.underlying T = some (.slice E)) (hE : (Tryz.prog.info? E).map (fun i => (i.zero, i.size, i.bytes)) = some (some z, K, by_))
    (B : Nat) (v : Value) (ys : List Y) (hs : a.eval s = v) (h : Own F K B E w v ys) (hB : B ≤ w.heap.size) (hn : ys.length ≤ 20000000) (y : Y) (m : Nat × Nat) (g : Nat) (hg : g = w.heap.size) (hy : a.eval q = .slice (some ⟨g, 0, none⟩) 1 1) (L : Array Value) (hL : L = (F y).toArray)
    (hx : Oct w y) (hA : ∀ ad, y.A = some ad → 0 < y.m → v.ownBlock ≠ some ad.block)
    (hK : ∀ v' w', Own F K B E w' v' (ys ++ [y]) → w.grownBy w' v.ownBlock → (v'.ownBlock = v.ownBlock ∨ ∃ g, v'.ownBlock = some g ∧ w.heap.size ≤ g) → wpList Tryz.prog ops Q rest (a.put o.dst v') w') : wpList Tryz.prog ops Q (o :: rest) a (w.alloc (.cells L E m)) := by
  subst hL
  obtain ⟨v', w', hr, h1, h2, h3⟩ := run_append_own hF hK0 hK9 hby hz T E hT hE w o.type B v ys h hB hn y m g hg hx hA
  refine wpList_plain hgd fun _ hK' => ?_
  unfold Oper.wp execOp
  simp only [ho, resolve, invoke, builtin, Sem.run_bind, Sem.run_pure, Result.andThen_ok, List.map_toArray, List.map_cons, List.map_nil, hs, hy, hr]
  exact hK' _ _ (hK v' w' h1 h2 h3)
/-- What grows a row of the call's own keeps what was before the call. -/
theorem grown_below {W w w' : World} {F : Y → List Value} {K : Nat} {E : TypeId} {v : Value} {ys : List Y} (hb : Below W.heap.size W w) (h : Own F K W.heap.size E w v ys) (hg : w.grownBy w' v.ownBlock) : Below W.heap.size W w' :=
  hb.trans ⟨hg.os, hg.tape, hg.output, hg.size, fun k hk => hg.block k (Nat.lt_of_lt_of_le hk hb.size) (fun e => by
    have := (h.lt e.symm).1
    omega)⟩

/-- A slice that reads so. -/
def Rd (F : Y → List Value) (K : Nat) (w : World) (A : Option Addr) (n : Nat) (ys : List Y) : Prop := ys.length = n ∧ ∀ k, k < n → ∃ b o y, A = some ⟨b, o, none⟩ ∧ ys[k]? = some y ∧ (∀ j v, (F y)[j]? = some v → w.cell? ⟨b, o + k * K + j, none⟩ = some v) ∧ Oct w y
theorem Rd.below {F : Y → List Value} {K : Nat} {w w' : World} {A : Option Addr} {n : Nat} {ys : List Y} (h : Rd F K w A n ys) (hb : Below w.heap.size w w') : Rd F K w' A n ys := by
  refine ⟨h.1, fun k hk => ?_⟩
  obtain ⟨b, o, y, h1, h2, h3, h4⟩ := h.2 k hk
  refine ⟨b, o, y, h1, h2, fun j v hv => ?_, h4.below hb⟩
  have := h3 j v hv
  rw [hb.cell (p := ⟨b, o + k * K + j, none⟩) (block_lt_of_cell this)]
  exact this
theorem Rd.other {F : Y → List Value} {K : Nat} {w w' : World} {A : Option Addr} {n : Nat} {ys : List Y} (h : Rd F K w A n ys) (g : Nat) (hw : ∀ k, k ≠ g → w'.heap[k]? = w.heap[k]?) (hA : ∀ ad, A = some ad → ad.block ≠ g) (hO : ∀ y ∈ ys, ∀ ad, y.A = some ad → 0 < y.m → ad.block ≠ g) : Rd F K w' A n ys := by
  refine ⟨h.1, fun k hk => ?_⟩
  obtain ⟨b, o, y, h1, h2, h3, h4⟩ := h.2 k hk
  refine ⟨b, o, y, h1, h2, fun j v hv => ?_, h4.1.kept fun ad e h0 => hw _ (hO y (List.mem_of_getElem? h2) ad e h0), h4.2⟩
  rw [World.cell?_of_block (w := w) (hw b (hA _ h1))]
  exact h3 j v hv
theorem Rd.take {F : Y → List Value} {K : Nat} {w : World} {A : Option Addr} {n : Nat} {ys : List Y} (h : Rd F K w A n ys) (m : Nat) (hm : m ≤ n) : Rd F K w A m (ys.take m) := by
  refine ⟨by rw [List.length_take, h.1]; omega, fun k hk => ?_⟩
  obtain ⟨b, o, x, h1, h2, h3⟩ := h.2 k (by omega)
  exact ⟨b, o, x, h1, by rw [List.getElem?_take, if_pos hk]; exact h2, h3⟩
theorem Own.rd {F : Y → List Value} {K B : Nat} {E : TypeId} {w : World} {v : Value} {ys : List Y} (hF : Fm F K) (h : Own F K B E w v ys) : ∃ A c, v = .slice A ys.length c ∧ ys.length ≤ c ∧ (A = none → c = 0) ∧ Rd F K w A ys.length ys := by
  rcases h.1.2 with ⟨e, h0⟩ | ⟨g, cap, cur, e, hB, hg, hc, _⟩
  · exact ⟨none, 0, by rw [h0]; exact e, by omega, fun _ => rfl, rfl, fun k hk => by omega⟩
  · refine ⟨_, cap, e, hc, (fun e => by cases e), rfl, fun k hk => ?_⟩
    have hx : ys[k]? = some ys[k] := List.getElem?_eq_getElem hk
    refine ⟨g, 0, ys[k], rfl, hx, fun j u hu => ?_, (h.2 _ (List.getElem_mem hk)).1⟩
    have := h.1.cells (g := g) (by rw [e]; rfl) _ u (fl_at hF ys k _ hx j u hu)
    rw [codec.add_none] at this
    rw [Nat.add_assoc]
    exact this
theorem Rd.empty {F : Y → List Value} {K : Nat} (w : World) : Rd F K w .none 0 [] := ⟨rfl, fun k hk => by omega⟩
theorem Rd.at8 {w : World} {A : Option Addr} {n : Nat} {ys : List Y} (h : Rd cA 8 w A n ys) (k : Nat) (hk : k < n) : ∃ b o y, A = some ⟨b, o, none⟩ ∧ ys[k]? = some y ∧ w.cell? ⟨b, o + k * 8, none⟩ = some (.int .i64 (y.n.k : Nat)) ∧ w.cell? ⟨b, o + k * 8 + 1, none⟩ = some (.int .u32 (y.n.e : Nat)) ∧ w.cell? ⟨b, o + k * 8 + 2, none⟩ = some (.string y.n.s) ∧ w.cell? ⟨b, o + k * 8 + 3, none⟩ = some (.int .u32 (y.n.u : Nat)) ∧ w.cell? ⟨b, o + k * 8 + 4, none⟩ = some (.int .i64 y.n.d) ∧ w.cell? ⟨b, o + k * 8 + 5, none⟩ = some (.int .i64 y.n.f) ∧ w.cell? ⟨b, o + k * 8 + 6, none⟩ = some (.slice y.A y.m y.c) ∧ w.cell? ⟨b, o + k * 8 + 7, none⟩ = some (.int .i64 (y.p : Nat)) ∧ Oct w y := by
  obtain ⟨b, o, y, h1, h2, h3, h4⟩ := h.2 k hk
  exact ⟨b, o, y, h1, h2, h3 0 _ rfl, h3 1 _ rfl, h3 2 _ rfl, h3 3 _ rfl, h3 4 _ rfl, h3 5 _ rfl, h3 6 _ rfl, h3 7 _ rfl, h4⟩
theorem Rd.at7 {w : World} {A : Option Addr} {n : Nat} {ys : List Y} (h : Rd cN 7 w A n ys) (k : Nat) (hk : k < n) : ∃ b o y, A = some ⟨b, o, none⟩ ∧ ys[k]? = some y ∧ w.cell? ⟨b, o + k * 7, none⟩ = some (.int .i64 (y.n.k : Nat)) ∧ w.cell? ⟨b, o + k * 7 + 1, none⟩ = some (.int .u32 (y.n.e : Nat)) ∧ w.cell? ⟨b, o + k * 7 + 2, none⟩ = some (.string y.n.s) ∧ w.cell? ⟨b, o + k * 7 + 3, none⟩ = some (.int .u32 (y.n.u : Nat)) ∧ w.cell? ⟨b, o + k * 7 + 4, none⟩ = some (.int .i64 y.n.d) ∧ w.cell? ⟨b, o + k * 7 + 5, none⟩ = some (.int .i64 y.n.f) ∧ w.cell? ⟨b, o + k * 7 + 6, none⟩ = some (.slice y.A y.m y.c) ∧ Oct w y := by
  obtain ⟨b, o, y, h1, h2, h3, h4⟩ := h.2 k hk
  exact ⟨b, o, y, h1, h2, h3 0 _ rfl, h3 1 _ rfl, h3 2 _ rfl, h3 3 _ rfl, h3 4 _ rfl, h3 5 _ rfl, h3 6 _ rfl, h4⟩
theorem Rd.at4 {w : World} {A : Option Addr} {n : Nat} {ys : List Y} (h : Rd cM 4 w A n ys) (k : Nat) (hk : k < n) : ∃ b o y, A = some ⟨b, o, none⟩ ∧ ys[k]? = some y ∧ w.cell? ⟨b, o + k * 4, none⟩ = some (.int .u32 (y.n.u : Nat)) ∧ w.cell? ⟨b, o + k * 4 + 1, none⟩ = some (.int .i64 y.n.d) ∧ w.cell? ⟨b, o + k * 4 + 2, none⟩ = some (.int .i64 y.n.f) ∧ w.cell? ⟨b, o + k * 4 + 3, none⟩ = some (.slice y.A y.m y.c) ∧ Oct w y := by
  obtain ⟨b, o, y, h1, h2, h3, h4⟩ := h.2 k hk
  exact ⟨b, o, y, h1, h2, h3 0 _ rfl, h3 1 _ rfl, h3 2 _ rfl, h3 3 _ rfl, h4⟩
theorem Rd.at6 {w : World} {A : Option Addr} {n : Nat} {ys : List Y} (h : Rd cL 6 w A n ys) (k : Nat) (hk : k < n) : ∃ b o y, A = some ⟨b, o, none⟩ ∧ ys[k]? = some y ∧ w.cell? ⟨b, o + k * 6, none⟩ = some (.int .u32 (y.n.u : Nat)) ∧ w.cell? ⟨b, o + k * 6 + 1, none⟩ = some (.int .i64 y.n.d) ∧ w.cell? ⟨b, o + k * 6 + 2, none⟩ = some (.int .i64 y.n.f) ∧ w.cell? ⟨b, o + k * 6 + 3, none⟩ = some (.slice y.A y.m y.c) ∧ w.cell? ⟨b, o + k * 6 + 4, none⟩ = some (.int .u32 (y.n.e : Nat)) ∧ w.cell? ⟨b, o + k * 6 + 5, none⟩ = some (.int .i64 (y.p : Nat)) ∧ Oct w y := by
  obtain ⟨b, o, y, h1, h2, h3, h4⟩ := h.2 k hk
  exact ⟨b, o, y, h1, h2, h3 0 _ rfl, h3 1 _ rfl, h3 2 _ rfl, h3 3 _ rfl, h3 4 _ rfl, h3 5 _ rfl, h4⟩
def zN : Value := .agg #[.int .i64 0, .int .u32 0, .string ⟨#[]⟩, .int .u32 0, .int .i64 0, .int .i64 0, .slice none 0 0]
def zA : Value := .agg #[.int .i64 0, .int .u32 0, .string ⟨#[]⟩, .int .u32 0, .int .i64 0, .int .i64 0, .slice none 0 0, .int .i64 0]
def zM : Value := .agg #[.int .u32 0, .int .i64 0, .int .i64 0, .slice none 0 0]
def zL : Value := .agg #[.int .u32 0, .int .i64 0, .int .i64 0, .slice none 0 0, .int .u32 0, .int .i64 0]
theorem infoN : (Tryz.prog.info? 62).map (fun i => (i.zero, i.size, i.bytes)) = some (some zN, 7, 80) := by kernel_rfl
theorem infoB : (Tryz.prog.info? 100).map (fun i => (i.zero, i.size, i.bytes)) = some (some zN, 7, 80) := by kernel_rfl
theorem infoA : (Tryz.prog.info? 135).map (fun i => (i.zero, i.size, i.bytes)) = some (some zA, 8, 88) := by kernel_rfl
theorem infoM : (Tryz.prog.info? 60).map (fun i => (i.zero, i.size, i.bytes)) = some (some zM, 4, 48) := by kernel_rfl
theorem infoL : (Tryz.prog.info? 86).map (fun i => (i.zero, i.size, i.bytes)) = some (some zL, 6, 64) := by kernel_rfl
end Go.Proofs.YtklmbiekpilkhaaGreatDoor.lg
namespace Go.Proofs.YtklmbiekpilkhaaGreatDoor.lg
open Go.ChangeShapes Go.WideShapes Go.ChangeAt Go.RowKit
open Go.Proofs.YtklmbiekpilkhaaGreatDoor.codec (Bytes)
open Go.Proofs.YtklmbiekpilkhaaGreatDoor.frm (R X Reads Recs)
open Go.Proofs.YtklmbiekpilkhaaGreatDoor.bod (Fit decode1 decode2 decode3 decode0 zeroN tup)
set_option linter.unusedVariables false
set_option maxRecDepth 100000
set_option linter.unusedSimpArgs false

theorem dec_none (W : World) (k : Nat) (A : Option Addr) (n c : Nat) (L : List Nat) (hB : Bytes W A n L) (hn : n ≤ 100000) (hr : Fit W) (h : dec k L = none) :
    Calls Tryz.prog 36 #[.int .i64 (k : Nat), .slice A n c] W fun x w' => x = .returned (.tuple #[.agg #[.int .i64 0, .int .u32 0, .string ⟨#[]⟩, .int .u32 0, .int .i64 0, .int .i64 0, .slice none 0 0], .int .i64 2]) ∧ Below W.heap.size W w' := by
  by_cases h1 : k = 1
  · subst h1
    refine (decode1 W A n c L hB hn hr).mono ?_
    rintro x w' ⟨rfl, hw⟩
    unfold dec at h
    rw [if_pos rfl] at h
    split at h
    · cases h
    · rename_i ho
      rw [Bool.not_eq_true] at ho
      rw [ho]
      exact ⟨rfl, hw⟩
  · by_cases h2 : k = 2
    · subst h2
      refine (decode2 W A n c L hB hn hr).mono ?_
      rintro x w' ⟨gg, mm, hmm, rfl, hg, hO, hw⟩
      unfold dec at h
      rw [if_neg (by decide), if_pos rfl] at h
      split at h
      · cases h
      · rename_i ho
        rw [Bool.not_eq_true] at ho
        rw [ho]
        exact ⟨rfl, hw⟩
    · by_cases h3 : k = 3
      · subst h3
        refine (decode3 W A n c L hB hn hr).mono ?_
        rintro x w' ⟨rfl, hw⟩
        unfold dec at h
        rw [if_neg (by decide), if_neg (by decide), if_pos rfl] at h
        split at h
        · cases h
        · rename_i ho
          rw [Bool.not_eq_true] at ho
          rw [ho]
          exact ⟨rfl, hw⟩
      · refine (decode0 W k (by omega) (by omega) (by omega) A n c L hB hn hr).mono ?_
        rintro x w' ⟨rfl, hw⟩
        exact ⟨rfl, hw⟩
/-- Where the octets of a note that a call made lie. -/
def Newly (W : World) (t : Nt) (A : Option Addr) (m c : Nat) (w' : World) : Prop := Bytes w' A m t.o ∧ (A = none → c = 0) ∧ (∀ ad, A = some ad → W.heap.size ≤ ad.block) ∧ Below W.heap.size W w'
theorem dec_some (W : World) (k : Nat) (A : Option Addr) (n c : Nat) (L : List Nat) (hB : Bytes W A n L) (hn : n ≤ 100000) (hr : Fit W) (t : Nt) (h : dec k L = some t) :
    Calls Tryz.prog 36 #[.int .i64 (k : Nat), .slice A n c] W fun x w' => ∃ A' m c', x = .returned (.tuple #[.agg #[.int .i64 (t.k : Nat), .int .u32 (t.e : Nat), .string t.s, .int .u32 (t.u : Nat), .int .i64 t.d, .int .i64 t.f, .slice A' m c'], .int .i64 0]) ∧ Newly W t A' m c' w' := by
  by_cases h1 : k = 1
  · subst h1
    refine (decode1 W A n c L hB hn hr).mono ?_
    rintro x w' ⟨rfl, hw⟩
    unfold dec at h
    rw [if_pos rfl] at h
    split at h
    · rename_i ho
      cases h
      rw [ho]
      exact ⟨none, 0, 0, rfl, codec.empty_bytes w', fun _ => rfl, (fun ad e => by cases e), hw⟩
    · cases h
  · by_cases h2 : k = 2
    · subst h2
      refine (decode2 W A n c L hB hn hr).mono ?_
      rintro x w' ⟨gg, mm, hmm, rfl, hg, hO, hw⟩
      unfold dec at h
      rw [if_neg (by decide), if_pos rfl] at h
      split at h
      · rename_i ho
        cases h
        rw [ho]
        exact ⟨_, mm, mm, rfl, hO, (fun e => by cases e), (fun ad e => by cases e; exact hg), hw⟩
      · cases h
    · by_cases h3 : k = 3
      · subst h3
        refine (decode3 W A n c L hB hn hr).mono ?_
        rintro x w' ⟨rfl, hw⟩
        unfold dec at h
        rw [if_neg (by decide), if_neg (by decide), if_pos rfl] at h
        split at h
        · rename_i ho
          cases h
          rw [ho]
          exact ⟨none, 0, 0, rfl, codec.empty_bytes w', fun _ => rfl, (fun ad e => by cases e), hw⟩
        · cases h
      · unfold dec at h
        rw [if_neg h1, if_neg h2, if_neg h3] at h
        cases h
def noteOf (r : R) : Option (Nt × Nat) := (dec r.kind r.pay).map fun t => (t, r.at_)
def notesR (rs : List R) : List (Nt × Nat) := rs.filterMap noteOf
theorem notesR_snoc (rs : List R) (r : R) : notesR (rs ++ [r]) = notesR rs ++ (noteOf r).toList := by
  simp only [notesR, List.filterMap_append, List.filterMap_cons, List.filterMap_nil]
  cases noteOf r <;> rfl
def Y.np (y : Y) : Nt × Nat := (y.n, y.p)
/-- The notes of the first records. -/
def NSt (W : World) (E : TypeId) (F : Y → List Value) (K : Nat) (rs : List R) (k : Nat) (v : Value) (w : World) : Prop := ∃ ys, Own F K W.heap.size E w v ys ∧ Below W.heap.size W w ∧ ys.map Y.np = notesR (rs.take k) ∧ ys.length ≤ k ∧ ∀ y ∈ ys, ∀ ad, y.A = some ad → W.heap.size ≤ ad.block
theorem NSt.start (W : World) (E : TypeId) (F : Y → List Value) (K : Nat) (rs : List R) : NSt W E F K rs 0 (.slice none 0 0) W := ⟨[], Own.nil _ _ _ _ _, Below.refl _ _, rfl, Nat.le_refl _, by simp⟩
theorem NSt.below {W : World} {E : TypeId} {F : Y → List Value} {K : Nat} {rs : List R} {k : Nat} {v : Value} {w w' : World} (h : NSt W E F K rs k v w) (hb : Below w.heap.size w w') : NSt W E F K rs k v w' := by
  obtain ⟨ys, h1, h2, h3, h4⟩ := h
  exact ⟨ys, h1.below hb, h2.trans (hb.mono h2.size), h3, h4⟩
theorem NSt.skip {W : World} {E : TypeId} {F : Y → List Value} {K : Nat} {rs : List R} {k : Nat} {v : Value} {w : World} {r : R} (h : NSt W E F K rs k v w) (hr : rs[k]? = some r) (hd : dec r.kind r.pay = none) : NSt W E F K rs (k + 1) v w := by
  obtain ⟨ys, h1, h2, h3, h4⟩ := h
  exact ⟨ys, h1, h2, by rw [take_next hr, notesR_snoc, h3]; simp [noteOf, hd], by omega, h4.2⟩
theorem NSt.more {W : World} {E : TypeId} {F : Y → List Value} {K : Nat} {rs : List R} {k : Nat} {v v' : Value} {w w' : World} {r : R} {t : Nt} {ys : List Y} {A : Option Addr} {m c : Nat} (hr : rs[k]? = some r) (hd : dec r.kind r.pay = some t) (h1 : Own F K W.heap.size E w v ys) (h2 : Below W.heap.size W w) (h3 : ys.map Y.np = notesR (rs.take k)) (h4 : ys.length ≤ k ∧ ∀ y ∈ ys, ∀ ad, y.A = some ad → W.heap.size ≤ ad.block) (hA : ∀ ad, A = some ad → W.heap.size ≤ ad.block) (ho : Own F K W.heap.size E w' v' (ys ++ [⟨t, r.at_, A, m, c⟩])) (hg : w.grownBy w' v.ownBlock) : NSt W E F K rs (k + 1) v' w' :=
  ⟨_, ho, grown_below h2 h1 hg, by rw [List.map_append, h3, take_next hr, notesR_snoc]; simp [noteOf, hd, Y.np], by simp; omega, fun y hy ad e => by
    rcases List.mem_append.1 hy with hy | hy
    · exact h4.2 y hy ad e
    · simp at hy
      subst hy
      exact hA ad e⟩
theorem readsBelow {w w' : World} {A : Option Addr} {n : Nat} {xs : List X} (h : Reads w A n xs) (hb : Below w.heap.size w w') : Reads w' A n xs :=
  ⟨h.1, fun k hk => by
    obtain ⟨b, o, x, h1, h2, h3, h4, h5, h6⟩ := h.2 k hk
    have hlt := block_lt_of_cell h3
    exact ⟨b, o, x, h1, h2, by rw [hb.cell (p := ⟨b, o + k * 3, none⟩) hlt]; exact h3, by rw [hb.cell (p := ⟨b, o + k * 3 + 1, none⟩) hlt]; exact h4, by rw [hb.cell (p := ⟨b, o + k * 3 + 2, none⟩) hlt]; exact h5, h6.below h6.lt hb⟩⟩
set_option maxHeartbeats 2000000 in
theorem notesOf_any (W : World) (A : Option Addr) (n c : Nat) (xs : List X) (hR : Reads W A n xs) (hp : ∀ x ∈ xs, x.r.pay.length ≤ 30000) (hn : n ≤ 16000000) (hr : Fit W) :
    Calls Tryz.prog 29 #[.slice A n c] W fun x w' => ∃ v, x = .returned v ∧ NSt W 135 cA 8 (xs.map X.r) n v w' := by
  have HR := Lib.hid hR
  have HP := Lib.hid hp
  have HF := Lib.hid hr
  have HS0 := Lib.hid (NSt.start W 135 cA 8 (xs.map X.r))
  clear hR hp hr
  go_enter Tryz.func29, Tryz.ntmps29
  go_wp2
  go_loopw [3, 10] (fun v i wr => ∃ k : Nat, k ≤ n ∧ i = .int .i64 k ∧ Hid (NSt W 135 cA 8 (xs.map X.r) k v wr)) (fun _ i _ => n - (intOf i).toNat)
  case atStart => exact ⟨0, Nat.zero_le _, rfl, HS0⟩
  case round =>
    obtain ⟨k, hk, rfl, HS⟩ := hrel
    by_cases hlt : k < n
    · obtain ⟨ys, s1, s2, s3, s4⟩ := HS.out
      obtain ⟨b, o, x, rfl, hx, c0, c1, c2, cB⟩ := (readsBelow HR.out s2).2 k hlt
      have hpl := HP.out x (List.mem_of_getElem? hx)
      have hxr : (xs.map X.r)[k]? = some x.r := by rw [List.getElem?_map, hx]; rfl
      obtain ⟨⟨a, kd, pay⟩, Ax, nx, cx⟩ := x
      simp only [] at c0 c1 c2 cB hpl hxr
      have hnx : nx ≤ 100000 := by have := cB.1; omega
      have HXR := Lib.hid hxr
      have S1 := Lib.hid s1
      have S2 := Lib.hid s2
      have S3 := Lib.hid s3
      have S4 := Lib.hid s4
      have hlt' : (k : Int) < (n : Int) := by omega
      obtain ⟨g0, hg0⟩ : ∃ g0, g0 = wr.alloc (.cells #[.int .i64 (a : Nat), .int .i64 (kd : Nat), .slice Ax nx cx] 133) := ⟨_, rfl⟩
      have HB0 := Lib.hid (show Below wr.heap.size wr g0 by rw [hg0]; exact (Below.refl _ _).alloc (Nat.le_refl _) _)
      have HG0 := Lib.hid hg0
      cases hd : dec kd pay with
      | none =>
        have HD := Lib.hid (dec_none g0 kd Ax nx cx pay (cB.below cB.lt HB0.out) hnx (HF.out.below (s2.trans (HB0.out.mono s2.size))) hd)
        have HSk := Lib.hid (HS.out.skip hxr hd)
        clear hx hxr hd s1 s2 s3 s4 cB hpl hnx hg0 S1 S2 S3 S4 HXR
        go_wp2_with fail
        rw [← HG0.out]
        refine HD.out.mono ?_
        rintro x w1 ⟨rfl, hb1⟩
        have HS1 := Lib.hid (HSk.out.below (HB0.out.trans (hb1.mono HB0.out.size)))
        clear hb1 HD HSk c0 c1 c2
        go_wp2_with fail
        go_roundw
        case rel => first | exact ⟨k + 1, by omega, by go_num, Lib.hid (HS1.out.below ((Below.refl _ _).alloc (Nat.le_refl _) _))⟩ | ((repeat apply Exists.intro); exact ⟨⟨k + 1, by omega, by go_num, Lib.hid (HS1.out.below ((Below.refl _ _).alloc (Nat.le_refl _) _))⟩, rfl⟩)
        case measure => (show n - ((k : Int) + 1).toNat < n - k; omega)
      | some t =>
        have HD := Lib.hid (dec_some g0 kd Ax nx cx pay (cB.below cB.lt HB0.out) hnx (HF.out.below (s2.trans (HB0.out.mono s2.size))) t hd)
        have HX := Lib.hid (fun w1 (h : Below g0.heap.size g0 w1) => show w1.heap[wr.heap.size]? = some (.cells #[.int .i64 (a : Nat), .int .i64 (kd : Nat), .slice Ax nx cx] 133 (0, 0)) from (bod.boxed (w := wr) (by rw [← hg0]; exact h)).1)
        have HDD := Lib.hid hd
        clear hx hxr hd s1 s2 s3 s4 cB hpl hnx hg0
        go_wp2_with fail
        rw [← HG0.out]
        refine HD.out.mono ?_
        rintro x w1 ⟨A', m', c', rfl, hnew⟩
        have HNW := Lib.hid hnew
        have hb1 := HB0.out.trans (hnew.2.2.2.mono HB0.out.size)
        have d0 := bod.cell_at (HX.out _ hnew.2.2.2) 0 _ rfl
        have O1 := Lib.hid (S1.out.below hb1)
        have O2 := Lib.hid (S2.out.trans (hb1.mono S2.out.size))
        have HGT := Lib.hid (show W.heap.size ≤ wr.heap.size ∧ wr.heap.size ≤ g0.heap.size from ⟨S2.out.size, HB0.out.size⟩)
        have HOA := Lib.hid (show ∀ ad, A' = some ad → 0 < m' → u3.ownBlock ≠ some ad.block from fun ad e h0 e' => by
          have h1 := hnew.2.2.1 ad e
          have h2 := (S1.out.lt e').2
          have h3 := HB0.out.size
          omega)
        have hz : wr.heap.size < w1.heap.size := Nat.lt_of_lt_of_le (by rw [HG0.out]; simp) hnew.2.2.2.size
        clear hnew hb1 HD c0 c1 c2 HX S1 S2
        obtain ⟨tk, te, ts, tu, td, tf, to_⟩ := t
        simp only [] at HNW HDD ⊢
        go_wp2_with (at_builtin; refine wpList_append_own fA (by decide) (by decide) (by decide) rfl rfl (.tmp 24) (.tmp 29) 90 135 rfl Tryz.underlying90 infoA W.heap.size u3 ys rfl (O1.out.alloc _) (Nat.le_trans O2.out.size (by simp)) (by have := S4.out.1; omega) ⟨⟨tk, te, ts, tu, td, tf, to_⟩, a, A', m', c'⟩ (0, 0) _ (by simp) rfl _ rfl ⟨HNW.out.1.alloc _, HNW.out.2.1⟩ HOA.out ?_; intro v' w2 ho hg hat; have HS2 := Lib.hid (NSt.more HXR.out HDD.out (O1.out.alloc _) (O2.out.alloc O2.out.size _) S3.out S4.out (fun ad e => Nat.le_trans (Nat.le_trans HGT.out.1 HGT.out.2) (HNW.out.2.2.1 ad e)) ho hg); clear ho hg hat)
        go_roundw
        case rel => first | exact ⟨k + 1, by omega, by go_num, HS2⟩ | ((repeat apply Exists.intro); exact ⟨⟨k + 1, by omega, by go_num, HS2⟩, rfl⟩)
        case measure => (show n - ((k : Int) + 1).toNat < n - k; omega)
    · obtain rfl : k = n := by omega
      go_wp2
      go_ret
      exact ⟨_, rfl, HS.out⟩
end Go.Proofs.YtklmbiekpilkhaaGreatDoor.lg
namespace Go.Proofs.YtklmbiekpilkhaaGreatDoor.lg
open Go.ChangeShapes Go.WideShapes Go.ChangeAt Go.RowKit
open Go.Proofs.YtklmbiekpilkhaaGreatDoor.codec (Bytes)
set_option linter.unusedVariables false
set_option maxRecDepth 100000
set_option linter.unusedSimpArgs false

def nts (ys : List Y) : List Nt := ys.map Y.n
theorem nts_at {ys : List Y} {k : Nat} {y : Y} (h : ys[k]? = some y) : (nts ys)[k]? = some y.n := by rw [nts, List.getElem?_map, h]; rfl
theorem nts_len (ys : List Y) : (nts ys).length = ys.length := List.length_map _
set_option maxHeartbeats 1000000 in
theorem lastName_any (W : World) (A : Option Addr) (n c : Nat) (ys : List Y) (hR : Rd cA 8 W A n ys) (hn : n ≤ 16000000) :
    Calls Tryz.prog 30 #[.slice A n c] W fun x w' => x = .returned (.string (nmL (nts ys))) ∧ Below W.heap.size W w' := by
  have HR := Lib.hid hR
  clear hR
  go_enter Tryz.func30, Tryz.ntmps30
  go_wp2
  go_loopw [3, 8] (fun s i wr => ∃ k : Nat, k ≤ n ∧ i = .int .i64 k ∧ s = .string (nmL ((nts ys).take k)) ∧ Hid (Below W.heap.size W wr)) (fun _ i _ => n - (intOf i).toNat)
  case atStart => exact ⟨0, Nat.zero_le _, rfl, rfl, Lib.hid (Below.refl _ _)⟩
  case round =>
    obtain ⟨k, hk, rfl, rfl, HB⟩ := hrel
    by_cases hlt : k < n
    · obtain ⟨b, o, ⟨⟨tk, te, ts, tu, td, tf, to_⟩, a, A', m', c'⟩, rfl, hx, c0, c1, c2, c3, c4, c5, c6, c7, -⟩ := (HR.out.below HB.out).at8 k hlt
      have HT := Lib.hid (congrArg nmL (take_next (nts_at hx)))
      simp only [nmL_snoc] at c0 c1 c2 c3 c4 c5 c6 c7 HT
      have hlt' : (k : Int) < (n : Int) := by omega
      clear hx
      by_cases h3 : tk = 3
      · subst h3
        have HE : Hid (nmL ((nts ys).take (k + 1)) = nmL ((nts ys).take k)) := by rw [HT.out]; exact Lib.hid (if_pos rfl)
        clear HT
        go_wp2
        go_roundw
        case rel => first | exact ⟨k + 1, by omega, by go_num, by rw [HE.out], Lib.hid (HB.out.alloc HB.out.size _)⟩ | ((repeat apply Exists.intro); exact ⟨⟨k + 1, by omega, by go_num, by rw [HE.out], Lib.hid (HB.out.alloc HB.out.size _)⟩, rfl⟩)
        case measure => (show n - ((k : Int) + 1).toNat < n - k; omega)
      · have HE : Hid (nmL ((nts ys).take (k + 1)) = ts) := by rw [HT.out]; exact Lib.hid (if_neg h3)
        have h3' : ((tk : Int) != 3) = true := by rw [bne_iff_ne]; omega
        clear HT h3
        go_wp2
        go_roundw
        case rel => first | exact ⟨k + 1, by omega, by go_num, by rw [HE.out], Lib.hid (HB.out.alloc HB.out.size _)⟩ | ((repeat apply Exists.intro); exact ⟨⟨k + 1, by omega, by go_num, by rw [HE.out], Lib.hid (HB.out.alloc HB.out.size _)⟩, rfl⟩)
        case measure => (show n - ((k : Int) + 1).toNat < n - k; omega)
    · obtain rfl : k = n := by omega
      have HE : Hid ((nts ys).take k = nts ys) := Lib.hid (List.take_of_length_le (by rw [nts_len, HR.out.1]; omega))
      go_wp2
      go_ret
      exact ⟨by rw [HE.out]; rfl, HB.out⟩
set_option maxHeartbeats 1000000 in
theorem greatestEpoch_any (W : World) (A : Option Addr) (n c : Nat) (ys : List Y) (hR : Rd cA 8 W A n ys) (hn : n ≤ 16000000) :
    Calls Tryz.prog 31 #[.slice A n c] W fun x w' => x = .returned (.int .u32 (epo (nts ys) : Nat)) ∧ Below W.heap.size W w' := by
  have HR := Lib.hid hR
  clear hR
  go_enter Tryz.func31, Tryz.ntmps31
  go_wp2
  go_loopw [3, 8] (fun s i wr => ∃ k : Nat, k ≤ n ∧ i = .int .i64 k ∧ s = .int .u32 (epo ((nts ys).take k) : Nat) ∧ Hid (Below W.heap.size W wr)) (fun _ i _ => n - (intOf i).toNat)
  case atStart => exact ⟨0, Nat.zero_le _, rfl, rfl, Lib.hid (Below.refl _ _)⟩
  case round =>
    obtain ⟨k, hk, rfl, rfl, HB⟩ := hrel
    by_cases hlt : k < n
    · obtain ⟨b, o, ⟨⟨tk, te, ts, tu, td, tf, to_⟩, a, A', m', c'⟩, rfl, hx, c0, c1, c2, c3, c4, c5, c6, c7, -⟩ := (HR.out.below HB.out).at8 k hlt
      have HT := Lib.hid (congrArg epo (take_next (nts_at hx)))
      simp only [epo_snoc] at c0 c1 c2 c3 c4 c5 c6 c7 HT
      have hlt' : (k : Int) < (n : Int) := by omega
      clear hx
      generalize epo ((nts ys).take k) = g at *
      go_wp2
      go_roundw
      case rel => first | exact ⟨k + 1, by omega, by go_num, by rw [HT.out]; congr 1; omega, Lib.hid (HB.out.alloc HB.out.size _)⟩ | ((repeat apply Exists.intro); exact ⟨⟨k + 1, by omega, by go_num, by rw [HT.out]; congr 1; omega, Lib.hid (HB.out.alloc HB.out.size _)⟩, rfl⟩)
      case measure => (show n - ((k : Int) + 1).toNat < n - k; omega)
    · obtain rfl : k = n := by omega
      have HE : Hid ((nts ys).take k = nts ys) := Lib.hid (List.take_of_length_le (by rw [nts_len, HR.out.1]; omega))
      go_wp2
      go_ret
      exact ⟨by rw [HE.out]; rfl, HB.out⟩
set_option maxHeartbeats 1000000 in
theorem nextUID_any (W : World) (A : Option Addr) (n c E : Nat) (ys : List Y) (hR : Rd cA 8 W A n ys) (hn : n ≤ 16000000) (hok : ∀ y ∈ ys, y.n.ok) :
    Calls Tryz.prog 33 #[.slice A n c, .int .u32 E] W fun x w' => x = .returned (.int .u32 (nxt (top E (nts ys)) : Nat)) ∧ Below W.heap.size W w' := by
  have HR := Lib.hid hR
  have HTL := Lib.hid (fun k => top_lt (E := E) (l := (nts ys).take k) (fun t ht => by
    obtain ⟨y, hy, rfl⟩ := List.mem_map.1 (List.mem_of_mem_take ht)
    exact hok y hy))
  clear hR hok
  go_enter Tryz.func33, Tryz.ntmps33
  go_wp2
  go_loopw [5, 10] (fun s i wr => ∃ k : Nat, k ≤ n ∧ i = .int .i64 k ∧ s = .int .u32 (top E ((nts ys).take k) : Nat) ∧ Hid (Below W.heap.size W wr)) (fun _ i _ => n - (intOf i).toNat)
  case atStart => exact ⟨0, Nat.zero_le _, rfl, rfl, Lib.hid (Below.refl _ _)⟩
  case round =>
    obtain ⟨k, hk, rfl, rfl, HB⟩ := hrel
    by_cases hlt : k < n
    · obtain ⟨b, o, ⟨⟨tk, te, ts, tu, td, tf, to_⟩, a, A', m', c'⟩, rfl, hx, c0, c1, c2, c3, c4, c5, c6, c7, -⟩ := (HR.out.below HB.out).at8 k hlt
      have HT := Lib.hid (congrArg (top E) (take_next (nts_at hx)))
      simp only [top_snoc] at c0 c1 c2 c3 c4 c5 c6 c7 HT
      have hlt' : (k : Int) < (n : Int) := by omega
      clear hx
      generalize top E ((nts ys).take k) = g at *
      by_cases h3 : te = E
      · have HE : Hid (top E ((nts ys).take (k + 1)) = max g tu) := by rw [HT.out]; exact Lib.hid (if_pos h3)
        have h3' : ((te : Int) == (E : Int)) = true := by rw [beq_iff_eq]; omega
        clear HT h3
        go_wp2
        go_roundw
        case rel => first | exact ⟨k + 1, by omega, by go_num, by rw [HE.out]; congr 1; omega, Lib.hid (HB.out.alloc HB.out.size _)⟩ | ((repeat apply Exists.intro); exact ⟨⟨k + 1, by omega, by go_num, by rw [HE.out]; congr 1; omega, Lib.hid (HB.out.alloc HB.out.size _)⟩, rfl⟩)
        case measure => (show n - ((k : Int) + 1).toNat < n - k; omega)
      · have HE : Hid (top E ((nts ys).take (k + 1)) = g) := by rw [HT.out]; exact Lib.hid (if_neg h3)
        have h3' : ((te : Int) == (E : Int)) = false := by rw [beq_eq_false_iff_ne]; omega
        clear HT h3
        go_wp2
        go_roundw
        case rel => first | exact ⟨k + 1, by omega, by go_num, by rw [HE.out], Lib.hid (HB.out.alloc HB.out.size _)⟩ | ((repeat apply Exists.intro); exact ⟨⟨k + 1, by omega, by go_num, by rw [HE.out], Lib.hid (HB.out.alloc HB.out.size _)⟩, rfl⟩)
        case measure => (show n - ((k : Int) + 1).toNat < n - k; omega)
    · obtain rfl : k = n := by omega
      have HE : Hid ((nts ys).take k = nts ys) := Lib.hid (List.take_of_length_le (by rw [nts_len, HR.out.1]; omega))
      have hg := HTL.out k
      rw [HE.out] at hg ⊢
      have HNX : Hid ((nxt (top E (nts ys)) : Nat) = (min ((top E (nts ys) : Nat) : Int) 4294967294 + 1 : Int)) := Lib.hid (by unfold nxt; omega)
      obtain ⟨g, hge⟩ : ∃ g, g = top E (nts ys) := ⟨_, rfl⟩
      rw [← hge] at hg HNX ⊢
      have HG := Lib.hid hge
      clear hge
      go_wp2
      go_ret
      exact ⟨by rw [← HG.out, HNX.out]; rfl, HB.out⟩
set_option maxHeartbeats 1000000 in
theorem isClean_any (W : World) (A : Option Addr) (n c E : Nat) (ys : List Y) (hR : Rd cL 6 W A n ys) (hn : n ≤ 16000000) :
    Calls Tryz.prog 34 #[.slice A n c, .int .u32 E] W fun x w' => x = .returned (.bool (cl E (nts ys)).2) ∧ Below W.heap.size W w' := by
  have HR := Lib.hid hR
  clear hR
  go_enter Tryz.func34, Tryz.ntmps34
  go_wp2
  go_loopw [5, 11] (fun s i wr => ∃ k lu : Nat, k ≤ n ∧ i = .int .i64 k ∧ s = .int .u32 lu ∧ Hid (cl E ((nts ys).take k) = (lu, true)) ∧ Hid (Below W.heap.size W wr)) (fun _ i _ => n - (intOf i).toNat)
  case atStart => exact ⟨0, 0, Nat.zero_le _, rfl, rfl, Lib.hid rfl, Lib.hid (Below.refl _ _)⟩
  case round =>
    obtain ⟨k, lu, hk, rfl, rfl, HC, HB⟩ := hrel
    by_cases hlt : k < n
    · obtain ⟨b, o, ⟨⟨tk, te, ts, tu, td, tf, to_⟩, a, A', m', c'⟩, rfl, hx, c0, c1, c2, c3, c4, c5, -⟩ := (HR.out.below HB.out).at6 k hlt
      have HT := Lib.hid ((congrArg (cl E) (take_next (nts_at hx))).trans (cl_snoc E _ _))
      rw [HC.out] at HT
      simp only [stp, Bool.true_and] at c0 c1 c2 c3 c4 c5 HT
      have hlt' : (k : Int) < (n : Int) := by omega
      clear hx
      have stop : ∀ (h : ¬ (te = E ∧ lu < tu ∧ tu < 4294967295)), Hid ((cl E (nts ys)).2 = false) := fun h => Lib.hid (cl_stop (i := k + 1) (by rw [HT.out]; exact decide_eq_false h))
      by_cases h1 : te = E
      · have h1' : ((te : Int) != (E : Int)) = false := by rw [bne_eq_false_iff_eq]; omega
        by_cases h2 : lu < tu
        · have h2' : decide (tu ≤ lu) = false := by rw [decide_eq_false_iff_not]; omega
          by_cases h4 : tu < 4294967295
          · have h4' : decide ((4294967295 : Int) ≤ (tu : Int)) = false := by rw [decide_eq_false_iff_not]; omega
            have HE : Hid (cl E ((nts ys).take (k + 1)) = (tu, true)) := by rw [HT.out]; exact Lib.hid (by rw [decide_eq_true ⟨h1, h2, h4⟩])
            clear HT stop h1 h2 h4 HC
            go_wp2
            go_roundw
            case rel => first | exact ⟨k + 1, tu, by omega, by go_num, rfl, HE, Lib.hid (HB.out.alloc HB.out.size _)⟩ | ((repeat apply Exists.intro); exact ⟨⟨k + 1, tu, by omega, by go_num, rfl, HE, Lib.hid (HB.out.alloc HB.out.size _)⟩, rfl⟩)
            case measure => (show n - ((k : Int) + 1).toNat < n - k; omega)
          · have h4' : decide ((4294967295 : Int) ≤ (tu : Int)) = true := by rw [decide_eq_true_iff]; omega
            have HE := stop (fun h => h4 h.2.2)
            clear HT stop h1 h2 h4 HC
            go_wp2
            go_ret
            exact ⟨by rw [HE.out]; rfl, HB.out.alloc HB.out.size _⟩
        · have h2' : decide (tu ≤ lu) = true := by rw [decide_eq_true_iff]; omega
          have HE := stop (fun h => h2 h.2.1)
          clear HT stop h1 h2 HC
          go_wp2
          go_ret
          exact ⟨by rw [HE.out]; rfl, HB.out.alloc HB.out.size _⟩
      · have h1' : ((te : Int) != (E : Int)) = true := by rw [bne_iff_ne]; omega
        have HE := stop (fun h => h1 h.1)
        clear HT stop h1 HC
        go_wp2
        go_ret
        exact ⟨by rw [HE.out]; rfl, HB.out.alloc HB.out.size _⟩
    · obtain rfl : k = n := by omega
      have HE : Hid ((cl E (nts ys)).2 = true) := by
        have h := HC.out
        rw [List.take_of_length_le (by rw [nts_len, HR.out.1]; omega)] at h
        exact Lib.hid (by rw [h])
      clear HC
      go_wp2
      go_ret
      exact ⟨by rw [HE.out]; rfl, HB.out⟩
end Go.Proofs.YtklmbiekpilkhaaGreatDoor.lg
namespace Go.Proofs.YtklmbiekpilkhaaGreatDoor.lg
open Go.ChangeShapes Go.WideShapes Go.ChangeAt Go.RowKit
open Go.Proofs.YtklmbiekpilkhaaGreatDoor.codec (Bytes)
open Go.Maps (Keyed IsMap)
set_option linter.unusedVariables false
set_option maxRecDepth 100000
set_option linter.unusedSimpArgs false

theorem laidOutP : laidOutB Tryz.prog = true := by kernel_rfl
theorem rowId : (140 : TypeId) < Tryz.prog.types.size := of_decide_eq_true (by kernel_rfl)
theorem wideId : (match Tryz.prog.underlying 140 with | some (.array _ _) | some (.struct _) => true | _ => false) = true := by kernel_rfl
theorem law : Keyed Tryz.prog 140 := Keyed.of_law (deep_law_laid laidOutP (m := 2) (by omega) rowId (by kernel_rfl) wideId)
theorem keyTypeId : Tryz.prog.keyType 140 = true := by kernel_rfl
theorem cellsId : Tryz.prog.cellsOf 140 = 2 := by kernel_rfl
theorem cellsU32 : Tryz.prog.cellsOf 24 = 1 := by kernel_rfl
theorem sizeT : ∃ m, Tryz.prog.types.size = m + 2 := ⟨_, (by kernel_rfl : Tryz.prog.types.size = (Tryz.prog.types.size - 2) + 2)⟩
theorem zero3 (w : World) : (zeroValue 3).run Tryz.prog w = .ok (.int .i64 0) w := by kernel_rfl
def KL (e u : Nat) : Lit := .string (keyBytes [.int .u32 (e : Nat), .int .u32 (u : Nat)])
theorem wf32 {n : Nat} (h : n < 4294967296) : (Lit.int .u32 (n : Nat)).wf = true := by
  simp [Lit.wf, IntKind.min, IntKind.max, IntKind.signed, IntKind.bits]
  omega
theorem keyOf_id {e u : Nat} (he : e < 4294967296) (hu : u < 4294967296) : keyOf Tryz.prog 140 (.agg #[.int .u32 (e : Nat), .int .u32 (u : Nat)]) = some (KL e u) := by
  obtain ⟨m, hm⟩ := sizeT
  have we := wf32 he
  have wu := wf32 hu
  unfold keyOf
  simp only [Tryz.underlying140]
  rw [if_pos (by simp [keyTypeId, Value.formed, Tryz.underlying140, cellsId]), hm]
  unfold Program.keyLits
  simp only [Tryz.underlying140, Value.cells]
  rw [if_pos (by simp [cellsId])]
  simp [Program.keyLits, cellsU32, Tryz.underlying24, we, wu, KL]
theorem KL_ne {e u e' u' : Nat} (he : e < 4294967296) (hu : u < 4294967296) (he' : e' < 4294967296) (hu' : u' < 4294967296) (h : ¬ (e = e' ∧ u = u')) : KL e u ≠ KL e' u' := by
  intro hk
  have h1 := law.inj (keyOf_id he hu) (hk ▸ keyOf_id he' hu')
  simp at h1
  omega
/-- What the map holds. -/
def GM (D : DataW Unit) (l : List (Nt × Nat)) : Prop := IsMap D ∧ ∀ e u : Nat, e < 4294967296 → u < 4294967296 → Maps.has D (KL e u) = (lastG l e u).isSome ∧ ∀ p, lastG l e u = some p → D.atKey (KL e u) (.lit (.int .i64 0)) = .lit (.int .i64 (p : Nat))
theorem GM.start : GM (.map []) [] := ⟨Maps.isMap_empty, fun e u _ _ => ⟨rfl, fun p h => by cases h⟩⟩
theorem GM.same {D : DataW Unit} {l : List (Nt × Nat)} {x : Nt × Nat} (h : GM D l) (h3 : x.1.k ≠ 3) : GM D (l ++ [x]) := by
  refine ⟨h.1, fun e u he hu => ?_⟩
  rw [lastG_snoc, if_neg (fun h => h3 h.1)]
  exact h.2 e u he hu
theorem GM.put {D : DataW Unit} {l : List (Nt × Nat)} {x : Nt × Nat} (h : GM D l) (h3 : x.1.k = 3) (he : x.1.e < 4294967296) (hu : x.1.u < 4294967296) : GM (D.put (KL x.1.e x.1.u) (.lit (.int .i64 (x.2 : Nat)))) (l ++ [x]) := by
  have hk := law.key (keyOf_id he hu)
  refine ⟨h.1.put _ _, fun e u he' hu' => ?_⟩
  rw [lastG_snoc]
  by_cases hc : x.1.e = e ∧ x.1.u = u
  · obtain ⟨rfl, rfl⟩ := hc
    rw [if_pos ⟨h3, rfl, rfl⟩, Maps.has_put_same h.1 hk, Maps.atKey_put_same h.1 hk]
    exact ⟨rfl, fun p hp => by cases hp; rfl⟩
  · have hne := KL_ne he' hu' he hu (fun hh => hc ⟨hh.1.symm, hh.2.symm⟩)
    rw [if_neg (fun hh => hc hh.2), Maps.has_put_other hne, Maps.atKey_put_other hne]
    exact h.2 e u he' hu'
def GSt (W : World) (mb : Nat) (l : List (Nt × Nat)) (k : Nat) (w : World) : Prop := ∃ D : DataW Unit, w.ownsMap Tryz.prog 140 (plainElem Tryz.prog 3) mb k D ∧ GM D (l.take k) ∧ Below W.heap.size W w ∧ W.heap.size ≤ mb
theorem GSt.alloc {W : World} {mb : Nat} {l : List (Nt × Nat)} {k : Nat} {w : World} (h : GSt W mb l k w) (o : Obj) : GSt W mb l k (w.alloc o) := by
  obtain ⟨D, h1, h2, h3, h4⟩ := h
  exact ⟨D, h1.alloc o, h2, h3.alloc h3.size o, h4⟩
theorem GSt.skip {W : World} {mb : Nat} {l : List (Nt × Nat)} {k : Nat} {w : World} {x : Nt × Nat} (h : GSt W mb l k w) (hx : l[k]? = some x) (h3 : x.1.k ≠ 3) : GSt W mb l (k + 1) w := by
  obtain ⟨D, h1, h2, h3', h4⟩ := h
  exact ⟨D, h1.mono (Nat.le_succ _), by rw [take_next hx]; exact h2.same h3, h3', h4⟩
theorem nps_at {ys : List Y} {k : Nat} {y : Y} (h : ys[k]? = some y) : (ys.map Y.np)[k]? = some (y.n, y.p) := by rw [List.getElem?_map, h]; rfl
set_option maxHeartbeats 1000000 in
theorem lastGone_any (W : World) (A : Option Addr) (n c : Nat) (ys : List Y) (hR : Rd cA 8 W A n ys) (hn : n ≤ 16000000) (hok : ∀ y ∈ ys, y.n.ok ∧ y.p ≤ 16000000) :
    Calls Tryz.prog 59 #[.slice A n c] W fun x w' => ∃ mb, x = .returned (.map (some mb)) ∧ GSt W mb (ys.map Y.np) n w' := by
  have HR := Lib.hid hR
  have HO := Lib.hid hok
  have HS0 : Hid (GSt W W.heap.size (ys.map Y.np) 0 (W.alloc (.map #[] 0))) := Lib.hid ⟨_, World.ownsMap_made _ _ _ _, GM.start, (Below.refl _ _).alloc (Nat.le_refl _) _, Nat.le_refl _⟩
  clear hR hok
  have hmm := @run_makeMap Tryz.prog
  go_enter Tryz.func59, Tryz.ntmps59
  go_wp2
  clear hmm
  go_loopw [9] (fun i wr => ∃ k : Nat, k ≤ n ∧ i = .int .i64 k ∧ Hid (GSt W W.heap.size (ys.map Y.np) k wr)) (fun i _ => n - (intOf i).toNat)
  case atStart => exact ⟨0, Nat.zero_le _, rfl, HS0⟩
  case round =>
    obtain ⟨k, hk, rfl, HS⟩ := hrel
    by_cases hlt : k < n
    · obtain ⟨D, g1, g2, g3, g4⟩ := HS.out
      obtain ⟨b, o, ⟨⟨tk, te, ts, tu, td, tf, to_⟩, a, A', m', c'⟩, rfl, hx, c0, c1, c2, c3, c4, c5, c6, c7, -⟩ := (HR.out.below g3).at8 k hlt
      have hyo := HO.out _ (List.mem_of_getElem? hx)
      have HX := Lib.hid (nps_at hx)
      simp only [] at c0 c1 c2 c3 c4 c5 c6 c7 hyo HX
      have hlt' : (k : Int) < (n : Int) := by omega
      have hE : te < 4294967296 := hyo.1.2.1
      have hU : tu < 4294967296 := hyo.1.2.2
      have hP := hyo.2
      clear hx hyo
      by_cases h3 : tk = 3
      · subst h3
        have G1 := Lib.hid g1
        have G2 := Lib.hid g2
        have G3 := Lib.hid g3
        clear g1 g2 g3 g4
        have HKY := Lib.hid (keyOf_id hE hU)
        have HGP : Hid (GM (D.put (KL te tu) (.lit (.int .i64 (a : Nat)))) ((ys.map Y.np).take (k + 1))) := Lib.hid (by rw [take_next HX.out]; exact GM.put (x := (⟨3, te, ts, tu, td, tf, to_⟩, a)) G2.out rfl hE hU)
        have HP := Lib.hid hP
        clear hE hU hP
        go_wp2_with (at_mapUpdate; refine wpList_mapUpdate_own _ rfl _ _ _ 136 rfl 140 3 law Tryz.underlying136 (plainElem Tryz.prog 3) W.heap.size k D rfl (G1.out.alloc _) (by unfold maxLen; omega) _ _ _ rfl rfl HKY.out _ [] (plainElem_int Tryz.underlying3 (WalkArith.wf_i64 (by have := HP.out; omega))) ?_; intro w1 hown1 hgrow1; have HS1 : Hid (GSt W W.heap.size (ys.map Y.np) (k + 1) w1) := Lib.hid ⟨_, hown1, HGP.out, (G3.out.alloc G3.out.size _).trans ⟨hgrow1.os, hgrow1.tape, hgrow1.output, hgrow1.size, fun i hi => hgrow1.block i (by have := G3.out.size; simp; omega) (fun e => by have := Option.some.inj e; omega)⟩, Nat.le_refl _⟩; clear hown1 hgrow1)
        go_roundw
        case rel => first | exact ⟨k + 1, by omega, by go_num, HS1⟩ | ((repeat apply Exists.intro); exact ⟨⟨k + 1, by omega, by go_num, HS1⟩, rfl⟩)
        case measure => (show n - ((k : Int) + 1).toNat < n - k; omega)
      · have h3' : ((tk : Int) == 3) = false := by rw [beq_eq_false_iff_ne]; omega
        have HSk := Lib.hid (HS.out.skip HX.out h3)
        clear h3 g1 g2 g3 g4 hE hU hP
        go_wp2
        go_roundw
        case rel => first | exact ⟨k + 1, by omega, by go_num, Lib.hid (HSk.out.alloc _)⟩ | ((repeat apply Exists.intro); exact ⟨⟨k + 1, by omega, by go_num, Lib.hid (HSk.out.alloc _)⟩, rfl⟩)
        case measure => (show n - ((k : Int) + 1).toNat < n - k; omega)
    · obtain rfl : k = n := by omega
      go_wp2
      go_ret
      exact ⟨_, rfl, HS.out⟩
end Go.Proofs.YtklmbiekpilkhaaGreatDoor.lg
namespace Go.Proofs.YtklmbiekpilkhaaGreatDoor.lg
open Go.ChangeShapes Go.WideShapes Go.ChangeAt Go.RowKit
open Go.Proofs.YtklmbiekpilkhaaGreatDoor.codec (Bytes)
set_option linter.unusedVariables false
set_option maxRecDepth 100000
set_option linter.unusedSimpArgs false

theorem Own.mono {F : Y → List Value} {K B B' : Nat} {E : TypeId} {w : World} {v : Value} {ys : List Y} (h : Own F K B E w v ys) (hb : B' ≤ B) : Own F K B' E w v ys := ⟨⟨h.1.1, h.1.2.imp id fun ⟨g, cap, cur, h1, h2, h3⟩ => ⟨g, cap, cur, h1, Nat.le_trans hb h2, h3⟩⟩, h.2⟩
def LSt (W : World) (ys : List Y) (k : Nat) (v : Value) (w : World) : Prop := Own cL 6 W.heap.size 86 w v (pick ys (livB (nts ys)) k) ∧ Below W.heap.size W w
theorem LSt.start (W : World) (ys : List Y) : LSt W ys 0 (.slice none 0 0) W := ⟨Own.nil _ _ _ _ _, Below.refl _ _⟩
theorem LSt.alloc {W : World} {ys : List Y} {k : Nat} {v : Value} {w : World} (h : LSt W ys k v w) (o : Obj) : LSt W ys k v (w.alloc o) := ⟨h.1.alloc o, h.2.alloc h.2.size o⟩
theorem LSt.skip {W : World} {ys : List Y} {k : Nat} {v : Value} {w : World} (h : LSt W ys k v w) (hb : livB (nts ys) k = false) : LSt W ys (k + 1) v w := ⟨by rw [pick_no hb]; exact h.1, h.2⟩
theorem LSt.more {W : World} {ys : List Y} {k : Nat} {v v' : Value} {w w' : World} {y : Y} (h : LSt W ys k v w) (hx : ys[k]? = some y) (hb : livB (nts ys) k = true) (ho : Own cL 6 W.heap.size 86 w' v' (pick ys (livB (nts ys)) k ++ [y])) (hg : w.grownBy w' v.ownBlock) : LSt W ys (k + 1) v' w' :=
  ⟨by rw [pick_yes hx hb]; exact ho, grown_below h.2 h.1 hg⟩
theorem oct_apart {W w : World} {F : Y → List Value} {K : Nat} {E : TypeId} {v : Value} {zs : List Y} {y : Y} (hy : Oct W y) (ho : Own F K W.heap.size E w v zs) : ∀ ad, y.A = some ad → 0 < y.m → v.ownBlock ≠ some ad.block := by
  intro ad e h0 e'
  have h1 := hy.1.lt ad e h0
  have h2 := (ho.lt e').1
  omega
set_option maxHeartbeats 2000000 in
theorem liveOf_any (W : World) (A : Option Addr) (n c : Nat) (ys : List Y) (hR : Rd cA 8 W A n ys) (hn : n ≤ 16000000) (hok : ∀ y ∈ ys, y.n.ok ∧ y.p ≤ 16000000) (hp : (ys.map Y.np).Pairwise (fun a b => a.2 < b.2)) :
    Calls Tryz.prog 32 #[.slice A n c] W fun x w' => ∃ v, x = .returned v ∧ Own cL 6 W.heap.size 86 w' v (pick ys (livB (nts ys)) n) ∧ Below W.heap.size W w' := by
  have HR := Lib.hid hR
  have HO := Lib.hid hok
  have HPW := Lib.hid hp
  have HG := Lib.hid (lastGone_any W A n c ys hR hn hok)
  clear hR hok hp
  go_enter Tryz.func32, Tryz.ntmps32
  go_wp2_with fail
  refine HG.out.mono ?_
  rintro x W1 ⟨mb, rfl, D, g1, g2, g3, g4⟩
  have G1 := Lib.hid g1
  have G2 : Hid (GM D (ys.map Y.np)) := Lib.hid (by rw [List.take_of_length_le (by simp [HR.out.1])] at g2; exact g2)
  have G3 := Lib.hid g3
  have HR1 := Lib.hid (HR.out.below g3)
  have HS0 := Lib.hid (LSt.start W1 ys)
  clear g1 g2 g3 g4 HG
  go_wp2_with fail
  go_loopw [4, 13] (fun v i wr => ∃ k : Nat, k ≤ n ∧ i = .int .i64 k ∧ Hid (LSt W1 ys k v wr)) (fun _ i _ => n - (intOf i).toNat)
  case atStart => exact ⟨0, Nat.zero_le _, rfl, HS0⟩
  case round =>
    obtain ⟨k, hk, rfl, HS⟩ := hrel
    by_cases hlt : k < n
    · obtain ⟨b1, o1, y1, hA1, hx1, -, hoct⟩ := HR1.out.2 k hlt
      obtain ⟨b, o, y, rfl, hx, c0, c1, c2, c3, c4, c5, c6, c7, hoc⟩ := (HR1.out.below HS.out.2).at8 k hlt
      obtain rfl : y1 = y := by rw [hx] at hx1; exact (Option.some.inj hx1).symm
      have HOA := Lib.hid (oct_apart hoct HS.out.1)
      have HOC := Lib.hid hoc
      have hyo := HO.out _ (List.mem_of_getElem? hx)
      have hLV := fun h2 => live_at HPW.out (nps_at hx) h2
      have hLN := fun h2 => live_not (nts_at hx) h2
      have hEQ : (ys.map Y.np).map Prod.fst = nts ys := by rw [List.map_map]; rfl
      rw [hEQ] at hLV
      have HX := Lib.hid hx
      obtain ⟨⟨tk, te, ts, tu, td, tf, to_⟩, a, A', m', c'⟩ := y1
      simp only [] at c0 c1 c2 c3 c4 c5 c6 c7 hyo hLV hLN
      have hlt' : (k : Int) < (n : Int) := by omega
      clear hx hx1 hoct hoc hA1 hEQ
      by_cases h2 : tk = 2
      · subst h2
        have hE : te < 4294967296 := hyo.1.2.1
        have hU : tu < 4294967296 := hyo.1.2.2
        have HKY := Lib.hid (keyOf_id hE hU)
        obtain ⟨hhas, hat0⟩ := G2.out.2 te tu hE hU
        have hlv := hLV rfl
        have OM := Lib.hid (G1.out.kept (w' := wr) (row := none) ⟨HS.out.2.os, HS.out.2.tape, HS.out.2.output, HS.out.2.size, fun i hi _ => HS.out.2.block i hi⟩ (by simp))
        clear hLV hLN hyo hE hU
        cases hg : lastG (ys.map Y.np) te tu with
        | none =>
          rw [hg] at hhas hlv hat0
          have HLV := Lib.hid hlv
          simp only [Option.isSome_none] at hhas
          clear hlv hg hat0
          go_wp2_with (first
            | (at_lookup; refine wpList_lookup_own_ok_int (H := Unit) _ rfl _ _ 136 rfl 140 3 .i64 law Tryz.underlying136 Tryz.underlying3 (zero3 _) mb n D rfl (OM.out.alloc _) _ _ rfl HKY.out ?_; intro cc hat hwc; clear hat hwc)
            | (at_builtin; refine wpList_append_own fL (by decide) (by decide) (by decide) rfl rfl (.tmp 42) (.tmp 52) 46 86 rfl Tryz.underlying46 infoL W1.heap.size u4 _ rfl (HS.out.alloc _).1 (Nat.le_trans HS.out.2.size (by simp)) (by have := pick_len ys (livB (nts ys)) k; omega) ⟨⟨2, te, ts, tu, td, tf, to_⟩, a, A', m', c'⟩ (0, 0) _ (by simp) rfl _ rfl ⟨HOC.out.1.alloc _, HOC.out.2⟩ HOA.out ?_; intro v' w2 ho hgr hat; have HS2 := Lib.hid (LSt.more (HS.out.alloc _) HX.out HLV.out ho hgr); clear ho hgr hat))
          go_roundw
          case rel => first | exact ⟨k + 1, by omega, by go_num, HS2⟩ | ((repeat apply Exists.intro); exact ⟨⟨k + 1, by omega, by go_num, HS2⟩, rfl⟩)
          case measure => (show n - ((k : Int) + 1).toNat < n - k; omega)
        | some p =>
          rw [hg] at hhas hlv hat0
          have HAT := Lib.hid (hat0 p rfl)
          simp only [Option.isSome_some] at hhas hlv
          clear hg hat0
          by_cases hpa : p < a
          · have HLV : Hid (livB (nts ys) k = true) := Lib.hid (by rw [hlv]; exact decide_eq_true hpa)
            clear hlv
            go_wp2_with (first
              | (at_lookup; refine wpList_lookup_own_ok_int (H := Unit) _ rfl _ _ 136 rfl 140 3 .i64 law Tryz.underlying136 Tryz.underlying3 (zero3 _) mb n D rfl (OM.out.alloc _) _ _ rfl HKY.out ?_; intro cc hat hwc; have hcc : decide (cc < (a : Int)) = true := (by rw [HAT.out] at hat; simp at hat; simp; omega); clear hat hwc)
              | (at_builtin; refine wpList_append_own fL (by decide) (by decide) (by decide) rfl rfl (.tmp 42) (.tmp 52) 46 86 rfl Tryz.underlying46 infoL W1.heap.size u4 _ rfl (HS.out.alloc _).1 (Nat.le_trans HS.out.2.size (by simp)) (by have := pick_len ys (livB (nts ys)) k; omega) ⟨⟨2, te, ts, tu, td, tf, to_⟩, a, A', m', c'⟩ (0, 0) _ (by simp) rfl _ rfl ⟨HOC.out.1.alloc _, HOC.out.2⟩ HOA.out ?_; intro v' w2 ho hgr hat; have HS2 := Lib.hid (LSt.more (HS.out.alloc _) HX.out HLV.out ho hgr); clear ho hgr hat))
            go_roundw
            case rel => first | exact ⟨k + 1, by omega, by go_num, HS2⟩ | ((repeat apply Exists.intro); exact ⟨⟨k + 1, by omega, by go_num, HS2⟩, rfl⟩)
            case measure => (show n - ((k : Int) + 1).toNat < n - k; omega)
          · have HSk := Lib.hid (HS.out.skip (by rw [hlv]; exact decide_eq_false hpa))
            clear hlv
            go_wp2_with (at_lookup; refine wpList_lookup_own_ok_int (H := Unit) _ rfl _ _ 136 rfl 140 3 .i64 law Tryz.underlying136 Tryz.underlying3 (zero3 _) mb n D rfl (OM.out.alloc _) _ _ rfl HKY.out ?_; intro cc hat hwc; have hcc : decide (cc < (a : Int)) = false := (by rw [HAT.out] at hat; simp at hat; simp; omega); clear hat hwc)
            go_roundw
            case rel => first | exact ⟨k + 1, by omega, by go_num, Lib.hid (HSk.out.alloc _)⟩ | ((repeat apply Exists.intro); exact ⟨⟨k + 1, by omega, by go_num, Lib.hid (HSk.out.alloc _)⟩, rfl⟩)
            case measure => (show n - ((k : Int) + 1).toNat < n - k; omega)
      · have h2' : ((tk : Int) != 2) = true := by rw [bne_iff_ne]; omega
        have HSk := Lib.hid (HS.out.skip (hLN h2))
        clear h2 hLV hLN hyo
        go_wp2
        go_roundw
        case rel => first | exact ⟨k + 1, by omega, by go_num, Lib.hid (HSk.out.alloc _)⟩ | ((repeat apply Exists.intro); exact ⟨⟨k + 1, by omega, by go_num, Lib.hid (HSk.out.alloc _)⟩, rfl⟩)
        case measure => (show n - ((k : Int) + 1).toNat < n - k; omega)
    · obtain rfl : k = n := by omega
      go_wp2
      go_ret
      exact ⟨_, rfl, HS.out.1.mono G3.out.size, G3.out.trans (HS.out.2.mono G3.out.size)⟩
end Go.Proofs.YtklmbiekpilkhaaGreatDoor.lg
namespace Go.Proofs.YtklmbiekpilkhaaGreatDoor.lg
open Go.Proofs.YtklmbiekpilkhaaGreatDoor.frm (R scanF scan recOf payOf rightB numOf4 right_long)
set_option linter.unusedVariables false
set_option linter.unusedSimpArgs false

structure GoodR (l : List Nat) (i : Nat) (r : R) : Prop where
  ge : i ≤ r.at_
  lt : r.at_ < l.length
  short : r.pay.length ≤ 30000
  mem : ∀ b ∈ r.pay, b ∈ l
theorem scanF_good (l : List Nat) : ∀ f i t, (∀ r ∈ (scanF l f i t).1, GoodR l i r) ∧ (scanF l f i t).1.Pairwise (fun a b => a.at_ < b.at_) := by
  intro f
  induction f with
  | zero => intro i t; rw [scanF]; exact ⟨by simp, List.Pairwise.nil⟩
  | succ f ih =>
    intro i t
    rw [scanF]
    by_cases hi : i < l.length
    · rw [if_pos hi]
      by_cases hr : rightB (l.drop i) = true
      · rw [if_pos hr]
        by_cases ht : l.length < i + 44 + numOf4 (l.drop i)
        · rw [if_pos ht]
          exact ⟨by simp, List.Pairwise.nil⟩
        · rw [if_neg ht]
          obtain ⟨h1, h2⟩ := ih (i + 44 + numOf4 (l.drop i)) (i + 44 + numOf4 (l.drop i))
          have h1' : ∀ r ∈ (scanF l f (i + 44 + numOf4 (l.drop i)) (i + 44 + numOf4 (l.drop i))).1, GoodR l i r := fun r hr => ⟨by have := (h1 r hr).ge; omega, (h1 r hr).lt, (h1 r hr).short, (h1 r hr).mem⟩
          have h30 := (right_long hr).2
          simp only []
          split
          · refine ⟨fun r hr => ?_, List.pairwise_cons.2 ⟨fun r hr => ?_, h2⟩⟩
            · rcases List.mem_cons.1 hr with rfl | hr
              · refine ⟨Nat.le_refl _, hi, ?_, fun b hb => ?_⟩
                · show (payOf l i).length ≤ 30000
                  unfold payOf
                  rw [List.length_take]
                  omega
                · have hb' : b ∈ payOf l i := hb
                  unfold payOf at hb'
                  exact List.mem_of_mem_drop (List.mem_of_mem_take hb')
              · exact h1' r hr
            · have := (h1 r hr).ge
              show i < r.at_
              omega
          · exact ⟨h1', h2⟩
      · rw [if_neg hr]
        obtain ⟨h1, h2⟩ := ih (i + 1) t
        exact ⟨fun r hr => ⟨by have := (h1 r hr).ge; omega, (h1 r hr).lt, (h1 r hr).short, (h1 r hr).mem⟩, h2⟩
    · rw [if_neg hi]
      exact ⟨by simp, List.Pairwise.nil⟩
theorem scan_good (l : List Nat) : (∀ r ∈ (scan l 0 0).1, GoodR l 0 r) ∧ (scan l 0 0).1.Pairwise (fun a b => a.at_ < b.at_) := scanF_good l _ 0 0
theorem noteOf_at {r : R} {x : Nt × Nat} (h : noteOf r = some x) : x.2 = r.at_ ∧ dec r.kind r.pay = some x.1 := by
  unfold noteOf at h
  cases hd : dec r.kind r.pay with
  | none => rw [hd] at h; cases h
  | some t => rw [hd] at h; cases h; exact ⟨rfl, rfl⟩
theorem notes_rise : ∀ {rs : List R}, rs.Pairwise (fun a b => a.at_ < b.at_) → (notesR rs).Pairwise (fun a b => a.2 < b.2)
  | [], _ => List.Pairwise.nil
  | r :: rs, h => by
    obtain ⟨h1, h2⟩ := List.pairwise_cons.1 h
    have ih := notes_rise h2
    unfold notesR at *
    rw [List.filterMap_cons]
    cases hn : noteOf r with
    | none => exact ih
    | some x =>
      refine List.pairwise_cons.2 ⟨fun y hy => ?_, ih⟩
      obtain ⟨q, hq, hy⟩ := List.mem_filterMap.1 hy
      have := h1 q hq
      rw [(noteOf_at hn).1, (noteOf_at hy).1]
      exact this
/-- The notes of bytes. -/
def notesL (l : List Nat) : List (Nt × Nat) := notesR (scan l 0 0).1
def ntsL (l : List Nat) : List Nt := (notesL l).map Prod.fst
theorem notesL_good {l : List Nat} (hl : ∀ b ∈ l, b < 256) : (∀ x ∈ notesL l, x.1.ok ∧ x.2 < l.length) ∧ (notesL l).Pairwise (fun a b => a.2 < b.2) := by
  obtain ⟨h1, h2⟩ := scan_good l
  refine ⟨fun x hx => ?_, notes_rise h2⟩
  obtain ⟨r, hr, hx⟩ := List.mem_filterMap.1 hx
  obtain ⟨e1, e2⟩ := noteOf_at hx
  have hg := h1 r hr
  exact ⟨(dec_ok (fun b hb => hl b (hg.mem b hb)) e2).1, by rw [e1]; exact hg.lt⟩
theorem ntsL_ok {l : List Nat} (hl : ∀ b ∈ l, b < 256) : ∀ n ∈ ntsL l, n.ok := by
  intro n hn
  obtain ⟨x, hx, rfl⟩ := List.mem_map.1 hn
  exact ((notesL_good hl).1 x hx).1
end Go.Proofs.YtklmbiekpilkhaaGreatDoor.lg
