/- Plain mathematics of patterns: the places that a pattern has come to, and the texts that the rest of it takes. -/
import Derived.Test.YtcdfaikbmidkeaaDoorNamM
namespace Go.Proofs.YtcdfaikbmidkeaaDoor.nam
open Go.Lib
set_option linter.unusedVariables false
set_option linter.unusedSimpArgs false

theorem filterMap_eq_of {f g : Nat → Option Nat} : ∀ (l : List Nat), (∀ x ∈ l, f x = g x) → l.filterMap f = l.filterMap g
  | [], _ => rfl
  | a :: l, h => by
    rw [List.filterMap_cons, List.filterMap_cons, h a (by simp), filterMap_eq_of l fun x hx => h x (by simp [hx])]

/-- May one go over byte k of s? -/
def open_ (star : Bool) (s : ByteArray) (k : Nat) : Bool := star || byt s k != 47
/-- What is reached from the places of r, going over bytes. -/
def stars (star : Bool) (s : ByteArray) (r : Nat → Bool) : Nat → Bool
  | 0 => r 0
  | k + 1 => r (k + 1) || (stars star s r k && open_ star s k)
def overB (c : Nat) (s : ByteArray) (r : Nat → Bool) : Nat → Bool
  | 0 => false
  | k + 1 => r k && byt s k == c
/-- The places behind one sign more. -/
def nextR (c : Nat) (s : ByteArray) (r : Nat → Bool) : Nat → Bool := if c = 42 then stars true s r else if c = 37 then stars false s r else overB c s r
/-- The places that the first i signs of p come to. -/
def R (p s : ByteArray) : Nat → Nat → Bool
  | 0 => fun k => k == 0
  | i + 1 => nextR (byt p i) s (R p s i)
/-- What is taken from place n - d on. -/
def aS (star : Bool) (s : ByteArray) (n : Nat) (a : Nat → Bool) : Nat → Bool
  | 0 => a n
  | d + 1 => a (n - (d + 1)) || (aS star s n a d && open_ star s (n - (d + 1)))
def prevA (c : Nat) (s : ByteArray) (n : Nat) (a : Nat → Bool) (k : Nat) : Bool :=
  if c = 42 then aS true s n a (n - k) else if c = 37 then aS false s n a (n - k) else decide (k < n) && byt s k == c && a (k + 1)
/-- The places from which the last d signs of p take the rest. -/
def A (p s : ByteArray) : Nat → Nat → Bool
  | 0 => fun k => k == s.size
  | d + 1 => prevA (byt p (p.size - (d + 1))) s s.size (A p s d)
def LK (p s : ByteArray) : Bool := A p s p.size 0

theorem stars_iff (star : Bool) (s : ByteArray) (r : Nat → Bool) : ∀ k, stars star s r k = true ↔ ∃ j, j ≤ k ∧ r j = true ∧ ∀ m, j ≤ m → m < k → open_ star s m = true
  | 0 => by
    simp only [stars]
    exact ⟨fun h => ⟨0, Nat.le_refl _, h, fun m _ h2 => absurd h2 (Nat.not_lt_zero _)⟩, fun ⟨j, hj, h, _⟩ => (show j = 0 by omega) ▸ h⟩
  | k + 1 => by
    simp only [stars, Bool.or_eq_true, Bool.and_eq_true]
    rw [stars_iff star s r k]
    constructor
    · rintro (h | ⟨⟨j, h1, h2, h3⟩, h4⟩)
      · exact ⟨k + 1, Nat.le_refl _, h, fun m h1 h2 => by omega⟩
      · exact ⟨j, by omega, h2, fun m m1 m2 => by
          rcases Nat.lt_succ_iff_lt_or_eq.1 m2 with h' | rfl
          · exact h3 m m1 h'
          · exact h4⟩
    · rintro ⟨j, h1, h2, h3⟩
      rcases Nat.lt_or_ge k j with h | h
      · obtain rfl : j = k + 1 := by omega
        exact .inl h2
      · exact .inr ⟨⟨j, h, h2, fun m m1 m2 => h3 m m1 (by omega)⟩, h3 k h (by omega)⟩
theorem aS_iff (star : Bool) (s : ByteArray) (n : Nat) (a : Nat → Bool) : ∀ d, d ≤ n → (aS star s n a d = true ↔ ∃ m, n - d ≤ m ∧ m ≤ n ∧ a m = true ∧ ∀ q, n - d ≤ q → q < m → open_ star s q = true)
  | 0, _ => by
    simp only [aS]
    exact ⟨fun h => ⟨n, Nat.le_refl _, Nat.le_refl _, h, fun q h1 h2 => by omega⟩, fun ⟨m, h1, h2, h, _⟩ => (show m = n by omega) ▸ h⟩
  | d + 1, hd => by
    simp only [aS, Bool.or_eq_true, Bool.and_eq_true]
    rw [aS_iff star s n a d (by omega)]
    constructor
    · rintro (h | ⟨⟨m, h1, h2, h3, h4⟩, h5⟩)
      · exact ⟨n - (d + 1), Nat.le_refl _, by omega, h, fun q q1 q2 => by omega⟩
      · exact ⟨m, by omega, h2, h3, fun q q1 q2 => by
          rcases Nat.lt_or_ge q (n - d) with h' | h'
          · obtain rfl : q = n - (d + 1) := by omega
            exact h5
          · exact h4 q h' q2⟩
    · rintro ⟨m, h1, h2, h3, h4⟩
      rcases Nat.lt_or_ge (n - (d + 1)) m with h | h
      · exact .inr ⟨⟨m, by omega, h2, h3, fun q q1 q2 => h4 q (by omega) q2⟩, h4 _ (Nat.le_refl _) h⟩
      · obtain rfl : m = n - (d + 1) := by omega
        exact .inl h3
/-- One sign: what it reaches meets what is taken behind it just where what it takes meets what is reached ahead. -/
theorem meet (c : Nat) (s : ByteArray) (n : Nat) (r a : Nat → Bool) : (∃ k, k ≤ n ∧ nextR c s r k = true ∧ a k = true) ↔ (∃ k, k ≤ n ∧ r k = true ∧ prevA c s n a k = true) := by
  have hs : ∀ star, (∃ k, k ≤ n ∧ stars star s r k = true ∧ a k = true) ↔ (∃ k, k ≤ n ∧ r k = true ∧ aS star s n a (n - k) = true) := by
    intro star
    constructor
    · rintro ⟨k, hk, h1, h2⟩
      obtain ⟨j, hj, h3, h4⟩ := (stars_iff star s r k).1 h1
      refine ⟨j, by omega, h3, (aS_iff star s n a (n - j) (by omega)).2 ⟨k, by omega, hk, h2, fun q q1 q2 => h4 q (by omega) q2⟩⟩
    · rintro ⟨k, hk, h1, h2⟩
      obtain ⟨m, hm, hmn, h3, h4⟩ := (aS_iff star s n a (n - k) (by omega)).1 h2
      refine ⟨m, hmn, (stars_iff star s r m).2 ⟨k, by omega, h1, fun q q1 q2 => h4 q (by omega) q2⟩, h3⟩
  unfold nextR prevA
  by_cases h1 : c = 42
  · simp only [if_pos h1]; exact hs true
  · by_cases h2 : c = 37
    · simp only [if_neg h1, if_pos h2]; exact hs false
    · simp only [if_neg h1, if_neg h2, Bool.and_eq_true, decide_eq_true_eq]
      constructor
      · rintro ⟨k, hk, h3, h4⟩
        cases k with
        | zero => simp [overB] at h3
        | succ k =>
          simp only [overB, Bool.and_eq_true] at h3
          exact ⟨k, by omega, h3.1, ⟨by omega, h3.2⟩, h4⟩
      · rintro ⟨k, hk, h3, ⟨h4, h5⟩, h6⟩
        exact ⟨k + 1, by omega, by simp [overB, h3, h5], h6⟩
theorem meet_all (p s : ByteArray) : ∀ i, i ≤ p.size → ((∃ k, k ≤ s.size ∧ R p s i k = true ∧ A p s (p.size - i) k = true) ↔ LK p s = true)
  | 0, _ => by
    unfold LK
    simp only [R, Nat.sub_zero, beq_iff_eq]
    exact ⟨fun ⟨k, _, h1, h2⟩ => by subst h1; exact h2, fun h => ⟨0, Nat.zero_le _, rfl, h⟩⟩
  | i + 1, hi => by
    rw [← meet_all p s i (by omega)]
    have e : p.size - i = (p.size - (i + 1)) + 1 := by omega
    rw [e]
    simp only [R, A]
    have e2 : p.size - (p.size - (i + 1) + 1) = i := by omega
    rw [e2]
    exact meet (byt p i) s s.size (R p s i) (A p s (p.size - (i + 1)))
theorem LK_end (p s : ByteArray) : R p s p.size s.size = LK p s := by
  rw [Bool.eq_iff_iff, ← meet_all p s p.size (Nat.le_refl _)]
  simp only [Nat.sub_self, A, beq_iff_eq]
  exact ⟨fun h => ⟨s.size, Nat.le_refl _, h, rfl⟩, fun ⟨k, _, h1, h2⟩ => h2 ▸ h1⟩
/-- Where no place is left, it isn't like it. -/
theorem LK_none (p s : ByteArray) (i : Nat) (hi : i ≤ p.size) (h : ∀ k, k ≤ s.size → R p s i k = false) : LK p s = false := by
  rw [Bool.eq_false_iff]
  intro hl
  obtain ⟨k, hk, h1, _⟩ := (meet_all p s i hi).2 hl
  rw [h k hk] at h1
  cases h1

/-! ### The places as a list -/
def pl (n : Nat) (r : Nat → Bool) : List Nat := (List.range (n + 1)).filter r
theorem pl_mem {n : Nat} {r : Nat → Bool} {k : Nat} : k ∈ pl n r ↔ k ≤ n ∧ r k = true := by simp [pl, List.mem_filter]; omega
theorem pl_le {n : Nat} {r : Nat → Bool} (j : Nat) (h : j < (pl n r).length) : (pl n r)[j] ≤ n := (pl_mem.1 (List.getElem_mem h)).1
theorem pl_length (n : Nat) (r : Nat → Bool) : (pl n r).length ≤ n + 1 := by
  have := List.length_filter_le r (List.range (n + 1))
  simpa [pl] using this
theorem pl_nil {n : Nat} {r : Nat → Bool} (h : (pl n r).length = 0) : ∀ k, k ≤ n → r k = false := by
  intro k hk
  rw [Bool.eq_false_iff]
  intro hr
  have := pl_mem.2 ⟨hk, hr⟩
  rw [List.eq_nil_of_length_eq_zero h] at this
  cases this
theorem pl_congr {n : Nat} {r r' : Nat → Bool} (h : ∀ k, k ≤ n → r k = r' k) : pl n r = pl n r' := by
  unfold pl
  apply List.filter_congr
  intro k hk
  exact h k (by have := List.mem_range.1 hk; omega)
theorem pl_sorted (n : Nat) (r : Nat → Bool) : (pl n r).Pairwise (· < ·) := List.Pairwise.filter _ List.pairwise_lt_range
theorem sorted_lt {l : List Nat} (h : l.Pairwise (· < ·)) {i j : Nat} (hij : i < j) (hj : j < l.length) : l[i]'(by omega) < l[j] := List.pairwise_iff_getElem.1 h i j (by omega) hj hij
/-- The last place is n, just if n is one. -/
theorem pl_last {n : Nat} {r : Nat → Bool} (h : 0 < (pl n r).length) : decide ((pl n r)[(pl n r).length - 1]'(by omega) = n) = r n := by
  rw [Bool.eq_iff_iff, decide_eq_true_eq]
  constructor
  · intro e
    have := (pl_mem.1 (List.getElem_mem (by omega : (pl n r).length - 1 < (pl n r).length))).2
    rwa [e] at this
  · intro hr
    obtain ⟨j, hj, e⟩ := List.getElem_of_mem (pl_mem.2 ⟨Nat.le_refl n, hr⟩)
    have h1 := pl_le (n := n) (r := r) ((pl n r).length - 1) (by omega)
    rcases Nat.lt_or_ge j ((pl n r).length - 1) with hlt | hge
    · have := sorted_lt (pl_sorted n r) hlt (by omega)
      omega
    · have : j = (pl n r).length - 1 := by omega
      subst this
      exact e

/-! ### One byte -/
def ovF (c : Nat) (s : ByteArray) (at_ : Nat) : Option Nat := if at_ < s.size ∧ byt s at_ = c then some (at_ + 1) else none
def ov (c : Nat) (s : ByteArray) (l : List Nat) : List Nat := l.filterMap (ovF c s)
theorem ov_pl (c : Nat) (s : ByteArray) (r : Nat → Bool) : ov c s (pl s.size r) = pl s.size (overB c s r) := by
  have e1 : pl s.size (overB c s r) = ((List.range s.size).filter fun k => r k && byt s k == c).map (· + 1) := by
    unfold pl
    rw [List.range_succ_eq_map, List.filter_cons]
    simp only [overB, Bool.false_eq_true, if_false, List.filter_map]
    rfl
  have e2 : ov c s (pl s.size r) = ov c s ((List.range s.size).filter r) := by
    unfold ov pl
    rw [List.range_succ, List.filter_append, List.filterMap_append]
    have : ([s.size].filter r).filterMap (ovF c s) = [] := by
      rw [List.filter_cons]
      split <;> simp [ovF]
    rw [this, List.append_nil]
  rw [e1, e2]
  unfold ov
  rw [List.filterMap_filter, ← List.filterMap_eq_map, List.filterMap_filter]
  apply filterMap_eq_of
  intro k hk
  have hk' := List.mem_range.1 hk
  unfold ovF
  by_cases h1 : r k = true <;> by_cases h2 : byt s k = c <;> simp [h1, h2, hk']
theorem ov_step (c : Nat) (s : ByteArray) (l : List Nat) (j : Nat) (h : j < l.length) : ov c s (l.take (j + 1)) = ov c s (l.take j) ++ (ovF c s l[j]).toList := by
  unfold ov
  rw [List.take_add_one, List.filterMap_append, List.getElem?_eq_getElem h]
  cases hf : ovF c s l[j] <;> simp [hf]
theorem ov_length (c : Nat) (s : ByteArray) (l : List Nat) : (ov c s l).length ≤ l.length := List.length_filterMap_le ..

/-! ### Any bytes -/
def upTo (f n : Nat) : List Nat := (List.range (n + 1)).filter fun k => decide (f ≤ k)
theorem upTo_length (f n : Nat) (h : f ≤ n) : (upTo f n).length = n + 1 - f := by
  unfold upTo
  induction n with
  | zero =>
    obtain rfl : f = 0 := by omega
    rfl
  | succ n ih =>
    rw [List.range_succ, List.filter_append, List.length_append]
    rcases Nat.lt_or_ge n f with h1 | h1
    · obtain rfl : f = n + 1 := by omega
      have : (List.range (n + 1)).filter (fun k => decide (n + 1 ≤ k)) = [] := by
        rw [List.filter_eq_nil_iff]
        intro k hk
        have := List.mem_range.1 hk
        simp; omega
      rw [this]
      simp
    · rw [ih h1]
      simp [List.filter_cons, show f ≤ n + 1 by omega]
      omega
theorem pl_first {n : Nat} {r : Nat → Bool} (h : 0 < (pl n r).length) : ∀ k, k ≤ n → r k = true → (pl n r)[0] ≤ k := by
  intro k hk hr
  obtain ⟨j, hj, e⟩ := List.getElem_of_mem (pl_mem.2 ⟨hk, hr⟩)
  rcases Nat.eq_zero_or_pos j with h0 | h0
  · subst h0; omega
  · have := sorted_lt (pl_sorted n r) h0 hj
    omega
theorem pl_stars_true {n : Nat} {s : ByteArray} {r : Nat → Bool} (h : 0 < (pl n r).length) : pl n (stars true s r) = upTo (pl n r)[0] n := by
  unfold upTo
  have hm := pl_mem.1 (List.getElem_mem h)
  apply List.filter_congr
  intro k hk
  have hk' : k ≤ n := by have := List.mem_range.1 hk; omega
  rw [Bool.eq_iff_iff, stars_iff, decide_eq_true_eq]
  constructor
  · rintro ⟨j, h1, h2, _⟩
    have := pl_first h j (by omega) h2
    omega
  · intro h1
    exact ⟨_, h1, hm.2, fun m _ _ => by simp [open_]⟩
/-- Where the places go on without a gap, they are all from the first one on. -/
theorem pl_full {n : Nat} {r : Nat → Bool} (h : 0 < (pl n r).length) (hf : (pl n r).length = n - (pl n r)[0] + 1) : pl n r = upTo (pl n r)[0] n := by
  have hm := pl_mem.1 (List.getElem_mem h)
  have hsub : (pl n r).Sublist (upTo (pl n r)[0] n) := by
    have e : pl n r = (upTo (pl n r)[0] n).filter r := by
      unfold upTo
      rw [List.filter_filter]
      unfold pl
      apply List.filter_congr
      intro k hk
      have hk' : k ≤ n := by have := List.mem_range.1 hk; omega
      rw [Bool.eq_iff_iff, Bool.and_eq_true, decide_eq_true_eq]
      exact ⟨fun hr => ⟨hr, pl_first h k hk' hr⟩, fun h => h.1⟩
    conv => lhs; rw [e]
    exact List.filter_sublist ..
  refine hsub.eq_of_length ?_
  rw [hf, upTo_length _ _ hm.1]
  have := hm.1
  omega
theorem pl_full_stars {n : Nat} {s : ByteArray} {r : Nat → Bool} (star : Bool) (h : 0 < (pl n r).length) (hf : (pl n r).length = n - (pl n r)[0] + 1) : pl n (stars star s r) = pl n r := by
  have hu := pl_full h hf
  have hr : ∀ k, (pl n r)[0] ≤ k → k ≤ n → r k = true := by
    intro k h1 h2
    have : k ∈ upTo (pl n r)[0] n := by
      unfold upTo
      rw [List.mem_filter]
      exact ⟨List.mem_range.2 (by omega), by simpa using h1⟩
    rw [← hu] at this
    exact (pl_mem.1 this).2
  apply pl_congr
  intro k hk
  rw [Bool.eq_iff_iff, stars_iff]
  constructor
  · rintro ⟨j, h1, h2, _⟩
    exact hr k (by have := pl_first h j (by omega) h2; omega) hk
  · intro h1
    exact ⟨k, Nat.le_refl _, h1, fun m m1 m2 => by omega⟩

/-! ### Bytes without a stroke -/
/-- What has been laid when places below `next` are done. -/
structure Part (s : ByteArray) (r : Nat → Bool) (to : List Nat) (next j : Nat) : Prop where
  le : next ≤ s.size + 1
  to_ : to = (List.range next).filter (stars false s r)
  closed : next = 0 ∨ next = s.size + 1 ∨ byt s (next - 1) = 47
  done : ∀ i, (h : i < (pl s.size r).length) → i < j → (pl s.size r)[i] < next
theorem Part.start (s : ByteArray) (r : Nat → Bool) : Part s r [] 0 0 := ⟨Nat.zero_le _, rfl, .inl rfl, fun i _ h => absurd h (Nat.not_lt_zero _)⟩
theorem Part.skip {s : ByteArray} {r : Nat → Bool} {to : List Nat} {next j : Nat} (h : Part s r to next j) (hj : j < (pl s.size r).length) (hlt : (pl s.size r)[j] < next) : Part s r to next (j + 1) :=
  ⟨h.le, h.to_, h.closed, fun i hi hij => by
    rcases Nat.lt_succ_iff_lt_or_eq.1 hij with h' | rfl
    · exact h.done i hi h'
    · exact hlt⟩
/-- Nothing comes over `next` from ahead of it. -/
theorem Part.cut {s : ByteArray} {r : Nat → Bool} {to : List Nat} {next j : Nat} (h : Part s r to next j) {k : Nat} (hk : next ≤ k) (hks : k ≤ s.size) : stars false s r k = true → ∃ m, next ≤ m ∧ m ≤ k ∧ r m = true := by
  rw [stars_iff]
  rintro ⟨m, h1, h2, h3⟩
  refine ⟨m, ?_, h1, h2⟩
  rcases h.closed with h0 | h0 | h0
  · omega
  · omega
  · rcases Nat.lt_or_ge m next with hlt | hge
    · have := h3 (next - 1) (by omega) (by omega)
      simp [open_, h0] at this
    · exact hge
/-- The list's next place is the next one that is reached at once. -/
theorem Part.gap {s : ByteArray} {r : Nat → Bool} {to : List Nat} {next j : Nat} (h : Part s r to next j) {m : Nat} (hm : next ≤ m) (hms : m ≤ s.size) (hr : r m = true) : ∃ h : j < (pl s.size r).length, (pl s.size r)[j] ≤ m := by
  obtain ⟨i, hi, e⟩ := List.getElem_of_mem (pl_mem.2 ⟨hms, hr⟩)
  have hij : j ≤ i := by
    rcases Nat.lt_or_ge i j with h1 | h1
    · have := h.done i hi h1
      omega
    · exact h1
  refine ⟨by omega, ?_⟩
  rcases Nat.eq_or_lt_of_le hij with h1 | h1
  · subst h1; omega
  · have := sorted_lt (pl_sorted s.size r) h1 hi
    omega
def fromTo (a b : Nat) : List Nat := (List.range (b + 1)).filter fun k => decide (a ≤ k)
theorem range_split {a b : Nat} (h : a ≤ b) (q : Nat → Bool) : (List.range b).filter q = (List.range a).filter q ++ ((List.range b).filter fun k => decide (a ≤ k) && q k) := by
  induction b with
  | zero => obtain rfl : a = 0 := by omega
            rfl
  | succ b ih =>
    rcases Nat.eq_or_lt_of_le h with h1 | h1
    · subst h1
      have : ((List.range (b + 1)).filter fun k => decide (b + 1 ≤ k) && q k) = [] := by
        rw [List.filter_eq_nil_iff]
        intro k hk
        have := List.mem_range.1 hk
        simp; omega
      rw [this, List.append_nil]
    · rw [List.range_succ, List.filter_append, List.filter_append, ih (by omega), List.append_assoc]
      congr 2
      simp [List.filter_cons, show a ≤ b by omega]
theorem Part.step {s : ByteArray} {r : Nat → Bool} {to : List Nat} {next j e : Nat} (h : Part s r to next j) (hj : j < (pl s.size r).length) (hge : next ≤ (pl s.size r)[j]) (he : (pl s.size r)[j] ≤ e) (hes : e ≤ s.size)
    (hfree : ∀ m, (pl s.size r)[j] ≤ m → m < e → byt s m ≠ 47) (hend : e = s.size ∨ byt s e = 47) : Part s r (to ++ upTo (pl s.size r)[j] e) (e + 1) (j + 1) := by
  refine ⟨by omega, ?_, ?_, fun i hi hij => ?_⟩
  · rw [h.to_, range_split (a := next) (b := e + 1) (by omega)]
    congr 1
    unfold upTo
    apply List.filter_congr
    intro k hk
    have hk' : k ≤ e := by have := List.mem_range.1 hk; omega
    have hr := (pl_mem.1 (List.getElem_mem hj)).2
    rw [Bool.eq_iff_iff, Bool.and_eq_true, decide_eq_true_eq, decide_eq_true_eq]
    constructor
    · intro h1
      exact ⟨by omega, (stars_iff ..).2 ⟨_, h1, hr, fun m m1 m2 => by
        have := hfree m m1 (by omega)
        simp [open_, this]⟩⟩
    · rintro ⟨h1, h2⟩
      obtain ⟨m, m1, m2, m3⟩ := h.cut h1 (by omega) h2
      obtain ⟨_, h3⟩ := h.gap m1 (by omega) m3
      omega
  · rcases hend with h1 | h1
    · exact .inr (.inl (by omega))
    · exact .inr (.inr (by simpa using h1))
  · rcases Nat.lt_succ_iff_lt_or_eq.1 hij with h' | rfl
    · have := h.done i hi h'
      omega
    · omega
theorem Part.end_ {s : ByteArray} {r : Nat → Bool} {to : List Nat} {next : Nat} (h : Part s r to next (pl s.size r).length) : to = pl s.size (stars false s r) := by
  rw [h.to_]
  unfold pl
  rw [range_split (a := next) (b := s.size + 1) h.le]
  have : ((List.range (s.size + 1)).filter fun k => decide (next ≤ k) && stars false s r k) = [] := by
    rw [List.filter_eq_nil_iff]
    intro k hk hk2
    have hk' : k ≤ s.size := by have := List.mem_range.1 hk; omega
    simp only [Bool.and_eq_true, decide_eq_true_eq] at hk2
    obtain ⟨m, m1, m2, m3⟩ := h.cut hk2.1 hk' hk2.2
    obtain ⟨h3, _⟩ := h.gap m1 (by omega) m3
    omega
  rw [this, List.append_nil]

/-- Where from a place on the next stroke stands, or the end. -/
def pe (s : ByteArray) (a : Nat) : Nat := if indexByte (s.extract a s.size).data.toList 47 = -1 then s.size else a + (indexByte (s.extract a s.size).data.toList 47).toNat
theorem pe_spec (s : ByteArray) (a : Nat) (ha : a ≤ s.size) : a ≤ pe s a ∧ pe s a ≤ s.size ∧ (∀ m, a ≤ m → m < pe s a → byt s m ≠ 47) ∧ (pe s a = s.size ∨ byt s (pe s a) = 47) := by
  have hd : (s.extract a s.size).data.toList = s.data.toList.drop a := by
    rw [extract_data, List.take_of_length_le]
    rw [List.length_drop, ← size_eq]; exact Nat.le_refl _
  have hget : ∀ m, a ≤ m → m < s.size → ∃ c : UInt8, (s.data.toList.drop a)[m - a]? = some c ∧ c.toNat = byt s m := by
    intro m h1 h2
    obtain ⟨c, hc, e⟩ := byt_some s m h2
    refine ⟨c, ?_, e⟩
    rw [List.getElem?_drop, show a + (m - a) = m by omega]
    exact hc
  unfold pe
  rw [hd]
  by_cases h : indexByte (s.data.toList.drop a) 47 = -1
  · rw [if_pos h]
    refine ⟨ha, Nat.le_refl _, fun m h1 h2 e => ?_, .inl rfl⟩
    obtain ⟨c, hc, ec⟩ := hget m h1 h2
    refine indexByte_none h (m - a) ?_
    rw [hc]
    exact congrArg some (UInt8.toNat_inj.1 (by rw [ec, e]; rfl))
  · rw [if_neg h]
    have hge := indexByte_ge (s.data.toList.drop a) 47
    obtain ⟨o, ho⟩ := Int.eq_ofNat_of_zero_le (show 0 ≤ indexByte (s.data.toList.drop a) 47 by omega)
    obtain ⟨h1, h2⟩ := indexByte_some ho
    rw [ho]
    have hlt : o < s.size - a := by
      have := (List.getElem?_eq_some_iff.1 h1).1
      rw [List.length_drop, ← size_eq] at this
      exact this
    have e0 : ((o : Int)).toNat = o := by omega
    simp only [Int.ofNat_eq_natCast, e0]
    refine ⟨by omega, by omega, fun m m1 m2 e => ?_, .inr ?_⟩
    · obtain ⟨c, hc, ec⟩ := hget m m1 (by omega)
      refine h2 (m - a) (by omega) ?_
      rw [hc]
      exact congrArg some (UInt8.toNat_inj.1 (by rw [ec, e]; rfl))
    · obtain ⟨c, hc, ec⟩ := hget (a + o) (by omega) (by omega)
      rw [show a + o - a = o by omega, h1] at hc
      cases hc
      rw [← ec]; rfl
end Go.Proofs.YtcdfaikbmidkeaaDoor.nam
