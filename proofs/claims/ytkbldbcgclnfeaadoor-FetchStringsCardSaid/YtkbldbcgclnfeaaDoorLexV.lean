/- Plain mathematics of tokens: what bytes are read as, what tokens are written as, and that the one undoes the other. -/
import Derived.Test.YtkbldbcgclnfeaaDoorLexM
namespace Go.Proofs.YtkbldbcgclnfeaaDoor.lx
set_option linter.unusedVariables false
set_option linter.unusedSimpArgs false

/-- A token: its kind, and its text. -/
structure Tk where
  k : Int
  t : List Nat
def isAt (x : Nat) : Bool := decide (33 ≤ x) && decide (x ≤ 126) && decide (x ≠ 40) && decide (x ≠ 41) && decide (x ≠ 123) && decide (x ≠ 34)
def atomLen : List Nat → Nat
  | [] => 0
  | x :: r => if isAt x = true then atomLen r + 1 else 0
/-- A text in quotes, behind the first of them: what it means, and what stands behind it. -/
def quoted : List Nat → Option (List Nat × List Nat)
  | [] => none
  | 34 :: r => some ([], r)
  | [92] => none
  | 92 :: x :: r => if x = 34 ∨ x = 92 then (quoted r).map fun p => (x :: p.1, p.2) else none
  | 13 :: 10 :: r => none
  | x :: r => (quoted r).map fun p => (x :: p.1, p.2)
/-- Where a line's end stands first. -/
def ixE : List Nat → Option Nat
  | 13 :: 10 :: r => some 0
  | x :: r => (ixE r).map (· + 1)
  | [] => none
/-- A literal, behind its sign. -/
def literal (b : List Nat) : Option (List Nat × List Nat) :=
  match ixE b with
  | none => none
  | some i => match lenL (b.take i) with
    | none => none
    | some n => if n ≤ (b.drop (i + 2)).length then some ((b.drop (i + 2)).take n, (b.drop (i + 2)).drop n) else none
def cutTok : List Nat → Option (Tk × List Nat)
  | [] => none
  | 40 :: r => some (⟨3, []⟩, r)
  | 41 :: r => some (⟨4, []⟩, r)
  | 34 :: r => (quoted r).map fun p => (⟨2, p.1⟩, p.2)
  | 123 :: r => (literal r).map fun p => (⟨2, p.1⟩, p.2)
  | x :: r => if 0 < atomLen (x :: r) then some (⟨1, (x :: r).take (atomLen (x :: r))⟩, (x :: r).drop (atomLen (x :: r))) else none
def lastK (acc : List Tk) : Int := match acc.getLast? with
  | some t => t.k
  | none => 3
def gap (acc : List Tk) (b : List Nat) : Option (List Nat) :=
  if lastK acc = 3 ∨ b.head? = some 41 then some b
  else if b.head? = some 32 ∧ b.tail.head? ≠ some 41 then some b.tail else none
def opens (k : Int) : Int := if k = 3 then 1 else if k = 4 then -1 else 0
def tokF : Nat → List Tk → Int → List Nat → Option (List Tk)
  | _, acc, o, [] => if 0 < o then none else some acc
  | 0, _, _, _ :: _ => none
  | f + 1, acc, o, x :: r => match gap acc (x :: r) with
    | none => none
    | some b => if acc.length = 200 then none else match cutTok b with
      | none => none
      | some (t, c) => if o + opens t.k < 0 then none else tokF f (acc ++ [t]) (o + opens t.k) c
def toks (b : List Nat) : Option (List Tk) := tokF b.length [] 0 b

/-- A number's digits. -/
def digF : Nat → Nat → List Nat
  | 0, _ => []
  | f + 1, n => if n < 10 then [48 + n] else digF f (n / 10) ++ [48 + n % 10]
def digs (n : Nat) : List Nat := digF 20 n
def esc : List Nat → List Nat
  | [] => []
  | x :: r => if x = 34 ∨ x = 92 then 92 :: x :: esc r else x :: esc r
/-- A token's bytes. -/
def txt (lits : Bool) (t : Tk) : List Nat :=
  if t.k = 1 then t.t else if t.k = 2 then (if lits then 123 :: (digs t.t.length ++ [125, 13, 10] ++ t.t) else 34 :: (esc t.t ++ [34])) else if t.k = 3 then [40] else [41]
def gapB (p : Int) (t : Tk) : List Nat := if p ≠ 3 ∧ t.k ≠ 4 then [32] else []
def wrF (lits : Bool) : Int → List Tk → List Nat
  | _, [] => []
  | p, t :: r => gapB p t ++ txt lits t ++ wrF lits t.k r
/-- A token that can be written. -/
def Good (lits : Bool) (t : Tk) : Prop :=
  (t.k = 1 ∧ t.t ≠ [] ∧ ∀ x ∈ t.t, isAt x = true) ∨ (t.k = 2 ∧ (lits = false → ∀ x ∈ t.t, x ≠ 13 ∧ x ≠ 10)) ∨ ((t.k = 3 ∨ t.k = 4) ∧ t.t = [])
def depth (l : List Tk) : Int := (l.map fun t => opens t.k).sum
theorem depth_snoc (l : List Tk) (t : Tk) : depth (l ++ [t]) = depth l + opens t.k := by simp [depth]
theorem atomLen_le : ∀ l : List Nat, atomLen l ≤ l.length
  | [] => Nat.le_refl _
  | x :: r => by
    have := atomLen_le r
    rw [atomLen, List.length_cons]
    split <;> omega
theorem atom_all : ∀ l : List Nat, ∀ x ∈ l.take (atomLen l), isAt x = true
  | [] => by simp
  | x :: r => by
    rw [atomLen]
    split
    · rename_i h
      rw [List.take_succ_cons]
      intro y hy
      rcases List.mem_cons.1 hy with rfl | hy
      · exact h
      · exact atom_all r y hy
    · simp
theorem atomLen_app : ∀ (t W : List Nat), (∀ x ∈ t, isAt x = true) → (∀ x, W.head? = some x → isAt x = false) → atomLen (t ++ W) = t.length
  | [], [], _, _ => rfl
  | [], x :: r, _, h => by
    rw [List.nil_append, atomLen, h x rfl]
    simp
  | x :: t, W, h, hW => by
    rw [List.cons_append, atomLen, if_pos (h x List.mem_cons_self), atomLen_app t W (fun y hy => h y (List.mem_cons_of_mem _ hy)) hW, List.length_cons]
theorem quoted_esc : ∀ (t W : List Nat), (∀ x ∈ t, x ≠ 13 ∧ x ≠ 10) → quoted (esc t ++ 34 :: W) = some (t, W)
  | [], W, _ => by rw [esc, List.nil_append, quoted]
  | x :: r, W, h => by
    have ih := quoted_esc r W (fun y hy => h y (List.mem_cons_of_mem _ hy))
    have hx := h x List.mem_cons_self
    rw [esc]
    by_cases hq : x = 34 ∨ x = 92
    · rw [if_pos hq, List.cons_append, List.cons_append, quoted, if_pos hq, ih]
      rfl
    · rw [if_neg hq, List.cons_append]
      rw [quoted]
      · rw [ih]
        rfl
      · intro e; exact hq (.inl e)
      · intro e _; exact hq (.inr e)
      · intro y s e _; exact hq (.inr e)
      · intro s e _; exact hx.1 e
theorem ixE_at : ∀ (t W : List Nat), (∀ x ∈ t, x ≠ 13) → ixE (t ++ 13 :: 10 :: W) = some t.length
  | [], W, _ => by rw [List.nil_append, ixE]; rfl
  | x :: r, W, h => by
    have ih := ixE_at r W (fun y hy => h y (List.mem_cons_of_mem _ hy))
    rw [List.cons_append, ixE]
    · rw [ih]
      rfl
    · intro s e _
      exact h x List.mem_cons_self e
theorem digF_one (f n : Nat) (h : n < 10) : digF (f + 1) n = [48 + n] := by rw [digF, if_pos h]
theorem digF_more (f n : Nat) (h : ¬ n < 10) : digF (f + 1) n = digF f (n / 10) ++ [48 + n % 10] := by rw [digF, if_neg h]
theorem digF_dig : ∀ (f n : Nat), ∀ x ∈ digF f n, isDig x = true
  | 0, n => by simp [digF]
  | f + 1, n => by
    by_cases h : n < 10
    · rw [digF_one f n h]
      intro x hx
      simp at hx
      exact isDig_iff.2 (by omega)
    · rw [digF_more f n h]
      intro x hx
      rcases List.mem_append.1 hx with hx | hx
      · exact digF_dig f _ x hx
      · simp at hx
        exact isDig_iff.2 (by omega)
theorem digF_val : ∀ (f n : Nat), n < 10 ^ (f + 1) → valL (digF (f + 1) n) = n
  | f, n, hn => by
    by_cases h : n < 10
    · rw [digF_one f n h]
      simp [valL]
    · rw [digF_more f n h, valL_snoc]
      cases f with
      | zero => simp at hn; omega
      | succ g =>
        rw [digF_val g (n / 10) (by rw [Nat.pow_succ] at hn; omega)]
        omega
theorem digF_len : ∀ (k f n : Nat), n < 10 ^ (k + 1) → 1 ≤ (digF (f + 1) n).length ∧ (digF (f + 1) n).length ≤ k + 1
  | k, f, n, hn => by
    by_cases h : n < 10
    · rw [digF_one f n h]
      simp
    · rw [digF_more f n h, List.length_append]
      cases k with
      | zero => simp at hn; omega
      | succ k =>
        cases f with
        | zero => simp [digF]
        | succ g =>
          have := digF_len k g (n / 10) (by rw [Nat.pow_succ] at hn; omega)
          simp
          omega
theorem lenL_digs (n : Nat) (hn : n ≤ 999999) : lenL (digs n ++ [125]) = some n := by
  have h1 : 1 ≤ (digF 20 n).length ∧ (digF 20 n).length ≤ 6 := digF_len 5 19 n (by omega)
  have h2 : valL (digF 20 n) = n := digF_val 19 n (by omega)
  have h3 := digF_dig 20 n
  unfold lenL digs
  rw [List.dropLast_concat, if_pos ⟨by rw [List.length_append]; simp; omega, by rw [List.length_append]; simp; omega, by simp, by simpa using h3⟩, h2]
theorem literal_back (t W : List Nat) (hn : t.length ≤ 999999) : literal (digs t.length ++ [125, 13, 10] ++ t ++ W) = some (t, W) := by
  have e : digs t.length ++ [125, 13, 10] ++ t ++ W = (digs t.length ++ [125]) ++ 13 :: 10 :: (t ++ W) := by simp
  have h1 : ∀ x ∈ digs t.length ++ [125], x ≠ 13 := fun x hx => by
    rcases List.mem_append.1 hx with hx | hx
    · have := isDig_iff.1 (digF_dig 20 _ x hx)
      omega
    · simp at hx
      omega
  rw [e]
  unfold literal
  rw [ixE_at _ _ h1]
  simp only
  rw [List.take_left, lenL_digs _ hn]
  simp only
  have h2 : ((digs t.length ++ [125]) ++ 13 :: 10 :: (t ++ W)).drop ((digs t.length ++ [125]).length + 2) = t ++ W := by
    rw [List.drop_append, List.drop_of_length_le (by omega), Nat.add_sub_cancel_left]
    rfl
  rw [h2, if_pos (by rw [List.length_append]; omega), List.take_left, List.drop_left]
theorem cutTok_atom {x : Nat} {r : List Nat} (h : isAt x = true) : cutTok (x :: r) = some (⟨1, (x :: r).take (atomLen (x :: r))⟩, (x :: r).drop (atomLen (x :: r))) := by
  simp only [isAt, Bool.and_eq_true, decide_eq_true_eq] at h
  rw [cutTok]
  · rw [if_pos]
    rw [atomLen, if_pos (by simp only [isAt, Bool.and_eq_true, decide_eq_true_eq]; exact h)]
    omega
  all_goals intro e; omega
theorem cutTok_txt {lits : Bool} {t : Tk} {W : List Nat} (hg : Good lits t) (hn : t.t.length ≤ 999999) (hW : t.k = 1 → ∀ x, W.head? = some x → isAt x = false) : cutTok (txt lits t ++ W) = some (t, W) := by
  obtain ⟨k, t⟩ := t
  rcases hg with ⟨h1, h2, h3⟩ | ⟨h1, h2⟩ | ⟨h1, h2⟩
  · simp only at h1 h2 h3 hW hn
    subst h1
    unfold txt
    simp only [if_true]
    cases t with
    | nil => exact absurd rfl h2
    | cons x r =>
      have h4 := atomLen_app (x :: r) W h3 (hW rfl)
      rw [List.cons_append] at h4 ⊢
      rw [cutTok_atom (h3 x List.mem_cons_self), h4]
      have e1 : (x :: (r ++ W)) = (x :: r) ++ W := rfl
      rw [e1, List.take_left, List.drop_left]
  · simp only at h1 h2 hn
    subst h1
    unfold txt
    cases lits with
    | true =>
      simp only [if_true, if_neg (show ¬ (2 : Int) = 1 by decide)]
      rw [List.cons_append, cutTok, literal_back t W hn]
      rfl
    | false =>
      simp only [if_true, if_neg (show ¬ (2 : Int) = 1 by decide), if_neg (show ¬ (false = true) by decide)]
      rw [List.cons_append, List.append_assoc, cutTok, List.singleton_append, quoted_esc t W (h2 rfl)]
      rfl
  · simp only at h1 h2
    subst h2
    unfold txt
    rcases h1 with rfl | rfl
    · simp [cutTok]
    · simp [cutTok]
theorem txt_ne {lits : Bool} {t : Tk} (hg : Good lits t) : txt lits t ≠ [] := by
  unfold txt
  rcases hg with ⟨h1, h2, h3⟩ | ⟨h1, h2⟩ | ⟨h1, h2⟩
  · rw [if_pos h1]; exact h2
  · rw [if_neg (by rw [h1]; decide), if_pos h1]
    cases lits <;> simp
  · rcases h1 with h1 | h1
    · rw [if_neg (by rw [h1]; decide), if_neg (by rw [h1]; decide), if_pos h1]; simp
    · rw [if_neg (by rw [h1]; decide), if_neg (by rw [h1]; decide), if_neg (by rw [h1]; decide)]; simp
/-- A token that is no ) doesn't begin as one does. -/
theorem txt_head {lits : Bool} {t : Tk} (hg : Good lits t) (hk : t.k ≠ 4) (W : List Nat) : (txt lits t ++ W).head? ≠ some 41 := by
  unfold txt
  rcases hg with ⟨h1, h2, h3⟩ | ⟨h1, h2⟩ | ⟨h1, h2⟩
  · rw [if_pos h1]
    obtain ⟨k, t⟩ := t
    cases t with
    | nil => exact absurd rfl h2
    | cons x r =>
      intro e
      simp at e
      have := h3 x List.mem_cons_self
      rw [e] at this
      simp [isAt] at this
  · rw [if_neg (by rw [h1]; decide), if_pos h1]
    cases lits <;> simp
  · rcases h1 with h1 | h1
    · rw [if_neg (by rw [h1]; decide), if_neg (by rw [h1]; decide), if_pos h1]; simp
    · exact absurd h1 hk
theorem wr_head {lits : Bool} (l : List Tk) : ∀ x, (wrF lits 1 l).head? = some x → isAt x = false := by
  intro x hx
  cases l with
  | nil => simp [wrF] at hx
  | cons t r =>
    rw [wrF] at hx
    unfold gapB at hx
    by_cases h4 : t.k = 4
    · have e : txt lits t = [41] := by
        unfold txt
        rw [if_neg (by rw [h4]; decide), if_neg (by rw [h4]; decide), if_neg (by rw [h4]; decide)]
      rw [if_neg (by simp [h4]), e] at hx
      simp at hx
      subst hx
      rfl
    · rw [if_pos ⟨by decide, h4⟩] at hx
      simp at hx
      subst hx
      rfl
theorem lastK_snoc (l : List Tk) (t : Tk) : lastK (l ++ [t]) = t.k := by simp [lastK]
theorem gap_back {lits : Bool} {acc : List Tk} {t : Tk} {W : List Nat} (hg : Good lits t) : gap acc (gapB (lastK acc) t ++ txt lits t ++ W) = some (txt lits t ++ W) := by
  unfold gap gapB
  by_cases h3 : lastK acc = 3
  · rw [if_pos (.inl h3), if_neg (by simp [h3])]
    rfl
  · by_cases h4 : t.k = 4
    · have e0 : (if lastK acc ≠ 3 ∧ t.k ≠ 4 then [32] else []) = ([] : List Nat) := if_neg (fun h => h.2 h4)
      rw [e0]
      have e : txt lits t = [41] := by
        unfold txt
        rw [if_neg (by rw [h4]; decide), if_neg (by rw [h4]; decide), if_neg (by rw [h4]; decide)]
      rw [if_pos (.inr (by rw [e]; rfl))]
      rfl
    · have e0 : (if lastK acc ≠ 3 ∧ t.k ≠ 4 then [32] else []) = ([32] : List Nat) := if_pos ⟨h3, h4⟩
      rw [e0]
      have h5 := txt_head hg h4 W
      rw [if_neg (by rintro (h | h); exact h3 h; simp at h)]
      rw [if_pos ⟨rfl, h5⟩]
      rfl
/-- What is written is read as it was. -/
theorem toks_back {lits : Bool} : ∀ (suf pre : List Tk) (f : Nat), (∀ t ∈ suf, Good lits t ∧ t.t.length ≤ 999999) → pre.length + suf.length ≤ 200 → (∀ k, 0 ≤ depth pre + depth (suf.take k)) → depth pre + depth suf = 0 → (wrF lits (lastK pre) suf).length ≤ f →
    tokF f pre (depth pre) (wrF lits (lastK pre) suf) = some (pre ++ suf)
  | [], pre, f, _, _, _, hd, _ => by
    rw [wrF, tokF, if_neg (by simp [depth] at hd ⊢; omega)]
    simp
  | t :: r, pre, f, hg, hl, hk, hd, hf => by
    obtain ⟨g1, g2⟩ := hg t List.mem_cons_self
    have e : wrF lits (lastK pre) (t :: r) = gapB (lastK pre) t ++ txt lits t ++ wrF lits t.k r := rfl
    have hne : gapB (lastK pre) t ++ txt lits t ++ wrF lits t.k r ≠ [] := by
      intro h
      have := txt_ne g1
      simp at h
      exact this h.2.1
    have hgap := gap_back (acc := pre) (W := wrF lits t.k r) g1
    have hcut := cutTok_txt (W := wrF lits t.k r) g1 g2 (fun h1 => by rw [h1]; exact wr_head r)
    have h0 := hk 1
    have h1 : depth ((t :: r).take 1) = opens t.k := by simp [depth]
    rw [h1] at h0
    have htl : 1 ≤ (txt lits t).length := by
      have := txt_ne g1
      have := List.length_pos_iff.2 this
      omega
    rw [e] at hf ⊢
    cases f with
    | zero =>
      rw [List.length_append, List.length_append] at hf
      omega
    | succ f =>
      cases hb : gapB (lastK pre) t ++ txt lits t ++ wrF lits t.k r with
      | nil => exact absurd hb hne
      | cons x c =>
        rw [tokF, ← hb, hgap]
        simp only
        rw [if_neg (by rw [List.length_cons] at hl; omega), hcut]
        simp only
        rw [if_neg (by omega), ← depth_snoc]
        have h5 := toks_back r (pre ++ [t]) f (fun u hu => hg u (List.mem_cons_of_mem _ hu)) (by rw [List.length_append, List.length_singleton]; rw [List.length_cons] at hl; omega) (fun k => by
          have h6 := hk (k + 1)
          have h7 : depth ((t :: r).take (k + 1)) = opens t.k + depth (r.take k) := by simp [depth]
          rw [h7] at h6
          rw [depth_snoc]
          omega) (by
          have h7 : depth (t :: r) = opens t.k + depth r := by simp [depth]
          rw [h7] at hd
          rw [depth_snoc]
          omega) (by
          rw [lastK_snoc]
          rw [List.length_append, List.length_append] at hf
          omega)
        rw [lastK_snoc] at h5
        rw [h5, List.append_assoc]
        rfl
theorem quoted_len (b : List Nat) : ∀ t c, quoted b = some (t, c) → t.length + c.length + 1 ≤ b.length ∧ (∀ x ∈ t, x ∈ b) ∧ ∀ x ∈ c, x ∈ b := by
  fun_induction quoted b with
  | case1 => intro t c h; cases h
  | case2 r =>
    intro t c h
    cases h
    exact ⟨by simp, by simp, fun x hx => List.mem_cons_of_mem _ hx⟩
  | case3 => intro t c h; cases h
  | case4 x r hx ih =>
    intro t c h
    obtain ⟨p, hp, he⟩ := Option.map_eq_some_iff.1 h
    cases he
    obtain ⟨g1, g2, g3⟩ := ih p.1 p.2 hp
    refine ⟨by simp only [List.length_cons]; omega, fun y hy => ?_, fun y hy => by simp [g3 y hy]⟩
    rcases List.mem_cons.1 hy with rfl | hy
    · simp
    · simp [g2 y hy]
  | case5 => intro t c h; cases h
  | case6 => intro t c h; cases h
  | case7 x r h1 h2 h3 h4 ih =>
    intro t c h
    obtain ⟨p, hp, he⟩ := Option.map_eq_some_iff.1 h
    cases he
    obtain ⟨g1, g2, g3⟩ := ih p.1 p.2 hp
    refine ⟨by simp only [List.length_cons]; omega, fun y hy => ?_, fun y hy => by simp [g3 y hy]⟩
    rcases List.mem_cons.1 hy with rfl | hy
    · simp
    · simp [g2 y hy]
theorem ixE_len (b : List Nat) : ∀ i, ixE b = some i → i + 2 ≤ b.length := by
  fun_induction ixE b with
  | case1 r => intro i h; cases h; simp
  | case2 x r h1 ih =>
    intro i h
    obtain ⟨j, hj, he⟩ := Option.map_eq_some_iff.1 h
    subst he
    have := ih j hj
    simp only [List.length_cons]
    omega
  | case3 => intro i h; cases h
theorem literal_len {b t c : List Nat} (h : literal b = some (t, c)) : t.length + c.length + 1 ≤ b.length ∧ (∀ x ∈ t, x ∈ b) ∧ ∀ x ∈ c, x ∈ b := by
  unfold literal at h
  cases hi : ixE b with
  | none => rw [hi] at h; cases h
  | some i =>
    rw [hi] at h
    simp only at h
    have h1 := ixE_len b i hi
    cases hn : lenL (b.take i) with
    | none => rw [hn] at h; cases h
    | some n =>
      rw [hn] at h
      simp only at h
      split at h
      · rename_i hle
        cases h
        refine ⟨?_, fun x hx => List.mem_of_mem_drop (List.mem_of_mem_take hx), fun x hx => List.mem_of_mem_drop (List.mem_of_mem_drop hx)⟩
        simp only [List.length_take, List.length_drop] at hle ⊢
        omega
      · cases h
theorem cutTok_len (b : List Nat) : ∀ t c, cutTok b = some (t, c) → Good true t ∧ t.t.length + c.length ≤ b.length ∧ c.length < b.length ∧ (∀ x ∈ t.t, x ∈ b) ∧ ∀ x ∈ c, x ∈ b := by
  intro t c h
  unfold cutTok at h
  split at h
  · cases h
  · cases h
    exact ⟨.inr (.inr ⟨.inl rfl, rfl⟩), by simp, by simp, by simp, fun x hx => List.mem_cons_of_mem _ hx⟩
  · cases h
    exact ⟨.inr (.inr ⟨.inr rfl, rfl⟩), by simp, by simp, by simp, fun x hx => List.mem_cons_of_mem _ hx⟩
  · obtain ⟨p, hp, he⟩ := Option.map_eq_some_iff.1 h
    cases he
    obtain ⟨g1, g2, g3⟩ := quoted_len _ p.1 p.2 hp
    exact ⟨.inr (.inl ⟨rfl, fun e => by cases e⟩), by simp only [List.length_cons]; omega, by simp only [List.length_cons]; omega, fun x hx => List.mem_cons_of_mem _ (g2 x hx), fun x hx => List.mem_cons_of_mem _ (g3 x hx)⟩
  · obtain ⟨p, hp, he⟩ := Option.map_eq_some_iff.1 h
    cases he
    obtain ⟨g1, g2, g3⟩ := literal_len hp
    exact ⟨.inr (.inl ⟨rfl, fun e => by cases e⟩), by simp only [List.length_cons]; omega, by simp only [List.length_cons]; omega, fun x hx => List.mem_cons_of_mem _ (g2 x hx), fun x hx => List.mem_cons_of_mem _ (g3 x hx)⟩
  · rename_i x r h1 h2 h3 h4
    split at h
    · rename_i hpos
      cases h
      have hle := atomLen_le (x :: r)
      refine ⟨.inl ⟨rfl, ?_, atom_all (x :: r)⟩, ?_, ?_, fun y hy => List.mem_of_mem_take hy, fun y hy => List.mem_of_mem_drop hy⟩
      · intro e
        have := congrArg List.length e
        simp only [List.length_take, List.length_nil] at this
        omega
      · simp only [List.length_take, List.length_drop]
        omega
      · simp only [List.length_drop]
        omega
    · cases h
theorem gap_len {acc : List Tk} {b c : List Nat} (h : gap acc b = some c) : c.length ≤ b.length ∧ ∀ x ∈ c, x ∈ b := by
  unfold gap at h
  split at h
  · cases h
    exact ⟨Nat.le_refl _, fun x hx => hx⟩
  · split at h
    · cases h
      refine ⟨by rw [List.length_tail]; omega, fun x hx => List.mem_of_mem_tail hx⟩
    · cases h
/-- What a token may be. -/
def Fit (N : Nat) (t : Tk) : Prop := Good true t ∧ t.t.length ≤ N ∧ ∀ x ∈ t.t, x < 256
theorem toks_good (N : Nat) : ∀ (f : Nat) (acc : List Tk) (o : Int) (b : List Nat) (l : List Tk), tokF f acc o b = some l → (∀ t ∈ acc, Fit N t) → o = depth acc → (∀ k, 0 ≤ depth (acc.take k)) → acc.length ≤ 200 → b.length ≤ N → (∀ x ∈ b, x < 256) →
    (∀ t ∈ l, Fit N t) ∧ l.length ≤ 200 ∧ depth l = 0 ∧ ∀ k, 0 ≤ depth (l.take k) := by
  intro f
  induction f with
  | zero =>
    intro acc o b l h hg ho hk hl hb hx
    cases b with
    | nil =>
      rw [tokF] at h
      split at h
      · cases h
      · cases h
        have := hk acc.length
        rw [List.take_length] at this
        exact ⟨hg, hl, by omega, hk⟩
    | cons x r => rw [tokF] at h; cases h
  | succ f ih =>
    intro acc o b l h hg ho hk hl hb hx
    cases b with
    | nil =>
      rw [tokF] at h
      split at h
      · cases h
      · cases h
        have := hk acc.length
        rw [List.take_length] at this
        exact ⟨hg, hl, by omega, hk⟩
    | cons x r =>
      rw [tokF] at h
      cases hgap : gap acc (x :: r) with
      | none => rw [hgap] at h; cases h
      | some b' =>
        rw [hgap] at h
        simp only at h
        split at h
        · cases h
        · rename_i h200
          obtain ⟨k1, k2⟩ := gap_len hgap
          cases hcut : cutTok b' with
          | none => rw [hcut] at h; cases h
          | some p =>
            obtain ⟨t, c⟩ := p
            rw [hcut] at h
            simp only at h
            split at h
            · cases h
            · rename_i hop
              obtain ⟨g1, g2, g3, g4, g5⟩ := cutTok_len b' t c hcut
              refine ih (acc ++ [t]) _ c l h (fun u hu => ?_) ?_ (fun k => ?_) ?_ (by omega) (fun y hy => hx y (k2 y (g5 y hy)))
              · rcases List.mem_append.1 hu with hu | hu
                · exact hg u hu
                · simp at hu
                  subst hu
                  exact ⟨g1, by omega, fun y hy => hx y (k2 y (g4 y hy))⟩
              · rw [depth_snoc, ho]
              · by_cases hk2 : k ≤ acc.length
                · rw [List.take_append_of_le_length hk2]
                  exact hk k
                · rw [List.take_of_length_le (by rw [List.length_append, List.length_singleton]; omega), depth_snoc]
                  omega
              · rw [List.length_append, List.length_singleton]
                omega
end Go.Proofs.YtkbldbcgclnfeaaDoor.lx
