/- Plain mathematics of lines: what bytes complete, byte by byte; the literal that a line asks for. -/
namespace Go.Proofs.YtkbldbcgclnfeaaDoor.lx
set_option linter.unusedVariables false
set_option linter.unusedSimpArgs false

def isDig (x : Nat) : Bool := decide (48 ≤ x) && decide (x ≤ 57)
theorem isDig_iff {x : Nat} : isDig x = true ↔ 48 ≤ x ∧ x ≤ 57 := by simp [isDig]
/-- What stands behind the last such byte. -/
def behind (c : Nat) : List Nat → Option (List Nat)
  | [] => none
  | x :: r => match behind c r with
    | some t => some t
    | none => if x = c then some r else none
def valL (l : List Nat) : Nat := l.foldl (fun n c => 10 * n + (c - 48)) 0
/-- Digits, and what ends them. -/
def lenL (r : List Nat) : Option Nat := if 2 ≤ r.length ∧ r.length ≤ 7 ∧ r.getLast? = some 125 ∧ r.dropLast.all isDig = true then some (valL r.dropLast) else none
/-- The literal for which a line asks. -/
def litL (l : List Nat) : Option Nat := (behind 123 l).bind lenL
theorem behind_none {c : Nat} : ∀ {l : List Nat}, (∀ x ∈ l, x ≠ c) → behind c l = none
  | [], _ => rfl
  | x :: r, h => by
    rw [behind, behind_none (fun y hy => h y (List.mem_cons_of_mem _ hy))]
    simp [h x List.mem_cons_self]
theorem behind_at {c : Nat} {t : List Nat} (ht : ∀ x ∈ t, x ≠ c) : ∀ a : List Nat, behind c (a ++ c :: t) = some t
  | [] => by
    rw [List.nil_append, behind, behind_none ht]
    simp
  | x :: r => by
    rw [List.cons_append, behind, behind_at ht r]
theorem behind_some {c : Nat} : ∀ {l t : List Nat}, behind c l = some t → ∃ a, l = a ++ c :: t
  | [], t, h => by simp [behind] at h
  | x :: r, t, h => by
    rw [behind] at h
    cases hb : behind c r with
    | some u =>
      rw [hb] at h
      cases h
      obtain ⟨a, ha⟩ := behind_some hb
      exact ⟨x :: a, by rw [ha]; rfl⟩
    | none =>
      rw [hb] at h
      simp only at h
      split at h
      · rename_i e
        cases h
        exact ⟨[], by rw [e]; rfl⟩
      · cases h
theorem litL_some {l : List Nat} {n : Nat} (h : litL l = some n) : ∃ a ds, l = a ++ 123 :: (ds ++ [125]) ∧ 1 ≤ ds.length ∧ ds.length ≤ 6 ∧ (∀ x ∈ ds, isDig x = true) ∧ n = valL ds := by
  unfold litL at h
  cases hb : behind 123 l with
  | none => rw [hb] at h; cases h
  | some r =>
    rw [hb] at h
    obtain ⟨a, ha⟩ := behind_some hb
    replace h : lenL r = some n := h
    unfold lenL at h
    split at h
    · rename_i hc
      obtain ⟨h1, h2, h3, h4⟩ := hc
      cases h
      obtain ⟨q, rfl⟩ := List.getLast?_eq_some_iff.1 h3
      rw [List.dropLast_concat] at *
      rw [List.length_append] at h1 h2
      simp at h1 h2
      exact ⟨a, q, ha, by omega, by omega, by simpa using h4, rfl⟩
    · cases h
theorem litL_at (a ds : List Nat) (h1 : 1 ≤ ds.length) (h6 : ds.length ≤ 6) (hd : ∀ x ∈ ds, isDig x = true) : litL (a ++ 123 :: (ds ++ [125])) = some (valL ds) := by
  unfold litL
  rw [behind_at (fun x hx => by
    rcases List.mem_append.1 hx with hx | hx
    · have := isDig_iff.1 (hd x hx); omega
    · simp at hx; omega)]
  show lenL (ds ++ [125]) = _
  unfold lenL
  rw [List.dropLast_concat, if_pos ⟨by simp; omega, by simp; omega, by simp, by simpa using hd⟩]
/-- Where digits ahead of a line's end are all that there are, and no head stands ahead of them. -/
theorem litL_none {pre ds : List Nat} (hd : ∀ x ∈ ds, isDig x = true)
    (h : pre = [] ∨ (∃ q x, pre = q ++ [x] ∧ isDig x = false ∧ (x ≠ 123 ∨ ds.length = 0)) ∨ 7 ≤ ds.length) : litL (pre ++ ds ++ [125]) = none := by
  cases hl : litL (pre ++ ds ++ [125]) with
  | none => rfl
  | some n =>
    exfalso
    obtain ⟨a, es, he, e1, e6, ed, -⟩ := litL_some hl
    have he2 : pre ++ ds = a ++ 123 :: es := by
      have : pre ++ ds ++ [125] = (a ++ 123 :: es) ++ [125] := by rw [he]; simp
      exact List.append_cancel_right this
    rcases List.append_eq_append_iff.1 he2 with ⟨as, h1, h2⟩ | ⟨bs, h1, h2⟩
    · have := isDig_iff.1 (hd 123 (by rw [h2]; simp))
      omega
    · cases bs with
      | nil =>
        have := isDig_iff.1 (hd 123 (by rw [List.nil_append] at h2; rw [← h2]; simp))
        omega
      | cons b r =>
        rw [List.cons_append] at h2
        obtain ⟨rfl, h3⟩ := List.cons.inj h2
        have hlen : es.length = r.length + ds.length := by rw [h3, List.length_append]
        rcases h with h | ⟨q, x, hq, hx, hx2⟩ | h
        · rw [h] at h1
          simp at h1
        · rw [hq] at h1
          cases hr : r.getLast? with
          | none =>
            have hr0 := List.getLast?_eq_none_iff.1 hr
            subst hr0
            have := List.append_inj_right' h1 rfl
            simp at this
            rcases hx2 with hx2 | hx2
            · exact hx2 this
            · simp at hlen
              omega
          | some y =>
            obtain ⟨r', rfl⟩ := List.getLast?_eq_some_iff.1 hr
            have h1' : q ++ [x] = (a ++ 123 :: r') ++ [y] := by rw [h1]; simp
            have := List.append_inj_right' h1' rfl
            simp at this
            subst this
            have := ed x (by rw [h3]; simp)
            rw [hx] at this
            cases this
        · omega
theorem litL_end {l : List Nat} (h : l.getLast? ≠ some 125) : litL l = none := by
  cases hl : litL l with
  | none => rfl
  | some n =>
    exfalso
    obtain ⟨a, es, he, -⟩ := litL_some hl
    apply h
    rw [he, show a ++ 123 :: (es ++ [125]) = (a ++ 123 :: es) ++ [125] by simp, List.getLast?_concat]
theorem valL_lt : ∀ (ds : List Nat), (∀ x ∈ ds, isDig x = true) → valL ds < 10 ^ ds.length := by
  intro ds
  have key : ∀ (ds : List Nat) (n k : Nat), (∀ x ∈ ds, isDig x = true) → n < 10 ^ k → ds.foldl (fun n c => 10 * n + (c - 48)) n < 10 ^ (k + ds.length) := by
    intro ds
    induction ds with
    | nil => intro n k _ h; simpa using h
    | cons x r ih =>
      intro n k hd h
      have hx := isDig_iff.1 (hd x List.mem_cons_self)
      rw [List.foldl_cons, List.length_cons, show k + (r.length + 1) = (k + 1) + r.length by omega]
      refine ih _ _ (fun y hy => hd y (List.mem_cons_of_mem _ hy)) ?_
      rw [Nat.pow_succ]
      omega
  intro hd
  have := key ds 0 0 hd (by simp)
  simpa [valL] using this
theorem valL_snoc (l : List Nat) (c : Nat) : valL (l ++ [c]) = 10 * valL l + (c - 48) := by simp [valL]
theorem litL_lt {l : List Nat} {n : Nat} (h : litL l = some n) : n < 1000000 := by
  obtain ⟨a, es, -, -, h6, hd, rfl⟩ := litL_some h
  have h1 := valL_lt es hd
  have h2 : (10 : Nat) ^ es.length ≤ 10 ^ 6 := Nat.pow_le_pow_right (by decide) h6
  omega

/-- What is known of the bytes that came: the command's former lines and literals, the line, what is left of a literal. -/
structure St where
  done : List Nat
  cur : List Nat
  left : Nat
abbrev U := Nat × List Nat
def s0 : St := ⟨[], [], 0⟩
/-- What a line's end completes. -/
def close (done line : List Nat) : St × U :=
  if 2000 < line.length then (s0, (2, (done ++ line).take 100))
  else match litL line with
    | none => (s0, (1, done ++ line))
    | some n => if 20000 < n then (s0, (3, (done ++ line).take 100)) else (⟨done ++ line ++ [13, 10], [], n⟩, (4, []))
def step (s : St) (x : Nat) : St × List U :=
  if 0 < s.left then (⟨s.done ++ [x], s.cur, s.left - 1⟩, [])
  else if x = 10 ∧ s.cur.getLast? = some 13 then ((close s.done s.cur.dropLast).1, [(close s.done s.cur.dropLast).2])
  else (⟨s.done, s.cur ++ [x], 0⟩, [])
def run : St → List Nat → St × List U
  | s, [] => (s, [])
  | s, x :: r => ((run (step s x).1 r).1, (step s x).2 ++ (run (step s x).1 r).2)
theorem run_append : ∀ (l r : List Nat) (s : St), run s (l ++ r) = ((run (run s l).1 r).1, (run s l).2 ++ (run (run s l).1 r).2)
  | [], r, s => by simp [run]
  | x :: l, r, s => by
    rw [List.cons_append, run, run_append l r, run]
    simp
theorem run_lit : ∀ (l : List Nat) (d c : List Nat) (n : Nat), l.length ≤ n → run ⟨d, c, n⟩ l = (⟨d ++ l, c, n - l.length⟩, [])
  | [], d, c, n, _ => by simp [run]
  | x :: r, d, c, n, h => by
    rw [List.length_cons] at h
    have hs : step ⟨d, c, n⟩ x = (⟨d ++ [x], c, n - 1⟩, []) := by
      unfold step
      rw [if_pos (by show 0 < n; omega)]
    rw [run, hs]
    simp only
    rw [run_lit r (d ++ [x]) c (n - 1) (by omega), List.length_cons]
    simp
    omega
/-- Within a line no end stands. -/
theorem run_stays : ∀ (l : List Nat) (d c : List Nat), (∀ i, (c ++ l)[i]? = some 13 → (c ++ l)[i + 1]? = some 10 → i + 1 < c.length) → run ⟨d, c, 0⟩ l = (⟨d, c ++ l, 0⟩, [])
  | [], d, c, _ => by simp [run]
  | x :: r, d, c, h => by
    have hne : ¬ (x = 10 ∧ c.getLast? = some 13) := by
      rintro ⟨rfl, hc⟩
      obtain ⟨q, rfl⟩ := List.getLast?_eq_some_iff.1 hc
      have := h q.length (by simp) (by simp)
      simp at this
    have hs : step ⟨d, c, 0⟩ x = (⟨d, c ++ [x], 0⟩, []) := by
      unfold step
      rw [if_neg (Nat.lt_irrefl 0), if_neg hne]
    rw [run, hs]
    simp only
    rw [run_stays r d (c ++ [x]) (fun i h1 h2 => by
      have := h i (by simpa using h1) (by simpa using h2)
      rw [List.length_append]
      simp
      omega)]
    simp
theorem run_noLf (l d c : List Nat) (h : ∀ x ∈ l, x ≠ 10) : run ⟨d, c, 0⟩ l = (⟨d, c ++ l, 0⟩, []) := by
  refine run_stays l d c fun i h1 h2 => ?_
  apply Classical.byContradiction
  intro hn
  rw [List.getElem?_append_right (by omega)] at h2
  exact h 10 (List.mem_of_getElem? h2) rfl
/-- A piece of a line, of which the last byte alone may be a line feed. -/
theorem run_piece (q d c : List Nat) (x : Nat) (h : ∀ y ∈ q, y ≠ 10) :
    run ⟨d, c, 0⟩ (q ++ [x]) = if x = 10 ∧ (c ++ q).getLast? = some 13 then ((close d (c ++ q).dropLast).1, [(close d (c ++ q).dropLast).2]) else (⟨d, c ++ (q ++ [x]), 0⟩, []) := by
  rw [run_append, run_noLf q d c h]
  simp only [run, List.nil_append, List.append_nil]
  unfold step
  rw [if_neg (Nat.lt_irrefl 0)]
  simp only
  split <;> simp
/-- A line, from its beginning to its end. -/
theorem run_line (line d r : List Nat) (h : ∀ i, line[i]? = some 13 → (line ++ [13])[i + 1]? ≠ some 10) :
    run ⟨d, [], 0⟩ (line ++ 13 :: 10 :: r) = ((run (close d line).1 r).1, (close d line).2 :: (run (close d line).1 r).2) := by
  have e : line ++ 13 :: 10 :: r = (line ++ [13]) ++ 10 :: r := by simp
  rw [e, run_append, run_stays (line ++ [13]) d [] (fun i h1 h2 => by
    exfalso
    rw [List.nil_append] at h1 h2
    have hi := (List.getElem?_eq_some_iff.1 h2).1
    simp at hi
    rw [List.getElem?_append_left hi] at h1
    exact h i h1 h2)]
  simp only [List.nil_append]
  have hs : step ⟨d, line ++ [13], 0⟩ 10 = ((close d line).1, [(close d line).2]) := by
    unfold step
    rw [if_neg (Nat.lt_irrefl 0), if_pos ⟨rfl, by simp⟩]
    simp
  rw [run, hs]
  simp
/-- How much is known. -/
def St.size (s : St) : Nat := s.done.length + s.cur.length
theorem close_size (d l : List Nat) : (close d l).1.size ≤ d.length + l.length + 2 := by
  unfold close St.size s0
  split
  · simp
  · split
    · simp
    · split <;> simp <;> omega
theorem step_size (s : St) (x : Nat) : (step s x).1.size ≤ s.size + 1 := by
  unfold step
  split
  · simp [St.size]
    omega
  · split
    · rename_i h
      have := close_size s.done s.cur.dropLast
      have hne : s.cur ≠ [] := by
        intro e
        rw [e] at h
        simp at h
      have : 0 < s.cur.length := List.length_pos_iff.2 hne
      simp [St.size] at *
      omega
    · simp [St.size]
      omega
theorem run_size : ∀ (l : List Nat) (s : St), (run s l).1.size ≤ s.size + l.length
  | [], s => by simp [run]
  | x :: r, s => by
    have h1 := run_size r (step s x).1
    have h2 := step_size s x
    rw [run, List.length_cons]
    simp only
    omega
/-- While bytes of a literal are to come, no line has begun. -/
def St.ok (s : St) : Prop := 0 < s.left → s.cur = []
theorem close_ok (d l : List Nat) : (close d l).1.ok := by
  unfold close St.ok s0
  split
  · simp
  · split
    · simp
    · split <;> simp
theorem step_ok {s : St} (h : s.ok) (x : Nat) : (step s x).1.ok := by
  unfold step
  split
  · rename_i h0
    intro _
    exact h h0
  · split
    · exact close_ok _ _
    · intro h
      exact absurd h (Nat.lt_irrefl 0)
theorem run_ok : ∀ (l : List Nat) {s : St}, s.ok → (run s l).1.ok
  | [], s, h => h
  | x :: r, s, h => run_ok r (step_ok h x)
end Go.Proofs.YtkbldbcgclnfeaaDoor.lx
