/- Plain mathematics of strings as they are told: in quotes, or behind their number; each is read as it was. -/
import Derived.Test.YtkbldbcgclnfeaaDoorLexV
import Derived.Lib.ItoaNum
namespace Go.Proofs.YtkbldbcgclnfeaaDoor.fet
open Go.Proofs.YtkbldbcgclnfeaaDoor.lx
set_option linter.unusedVariables false
set_option linter.unusedSimpArgs false

def okB (x : Nat) : Bool := decide (32 ≤ x) && decide (x ≤ 126)
def plainL (s : List Nat) : Bool := s.all okB
def cntL (s : List Nat) : List Nat := 123 :: (digs s.length ++ [125, 13, 10] ++ s)
def quoL (s : List Nat) : List Nat := 34 :: (esc s ++ [34])
/-- A string of an answer. -/
def tellL (s : List Nat) : List Nat := if plainL s = true then quoL s else cntL s
theorem tell_txt (s : List Nat) : tellL s = txt (!plainL s) ⟨2, s⟩ := by
  unfold tellL txt
  cases plainL s <;> simp [quoL, cntL]
theorem plain_all {s : List Nat} (h : plainL s = true) : ∀ x ∈ s, 32 ≤ x ∧ x ≤ 126 := by
  intro x hx
  have := List.all_eq_true.1 h x hx
  simpa [okB] using this
theorem toks_one {lits : Bool} {t : Tk} (hg : Good lits t) (hk : t.k = 2) (hn : t.t.length ≤ 999999) : toks (txt lits t) = some [t] := by
  have e : wrF lits (lastK []) [t] = txt lits t := by
    show gapB 3 t ++ txt lits t ++ [] = _
    unfold gapB
    simp
  have h := toks_back (lits := lits) [t] [] (txt lits t).length (fun u hu => by
    have : u = t := by simpa using hu
    rw [this]; exact ⟨hg, hn⟩) (by simp) (fun k => by
    cases k <;> simp [depth, opens, hk]) (by simp [depth, opens, hk]) (by rw [e]; exact Nat.le_refl _)
  rw [e] at h
  exact h
/-- What is told is read as it was. -/
theorem toks_tell (s : List Nat) (hn : s.length ≤ 999999) : toks (tellL s) = some [⟨2, s⟩] := by
  rw [tell_txt]
  refine toks_one (.inr (.inl ⟨rfl, fun hf x hx => ?_⟩)) rfl hn
  have hp : plainL s = true := by
    cases h : plainL s with
    | true => rfl
    | false => rw [h] at hf; cases hf
  have := plain_all hp x hx
  omega
theorem esc_bytes : ∀ t : List Nat, (∀ x ∈ t, x < 256) → ∀ x ∈ esc t, x < 256
  | [], _ => by simp [esc]
  | y :: r, h => by
    have ih := esc_bytes r (fun x hx => h x (List.mem_cons_of_mem _ hx))
    have h1 := h y List.mem_cons_self
    intro x hx
    rw [esc] at hx
    split at hx
    · simp only [List.mem_cons] at hx
      rcases hx with rfl | rfl | hx
      · decide
      · exact h1
      · exact ih x hx
    · simp only [List.mem_cons] at hx
      rcases hx with rfl | hx
      · exact h1
      · exact ih x hx
theorem esc_len : ∀ t : List Nat, (esc t).length ≤ 2 * t.length
  | [] => by simp [esc]
  | x :: r => by
    have := esc_len r
    rw [esc]
    split <;> simp only [List.length_cons] <;> omega
theorem esc_snoc (x : Nat) : ∀ t : List Nat, esc (t ++ [x]) = esc t ++ (if x = 34 ∨ x = 92 then [92, x] else [x])
  | [] => by simp [esc]
  | y :: r => by
    have ih := esc_snoc x r
    rw [List.cons_append, esc, esc, ih]
    split <;> simp
theorem esc_take {s : List Nat} {k x : Nat} (h : s[k]? = some x) : esc (s.take (k + 1)) = esc (s.take k) ++ (if x = 34 ∨ x = 92 then [92, x] else [x]) := by
  rw [List.take_add_one, h]
  exact esc_snoc _ _
theorem plain_take {s : List Nat} {k x : Nat} (h : s[k]? = some x) : plainL (s.take (k + 1)) = (plainL (s.take k) && okB x) := by
  rw [List.take_add_one, h]
  simp [plainL]
theorem plain_not {s : List Nat} {k x : Nat} (h : s[k]? = some x) (hx : okB x = false) : plainL s = false := by
  cases hp : plainL s with
  | false => rfl
  | true =>
    have := List.all_eq_true.1 hp x (List.mem_of_getElem? h)
    rw [hx] at this
    cases this
theorem tell_bytes {s : List Nat} (h : ∀ x ∈ s, x < 256) : ∀ x ∈ tellL s, x < 256 := by
  intro x hx
  unfold tellL at hx
  split at hx
  · simp only [quoL, List.mem_cons, List.mem_append, List.mem_nil_iff, or_false] at hx
    rcases hx with rfl | hx | rfl
    · decide
    · exact esc_bytes _ h x hx
    · decide
  · simp only [cntL, List.mem_cons, List.mem_append, List.mem_nil_iff, or_false] at hx
    rcases hx with rfl | (hx | rfl | rfl | rfl) | hx
    · decide
    · have := isDig_iff.1 (digF_dig 20 _ x hx)
      omega
    · decide
    · decide
    · decide
    · exact h x hx
theorem digs_len {n : Nat} (h : n ≤ 999999) : 1 ≤ (digs n).length ∧ (digs n).length ≤ 6 := digF_len 5 19 n (by omega)
theorem tell_len {s : List Nat} (h : s.length ≤ 999999) : 1 ≤ (tellL s).length ∧ (tellL s).length ≤ 2 * s.length + 12 := by
  have h1 := digs_len h
  have h2 := esc_len s
  unfold tellL quoL cntL
  split <;> simp only [List.length_cons, List.length_append, List.length_nil] <;> omega
theorem tell_head (s : List Nat) : (tellL s)[0]? = some (if plainL s = true then 34 else 123) := by
  unfold tellL
  split <;> rfl
/-- The library's numeral is these digits. -/
theorem dec_digF : ∀ (f n : Nat), n < 10 ^ (f + 1) → Lib.decDigits n = (digF (f + 1) n).map UInt8.ofNat
  | f, n, hn => by
    by_cases h : n < 10
    · rw [digF_one f n h, Lib.decDigits, dif_pos h]
      rfl
    · rw [digF_more f n h, Lib.decDigits, dif_neg h]
      cases f with
      | zero => simp at hn; omega
      | succ g =>
        rw [dec_digF g (n / 10) (by rw [Nat.pow_succ] at hn; omega)]
        simp
theorem itoa_digs {n : Nat} (h : n ≤ 999999) : Lib.itoa (n : Int) = (digs n).map UInt8.ofNat := by
  unfold Lib.itoa digs
  rw [if_neg (by omega), Int.toNat_natCast]
  exact dec_digF 19 n (by omega)
end Go.Proofs.YtkbldbcgclnfeaaDoor.fet
