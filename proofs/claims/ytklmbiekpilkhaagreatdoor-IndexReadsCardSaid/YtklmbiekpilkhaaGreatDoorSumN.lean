/- The cyclic sum of bytes as a plain function of numbers, and that its two ways agree. -/
import Derived.Laws.BitsAllLaws
namespace Go.Proofs.YtklmbiekpilkhaaGreatDoor.crcPlain

/-- One bit's crcStep. -/
def crcStep (c : Nat) : Nat := if c % 2 = 1 then (c / 2) ^^^ 3988292384 else c / 2
/-- k crcSteps. -/
def crcSteps (c : Nat) : Nat → Nat
  | 0 => c
  | k + 1 => crcStep (crcSteps c k)
/-- A byte's crcStep. -/
def crcTurn (c b : Nat) : Nat := crcSteps (c ^^^ b) 8
/-- All bytes. -/
def crcRun (l : List Nat) : Nat := l.foldl crcTurn 4294967295
/-- The other way: one bit of a byte at a time. -/
def bitStep (b c k : Nat) : Nat := if (c % 2) ^^^ (b / 2 ^ k % 2) = 1 then (c / 2) ^^^ 3988292384 else c / 2
def bitSteps (b c : Nat) : Nat → Nat
  | 0 => c
  | k + 1 => bitStep b (bitSteps b c k) k
def crcSlow (l : List Nat) : Nat := l.foldl (fun c b => bitSteps b c 8) 4294967295

theorem xor_lt32 {a b : Nat} (ha : a < 4294967296) (hb : b < 4294967296) : a ^^^ b < 4294967296 := Nat.xor_lt_two_pow (n := 32) ha hb
theorem crcStep_lt {c : Nat} (h : c < 4294967296) : crcStep c < 4294967296 := by
  unfold crcStep
  split
  · exact xor_lt32 (by omega) (by omega)
  · omega
theorem crcSteps_lt {c : Nat} (h : c < 4294967296) : ∀ k, crcSteps c k < 4294967296
  | 0 => h
  | k + 1 => crcStep_lt (crcSteps_lt h k)
theorem crcTurn_lt {c b : Nat} (h : c < 4294967296) (hb : b < 256) : crcTurn c b < 4294967296 := crcSteps_lt (xor_lt32 h (by omega)) 8
theorem bitStep_lt {b c k : Nat} (h : c < 4294967296) : bitStep b c k < 4294967296 := by
  unfold bitStep
  split
  · exact xor_lt32 (by omega) (by omega)
  · omega
theorem bitSteps_lt {b c : Nat} (h : c < 4294967296) : ∀ k, bitSteps b c k < 4294967296
  | 0 => h
  | k + 1 => bitStep_lt (bitSteps_lt h k)
theorem fold_lt (l : List Nat) : ∀ {c : Nat}, c < 4294967296 → (∀ b ∈ l, b < 256) → l.foldl crcTurn c < 4294967296 := by
  induction l with
  | nil => intro c h _; exact h
  | cons b r ih => intro c h hb; exact ih (crcTurn_lt h (hb b (by simp))) (fun x hx => hb x (by simp [hx]))
theorem crcRun_lt {l : List Nat} (hb : ∀ b ∈ l, b < 256) : crcRun l < 4294967296 := fold_lt l (by omega) hb

theorem step_bit (b c k : Nat) : crcStep (c ^^^ (b / 2 ^ k)) = bitStep b c k ^^^ (b / 2 ^ (k + 1)) := by
  have h1 : (c ^^^ (b / 2 ^ k)) % 2 = (c % 2) ^^^ (b / 2 ^ k % 2) := by
    have := Nat.xor_mod_two_pow (a := c) (b := b / 2 ^ k) (n := 1)
    simpa using this
  have h2 : (c ^^^ (b / 2 ^ k)) / 2 = (c / 2) ^^^ (b / 2 ^ (k + 1)) := by
    rw [Nat.xor_div_two, Nat.div_div_eq_div_mul, Nat.pow_succ]
  unfold crcStep bitStep
  rw [h1, h2]
  split
  · rw [Nat.xor_assoc, Nat.xor_assoc, Nat.xor_comm (b / 2 ^ (k + 1))]
  · rfl
theorem steps_bits (b c : Nat) : ∀ k, crcSteps (c ^^^ b) k = bitSteps b c k ^^^ (b / 2 ^ k)
  | 0 => by simp [crcSteps, bitSteps]
  | k + 1 => by rw [crcSteps, steps_bits b c k, step_bit]; rfl
theorem turn_bits {b : Nat} (hb : b < 256) (c : Nat) : crcTurn c b = bitSteps b c 8 := by
  unfold crcTurn
  rw [steps_bits, Nat.div_eq_of_lt (by omega), Nat.xor_zero]
theorem fold_slow (l : List Nat) : ∀ c, (∀ b ∈ l, b < 256) → l.foldl crcTurn c = l.foldl (fun c b => bitSteps b c 8) c := by
  induction l with
  | nil => intro c _; rfl
  | cons b r ih => intro c hb; simp only [List.foldl_cons]; rw [turn_bits (hb b (by simp)), ih _ (fun x hx => hb x (by simp [hx]))]
theorem crcRun_slow {l : List Nat} (hb : ∀ b ∈ l, b < 256) : crcRun l = crcSlow l := fold_slow l _ hb
theorem crcSlow_lt {l : List Nat} (hb : ∀ b ∈ l, b < 256) : crcSlow l < 4294967296 := by rw [← crcRun_slow hb]; exact crcRun_lt hb
theorem crcRun_snoc (l : List Nat) (b : Nat) : crcRun (l ++ [b]) = crcTurn (crcRun l) b := by simp [crcRun]
theorem crcSlow_snoc (l : List Nat) (b : Nat) : crcSlow (l ++ [b]) = bitSteps b (crcSlow l) 8 := by simp [crcSlow]

theorem xor_cancel {a b c : Nat} (h : a ^^^ c = b ^^^ c) : a = b := by
  have : (a ^^^ c) ^^^ c = (b ^^^ c) ^^^ c := by rw [h]
  simpa [Nat.xor_assoc] using this
theorem crcStep_inj {c d : Nat} (hc : c < 4294967296) (hd : d < 4294967296) (h : crcStep c = crcStep d) : c = d := by
  have key : ∀ a b : Nat, a < 2147483648 → b < 2147483648 → a ^^^ 3988292384 ≠ b := by
    intro a b ha hb e
    have h1 : a ^^^ b < 2147483648 := Nat.xor_lt_two_pow (n := 31) ha hb
    have h2 : a ^^^ b = 3988292384 := by
      rw [← e, ← Nat.xor_assoc, Nat.xor_self, Nat.zero_xor]
    omega
  unfold crcStep at h
  by_cases h1 : c % 2 = 1 <;> by_cases h2 : d % 2 = 1
  · rw [if_pos h1, if_pos h2] at h
    have := xor_cancel h
    omega
  · rw [if_pos h1, if_neg h2] at h
    exact absurd h (key _ _ (by omega) (by omega))
  · rw [if_neg h1, if_pos h2] at h
    exact absurd h.symm (key _ _ (by omega) (by omega))
  · rw [if_neg h1, if_neg h2] at h
    omega
theorem crcSteps_inj {c d : Nat} (hc : c < 4294967296) (hd : d < 4294967296) : ∀ k, crcSteps c k = crcSteps d k → c = d
  | 0, h => h
  | k + 1, h => crcSteps_inj hc hd k (crcStep_inj (crcSteps_lt hc k) (crcSteps_lt hd k) h)
theorem crcTurn_inj {c d b : Nat} (hc : c < 4294967296) (hd : d < 4294967296) (hb : b < 256) (h : crcTurn c b = crcTurn d b) : c = d :=
  xor_cancel (crcSteps_inj (xor_lt32 hc (by omega)) (xor_lt32 hd (by omega)) 8 h)
theorem crcTurn_inj2 {c x y : Nat} (hc : c < 4294967296) (hx : x < 256) (hy : y < 256) (h : crcTurn c x = crcTurn c y) : x = y := by
  have := crcSteps_inj (xor_lt32 hc (by omega)) (xor_lt32 hc (by omega)) 8 h
  rw [Nat.xor_comm c x, Nat.xor_comm c y] at this
  exact xor_cancel this
theorem fold_inj (l : List Nat) : ∀ {c d : Nat}, c < 4294967296 → d < 4294967296 → (∀ b ∈ l, b < 256) → l.foldl crcTurn c = l.foldl crcTurn d → c = d := by
  induction l with
  | nil => intro c d _ _ _ h; exact h
  | cons b r ih =>
    intro c d hc hd hb h
    have hb0 := hb b (by simp)
    exact crcTurn_inj hc hd hb0 (ih (crcTurn_lt hc hb0) (crcTurn_lt hd hb0) (fun x hx => hb x (by simp [hx])) h)
/-- One other byte is another sum. -/
theorem crc_other (p r : List Nat) (x y : Nat) (hp : ∀ b ∈ p, b < 256) (hr : ∀ b ∈ r, b < 256) (hx : x < 256) (hy : y < 256) (hne : x ≠ y) : crcRun (p ++ x :: r) ≠ crcRun (p ++ y :: r) := by
  intro h
  unfold crcRun at h
  simp only [List.foldl_append, List.foldl_cons] at h
  have hc := fold_lt p (c := 4294967295) (by omega) hp
  exact hne (crcTurn_inj2 hc hx hy (fold_inj r (crcTurn_lt hc hx) (crcTurn_lt hc hy) hr h))
theorem crc_set {l : List Nat} {i y : Nat} (hl : ∀ b ∈ l, b < 256) (hi : i < l.length) (hy : y < 256) (hne : l.getD i 0 ≠ y) : crcRun l ≠ crcRun (l.set i y) := by
  have h1 : l = l.take i ++ l.getD i 0 :: l.drop (i + 1) := by
    have := List.take_append_drop i l
    rw [List.drop_eq_getElem_cons hi] at this
    simp only [List.getD, List.getElem?_eq_getElem hi, Option.getD_some]
    exact this.symm
  have h2 : l.set i y = l.take i ++ y :: l.drop (i + 1) := by
    rw [List.set_eq_take_append_cons_drop, if_pos hi]
  rw [h2]
  conv => lhs; rw [h1]
  refine crc_other _ _ _ _ (fun b hb => hl b (List.mem_of_mem_take hb)) (fun b hb => hl b (List.mem_of_mem_drop hb)) ?_ hy hne
  have : l.getD i 0 = l[i] := by simp [List.getD, hi]
  rw [this]
  exact hl _ (List.getElem_mem hi)
theorem crc_end_inj {a b : Nat} (h : a ^^^ 4294967295 = b ^^^ 4294967295) : a = b := xor_cancel h
end Go.Proofs.YtklmbiekpilkhaaGreatDoor.crcPlain
