/- The cyclic sum of bytes as a plain function of numbers, and that its two ways agree. -/
import Derived.Laws.BitsAllLaws
namespace Go.Proofs.Ytnpohlimedhopaa.sumPlain

/-- One bit's crcStep. -/
def crcStep (c : Nat) : Nat := if c % 2 = 1 then (c / 2) ^^^ 3988292384 else c / 2
/-- k crcSteps. -/
def crcSteps (c : Nat) : Nat → Nat
  | 0 => c
  | k + 1 => crcStep (crcSteps c k)
/-- A byte's crcStep. -/
def crcTurn (c b : Nat) : Nat := crcSteps (c ^^^ b) 8
/-- All bytes. -/
def crcRun (l : List Nat) : Nat := l.foldl crcTurn 4294967295
/-- The other way: one bit of a byte at a time. -/
def bitStep (b c k : Nat) : Nat := if (c % 2) ^^^ (b / 2 ^ k % 2) = 1 then (c / 2) ^^^ 3988292384 else c / 2
def bitSteps (b c : Nat) : Nat → Nat
  | 0 => c
  | k + 1 => bitStep b (bitSteps b c k) k
def crcSlow (l : List Nat) : Nat := l.foldl (fun c b => bitSteps b c 8) 4294967295

theorem xor_lt32 {a b : Nat} (ha : a < 4294967296) (hb : b < 4294967296) : a ^^^ b < 4294967296 := Nat.xor_lt_two_pow (n := 32) ha hb
theorem crcStep_lt {c : Nat} (h : c < 4294967296) : crcStep c < 4294967296 := by
  unfold crcStep
  split
  · exact xor_lt32 (by omega) (by omega)
  · omega
theorem crcSteps_lt {c : Nat} (h : c < 4294967296) : ∀ k, crcSteps c k < 4294967296
  | 0 => h
  | k + 1 => crcStep_lt (crcSteps_lt h k)
theorem turn_lt {c b : Nat} (h : c < 4294967296) (hb : b < 256) : crcTurn c b < 4294967296 := crcSteps_lt (xor_lt32 h (by omega)) 8
theorem bitStep_lt {b c k : Nat} (h : c < 4294967296) : bitStep b c k < 4294967296 := by
  unfold bitStep
  split
  · exact xor_lt32 (by omega) (by omega)
  · omega
theorem bitSteps_lt {b c : Nat} (h : c < 4294967296) : ∀ k, bitSteps b c k < 4294967296
  | 0 => h
  | k + 1 => bitStep_lt (bitSteps_lt h k)
theorem fold_lt (l : List Nat) : ∀ {c : Nat}, c < 4294967296 → (∀ b ∈ l, b < 256) → l.foldl crcTurn c < 4294967296 := by
  induction l with
  | nil => intro c h _; exact h
  | cons b r ih => intro c h hb; exact ih (turn_lt h (hb b (by simp))) (fun x hx => hb x (by simp [hx]))
theorem crcRun_lt {l : List Nat} (hb : ∀ b ∈ l, b < 256) : crcRun l < 4294967296 := fold_lt l (by omega) hb

theorem step_bit (b c k : Nat) : crcStep (c ^^^ (b / 2 ^ k)) = bitStep b c k ^^^ (b / 2 ^ (k + 1)) := by
  have h1 : (c ^^^ (b / 2 ^ k)) % 2 = (c % 2) ^^^ (b / 2 ^ k % 2) := by
    have := Nat.xor_mod_two_pow (a := c) (b := b / 2 ^ k) (n := 1)
    simpa using this
  have h2 : (c ^^^ (b / 2 ^ k)) / 2 = (c / 2) ^^^ (b / 2 ^ (k + 1)) := by
    rw [Nat.xor_div_two, Nat.div_div_eq_div_mul, Nat.pow_succ]
  unfold crcStep bitStep
  rw [h1, h2]
  split
  · rw [Nat.xor_assoc, Nat.xor_assoc, Nat.xor_comm (b / 2 ^ (k + 1))]
  · rfl
theorem steps_bits (b c : Nat) : ∀ k, crcSteps (c ^^^ b) k = bitSteps b c k ^^^ (b / 2 ^ k)
  | 0 => by simp [crcSteps, bitSteps]
  | k + 1 => by rw [crcSteps, steps_bits b c k, step_bit]; rfl
theorem turn_bits {b : Nat} (hb : b < 256) (c : Nat) : crcTurn c b = bitSteps b c 8 := by
  unfold crcTurn
  rw [steps_bits, Nat.div_eq_of_lt (by omega), Nat.xor_zero]
theorem fold_slow (l : List Nat) : ∀ c, (∀ b ∈ l, b < 256) → l.foldl crcTurn c = l.foldl (fun c b => bitSteps b c 8) c := by
  induction l with
  | nil => intro c _; rfl
  | cons b r ih => intro c hb; simp only [List.foldl_cons]; rw [turn_bits (hb b (by simp)), ih _ (fun x hx => hb x (by simp [hx]))]
theorem crcRun_slow {l : List Nat} (hb : ∀ b ∈ l, b < 256) : crcRun l = crcSlow l := fold_slow l _ hb
theorem crcSlow_lt {l : List Nat} (hb : ∀ b ∈ l, b < 256) : crcSlow l < 4294967296 := by rw [← crcRun_slow hb]; exact crcRun_lt hb
theorem crcRun_snoc (l : List Nat) (b : Nat) : crcRun (l ++ [b]) = crcTurn (crcRun l) b := by simp [crcRun]
theorem crcSlow_snoc (l : List Nat) (b : Nat) : crcSlow (l ++ [b]) = bitSteps b (crcSlow l) 8 := by simp [crcSlow]
end Go.Proofs.Ytnpohlimedhopaa.sumPlain
