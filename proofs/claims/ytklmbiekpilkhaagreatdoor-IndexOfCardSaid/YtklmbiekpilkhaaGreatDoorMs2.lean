/- The cyclic sum of bytes as a plain function of numbers, and that its two ways agree. -/
import Derived.Laws.BitsAllLaws
import Derived.Test.YtklmbiekpilkhaaGreatDoorMs1
namespace Go.Proofs.YtklmbiekpilkhaaGreatDoor.crcPlain

/-- One bit's crcStep. -/
def crcStep (c : Nat) : Nat := if c % 2 = 1 then (c / 2) ^^^ 3988292384 else c / 2
/-- k crcSteps. -/
def crcSteps (c : Nat) : Nat → Nat
  | 0 => c
  | k + 1 => crcStep (crcSteps c k)
/-- A byte's crcStep. -/
def crcTurn (c b : Nat) : Nat := crcSteps (c ^^^ b) 8
/-- All bytes. -/
def crcRun (l : List Nat) : Nat := l.foldl crcTurn 4294967295
/-- The other way: one bit of a byte at a time. -/
def bitStep (b c k : Nat) : Nat := if (c % 2) ^^^ (b / 2 ^ k % 2) = 1 then (c / 2) ^^^ 3988292384 else c / 2
def bitSteps (b c : Nat) : Nat → Nat
  | 0 => c
  | k + 1 => bitStep b (bitSteps b c k) k
def crcSlow (l : List Nat) : Nat := l.foldl (fun c b => bitSteps b c 8) 4294967295

theorem xor_lt32 {a b : Nat} (ha : a < 4294967296) (hb : b < 4294967296) : a ^^^ b < 4294967296 := Nat.xor_lt_two_pow (n := 32) ha hb
theorem crcStep_lt {c : Nat} (h : c < 4294967296) : crcStep c < 4294967296 := by
  unfold crcStep
  split
  · exact xor_lt32 (by omega) (by omega)
  · omega
theorem crcSteps_lt {c : Nat} (h : c < 4294967296) : ∀ k, crcSteps c k < 4294967296
  | 0 => h
  | k + 1 => crcStep_lt (crcSteps_lt h k)
theorem crcTurn_lt {c b : Nat} (h : c < 4294967296) (hb : b < 256) : crcTurn c b < 4294967296 := crcSteps_lt (xor_lt32 h (by omega)) 8
theorem bitStep_lt {b c k : Nat} (h : c < 4294967296) : bitStep b c k < 4294967296 := by
  unfold bitStep
  split
  · exact xor_lt32 (by omega) (by omega)
  · omega
theorem bitSteps_lt {b c : Nat} (h : c < 4294967296) : ∀ k, bitSteps b c k < 4294967296
  | 0 => h
  | k + 1 => bitStep_lt (bitSteps_lt h k)
theorem fold_lt (l : List Nat) : ∀ {c : Nat}, c < 4294967296 → (∀ b ∈ l, b < 256) → l.foldl crcTurn c < 4294967296 := by
  induction l with
  | nil => intro c h _; exact h
  | cons b r ih => intro c h hb; exact ih (crcTurn_lt h (hb b (by simp))) (fun x hx => hb x (by simp [hx]))
theorem crcRun_lt {l : List Nat} (hb : ∀ b ∈ l, b < 256) : crcRun l < 4294967296 := fold_lt l (by omega) hb

theorem step_bit (b c k : Nat) : crcStep (c ^^^ (b / 2 ^ k)) = bitStep b c k ^^^ (b / 2 ^ (k + 1)) := by
  have h1 : (c ^^^ (b / 2 ^ k)) % 2 = (c % 2) ^^^ (b / 2 ^ k % 2) := by
    have := Nat.xor_mod_two_pow (a := c) (b := b / 2 ^ k) (n := 1)
    simpa using this
  have h2 : (c ^^^ (b / 2 ^ k)) / 2 = (c / 2) ^^^ (b / 2 ^ (k + 1)) := by
    rw [Nat.xor_div_two, Nat.div_div_eq_div_mul, Nat.pow_succ]
  unfold crcStep bitStep
  rw [h1, h2]
  split
  · rw [Nat.xor_assoc, Nat.xor_assoc, Nat.xor_comm (b / 2 ^ (k + 1))]
  · rfl
theorem steps_bits (b c : Nat) : ∀ k, crcSteps (c ^^^ b) k = bitSteps b c k ^^^ (b / 2 ^ k)
  | 0 => by simp [crcSteps, bitSteps]
  | k + 1 => by rw [crcSteps, steps_bits b c k, step_bit]; rfl
theorem turn_bits {b : Nat} (hb : b < 256) (c : Nat) : crcTurn c b = bitSteps b c 8 := by
  unfold crcTurn
  rw [steps_bits, Nat.div_eq_of_lt (by omega), Nat.xor_zero]
theorem fold_slow (l : List Nat) : ∀ c, (∀ b ∈ l, b < 256) → l.foldl crcTurn c = l.foldl (fun c b => bitSteps b c 8) c := by
  induction l with
  | nil => intro c _; rfl
  | cons b r ih => intro c hb; simp only [List.foldl_cons]; rw [turn_bits (hb b (by simp)), ih _ (fun x hx => hb x (by simp [hx]))]
theorem crcRun_slow {l : List Nat} (hb : ∀ b ∈ l, b < 256) : crcRun l = crcSlow l := fold_slow l _ hb
theorem crcSlow_lt {l : List Nat} (hb : ∀ b ∈ l, b < 256) : crcSlow l < 4294967296 := by rw [← crcRun_slow hb]; exact crcRun_lt hb
theorem crcRun_snoc (l : List Nat) (b : Nat) : crcRun (l ++ [b]) = crcTurn (crcRun l) b := by simp [crcRun]
theorem crcSlow_snoc (l : List Nat) (b : Nat) : crcSlow (l ++ [b]) = bitSteps b (crcSlow l) 8 := by simp [crcSlow]

theorem xor_cancel {a b c : Nat} (h : a ^^^ c = b ^^^ c) : a = b := by
  have : (a ^^^ c) ^^^ c = (b ^^^ c) ^^^ c := by rw [h]
  simpa [Nat.xor_assoc] using this
theorem crcStep_inj {c d : Nat} (hc : c < 4294967296) (hd : d < 4294967296) (h : crcStep c = crcStep d) : c = d := by
  have key : ∀ a b : Nat, a < 2147483648 → b < 2147483648 → a ^^^ 3988292384 ≠ b := by
    intro a b ha hb e
    have h1 : a ^^^ b < 2147483648 := Nat.xor_lt_two_pow (n := 31) ha hb
    have h2 : a ^^^ b = 3988292384 := by
      rw [← e, ← Nat.xor_assoc, Nat.xor_self, Nat.zero_xor]
    omega
  unfold crcStep at h
  by_cases h1 : c % 2 = 1 <;> by_cases h2 : d % 2 = 1
  · rw [if_pos h1, if_pos h2] at h
    have := xor_cancel h
    omega
  · rw [if_pos h1, if_neg h2] at h
    exact absurd h (key _ _ (by omega) (by omega))
  · rw [if_neg h1, if_pos h2] at h
    exact absurd h.symm (key _ _ (by omega) (by omega))
  · rw [if_neg h1, if_neg h2] at h
    omega
theorem crcSteps_inj {c d : Nat} (hc : c < 4294967296) (hd : d < 4294967296) : ∀ k, crcSteps c k = crcSteps d k → c = d
  | 0, h => h
  | k + 1, h => crcSteps_inj hc hd k (crcStep_inj (crcSteps_lt hc k) (crcSteps_lt hd k) h)
theorem crcTurn_inj {c d b : Nat} (hc : c < 4294967296) (hd : d < 4294967296) (hb : b < 256) (h : crcTurn c b = crcTurn d b) : c = d :=
  xor_cancel (crcSteps_inj (xor_lt32 hc (by omega)) (xor_lt32 hd (by omega)) 8 h)
theorem crcTurn_inj2 {c x y : Nat} (hc : c < 4294967296) (hx : x < 256) (hy : y < 256) (h : crcTurn c x = crcTurn c y) : x = y := by
  have := crcSteps_inj (xor_lt32 hc (by omega)) (xor_lt32 hc (by omega)) 8 h
  rw [Nat.xor_comm c x, Nat.xor_comm c y] at this
  exact xor_cancel this
theorem fold_inj (l : List Nat) : ∀ {c d : Nat}, c < 4294967296 → d < 4294967296 → (∀ b ∈ l, b < 256) → l.foldl crcTurn c = l.foldl crcTurn d → c = d := by
  induction l with
  | nil => intro c d _ _ _ h; exact h
  | cons b r ih =>
    intro c d hc hd hb h
    have hb0 := hb b (by simp)
    exact crcTurn_inj hc hd hb0 (ih (crcTurn_lt hc hb0) (crcTurn_lt hd hb0) (fun x hx => hb x (by simp [hx])) h)
/-- One other byte is another sum. -/
theorem crc_other (p r : List Nat) (x y : Nat) (hp : ∀ b ∈ p, b < 256) (hr : ∀ b ∈ r, b < 256) (hx : x < 256) (hy : y < 256) (hne : x ≠ y) : crcRun (p ++ x :: r) ≠ crcRun (p ++ y :: r) := by
  intro h
  unfold crcRun at h
  simp only [List.foldl_append, List.foldl_cons] at h
  have hc := fold_lt p (c := 4294967295) (by omega) hp
  exact hne (crcTurn_inj2 hc hx hy (fold_inj r (crcTurn_lt hc hx) (crcTurn_lt hc hy) hr h))
theorem crc_set {l : List Nat} {i y : Nat} (hl : ∀ b ∈ l, b < 256) (hi : i < l.length) (hy : y < 256) (hne : l.getD i 0 ≠ y) : crcRun l ≠ crcRun (l.set i y) := by
  have h1 : l = l.take i ++ l.getD i 0 :: l.drop (i + 1) := by
    have := List.take_append_drop i l
    rw [List.drop_eq_getElem_cons hi] at this
    simp only [List.getD, List.getElem?_eq_getElem hi, Option.getD_some]
    exact this.symm
  have h2 : l.set i y = l.take i ++ y :: l.drop (i + 1) := by
    rw [List.set_eq_take_append_cons_drop, if_pos hi]
  rw [h2]
  conv => lhs; rw [h1]
  refine crc_other _ _ _ _ (fun b hb => hl b (List.mem_of_mem_take hb)) (fun b hb => hl b (List.mem_of_mem_drop hb)) ?_ hy hne
  have : l.getD i 0 = l[i] := by simp [List.getD, hi]
  rw [this]
  exact hl _ (List.getElem_mem hi)
theorem crc_end_inj {a b : Nat} (h : a ^^^ 4294967295 = b ^^^ 4294967295) : a = b := xor_cancel h
end Go.Proofs.YtklmbiekpilkhaaGreatDoor.crcPlain
namespace Go.Proofs.YtklmbiekpilkhaaGreatDoor.sumDoor
open Go.ChangeShapes Go.WideShapes Go.ChangeAt Go.RowKit Go.Proofs.YtklmbiekpilkhaaGreatDoor.crcPlain
set_option linter.unusedVariables false
set_option maxRecDepth 100000

theorem Bytes.at2 {w : World} {A : Option Addr} {n : Nat} {l : List Nat} (h : Bytes w A n l) {k : Nat} (hk : k < n) :
    ∃ b o x, A = some ⟨b, o, none⟩ ∧ x < 256 ∧ l.take (k + 1) = l.take k ++ [x] ∧ w.cell? ⟨b, o + k, none⟩ = some (.int .u8 (x : Nat)) := by
  obtain ⟨hl, hb, hc⟩ := h
  obtain ⟨b, o, rfl, hd⟩ := hc (by omega)
  have hk' : k < l.length := by omega
  refine ⟨b, o, l[k], rfl, hb _ (List.getElem_mem hk'), ?_, ?_⟩
  · rw [List.take_succ_eq_append_getElem hk']
  · rw [hd k hk]; simp [List.getD, hk']

theorem take_bytes {l : List Nat} (h : ∀ b ∈ l, b < 256) (k : Nat) : ∀ b ∈ l.take k, b < 256 := fun b hb => h b (List.mem_of_mem_take hb)

theorem xor_i (a b : Nat) (ha : a < 4294967296) (hb : b < 4294967296) : bits .xor .u32 (a : Int) (b : Int) = ((a ^^^ b : Nat) : Int) := u32_xor_nat a b ha hb
theorem and1_i (a : Nat) (ha : a < 4294967296) : bits .and .u32 (a : Int) 1 = ((a % 2 : Nat) : Int) := by
  have := u32_and_nat a 1 ha (by omega)
  rw [nat_mask1] at this
  exact this

theorem poly_i (a : Nat) (ha : a < 4294967296) : bits .xor .u32 ((a : Int) / 2) 3988292384 = ((a / 2 ^^^ 3988292384 : Nat) : Int) := by
  have := u32_xor_nat (a / 2) 3988292384 (by omega) (by omega)
  exact this

set_option maxHeartbeats 1000000 in
theorem crc_any (A : Option Addr) (n c : Nat) (l : List Nat) (w : World) (h : Bytes w A n l) (hn : n ≤ maxLen) :
    Calls Tryz.prog 66 #[.slice A n c] w fun e w' => e = .returned (.int .u32 ((crcRun l ^^^ 4294967295 : Nat) : Int)) ∧ w = w' := by
  unfold maxLen at hn
  have HB := Lib.hid h
  have hlen := Lib.hid h.1
  have hb256 := Lib.hid h.2.1
  clear h
  go_enter Tryz.func66, Tryz.ntmps66
  go_wp2
  go_loop [3, 5, 6, 9] (fun s _ _ i => ∃ k : Nat, k ≤ n ∧ i = .int .i64 k ∧ s = .int .u32 (crcRun (l.take k) : Nat)) (fun _ _ _ i => n - (intOf i).toNat)
  case atStart => exact ⟨0, Nat.zero_le _, rfl, rfl⟩
  case round =>
    obtain ⟨k, hk, rfl, rfl⟩ := hrel
    by_cases hlt : k < n
    · obtain ⟨b, o, x, rfl, hx, htk, hcell⟩ := HB.out.at2 hlt
      have HT := Lib.hid htk
      clear htk
      have hC : crcRun (l.take k) < 4294967296 := crcRun_lt (take_bytes hb256.out k)
      have HX := Lib.hid (xor_i (crcRun (l.take k)) x hC (by omega))
      have HN : Hid (crcRun (l.take (k + 1)) = crcTurn (crcRun (l.take k)) x) := by rw [HT.out, crcRun_snoc]; exact rfl
      generalize crcRun (l.take k) = C at *
      have hX : C ^^^ x < 4294967296 := xor_lt32 hC (by omega)
      go_wp2
      rw [HX.out]
      go_loop [3, 6, 17] (fun s _ i => ∃ j : Nat, j ≤ 8 ∧ i = .int .i64 j ∧ s = .int .u32 (crcSteps (C ^^^ x) j : Nat)) (fun _ _ i => 8 - (intOf i).toNat)
      case atStart => exact ⟨0, Nat.zero_le _, rfl, rfl⟩
      case round =>
        obtain ⟨j, hj, rfl, rfl⟩ := hrel
        have hS : crcSteps (C ^^^ x) j < 4294967296 := crcSteps_lt hX j
        by_cases hj8 : j < 8
        · have HS : Hid (crcSteps (C ^^^ x) (j + 1) = crcStep (crcSteps (C ^^^ x) j)) := rfl
          generalize crcSteps (C ^^^ x) j = S at *
          have HA := Lib.hid (and1_i S hS)
          have HP := Lib.hid (poly_i S hS)
          by_cases hp : S % 2 = 1
          · have hA : bits .and .u32 (S : Int) 1 = 1 := by rw [HA.out, hp]; rfl
            go_wp2
            go_round
            case rel => exact ⟨j + 1, by omega, by go_num, by rw [HS.out, crcStep, if_pos hp]; exact congrArg _ HP.out⟩
            case measure => simp [intOf]; omega
          · have hA : bits .and .u32 (S : Int) 1 = 0 := by rw [HA.out, show S % 2 = 0 by omega]; rfl
            go_wp2
            go_round
            case rel => exact ⟨j + 1, by omega, by go_num, by rw [HS.out, crcStep, if_neg hp]; rfl⟩
            case measure => simp [intOf]; omega
        · obtain rfl : j = 8 := by omega
          go_wp2
          go_round
          case rel => exact ⟨k + 1, by omega, by go_num, by rw [HN.out, crcTurn]⟩
          case measure => simp [intOf]; omega
    · obtain rfl : k = n := by omega
      have hC : crcRun (l.take k) < 4294967296 := crcRun_lt (take_bytes hb256.out k)
      have HX := Lib.hid (xor_i (crcRun (l.take k)) 4294967295 hC (by omega))
      go_wp2
      go_ret
      refine ⟨ret_int ?_, rfl⟩
      have e : l.take k = l := List.take_of_length_le (by have := hlen.out; omega)
      have h := HX.out
      rw [e] at h ⊢
      exact h


theorem nine : (crcRun [49, 50, 51, 52, 53, 54, 55, 56, 57] ^^^ 4294967295 : Nat) = 3421780262 := by decide +kernel
theorem Bytes.lit (w : World) (l : List Nat) (hl : ∀ b ∈ l, b < 256) (e : TypeId) (m : Nat × Nat) :
    Bytes (w.alloc (.cells (l.map fun b => Value.int .u8 (b : Nat)).toArray e m)) (some ⟨w.heap.size, 0, none⟩) l.length l := by
  refine ⟨rfl, hl, fun _ => ⟨_, _, rfl, fun i hi => ?_⟩⟩
  rw [World.cell?_alloc_mark]
  simp [List.getD, hi]

theorem poly64_i (a : Nat) (ha : a < 4294967296) : bits .xor .u64 ((a : Int) / 2) 3988292384 = ((a / 2 ^^^ 3988292384 : Nat) : Int) := by
  have := u64_xor_nat (a / 2) 3988292384 (by omega) (by omega)
  exact this
theorem end_i (a : Nat) (ha : a < 4294967296) : bits .xor .u64 (a : Int) 4294967295 % 4294967296 = ((a ^^^ 4294967295 : Nat) : Int) := by
  have h := u64_xor_nat a 4294967295 (by omega) (by omega)
  have h2 : a ^^^ 4294967295 < 4294967296 := xor_lt32 ha (by omega)
  have h3 : bits .xor .u64 (a : Int) 4294967295 = ((a ^^^ 4294967295 : Nat) : Int) := h
  rw [h3]
  omega
theorem bit_i (S x j : Nat) (hS : S < 4294967296) (hx : x < 256) : bits .xor .u64 (bits .and .u64 (S : Int) 1) (IntKind.u64.wrap (bits .and .u8 ((x : Int) / 2 ^ j) 1)) = (((S % 2) ^^^ (x / 2 ^ j % 2) : Nat) : Int) := by
  have h1 : bits .and .u64 (S : Int) 1 = ((S % 2 : Nat) : Int) := by
    have := u64_and_nat S 1 (by omega) (by omega)
    rw [nat_mask1] at this
    exact this
  have hd : x / 2 ^ j < 256 := Nat.lt_of_le_of_lt (Nat.div_le_self _ _) hx
  have h2 : bits .and .u8 ((x : Int) / 2 ^ j) 1 = ((x / 2 ^ j % 2 : Nat) : Int) := by
    have := u8_and_nat (x / 2 ^ j) 1 hd (by omega)
    rw [nat_mask1] at this
    rw [← this]
    simp
  have h3 : IntKind.u64.wrap ((x / 2 ^ j % 2 : Nat) : Int) = ((x / 2 ^ j % 2 : Nat) : Int) := by
    have : x / 2 ^ j % 2 < 2 := Nat.mod_lt _ (by omega)
    simp only [IntKind.wrap, IntKind.bits, IntKind.signed]
    simp
    omega
  rw [h1, h2, h3]
  have h4 : x / 2 ^ j % 2 < 2 := Nat.mod_lt _ (by omega)
  exact u64_xor_nat _ _ (by omega) (by omega)

set_option maxHeartbeats 1000000 in
theorem crcRef_any (A : Option Addr) (n c : Nat) (l : List Nat) (w : World) (h : Bytes w A n l) (hn : n ≤ maxLen) :
    Calls Tryz.prog 93 #[.slice A n c] w fun e w' => e = .returned (.int .u32 ((crcSlow l ^^^ 4294967295 : Nat) : Int)) ∧ w = w' := by
  unfold maxLen at hn
  have HB := Lib.hid h
  have hlen := Lib.hid h.1
  have hb256 := Lib.hid h.2.1
  clear h
  go_enter Tryz.func93, Tryz.ntmps93
  go_wp2
  go_loop [3, 4, 5, 6, 9] (fun s _ _ _ i => ∃ k : Nat, k ≤ n ∧ i = .int .i64 k ∧ s = .int .u64 (crcSlow (l.take k) : Nat)) (fun _ _ _ _ i => n - (intOf i).toNat)
  case atStart => exact ⟨0, Nat.zero_le _, rfl, rfl⟩
  case round =>
    obtain ⟨k, hk, rfl, rfl⟩ := hrel
    by_cases hlt : k < n
    · obtain ⟨b, o, x, rfl, hx, htk, hcell⟩ := HB.out.at2 hlt
      have HT := Lib.hid htk
      clear htk
      have hC : crcSlow (l.take k) < 4294967296 := crcSlow_lt (take_bytes hb256.out k)
      have HN : Hid (crcSlow (l.take (k + 1)) = bitSteps x (crcSlow (l.take k)) 8) := by rw [HT.out, crcSlow_snoc]; exact rfl
      generalize crcSlow (l.take k) = C at *
      go_wp2
      go_loop [3, 5, 6, 12] (fun s _ _ i => ∃ j : Nat, j ≤ 8 ∧ i = .int .i64 j ∧ s = .int .u64 (bitSteps x C j : Nat)) (fun _ _ _ i => 8 - (intOf i).toNat)
      case atStart => exact ⟨0, Nat.zero_le _, rfl, rfl⟩
      case round =>
        obtain ⟨j, hj, rfl, rfl⟩ := hrel
        have hS : bitSteps x C j < 4294967296 := bitSteps_lt hC j
        by_cases hj8 : j < 8
        · have HS : Hid (bitSteps x C (j + 1) = bitStep x (bitSteps x C j) j) := rfl
          generalize bitSteps x C j = S at *
          have HI := Lib.hid (bit_i S x j hS hx)
          have HP := Lib.hid (poly64_i S hS)
          by_cases hp : (S % 2) ^^^ (x / 2 ^ j % 2) = 1
          · have hA : (bits .xor .u64 (bits .and .u64 (S : Int) 1) (IntKind.u64.wrap (bits .and .u8 ((x : Int) / 2 ^ j) 1)) == 1) = true := by rw [HI.out, hp]; rfl
            go_wp2
            go_round
            case rel => exact ⟨j + 1, by omega, by go_num, by rw [HS.out, bitStep, if_pos hp]; exact congrArg _ HP.out⟩
            case measure => simp [intOf]; omega
          · have hA : (bits .xor .u64 (bits .and .u64 (S : Int) 1) (IntKind.u64.wrap (bits .and .u8 ((x : Int) / 2 ^ j) 1)) == 1) = false := by rw [HI.out]; exact beq_eq_false_iff_ne.2 (by omega)
            go_wp2
            go_round
            case rel => exact ⟨j + 1, by omega, by go_num, by rw [HS.out, bitStep, if_neg hp]; rfl⟩
            case measure => simp [intOf]; omega
        · obtain rfl : j = 8 := by omega
          go_wp2
          go_round
          case rel => exact ⟨k + 1, by omega, by go_num, by rw [HN.out]⟩
          case measure => simp [intOf]; omega
    · obtain rfl : k = n := by omega
      have hC : crcSlow (l.take k) < 4294967296 := crcSlow_lt (take_bytes hb256.out k)
      have HX := Lib.hid (end_i (crcSlow (l.take k)) hC)
      go_wp2
      go_ret
      refine ⟨ret_int ?_, rfl⟩
      have e : l.take k = l := List.take_of_length_le (by have := hlen.out; omega)
      have h := HX.out
      rw [e] at h ⊢
      exact h
end Go.Proofs.YtklmbiekpilkhaaGreatDoor.sumDoor
namespace Go.Proofs.YtklmbiekpilkhaaGreatDoor.sumDoor
open Go.ChangeShapes Go.WideShapes Go.ChangeAt Go.RowKit Go.Proofs.YtklmbiekpilkhaaGreatDoor.sumPlain
set_option linter.unusedVariables false
set_option maxRecDepth 100000

/-- Bytes as a number, the greatest first. -/
def numOf (l : List Nat) : Nat := l.foldl (fun a b => a * 256 + b) 0
theorem num_snoc (l : List Nat) (b : Nat) : numOf (l ++ [b]) = numOf l * 256 + b := by simp [numOf]
theorem num_lt : ∀ (l : List Nat) (k : Nat), (∀ b ∈ l, b < 256) → numOf (l.take k) < 256 ^ k := by
  intro l k hb
  induction k with
  | zero => simp [numOf]
  | succ k ih =>
    by_cases hk : k < l.length
    · rw [List.take_succ_eq_append_getElem hk, num_snoc, Nat.pow_succ]
      have := hb _ (List.getElem_mem hk)
      omega
    · have e : l.take (k + 1) = l.take k := by rw [List.take_of_length_le (by omega), List.take_of_length_le (by omega)]
      rw [e, Nat.pow_succ]
      omega

set_option maxHeartbeats 1000000 in
theorem number_any (A : Option Addr) (n c : Nat) (l : List Nat) (w : World) (h : Bytes w A n l) (hn : n ≤ 4) :
    Calls Tryz.prog 92 #[.slice A n c] w fun e w' => e = .returned (.int .u64 (numOf l : Nat)) ∧ w = w' := by
  have HB := Lib.hid h
  have hlen := Lib.hid h.1
  have hb256 := Lib.hid h.2.1
  clear h
  go_enter Tryz.func92, Tryz.ntmps92
  go_wp2
  go_loop [3, 4, 7] (fun s _ i => ∃ k : Nat, k ≤ n ∧ i = .int .i64 k ∧ s = .int .u64 (numOf (l.take k) : Nat)) (fun _ _ i => n - (intOf i).toNat)
  case atStart => exact ⟨0, Nat.zero_le _, rfl, rfl⟩
  case round =>
    obtain ⟨k, hk, rfl, rfl⟩ := hrel
    by_cases hlt : k < n
    · obtain ⟨b, o, x, rfl, hx, htk, hcell⟩ := HB.out.at2 hlt
      have hC : numOf (l.take k) < 16777216 := by
        have := num_lt l k hb256.out
        have h3 : 256 ^ k ≤ 256 ^ 3 := Nat.pow_le_pow_right (by omega) (by omega)
        have h4 : (256 : Nat) ^ 3 = 16777216 := by decide
        omega
      have HN : Hid (numOf (l.take (k + 1)) = numOf (l.take k) * 256 + x) := by rw [htk, num_snoc]; exact rfl
      clear htk
      generalize numOf (l.take k) = C at *
      go_wp2
      go_round
      case rel => exact ⟨k + 1, by omega, by go_num, by rw [HN.out]; simp⟩
      case measure => simp [intOf]; omega
    · obtain rfl : k = n := by omega
      go_wp2
      go_ret
      refine ⟨ret_int ?_, rfl⟩
      rw [List.take_of_length_le (by have := hlen.out; omega)]

/-- A number's bytes. -/
def byteAt (v n j : Nat) : Nat := v / 256 ^ (n - 1 - j) % 256
def bytesTo (v n k j : Nat) : Nat := if n ≤ j + k ∧ j < n then byteAt v n j else 0
def bytesOf (v n : Nat) : List Nat := (List.range n).map (byteAt v n)

theorem bytesTo_zero (v n i : Nat) (h : i < n) : bytesTo v n 0 i = 0 := by
  unfold bytesTo
  rw [if_neg (by omega)]
theorem bytesTo_all (v n i : Nat) (h : i < n) : bytesTo v n n i = byteAt v n i := by
  unfold bytesTo
  rw [if_pos (by omega)]
theorem bytes_step {wr : World} {g t v n k m : Nat} {x : Int} (hm : m + k + 1 = n) (hk : k < n) (hx : x = (byteAt v n m : Nat)) (h : wr.rowIs g t n (fun j => .int .u8 (bytesTo v n k j : Nat))) :
    (wr.setCell ⟨g, m, none⟩ (.int .u8 x)).rowIs g t n (fun j => .int .u8 (bytesTo v n (k + 1) j : Nat)) := by
  refine (h.set _ _).congr fun j hj => ?_
  by_cases e : j = m
  · subst e
    simp only [if_true, hx, bytesTo]
    rw [if_pos (by omega)]
  · simp only [if_neg e, bytesTo]
    have : (n ≤ j + (k + 1) ∧ j < n) ↔ (n ≤ j + k ∧ j < n) := by omega
    simp only [this]
theorem make8 (w : World) : (Instr.makeSlice 22 (.int .i64 8) (.int .i64 8)).run Tryz.prog w = .ok (.slice (some ⟨w.heap.size, 0, none⟩) 8 8) (w.alloc (.cells (Array.replicate 8 (.int .u8 0)) 5)) := by kernel_rfl
set_option maxHeartbeats 1000000 in
theorem bytes_any8 (w : World) (v : Nat) (hv : v < 18446744073709551616) :
    Calls Tryz.prog 94 #[.int .u64 v, .int .i64 8] w fun e w' => e = .returned (.slice (some ⟨w.heap.size, 0, none⟩) 8 8) ∧ w'.rowIs w.heap.size 5 8 (fun j => .int .u8 (byteAt v 8 j : Nat)) ∧ Below w.heap.size w w' := by
  have hmk := make8
  go_enter Tryz.func94, Tryz.ntmps94
  go_wp2
  go_loopw [0, 6] (fun x i wr => ∃ k : Nat, k ≤ 8 ∧ i = .int .i64 (7 - (k : Int)) ∧ x = .int .u64 (v / 256 ^ k : Nat) ∧ wr.rowIs w.heap.size 5 8 (fun j => .int .u8 (bytesTo v 8 k j : Nat)) ∧ Below w.heap.size w wr) (fun _ i _ => (intOf i + 1).toNat)
  case atStart => exact ⟨0, by omega, rfl, by simp, (row_rep w rfl (.int .u8 0) 5 8).congr (fun i hi => by rw [bytesTo_zero v 8 i hi]; rfl), (Below.refl _ _).alloc (Nat.le_refl _) _⟩
  case round =>
    obtain ⟨k, hk, rfl, rfl, hr, hbel⟩ := hrel
    by_cases hlt : k < 8
    · have hc := hr.cell (i := 7 - k) (by omega)
      have hf := hr.frozen (7 - k)
      have HR := Lib.hid hr
      have HBel := Lib.hid hbel
      have HV : Hid (v / 256 ^ (k + 1) = v / 256 ^ k / 256) := by rw [Nat.pow_succ, ← Nat.div_div_eq_div_mul]; exact rfl
      have hX : v / 256 ^ k < 18446744073709551616 := Nat.lt_of_le_of_lt (Nat.div_le_self _ _) hv
      have HX : Hid (byteAt v 8 (7 - k) = v / 256 ^ k % 256) := by unfold byteAt; rw [show 8 - 1 - (7 - k) = k by omega]; exact rfl
      clear hr hbel
      generalize v / 256 ^ k = X at *
      go_wp2
      go_roundw
      case rel => exact ⟨k + 1, by omega, by go_num, by rw [HV.out]; simp, bytes_step (by omega) (by omega) (by rw [HX.out]; simp) HR.out, HBel.out.setCell (Nat.le_refl _) _⟩
      case measure => simp [intOf]; omega
    · obtain rfl : k = 8 := by omega
      have HR := Lib.hid (hr.congr (g := fun j => .int .u8 (byteAt v 8 j : Nat)) (fun i hi => by rw [bytesTo_all v 8 i hi]))
      have HBel := Lib.hid hbel
      clear hr hbel
      go_wp2
      go_ret
      exact ⟨rfl, HR.out, HBel.out⟩
theorem make4 (w : World) : (Instr.makeSlice 22 (.int .i64 4) (.int .i64 4)).run Tryz.prog w = .ok (.slice (some ⟨w.heap.size, 0, none⟩) 4 4) (w.alloc (.cells (Array.replicate 4 (.int .u8 0)) 5)) := by kernel_rfl
set_option maxHeartbeats 1000000 in
theorem bytes_any4 (w : World) (v : Nat) (hv : v < 18446744073709551616) :
    Calls Tryz.prog 94 #[.int .u64 v, .int .i64 4] w fun e w' => e = .returned (.slice (some ⟨w.heap.size, 0, none⟩) 4 4) ∧ w'.rowIs w.heap.size 5 4 (fun j => .int .u8 (byteAt v 4 j : Nat)) ∧ Below w.heap.size w w' := by
  have hmk := make4
  go_enter Tryz.func94, Tryz.ntmps94
  go_wp2
  go_loopw [0, 6] (fun x i wr => ∃ k : Nat, k ≤ 4 ∧ i = .int .i64 (3 - (k : Int)) ∧ x = .int .u64 (v / 256 ^ k : Nat) ∧ wr.rowIs w.heap.size 5 4 (fun j => .int .u8 (bytesTo v 4 k j : Nat)) ∧ Below w.heap.size w wr) (fun _ i _ => (intOf i + 1).toNat)
  case atStart => exact ⟨0, by omega, rfl, by simp, (row_rep w rfl (.int .u8 0) 5 4).congr (fun i hi => by rw [bytesTo_zero v 4 i hi]; rfl), (Below.refl _ _).alloc (Nat.le_refl _) _⟩
  case round =>
    obtain ⟨k, hk, rfl, rfl, hr, hbel⟩ := hrel
    by_cases hlt : k < 4
    · have hc := hr.cell (i := 3 - k) (by omega)
      have hf := hr.frozen (3 - k)
      have HR := Lib.hid hr
      have HBel := Lib.hid hbel
      have HV : Hid (v / 256 ^ (k + 1) = v / 256 ^ k / 256) := by rw [Nat.pow_succ, ← Nat.div_div_eq_div_mul]; exact rfl
      have hX : v / 256 ^ k < 18446744073709551616 := Nat.lt_of_le_of_lt (Nat.div_le_self _ _) hv
      have HX : Hid (byteAt v 4 (3 - k) = v / 256 ^ k % 256) := by unfold byteAt; rw [show 4 - 1 - (3 - k) = k by omega]; exact rfl
      clear hr hbel
      generalize v / 256 ^ k = X at *
      go_wp2
      go_roundw
      case rel => exact ⟨k + 1, by omega, by go_num, by rw [HV.out]; simp, bytes_step (by omega) (by omega) (by rw [HX.out]; simp) HR.out, HBel.out.setCell (Nat.le_refl _) _⟩
      case measure => simp [intOf]; omega
    · obtain rfl : k = 4 := by omega
      have HR := Lib.hid (hr.congr (g := fun j => .int .u8 (byteAt v 4 j : Nat)) (fun i hi => by rw [bytesTo_all v 4 i hi]))
      have HBel := Lib.hid hbel
      clear hr hbel
      go_wp2
      go_ret
      exact ⟨rfl, HR.out, HBel.out⟩
end Go.Proofs.YtklmbiekpilkhaaGreatDoor.sumDoor
namespace Go.Proofs.YtklmbiekpilkhaaGreatDoor.sumDoor
open Go.Proofs.YtklmbiekpilkhaaGreatDoor.sumPlain
/-- How many zeros. -/
def zs (n : Nat) : Nat := (119 - n % 64) % 64

theorem word_congr {g h : Nat → Nat} (e : ∀ i, i < 64 → g i = h i) {k : Nat} (hk : k < 16) : word g k = word h k := by
  unfold word
  rw [e _ (by omega), e _ (by omega), e _ (by omega), e _ (by omega)]
theorem words_congr {g h : Nat → Nat} (e : ∀ i, i < 64 → g i = h i) : ∀ k, words g k = words h k
  | 0 => rfl
  | k + 1 => by
    rw [words, words, words_congr e k]
    by_cases hk : k < 16
    · rw [if_pos hk, if_pos hk, word_congr e hk]
    · rw [if_neg hk, if_neg hk]
theorem block_congr {g h : Nat → Nat} (s : Eight) (e : ∀ i, i < 64 → g i = h i) : block s g = block s h := by
  unfold block
  rw [words_congr e]
/-- Blocks that read the same come to the same. -/
theorem chunk_congr {s : Eight} {l l' : List Nat} : ∀ m, (∀ i, i < 64 * m → l.getD i 0 = l'.getD i 0) → chunk s l m = chunk s l' m
  | 0, _ => rfl
  | m + 1, h => by
    rw [chunk, chunk, chunk_congr m (fun i hi => h i (by omega))]
    refine block_congr _ fun i hi => ?_
    have := h (64 * m + i) (by omega)
    simpa [List.getD, List.getElem?_drop] using this
theorem chunk_add (s : Eight) (l : List Nat) (a : Nat) : ∀ b, chunk s l (a + b) = chunk (chunk s l a) (l.drop (64 * a)) b
  | 0 => rfl
  | b + 1 => by
    rw [← Nat.add_assoc, chunk, chunk, chunk_add s l a b, List.drop_drop]
    rw [show 64 * (a + b) = 64 * a + 64 * b by omega]

theorem getD_app (l m : List Nat) (i : Nat) : (l ++ m).getD i 0 = if i < l.length then l.getD i 0 else m.getD (i - l.length) 0 := by
  simp only [List.getD, List.getElem?_append]
  split <;> rfl
theorem getD_rep (z i : Nat) : (List.replicate z 0).getD i 0 = 0 := by
  simp only [List.getD, List.getElem?_replicate]
  split <;> rfl

theorem chunk_all {l : List Nat} {n B : Nat} (hl : l.length = n) (hB : B * 64 = (l ++ 128 :: List.replicate (zs n) 0 ++ bytesOf (n * 8) 8).length) : chunk seed8 (l ++ 128 :: List.replicate (zs n) 0 ++ bytesOf (n * 8) 8) B = digest l := by
  have h8 : (bytesOf (n * 8) 8).length = 8 := by simp [bytesOf]
  have hlen : (l ++ 128 :: List.replicate (zs n) 0 ++ bytesOf (n * 8) 8).length = n + 1 + zs n + 8 := by simp [h8, hl]; omega
  rw [hlen] at hB
  unfold digest
  rw [hl]
  have hE : padEnd (n % 64) = 64 * (B - n / 64) := by unfold padEnd zs at *; split <;> omega
  have hBn : n / 64 ≤ B := by unfold zs at hB; omega
  rw [hE, Nat.mul_div_cancel_left _ (by omega)]
  conv => lhs; rw [show B = n / 64 + (B - n / 64) by omega, chunk_add]
  have h1 : chunk seed8 (l ++ 128 :: List.replicate (zs n) 0 ++ bytesOf (n * 8) 8) (n / 64) = chunk seed8 l (n / 64) := by
    refine chunk_congr _ fun i hi => ?_
    rw [List.append_assoc, getD_app, if_pos (by omega)]
  rw [h1]
  refine chunk_congr _ fun i hi => ?_
  have hi2 : i < 128 := by unfold zs at hB; omega
  -- the padded rest at i
  have hR : (padList (l.drop (64 * (n / 64))) (n * 8) (64 * (B - n / 64))).getD i 0 = padTo (l.drop (64 * (n / 64))) (n * 8) (64 * (B - n / 64)) 8 i := by
    simp [padList, List.getD, hi2]
  rw [hR]
  have hr : (l.drop (64 * (n / 64))).length = n % 64 := by rw [List.length_drop, hl]; omega
  have hD : ((l ++ 128 :: List.replicate (zs n) 0 ++ bytesOf (n * 8) 8).drop (64 * (n / 64))).getD i 0 = (l ++ 128 :: List.replicate (zs n) 0 ++ bytesOf (n * 8) 8).getD (64 * (n / 64) + i) 0 := by
    simp [List.getD, List.getElem?_drop]
  rw [hD]
  unfold padTo
  rw [hr, getD_app]
  have hl2 : (l ++ 128 :: List.replicate (zs n) 0).length = n + 1 + zs n := by simp [hl]; omega
  rw [hl2]
  by_cases hc : 64 * (B - n / 64) - 8 ≤ i ∧ i < 64 * (B - n / 64)
  · rw [if_pos hc, if_neg (by unfold zs at *; omega)]
    have hj : 64 * (n / 64) + i - (n + 1 + zs n) < 8 := by unfold zs at *; omega
    have e1 : (bytesOf (n * 8) 8).getD (64 * (n / 64) + i - (n + 1 + zs n)) 0 = byteAt (n * 8) 8 (64 * (n / 64) + i - (n + 1 + zs n)) := by
      simp [bytesOf, List.getD, hj]
    rw [e1]
    unfold byteAt
    rw [show (256 : Nat) = 2 ^ 8 by decide, ← Nat.pow_mul]
    have e2 : 8 * (8 - 1 - (64 * (n / 64) + i - (n + 1 + zs n))) = 8 * (64 * (B - n / 64) - 1 - i) := by unfold zs at *; omega
    rw [e2]
  · rw [if_neg hc, if_pos (by unfold zs at *; omega), getD_app, hl]
    by_cases h2 : i < n % 64
    · rw [if_pos (by omega), if_pos h2]
      simp [List.getD, List.getElem?_drop]
    · rw [if_neg (by omega), if_neg h2]
      by_cases h3 : i = n % 64
      · rw [if_pos h3, show 64 * (n / 64) + i - n = 0 by omega]
        rfl
      · rw [if_neg h3]
        obtain ⟨q, hq⟩ : ∃ q, 64 * (n / 64) + i - n = q + 1 := ⟨64 * (n / 64) + i - n - 1, by omega⟩
        rw [hq]
        show (List.replicate (zs n) 0).getD q 0 = 0
        exact getD_rep _ _
end Go.Proofs.YtklmbiekpilkhaaGreatDoor.sumDoor
