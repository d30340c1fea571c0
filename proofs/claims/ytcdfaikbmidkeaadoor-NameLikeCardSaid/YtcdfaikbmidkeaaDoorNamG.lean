/- The laws NameLike and NameSelf, walked. -/
import Derived.Test.YtcdfaikbmidkeaaDoorNamC
import Derived.Test.YtcdfaikbmidkeaaDoorNamE
import Derived.Test.YtcdfaikbmidkeaaDoorNamF
namespace Go.Proofs.YtcdfaikbmidkeaaDoor.nam
open Go.ChangeShapes Go.WideShapes Go.ChangeAt Go.RowKit
set_option linter.unusedVariables false
set_option linter.unusedSimpArgs false

set_option maxHeartbeats 1600000 in
theorem nameLike_walk (w : World) (p s : ByteArray) (hr : Room w) :
    Calls Tryd.prog 4 #[.string p, .string s] w fun e w' => e = .returned (.bool true) ∧ Below w.heap.size w w' := by
  have HRoom := Lib.hid hr
  clear hr
  by_cases hb : p.size ≤ 100 ∧ s.size ≤ 100
  · obtain ⟨hp, hs⟩ := hb
    have h1 : decide ((100 : Int) < (p.size : Int)) = false := by simp; omega
    have h2 : decide ((100 : Int) < (s.size : Int)) = false := by simp; omega
    have HL := fun w => like_any w p s (by omega) (by omega)
    have HR := fun w => rLike_any w p s (by omega) (by omega)
    obtain ⟨x, hx⟩ : ∃ x, LK p s = x := ⟨_, rfl⟩
    rw [hx] at HL HR
    have HL' := Lib.hid HL
    have HR' := Lib.hid HR
    clear HL HR hx
    go_enter Tryd.func4, Tryd.ntmps4
    go_wp2_with (first | (go_at_call 6; refine (awake_any w HRoom.out).mono ?_; rintro e w1 ⟨rfl, hb1⟩) | (go_at_call 11; refine (HL'.out _).mono ?_; rintro e w2 ⟨rfl, hb2⟩) | (go_at_call 12; refine (HR'.out _).mono ?_; rintro e w3 ⟨rfl, hb3⟩))
    go_ret
    refine ⟨by simp, ?_⟩
    have k1 := hb1.trans (hb2.mono hb1.size)
    exact k1.trans (hb3.mono k1.size)
  · go_enter Tryd.func4, Tryd.ntmps4
    go_wp2_with (first | (go_at_call 6; with_reducible refine Calls.mono (awake_any w HRoom.out) ?_; rintro e w1 ⟨rfl, hb1⟩) | (go_at_call 6; with_reducible refine Calls.mono (awake_any w1 (HRoom.out.below hb1)) ?_; rintro e w2 ⟨rfl, hb2⟩))
    all_goals (go_ret; exact ⟨rfl, hb1.trans (hb2.mono hb1.size)⟩)

/-! ### Texts without signs -/
theorem A_plain (p s : ByteArray) (hp : ∀ i, i < p.size → byt p i ≠ 42 ∧ byt p i ≠ 37) : ∀ d, d ≤ p.size → ∀ k, k ≤ s.size → (A p s d k = true ↔ (s.size - k = d ∧ ∀ j, j < d → byt p (p.size - d + j) = byt s (k + j)))
  | 0, _, k, hk => by
    simp only [A, beq_iff_eq]
    exact ⟨fun h => ⟨by omega, fun j hj => absurd hj (Nat.not_lt_zero _)⟩, fun h => by omega⟩
  | d + 1, hd, k, hk => by
    have hq := hp (p.size - (d + 1)) (by omega)
    show prevA (byt p (p.size - (d + 1))) s s.size (A p s d) k = true ↔ _
    unfold prevA
    rw [if_neg hq.1, if_neg hq.2]
    simp only [Bool.and_eq_true, decide_eq_true_eq, beq_iff_eq]
    constructor
    · rintro ⟨⟨h1, h2⟩, h3⟩
      obtain ⟨h4, h5⟩ := (A_plain p s hp d (by omega) (k + 1) (by omega)).1 h3
      refine ⟨by omega, fun j hj => ?_⟩
      cases j with
      | zero => exact h2.symm
      | succ j =>
        have := h5 j (by omega)
        rw [show p.size - (d + 1) + (j + 1) = p.size - d + j by omega, show k + (j + 1) = k + 1 + j by omega]
        exact this
    · rintro ⟨h1, h2⟩
      have h0 := h2 0 (by omega)
      refine ⟨⟨by omega, h0.symm⟩, (A_plain p s hp d (by omega) (k + 1) (by omega)).2 ⟨by omega, fun j hj => ?_⟩⟩
      have := h2 (j + 1) (by omega)
      rw [show p.size - d + j = p.size - (d + 1) + (j + 1) by omega, show k + 1 + j = k + (j + 1) by omega]
      exact this
theorem bytes_eq (p s : ByteArray) (hl : s.size = p.size) (h : ∀ j, j < p.size → byt p j = byt s j) : p = s := by
  apply ByteArray.ext
  apply Array.ext
  · show p.size = s.size
    omega
  · intro i h1 h2
    have h1' : i < p.size := h1
    have h2' : i < s.size := h2
    have := h i h1'
    rw [← byt_at p i h1', ← byt_at s i h2'] at this
    exact UInt8.toNat_inj.1 this
theorem LK_plain (p s : ByteArray) (hp : ∀ i, i < p.size → byt p i ≠ 42 ∧ byt p i ≠ 37) : LK p s = decide (p = s) := by
  unfold LK
  rw [Bool.eq_iff_iff, A_plain p s hp p.size (Nat.le_refl _) 0 (Nat.zero_le _), decide_eq_true_eq]
  simp only [Nat.sub_self, Nat.zero_add, Nat.sub_zero]
  exact ⟨fun h => bytes_eq p s h.1 h.2, fun h => by subst h; exact ⟨rfl, fun j _ => rfl⟩⟩
theorem LK_one (c : UInt8) (star : Bool) (hc : c.toNat = if star then 42 else 37) (s : ByteArray) : LK ⟨#[c]⟩ s = true ↔ ∀ q, q < s.size → open_ star s q = true := by
  have e : LK ⟨#[c]⟩ s = aS star s s.size (A ⟨#[c]⟩ s 0) (s.size - 0) := by
    show prevA (byt ⟨#[c]⟩ 0) s s.size (A ⟨#[c]⟩ s 0) 0 = _
    have hb : byt ⟨#[c]⟩ 0 = c.toNat := rfl
    unfold prevA
    rw [hb, hc]
    cases star <;> simp
  rw [e, aS_iff star s s.size _ _ (by omega)]
  simp only [A, beq_iff_eq]
  constructor
  · rintro ⟨m, _, _, rfl, h⟩ q hq
    exact h q (by omega) hq
  · intro h
    exact ⟨s.size, by omega, Nat.le_refl _, rfl, fun q _ hq => h q hq⟩
theorem LK_star (s : ByteArray) : LK ⟨#[42]⟩ s = true := (LK_one 42 true rfl s).2 fun q _ => by simp [open_]
def whole (s : ByteArray) (k : Nat) : Bool := (List.range k).all fun i => byt s i != 47
def plain (s : ByteArray) (k : Nat) : Bool := (List.range k).all fun i => byt s i != 42 && byt s i != 37
theorem whole_succ (s : ByteArray) (k : Nat) : whole s (k + 1) = (whole s k && byt s k != 47) := by simp [whole, List.range_succ]
theorem plain_succ (s : ByteArray) (k : Nat) : plain s (k + 1) = (plain s k && (byt s k != 42 && byt s k != 37)) := by simp [plain, List.range_succ]
theorem LK_part (s : ByteArray) : LK ⟨#[37]⟩ s = whole s s.size := by
  rw [Bool.eq_iff_iff, LK_one 37 false rfl s]
  simp [whole, open_]
theorem LK_self (s t : ByteArray) : (!plain s s.size || (LK s t == decide (s = t))) = true := by
  cases h : plain s s.size
  · rfl
  · have hp : ∀ i, i < s.size → byt s i ≠ 42 ∧ byt s i ≠ 37 := by
      simpa [plain] using h
    rw [LK_plain s t hp]
    simp

set_option maxHeartbeats 1600000 in
theorem nameSelf_walk (w : World) (s t : ByteArray) (hr : Room w) :
    Calls Tryd.prog 5 #[.string s, .string t] w fun e w' => e = .returned (.bool true) ∧ Below w.heap.size w w' := by
  have HRoom := Lib.hid hr
  clear hr
  by_cases hb : s.size ≤ 100 ∧ t.size ≤ 100
  · obtain ⟨hs, ht⟩ := hb
    have h1 : decide ((100 : Int) < (s.size : Int)) = false := by simp; omega
    have h2 : decide ((100 : Int) < (t.size : Int)) = false := by simp; omega
    have HL := fun w => like_any w s t (by omega) (by omega)
    have HS := fun w => like_any w ⟨#[42]⟩ s (by decide) (by omega)
    have HP := fun w => like_any w ⟨#[37]⟩ s (by decide) (by omega)
    rw [LK_star] at HS
    rw [LK_part] at HP
    obtain ⟨x, hx⟩ : ∃ x, LK s t = x := ⟨_, rfl⟩
    have hself := LK_self s t
    rw [hx] at HL hself
    have HL' := Lib.hid HL
    have HS' := Lib.hid HS
    have HP' := Lib.hid HP
    have HSelf := Lib.hid hself
    clear HL HS HP hx hself
    go_enter Tryd.func5, Tryd.ntmps5
    go_wp2_with (first | (go_at_call 6; refine (awake_any w HRoom.out).mono ?_; rintro e w1 ⟨rfl, hb1⟩))
    go_loop [5, 6, 23] (fun x y z => ∃ k : Nat, k ≤ s.size ∧ z = .int .i64 k ∧ x = .bool (plain s k) ∧ y = .bool (whole s k)) (fun _ _ z => s.size - (intOf z).toNat)
    case atStart => exact ⟨0, Nat.zero_le _, rfl, rfl, rfl⟩
    case round =>
      obtain ⟨k, hk, rfl, rfl, rfl⟩ := hrel
      by_cases hks : k < s.size
      · obtain ⟨c, hc⟩ : ∃ c, byt s k = c := ⟨_, rfl⟩
        have e1 : (s[k]).toNat = c := by rw [byt_at]; exact hc
        have hp1 := plain_succ s k
        have hw1 := whole_succ s k
        rw [hc] at hp1 hw1
        obtain ⟨pk, hpk⟩ : ∃ x, plain s k = x := ⟨_, rfl⟩
        obtain ⟨wk, hwk⟩ : ∃ x, whole s k = x := ⟨_, rfl⟩
        rw [hpk] at hp1 ⊢
        rw [hwk] at hw1 ⊢
        have HP1 := Lib.hid hp1
        have HW1 := Lib.hid hw1
        clear hp1 hw1 hpk hwk hc
        go_wp2
        all_goals refine ⟨⟨k + 1, hks, by simp, ?_, ?_⟩, by simp [intOf] <;> omega⟩
        all_goals (congr 1; (first | rw [HP1.out, Bool.eq_iff_iff] | rw [HW1.out, Bool.eq_iff_iff]); simp [*] <;> omega)
      · obtain rfl : k = s.size := by omega
        obtain ⟨pk, hpk⟩ : ∃ x, plain s s.size = x := ⟨_, rfl⟩
        obtain ⟨wk, hwk⟩ : ∃ x, whole s s.size = x := ⟨_, rfl⟩
        rw [hpk] at HSelf ⊢
        rw [hwk] at HP' ⊢
        clear hpk hwk
        cases pk
        · go_wp2_with (first | (go_at_call 11; with_reducible refine Calls.mono (HS'.out _) ?_; rintro e w3 ⟨rfl, hb3⟩) | (go_at_call 11; with_reducible refine Calls.mono (HP'.out _) ?_; rintro e w4 ⟨rfl, hb4⟩))
          go_ret
          refine ⟨by simp, ?_⟩
          have k1 := hb1.trans (hb3.mono hb1.size)
          exact k1.trans (hb4.mono k1.size)
        · have hx : x = (s.toList == t.toList) := by
            have := HSelf.out
            simp only [Bool.not_true, Bool.false_or, beq_iff_eq] at this
            rw [this, Bool.eq_iff_iff]
            simp only [decide_eq_true_eq, beq_iff_eq]
            exact ⟨fun e => by rw [e], LastIndex.eq_of_toList⟩
          subst hx
          clear HSelf
          go_wp2_with (first | (go_at_call 11; with_reducible refine Calls.mono (HL'.out _) ?_; rintro e w2 ⟨rfl, hb2⟩) | (go_at_call 11; with_reducible refine Calls.mono (HS'.out _) ?_; rintro e w3 ⟨rfl, hb3⟩) | (go_at_call 11; with_reducible refine Calls.mono (HP'.out _) ?_; rintro e w4 ⟨rfl, hb4⟩))
          go_ret
          refine ⟨by simp, ?_⟩
          have k1 := hb1.trans (hb2.mono hb1.size)
          have k2 := k1.trans (hb3.mono k1.size)
          exact k2.trans (hb4.mono k2.size)
  · go_enter Tryd.func5, Tryd.ntmps5
    go_wp2_with (first | (go_at_call 6; with_reducible refine Calls.mono (awake_any w HRoom.out) ?_; rintro e w1 ⟨rfl, hb1⟩) | (go_at_call 6; with_reducible refine Calls.mono (awake_any w1 (HRoom.out.below hb1)) ?_; rintro e w2 ⟨rfl, hb2⟩))
    all_goals (go_ret; exact ⟨rfl, hb1.trans (hb2.mono hb1.size)⟩)
end Go.Proofs.YtcdfaikbmidkeaaDoor.nam
