/- What the parts of the document's own answer are. -/
import Derived.Test.YtehecgkmckoolaaDoorDatA
namespace Go.Proofs.YtehecgkmckoolaaDoor.dat
open Go.ChangeShapes Go.WideShapes Go.ChangeAt Go.RowKit
open Go.Lib (dg itoa byteCells strCells)
set_option linter.unusedVariables false
set_option linter.unusedSimpArgs false

theorem month_run (w : World) (m : Nat) (h0 : 1 ≤ m) (h1 : m ≤ 12) : (Instr.index 49 (.agg #[.string ⟨#[]⟩, .string ⟨#[74, 97, 110]⟩, .string ⟨#[70, 101, 98]⟩, .string ⟨#[77, 97, 114]⟩, .string ⟨#[65, 112, 114]⟩, .string ⟨#[77, 97, 121]⟩, .string ⟨#[74, 117, 110]⟩, .string ⟨#[74, 117, 108]⟩, .string ⟨#[65, 117, 103]⟩, .string ⟨#[83, 101, 112]⟩, .string ⟨#[79, 99, 116]⟩, .string ⟨#[78, 111, 118]⟩, .string ⟨#[68, 101, 99]⟩]) (.int .i64 (m : Nat))).run Tryd.prog w = .ok (.string ⟨(nameL m).toArray⟩) w := by
  rcases twelve h0 h1 with rfl | rfl | rfl | rfl | rfl | rfl | rfl | rfl | rfl | rfl | rfl | rfl <;> kernel_rfl
theorem days_run0 (w : World) (m : Nat) (h0 : 1 ≤ m) (h1 : m ≤ 12) : (Instr.index 48 (.agg #[.int .i64 0, .int .i64 31, .int .i64 28, .int .i64 31, .int .i64 30, .int .i64 31, .int .i64 30, .int .i64 31, .int .i64 31, .int .i64 30, .int .i64 31, .int .i64 30, .int .i64 31]) (.int .i64 (m : Nat))).run Tryd.prog w = .ok (.int .i64 ((if m = 2 then 28 else if m = 4 ∨ m = 6 ∨ m = 9 ∨ m = 11 then 30 else 31 : Nat) : Nat)) w := by
  rcases twelve h0 h1 with rfl | rfl | rfl | rfl | rfl | rfl | rfl | rfl | rfl | rfl | rfl | rfl <;> kernel_rfl
theorem days_run (w : World) (y m : Nat) (h0 : 1 ≤ m) (h1 : m ≤ 12) (h2 : ¬ (m = 2 ∧ leapN y = true)) : (Instr.index 48 (.agg #[.int .i64 0, .int .i64 31, .int .i64 28, .int .i64 31, .int .i64 30, .int .i64 31, .int .i64 30, .int .i64 31, .int .i64 31, .int .i64 30, .int .i64 31, .int .i64 30, .int .i64 31]) (.int .i64 (m : Nat))).run Tryd.prog w = .ok (.int .i64 (daysN y m : Nat)) w := by
  have e : daysN y m = if m = 2 then 28 else if m = 4 ∨ m = 6 ∨ m = 9 ∨ m = 11 then 30 else 31 := by
    unfold daysN
    by_cases h : m = 2
    · simp only [if_pos h]
      rw [if_neg (fun h' => h2 ⟨h, h'⟩)]
    · simp only [if_neg h]
  rw [e]
  exact days_run0 w m h0 h1
theorem days_any (w : World) (y m : Nat) (hy : y ≤ 10001) (h0 : 1 ≤ m) (h1 : m ≤ 12) :
    Calls Tryd.prog 20 #[.int .i64 y, .int .i64 m] w fun e w' => e = .returned (.int .i64 (daysN y m : Nat)) ∧ w' = w := by
  have h := fun w => leap_any w y hy
  by_cases h2 : m = 2 ∧ leapN y = true
  · obtain ⟨rfl, hl⟩ := h2
    unfold daysN
    rw [hl] at h ⊢
    go_enter Tryd.func20, Tryd.ntmps20
    go_wp2_with (go_at_call 35; refine (h _).mono ?_; rintro e w' ⟨rfl, rfl⟩)
    go_ret
    exact ⟨rfl, rfl⟩
  · have hr := fun w => days_run w y m h0 h1 h2
    obtain ⟨x, hx⟩ : ∃ x, daysN y m = x := ⟨_, rfl⟩
    rw [hx] at hr ⊢
    by_cases hm : m = 2
    · subst hm
      have hl : leapN y = false := by simpa using h2
      have hr2 : ∀ w, (Instr.index 48 (.agg #[.int .i64 0, .int .i64 31, .int .i64 28, .int .i64 31, .int .i64 30, .int .i64 31, .int .i64 30, .int .i64 31, .int .i64 31, .int .i64 30, .int .i64 31, .int .i64 30, .int .i64 31]) (.int .i64 2)).run Tryd.prog w = .ok (.int .i64 x) w := hr
      rw [hl] at h
      clear h2 hl
      go_enter Tryd.func20, Tryd.ntmps20
      go_wp2_with (go_at_call 35; refine (h _).mono ?_; rintro e w' ⟨rfl, rfl⟩)
      go_ret
      exact ⟨rfl, rfl⟩
    · have hm2 : ((m : Int) == 2) = false := by simp; omega
      clear h2
      go_enter Tryd.func20, Tryd.ntmps20
      go_wp2
      go_ret
      exact ⟨rfl, rfl⟩
theorem month_any (w : World) (m : Nat) (h0 : 1 ≤ m) (h1 : m ≤ 12) :
    Calls Tryd.prog 22 #[.int .i64 m] w fun e w' => e = .returned (.string ⟨(nameL m).toArray⟩) ∧ w' = w := by
  have hr := fun w => month_run w m h0 h1
  go_enter Tryd.func22, Tryd.ntmps22
  go_wp2
  go_ret
  exact ⟨rfl, rfl⟩

theorem byte_text (w : World) (x : Nat) (hx : x < 256) :
    (convert 29 9 (.slice (some ⟨w.heap.size, 0, none⟩) 1 1)).run Tryd.prog (w.alloc (.cells #[.int .u8 (x : Nat)] 5)) = .ok (.string ⟨#[UInt8.ofNat x]⟩) (w.alloc (.cells #[.int .u8 (x : Nat)] 5)) := by
  have h := Go.run_convert_bytes_back (P := Tryd.prog) (w.alloc (.cells #[.int .u8 (x : Nat)] 5)) 29 9 5 ⟨w.heap.size, 0, none⟩ 1 [UInt8.ofNat x] Tryd.underlying29 Tryd.underlying5 Tryd.underlying9 (fun j hj => by
    obtain rfl : j = 0 := by simpa using hj
    have e : (UInt8.ofNat x).toNat = x := by rw [UInt8.toNat_ofNat']; omega
    show (w.alloc (.cells #[.int .u8 (x : Nat)] 5)).cell? ⟨w.heap.size, 0, none⟩ = some (.int .u8 ((UInt8.ofNat x).toNat : Int))
    simp only [World.cell?]
    rw [heap_alloc_new]
    simp [e])
  exact h
theorem digL_length (v k : Nat) : (digL v k).length = k := by
  induction k with
  | zero => rfl
  | succ k ih => simp [digL, ih]
theorem bytes_cons (x : UInt8) (l : List UInt8) : (⟨#[x]⟩ : ByteArray) ++ ⟨l.toArray⟩ = ⟨(x :: l).toArray⟩ := by
  apply ByteArray.ext
  simp
theorem digits_any (w : World) (v n : Nat) (hv : v < 100000) (hn : n ≤ 10) :
    Calls Tryd.prog 21 #[.int .i64 v, .int .i64 n] w fun e w' => e = .returned (.string ⟨(digL v n).toArray⟩) ∧ Below w.heap.size w w' := by
  go_enter Tryd.func21, Tryd.ntmps21
  go_wp2
  go_loopw [0, 5, 7] (fun x s i wr => ∃ k : Nat, k ≤ n ∧ i = .int .i64 k ∧ x = .int .i64 (v / 10 ^ k : Nat) ∧ s = .string ⟨(digL v k).toArray⟩ ∧ Hid (Below w.heap.size w wr)) (fun _ _ i _ => n - (intOf i).toNat)
  case atStart => exact ⟨0, Nat.zero_le _, rfl, by simp, rfl, Below.refl _ _⟩
  case round =>
    obtain ⟨k, hk, rfl, rfl, rfl, hb⟩ := hrel
    have hq : v / 10 ^ k < 100000 := Nat.lt_of_le_of_lt (Nat.div_le_self _ _) hv
    have hd : dg v k = UInt8.ofNat (48 + v / 10 ^ k % 10) := rfl
    have hs : v / 10 ^ (k + 1) = v / 10 ^ k / 10 := by rw [Nat.pow_succ, Nat.div_div_eq_div_mul]
    obtain ⟨q, hqq⟩ : ∃ q, v / 10 ^ k = q := ⟨_, rfl⟩
    rw [hqq] at hq hd hs ⊢
    have HS := Lib.hid hs
    have hcv0 := fun w => byte_text w (48 + q % 10) (by omega)
    obtain ⟨x, hx⟩ : ∃ x, UInt8.ofNat (48 + q % 10) = x := ⟨_, rfl⟩
    rw [hx] at hd
    simp only [hx] at hcv0
    have HD := Lib.hid hd
    have HCV := Lib.hid hcv0
    clear hs hd hqq hx hcv0
    by_cases hkn : k < n
    · have hcv := HCV.out
      simp only [show (((48 + q % 10 : Nat)) : Int) = 48 + (q : Int) % 10 by omega] at hcv
      have hl : ¬ 9223372036854775807 < 1 + (digL v k).length := by rw [digL_length]; omega
      go_wp2
      refine ⟨⟨k + 1, hkn, by simp, by rw [HS.out]; congr 1, ?_, hb.out.alloc hb.out.size _⟩, by simp [intOf]; omega⟩
      rw [bytes_cons]
      show _ = Value.string ⟨(dg v k :: digL v k).toArray⟩
      rw [HD.out]
    · obtain rfl : k = n := by omega
      go_wp2
      go_ret
      exact ⟨rfl, hb.out⟩
end Go.Proofs.YtehecgkmckoolaaDoor.dat
