/- The cyclic sum. -/
import Derived.Test.YtnpohlimedhopaaDoorA
import Derived.Test.YtnpohlimedhopaaDoorN
namespace Go.Proofs.YtnpohlimedhopaaDoor.sumDoor
open Go.ChangeShapes Go.WideShapes Go.ChangeAt Go.RowKit Go.Proofs.YtnpohlimedhopaaDoor.crcPlain
set_option linter.unusedVariables false

theorem Bytes.at2 {w : World} {A : Option Addr} {n : Nat} {l : List Nat} (h : Bytes w A n l) {k : Nat} (hk : k < n) :
    ∃ b o x, A = some ⟨b, o, none⟩ ∧ x < 256 ∧ l.take (k + 1) = l.take k ++ [x] ∧ w.cell? ⟨b, o + k, none⟩ = some (.int .u8 (x : Nat)) := by
  obtain ⟨hl, hb, hc⟩ := h
  obtain ⟨b, o, rfl, hd⟩ := hc (by omega)
  have hk' : k < l.length := by omega
  refine ⟨b, o, l[k], rfl, hb _ (List.getElem_mem hk'), ?_, ?_⟩
  · rw [List.take_succ_eq_append_getElem hk']
  · rw [hd k hk]; simp [List.getD, hk']

theorem take_bytes {l : List Nat} (h : ∀ b ∈ l, b < 256) (k : Nat) : ∀ b ∈ l.take k, b < 256 := fun b hb => h b (List.mem_of_mem_take hb)

theorem xor_i (a b : Nat) (ha : a < 4294967296) (hb : b < 4294967296) : bits .xor .u32 (a : Int) (b : Int) = ((a ^^^ b : Nat) : Int) := u32_xor_nat a b ha hb
theorem and1_i (a : Nat) (ha : a < 4294967296) : bits .and .u32 (a : Int) 1 = ((a % 2 : Nat) : Int) := by
  have := u32_and_nat a 1 ha (by omega)
  rw [nat_mask1] at this
  exact this

theorem poly_i (a : Nat) (ha : a < 4294967296) : bits .xor .u32 ((a : Int) / 2) 3988292384 = ((a / 2 ^^^ 3988292384 : Nat) : Int) := by
  have := u32_xor_nat (a / 2) 3988292384 (by omega) (by omega)
  exact this

set_option maxHeartbeats 1000000 in
theorem crc_any (A : Option Addr) (n c : Nat) (l : List Nat) (w : World) (h : Bytes w A n l) (hn : n ≤ maxLen) :
    Calls Tryd.prog 9 #[.slice A n c] w fun e w' => e = .returned (.int .u32 ((crcRun l ^^^ 4294967295 : Nat) : Int)) ∧ w = w' := by
  unfold maxLen at hn
  have HB := Lib.hid h
  have hlen := Lib.hid h.1
  have hb256 := Lib.hid h.2.1
  clear h
  go_enter Tryd.func9, Tryd.ntmps9
  go_wp2
  go_loop [3, 5, 6, 9] (fun s _ _ i => ∃ k : Nat, k ≤ n ∧ i = .int .i64 k ∧ s = .int .u32 (crcRun (l.take k) : Nat)) (fun _ _ _ i => n - (intOf i).toNat)
  case atStart => exact ⟨0, Nat.zero_le _, rfl, rfl⟩
  case round =>
    obtain ⟨k, hk, rfl, rfl⟩ := hrel
    by_cases hlt : k < n
    · obtain ⟨b, o, x, rfl, hx, htk, hcell⟩ := HB.out.at2 hlt
      have HT := Lib.hid htk
      clear htk
      have hC : crcRun (l.take k) < 4294967296 := crcRun_lt (take_bytes hb256.out k)
      have HX := Lib.hid (xor_i (crcRun (l.take k)) x hC (by omega))
      have HN : Hid (crcRun (l.take (k + 1)) = crcTurn (crcRun (l.take k)) x) := by rw [HT.out, crcRun_snoc]; exact rfl
      generalize crcRun (l.take k) = C at *
      have hX : C ^^^ x < 4294967296 := xor_lt32 hC (by omega)
      go_wp2
      rw [HX.out]
      go_loop [3, 6, 17] (fun s _ i => ∃ j : Nat, j ≤ 8 ∧ i = .int .i64 j ∧ s = .int .u32 (crcSteps (C ^^^ x) j : Nat)) (fun _ _ i => 8 - (intOf i).toNat)
      case atStart => exact ⟨0, Nat.zero_le _, rfl, rfl⟩
      case round =>
        obtain ⟨j, hj, rfl, rfl⟩ := hrel
        have hS : crcSteps (C ^^^ x) j < 4294967296 := crcSteps_lt hX j
        by_cases hj8 : j < 8
        · have HS : Hid (crcSteps (C ^^^ x) (j + 1) = crcStep (crcSteps (C ^^^ x) j)) := rfl
          generalize crcSteps (C ^^^ x) j = S at *
          have HA := Lib.hid (and1_i S hS)
          have HP := Lib.hid (poly_i S hS)
          by_cases hp : S % 2 = 1
          · have hA : bits .and .u32 (S : Int) 1 = 1 := by rw [HA.out, hp]; rfl
            go_wp2
            go_round
            case rel => exact ⟨j + 1, by omega, by go_num, by rw [HS.out, crcStep, if_pos hp]; exact congrArg _ HP.out⟩
            case measure => simp [intOf]; omega
          · have hA : bits .and .u32 (S : Int) 1 = 0 := by rw [HA.out, show S % 2 = 0 by omega]; rfl
            go_wp2
            go_round
            case rel => exact ⟨j + 1, by omega, by go_num, by rw [HS.out, crcStep, if_neg hp]; rfl⟩
            case measure => simp [intOf]; omega
        · obtain rfl : j = 8 := by omega
          go_wp2
          go_round
          case rel => exact ⟨k + 1, by omega, by go_num, by rw [HN.out, crcTurn]⟩
          case measure => simp [intOf]; omega
    · obtain rfl : k = n := by omega
      have hC : crcRun (l.take k) < 4294967296 := crcRun_lt (take_bytes hb256.out k)
      have HX := Lib.hid (xor_i (crcRun (l.take k)) 4294967295 hC (by omega))
      go_wp2
      go_ret
      refine ⟨ret_int ?_, rfl⟩
      have e : l.take k = l := List.take_of_length_le (by have := hlen.out; omega)
      have h := HX.out
      rw [e] at h ⊢
      exact h


theorem nine : (crcRun [49, 50, 51, 52, 53, 54, 55, 56, 57] ^^^ 4294967295 : Nat) = 3421780262 := by decide +kernel
theorem Bytes.lit (w : World) (l : List Nat) (hl : ∀ b ∈ l, b < 256) (e : TypeId) (m : Nat × Nat) :
    Bytes (w.alloc (.cells (l.map fun b => Value.int .u8 (b : Nat)).toArray e m)) (some ⟨w.heap.size, 0, none⟩) l.length l := by
  refine ⟨rfl, hl, fun _ => ⟨_, _, rfl, fun i hi => ?_⟩⟩
  rw [World.cell?_alloc_mark]
  simp [List.getD, hi]

set_option maxHeartbeats 1000000 in
theorem awake_any (w : World) : Calls Tryd.prog 5 #[] w fun e w' => e = .returned (.bool true) ∧ Below w.heap.size w w' := by
  have kc := fun (w : World) (C : Array Value) (n c : Nat) => Lib.run_convert_bytes_const (P := Tryd.prog) w 22 5 C n c Tryd.underlying22 Tryd.underlying5
  have hB := Bytes.lit w [49, 50, 51, 52, 53, 54, 55, 56, 57] (by decide) 5 (9, 10)
  have HC := Lib.hid (crc_any (some ⟨w.heap.size, 0, none⟩) 9 9 _ _ hB (by decide))
  clear hB
  go_enter Tryd.func5, Tryd.ntmps5
  go_wp2_with (go_at_call 9; refine HC.out.mono ?_; rintro e w' ⟨rfl, rfl⟩)
  go_ret
  refine ⟨?_, (Below.refl _ _).alloc (Nat.le_refl _) _⟩
  have h9 : ((crcRun [49, 50, 51, 52, 53, 54, 55, 56, 57] ^^^ 4294967295 : Nat) : Int) = 3421780262 := by rw [nine]; rfl
  simp [h9]
end Go.Proofs.YtnpohlimedhopaaDoor.sumDoor
