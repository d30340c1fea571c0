/- The flags of names, as the document reads them. -/
import Derived.Test.YtbhhcijfciapgaaDoorFlgB
namespace Go.Proofs.YtbhhcijfciapgaaDoor.flg
open Go.ChangeShapes Go.WideShapes Go.ChangeAt Go.RowKit Go.Proofs.YtbhhcijfciapgaaDoor.alk
set_option linter.unusedVariables false
set_option linter.unusedSimpArgs false

theorem _root_.Go.World.rowIs.drewN' {w : World} {b : Nat} {t : TypeId} {n : Nat} {f : Nat → Value} (h : w.rowIs b t n f) (q : Nat) : (w.drewN q).rowIs b t n f := h
theorem below_draws {B : Nat} {w w' : World} (h : Below B w w') (q : Nat) : Below B w (w'.drewN q) := h.trans ⟨rfl, rfl, rfl, Nat.le_refl _, fun _ _ => rfl⟩
/-- The row of what there is, while name i is looked at: ahead of k all of it, from k on what was ahead of i. -/
def hasF (X : Nat → ByteArray) (i k : Nat) : Nat → Value := fun j => .bool (if j < k then (ors X (i + 1)).testBit j else (ors X i).testBit j)
def fnd (X : Nat → ByteArray) (i k : Nat) : Bool := (List.range k).any fun j => alike (X i) (nmS j)
theorem fnd_succ (X : Nat → ByteArray) (i k : Nat) : fnd X i (k + 1) = (fnd X i k || alike (X i) (nmS k)) := by
  unfold fnd
  rw [List.range_succ, List.any_append]
  simp
theorem fnd_five (X : Nat → ByteArray) (i : Nat) : fnd X i 5 = (bitN (X i) != 0) := by
  rcases bitN_cases (X i) with ⟨h0, hn⟩ | ⟨j, hj, hb, ha⟩
  · rw [h0]
    unfold fnd
    rw [List.any_eq_false.2 (fun j hj => by rw [hn j (List.mem_range.1 hj)]; decide)]
    rfl
  · have h1 : fnd X i 5 = true := by
      unfold fnd
      rw [List.any_eq_true]
      exact ⟨j, List.mem_range.2 hj, ha⟩
    have h2 : (2 : Nat) ^ j ≠ 0 := by
      rcases five_cases hj with rfl | rfl | rfl | rfl | rfl <;> decide
    rw [h1, hb]
    simp [h2]
theorem has_off {wr : World} {g : Nat} {t : TypeId} {X : Nat → ByteArray} {i k : Nat} (hk : k < 5) (h : wr.rowIs g t 5 (hasF X i k)) (ha : alike (X i) (nmS k) = false) : wr.rowIs g t 5 (hasF X i (k + 1)) := by
  refine h.congr fun j hj => ?_
  unfold hasF
  by_cases hjk : j = k
  · subst hjk
    rw [if_neg (by omega), if_pos (by omega), ors_bit X i j hk, ha, Bool.or_false]
  · by_cases hl : j < k
    · rw [if_pos hl, if_pos (by omega)]
    · rw [if_neg hl, if_neg (by omega)]
theorem has_on {wr : World} {g : Nat} {t : TypeId} {X : Nat → ByteArray} {i k : Nat} (hk : k < 5) (h : wr.rowIs g t 5 (hasF X i k)) (ha : alike (X i) (nmS k) = true) : (wr.setCell ⟨g, k, none⟩ (.bool true)).rowIs g t 5 (hasF X i (k + 1)) := by
  refine (h.set k _).congr fun j hj => ?_
  unfold hasF
  by_cases hjk : j = k
  · subst hjk
    rw [if_pos rfl, if_pos (by omega), ors_bit X i j hk, ha, Bool.or_true]
  · rw [if_neg hjk]
    by_cases hl : j < k
    · rw [if_pos hl, if_pos (by omega)]
    · rw [if_neg hl, if_neg (by omega)]
theorem has_start {wr : World} {g : Nat} {t : TypeId} {X : Nat → ByteArray} {i : Nat} (h : wr.rowIs g t 5 (fun j => .bool ((ors X i).testBit j))) : wr.rowIs g t 5 (hasF X i 0) :=
  h.congr fun j hj => by unfold hasF; rw [if_neg (Nat.not_lt_zero _)]
theorem has_end {wr : World} {g : Nat} {t : TypeId} {X : Nat → ByteArray} {i : Nat} (h : wr.rowIs g t 5 (hasF X i 5)) : wr.rowIs g t 5 (fun j => .bool ((ors X (i + 1)).testBit j)) :=
  h.congr fun j hj => by unfold hasF; rw [if_pos hj]
theorem row_new (w : World) (t : TypeId) (X : Nat → ByteArray) : (w.alloc (.cells #[.bool false, .bool false, .bool false, .bool false, .bool false] t)).rowIs w.heap.size t 5 (fun j => .bool ((ors X 0).testBit j)) := by
  refine World.rowIs_alloc w #[.bool false, .bool false, .bool false, .bool false, .bool false] t _ fun i hi => ?_
  have hi5 : i < 5 := hi
  rcases five_cases hi5 with rfl | rfl | rfl | rfl | rfl <;> simp [ors]
/-- Whether all of n are names. -/
def fineB (X : Nat → ByteArray) (n : Nat) : Bool := (List.range n).all fun j => bitN (X j) != 0
theorem fine_true {X : Nat → ByteArray} {n : Nat} (h : ∀ j, j < n → (bitN (X j) != 0) = true) : fineB X n = true := by
  unfold fineB
  rw [List.all_eq_true]
  exact fun j hj => h j (List.mem_range.1 hj)
theorem fine_false {X : Nat → ByteArray} {n : Nat} (i : Nat) (hi : i < n) (h : (bitN (X i) != 0) = false) : fineB X n = false := by
  unfold fineB
  rw [List.all_eq_false]
  exact ⟨i, List.mem_range.2 hi, by simp [h]⟩
/-- What is answered. -/
def parN (X : Nat → ByteArray) (n : Nat) : Nat := if fineB X n then ors X n else 0

set_option maxHeartbeats 6400000 in
theorem named_some (w : World) (b o n cap : Nat) (X : Nat → ByteArray) (hn : n ≤ 1000) (hc : ∀ j, j < n → w.cell? ⟨b, o + j, none⟩ = some (.string (X j)) ∧ (X j).size ≤ 1000) (hb : b < w.heap.size) :
    Calls Tryd.prog 11 #[.slice (some ⟨b, o, none⟩) n cap] w fun e w' => e = .returned (.tuple #[.int .i64 (parN X n : Nat), .bool (fineB X n)]) ∧ Below w.heap.size w w' := by
  have HCE := Lib.hid hc
  have HFL := Lib.hid (fun (k : Nat) (hk : k < 5) w => flag_any w k hk)
  obtain ⟨g, hg⟩ : ∃ g, w.heap.size = g := ⟨_, rfl⟩
  have HROW := Lib.hid (row_new w 35 X)
  have HB0 := Lib.hid ((Below.refl g w).alloc (by omega) (.cells #[.bool false, .bool false, .bool false, .bool false, .bool false] 35))
  have HBG := Lib.hid hb
  rw [hg] at HROW HBG
  have HG := Lib.hid hg
  clear hc hb
  rw [hg]
  go_enter Tryd.func11, Tryd.ntmps11
  go_wp2
  clear hg
  go_loopw [13] (fun x wr => ∃ i : Nat, i ≤ n ∧ x = .int .i64 i ∧ Hid (∀ j, j < i → (bitN (X j) != 0) = true) ∧ wr.rowIs g 35 5 (fun j => .bool ((ors X i).testBit j)) ∧ Hid (Below g w wr)) (fun x _ => n - (intOf x).toNat)
  case atStart => exact ⟨0, Nat.zero_le _, rfl, fun j h => absurd h (Nat.not_lt_zero _), HROW.out, HB0.out⟩
  case round =>
    obtain ⟨i, hi, rfl, hh, hrow, hbl⟩ := hrel
    by_cases hin : i < n
    · have HR0 := Lib.hid (has_start hrow)
      clear hrow
      go_wp2
      go_loopw [6, 16] (fun f x w2 => ∃ k : Nat, k ≤ 5 ∧ x = .int .i64 k ∧ f = .bool (fnd X i k) ∧ w2.rowIs g 35 5 (hasF X i k) ∧ Hid (Below g w w2)) (fun _ x _ => 5 - (intOf x).toNat)
      case atStart => exact ⟨0, Nat.zero_le _, rfl, rfl, HR0.out, hbl.out⟩
      case round =>
        obtain ⟨k, hk, rfl, rfl, hrow, hb2⟩ := hrel
        by_cases hk5 : k < 5
        · have HF := Lib.hid (HFL.out k hk5)
          have HX := Lib.hid (HCE.out i hin)
          have HCR := Lib.hid (show wr.cell? ⟨b, o + i, none⟩ = some (.string (X i)) from (hb2.out.cell (p := ⟨b, o + i, none⟩) HBG.out).trans (HCE.out i hin).1)
          have HAL := Lib.hid (fun w => alike_any w (X i) (nmS k) (by have := (HCE.out i hin).2; omega) (by have := nm_len k hk5; rw [nmS_size]; omega))
          have HFS := Lib.hid (fnd_succ X i k)
          have HOFF := Lib.hid (fun (ha : alike (X i) (nmS k) = false) => has_off hk5 hrow ha)
          have hrlt := hrow.lt
          have HLT := Lib.hid hrlt
          have hcr := HCR.out
          have k1 : (0 : Int) ≤ (i : Int) := by omega
          have k2 : (i : Int) < (n : Int) := by omega
          cases ha : alike (X i) (nmS k)
          · rw [ha] at HAL HFS
            have HR := Lib.hid (HOFF.out ha)
            clear hrow ha HOFF hrlt
            rw [Bool.or_false] at HFS
            go_wp2_with fail
            go_quiet (first | (go_at_call 7; exact Calls.quiet_of_same (HF.out _)) | (go_at_call 16; exact Calls.quiet_of (HAL.out _)))
            have hr4 := World.rowIs.drewN' HR.out
            go_wp2
            exact ⟨⟨k + 1, hk5, by simp, by rw [HFS.out], hr4 _, (below_draws hb2.out _)⟩, by simp [intOf]; omega⟩
          · rw [ha] at HAL HFS
            rw [Bool.or_true] at HFS
            have HON := Lib.hid (fun (w3 : World) (h : w3.rowIs g 35 5 (hasF X i k)) => has_on hk5 h ha)
            have HROW2 := Lib.hid hrow
            clear hrow ha HOFF hrlt
            go_wp2_with fail
            go_quiet (first | (go_at_call 7; exact Calls.quiet_of_same (HF.out _)) | (go_at_call 16; exact Calls.quiet_of (HAL.out _)))
            have hr4 := HROW2.out
            have hfz := fun q j => World.rowIs.frozen (World.rowIs.drewN' HROW2.out q) j
            have hcl := fun q => World.rowIs.cell (World.rowIs.drewN' HROW2.out q) hk5
            go_wp2
            exact ⟨⟨k + 1, hk5, by simp, by rw [HFS.out], HON.out _ (World.rowIs.drewN' HROW2.out _), ((below_draws hb2.out _).setCell (Nat.le_refl _) _)⟩, by simp [intOf]; omega⟩
        · obtain rfl : k = 5 := by omega
          have HE := Lib.hid (has_end hrow)
          have HFI := Lib.hid (fnd_five X i)
          cases hz : bitN (X i) != 0
          · have HP := Lib.hid (fine_false i hin hz)
            have h5 : fnd X i 5 = false := HFI.out.trans hz
            clear hrow hz
            go_wp2
            go_ret2
            unfold parN
            rw [HP.out]
            exact ⟨rfl, hb2.out⟩
          · have HN := Lib.hid (show ∀ j, j < i + 1 → (bitN (X j) != 0) = true by
              intro j hj
              rcases Nat.lt_succ_iff_lt_or_eq.1 hj with h' | rfl
              · exact hh.out j h'
              · exact hz)
            have h5 : fnd X i 5 = true := HFI.out.trans hz
            clear hrow hz
            go_wp2
            exact ⟨⟨i + 1, hin, by simp, HN.out, HE.out, hb2.out⟩, by simp [intOf]; omega⟩
    · obtain rfl : i = n := by omega
      have HP := Lib.hid (fine_true hh.out)
      have hm := ors_lt X i
      have HPR := Lib.hid (show parN X i = ors X i by unfold parN; rw [HP.out]; rfl)
      have HROW3 := Lib.hid hrow
      obtain ⟨m, hm'⟩ : ∃ m, ors X i = m := ⟨_, rfl⟩
      rw [hm'] at hm hrow HPR HROW3
      have HRL := Lib.hid hrow.lt
      clear hm'
      go_wp2
      go_loop [8, 9, 32] (fun s x y => ∃ k : Nat, k ≤ 5 ∧ y = .int .i64 k ∧ x = .int .i64 (2 ^ k : Nat) ∧ s = .int .i64 (sumB m k : Nat)) (fun _ _ y => 5 - (intOf y).toNat)
      case atStart => exact ⟨0, Nat.zero_le _, rfl, rfl, rfl⟩
      case round =>
        obtain ⟨k, hk, rfl, rfl, rfl⟩ := hrel
        by_cases hk5 : k < 5
        · have hd : (2 ^ k : Nat) ≤ 16 := by
            rcases five_cases hk5 with rfl | rfl | rfl | rfl | rfl <;> decide
          have hl := sumB_lt m k
          have hs : sumB m (k + 1) = sumB m k + (if m.testBit k then 2 ^ k else 0) := rfl
          have hd2 : (2 ^ (k + 1) : Nat) = 2 ^ k * 2 := Nat.pow_succ 2 k
          have hcl := hrow.cell hk5
          obtain ⟨d, hd'⟩ : ∃ d : Nat, 2 ^ k = d := ⟨_, rfl⟩
          obtain ⟨s, hn⟩ : ∃ s : Nat, sumB m k = s := ⟨_, rfl⟩
          rw [hd'] at hd hl hs hd2 ⊢
          rw [hn] at hl hs ⊢
          cases hbit : m.testBit k
          all_goals
            rw [hbit] at hs hcl
            have HS := Lib.hid hs
            have HD := Lib.hid hd2
            clear hs hd2 hbit hn hd'
            go_wp2
            refine ⟨⟨k + 1, hk5, by simp, ?_, ?_⟩, by simp [intOf]; omega⟩
            · rw [HD.out]; push_cast; rfl
            · rw [HS.out]; rfl
        · obtain rfl : k = 5 := by omega
          have HSB := Lib.hid (sumB_five m hm)
          obtain ⟨s, hn⟩ : ∃ s : Nat, sumB m 5 = s := ⟨_, rfl⟩
          rw [hn] at HSB ⊢
          clear hn
          go_wp2
          go_ret2
          rw [HP.out, HPR.out, HSB.out]
          exact ⟨rfl, hbl.out⟩
end Go.Proofs.YtbhhcijfciapgaaDoor.flg
