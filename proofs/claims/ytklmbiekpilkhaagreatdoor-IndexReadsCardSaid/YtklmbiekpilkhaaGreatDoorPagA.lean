/- A page: what it is, and how it is made. -/
import Derived.Test.YtklmbiekpilkhaaGreatDoorTwo
namespace Go.Proofs.YtklmbiekpilkhaaGreatDoor.pg
open Go.ChangeShapes Go.WideShapes Go.ChangeAt Go.RowKit
open Go.Proofs.YtklmbiekpilkhaaGreatDoor.codec (Bytes vals vals_append vals_length vals_one OutIs More Made New bytesOf byteAt bytesOf_length bytesOf_lt Fits strOf)
open Go.Proofs.YtklmbiekpilkhaaGreatDoor.crc (crcOf crcOf_lt crc_prog crc_ref)
open Go.Proofs.YtklmbiekpilkhaaGreatDoor.two
set_option linter.unusedVariables false
set_option maxRecDepth 100000
set_option linter.unusedSimpArgs false

/-- What stands ahead of a page's CRC. -/
def first (k n : Nat) : List Nat := [112, 97, 103, k] ++ bytesOf n 4
theorem first_length (k n : Nat) : (first k n).length = 8 := by simp [first, bytesOf]
theorem first_lt {k n : Nat} (hk : k < 256) : ∀ b ∈ first k n, b < 256 := by
  intro b hb
  rcases List.mem_append.1 hb with h | h
  · simp at h
    omega
  · exact bytesOf_lt _ _ b h
def body (k : Nat) (p : List Nat) : List Nat := first k p.length ++ p
theorem body_length (k : Nat) (p : List Nat) : (body k p).length = 8 + p.length := by simp [body, first_length]
theorem body_lt {k : Nat} {p : List Nat} (hk : k < 256) (hp : ∀ b ∈ p, b < 256) : ∀ b ∈ body k p, b < 256 := by
  intro b hb
  rcases List.mem_append.1 hb with h | h
  · exact first_lt hk b h
  · exact hp b h
/-- The page of a payload. -/
def pageL (k : Nat) (p : List Nat) : List Nat := body k p ++ bytesOf (crcOf (body k p)) 4
theorem pageL_length (k : Nat) (p : List Nat) : (pageL k p).length = 12 + p.length := by simp [pageL, body_length, bytesOf]; omega
theorem pageL_lt {k : Nat} {p : List Nat} (hk : k < 256) (hp : ∀ b ∈ p, b < 256) : ∀ b ∈ pageL k p, b < 256 := by
  intro b hb
  rcases List.mem_append.1 hb with h | h
  · exact body_lt hk hp b h
  · exact bytesOf_lt _ _ b h

set_option maxHeartbeats 400000 in
theorem isKind_any (w : World) (n : Int) :
    Calls Tryz.prog 65 #[.int .i64 n] w fun e w' => e = .returned (.bool (decide (1 ≤ n ∧ n ≤ 3))) ∧ w = w' := by
  by_cases h1 : 1 ≤ n
  · by_cases h7 : n ≤ 3
    · have : decide (1 ≤ n ∧ n ≤ 3) = true := by simp [h1, h7]
      rw [this]
      go_enter Tryz.func65, Tryz.ntmps65
      go_wp2
      go_ret
      exact ⟨rfl, rfl⟩
    · have : decide (1 ≤ n ∧ n ≤ 3) = false := by simp [h7]
      rw [this]
      go_enter Tryz.func65, Tryz.ntmps65
      go_wp2
      go_ret
      exact ⟨rfl, rfl⟩
  · have : decide (1 ≤ n ∧ n ≤ 3) = false := by simp [h1]
    rw [this]
    go_enter Tryz.func65, Tryz.ntmps65
    go_wp2
    go_ret
    exact ⟨rfl, rfl⟩

set_option maxHeartbeats 2000000 in
/-- The page of a payload that may be. -/
theorem put_good (W : World) (k n c : Nat) (A : Option Addr) (p : List Nat) (h1 : 1 ≤ k) (h3 : k ≤ 3) (hB : Bytes W A n p) (hn : n ≤ 60000) (hA : A = none → c = 0) :
    Calls Tryz.prog 54 #[.int .i64 k, .slice A n c] W fun e w' => ∃ v, e = .returned (.tuple #[v, .int .i64 0]) ∧ Made W (pageL k p) v w' := by
  have hd : decide ((1 : Int) ≤ (k : Nat) ∧ ((k : Nat) : Int) ≤ 3) = true := by simp; omega
  have HB := Lib.hid hB
  have HN := Lib.hid hA
  have HT := Lib.hid (two_start W)
  have hcv := fun (w : World) (C : Array Value) (n c g : Nat) (hg : g = w.heap.size) => Go.Joins.run_convert_bytes_const_at (P := Tryz.prog) w 22 5 C n c g hg Tryz.underlying22 Tryz.underlying5
  clear hB hA
  go_enter Tryz.func54, Tryz.ntmps54
  go_wp2_with (go_at_call 65; refine (isKind_any _ _).mono ?_; rw [hd]; rintro e w1 ⟨rfl, rfl⟩)
  refine (raw_two (HT.out.alloc _) (m := [112, 97, 103]) (lit_at _ [112, 97, 103] (by decide) 5 (3, 4) (by simp) rfl) (by simp) (by simp) (by simp; omega)).mono ?_
  rintro e w1 ⟨rfl, F1, hT1, -⟩
  have HT1 := Lib.hid hT1
  clear hT1 HT
  go_wp2_with fail
  refine (outN_two (v := k) (n := 1) HT1.out (by simp) (by omega) (by omega) (by omega)).mono ?_
  rintro e w2 ⟨rfl, F2, hT2, -⟩
  have HT2 := Lib.hid hT2
  clear hT2 HT1
  go_wp2_with fail
  refine (outN_two (v := n) (n := 4) HT2.out (by simp [bytesOf]) (by omega) (by omega) (by omega)).mono ?_
  rintro e w3 ⟨rfl, F3, hT3, -⟩
  have hf : [] ++ [112, 97, 103] ++ bytesOf k 1 ++ bytesOf n 4 = first k p.length := by
    have := HB.out.1
    rw [this, show bytesOf k 1 = [k] by simp [bytesOf, byteAt]; omega]
    rfl
  rw [hf] at hT3
  have HT3 := Lib.hid hT3
  clear hT3 HT2 hf
  go_wp2_with fail
  have hBw := HB.out.below HB.out.lt HT3.out.2.2.2.2.2
  refine (raw_two HT3.out hBw (by rw [first_length]; omega) HN.out (fun ad e h0 hF => by have h := HB.out.lt ad e h0; have := HT3.out.2.2.1 _ hF; omega)).mono ?_
  rintro e w4 ⟨rfl, F4, hT4, -⟩
  have HT4 := Lib.hid (show Two W W.heap.size (body k p) F4 (W.heap.size + 1) [] [W.heap.size + 1] w4 from hT4)
  clear hT4 HT3 hBw
  have hlp := HB.out.1
  obtain ⟨m, hm⟩ : ∃ m, m = 8 + n := ⟨_, rfl⟩
  have HBL := Lib.hid (show (body k p).length = m by rw [body_length]; omega)
  have hm1 : m ≤ 70000 := by omega
  clear hm hlp
  go_wp2_with fail
  refine (end_two HT4.out m HBL.out (by omega)).mono ?_
  rintro e w5 ⟨g, rfl, hT5, hB5, hg5⟩
  have HG := Lib.hid (show g ∉ [W.heap.size + 1] from fun h => by
    have := HT4.out.2.1.lt _ h
    omega)
  have HT5 := Lib.hid hT5
  have HB5 := Lib.hid hB5
  clear hT5 HT4 hB5 hg5
  go_wp2_with fail
  refine (raw_two2 HT5.out HB5.out (by simp; omega) (fun e => by cases e) (fun ad e _ => by cases e; exact HG.out)).mono ?_
  rintro e w7 ⟨rfl, F7, hT7, hg7⟩
  rw [List.nil_append] at hT7
  have HT7 := Lib.hid hT7
  have HB7 := Lib.hid (hg7.bytes HB5.out HG.out)
  clear hT7 hg7 HT5 HB5 HG
  have hcl := crcOf_lt (l := body k p) (body_lt (by omega) HB.out.2.1)
  have HC := Lib.hid (crc_prog (some ⟨g, 0, none⟩) m m (body k p) w7 HB7.out (by unfold maxLen; omega))
  generalize hCe : crcOf (body k p) = C at *
  have HCe := Lib.hid hCe
  clear hCe
  go_wp2_with (go_at_call 66; refine HC.out.mono ?_; rintro e w8 ⟨rfl, rfl⟩)
  refine (outN_two2 (v := C) (n := 4) HT7.out (by rw [HBL.out]; omega) (by omega) (by omega) (by omega)).mono ?_
  rintro e w9 ⟨rfl, F9, hT9, hg9⟩
  have HT9 := Lib.hid hT9
  clear hT9 hg9 HT7 HB7 HC
  go_wp2_with fail
  refine (end_two2 HT9.out (by rw [List.length_append, HBL.out, bytesOf_length]; omega)).mono ?_
  rintro e w11 ⟨v, rfl, hM⟩
  have HM := Lib.hid hM
  clear hM HT9
  go_wp2_with fail
  go_ret2
  refine ⟨v, rfl, ?_⟩
  have := HM.out
  rw [← HCe.out] at this
  unfold pageL
  exact this

set_option maxHeartbeats 400000 in
theorem put_long (W : World) (k n c : Nat) (A : Option Addr) (h1 : 1 ≤ k) (h3 : k ≤ 3) (hn : 60000 < n) :
    Calls Tryz.prog 54 #[.int .i64 k, .slice A n c] W fun e w' => e = .returned (.tuple #[.slice none 0 0, .int .i64 3]) ∧ W = w' := by
  have hd : decide ((1 : Int) ≤ (k : Nat) ∧ ((k : Nat) : Int) ≤ 3) = true := by simp; omega
  go_enter Tryz.func54, Tryz.ntmps54
  go_wp2_with (go_at_call 65; refine (isKind_any _ _).mono ?_; rw [hd]; rintro e w1 ⟨rfl, rfl⟩)
  go_ret2
  exact ⟨rfl, rfl⟩
set_option maxHeartbeats 400000 in
theorem put_arg (W : World) (k : Int) (n c : Nat) (A : Option Addr) (hk : ¬ (1 ≤ k ∧ k ≤ 3)) :
    Calls Tryz.prog 54 #[.int .i64 k, .slice A n c] W fun e w' => e = .returned (.tuple #[.slice none 0 0, .int .i64 1]) ∧ W = w' := by
  have hd : decide ((1 : Int) ≤ k ∧ k ≤ 3) = false := by simpa using hk
  clear hk
  go_enter Tryz.func54, Tryz.ntmps54
  go_wp2_with (go_at_call 65; refine (isKind_any _ _).mono ?_; rw [hd]; rintro e w1 ⟨rfl, rfl⟩)
  go_ret2
  exact ⟨rfl, rfl⟩
end Go.Proofs.YtklmbiekpilkhaaGreatDoor.pg
