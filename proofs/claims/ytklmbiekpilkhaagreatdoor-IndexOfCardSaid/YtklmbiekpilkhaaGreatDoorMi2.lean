/- The cyclic sum. -/
import Derived.Test.YtklmbiekpilkhaaGreatDoorMc0
import Derived.Test.YtklmbiekpilkhaaGreatDoorMs2
import Derived.Lib.SmallJoins
import Derived.Test.YtklmbiekpilkhaaGreatDoorMi1
namespace Go.Proofs.YtklmbiekpilkhaaGreatDoor.crc
open Go.ChangeShapes Go.WideShapes Go.ChangeAt Go.RowKit Go.Proofs.YtklmbiekpilkhaaGreatDoor.crcPlain
open Go.Proofs.YtklmbiekpilkhaaGreatDoor.codec (Bytes vals vals_append vals_length vals_one bytesOf byteAt bytesOf_length bytesOf_lt Fits strOf getD_lt256)
set_option linter.unusedVariables false
set_option maxRecDepth 100000

theorem ret_int {k : IntKind} {a b : Int} (h : a = b) : Ending.returned (.int k a) = .returned (.int k b) := by rw [h]
theorem Bytes_at2 {w : World} {A : Option Addr} {n : Nat} {l : List Nat} (h : Bytes w A n l) {k : Nat} (hk : k < n) :
    ∃ b o x, A = some ⟨b, o, none⟩ ∧ x < 256 ∧ l.take (k + 1) = l.take k ++ [x] ∧ w.cell? ⟨b, o + k, none⟩ = some (.int .u8 (x : Nat)) := by
  obtain ⟨hl, hb, hc⟩ := h
  obtain ⟨b, o, rfl, hd⟩ := hc (by omega)
  have hk' : k < l.length := by omega
  refine ⟨b, o, l[k], rfl, hb _ (List.getElem_mem hk'), ?_, ?_⟩
  · rw [List.take_succ_eq_append_getElem hk']
  · rw [hd k hk]; simp [List.getD, hk']

theorem take_bytes {l : List Nat} (h : ∀ b ∈ l, b < 256) (k : Nat) : ∀ b ∈ l.take k, b < 256 := fun b hb => h b (List.mem_of_mem_take hb)

theorem xor_i (a b : Nat) (ha : a < 4294967296) (hb : b < 4294967296) : bits .xor .u32 (a : Int) (b : Int) = ((a ^^^ b : Nat) : Int) := u32_xor_nat a b ha hb
theorem and1_i (a : Nat) (ha : a < 4294967296) : bits .and .u32 (a : Int) 1 = ((a % 2 : Nat) : Int) := by
  have := u32_and_nat a 1 ha (by omega)
  rw [nat_mask1] at this
  exact this

theorem poly_i (a : Nat) (ha : a < 4294967296) : bits .xor .u32 ((a : Int) / 2) 3988292384 = ((a / 2 ^^^ 3988292384 : Nat) : Int) := by
  have := u32_xor_nat (a / 2) 3988292384 (by omega) (by omega)
  exact this

set_option maxHeartbeats 1000000 in
theorem crc_any (A : Option Addr) (n c : Nat) (l : List Nat) (w : World) (h : Bytes w A n l) (hn : n ≤ maxLen) :
    Calls Tryz.prog 66 #[.slice A n c] w fun e w' => e = .returned (.int .u32 ((crcRun l ^^^ 4294967295 : Nat) : Int)) ∧ w = w' := by
  unfold maxLen at hn
  have HB := Lib.hid h
  have hlen := Lib.hid h.1
  have hb256 := Lib.hid h.2.1
  clear h
  go_enter Tryz.func66, Tryz.ntmps66
  go_wp2
  go_loop [3, 5, 6, 9] (fun s _ _ i => ∃ k : Nat, k ≤ n ∧ i = .int .i64 k ∧ s = .int .u32 (crcRun (l.take k) : Nat)) (fun _ _ _ i => n - (intOf i).toNat)
  case atStart => exact ⟨0, Nat.zero_le _, rfl, rfl⟩
  case round =>
    obtain ⟨k, hk, rfl, rfl⟩ := hrel
    by_cases hlt : k < n
    · obtain ⟨b, o, x, rfl, hx, htk, hcell⟩ := Bytes_at2 HB.out hlt
      have HT := Lib.hid htk
      clear htk
      have hC : crcRun (l.take k) < 4294967296 := crcRun_lt (take_bytes hb256.out k)
      have HX := Lib.hid (xor_i (crcRun (l.take k)) x hC (by omega))
      have HN : Hid (crcRun (l.take (k + 1)) = crcTurn (crcRun (l.take k)) x) := by rw [HT.out, crcRun_snoc]; exact rfl
      generalize crcRun (l.take k) = C at *
      have hX : C ^^^ x < 4294967296 := xor_lt32 hC (by omega)
      go_wp2
      rw [HX.out]
      go_loop [3, 6, 17] (fun s _ i => ∃ j : Nat, j ≤ 8 ∧ i = .int .i64 j ∧ s = .int .u32 (crcSteps (C ^^^ x) j : Nat)) (fun _ _ i => 8 - (intOf i).toNat)
      case atStart => exact ⟨0, Nat.zero_le _, rfl, rfl⟩
      case round =>
        obtain ⟨j, hj, rfl, rfl⟩ := hrel
        have hS : crcSteps (C ^^^ x) j < 4294967296 := crcSteps_lt hX j
        by_cases hj8 : j < 8
        · have HS : Hid (crcSteps (C ^^^ x) (j + 1) = crcStep (crcSteps (C ^^^ x) j)) := rfl
          generalize crcSteps (C ^^^ x) j = S at *
          have HA := Lib.hid (and1_i S hS)
          have HP := Lib.hid (poly_i S hS)
          by_cases hp : S % 2 = 1
          · have hA : bits .and .u32 (S : Int) 1 = 1 := by rw [HA.out, hp]; rfl
            go_wp2
            go_round
            case rel => exact ⟨j + 1, by omega, by go_num, by rw [HS.out, crcStep, if_pos hp]; exact congrArg _ HP.out⟩
            case measure => simp [intOf]; omega
          · have hA : bits .and .u32 (S : Int) 1 = 0 := by rw [HA.out, show S % 2 = 0 by omega]; rfl
            go_wp2
            go_round
            case rel => exact ⟨j + 1, by omega, by go_num, by rw [HS.out, crcStep, if_neg hp]; rfl⟩
            case measure => simp [intOf]; omega
        · obtain rfl : j = 8 := by omega
          go_wp2
          go_round
          case rel => exact ⟨k + 1, by omega, by go_num, by rw [HN.out, crcTurn]⟩
          case measure => simp [intOf]; omega
    · obtain rfl : k = n := by omega
      have hC : crcRun (l.take k) < 4294967296 := crcRun_lt (take_bytes hb256.out k)
      have HX := Lib.hid (xor_i (crcRun (l.take k)) 4294967295 hC (by omega))
      go_wp2
      go_ret
      refine ⟨ret_int ?_, rfl⟩
      have e : l.take k = l := List.take_of_length_le (by have := hlen.out; omega)
      have h := HX.out
      rw [e] at h ⊢
      exact h


theorem Bytes_lit (w : World) (l : List Nat) (hl : ∀ b ∈ l, b < 256) (e : TypeId) (m : Nat × Nat) :
    Bytes (w.alloc (.cells (l.map fun b => Value.int .u8 (b : Nat)).toArray e m)) (some ⟨w.heap.size, 0, none⟩) l.length l := by
  refine ⟨rfl, hl, fun _ => ⟨_, _, rfl, fun i hi => ?_⟩⟩
  rw [World.cell?_alloc_mark]
  simp [List.getD, hi]

theorem poly64_i (a : Nat) (ha : a < 4294967296) : bits .xor .u64 ((a : Int) / 2) 3988292384 = ((a / 2 ^^^ 3988292384 : Nat) : Int) := by
  have := u64_xor_nat (a / 2) 3988292384 (by omega) (by omega)
  exact this
theorem end_i (a : Nat) (ha : a < 4294967296) : bits .xor .u64 (a : Int) 4294967295 % 4294967296 = ((a ^^^ 4294967295 : Nat) : Int) := by
  have h := u64_xor_nat a 4294967295 (by omega) (by omega)
  have h2 : a ^^^ 4294967295 < 4294967296 := xor_lt32 ha (by omega)
  have h3 : bits .xor .u64 (a : Int) 4294967295 = ((a ^^^ 4294967295 : Nat) : Int) := h
  rw [h3]
  omega
theorem bit_i (S x j : Nat) (hS : S < 4294967296) (hx : x < 256) : bits .xor .u64 (bits .and .u64 (S : Int) 1) (IntKind.u64.wrap (bits .and .u8 ((x : Int) / 2 ^ j) 1)) = (((S % 2) ^^^ (x / 2 ^ j % 2) : Nat) : Int) := by
  have h1 : bits .and .u64 (S : Int) 1 = ((S % 2 : Nat) : Int) := by
    have := u64_and_nat S 1 (by omega) (by omega)
    rw [nat_mask1] at this
    exact this
  have hd : x / 2 ^ j < 256 := Nat.lt_of_le_of_lt (Nat.div_le_self _ _) hx
  have h2 : bits .and .u8 ((x : Int) / 2 ^ j) 1 = ((x / 2 ^ j % 2 : Nat) : Int) := by
    have := u8_and_nat (x / 2 ^ j) 1 hd (by omega)
    rw [nat_mask1] at this
    rw [← this]
    simp
  have h3 : IntKind.u64.wrap ((x / 2 ^ j % 2 : Nat) : Int) = ((x / 2 ^ j % 2 : Nat) : Int) := by
    have : x / 2 ^ j % 2 < 2 := Nat.mod_lt _ (by omega)
    simp only [IntKind.wrap, IntKind.bits, IntKind.signed]
    simp
    omega
  rw [h1, h2, h3]
  have h4 : x / 2 ^ j % 2 < 2 := Nat.mod_lt _ (by omega)
  exact u64_xor_nat _ _ (by omega) (by omega)

set_option maxHeartbeats 1000000 in
theorem crcRef_any (A : Option Addr) (n c : Nat) (l : List Nat) (w : World) (h : Bytes w A n l) (hn : n ≤ maxLen) :
    Calls Tryz.prog 93 #[.slice A n c] w fun e w' => e = .returned (.int .u32 ((crcSlow l ^^^ 4294967295 : Nat) : Int)) ∧ w = w' := by
  unfold maxLen at hn
  have HB := Lib.hid h
  have hlen := Lib.hid h.1
  have hb256 := Lib.hid h.2.1
  clear h
  go_enter Tryz.func93, Tryz.ntmps93
  go_wp2
  go_loop [3, 4, 5, 6, 9] (fun s _ _ _ i => ∃ k : Nat, k ≤ n ∧ i = .int .i64 k ∧ s = .int .u64 (crcSlow (l.take k) : Nat)) (fun _ _ _ _ i => n - (intOf i).toNat)
  case atStart => exact ⟨0, Nat.zero_le _, rfl, rfl⟩
  case round =>
    obtain ⟨k, hk, rfl, rfl⟩ := hrel
    by_cases hlt : k < n
    · obtain ⟨b, o, x, rfl, hx, htk, hcell⟩ := Bytes_at2 HB.out hlt
      have HT := Lib.hid htk
      clear htk
      have hC : crcSlow (l.take k) < 4294967296 := crcSlow_lt (take_bytes hb256.out k)
      have HN : Hid (crcSlow (l.take (k + 1)) = bitSteps x (crcSlow (l.take k)) 8) := by rw [HT.out, crcSlow_snoc]; exact rfl
      generalize crcSlow (l.take k) = C at *
      go_wp2
      go_loop [3, 5, 6, 12] (fun s _ _ i => ∃ j : Nat, j ≤ 8 ∧ i = .int .i64 j ∧ s = .int .u64 (bitSteps x C j : Nat)) (fun _ _ _ i => 8 - (intOf i).toNat)
      case atStart => exact ⟨0, Nat.zero_le _, rfl, rfl⟩
      case round =>
        obtain ⟨j, hj, rfl, rfl⟩ := hrel
        have hS : bitSteps x C j < 4294967296 := bitSteps_lt hC j
        by_cases hj8 : j < 8
        · have HS : Hid (bitSteps x C (j + 1) = bitStep x (bitSteps x C j) j) := rfl
          generalize bitSteps x C j = S at *
          have HI := Lib.hid (bit_i S x j hS hx)
          have HP := Lib.hid (poly64_i S hS)
          by_cases hp : (S % 2) ^^^ (x / 2 ^ j % 2) = 1
          · have hA : (bits .xor .u64 (bits .and .u64 (S : Int) 1) (IntKind.u64.wrap (bits .and .u8 ((x : Int) / 2 ^ j) 1)) == 1) = true := by rw [HI.out, hp]; rfl
            go_wp2
            go_round
            case rel => exact ⟨j + 1, by omega, by go_num, by rw [HS.out, bitStep, if_pos hp]; exact congrArg _ HP.out⟩
            case measure => simp [intOf]; omega
          · have hA : (bits .xor .u64 (bits .and .u64 (S : Int) 1) (IntKind.u64.wrap (bits .and .u8 ((x : Int) / 2 ^ j) 1)) == 1) = false := by rw [HI.out]; exact beq_eq_false_iff_ne.2 (by omega)
            go_wp2
            go_round
            case rel => exact ⟨j + 1, by omega, by go_num, by rw [HS.out, bitStep, if_neg hp]; rfl⟩
            case measure => simp [intOf]; omega
        · obtain rfl : j = 8 := by omega
          go_wp2
          go_round
          case rel => exact ⟨k + 1, by omega, by go_num, by rw [HN.out]⟩
          case measure => simp [intOf]; omega
    · obtain rfl : k = n := by omega
      have hC : crcSlow (l.take k) < 4294967296 := crcSlow_lt (take_bytes hb256.out k)
      have HX := Lib.hid (end_i (crcSlow (l.take k)) hC)
      go_wp2
      go_ret
      refine ⟨ret_int ?_, rfl⟩
      have e : l.take k = l := List.take_of_length_le (by have := hlen.out; omega)
      have h := HX.out
      rw [e] at h ⊢
      exact h

/-- The CRC of bytes. -/
def crcOf (l : List Nat) : Nat := crcPlain.crcRun l ^^^ 4294967295
theorem crcOf_lt {l : List Nat} (h : ∀ b ∈ l, b < 256) : crcOf l < 4294967296 := crcPlain.xor_lt32 (crcPlain.crcRun_lt h) (by omega)
theorem crc_prog (A : Option Addr) (n c : Nat) (l : List Nat) (w : World) (h : Bytes w A n l) (hn : n ≤ maxLen) :
    Calls Tryz.prog 66 #[.slice A n c] w fun e w' => e = .returned (.int .u32 (crcOf l : Nat)) ∧ w = w' := crc_any A n c l w h hn
theorem crc_ref (A : Option Addr) (n c : Nat) (l : List Nat) (w : World) (h : Bytes w A n l) (hn : n ≤ maxLen) :
    Calls Tryz.prog 93 #[.slice A n c] w fun e w' => e = .returned (.int .u32 (crcOf l : Nat)) ∧ w = w' := by
  have := crcRef_any A n c l w h hn
  rw [← crcPlain.crcRun_slow h.2.1] at this
  exact this
end Go.Proofs.YtklmbiekpilkhaaGreatDoor.crc
namespace Go.Proofs.YtklmbiekpilkhaaGreatDoor.two
open Go.ChangeShapes Go.WideShapes Go.ChangeAt Go.RowKit
open Go.Proofs.YtklmbiekpilkhaaGreatDoor.codec (Bytes vals vals_append vals_length vals_one OutIs More Made New bytesOf byteAt bytesOf_length bytesOf_lt Fits strOf)
set_option linter.unusedVariables false
set_option maxRecDepth 100000
set_option linter.unusedSimpArgs false

/-- Two Outs beside each other, on blocks of the call's own. -/
def Two (W : World) (P1 : Nat) (l1 F1 : List Nat) (P2 : Nat) (l2 F2 : List Nat) (w : World) : Prop :=
  OutIs w P1 l1 F1 ∧ OutIs w P2 l2 F2 ∧ (∀ k ∈ F1, W.heap.size ≤ k) ∧ (∀ k ∈ F2, W.heap.size ≤ k) ∧ (∀ k ∈ F2, k ∉ F1) ∧ Below W.heap.size W w
def Grew (F : List Nat) (w : World) (F' : List Nat) (w' : World) : Prop := codec.Touch (fun k => k ∈ F) w w' ∧ ∀ k ∈ F', k ∈ F ∨ w.heap.size ≤ k
theorem Two.more1 {W w w' : World} {P1 P2 : Nat} {l1 l2 l1' F1 F2 : List Nat} (h : Two W P1 l1 F1 P2 l2 F2 w) (m : More w P1 l1' F1 w') : ∃ F1', Two W P1 l1' F1' P2 l2 F2 w' ∧ Grew F1 w F1' w' := by
  obtain ⟨h1, h2, h3, h4, h5, h6⟩ := h
  obtain ⟨F', m1, m2, m3⟩ := m
  refine ⟨F', ⟨m1, h2.touch m2 h5, fun k hk => ?_, h4, fun k hk hk' => ?_, ?_⟩, m2, m3⟩
  · rcases m3 k hk with h | h
    · exact h3 k h
    · exact Nat.le_trans h6.size h
  · rcases m3 k hk' with h | h
    · exact h5 k hk h
    · exact absurd (h2.lt k hk) (by omega)
  · exact h6.trans (m2.toBelow W.heap.size h6.size (fun i hi hF => absurd (h3 i hF) (by omega)))
theorem Two.more2 {W w w' : World} {P1 P2 : Nat} {l1 l2 l2' F1 F2 : List Nat} (h : Two W P1 l1 F1 P2 l2 F2 w) (m : More w P2 l2' F2 w') : ∃ F2', Two W P1 l1 F1 P2 l2' F2' w' ∧ Grew F2 w F2' w' := by
  obtain ⟨h1, h2, h3, h4, h5, h6⟩ := h
  obtain ⟨F', ⟨h1', h2', h3', h4', h5', h6'⟩, hg⟩ := Two.more1 (W := W) (P1 := P2) (P2 := P1) (l2 := l1) ⟨h2, h1, h4, h3, fun k a b => h5 k b a, h6⟩ m
  exact ⟨F', ⟨h2', h1', h4', h3', fun k a b => h5' k b a, h6'⟩, hg⟩
theorem Grew.bytes {F F' : List Nat} {w w' : World} {g n : Nat} {o : Nat} {l : List Nat} (h : Grew F w F' w') (hB : Bytes w (some ⟨g, o, none⟩) n l) (hg : g ∉ F) : Bytes w' (some ⟨g, o, none⟩) n l :=
  hB.touch (fun ad e _ => by cases e; exact hg) h.1
theorem Grew.not {F F' : List Nat} {w w' : World} {g : Nat} (h : Grew F w F' w') (hg : g ∉ F) (hlt : g < w.heap.size) : g ∉ F' := fun hh => by
  rcases h.2 g hh with k | k
  · exact hg k
  · omega
theorem Two.below {W w w' : World} {P1 P2 : Nat} {l1 l2 F1 F2 : List Nat} (h : Two W P1 l1 F1 P2 l2 F2 w) (hb : Below w.heap.size w w') : Two W P1 l1 F1 P2 l2 F2 w' :=
  ⟨h.1.below hb, h.2.1.below hb, h.2.2.1, h.2.2.2.1, h.2.2.2.2.1, h.2.2.2.2.2.trans (hb.mono h.2.2.2.2.2.size)⟩
theorem Two.alloc {W w : World} {P1 P2 : Nat} {l1 l2 F1 F2 : List Nat} (h : Two W P1 l1 F1 P2 l2 F2 w) (o : Obj) : Two W P1 l1 F1 P2 l2 F2 (w.alloc o) := h.below ((Below.refl _ _).alloc (Nat.le_refl _) _)
theorem two_start (W : World) : Two W W.heap.size [] [W.heap.size] (W.heap.size + 1) [] [W.heap.size + 1] ((W.alloc (.cells #[.pointer none, .int .i64 0, .bool false] 79)).alloc (.cells #[.pointer none, .int .i64 0, .bool false] 79)) := by
  have h1 := codec.fresh_new W
  have h2 := codec.fresh_new (W.alloc (.cells #[.pointer none, .int .i64 0, .bool false] 79))
  rw [show (W.alloc (.cells #[.pointer none, .int .i64 0, .bool false] 79)).heap.size = W.heap.size + 1 by simp] at h2
  refine ⟨h1.below ((Below.refl _ _).alloc (Nat.le_refl _) _), h2, by simp, by simp, by simp, ((Below.refl _ _).alloc (Nat.le_refl _) _).alloc (by simp) _⟩
theorem Bytes.lit (w : World) (l : List Nat) (hl : ∀ b ∈ l, b < 256) (e : TypeId) (m : Nat × Nat) :
    Bytes (w.alloc (.cells (l.map fun b => Value.int .u8 (b : Nat)).toArray e m)) (some ⟨w.heap.size, 0, none⟩) l.length l := crc.Bytes_lit w l hl e m

theorem lit_at (w : World) (l : List Nat) (hl : ∀ b ∈ l, b < 256) (e : TypeId) (m : Nat × Nat) {g n : Nat} (hg : g = w.heap.size) (hn : l.length = n) :
    Bytes (w.alloc (.cells (vals l).toArray e m)) (some ⟨g, 0, none⟩) n l := by
  subst hg hn
  exact Bytes.lit w l hl e m
theorem fits_i {v n : Nat} (h1 : 1 ≤ n) (h7 : n ≤ 7) (hv : v < 256 ^ n) : Fits (v : Nat) (n : Nat) :=
  ⟨by omega, by omega, by omega, by simpa using (by exact_mod_cast hv : ((v : Nat) : Int) < ((256 ^ n : Nat) : Int))⟩
theorem outN_two {W w : World} {P1 P2 v n : Nat} {l1 l2 F1 F2 : List Nat} (h : Two W P1 l1 F1 P2 l2 F2 w) (hl : l1.length ≤ 9000000) (h1 : 1 ≤ n) (h7 : n ≤ 7) (hv : v < 256 ^ n) :
    Calls Tryz.prog 25 #[.pointer (some ⟨P1, 0, none⟩), .int .i64 v, .int .i64 n] w fun e w' => e = .returned (.tuple #[]) ∧ ∃ F', Two W P1 (l1 ++ bytesOf v n) F' P2 l2 F2 w' ∧ Grew F1 w F' w' :=
  (codec.outN_fits w P1 v n l1 F1 h.1 hl h1 h7 hv).mono fun _ _ ⟨he, hm⟩ => ⟨he, h.more1 hm⟩
theorem outN_two2 {W w : World} {P1 P2 v n : Nat} {l1 l2 F1 F2 : List Nat} (h : Two W P1 l1 F1 P2 l2 F2 w) (hl : l2.length ≤ 9000000) (h1 : 1 ≤ n) (h7 : n ≤ 7) (hv : v < 256 ^ n) :
    Calls Tryz.prog 25 #[.pointer (some ⟨P2, 0, none⟩), .int .i64 v, .int .i64 n] w fun e w' => e = .returned (.tuple #[]) ∧ ∃ F', Two W P1 l1 F1 P2 (l2 ++ bytesOf v n) F' w' ∧ Grew F2 w F' w' :=
  (codec.outN_fits w P2 v n l2 F2 h.2.1 hl h1 h7 hv).mono fun _ _ ⟨he, hm⟩ => ⟨he, h.more2 hm⟩
theorem raw_two {W w : World} {P1 P2 n c : Nat} {l1 l2 m F1 F2 : List Nat} {A : Option Addr} (h : Two W P1 l1 F1 P2 l2 F2 w) (hB : Bytes w A n m) (hn : l1.length + n ≤ 10000000) (hA : A = none → c = 0) (hAp : ∀ ad, A = some ad → 0 < n → ad.block ∉ F1) :
    Calls Tryz.prog 85 #[.pointer (some ⟨P1, 0, none⟩), .slice A n c] w fun e w' => e = .returned (.tuple #[]) ∧ ∃ F', Two W P1 (l1 ++ m) F' P2 l2 F2 w' ∧ Grew F1 w F' w' :=
  (codec.raw_good w P1 l1 F1 A n c m h.1 hB hn hA hAp).mono fun _ _ ⟨he, hm⟩ => ⟨he, h.more1 hm⟩
theorem raw_two2 {W w : World} {P1 P2 n c : Nat} {l1 l2 m F1 F2 : List Nat} {A : Option Addr} (h : Two W P1 l1 F1 P2 l2 F2 w) (hB : Bytes w A n m) (hn : l2.length + n ≤ 10000000) (hA : A = none → c = 0) (hAp : ∀ ad, A = some ad → 0 < n → ad.block ∉ F2) :
    Calls Tryz.prog 85 #[.pointer (some ⟨P2, 0, none⟩), .slice A n c] w fun e w' => e = .returned (.tuple #[]) ∧ ∃ F', Two W P1 l1 F1 P2 (l2 ++ m) F' w' ∧ Grew F2 w F' w' :=
  (codec.raw_good w P2 l2 F2 A n c m h.2.1 hB hn hA hAp).mono fun _ _ ⟨he, hm⟩ => ⟨he, h.more2 hm⟩
theorem end_two {W w : World} {P1 P2 : Nat} {l1 l2 F1 F2 : List Nat} (h : Two W P1 l1 F1 P2 l2 F2 w) (N : Nat) (hN : l1.length = N) (hl : N ≤ 10000000) :
    Calls Tryz.prog 53 #[.pointer (some ⟨P1, 0, none⟩)] w fun e w' => ∃ g, e = .returned (.tuple #[.slice (some ⟨g, 0, none⟩) N N, .int .i64 0]) ∧ Two W P1 l1 F1 P2 l2 F2 w' ∧ Bytes w' (some ⟨g, 0, none⟩) N l1 ∧ w.heap.size ≤ g := by
  subst hN
  exact (codec.end_good w P1 l1 F1 h.1 hl).mono fun _ _ ⟨v, he, hm⟩ => by
    obtain ⟨g, rfl, h1, h2, h3⟩ := hm.bytes
    exact ⟨g, he, h.below h2, h3, h1⟩
theorem end_two2 {W w : World} {P1 P2 : Nat} {l1 l2 F1 F2 : List Nat} (h : Two W P1 l1 F1 P2 l2 F2 w) (hl : l2.length ≤ 10000000) :
    Calls Tryz.prog 53 #[.pointer (some ⟨P2, 0, none⟩)] w fun e w' => ∃ v, e = .returned (.tuple #[v, .int .i64 0]) ∧ Made W l2 v w' :=
  (codec.end_good w P2 l2 F2 h.2.1 hl).mono fun _ _ ⟨v, he, g, hv, h1, h2, h3⟩ => ⟨v, he, g, hv, Nat.le_trans h.2.2.2.2.2.size h1, h.2.2.2.2.2.trans (h2.mono h.2.2.2.2.2.size), h3⟩
theorem all_vals (l : List Nat) : (vals l).toArray.all (·.oneCell') = true := by
  rw [Array.all_eq_true]
  intro i hi
  have := vals_one l (vals l)[i] (List.getElem_mem (by simpa using hi))
  simpa using this
theorem row_bytes {w : World} {g : Nat} {t : TypeId} {l : List Nat} (h : w.heap[g]? = some (.cells (vals l).toArray t (0, 0))) (hl : ∀ b ∈ l, b < 256) (n : Nat) (hn : l.length = n) : Bytes w (some ⟨g, 0, none⟩) n l := by
  refine ⟨hn, hl, fun _ => ⟨g, 0, rfl, fun i hi => ?_⟩⟩
  have hi' : i < l.length := by omega
  simp [World.cell?, h, vals, List.getD, hi']

/-- Bytes of the call's own. -/
def Mine (W : World) (v : Value) (M : List Nat) (w : World) : Prop := w.ownsRow W.heap.size 5 1 v M.length (vals M) ∧ Below W.heap.size W w
theorem Mine.below {W w w' : World} {v : Value} {M : List Nat} (h : Mine W v M w) (hb : Below w.heap.size w w') : Mine W v M w' :=
  ⟨h.1.kept (row := none) ⟨hb.os, hb.tape, hb.output, hb.size, fun i hi _ => hb.block i hi⟩ (by cases hv : v.ownBlock <;> simp), h.2.trans (hb.mono h.2.size)⟩
theorem Mine.alloc {W w : World} {v : Value} {M : List Nat} (h : Mine W v M w) (o : Obj) : Mine W v M (w.alloc o) := h.below ((Below.refl _ _).alloc (Nat.le_refl _) _)
theorem Mine.more {W w w' : World} {v v' : Value} {M M' : List Nat} (h : Mine W v M w) (ho : w'.ownsRow W.heap.size 5 1 v' M'.length (vals M')) (hg : w.grownBy w' v.ownBlock) : Mine W v' M' w' :=
  ⟨ho, h.2.trans ⟨hg.os, hg.tape, hg.output, hg.size, fun i hi => hg.block i (Nat.lt_of_lt_of_le hi h.2.size) (fun e => by have := (h.1.lt _ e.symm).1; omega)⟩⟩
theorem Mine.form {W w : World} {v : Value} {M : List Nat} (h : Mine W v M w) (N : Nat) (hN : M.length = N) (h0 : 0 < N) : ∃ g cap, v = .slice (some ⟨g, 0, none⟩) N cap ∧ N ≤ cap ∧ W.heap.size ≤ g := by
  subst hN
  rcases h.1.2 with ⟨_, h1⟩ | ⟨g, cap, cur, e, hb, _, hc, _⟩
  · omega
  · exact ⟨g, cap, e, hc, hb⟩
theorem Mine.bytes {W w : World} {g N cap : Nat} {M : List Nat} (h : Mine W (.slice (some ⟨g, 0, none⟩) N cap) M w) (hN : M.length = N) (hb : ∀ x ∈ M, x < 256) : Bytes w (some ⟨g, 0, none⟩) N M := codec.own_bytes' h.1 hN hb
theorem own_lit (W : World) (l : List Nat) (B n : Nat) (hn : l.length = n) (hl : n ≤ 1000) (hB : B ≤ W.heap.size) : (W.alloc (.cells (vals l).toArray 5)).ownsRow B 5 1 (.slice (some ⟨W.heap.size, 0, none⟩) n n) l.length (vals l) := by
  subst hn
  refine ⟨by simp [vals], .inr ⟨W.heap.size, l.length, _, rfl, hB, heap_alloc_new W _, Nat.le_refl _, by unfold maxLen; omega, by simp [vals], by rw [List.take_of_length_le] <;> simp [vals]⟩⟩
theorem mine_lit (W : World) (l : List Nat) (n : Nat) (hn : l.length = n) (hl : n ≤ 1000) : Mine W (.slice (some ⟨W.heap.size, 0, none⟩) n n) l (W.alloc (.cells (vals l).toArray 5)) :=
  ⟨own_lit W l _ n hn hl (Nat.le_refl _), (Below.refl _ _).alloc (Nat.le_refl _) _⟩

theorem refBytes_at (w : World) (v n : Nat) (hv : v < 18446744073709551616) (h1 : 1 ≤ n) (hn : n ≤ 100) :
    Calls Tryz.prog 94 #[.int .u64 v, .int .i64 n] w fun e w' => ∃ g, e = .returned (.slice (some ⟨g, 0, none⟩) n n) ∧ Bytes w' (some ⟨g, 0, none⟩) n (bytesOf v n) ∧ Below w.heap.size w w' :=
  (codec.refBytes_any w v n hv h1 hn).mono fun _ _ ⟨he, hr, hb⟩ => ⟨_, he, ⟨by simp [bytesOf], bytesOf_lt v n, fun _ => ⟨_, 0, rfl, fun i hi => by
    have := hr.cell (i := i) hi
    rw [Nat.zero_add, this]
    simp [bytesOf, List.getD, hi]⟩⟩, hb⟩
theorem Mine.drew {W w : World} {v : Value} {M : List Nat} (h : Mine W.drew v M w) : Mine W v M w := ⟨h.1, h.2.os, h.2.tape, h.2.output, h.2.size, h.2.block⟩
end Go.Proofs.YtklmbiekpilkhaaGreatDoor.two
namespace Go.Proofs.YtklmbiekpilkhaaGreatDoor.pg
open Go.ChangeShapes Go.WideShapes Go.ChangeAt Go.RowKit
open Go.Proofs.YtklmbiekpilkhaaGreatDoor.codec (Bytes vals vals_append vals_length vals_one OutIs More Made New bytesOf byteAt bytesOf_length bytesOf_lt Fits strOf)
open Go.Proofs.YtklmbiekpilkhaaGreatDoor.crc (crcOf crcOf_lt crc_prog crc_ref)
open Go.Proofs.YtklmbiekpilkhaaGreatDoor.two
set_option linter.unusedVariables false
set_option maxRecDepth 100000
set_option linter.unusedSimpArgs false

/-- What stands ahead of a page's CRC. -/
def first (k n : Nat) : List Nat := [112, 97, 103, k] ++ bytesOf n 4
theorem first_length (k n : Nat) : (first k n).length = 8 := by simp [first, bytesOf]
theorem first_lt {k n : Nat} (hk : k < 256) : ∀ b ∈ first k n, b < 256 := by
  intro b hb
  rcases List.mem_append.1 hb with h | h
  · simp at h
    omega
  · exact bytesOf_lt _ _ b h
def body (k : Nat) (p : List Nat) : List Nat := first k p.length ++ p
theorem body_length (k : Nat) (p : List Nat) : (body k p).length = 8 + p.length := by simp [body, first_length]
theorem body_lt {k : Nat} {p : List Nat} (hk : k < 256) (hp : ∀ b ∈ p, b < 256) : ∀ b ∈ body k p, b < 256 := by
  intro b hb
  rcases List.mem_append.1 hb with h | h
  · exact first_lt hk b h
  · exact hp b h
/-- The page of a payload. -/
def pageL (k : Nat) (p : List Nat) : List Nat := body k p ++ bytesOf (crcOf (body k p)) 4
theorem pageL_length (k : Nat) (p : List Nat) : (pageL k p).length = 12 + p.length := by simp [pageL, body_length, bytesOf]; omega
theorem pageL_lt {k : Nat} {p : List Nat} (hk : k < 256) (hp : ∀ b ∈ p, b < 256) : ∀ b ∈ pageL k p, b < 256 := by
  intro b hb
  rcases List.mem_append.1 hb with h | h
  · exact body_lt hk hp b h
  · exact bytesOf_lt _ _ b h

set_option maxHeartbeats 400000 in
theorem isKind_any (w : World) (n : Int) :
    Calls Tryz.prog 65 #[.int .i64 n] w fun e w' => e = .returned (.bool (decide (1 ≤ n ∧ n ≤ 3))) ∧ w = w' := by
  by_cases h1 : 1 ≤ n
  · by_cases h7 : n ≤ 3
    · have : decide (1 ≤ n ∧ n ≤ 3) = true := by simp [h1, h7]
      rw [this]
      go_enter Tryz.func65, Tryz.ntmps65
      go_wp2
      go_ret
      exact ⟨rfl, rfl⟩
    · have : decide (1 ≤ n ∧ n ≤ 3) = false := by simp [h7]
      rw [this]
      go_enter Tryz.func65, Tryz.ntmps65
      go_wp2
      go_ret
      exact ⟨rfl, rfl⟩
  · have : decide (1 ≤ n ∧ n ≤ 3) = false := by simp [h1]
    rw [this]
    go_enter Tryz.func65, Tryz.ntmps65
    go_wp2
    go_ret
    exact ⟨rfl, rfl⟩

set_option maxHeartbeats 2000000 in
/-- The page of a payload that may be. -/
theorem put_good (W : World) (k n c : Nat) (A : Option Addr) (p : List Nat) (h1 : 1 ≤ k) (h3 : k ≤ 3) (hB : Bytes W A n p) (hn : n ≤ 60000) (hA : A = none → c = 0) :
    Calls Tryz.prog 54 #[.int .i64 k, .slice A n c] W fun e w' => ∃ v, e = .returned (.tuple #[v, .int .i64 0]) ∧ Made W (pageL k p) v w' := by
  have hd : decide ((1 : Int) ≤ (k : Nat) ∧ ((k : Nat) : Int) ≤ 3) = true := by simp; omega
  have HB := Lib.hid hB
  have HN := Lib.hid hA
  have HT := Lib.hid (two_start W)
  have hcv := fun (w : World) (C : Array Value) (n c g : Nat) (hg : g = w.heap.size) => Go.Joins.run_convert_bytes_const_at (P := Tryz.prog) w 22 5 C n c g hg Tryz.underlying22 Tryz.underlying5
  clear hB hA
  go_enter Tryz.func54, Tryz.ntmps54
  go_wp2_with (go_at_call 65; refine (isKind_any _ _).mono ?_; rw [hd]; rintro e w1 ⟨rfl, rfl⟩)
  refine (raw_two (HT.out.alloc _) (m := [112, 97, 103]) (lit_at _ [112, 97, 103] (by decide) 5 (3, 4) (by simp) rfl) (by simp) (by simp) (by simp; omega)).mono ?_
  rintro e w1 ⟨rfl, F1, hT1, -⟩
  have HT1 := Lib.hid hT1
  clear hT1 HT
  go_wp2_with fail
  refine (outN_two (v := k) (n := 1) HT1.out (by simp) (by omega) (by omega) (by omega)).mono ?_
  rintro e w2 ⟨rfl, F2, hT2, -⟩
  have HT2 := Lib.hid hT2
  clear hT2 HT1
  go_wp2_with fail
  refine (outN_two (v := n) (n := 4) HT2.out (by simp [bytesOf]) (by omega) (by omega) (by omega)).mono ?_
  rintro e w3 ⟨rfl, F3, hT3, -⟩
  have hf : [] ++ [112, 97, 103] ++ bytesOf k 1 ++ bytesOf n 4 = first k p.length := by
    have := HB.out.1
    rw [this, show bytesOf k 1 = [k] by simp [bytesOf, byteAt]; omega]
    rfl
  rw [hf] at hT3
  have HT3 := Lib.hid hT3
  clear hT3 HT2 hf
  go_wp2_with fail
  have hBw := HB.out.below HB.out.lt HT3.out.2.2.2.2.2
  refine (raw_two HT3.out hBw (by rw [first_length]; omega) HN.out (fun ad e h0 hF => by have h := HB.out.lt ad e h0; have := HT3.out.2.2.1 _ hF; omega)).mono ?_
  rintro e w4 ⟨rfl, F4, hT4, -⟩
  have HT4 := Lib.hid (show Two W W.heap.size (body k p) F4 (W.heap.size + 1) [] [W.heap.size + 1] w4 from hT4)
  clear hT4 HT3 hBw
  have hlp := HB.out.1
  obtain ⟨m, hm⟩ : ∃ m, m = 8 + n := ⟨_, rfl⟩
  have HBL := Lib.hid (show (body k p).length = m by rw [body_length]; omega)
  have hm1 : m ≤ 70000 := by omega
  clear hm hlp
  go_wp2_with fail
  refine (end_two HT4.out m HBL.out (by omega)).mono ?_
  rintro e w5 ⟨g, rfl, hT5, hB5, hg5⟩
  have HG := Lib.hid (show g ∉ [W.heap.size + 1] from fun h => by
    have := HT4.out.2.1.lt _ h
    omega)
  have HT5 := Lib.hid hT5
  have HB5 := Lib.hid hB5
  clear hT5 HT4 hB5 hg5
  go_wp2_with fail
  refine (raw_two2 HT5.out HB5.out (by simp; omega) (fun e => by cases e) (fun ad e _ => by cases e; exact HG.out)).mono ?_
  rintro e w7 ⟨rfl, F7, hT7, hg7⟩
  rw [List.nil_append] at hT7
  have HT7 := Lib.hid hT7
  have HB7 := Lib.hid (hg7.bytes HB5.out HG.out)
  clear hT7 hg7 HT5 HB5 HG
  have hcl := crcOf_lt (l := body k p) (body_lt (by omega) HB.out.2.1)
  have HC := Lib.hid (crc_prog (some ⟨g, 0, none⟩) m m (body k p) w7 HB7.out (by unfold maxLen; omega))
  generalize hCe : crcOf (body k p) = C at *
  have HCe := Lib.hid hCe
  clear hCe
  go_wp2_with (go_at_call 66; refine HC.out.mono ?_; rintro e w8 ⟨rfl, rfl⟩)
  refine (outN_two2 (v := C) (n := 4) HT7.out (by rw [HBL.out]; omega) (by omega) (by omega) (by omega)).mono ?_
  rintro e w9 ⟨rfl, F9, hT9, hg9⟩
  have HT9 := Lib.hid hT9
  clear hT9 hg9 HT7 HB7 HC
  go_wp2_with fail
  refine (end_two2 HT9.out (by rw [List.length_append, HBL.out, bytesOf_length]; omega)).mono ?_
  rintro e w11 ⟨v, rfl, hM⟩
  have HM := Lib.hid hM
  clear hM HT9
  go_wp2_with fail
  go_ret2
  refine ⟨v, rfl, ?_⟩
  have := HM.out
  rw [← HCe.out] at this
  unfold pageL
  exact this

set_option maxHeartbeats 400000 in
theorem put_long (W : World) (k n c : Nat) (A : Option Addr) (h1 : 1 ≤ k) (h3 : k ≤ 3) (hn : 60000 < n) :
    Calls Tryz.prog 54 #[.int .i64 k, .slice A n c] W fun e w' => e = .returned (.tuple #[.slice none 0 0, .int .i64 3]) ∧ W = w' := by
  have hd : decide ((1 : Int) ≤ (k : Nat) ∧ ((k : Nat) : Int) ≤ 3) = true := by simp; omega
  go_enter Tryz.func54, Tryz.ntmps54
  go_wp2_with (go_at_call 65; refine (isKind_any _ _).mono ?_; rw [hd]; rintro e w1 ⟨rfl, rfl⟩)
  go_ret2
  exact ⟨rfl, rfl⟩
set_option maxHeartbeats 400000 in
theorem put_arg (W : World) (k : Int) (n c : Nat) (A : Option Addr) (hk : ¬ (1 ≤ k ∧ k ≤ 3)) :
    Calls Tryz.prog 54 #[.int .i64 k, .slice A n c] W fun e w' => e = .returned (.tuple #[.slice none 0 0, .int .i64 1]) ∧ W = w' := by
  have hd : decide ((1 : Int) ≤ k ∧ k ≤ 3) = false := by simpa using hk
  clear hk
  go_enter Tryz.func54, Tryz.ntmps54
  go_wp2_with (go_at_call 65; refine (isKind_any _ _).mono ?_; rw [hd]; rintro e w1 ⟨rfl, rfl⟩)
  go_ret2
  exact ⟨rfl, rfl⟩
end Go.Proofs.YtklmbiekpilkhaaGreatDoor.pg
namespace Go.Proofs.YtklmbiekpilkhaaGreatDoor.pg
open Go.ChangeShapes Go.WideShapes Go.ChangeAt Go.RowKit
open Go.Proofs.YtklmbiekpilkhaaGreatDoor.codec (Bytes vals vals_append vals_length vals_one OutIs More Made New bytesOf byteAt bytesOf_length bytesOf_lt Fits strOf)
open Go.Proofs.YtklmbiekpilkhaaGreatDoor.crc (crcOf crcOf_lt crc_prog crc_ref)
open Go.Proofs.YtklmbiekpilkhaaGreatDoor.two
open Go.Proofs.YtklmbiekpilkhaaGreatDoor.rd
set_option linter.unusedVariables false
set_option maxRecDepth 100000
set_option linter.unusedSimpArgs false

/-- The length that bytes tell. -/
def told (l : List Nat) : Nat := codec.numOf (got 4 (rest 1 (rest 3 (some l))))
/-- What is left behind the payload's length. -/
def left4 (l : List Nat) : Option (List Nat) := rest 4 (rest 1 (rest 3 (some l)))
def payL (l : List Nat) : List Nat := got (told l) (left4 l)
/-- The bytes are formed as a page of a kind. -/
def Formed (k : Int) (l : List Nat) : Prop := got 3 (some l) = [112, 97, 103] ∧ (1 ≤ k ∧ k ≤ 3) ∧ ((codec.numOf (got 1 (rest 3 (some l))) : Nat) : Int) = k ∧ rest 4 (rest (told l) (left4 l)) = some []
theorem rest_some {k : Nat} {L : Option (List Nat)} {m : List Nat} (h : rest k L = some m) : ∃ l, L = some l ∧ k ≤ l.length ∧ m = l.drop k ∧ got k L = l.take k := by
  cases L with
  | none => simp [rest] at h
  | some l =>
    simp only [rest] at h
    split at h
    · cases h
      exact ⟨l, rfl, by assumption, rfl, by simp [got]; omega⟩
    · simp at h
theorem num_one {a : Nat} : codec.numOf [a] = a := by simp [codec.numOf, codec.numFrom]
theorem num4_bytes (l : List Nat) (h4 : l.length = 4) (hl : ∀ b ∈ l, b < 256) : bytesOf (codec.numOf l) 4 = l := by
  match l, h4 with
  | [a, b, c, d], _ =>
    have ha := hl a (by simp)
    have hb := hl b (by simp)
    have hc := hl c (by simp)
    have hd := hl d (by simp)
    simp only [bytesOf, byteAt, codec.numOf, codec.numFrom, List.range, List.range.loop, List.map, List.foldl]
    simp only [List.cons.injEq, and_true]
    refine ⟨?_, ?_, ?_, ?_⟩ <;> omega
theorem formed_is {k : Int} {l : List Nat} (hl : ∀ b ∈ l, b < 256) (h : Formed k l) : ∃ m : Nat, k = m ∧ 1 ≤ m ∧ m ≤ 3 ∧ 12 ≤ l.length ∧ l.take (l.length - 4) = body m (payL l) ∧ got 4 (rest (told l) (left4 l)) = l.drop (l.length - 4) ∧ l.length = 12 + (payL l).length := by
  obtain ⟨h3, ⟨hk1, hk3⟩, hkd, hr⟩ := h
  obtain ⟨l4, e4, n4, d4, g4⟩ := rest_some hr
  obtain ⟨lp, ep, np, dp, gp⟩ := rest_some e4
  have ep' : rest 4 (rest 1 (rest 3 (some l))) = some lp := ep
  obtain ⟨ln, en, nn, dn, gn⟩ := rest_some ep'
  obtain ⟨lk, ek, nk, dk, gk⟩ := rest_some en
  obtain ⟨l0, e0, n0, d0, g0⟩ := rest_some ek
  cases e0
  rw [g0] at h3
  rw [gk] at hkd
  have hlen4 : l4.length = 4 := by
    have := congrArg List.length d4
    simp at this
    omega
  obtain ⟨m, rfl⟩ := Int.eq_ofNat_of_zero_le (show 0 ≤ k by omega)
  have et : told l = codec.numOf (ln.take 4) := by unfold told; rw [gn]
  have epy : payL l = lp.take (told l) := by unfold payL; exact gp
  have hpl : (payL l).length = told l := by rw [epy]; simp; omega
  obtain ⟨a, hlk⟩ : ∃ a, lk.take 1 = [a] := by
    match lk, nk with
    | a :: r, _ => exact ⟨a, rfl⟩
  have ham : a = m := by
    rw [hlk, num_one] at hkd
    omega
  subst ham
  have s0 : l = [112, 97, 103] ++ lk := by rw [← h3, d0, List.take_append_drop]
  have s1 : lk = [a] ++ ln := by rw [← hlk, dk, List.take_append_drop]
  have hln : ∀ b ∈ ln, b < 256 := fun b hb => hl b (by rw [s0, s1]; simp [hb])
  have s2 : ln = bytesOf (told l) 4 ++ lp := by
    rw [et, num4_bytes (ln.take 4) (by simp; omega) (fun b hb => hln b (List.mem_of_mem_take hb)), dn, List.take_append_drop]
  have s3 : lp = payL l ++ l4 := by rw [epy, dp, List.take_append_drop]
  have s : l = body a (payL l) ++ l4 := by
    have : l = [112, 97, 103] ++ ([a] ++ (bytesOf (told l) 4 ++ (payL l ++ l4))) := by rw [← s3, ← s2, ← s1]; exact s0
    unfold body first
    rw [hpl]
    simpa using this
  have hll : l.length = 12 + (payL l).length := by
    have := congrArg List.length s
    rw [List.length_append, body_length, hlen4] at this
    omega
  have hn12 : 12 ≤ l.length := by omega
  generalize payL l = P at s hll ⊢
  refine ⟨a, rfl, by omega, by omega, hn12, ?_, ?_, hll⟩
  · rw [hll, s]
    rw [List.take_append_of_le_length (by rw [body_length]; omega), List.take_of_length_le (by rw [body_length]; omega)]
  · rw [g4, List.take_of_length_le (by omega), hll, s]
    rw [List.drop_append_of_le_length (by rw [body_length]; omega), List.drop_of_length_le (by rw [body_length]; omega), List.nil_append]
theorem rest_app (a b : List Nat) (k : Nat) (h : a.length = k) : rest k (some (a ++ b)) = some b ∧ got k (some (a ++ b)) = a := by
  subst h
  simp [rest, got]
theorem page_formed {m : Nat} {p : List Nat} (h1 : 1 ≤ m) (h3 : m ≤ 3) (hn : p.length < 4294967296) : Formed m (pageL m p) ∧ payL (pageL m p) = p := by
  have e : pageL m p = [112, 97, 103] ++ ([m] ++ (bytesOf p.length 4 ++ (p ++ bytesOf (crcOf (body m p)) 4))) := by simp [pageL, body, first]
  have e3 := rest_app [112, 97, 103] ([m] ++ (bytesOf p.length 4 ++ (p ++ bytesOf (crcOf (body m p)) 4))) 3 rfl
  have e1 := rest_app [m] (bytesOf p.length 4 ++ (p ++ bytesOf (crcOf (body m p)) 4)) 1 rfl
  have e4 := rest_app (bytesOf p.length 4) (p ++ bytesOf (crcOf (body m p)) 4) 4 (by simp [bytesOf])
  have ep := rest_app p (bytesOf (crcOf (body m p)) 4) p.length rfl
  have ec := rest_app (bytesOf (crcOf (body m p)) 4) [] 4 (by simp [bytesOf])
  rw [List.append_nil] at ec
  have ht : told (pageL m p) = p.length := by
    unfold told
    rw [e, e3.1, e1.1, e4.2, codec.numOf_bytes _ 4 (by omega)]
  have hl : left4 (pageL m p) = some (p ++ bytesOf (crcOf (body m p)) 4) := by
    unfold left4
    rw [e, e3.1, e1.1, e4.1]
  refine ⟨⟨?_, by omega, ?_, ?_⟩, ?_⟩
  · rw [e, e3.2]
  · rw [e, e3.1, e1.2, num_one]
  · rw [ht, hl, ep.1, ec.1]
  · unfold payL
    rw [ht, hl, ep.2]
/-- The bytes are a page of a kind. -/
def IsPage (k : Int) (l : List Nat) : Prop := ∃ (m : Nat) (p : List Nat), k = m ∧ 1 ≤ m ∧ m ≤ 3 ∧ l = pageL m p
theorem num4_lt {l : List Nat} (hl : ∀ b ∈ l, b < 256) (k : Nat) (L : Option (List Nat)) (hL : ∀ m, L = some m → ∀ b ∈ m, b < 256) : codec.numOf (got 4 L) < 4294967296 := by
  cases L with
  | none => simp [got, codec.numOf, codec.numFrom]
  | some m =>
    simp only [got]
    split
    · exact codec.numOf_lt m (hL m rfl) 4
    · simp [codec.numOf, codec.numFrom]
/-- A page is what is formed, and has the right CRC. -/
theorem isPage_iff {k : Int} {l : List Nat} (hl : ∀ b ∈ l, b < 256) (hn : l.length < 4294967296) :
    IsPage k l ↔ Formed k l ∧ codec.numOf (got 4 (rest (told l) (left4 l))) = crcOf (l.take (l.length - 4)) := by
  constructor
  · rintro ⟨m, p, rfl, h1, h3, rfl⟩
    have hp : p.length < 4294967296 := by rw [pageL_length] at hn; omega
    have hf := page_formed (p := p) h1 h3 hp
    refine ⟨hf.1, ?_⟩
    obtain ⟨m', e, _, _, _, h5, h6, h7⟩ := formed_is hl hf.1
    rw [h6, h5, hf.2]
    obtain rfl : m = m' := by omega
    have : (pageL m p).drop ((pageL m p).length - 4) = bytesOf (crcOf (body m p)) 4 := by
      rw [pageL_length, show 12 + p.length - 4 = (body m p).length by rw [body_length]; omega]
      unfold pageL
      rw [List.drop_left]
    rw [this, codec.numOf_bytes _ 4 (crcOf_lt (body_lt (by omega) (fun b hb => hl b (by unfold pageL body; simp [hb]))))]
  · rintro ⟨hf, hc⟩
    obtain ⟨m, rfl, h1, h3, h12, h5, h6, h7⟩ := formed_is hl hf
    refine ⟨m, payL l, rfl, h1, h3, ?_⟩
    unfold pageL
    rw [← h5, ← hc, h6, num4_bytes _ (by simp; omega) (fun b hb => hl b (List.mem_of_mem_drop hb)), List.take_append_drop]
theorem isPage_pay {k : Int} {l : List Nat} (hl : ∀ b ∈ l, b < 256) (hn : l.length < 4294967296) (h : IsPage k l) : ∃ m : Nat, k = m ∧ 1 ≤ m ∧ m ≤ 3 ∧ l = pageL m (payL l) := by
  obtain ⟨m, p, rfl, h1, h3, rfl⟩ := h
  have hp : p.length < 4294967296 := by rw [pageL_length] at hn; omega
  exact ⟨m, rfl, h1, h3, by rw [(page_formed h1 h3 hp).2]⟩
end Go.Proofs.YtklmbiekpilkhaaGreatDoor.pg
namespace Go.Proofs.YtklmbiekpilkhaaGreatDoor.pg
open Go.ChangeShapes Go.WideShapes Go.ChangeAt Go.RowKit
open Go.Proofs.YtklmbiekpilkhaaGreatDoor.codec (Bytes vals vals_append vals_length vals_one OutIs More Made New bytesOf byteAt bytesOf_length bytesOf_lt Fits strOf)
open Go.Proofs.YtklmbiekpilkhaaGreatDoor.crc (crcOf crcOf_lt crc_prog crc_ref)
open Go.Proofs.YtklmbiekpilkhaaGreatDoor.two
open Go.Proofs.YtklmbiekpilkhaaGreatDoor.rd
set_option linter.unusedVariables false
set_option maxRecDepth 100000
set_option linter.unusedSimpArgs false

/-- The answer of Get. -/
def GotPage (W : World) (k : Int) (l : List Nat) (e : Ending) (w' : World) : Prop :=
  Below W.heap.size W w' ∧ ((IsPage k l ∧ ∃ g m, m = (payL l).length ∧ e = .returned (.tuple #[.slice (some ⟨g, 0, none⟩) m m, .int .i64 0]) ∧ W.heap.size ≤ g ∧ Bytes w' (some ⟨g, 0, none⟩) m (payL l)) ∨
    (¬ IsPage k l ∧ e = .returned (.tuple #[.slice none 0 0, .int .i64 9])))
set_option maxHeartbeats 2000000 in
theorem get_any (W : World) (k : Int) (n c : Nat) (A : Option Addr) (l : List Nat) (hB : Bytes W A n l) (hn : n ≤ 10000000) (hc : n ≤ c) :
    Calls Tryz.prog 37 #[.int .i64 k, .slice A n c] W fun e w' => GotPage W k l e w' := by
  have hl := hB.2.1
  have hlen := hB.1
  have hiff := isPage_iff (k := k) hl (by omega)
  obtain ⟨T, hT⟩ : ∃ T, T = strOf (got 3 (some l)) := ⟨_, rfl⟩
  obtain ⟨b, hb⟩ : ∃ b, b = decide (got 3 (some l) = [112, 97, 103]) := ⟨_, rfl⟩
  have hg3 : ∀ x ∈ got 3 (some l), x < 256 := by
    intro x hx
    simp only [got] at hx
    split at hx
    · exact hl x (List.mem_of_mem_take hx)
    · simp at hx
  have heq : (T.toList == (⟨#[112, 97, 103]⟩ : ByteArray).data.toList) = b := by
    by_cases h : got 3 (some l) = [112, 97, 103]
    · rw [hb, hT, h, ByteArray.toList_eq]
      decide
    · rw [hb, decide_eq_false h]
      exact str_ne (fun e => h (codec.strOf_inj hg3 (by decide) (hT.symm.trans e)))
  have HB := Lib.hid hB
  have HI := Lib.hid hiff
  have HTq := Lib.hid hT
  have Hb := Lib.hid hb
  have HL := Lib.hid hl
  have Hlen := Lib.hid hlen
  clear hB hiff hT hb hg3 hl hlen
  have hm1 : ∀ m, some l = some m → ∀ b ∈ m, b < 256 := fun m h => by cases h; exact HL.out
  have HL1 := Lib.hid (rest_lt 3 hm1)
  have HL2 := Lib.hid (rest_lt 1 HL1.out)
  have HL3 := Lib.hid (rest_lt 4 HL2.out)
  have HL4 := Lib.hid (rest_lt (told l) HL3.out)
  go_enter Tryz.func37, Tryz.ntmps37
  go_wp2_with fail
  refine (rd_new W A n c l HB.out hn).mono ?_
  rintro e w1 ⟨q, g, rfl, hR⟩
  have HR1 := Lib.hid hR
  have H3 := Lib.hid (rd_Raw hR 3 hm1)
  clear hR hm1
  go_wp2_with fail
  refine H3.out.mono ?_
  rintro e w2 ⟨g2, m2, hm2, rfl, hg2, hB2, hR2, -⟩
  have c1 : (convert 22 9 (.slice (some ⟨g2, 0, none⟩) m2 m2)).run Tryz.prog w2 = .ok (.string T) w2 := by rw [HTq.out]; exact hB2.text m2
  have HR2 := Lib.hid hR2
  clear hm2 hB2 hR2 HR1 H3 hg2
  go_wp2_with fail
  clear c1
  refine (rd_N HR2.out 1 (by omega) (by omega)).mono ?_
  rintro e w3 ⟨rfl, hR3, -⟩
  have HR3 := Lib.hid hR3
  obtain ⟨kd, hkd⟩ : ∃ kd, kd = codec.numOf (got 1 (rest 3 (some l))) := ⟨_, rfl⟩
  rw [← hkd]
  have Hkd := Lib.hid hkd
  clear hR3 HR2 hkd
  go_wp2_with fail
  refine (rd_N HR3.out 4 (by omega) (by omega)).mono ?_
  rintro e w4 ⟨rfl, hR4, -⟩
  have HR4 := Lib.hid hR4
  obtain ⟨ln, hln⟩ : ∃ ln, ln = told l := ⟨_, rfl⟩
  rw [show codec.numOf (got 4 (rest 1 (rest 3 (some l)))) = ln from hln.symm]
  have Hln := Lib.hid hln
  clear hR4 HR3 hln
  go_wp2_with fail
  refine (rd_Raw HR4.out ln HL3.out).mono ?_
  rintro e w5 ⟨g5, m5, hm5, rfl, hg5, hB5, hR5, -⟩
  have HR5 := Lib.hid hR5
  have HB5 := Lib.hid hB5
  have Hm5 := Lib.hid hm5
  have HG5 := Lib.hid (show W.heap.size ≤ g5 from Nat.le_trans HR4.out.bel.size hg5)
  clear hR5 HR4 hm5 hB5 hg5
  go_wp2_with fail
  refine (rd_N HR5.out 4 (by omega) (by omega)).mono ?_
  rintro e w6 ⟨rfl, hR6, ht6⟩
  have HR6 := Lib.hid hR6
  have HB6 := Lib.hid (keep HR5.out HB5.out ht6)
  obtain ⟨cr, hcr⟩ : ∃ cr, cr = codec.numOf (got 4 (rest ln (rest 4 (rest 1 (rest 3 (some l)))))) := ⟨_, rfl⟩
  have hcr4 : cr < 4294967296 := by rw [hcr]; exact num4_lt HL.out 4 _ (by rw [Hln.out]; exact HL4.out)
  rw [← hcr]
  have Hcr := Lib.hid hcr
  clear hR6 HR5 ht6 hcr HB5
  have HF : Hid (Formed k l ↔ b = true ∧ (1 ≤ k ∧ k ≤ 3) ∧ ((kd : Nat) : Int) = k ∧ rest 4 (rest ln (rest 4 (rest 1 (rest 3 (some l))))) = some []) := by
    show _ ↔ _
    rw [Hb.out, Hkd.out, Hln.out, decide_eq_true_eq]
    exact Iff.rfl
  obtain ⟨L6, hL6⟩ : ∃ L6, L6 = rest 4 (rest ln (rest 4 (rest 1 (rest 3 (some l))))) := ⟨_, rfl⟩
  rw [← hL6] at HF HR6
  have hbad : ¬ Formed k l → ∀ w', Below W.heap.size W w' → GotPage W k l (.returned (.tuple #[.slice none 0 0, .int .i64 9])) w' := fun h w' hb => ⟨hb, .inr ⟨fun hp => h (HI.out.1 hp).1, rfl⟩⟩
  have HBad := Lib.hid hbad
  clear hbad HTq Hkd Hb hL6
  by_cases hb : b = true
  · subst hb
    by_cases hk : 1 ≤ k ∧ k ≤ 3
    · obtain ⟨m, rfl⟩ := Int.eq_ofNat_of_zero_le (show 0 ≤ k by omega)
      have hd : decide ((1 : Int) ≤ (m : Nat) ∧ ((m : Nat) : Int) ≤ 3) = true := by simpa using hk
      by_cases hkm : kd = m
      · subst hkm
        by_cases hL : L6 = some []
        · have hdL : decide (L6 = some []) = true := by simpa using hL
          have hF := HF.out.2 ⟨rfl, hk, rfl, hL⟩
          obtain ⟨m', hmm, h1, h3, h12, h5, h6, h7⟩ := formed_is HL.out hF
          have hlen := Hlen.out
          rw [hlen] at h12 h5 h6
          obtain ⟨bb, oo, rfl, -⟩ := HB.out.2.2 (by omega)
          have HBt := Lib.hid (bytes_take (HB.out.below HB.out.lt HR6.out.bel) (n - 4) (by omega))
          have hcl : crcOf (l.take (n - 4)) < 4294967296 := crcOf_lt (fun x hx => HL.out x (List.mem_of_mem_take hx))
          have HC := Lib.hid (fun c' => crc_prog (some ⟨bb, oo, none⟩) (n - 4) c' _ w6 HBt.out (by unfold maxLen; omega))
          have HIs : Hid (IsPage (kd : Nat) l ↔ cr = crcOf (l.take (n - 4))) := by
            have := HI.out
            show _ ↔ _
            rw [Hcr.out, Hln.out]
            rw [hlen] at this
            exact this.trans ⟨fun h => h.2, fun h => ⟨hF, h⟩⟩
          have HF := Lib.hid hF
          have HP : Hid (got ln (rest 4 (rest 1 (rest 3 (some l)))) = payL l) := by rw [Hln.out]; exact rfl
          clear hF hmm h1 h3 h5 h6 h7 hlen
          generalize hCC : crcOf (l.take (n - 4)) = C at *
          clear hCC
          by_cases hcc : cr = C
          · subst hcc
            have HI1 := Lib.hid (HIs.out.2 rfl)
            go_wp2_with (first | (go_at_call 65; refine (isKind_any _ _).mono ?_; rw [hd]; rintro e w7 ⟨rfl, rfl⟩) | (go_at_call 20; refine (rd_Done HR6.out).mono ?_; rw [hdL]; rintro e w7 ⟨rfl, rfl⟩) | (go_at_call 66; refine (HC.out _).mono ?_; rintro e w7 ⟨rfl, rfl⟩))
            go_ret2
            have hB6 := HB6.out
            have hm5 := Hm5.out
            rw [HP.out] at hB6 hm5
            exact ⟨HR6.out.bel, .inl ⟨HI1.out, g5, m5, hm5, rfl, HG5.out, hB6⟩⟩
          · have HI1 := Lib.hid (show ¬ IsPage (kd : Nat) l from fun h => hcc (HIs.out.1 h))
            go_wp2_with (first | (go_at_call 65; refine (isKind_any _ _).mono ?_; rw [hd]; rintro e w7 ⟨rfl, rfl⟩) | (go_at_call 20; refine (rd_Done HR6.out).mono ?_; rw [hdL]; rintro e w7 ⟨rfl, rfl⟩) | (go_at_call 66; refine (HC.out _).mono ?_; rintro e w7 ⟨rfl, rfl⟩))
            go_ret2
            exact ⟨HR6.out.bel, .inr ⟨HI1.out, rfl⟩⟩
        · have hdL : decide (L6 = some []) = false := by simpa using hL
          have HF' := Lib.hid (show ¬ Formed (kd : Nat) l from fun h => hL (HF.out.1 h).2.2.2)
          go_wp2_with (first | (go_at_call 65; refine (isKind_any _ _).mono ?_; rw [hd]; rintro e w7 ⟨rfl, rfl⟩) | (go_at_call 20; refine (rd_Done HR6.out).mono ?_; rw [hdL]; rintro e w7 ⟨rfl, rfl⟩))
          go_ret2
          exact HBad.out HF'.out _ HR6.out.bel
      · have HF' := Lib.hid (show ¬ Formed (m : Nat) l from fun h => hkm (by have := (HF.out.1 h).2.2.1; omega))
        go_wp2_with (first | (go_at_call 65; refine (isKind_any _ _).mono ?_; rw [hd]; rintro e w7 ⟨rfl, rfl⟩))
        go_ret2
        exact HBad.out HF'.out _ HR6.out.bel
    · have hd : decide (1 ≤ k ∧ k ≤ 3) = false := by simpa using hk
      have HF' := Lib.hid (show ¬ Formed k l from fun h => hk (HF.out.1 h).2.1)
      clear hk
      go_wp2_with (first | (go_at_call 65; refine (isKind_any _ _).mono ?_; rw [hd]; rintro e w7 ⟨rfl, rfl⟩))
      go_ret2
      exact HBad.out HF'.out _ HR6.out.bel
  · have hb' : b = false := by simpa using hb
    subst hb'
    have HF' := Lib.hid (show ¬ Formed k l from fun h => hb (HF.out.1 h).1)
    go_wp2_with fail
    go_ret2
    exact HBad.out HF'.out _ HR6.out.bel
end Go.Proofs.YtklmbiekpilkhaaGreatDoor.pg
namespace Go.Proofs.YtklmbiekpilkhaaGreatDoor.idx
open Go.ChangeShapes Go.WideShapes Go.ChangeAt Go.RowKit
open Go.Proofs.YtklmbiekpilkhaaGreatDoor.row
open Go.Proofs.YtklmbiekpilkhaaGreatDoor.codec (Bytes OutIs More Touch bytesOf bytesOf_length strOf)
open Go.Proofs.YtklmbiekpilkhaaGreatDoor.bod (named nums txt nums_length nums_lt strOf_nums)
set_option linter.unusedVariables false
set_option maxRecDepth 100000
set_option linter.unusedSimpArgs false

/-- An Out at p that has taken l; all else is as it was in W. -/
def Ou (W : World) (p : Nat) (l F : List Nat) (w : World) : Prop := OutIs w p l F ∧ (∀ k ∈ F, W.heap.size ≤ k) ∧ Below W.heap.size W w
theorem Ou.more {W w w' : World} {p : Nat} {l l' F : List Nat} (h : Ou W p l F w) (m : More w p l' F w') : ∃ F', Ou W p l' F' w' := by
  obtain ⟨ho, hF, hb⟩ := h
  obtain ⟨F', o', t, s⟩ := m
  refine ⟨F', o', fun k hk => ?_, hb.trans (t.toBelow _ hb.size fun i hi hf => by have := hF i hf; omega)⟩
  rcases s k hk with h | h
  · exact hF k h
  · have := hb.size
    omega
theorem Ou.below {W w w' : World} {p : Nat} {l F : List Nat} (h : Ou W p l F w) (hb : Below w.heap.size w w') : Ou W p l F w' := ⟨h.1.below hb, h.2.1, h.2.2.trans (hb.mono h.2.2.size)⟩
theorem Ou.alloc {W w : World} {p : Nat} {l F : List Nat} (h : Ou W p l F w) (o : Obj) : Ou W p l F (w.alloc o) := h.below ((Below.refl _ _).alloc (Nat.le_refl _) _)
theorem ou_start {W w : World} (h : Below W.heap.size W w) : Ou W w.heap.size [] [w.heap.size] (w.alloc (.cells #[.pointer none, .int .i64 0, .bool false] 79)) :=
  ⟨codec.fresh_new w, fun k hk => by simp at hk; subst hk; exact h.size, h.alloc h.size _⟩
theorem ou_N {W w : World} {p : Nat} {l F : List Nat} (h : Ou W p l F w) (v n : Nat) (hl : l.length ≤ 9000000) (h1 : 1 ≤ n) (h7 : n ≤ 7) (hv : v < 256 ^ n) :
    Calls Tryz.prog 25 #[.pointer (some ⟨p, 0, none⟩), .int .i64 v, .int .i64 n] w fun e w' => e = .returned (.tuple #[]) ∧ ∃ F', Ou W p (l ++ bytesOf v n) F' w' :=
  (codec.outN_fits w p v n l F h.1 hl h1 h7 hv).mono fun _ _ ⟨he, hm⟩ => ⟨he, h.more hm⟩
theorem ou_Text {W w : World} {p : Nat} {l F : List Nat} (h : Ou W p l F w) (s : ByteArray) (hl : l.length ≤ 5000000) (hs : s.size ≤ 65535) :
    Calls Tryz.prog 24 #[.pointer (some ⟨p, 0, none⟩), .string s] w fun e w' => e = .returned (.tuple #[]) ∧ ∃ F', Ou W p (l ++ txt s) F' w' := by
  have := codec.outText_good w p l F (nums s) h.1 hl (nums_lt s) (by rw [nums_length]; exact hs)
  rw [strOf_nums, nums_length] at this
  exact this.mono fun _ _ ⟨he, hm⟩ => ⟨he, h.more hm⟩
theorem cell_at {w : World} {b : Nat} {cs : Array Value} {t : TypeId} {m : Nat × Nat} (h : w.heap[b]? = some (.cells cs t m)) (i : Nat) (v : Value) (hv : cs[i]? = some v) : w.cell? ⟨b, i, none⟩ = some v := by
  simp [World.cell?, h, hv]
/-- .. and a thing that lies beside it. -/
def Ob (W : World) (p : Nat) (l F : List Nat) (b : Nat) (cs : Array Value) (t : TypeId) (w : World) : Prop := Ou W p l F w ∧ b ∉ F ∧ w.heap[b]? = some (.cells cs t (0, 0))
theorem Ob.more {W w w' : World} {p b : Nat} {l l' F : List Nat} {cs : Array Value} {t : TypeId} (h : Ob W p l F b cs t w) (m : More w p l' F w') : ∃ F', Ob W p l' F' b cs t w' := by
  obtain ⟨⟨ho, hF, hb⟩, hn, hc⟩ := h
  have hlt : b < w.heap.size := (Array.getElem?_eq_some_iff.1 hc).1
  obtain ⟨F', o', t', s⟩ := m
  refine ⟨F', ⟨o', fun k hk => ?_, hb.trans (t'.toBelow _ hb.size fun i hi hf => by have := hF i hf; omega)⟩, fun hk => ?_, (t'.2.2.2.2 b hlt hn).trans hc⟩
  · rcases s k hk with h | h
    · exact hF k h
    · have := hb.size
      omega
  · rcases s b hk with h | h
    · exact hn h
    · omega
theorem ob_start {W w : World} {p : Nat} {l F : List Nat} (h : Ou W p l F w) (cs : Array Value) (t : TypeId) : Ob W p l F w.heap.size cs t (w.alloc (.cells cs t)) :=
  ⟨h.alloc _, fun hk => Nat.lt_irrefl _ (h.1.lt _ hk), heap_alloc_new w _⟩
theorem Ob.cell {W w : World} {p b : Nat} {l F : List Nat} {cs : Array Value} {t : TypeId} (h : Ob W p l F b cs t w) (i : Nat) (v : Value) (hv : cs[i]? = some v) : w.cell? ⟨b, i, none⟩ = some v := cell_at h.2.2 i v hv
theorem ob_N {W w : World} {p b : Nat} {l F : List Nat} {cs : Array Value} {t : TypeId} (h : Ob W p l F b cs t w) (v n : Nat) (hl : l.length ≤ 9000000) (h1 : 1 ≤ n) (h7 : n ≤ 7) (hv : v < 256 ^ n) :
    Calls Tryz.prog 25 #[.pointer (some ⟨p, 0, none⟩), .int .i64 v, .int .i64 n] w fun e w' => e = .returned (.tuple #[]) ∧ ∃ F', Ob W p (l ++ bytesOf v n) F' b cs t w' :=
  (codec.outN_fits w p v n l F h.1.1 hl h1 h7 hv).mono fun _ _ ⟨he, hm⟩ => ⟨he, h.more hm⟩
theorem ob_Text {W w : World} {p b : Nat} {l F : List Nat} {cs : Array Value} {t : TypeId} (h : Ob W p l F b cs t w) (s : ByteArray) (hl : l.length ≤ 5000000) (hs : s.size ≤ 65535) :
    Calls Tryz.prog 24 #[.pointer (some ⟨p, 0, none⟩), .string s] w fun e w' => e = .returned (.tuple #[]) ∧ ∃ F', Ob W p (l ++ txt s) F' b cs t w' := by
  have := codec.outText_good w p l F (nums s) h.1.1 hl (nums_lt s) (by rw [nums_length]; exact hs)
  rw [strOf_nums, nums_length] at this
  exact this.mono fun _ _ ⟨he, hm⟩ => ⟨he, h.more hm⟩
theorem ou_End {W w : World} {p : Nat} {l F : List Nat} (h : Ou W p l F w) (N : Nat) (hN : l.length = N) (hl : N ≤ 10000000) :
    Calls Tryz.prog 53 #[.pointer (some ⟨p, 0, none⟩)] w fun e w' => ∃ g, e = .returned (.tuple #[.slice (some ⟨g, 0, none⟩) N N, .int .i64 0]) ∧ W.heap.size ≤ g ∧ Bytes w' (some ⟨g, 0, none⟩) N l ∧ Below W.heap.size W w' := by
  subst hN
  refine (codec.end_good w p l F h.1 hl).mono ?_
  rintro e w' ⟨v, rfl, hm⟩
  obtain ⟨g, rfl, hg, hb, hB⟩ := hm.bytes
  have := h.2.2.size
  exact ⟨g, rfl, by omega, hB, h.2.2.trans (hb.mono this)⟩
/-- What a page that was made is. -/
def PutAns (W : World) (k : Nat) (l : List Nat) (e : Ending) (w' : World) : Prop := ∃ g m, e = .returned (.tuple #[.slice (some ⟨g, 0, none⟩) m m, .int .i64 0]) ∧ m = l.length + 12 ∧ W.heap.size ≤ g ∧ Bytes w' (some ⟨g, 0, none⟩) m (pg.pageL k l) ∧ Below W.heap.size W w'
theorem put_any {W w : World} {p : Nat} {l F : List Nat} (h : Ou W p l F w) (k : Nat) (h1 : 1 ≤ k) (h3 : k ≤ 3) (N : Nat) (hN : l.length = N) (hl : N ≤ 60000) :
    Calls Tryz.prog 26 #[.int .i64 k, .pointer (some ⟨p, 0, none⟩)] w fun e w' => PutAns W k l e w' := by
  have HE := Lib.hid (ou_End h N hN (by omega))
  have HN := Lib.hid hN
  have HP := Lib.hid (fun (w : World) (g : Nat) (hB : Bytes w (some ⟨g, 0, none⟩) N l) => pg.put_good w k N N (some ⟨g, 0, none⟩) l h1 h3 hB hl (fun e => by cases e))
  clear h hN
  go_enter Tryz.func26, Tryz.ntmps26
  go_wp2_with fail
  refine HE.out.mono ?_
  rintro e w1 ⟨g, rfl, hg, hB, hb⟩
  have HB := Lib.hid hB
  have HB1 := Lib.hid hb
  clear hB hb
  go_wp2_with fail
  refine (HP.out w1 g HB.out).mono ?_
  rintro e w2 ⟨v, rfl, hm⟩
  obtain ⟨g2, rfl, hg2, hb2, hB2⟩ := hm.bytes
  have HM := Lib.hid hB2
  have HB2 := Lib.hid hb2
  clear hm hb2 hB2
  go_wp2_with fail
  go_ret2
  have hl2 : (pg.pageL k l).length = l.length + 12 := by rw [pg.pageL_length]; omega
  have e := HM.out
  exact ⟨g2, _, rfl, hl2, by have := HB1.out.size; omega, e, HB1.out.trans (HB2.out.mono HB1.out.size)⟩
/-- What is said of each place of a tree that is formed. -/
theorem up_gt : ∀ (l : List Int) (f : Int), (up f l).2 = true → ∀ n ∈ l, f < n
  | [], f, h, n, hn => by simp at hn
  | a :: r, f, h, n, hn => by
    have h' : (r.foldl (fun st n => (n, st.2 && decide (st.1 < n))) (a, true && decide (f < a))).2 = true := h
    by_cases hfa : f < a
    · rw [decide_eq_true hfa] at h'
      rcases List.mem_cons.1 hn with rfl | hn
      · exact hfa
      · have := up_gt r a h' n hn
        omega
    · rw [decide_eq_false hfa] at h'
      have := fold_no r (a, true && false) rfl
      rw [this] at h'
      cases h'
theorem tree_mem {ps : List P} (h : treeB ps = true) : ∀ p ∈ ps, 0 ≤ p.n ∧ p.n < 16 ∧ named p.s = true := by
  intro p hp
  unfold treeB at h
  simp only [Bool.and_eq_true, Bool.not_eq_true'] at h
  obtain ⟨h1, h2, h3⟩ := h
  have a := up_gt _ _ h1 p.n (List.mem_map_of_mem hp)
  have b := (List.any_eq_false.1 h2) p hp
  simp only [Bool.or_eq_true, decide_eq_true_eq, Bool.not_eq_true', not_or] at b
  exact ⟨by omega, by omega, by have := b.2; simpa using this⟩
theorem named_60 {s : ByteArray} (h : named s = true) : s.size ≤ 60 := by
  unfold named nam.normOk at h
  simp only [Bool.and_eq_true, decide_eq_true_eq] at h
  exact h.1.1
theorem encP_len {p : P} (h : named p.s = true) : (encP p).length ≤ 63 := by
  have := named_60 h
  simp only [encP, txt, List.length_append, bytesOf_length, nums_length]
  omega
theorem flat_len {α : Type} (f : α → List Nat) (c : Nat) : ∀ (l : List α), (∀ x ∈ l, (f x).length ≤ c) → (l.flatMap f).length ≤ c * l.length
  | [], h => by simp
  | x :: r, h => by
    rw [List.flatMap_cons, List.length_append, List.length_cons, Nat.mul_add, Nat.mul_one]
    have := h x (by simp)
    have := flat_len f c r fun y hy => h y (by simp [hy])
    omega
/-- The bytes of a tree's first k places. -/
def treeK (ps : List P) (n k : Nat) : List Nat := bytesOf n 1 ++ (ps.take k).flatMap encP
theorem treeK_next {ps : List P} {n k : Nat} {p : P} (h : ps[k]? = some p) : treeK ps n (k + 1) = (treeK ps n k ++ bytesOf p.n.toNat 1) ++ txt p.s := by
  unfold treeK
  rw [take_next h, List.flatMap_append, List.flatMap_singleton, encP]
  simp only [List.append_assoc]
theorem treeK_len {ps : List P} (h : treeB ps = true) (n k : Nat) (hn : ps.length ≤ 255) : (treeK ps n k).length ≤ 16066 := by
  unfold treeK
  have := flat_len encP 63 (ps.take k) fun p hp => encP_len (tree_mem h p (List.mem_of_mem_take hp)).2.2
  rw [List.length_take] at this
  rw [List.length_append, bytesOf_length]
  have : 63 * min k ps.length ≤ 63 * 255 := Nat.mul_le_mul_left _ (by omega)
  omega
set_option maxHeartbeats 2000000 in
theorem putTree_none (W : World) (A : Option Addr) (n c : Nat) (ps : List P) (hR : Rd cP 2 W A n ps) (hn : n ≤ 1000000) (hr : nam.Room W) (h : treeB ps = false) :
    Calls Tryz.prog 11 #[.slice A n c] W fun e w' => e = .returned (.tuple #[.slice none 0 0, .int .i64 1]) ∧ Below W.heap.size W w' := by
  have hF := formedTree_any W A n c ps hR hn hr
  rw [h] at hF
  have HF := Lib.hid hF
  clear hF h hR hr
  go_enter Tryz.func11, Tryz.ntmps11
  go_wp2_with (go_at_call 23; refine HF.out.mono ?_; rintro e w1 ⟨rfl, hb⟩; have HB1 := Lib.hid hb; clear hb)
  go_ret2
  exact ⟨rfl, HB1.out⟩
set_option maxHeartbeats 2000000 in
theorem putTree_good (W : World) (A : Option Addr) (n c : Nat) (ps : List P) (hR : Rd cP 2 W A n ps) (hn : n ≤ 255) (hr : nam.Room W) (h : treeB ps = true) :
    Calls Tryz.prog 11 #[.slice A n c] W fun e w' => PutAns W 3 (treeL ps) e w' := by
  have hF := formedTree_any W A n c ps hR (by omega) hr
  rw [h] at hF
  have HF := Lib.hid hF
  have HR := Lib.hid hR
  have HM := Lib.hid (tree_mem h)
  have HK := Lib.hid (fun k => treeK_len h n k (by rw [hR.1]; exact hn))
  have HN := Lib.hid hn
  have hnn : IntKind.i64.wrap (n : Int) = n := by simp [IntKind.wrap, IntKind.bits, IntKind.signed]; omega
  clear hF h hR hr
  go_enter Tryz.func11, Tryz.ntmps11
  go_wp2_with (first
    | (go_at_call 23; refine HF.out.mono ?_; rintro e w1 ⟨rfl, hb⟩; have HB1 := Lib.hid hb; have HO := Lib.hid (ou_start hb); clear hb)
    | (go_at_call 25; refine (ou_N HO.out n 1 (by simp) (by decide) (by decide) (by have := HN.out; omega)).mono ?_; rintro e w2 ⟨rfl, F2, ho⟩; have HO2 := Lib.hid ho; clear ho))
  go_loopw [15] (fun i wr => ∃ k : Nat, k ≤ n ∧ i = .int .i64 k ∧ Hid (∃ F, Ou W w1.heap.size (treeK ps n k) F wr)) (fun i _ => n - (intOf i).toNat)
  case atStart => exact ⟨0, Nat.zero_le _, rfl, Lib.hid ⟨F2, by have := HO2.out; simpa [treeK] using this⟩⟩
  case round =>
    obtain ⟨k, hk, rfl, HS⟩ := hrel
    by_cases hlt : k < n
    · obtain ⟨F, hs⟩ := HS.out
      obtain ⟨b, o, ⟨m, s⟩, rfl, hx, c0, c1⟩ := atP (HR.out.below hs.2.2) k hlt
      have hlt' : (k : Int) < (n : Int) := by omega
      obtain ⟨m0, m1, m2⟩ := HM.out _ (List.mem_of_getElem? hx)
      simp only at c0 c1 m0 m1 m2
      obtain ⟨v, rfl⟩ := Int.eq_ofNat_of_zero_le m0
      have HT := Lib.hid (treeK_next (n := n) hx)
      have HS1 := Lib.hid (ob_start hs #[.int .i64 v, .string s] 68)
      have HS60 := Lib.hid (named_60 m2)
      have HV := Lib.hid (show v < 256 ^ 1 by omega)
      clear hx hs m0 m1 m2
      go_wp2_with (first
        | (go_at_call 25; refine (ob_N HS1.out v 1 (by have := HK.out k; omega) (by decide) (by decide) HV.out).mono ?_; rintro e w3 ⟨rfl, F3, ho⟩; have HO3 := Lib.hid ho; have c2 := ho.cell 1 (.string s) rfl; clear ho)
        | (go_at_call 24; refine (ob_Text HO3.out s (by rw [List.length_append, bytesOf_length]; have := HK.out k; omega) (by have := HS60.out; omega)).mono ?_; rintro e w4 ⟨rfl, F4, ho⟩; have HO4 := Lib.hid (show ∃ F, Ou W w1.heap.size (treeK ps n (k + 1)) F w4 from ⟨F4, by rw [HT.out]; exact ho.1⟩); clear ho))
      go_roundw
      case rel => first | exact ⟨k + 1, by omega, by go_num, HO4⟩ | ((repeat apply Exists.intro); exact ⟨⟨k + 1, by omega, by go_num, HO4⟩, rfl⟩)
      case measure => (show n - ((k : Int) + 1).toNat < n - k; omega)
    · obtain rfl : k = n := by omega
      have HE : Hid (treeK ps k k = treeL ps) := Lib.hid (by unfold treeK treeL; rw [List.take_of_length_le (by rw [HR.out.1]; omega), HR.out.1])
      obtain ⟨F, hs⟩ := HS.out
      rw [HE.out] at hs
      have HP := Lib.hid (put_any hs 3 (by decide) (by decide) _ rfl (by rw [← HE.out]; have := HK.out k; omega))
      clear hs
      go_wp2_with (go_at_call 26; refine HP.out.mono ?_; rintro e w3 ⟨g, mm, rfl, hm⟩; have HM3 := Lib.hid hm; clear hm)
      go_ret2
      exact ⟨g, mm, rfl, HM3.out⟩
end Go.Proofs.YtklmbiekpilkhaaGreatDoor.idx
namespace Go.Proofs.YtklmbiekpilkhaaGreatDoor.idx
open Go.ChangeShapes Go.WideShapes Go.ChangeAt Go.RowKit
open Go.Proofs.YtklmbiekpilkhaaGreatDoor.row
open Go.Proofs.YtklmbiekpilkhaaGreatDoor.codec (Bytes OutIs More Touch bytesOf bytesOf_length strOf numOf)
open Go.Proofs.YtklmbiekpilkhaaGreatDoor.bod (named nums txt nums_length nums_lt strOf_nums)
open Go.Proofs.YtklmbiekpilkhaaGreatDoor.rd (got rest rd_N rd_Text rd_Done rest_lt)
open Go.Proofs.YtklmbiekpilkhaaGreatDoor.pg (IsPage payL)
set_option linter.unusedVariables false
set_option maxRecDepth 100000
set_option linter.unusedSimpArgs false

theorem rd_base {W W1 w : World} {q g : Nat} {L : Option (List Nat)} (hb : Below W.heap.size W W1) (h : rd.Rd W1 q g L w) : rd.Rd W q g L w :=
  ⟨h.1, Nat.le_trans hb.size h.2.1, h.2.2.1, h.2.2.2.1, hb.trans (h.2.2.2.2.mono hb.size)⟩
theorem rd_Bad {W w : World} {q g : Nat} {L : Option (List Nat)} (h : rd.Rd W q g L w) :
    Calls Tryz.prog 19 #[.pointer (some ⟨q, 0, none⟩)] w fun e w' => e = .returned (.bool (decide (L = none))) ∧ w = w' := by
  cases L with
  | none =>
    obtain ⟨h0, h1, hlt⟩ := h.1.facts
    have hd : decide ((none : Option (List Nat)) = none) = true := by simp
    rw [hd]
    clear h
    go_enter Tryz.func19, Tryz.ntmps19
    go_wp2_with fail
    go_ret
    exact ⟨rfl, rfl⟩
  | some l =>
    obtain ⟨o, c, hi, hc⟩ := h.1
    obtain ⟨h0, h1, hf, hlt⟩ := hi.facts
    have hd : decide (some l = none) = false := by simp
    rw [hd]
    clear h hi
    go_enter Tryz.func19, Tryz.ntmps19
    go_wp2_with fail
    go_ret
    exact ⟨rfl, rfl⟩
/-- What comes of a page that is read. -/
def GetAns (W : World) (k : Int) (l : List Nat) (e : Ending) (w' : World) : Prop :=
  (IsPage k l ∧ ∃ q g, e = .returned (.tuple #[.pointer (some ⟨q, 0, none⟩), .int .i64 0]) ∧ rd.Rd W q g (some (payL l)) w') ∨ (¬ IsPage k l ∧ e = .returned (.tuple #[.pointer none, .int .i64 9]) ∧ Below W.heap.size W w')
set_option maxHeartbeats 1000000 in
theorem get_any (W : World) (k : Int) (n c : Nat) (A : Option Addr) (l : List Nat) (hB : Bytes W A n l) (hn : n ≤ 10000000) (hc : n ≤ c) :
    Calls Tryz.prog 16 #[.int .i64 k, .slice A n c] W fun e w' => GetAns W k l e w' := by
  have HG := Lib.hid (pg.get_any W k n c A l hB hn hc)
  have HN := Lib.hid hB.1
  have HL := Lib.hid hB.2.1
  clear hB
  go_enter Tryz.func16, Tryz.ntmps16
  go_wp2_with fail
  refine HG.out.mono ?_
  rintro e w1 ⟨hb, ⟨hip, g, m, hm, rfl, hg, hB1⟩ | ⟨hnp, rfl⟩⟩
  · have hml : m ≤ 10000000 := by
      obtain ⟨m', rfl, h1, h3, hp⟩ := pg.isPage_pay HL.out (by have := HN.out; omega) hip
      have := congrArg List.length hp
      rw [pg.pageL_length] at this
      have := HN.out
      omega
    have HB1 := Lib.hid hb
    have HI := Lib.hid hip
    have HR := Lib.hid (rd.rd_new w1 _ m m (payL l) hB1 hml)
    clear hb hip hm hB1 hg hml
    go_wp2_with fail
    refine HR.out.mono ?_
    rintro e w2 ⟨q, g2, rfl, hr⟩
    have HR2 := Lib.hid (rd_base HB1.out hr)
    clear hr
    go_wp2_with fail
    go_ret2
    exact Or.inl ⟨HI.out, q, g2, rfl, HR2.out⟩
  · have HB1 := Lib.hid hb
    have HI := Lib.hid hnp
    clear hb hnp
    go_wp2_with fail
    go_ret2
    exact Or.inr ⟨HI.out, rfl, HB1.out⟩
end Go.Proofs.YtklmbiekpilkhaaGreatDoor.idx
namespace Go.Proofs.YtklmbiekpilkhaaGreatDoor.idx
open Go.ChangeShapes Go.WideShapes Go.ChangeAt Go.RowKit
open Go.Proofs.YtklmbiekpilkhaaGreatDoor.row
open Go.Proofs.YtklmbiekpilkhaaGreatDoor.codec (Bytes OutIs More Touch bytesOf bytesOf_length strOf numOf)
open Go.Proofs.YtklmbiekpilkhaaGreatDoor.bod (named nums txt nums_length nums_lt strOf_nums)
open Go.Proofs.YtklmbiekpilkhaaGreatDoor.rd (got rest rd_N rd_Text rd_Done rest_lt)
open Go.Proofs.YtklmbiekpilkhaaGreatDoor.pg (IsPage payL)
set_option linter.unusedVariables false
set_option maxRecDepth 100000
set_option linter.unusedSimpArgs false

/-- A reader, and a row of things that were read, while k are still to come. -/
def GS {α : Type} (F : α → List Value) (K : Nat) (one : Option (List Nat) → α × Option (List Nat)) (W : World) (B q g : Nat) (E : TypeId) (T : List α × Option (List Nat)) (k : Nat) (L : Option (List Nat)) (v : Value) (acc : List α) (w : World) : Prop :=
  rd.Rd W q g L w ∧ Own F K B E w v acc ∧ acc ++ (readG one k L).1 = T.1 ∧ (readG one k L).2 = T.2 ∧ acc.length + k ≤ 70000 ∧ q < B ∧ g < B ∧ B ≤ w.heap.size
theorem GS.stop {α : Type} {F : α → List Value} {K : Nat} {one : Option (List Nat) → α × Option (List Nat)} {W : World} {B q g : Nat} {E : TypeId} {T : List α × Option (List Nat)} {k : Nat} {L : Option (List Nat)} {v : Value} {acc : List α} {w : World} (h : GS F K one W B q g E T k L v acc w) (hk : k = 0 ∨ L = none) : acc = T.1 ∧ L = T.2 := by
  obtain ⟨-, -, h1, h2, -⟩ := h
  rcases hk with rfl | rfl
  · simp only [readG, List.append_nil] at h1 h2
    exact ⟨h1, h2⟩
  · rw [read_none] at h1 h2
    simp only [List.append_nil] at h1 h2
    exact ⟨h1, h2⟩
theorem readG_some {α : Type} (one : Option (List Nat) → α × Option (List Nat)) (k : Nat) (l : List Nat) : readG one (k + 1) (some l) = ((one (some l)).1 :: (readG one k (one (some l)).2).1, (readG one k (one (some l)).2).2) := rfl
/-- One more was read. -/
theorem GS.more {α : Type} {F : α → List Value} {K : Nat} {one : Option (List Nat) → α × Option (List Nat)} {W : World} {B q g : Nat} {E : TypeId} {T : List α × Option (List Nat)} {k : Nat} {l : List Nat} {v v' : Value} {acc : List α} {w w1 w2 : World} (h : GS F K one W B q g E T (k + 1) (some l) v acc w)
    (hR : rd.Rd W q g (one (some l)).2 w1) (hB : B ≤ w1.heap.size) (ho1 : Own F K B E w1 v acc) (ho : Own F K B E w2 v' (acc ++ [(one (some l)).1])) (hg : w1.grownBy w2 v.ownBlock) : GS F K one W B q g E T k (one (some l)).2 v' (acc ++ [(one (some l)).1]) w2 := by
  obtain ⟨h0, h1, h2, h3, h4, h5, h6, h7⟩ := h
  rw [readG_some] at h2 h3
  have hne : ∀ b, b < B → w1.heap[b]? = w2.heap[b]? := fun b hb => by
    refine (hg.block b (by omega) (fun e => ?_)).symm
    have := (ho1.lt e.symm).1
    omega
  refine ⟨⟨?_, hR.2.1, Nat.lt_of_lt_of_le hR.2.2.1 hg.size, Nat.lt_of_lt_of_le hR.2.2.2.1 hg.size, ?_⟩, ho, by simpa using h2, h3, by simp; omega, h5, h6, Nat.le_trans hB hg.size⟩
  · have k1 := hR.1
    cases hL : (one (some l)).2 with
    | none =>
      rw [hL] at k1
      exact (hne q h5).symm.trans k1
    | some m =>
      rw [hL] at k1
      obtain ⟨o, c, hi, hc⟩ := k1
      exact ⟨o, c, hi.kept (hne q h5).symm (hne g h6).symm, hc⟩
  · refine hR.2.2.2.2.trans ⟨hg.os, hg.tape, hg.output, hg.size, fun b hb => (hne b ?_).symm⟩
    have := hR.2.1
    omega
theorem own_touch {α : Type} {F : α → List Value} {K B q : Nat} {E : TypeId} {w w' : World} {v : Value} {ys : List α} (h : Own F K B E w v ys) (hq : q < B) (ht : codec.Touch (fun i => i = q) w w') : Own F K B E w' v ys :=
  h.touch ht fun g e hg => by have := (h.lt e).1; omega
theorem own_mono {α : Type} {F : α → List Value} {K B B' : Nat} {E : TypeId} {w : World} {v : Value} {ys : List α} (h : Own F K B E w v ys) (hb : B' ≤ B) : Own F K B' E w v ys := ⟨h.1, h.2.imp id fun ⟨g, cap, cur, h1, h2, h3⟩ => ⟨g, cap, cur, h1, Nat.le_trans hb h2, h3⟩⟩
theorem infoP : (Tryz.prog.info? 68).map (fun i => (i.zero, i.size, i.bytes)) = some (some (.agg #[.int .i64 0, .string ⟨#[]⟩]), 2, 24) := by kernel_rfl
theorem rd_text {W w : World} {q g : Nat} {L : Option (List Nat)} (h : rd.Rd W q g L w) :
    Calls Tryz.prog 17 #[.pointer (some ⟨q, 0, none⟩)] w fun e w' => e = .returned (.string (tx L)) ∧ rd.Rd W q g (lt L) w' ∧ ∃ w1, codec.Touch (fun i => i = q) w w1 ∧ codec.Touch (fun i => i = q) w1 w' := rd_Text h
/-- What GetTree answers. -/
def TreeAns (W : World) (l : List Nat) (e : Ending) (w' : World) : Prop :=
  ((∃ v xs, IsPage 3 l ∧ readT (payL l) = (xs, some []) ∧ treeB xs = true ∧ xs.length ≤ 255 ∧ e = .returned (.tuple #[v, .int .i64 0]) ∧ Own cP 2 W.heap.size 68 w' v xs) ∨
    (¬ (IsPage 3 l ∧ (readT (payL l)).2 = some [] ∧ treeB (readT (payL l)).1 = true) ∧ e = .returned (.tuple #[.slice none 0 0, .int .i64 9]))) ∧ Below W.heap.size W w'
set_option maxHeartbeats 4000000 in
theorem getTree_any (W : World) (n c : Nat) (A : Option Addr) (l : List Nat) (hB : Bytes W A n l) (hn : n ≤ 1000000) (hc : n ≤ c) (hr : nam.Room W) :
    Calls Tryz.prog 8 #[.slice A n c] W fun e w' => TreeAns W l e w' := by
  have HG := Lib.hid (get_any W 3 n c A l hB (by omega) hc)
  have Hr := Lib.hid hr
  have HL := Lib.hid hB.2.1
  have HN := Lib.hid hB.1
  clear hB hr
  go_enter Tryz.func8, Tryz.ntmps8
  go_wp2_with fail
  refine HG.out.mono ?_
  rintro e w1 (⟨hip, q, g, rfl, hr⟩ | ⟨hnp, rfl, hb⟩)
  · have hpl : ∀ b ∈ payL l, b < 256 := by
      obtain ⟨m, -, -, -, hp⟩ := pg.isPage_pay HL.out (by have := HN.out; omega) hip
      intro b hb
      refine HL.out b ?_
      rw [hp]
      simp [pg.pageL, pg.body, hb]
    have HI := Lib.hid hip
    have HR1 := Lib.hid hr
    have HC := Lib.hid (rd_N hr 1 (by decide) (by decide))
    have HPL := Lib.hid hpl
    have hcn : numOf (got 1 (some (payL l))) ≤ 255 := by
      cases h1 : rest 1 (some (payL l)) with
      | none =>
        have : got 1 (some (payL l)) = [] := by
          simp only [rest] at h1
          simp only [got]
          split at h1
          · simp at h1
          · rename_i h; rw [if_neg h]
        rw [this]
        decide
      | some t =>
        obtain ⟨e1, e2⟩ := got_some h1
        have := codec.numOf_lt (got 1 (some (payL l))) (fun b hb => hpl b (by rw [e1]; simp [hb])) 1
        rw [List.take_of_length_le (by omega)] at this
        omega
    have hT : readT (payL l) = readG oneP (numOf (got 1 (some (payL l)))) (rest 1 (some (payL l))) := rfl
    have HT := Lib.hid hT
    clear hip hr hT hpl
    generalize numOf (got 1 (some (payL l))) = n0 at *
    obtain ⟨L0, hL0⟩ : ∃ L0, L0 = rest 1 (some (payL l)) := ⟨_, rfl⟩
    rw [← hL0] at HC HT
    clear hL0
    go_wp2_with (go_at_call 18; refine HC.out.mono ?_; rintro e w2 ⟨rfl, hr2, ht2⟩; have HR2 := Lib.hid hr2; clear hr2 ht2)
    go_loopw [6, 7] (fun v i wr => ∃ k : Nat, i = .int .i64 k ∧ k ≤ 255 ∧ Hid (∃ L acc, GS cP 2 oneP W w2.heap.size q g 68 (readT (payL l)) k L v acc wr)) (fun _ i _ => (intOf i).toNat)
    case atStart =>
      refine ⟨n0, rfl, hcn, Lib.hid ⟨L0, [], HR2.out, Own.nil _ _ _ _ _, ?_, ?_, by simp; omega, HR2.out.2.2.1, HR2.out.2.2.2.1, Nat.le_refl _⟩⟩
      · rw [HT.out]; rfl
      · rw [HT.out]
    case round =>
      obtain ⟨k, rfl, hk, HS⟩ := hrel
      obtain ⟨L, acc, hs⟩ := HS.out
      have hal : acc.length ≤ 70000 := by have := hs.2.2.2.2.1; omega
      have HBel := Lib.hid hs.1.bel
      have HW2 := Lib.hid (show W.heap.size ≤ w2.heap.size by have := hs.1.2.1; have := hs.2.2.2.2.2.1; omega)
      cases k with
      | zero =>
        obtain ⟨ea, eL⟩ := hs.stop (Or.inl rfl)
        obtain ⟨A2, c2, hv, hc2, hA2, hRd⟩ := hs.2.1.rd fP
        subst hv
        have hD := rd_Done hs.1
        have HF := Lib.hid (fun w (hb : Below wr.heap.size wr w) => formedTree_any w A2 acc.length c2 acc (hRd.below hb) (by omega) (Hr.out.below (HBel.out.trans (hb.mono HBel.out.size))))
        have HO := Lib.hid (own_mono hs.2.1 HW2.out)
        have HEA := Lib.hid ea
        have HEL := Lib.hid eL
        have HLEN := Lib.hid (show acc.length ≤ 255 by
          rw [ea, HT.out]
          exact Nat.le_trans (read_len _ _ _) hcn)
        clear hs ea eL hRd hA2 HS
        by_cases hL : L = some []
        · rw [decide_eq_true hL] at hD
          have HD := Lib.hid hD
          have HT2 := Lib.hid (show readT (payL l) = (acc, some []) from Prod.ext HEA.out.symm (by rw [← HEL.out, hL]))
          clear hD hL
          cases htb : treeB acc
          · rw [htb] at HF
            have HTB := Lib.hid htb
            clear htb
            go_wp2_with (first
              | (go_at_call 20; refine HD.out.mono ?_; rintro e w3 ⟨rfl, rfl⟩)
              | (go_at_call 23; refine (HF.out _ (Below.refl _ _)).mono ?_; rintro e w4 ⟨rfl, hb4⟩; have HB4 := Lib.hid hb4; clear hb4))
            go_ret2
            exact ⟨Or.inr ⟨fun h => by rw [HT2.out, HTB.out] at h; exact absurd h.2.2 Bool.false_ne_true, rfl⟩, HBel.out.trans (HB4.out.mono HBel.out.size)⟩
          · rw [htb] at HF
            have HTB := Lib.hid htb
            clear htb
            go_wp2_with (first
              | (go_at_call 20; refine HD.out.mono ?_; rintro e w3 ⟨rfl, rfl⟩)
              | (go_at_call 23; refine (HF.out _ (Below.refl _ _)).mono ?_; rintro e w4 ⟨rfl, hb4⟩; have HB4 := Lib.hid hb4; clear hb4))
            go_ret2
            exact ⟨Or.inl ⟨_, acc, HI.out, HT2.out, HTB.out, HLEN.out, rfl, HO.out.below HB4.out⟩, HBel.out.trans (HB4.out.mono HBel.out.size)⟩
        · rw [decide_eq_false hL] at hD
          have HD := Lib.hid hD
          have HT2 := Lib.hid (show (readT (payL l)).2 ≠ some [] from fun h => hL (HEL.out.trans h))
          clear hD hL
          go_wp2_with (go_at_call 20; refine HD.out.mono ?_; rintro e w3 ⟨rfl, rfl⟩)
          go_ret2
          exact ⟨Or.inr ⟨fun h => HT2.out h.2.1, rfl⟩, HBel.out⟩
      | succ k =>
        cases L with
        | none =>
          have hbad := rd_Bad hs.1
          have hD := rd_Done hs.1
          rw [decide_eq_true rfl] at hbad
          rw [decide_eq_false (by simp)] at hD
          obtain ⟨ea, eL⟩ := hs.stop (Or.inr rfl)
          have HX := Lib.hid hbad
          have HD := Lib.hid hD
          have HT2 := Lib.hid (show (readT (payL l)).2 ≠ some [] from fun h => by rw [← eL] at h; cases h)
          clear hs ea eL hbad hD HS
          have hk0 : decide ((0 : Int) < ((k + 1 : Nat) : Int)) = true := by rw [decide_eq_true_iff]; omega
          go_wp2_with (first
            | (go_at_call 19; refine HX.out.mono ?_; rintro e w3 ⟨rfl, rfl⟩)
            | (go_at_call 20; refine HD.out.mono ?_; rintro e w3 ⟨rfl, rfl⟩))
          go_ret2
          exact ⟨Or.inr ⟨fun h => HT2.out h.2.1, rfl⟩, HBel.out⟩
        | some m =>
          have hbad := rd_Bad hs.1
          rw [decide_eq_false (by simp)] at hbad
          have HX := Lib.hid hbad
          have HC3 := Lib.hid (rd_N hs.1 1 (by decide) (by decide))
          have HS0 := Lib.hid hs
          clear hs hbad HS
          have hk0 : decide ((0 : Int) < ((k + 1 : Nat) : Int)) = true := by rw [decide_eq_true_iff]; omega
          obtain ⟨nv, hnv⟩ : ∃ nv : Nat, nv = numOf (got 1 (some m)) := ⟨_, rfl⟩
          obtain ⟨tv, htv⟩ : ∃ tv, tv = tx (rest 1 (some m)) := ⟨_, rfl⟩
          have HY := Lib.hid (show (⟨(nv : Int), tv⟩ : P) = (oneP (some m)).1 by rw [hnv, htv]; rfl)
          have HTX := Lib.hid (fun w (h : rd.Rd W q g (rest 1 (some m)) w) => rd_text h)
          rw [← hnv] at HC3
          rw [← htv] at HTX
          clear hnv htv
          go_wp2_with (first
            | (go_at_call 19; refine HX.out.mono ?_; rintro e w3 ⟨rfl, rfl⟩)
            | (go_at_call 18; refine HC3.out.mono ?_; rintro e w4 ⟨rfl, hr4, ht4⟩; have HT4 := Lib.hid ht4; have HR4 := Lib.hid hr4; have HC5 := Lib.hid (HTX.out w4 hr4); clear hr4 ht4)
            | (go_at_call 17; refine HC5.out.mono ?_; rintro e w5 ⟨rfl, hr5, w6, t6, t7⟩; have HR5 := Lib.hid hr5; have HO5 := Lib.hid (own_touch (own_touch (own_touch HS0.out.2.1 HS0.out.2.2.2.2.2.1 HT4.out) HS0.out.2.2.2.2.2.1 t6) HS0.out.2.2.2.2.2.1 t7); have HB5 := Lib.hid (show w2.heap.size ≤ w5.heap.size by have := HS0.out.2.2.2.2.2.2.2; have := HT4.out.2.2.2.1; have := t6.2.2.2.1; have := t7.2.2.2.1; omega); clear hr5 t6 t7)
            | (at_builtin; refine row.wpList_append_own fP (by decide) (by decide) (by_ := 24) (by decide) (z := .agg #[.int .i64 0, .string ⟨#[]⟩]) rfl rfl (.tmp 30) (.tmp 35) 36 68 rfl Tryz.underlying36 infoP w2.heap.size u6 acc rfl HO5.out HB5.out (by omega) ⟨(nv : Int), tv⟩ (0, 0) _ rfl rfl _ rfl ?_; intro v7 w7 ho7 hg7 hat7; have HS7 := Lib.hid (show ∃ L acc, GS cP 2 oneP W w2.heap.size q g 68 (readT (payL l)) k L v7 acc w7 from ⟨_, _, GS.more HS0.out HR5.out HB5.out HO5.out (by rw [← HY.out]; exact ho7) hg7⟩); clear ho7 hg7 hat7))
          go_roundw
          case rel => first | exact ⟨k, by go_num, by omega, HS7⟩ | ((repeat apply Exists.intro); exact ⟨⟨k, by go_num, by omega, HS7⟩, rfl⟩)
          case measure => first | (simp [intOf]; done) | (simp [intOf]; omega)
  · have HI := Lib.hid hnp
    have HB1 := Lib.hid hb
    clear hnp hb
    go_wp2_with fail
    go_ret2
    exact ⟨Or.inr ⟨fun h => HI.out h.1, rfl⟩, HB1.out⟩
end Go.Proofs.YtklmbiekpilkhaaGreatDoor.idx
namespace Go.Proofs.YtklmbiekpilkhaaGreatDoor.idx
open Go.ChangeShapes Go.WideShapes Go.ChangeAt Go.RowKit
open Go.Proofs.YtklmbiekpilkhaaGreatDoor.row
open Go.Proofs.YtklmbiekpilkhaaGreatDoor.codec (Bytes OutIs More bytesOf bytesOf_length strOf numOf)
open Go.Proofs.YtklmbiekpilkhaaGreatDoor.pg (IsPage payL)
set_option linter.unusedVariables false
set_option maxRecDepth 100000
set_option linter.unusedSimpArgs false

theorem page_long {k : Int} {l : List Nat} (h : IsPage k l) : 12 ≤ l.length := by
  obtain ⟨m, p, -, -, -, rfl⟩ := h
  rw [pg.pageL_length]
  omega
theorem tree_inbox : treeB [⟨1, nam.INBOX⟩] = true := by decide
theorem rd_one (w : World) (m : Int) (s : ByteArray) (t : TypeId) : Rd cP 2 (w.alloc (.cells #[.int .i64 m, .string s] t)) (some ⟨w.heap.size, 0, none⟩) 1 [⟨m, s⟩] := by
  refine ⟨rfl, fun k hk => ?_⟩
  obtain rfl : k = 0 := by omega
  refine ⟨_, 0, ⟨m, s⟩, rfl, rfl, fun j v hv => ?_⟩
  simp only [Nat.zero_mul, Nat.zero_add]
  rw [World.cell?_alloc_mark]
  simpa [cP] using hv
set_option maxHeartbeats 1000000 in
theorem awake_any (W : World) (hr : nam.Room W) :
    Calls Tryz.prog 5 #[] W fun e w' => e = .returned (.bool true) ∧ Below W.heap.size W w' := by
  have hG := getTree_any W 0 0 none [] (codec.empty_bytes W) (by omega) (Nat.le_refl _) hr
  have HG := Lib.hid hG
  have HP := Lib.hid (fun (w : World) (hb : Below W.heap.size W w) => putTree_good (w.alloc (.cells #[.int .i64 1, .string nam.INBOX] 68)) (some ⟨w.heap.size, 0, none⟩) 1 1 _ (rd_one w 1 nam.INBOX _) (by omega) (hr.below (hb.alloc hb.size _)) tree_inbox)
  clear hG hr
  go_enter Tryz.func5, Tryz.ntmps5
  go_wp2_with fail
  refine HG.out.mono ?_
  rintro e w1 ⟨(⟨v, xs, hip, -⟩ | ⟨-, rfl⟩), hb⟩
  · exact absurd (page_long hip) (by simp)
  · have HB1 := Lib.hid hb
    clear hb
    go_wp2_with fail
    refine (HP.out w1 HB1.out).mono ?_
    rintro e w2 ⟨g, m, rfl, hm, hg, -, hb⟩
    have HB2 := Lib.hid hb
    have hm0 : decide (0 < m) = true := by rw [decide_eq_true_iff]; omega
    clear hb hm hg
    go_wp2_with fail
    go_ret
    exact ⟨rfl, (HB1.out.alloc HB1.out.size _).trans (HB2.out.mono (by have := HB1.out.size; simp; omega))⟩
end Go.Proofs.YtklmbiekpilkhaaGreatDoor.idx
