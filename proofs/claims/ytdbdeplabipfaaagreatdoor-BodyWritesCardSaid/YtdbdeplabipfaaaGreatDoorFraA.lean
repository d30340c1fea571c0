/- What the small parts of package frame answer, and the head of a payload. -/
import Derived.Test.YtdbdeplabipfaaaGreatDoorCodI
import Derived.Test.YtdbdeplabipfaaaGreatDoorSumG
import Derived.Test.YtdbdeplabipfaaaGreatDoorSumH
import Derived.Test.YtdbdeplabipfaaaGreatDoorSumR
namespace Go.Proofs.YtdbdeplabipfaaaGreatDoor.frm
open Go.ChangeShapes Go.WideShapes Go.ChangeAt Go.RowKit
open Go.Proofs.YtdbdeplabipfaaaGreatDoor.codec (Bytes vals vals_append vals_length vals_one OutIs More Made New bytesOf byteAt bytesOf_length bytesOf_lt Fits strOf)
set_option linter.unusedVariables false
set_option maxRecDepth 100000
set_option linter.unusedSimpArgs false

/-- The CRC of bytes. -/
def crcOf (l : List Nat) : Nat := crcPlain.crcRun l ^^^ 4294967295
theorem crcOf_lt {l : List Nat} (h : ∀ b ∈ l, b < 256) : crcOf l < 4294967296 := crcPlain.xor_lt32 (crcPlain.crcRun_lt h) (by omega)
/-- The digest of bytes. -/
def dig (l : List Nat) : List Nat := sumDoor.outList (sumDoor.digest l)
theorem dig_length (l : List Nat) : (dig l).length = 32 := by simp [dig, sumDoor.outList]
theorem dig_lt (l : List Nat) : ∀ b ∈ dig l, b < 256 := by
  intro b hb
  obtain ⟨j, _, rfl⟩ := List.mem_map.1 hb
  exact Nat.mod_lt _ (by omega)
/-- The first eight bytes of a head. -/
def first (k n : Nat) : List Nat := [99, 117, 98, k] ++ bytesOf n 4
theorem first_length (k n : Nat) : (first k n).length = 8 := by simp [first, bytesOf]
theorem first_lt {k n : Nat} (hk : k < 256) : ∀ b ∈ first k n, b < 256 := by
  intro b hb
  rcases List.mem_append.1 hb with h | h
  · simp at h
    omega
  · exact bytesOf_lt _ _ b h
/-- The head of a payload. -/
def headL (k : Nat) (p : List Nat) : List Nat := first k p.length ++ bytesOf (crcOf (first k p.length)) 4 ++ dig p
theorem headL_length (k : Nat) (p : List Nat) : (headL k p).length = 44 := by simp [headL, first_length, dig_length, bytesOf]
/-- The frame of a payload. -/
def frameL (k : Nat) (p : List Nat) : List Nat := headL k p ++ p
theorem frameL_length (k : Nat) (p : List Nat) : (frameL k p).length = 44 + p.length := by simp [frameL, headL_length]

theorem crc_prog (A : Option Addr) (n c : Nat) (l : List Nat) (w : World) (h : Bytes w A n l) (hn : n ≤ maxLen) :
    Calls Tryz.prog 49 #[.slice A n c] w fun e w' => e = .returned (.int .u32 (crcOf l : Nat)) ∧ w = w' := sumDoor.crc_any A n c l w h hn
theorem crc_ref (A : Option Addr) (n c : Nat) (l : List Nat) (w : World) (h : Bytes w A n l) (hn : n ≤ maxLen) :
    Calls Tryz.prog 32 #[.slice A n c] w fun e w' => e = .returned (.int .u32 (crcOf l : Nat)) ∧ w = w' := by
  have := sumDoor.crcRef_any A n c l w h hn
  rw [← crcPlain.crcRun_slow h.2.1] at this
  exact this
theorem dig_prog (w : World) (A : Option Addr) (n c : Nat) (l : List Nat) (hB : Bytes w A n l) (hn : n ≤ 40000) (hc : n ≤ c) (hL : sumDoor.Laid w) :
    Calls Tryz.prog 48 #[.slice A n c] w fun e w' => e = .returned (.agg (vals (dig l)).toArray) ∧ Below w.heap.size w w' := sumDoor.digest_any w A n c l hB hn hc hL
theorem dig_ref (w : World) (A : Option Addr) (n c : Nat) (l : List Nat) (hB : Bytes w A n l) (hn : n ≤ 40000) (hnil : A = none → c = 0) :
    Calls Tryz.prog 33 #[.slice A n c] w fun e w' => e = .returned (.agg (vals (dig l)).toArray) ∧ Below w.heap.size w w' := sumDoor.ref_any w A n c l hB hn hnil

set_option maxHeartbeats 400000 in
theorem isKind_any (w : World) (n : Int) :
    Calls Tryz.prog 39 #[.int .i64 n] w fun e w' => e = .returned (.bool (decide (1 ≤ n ∧ n ≤ 3))) ∧ w = w' := by
  by_cases h1 : 1 ≤ n
  · by_cases h7 : n ≤ 3
    · have : decide (1 ≤ n ∧ n ≤ 3) = true := by simp [h1, h7]
      rw [this]
      go_enter Tryz.func39, Tryz.ntmps39
      go_wp2
      go_ret
      exact ⟨rfl, rfl⟩
    · have : decide (1 ≤ n ∧ n ≤ 3) = false := by simp [h7]
      rw [this]
      go_enter Tryz.func39, Tryz.ntmps39
      go_wp2
      go_ret
      exact ⟨rfl, rfl⟩
  · have : decide (1 ≤ n ∧ n ≤ 3) = false := by simp [h1]
    rw [this]
    go_enter Tryz.func39, Tryz.ntmps39
    go_wp2
    go_ret
    exact ⟨rfl, rfl⟩

/-- Two Outs beside each other, on blocks of the call's own. -/
def Two (W : World) (P1 : Nat) (l1 F1 : List Nat) (P2 : Nat) (l2 F2 : List Nat) (w : World) : Prop :=
  OutIs w P1 l1 F1 ∧ OutIs w P2 l2 F2 ∧ (∀ k ∈ F1, W.heap.size ≤ k) ∧ (∀ k ∈ F2, W.heap.size ≤ k) ∧ (∀ k ∈ F2, k ∉ F1) ∧ Below W.heap.size W w
def Grew (F : List Nat) (w : World) (F' : List Nat) (w' : World) : Prop := codec.Touch (fun k => k ∈ F) w w' ∧ ∀ k ∈ F', k ∈ F ∨ w.heap.size ≤ k
theorem Two.more1 {W w w' : World} {P1 P2 : Nat} {l1 l2 l1' F1 F2 : List Nat} (h : Two W P1 l1 F1 P2 l2 F2 w) (m : More w P1 l1' F1 w') : ∃ F1', Two W P1 l1' F1' P2 l2 F2 w' ∧ Grew F1 w F1' w' := by
  obtain ⟨h1, h2, h3, h4, h5, h6⟩ := h
  obtain ⟨F', m1, m2, m3⟩ := m
  refine ⟨F', ⟨m1, h2.touch m2 h5, fun k hk => ?_, h4, fun k hk hk' => ?_, ?_⟩, m2, m3⟩
  · rcases m3 k hk with h | h
    · exact h3 k h
    · exact Nat.le_trans h6.size h
  · rcases m3 k hk' with h | h
    · exact h5 k hk h
    · exact absurd (h2.lt k hk) (by omega)
  · exact h6.trans (m2.toBelow W.heap.size h6.size (fun i hi hF => absurd (h3 i hF) (by omega)))
theorem Two.more2 {W w w' : World} {P1 P2 : Nat} {l1 l2 l2' F1 F2 : List Nat} (h : Two W P1 l1 F1 P2 l2 F2 w) (m : More w P2 l2' F2 w') : ∃ F2', Two W P1 l1 F1 P2 l2' F2' w' ∧ Grew F2 w F2' w' := by
  obtain ⟨h1, h2, h3, h4, h5, h6⟩ := h
  obtain ⟨F', ⟨h1', h2', h3', h4', h5', h6'⟩, hg⟩ := Two.more1 (W := W) (P1 := P2) (P2 := P1) (l2 := l1) ⟨h2, h1, h4, h3, fun k a b => h5 k b a, h6⟩ m
  exact ⟨F', ⟨h2', h1', h4', h3', fun k a b => h5' k b a, h6'⟩, hg⟩
theorem Grew.bytes {F F' : List Nat} {w w' : World} {g n : Nat} {o : Nat} {l : List Nat} (h : Grew F w F' w') (hB : Bytes w (some ⟨g, o, none⟩) n l) (hg : g ∉ F) : Bytes w' (some ⟨g, o, none⟩) n l :=
  hB.touch (fun ad e _ => by cases e; exact hg) h.1
theorem Grew.not {F F' : List Nat} {w w' : World} {g : Nat} (h : Grew F w F' w') (hg : g ∉ F) (hlt : g < w.heap.size) : g ∉ F' := fun hh => by
  rcases h.2 g hh with k | k
  · exact hg k
  · omega
theorem Two.below {W w w' : World} {P1 P2 : Nat} {l1 l2 F1 F2 : List Nat} (h : Two W P1 l1 F1 P2 l2 F2 w) (hb : Below w.heap.size w w') : Two W P1 l1 F1 P2 l2 F2 w' :=
  ⟨h.1.below hb, h.2.1.below hb, h.2.2.1, h.2.2.2.1, h.2.2.2.2.1, h.2.2.2.2.2.trans (hb.mono h.2.2.2.2.2.size)⟩
theorem Two.alloc {W w : World} {P1 P2 : Nat} {l1 l2 F1 F2 : List Nat} (h : Two W P1 l1 F1 P2 l2 F2 w) (o : Obj) : Two W P1 l1 F1 P2 l2 F2 (w.alloc o) := h.below ((Below.refl _ _).alloc (Nat.le_refl _) _)
theorem two_start (W : World) : Two W W.heap.size [] [W.heap.size] (W.heap.size + 1) [] [W.heap.size + 1] ((W.alloc (.cells #[.pointer none, .int .i64 0, .bool false] 42)).alloc (.cells #[.pointer none, .int .i64 0, .bool false] 42)) := by
  have h1 := codec.fresh_new W
  have h2 := codec.fresh_new (W.alloc (.cells #[.pointer none, .int .i64 0, .bool false] 42))
  rw [show (W.alloc (.cells #[.pointer none, .int .i64 0, .bool false] 42)).heap.size = W.heap.size + 1 by simp] at h2
  refine ⟨h1.below ((Below.refl _ _).alloc (Nat.le_refl _) _), h2, by simp, by simp, by simp, ((Below.refl _ _).alloc (Nat.le_refl _) _).alloc (by simp) _⟩
theorem Bytes.lit (w : World) (l : List Nat) (hl : ∀ b ∈ l, b < 256) (e : TypeId) (m : Nat × Nat) :
    Bytes (w.alloc (.cells (l.map fun b => Value.int .u8 (b : Nat)).toArray e m)) (some ⟨w.heap.size, 0, none⟩) l.length l := sumDoor.Bytes.lit w l hl e m

theorem lit_at (w : World) (l : List Nat) (hl : ∀ b ∈ l, b < 256) (e : TypeId) (m : Nat × Nat) {g n : Nat} (hg : g = w.heap.size) (hn : l.length = n) :
    Bytes (w.alloc (.cells (vals l).toArray e m)) (some ⟨g, 0, none⟩) n l := by
  subst hg hn
  exact Bytes.lit w l hl e m
theorem slice54 (w : World) (g : Nat) : (Instr.sliceAt 60 (Value.pointer (some ⟨g, 0, none⟩)) none none none).run Tryz.prog w = .ok (.slice (some ⟨g, 0, none⟩) 32 32) w := by kernel_rfl
theorem fits_i {v n : Nat} (h1 : 1 ≤ n) (h7 : n ≤ 7) (hv : v < 256 ^ n) : Fits (v : Nat) (n : Nat) :=
  ⟨by omega, by omega, by omega, by simpa using (by exact_mod_cast hv : ((v : Nat) : Int) < ((256 ^ n : Nat) : Int))⟩
theorem outN_two {W w : World} {P1 P2 v n : Nat} {l1 l2 F1 F2 : List Nat} (h : Two W P1 l1 F1 P2 l2 F2 w) (hl : l1.length ≤ 9000000) (h1 : 1 ≤ n) (h7 : n ≤ 7) (hv : v < 256 ^ n) :
    Calls Tryz.prog 14 #[.pointer (some ⟨P1, 0, none⟩), .int .i64 v, .int .i64 n] w fun e w' => e = .returned (.tuple #[]) ∧ ∃ F', Two W P1 (l1 ++ bytesOf v n) F' P2 l2 F2 w' ∧ Grew F1 w F' w' :=
  (codec.outN_fits w P1 v n l1 F1 h.1 hl h1 h7 hv).mono fun _ _ ⟨he, hm⟩ => ⟨he, h.more1 hm⟩
theorem outN_two2 {W w : World} {P1 P2 v n : Nat} {l1 l2 F1 F2 : List Nat} (h : Two W P1 l1 F1 P2 l2 F2 w) (hl : l2.length ≤ 9000000) (h1 : 1 ≤ n) (h7 : n ≤ 7) (hv : v < 256 ^ n) :
    Calls Tryz.prog 14 #[.pointer (some ⟨P2, 0, none⟩), .int .i64 v, .int .i64 n] w fun e w' => e = .returned (.tuple #[]) ∧ ∃ F', Two W P1 l1 F1 P2 (l2 ++ bytesOf v n) F' w' ∧ Grew F2 w F' w' :=
  (codec.outN_fits w P2 v n l2 F2 h.2.1 hl h1 h7 hv).mono fun _ _ ⟨he, hm⟩ => ⟨he, h.more2 hm⟩
theorem raw_two {W w : World} {P1 P2 n c : Nat} {l1 l2 m F1 F2 : List Nat} {A : Option Addr} (h : Two W P1 l1 F1 P2 l2 F2 w) (hB : Bytes w A n m) (hn : l1.length + n ≤ 10000000) (hA : A = none → c = 0) (hAp : ∀ ad, A = some ad → 0 < n → ad.block ∉ F1) :
    Calls Tryz.prog 16 #[.pointer (some ⟨P1, 0, none⟩), .slice A n c] w fun e w' => e = .returned (.tuple #[]) ∧ ∃ F', Two W P1 (l1 ++ m) F' P2 l2 F2 w' ∧ Grew F1 w F' w' :=
  (codec.raw_good w P1 l1 F1 A n c m h.1 hB hn hA hAp).mono fun _ _ ⟨he, hm⟩ => ⟨he, h.more1 hm⟩
theorem raw_two2 {W w : World} {P1 P2 n c : Nat} {l1 l2 m F1 F2 : List Nat} {A : Option Addr} (h : Two W P1 l1 F1 P2 l2 F2 w) (hB : Bytes w A n m) (hn : l2.length + n ≤ 10000000) (hA : A = none → c = 0) (hAp : ∀ ad, A = some ad → 0 < n → ad.block ∉ F2) :
    Calls Tryz.prog 16 #[.pointer (some ⟨P2, 0, none⟩), .slice A n c] w fun e w' => e = .returned (.tuple #[]) ∧ ∃ F', Two W P1 l1 F1 P2 (l2 ++ m) F' w' ∧ Grew F2 w F' w' :=
  (codec.raw_good w P2 l2 F2 A n c m h.2.1 hB hn hA hAp).mono fun _ _ ⟨he, hm⟩ => ⟨he, h.more2 hm⟩
theorem end_two {W w : World} {P1 P2 : Nat} {l1 l2 F1 F2 : List Nat} (h : Two W P1 l1 F1 P2 l2 F2 w) (N : Nat) (hN : l1.length = N) (hl : N ≤ 10000000) :
    Calls Tryz.prog 17 #[.pointer (some ⟨P1, 0, none⟩)] w fun e w' => ∃ g, e = .returned (.tuple #[.slice (some ⟨g, 0, none⟩) N N, .int .i64 0]) ∧ Two W P1 l1 F1 P2 l2 F2 w' ∧ Bytes w' (some ⟨g, 0, none⟩) N l1 ∧ w.heap.size ≤ g := by
  subst hN
  exact (codec.end_good w P1 l1 F1 h.1 hl).mono fun _ _ ⟨v, he, hm⟩ => by
    obtain ⟨g, rfl, h1, h2, h3⟩ := hm.bytes
    exact ⟨g, he, h.below h2, h3, h1⟩
theorem end_two2 {W w : World} {P1 P2 : Nat} {l1 l2 F1 F2 : List Nat} (h : Two W P1 l1 F1 P2 l2 F2 w) (hl : l2.length ≤ 10000000) :
    Calls Tryz.prog 17 #[.pointer (some ⟨P2, 0, none⟩)] w fun e w' => ∃ v, e = .returned (.tuple #[v, .int .i64 0]) ∧ Made W l2 v w' :=
  (codec.end_good w P2 l2 F2 h.2.1 hl).mono fun _ _ ⟨v, he, g, hv, h1, h2, h3⟩ => ⟨v, he, g, hv, Nat.le_trans h.2.2.2.2.2.size h1, h.2.2.2.2.2.trans (h2.mono h.2.2.2.2.2.size), h3⟩
theorem Laid.below0 {w w' : World} (h : sumDoor.Laid w) (hb : Below w.heap.size w w') : sumDoor.Laid w' := h.below h.lt hb
end Go.Proofs.YtdbdeplabipfaaaGreatDoor.frm
