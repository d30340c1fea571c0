/- Two Outs beside each other; bytes of the call's own. -/
import Derived.Test.YthhflkgngencdaaGreatDoorMa03
import Derived.Lib.SmallJoins
import Derived.Test.YthhflkgngencdaaGreatDoorMa01
import Derived.Lib.Fold
import Derived.Lib.Strings
import Derived.Test.YthhflkgngencdaaGreatDoorRows
import Derived.WalkKit
import Derived.ProofKit
import Derived.OpenShut
import Derived.ShutString
import Derived.ChangeOld
import Derived.Below
import Derived.Outline
import Derived.WalkSpells
import Derived.Lib.Hide
import Derived.Deep.QuietTactic
import Derived.BigQuiet
import Derived.Deep.OwnRows
import Derived.Deep.WholeRow
import Derived.StillTailTactics
import Derived.Deep.RegionLaw
import Derived.Lib.Join
import Derived.Laws.BitsLemmas
namespace Go.Proofs.YthhflkgngencdaaGreatDoor.two
open Go.ChangeShapes Go.WideShapes Go.ChangeAt Go.RowKit
open Go.Proofs.YthhflkgngencdaaGreatDoor.codec (Bytes vals vals_append vals_length vals_one OutIs More Made New bytesOf byteAt bytesOf_length bytesOf_lt Fits strOf)
set_option linter.unusedVariables false
set_option maxRecDepth 100000
set_option linter.unusedSimpArgs false

/-- Two Outs beside each other, on blocks of the call's own. -/
def Two (W : World) (P1 : Nat) (l1 F1 : List Nat) (P2 : Nat) (l2 F2 : List Nat) (w : World) : Prop :=
  OutIs w P1 l1 F1 ∧ OutIs w P2 l2 F2 ∧ (∀ k ∈ F1, W.heap.size ≤ k) ∧ (∀ k ∈ F2, W.heap.size ≤ k) ∧ (∀ k ∈ F2, k ∉ F1) ∧ Below W.heap.size W w
def Grew (F : List Nat) (w : World) (F' : List Nat) (w' : World) : Prop := codec.Touch (fun k => k ∈ F) w w' ∧ ∀ k ∈ F', k ∈ F ∨ w.heap.size ≤ k
theorem Two.more1 {W w w' : World} {P1 P2 : Nat} {l1 l2 l1' F1 F2 : List Nat} (h : Two W P1 l1 F1 P2 l2 F2 w) (m : More w P1 l1' F1 w') : ∃ F1', Two W P1 l1' F1' P2 l2 F2 w' ∧ Grew F1 w F1' w' := by
  obtain ⟨h1, h2, h3, h4, h5, h6⟩ := h
  obtain ⟨F', m1, m2, m3⟩ := m
  refine ⟨F', ⟨m1, h2.touch m2 h5, fun k hk => ?_, h4, fun k hk hk' => ?_, ?_⟩, m2, m3⟩
  · rcases m3 k hk with h | h
    · exact h3 k h
    · exact Nat.le_trans h6.size h
  · rcases m3 k hk' with h | h
    · exact h5 k hk h
    · exact absurd (h2.lt k hk) (by omega)
  · exact h6.trans (m2.toBelow W.heap.size h6.size (fun i hi hF => absurd (h3 i hF) (by omega)))
theorem Two.more2 {W w w' : World} {P1 P2 : Nat} {l1 l2 l2' F1 F2 : List Nat} (h : Two W P1 l1 F1 P2 l2 F2 w) (m : More w P2 l2' F2 w') : ∃ F2', Two W P1 l1 F1 P2 l2' F2' w' ∧ Grew F2 w F2' w' := by
  obtain ⟨h1, h2, h3, h4, h5, h6⟩ := h
  obtain ⟨F', ⟨h1', h2', h3', h4', h5', h6'⟩, hg⟩ := Two.more1 (W := W) (P1 := P2) (P2 := P1) (l2 := l1) ⟨h2, h1, h4, h3, fun k a b => h5 k b a, h6⟩ m
  exact ⟨F', ⟨h2', h1', h4', h3', fun k a b => h5' k b a, h6'⟩, hg⟩
theorem Grew.bytes {F F' : List Nat} {w w' : World} {g n : Nat} {o : Nat} {l : List Nat} (h : Grew F w F' w') (hB : Bytes w (some ⟨g, o, none⟩) n l) (hg : g ∉ F) : Bytes w' (some ⟨g, o, none⟩) n l :=
  hB.touch (fun ad e _ => by cases e; exact hg) h.1
theorem Grew.not {F F' : List Nat} {w w' : World} {g : Nat} (h : Grew F w F' w') (hg : g ∉ F) (hlt : g < w.heap.size) : g ∉ F' := fun hh => by
  rcases h.2 g hh with k | k
  · exact hg k
  · omega
theorem Two.below {W w w' : World} {P1 P2 : Nat} {l1 l2 F1 F2 : List Nat} (h : Two W P1 l1 F1 P2 l2 F2 w) (hb : Below w.heap.size w w') : Two W P1 l1 F1 P2 l2 F2 w' :=
  ⟨h.1.below hb, h.2.1.below hb, h.2.2.1, h.2.2.2.1, h.2.2.2.2.1, h.2.2.2.2.2.trans (hb.mono h.2.2.2.2.2.size)⟩
theorem Two.alloc {W w : World} {P1 P2 : Nat} {l1 l2 F1 F2 : List Nat} (h : Two W P1 l1 F1 P2 l2 F2 w) (o : Obj) : Two W P1 l1 F1 P2 l2 F2 (w.alloc o) := h.below ((Below.refl _ _).alloc (Nat.le_refl _) _)
theorem two_start (W : World) : Two W W.heap.size [] [W.heap.size] (W.heap.size + 1) [] [W.heap.size + 1] ((W.alloc (.cells #[.pointer none, .int .i64 0, .bool false] 154)).alloc (.cells #[.pointer none, .int .i64 0, .bool false] 154)) := by
  have h1 := codec.fresh_new W
  have h2 := codec.fresh_new (W.alloc (.cells #[.pointer none, .int .i64 0, .bool false] 154))
  rw [show (W.alloc (.cells #[.pointer none, .int .i64 0, .bool false] 154)).heap.size = W.heap.size + 1 by simp] at h2
  refine ⟨h1.below ((Below.refl _ _).alloc (Nat.le_refl _) _), h2, by simp, by simp, by simp, ((Below.refl _ _).alloc (Nat.le_refl _) _).alloc (by simp) _⟩
theorem Bytes.lit (w : World) (l : List Nat) (hl : ∀ b ∈ l, b < 256) (e : TypeId) (m : Nat × Nat) :
    Bytes (w.alloc (.cells (l.map fun b => Value.int .u8 (b : Nat)).toArray e m)) (some ⟨w.heap.size, 0, none⟩) l.length l := crc.Bytes_lit w l hl e m

theorem lit_at (w : World) (l : List Nat) (hl : ∀ b ∈ l, b < 256) (e : TypeId) (m : Nat × Nat) {g n : Nat} (hg : g = w.heap.size) (hn : l.length = n) :
    Bytes (w.alloc (.cells (vals l).toArray e m)) (some ⟨g, 0, none⟩) n l := by
  subst hg hn
  exact Bytes.lit w l hl e m
theorem outN_two {W w : World} {P1 P2 v n : Nat} {l1 l2 F1 F2 : List Nat} (h : Two W P1 l1 F1 P2 l2 F2 w) (hl : l1.length ≤ 9000000) (h1 : 1 ≤ n) (h7 : n ≤ 7) (hv : v < 256 ^ n) :
    Calls Tryz.prog 92 #[.pointer (some ⟨P1, 0, none⟩), .int .i64 v, .int .i64 n] w fun e w' => e = .returned (.tuple #[]) ∧ ∃ F', Two W P1 (l1 ++ bytesOf v n) F' P2 l2 F2 w' ∧ Grew F1 w F' w' :=
  (codec.outN_fits w P1 v n l1 F1 h.1 hl h1 h7 hv).mono fun _ _ ⟨he, hm⟩ => ⟨he, h.more1 hm⟩
theorem outN_two2 {W w : World} {P1 P2 v n : Nat} {l1 l2 F1 F2 : List Nat} (h : Two W P1 l1 F1 P2 l2 F2 w) (hl : l2.length ≤ 9000000) (h1 : 1 ≤ n) (h7 : n ≤ 7) (hv : v < 256 ^ n) :
    Calls Tryz.prog 92 #[.pointer (some ⟨P2, 0, none⟩), .int .i64 v, .int .i64 n] w fun e w' => e = .returned (.tuple #[]) ∧ ∃ F', Two W P1 l1 F1 P2 (l2 ++ bytesOf v n) F' w' ∧ Grew F2 w F' w' :=
  (codec.outN_fits w P2 v n l2 F2 h.2.1 hl h1 h7 hv).mono fun _ _ ⟨he, hm⟩ => ⟨he, h.more2 hm⟩
theorem raw_two {W w : World} {P1 P2 n c : Nat} {l1 l2 m F1 F2 : List Nat} {A : Option Addr} (h : Two W P1 l1 F1 P2 l2 F2 w) (hB : Bytes w A n m) (hn : l1.length + n ≤ 10000000) (hA : A = none → c = 0) (hAp : ∀ ad, A = some ad → 0 < n → ad.block ∉ F1) :
    Calls Tryz.prog 168 #[.pointer (some ⟨P1, 0, none⟩), .slice A n c] w fun e w' => e = .returned (.tuple #[]) ∧ ∃ F', Two W P1 (l1 ++ m) F' P2 l2 F2 w' ∧ Grew F1 w F' w' :=
  (codec.raw_good w P1 l1 F1 A n c m h.1 hB hn hA hAp).mono fun _ _ ⟨he, hm⟩ => ⟨he, h.more1 hm⟩
theorem raw_two2 {W w : World} {P1 P2 n c : Nat} {l1 l2 m F1 F2 : List Nat} {A : Option Addr} (h : Two W P1 l1 F1 P2 l2 F2 w) (hB : Bytes w A n m) (hn : l2.length + n ≤ 10000000) (hA : A = none → c = 0) (hAp : ∀ ad, A = some ad → 0 < n → ad.block ∉ F2) :
    Calls Tryz.prog 168 #[.pointer (some ⟨P2, 0, none⟩), .slice A n c] w fun e w' => e = .returned (.tuple #[]) ∧ ∃ F', Two W P1 l1 F1 P2 (l2 ++ m) F' w' ∧ Grew F2 w F' w' :=
  (codec.raw_good w P2 l2 F2 A n c m h.2.1 hB hn hA hAp).mono fun _ _ ⟨he, hm⟩ => ⟨he, h.more2 hm⟩
theorem end_two {W w : World} {P1 P2 : Nat} {l1 l2 F1 F2 : List Nat} (h : Two W P1 l1 F1 P2 l2 F2 w) (N : Nat) (hN : l1.length = N) (hl : N ≤ 10000000) :
    Calls Tryz.prog 140 #[.pointer (some ⟨P1, 0, none⟩)] w fun e w' => ∃ g, e = .returned (.tuple #[.slice (some ⟨g, 0, none⟩) N N, .int .i64 0]) ∧ Two W P1 l1 F1 P2 l2 F2 w' ∧ Bytes w' (some ⟨g, 0, none⟩) N l1 ∧ w.heap.size ≤ g := by
  subst hN
  exact (codec.end_good w P1 l1 F1 h.1 hl).mono fun _ _ ⟨v, he, hm⟩ => by
    obtain ⟨g, rfl, h1, h2, h3⟩ := hm.bytes
    exact ⟨g, he, h.below h2, h3, h1⟩
theorem end_two2 {W w : World} {P1 P2 : Nat} {l1 l2 F1 F2 : List Nat} (h : Two W P1 l1 F1 P2 l2 F2 w) (hl : l2.length ≤ 10000000) :
    Calls Tryz.prog 140 #[.pointer (some ⟨P2, 0, none⟩)] w fun e w' => ∃ v, e = .returned (.tuple #[v, .int .i64 0]) ∧ Made W l2 v w' :=
  (codec.end_good w P2 l2 F2 h.2.1 hl).mono fun _ _ ⟨v, he, g, hv, h1, h2, h3⟩ => ⟨v, he, g, hv, Nat.le_trans h.2.2.2.2.2.size h1, h.2.2.2.2.2.trans (h2.mono h.2.2.2.2.2.size), h3⟩
theorem all_vals (l : List Nat) : (vals l).toArray.all (·.oneCell') = true := by
  rw [Array.all_eq_true]
  intro i hi
  have := vals_one l (vals l)[i] (List.getElem_mem (by simpa using hi))
  simpa using this
/-- Bytes of the call's own. -/
def Mine (W : World) (v : Value) (M : List Nat) (w : World) : Prop := w.ownsRow W.heap.size 5 1 v M.length (vals M) ∧ Below W.heap.size W w
theorem Mine.below {W w w' : World} {v : Value} {M : List Nat} (h : Mine W v M w) (hb : Below w.heap.size w w') : Mine W v M w' :=
  ⟨h.1.kept (row := none) ⟨hb.os, hb.tape, hb.output, hb.size, fun i hi _ => hb.block i hi⟩ (by cases hv : v.ownBlock <;> simp), h.2.trans (hb.mono h.2.size)⟩
theorem Mine.alloc {W w : World} {v : Value} {M : List Nat} (h : Mine W v M w) (o : Obj) : Mine W v M (w.alloc o) := h.below ((Below.refl _ _).alloc (Nat.le_refl _) _)
theorem Mine.more {W w w' : World} {v v' : Value} {M M' : List Nat} (h : Mine W v M w) (ho : w'.ownsRow W.heap.size 5 1 v' M'.length (vals M')) (hg : w.grownBy w' v.ownBlock) : Mine W v' M' w' :=
  ⟨ho, h.2.trans ⟨hg.os, hg.tape, hg.output, hg.size, fun i hi => hg.block i (Nat.lt_of_lt_of_le hi h.2.size) (fun e => by have := (h.1.lt _ e.symm).1; omega)⟩⟩
theorem Mine.form {W w : World} {v : Value} {M : List Nat} (h : Mine W v M w) (N : Nat) (hN : M.length = N) (h0 : 0 < N) : ∃ g cap, v = .slice (some ⟨g, 0, none⟩) N cap ∧ N ≤ cap ∧ W.heap.size ≤ g := by
  subst hN
  rcases h.1.2 with ⟨_, h1⟩ | ⟨g, cap, cur, e, hb, _, hc, _⟩
  · omega
  · exact ⟨g, cap, e, hc, hb⟩
theorem Mine.bytes {W w : World} {g N cap : Nat} {M : List Nat} (h : Mine W (.slice (some ⟨g, 0, none⟩) N cap) M w) (hN : M.length = N) (hb : ∀ x ∈ M, x < 256) : Bytes w (some ⟨g, 0, none⟩) N M := codec.own_bytes' h.1 hN hb
theorem Mine.drew {W w : World} {v : Value} {M : List Nat} (h : Mine W.drew v M w) : Mine W v M w := ⟨h.1, h.2.os, h.2.tape, h.2.output, h.2.size, h.2.block⟩
end Go.Proofs.YthhflkgngencdaaGreatDoor.two
namespace Go.Proofs.YthhflkgngencdaaGreatDoor.pg
open Go.ChangeShapes Go.WideShapes Go.ChangeAt Go.RowKit
open Go.Proofs.YthhflkgngencdaaGreatDoor.codec (Bytes vals vals_append vals_length vals_one OutIs More Made New bytesOf byteAt bytesOf_length bytesOf_lt Fits strOf)
open Go.Proofs.YthhflkgngencdaaGreatDoor.crc (crcOf crcOf_lt crc_prog)
open Go.Proofs.YthhflkgngencdaaGreatDoor.two
set_option linter.unusedVariables false
set_option maxRecDepth 100000
set_option linter.unusedSimpArgs false

/-- What stands ahead of a page's CRC. -/
def first (k n : Nat) : List Nat := [112, 97, 103, k] ++ bytesOf n 4
theorem first_length (k n : Nat) : (first k n).length = 8 := by simp [first, bytesOf]
theorem first_lt {k n : Nat} (hk : k < 256) : ∀ b ∈ first k n, b < 256 := by
  intro b hb
  rcases List.mem_append.1 hb with h | h
  · simp at h
    omega
  · exact bytesOf_lt _ _ b h
def body (k : Nat) (p : List Nat) : List Nat := first k p.length ++ p
theorem body_length (k : Nat) (p : List Nat) : (body k p).length = 8 + p.length := by simp [body, first_length]
theorem body_lt {k : Nat} {p : List Nat} (hk : k < 256) (hp : ∀ b ∈ p, b < 256) : ∀ b ∈ body k p, b < 256 := by
  intro b hb
  rcases List.mem_append.1 hb with h | h
  · exact first_lt hk b h
  · exact hp b h
/-- The page of a payload. -/
def pageL (k : Nat) (p : List Nat) : List Nat := body k p ++ bytesOf (crcOf (body k p)) 4
theorem pageL_length (k : Nat) (p : List Nat) : (pageL k p).length = 12 + p.length := by simp [pageL, body_length, bytesOf]; omega
set_option maxHeartbeats 400000 in
theorem isKind_any (w : World) (n : Int) :
    Calls Tryz.prog 186 #[.int .i64 n] w fun e w' => e = .returned (.bool (decide (1 ≤ n ∧ n ≤ 3))) ∧ w = w' := by
  by_cases h1 : 1 ≤ n
  · by_cases h7 : n ≤ 3
    · have : decide (1 ≤ n ∧ n ≤ 3) = true := by simp [h1, h7]
      rw [this]
      go_enter Tryz.func186, Tryz.ntmps186
      go_wp2
      go_ret
      exact ⟨rfl, rfl⟩
    · have : decide (1 ≤ n ∧ n ≤ 3) = false := by simp [h7]
      rw [this]
      go_enter Tryz.func186, Tryz.ntmps186
      go_wp2
      go_ret
      exact ⟨rfl, rfl⟩
  · have : decide (1 ≤ n ∧ n ≤ 3) = false := by simp [h1]
    rw [this]
    go_enter Tryz.func186, Tryz.ntmps186
    go_wp2
    go_ret
    exact ⟨rfl, rfl⟩

set_option maxHeartbeats 2000000 in
/-- The page of a payload that may be. -/
theorem put_good (W : World) (k n c : Nat) (A : Option Addr) (p : List Nat) (h1 : 1 ≤ k) (h3 : k ≤ 3) (hB : Bytes W A n p) (hn : n ≤ 60000) (hA : A = none → c = 0) :
    Calls Tryz.prog 141 #[.int .i64 k, .slice A n c] W fun e w' => ∃ v, e = .returned (.tuple #[v, .int .i64 0]) ∧ Made W (pageL k p) v w' := by
  have hd : decide ((1 : Int) ≤ (k : Nat) ∧ ((k : Nat) : Int) ≤ 3) = true := by simp; omega
  have HB := Lib.hid hB
  have HN := Lib.hid hA
  have HT := Lib.hid (two_start W)
  have hcv := fun (w : World) (C : Array Value) (n c g : Nat) (hg : g = w.heap.size) => Go.Joins.run_convert_bytes_const_at (P := Tryz.prog) w 40 5 C n c g hg Tryz.underlying40 Tryz.underlying5
  clear hB hA
  go_enter Tryz.func141, Tryz.ntmps141
  go_wp2_with (go_at_call 186; refine (isKind_any _ _).mono ?_; rw [hd]; rintro e w1 ⟨rfl, rfl⟩)
  refine (raw_two (HT.out.alloc _) (m := [112, 97, 103]) (lit_at _ [112, 97, 103] (by decide) 5 (3, 4) (by simp) rfl) (by simp) (by simp) (by simp; omega)).mono ?_
  rintro e w1 ⟨rfl, F1, hT1, -⟩
  have HT1 := Lib.hid hT1
  clear hT1 HT
  go_wp2_with fail
  refine (outN_two (v := k) (n := 1) HT1.out (by simp) (by omega) (by omega) (by omega)).mono ?_
  rintro e w2 ⟨rfl, F2, hT2, -⟩
  have HT2 := Lib.hid hT2
  clear hT2 HT1
  go_wp2_with fail
  refine (outN_two (v := n) (n := 4) HT2.out (by simp [bytesOf]) (by omega) (by omega) (by omega)).mono ?_
  rintro e w3 ⟨rfl, F3, hT3, -⟩
  have hf : [] ++ [112, 97, 103] ++ bytesOf k 1 ++ bytesOf n 4 = first k p.length := by
    have := HB.out.1
    rw [this, show bytesOf k 1 = [k] by simp [bytesOf, byteAt]; omega]
    rfl
  rw [hf] at hT3
  have HT3 := Lib.hid hT3
  clear hT3 HT2 hf
  go_wp2_with fail
  have hBw := HB.out.below HB.out.lt HT3.out.2.2.2.2.2
  refine (raw_two HT3.out hBw (by rw [first_length]; omega) HN.out (fun ad e h0 hF => by have h := HB.out.lt ad e h0; have := HT3.out.2.2.1 _ hF; omega)).mono ?_
  rintro e w4 ⟨rfl, F4, hT4, -⟩
  have HT4 := Lib.hid (show Two W W.heap.size (body k p) F4 (W.heap.size + 1) [] [W.heap.size + 1] w4 from hT4)
  clear hT4 HT3 hBw
  have hlp := HB.out.1
  obtain ⟨m, hm⟩ : ∃ m, m = 8 + n := ⟨_, rfl⟩
  have HBL := Lib.hid (show (body k p).length = m by rw [body_length]; omega)
  have hm1 : m ≤ 70000 := by omega
  clear hm hlp
  go_wp2_with fail
  refine (end_two HT4.out m HBL.out (by omega)).mono ?_
  rintro e w5 ⟨g, rfl, hT5, hB5, hg5⟩
  have HG := Lib.hid (show g ∉ [W.heap.size + 1] from fun h => by
    have := HT4.out.2.1.lt _ h
    omega)
  have HT5 := Lib.hid hT5
  have HB5 := Lib.hid hB5
  clear hT5 HT4 hB5 hg5
  go_wp2_with fail
  refine (raw_two2 HT5.out HB5.out (by simp; omega) (fun e => by cases e) (fun ad e _ => by cases e; exact HG.out)).mono ?_
  rintro e w7 ⟨rfl, F7, hT7, hg7⟩
  rw [List.nil_append] at hT7
  have HT7 := Lib.hid hT7
  have HB7 := Lib.hid (hg7.bytes HB5.out HG.out)
  clear hT7 hg7 HT5 HB5 HG
  have hcl := crcOf_lt (l := body k p) (body_lt (by omega) HB.out.2.1)
  have HC := Lib.hid (crc_prog (some ⟨g, 0, none⟩) m m (body k p) w7 HB7.out (by unfold maxLen; omega))
  generalize hCe : crcOf (body k p) = C at *
  have HCe := Lib.hid hCe
  clear hCe
  go_wp2_with (go_at_call 187; refine HC.out.mono ?_; rintro e w8 ⟨rfl, rfl⟩)
  refine (outN_two2 (v := C) (n := 4) HT7.out (by rw [HBL.out]; omega) (by omega) (by omega) (by omega)).mono ?_
  rintro e w9 ⟨rfl, F9, hT9, hg9⟩
  have HT9 := Lib.hid hT9
  clear hT9 hg9 HT7 HB7 HC
  go_wp2_with fail
  refine (end_two2 HT9.out (by rw [List.length_append, HBL.out, bytesOf_length]; omega)).mono ?_
  rintro e w11 ⟨v, rfl, hM⟩
  have HM := Lib.hid hM
  clear hM HT9
  go_wp2_with fail
  go_ret2
  refine ⟨v, rfl, ?_⟩
  have := HM.out
  rw [← HCe.out] at this
  unfold pageL
  exact this

end Go.Proofs.YthhflkgngencdaaGreatDoor.pg
namespace Go.Proofs.YthhflkgngencdaaGreatDoor.pg
open Go.ChangeShapes Go.WideShapes Go.ChangeAt Go.RowKit
open Go.Proofs.YthhflkgngencdaaGreatDoor.codec (Bytes vals vals_append vals_length vals_one OutIs More Made New bytesOf byteAt bytesOf_length bytesOf_lt Fits strOf)
open Go.Proofs.YthhflkgngencdaaGreatDoor.crc (crcOf crcOf_lt crc_prog)
open Go.Proofs.YthhflkgngencdaaGreatDoor.two
open Go.Proofs.YthhflkgngencdaaGreatDoor.rd
set_option linter.unusedVariables false
set_option maxRecDepth 100000
set_option linter.unusedSimpArgs false

/-- The length that bytes tell. -/
def told (l : List Nat) : Nat := codec.numOf (got 4 (rest 1 (rest 3 (some l))))
/-- What is left behind the payload's length. -/
def left4 (l : List Nat) : Option (List Nat) := rest 4 (rest 1 (rest 3 (some l)))
def payL (l : List Nat) : List Nat := got (told l) (left4 l)
theorem rest_app (a b : List Nat) (k : Nat) (h : a.length = k) : rest k (some (a ++ b)) = some b ∧ got k (some (a ++ b)) = a := by
  subst h
  simp [rest, got]
end Go.Proofs.YthhflkgngencdaaGreatDoor.pg
namespace Go.Proofs.YthhflkgngencdaaGreatDoor.pg
open Go.ChangeShapes Go.WideShapes Go.ChangeAt Go.RowKit
open Go.Proofs.YthhflkgngencdaaGreatDoor.codec (Bytes vals vals_append vals_length vals_one OutIs More Made New bytesOf byteAt bytesOf_length bytesOf_lt Fits strOf)
open Go.Proofs.YthhflkgngencdaaGreatDoor.crc (crcOf crcOf_lt crc_prog)
open Go.Proofs.YthhflkgngencdaaGreatDoor.two
open Go.Proofs.YthhflkgngencdaaGreatDoor.rd
set_option linter.unusedVariables false
set_option maxRecDepth 100000
set_option linter.unusedSimpArgs false

end Go.Proofs.YthhflkgngencdaaGreatDoor.pg
namespace Go.Proofs.YthhflkgngencdaaGreatDoor.idx
open Go.ChangeShapes Go.WideShapes Go.ChangeAt Go.RowKit
open Go.Proofs.YthhflkgngencdaaGreatDoor.row
open Go.Proofs.YthhflkgngencdaaGreatDoor.codec (Bytes OutIs More Touch bytesOf bytesOf_length strOf)
open Go.Proofs.YthhflkgngencdaaGreatDoor.bod (named nums txt nums_length nums_lt strOf_nums)
set_option linter.unusedVariables false
set_option maxRecDepth 100000
set_option linter.unusedSimpArgs false

/-- An Out at p that has taken l; all else is as it was in W. -/
def Ou (W : World) (p : Nat) (l F : List Nat) (w : World) : Prop := OutIs w p l F ∧ (∀ k ∈ F, W.heap.size ≤ k) ∧ Below W.heap.size W w
theorem Ou.more {W w w' : World} {p : Nat} {l l' F : List Nat} (h : Ou W p l F w) (m : More w p l' F w') : ∃ F', Ou W p l' F' w' := by
  obtain ⟨ho, hF, hb⟩ := h
  obtain ⟨F', o', t, s⟩ := m
  refine ⟨F', o', fun k hk => ?_, hb.trans (t.toBelow _ hb.size fun i hi hf => by have := hF i hf; omega)⟩
  rcases s k hk with h | h
  · exact hF k h
  · have := hb.size
    omega
theorem Ou.below {W w w' : World} {p : Nat} {l F : List Nat} (h : Ou W p l F w) (hb : Below w.heap.size w w') : Ou W p l F w' := ⟨h.1.below hb, h.2.1, h.2.2.trans (hb.mono h.2.2.size)⟩
theorem Ou.alloc {W w : World} {p : Nat} {l F : List Nat} (h : Ou W p l F w) (o : Obj) : Ou W p l F (w.alloc o) := h.below ((Below.refl _ _).alloc (Nat.le_refl _) _)
theorem ou_start {W w : World} (h : Below W.heap.size W w) : Ou W w.heap.size [] [w.heap.size] (w.alloc (.cells #[.pointer none, .int .i64 0, .bool false] 154)) :=
  ⟨codec.fresh_new w, fun k hk => by simp at hk; subst hk; exact h.size, h.alloc h.size _⟩
theorem ou_N {W w : World} {p : Nat} {l F : List Nat} (h : Ou W p l F w) (v n : Nat) (hl : l.length ≤ 9000000) (h1 : 1 ≤ n) (h7 : n ≤ 7) (hv : v < 256 ^ n) :
    Calls Tryz.prog 92 #[.pointer (some ⟨p, 0, none⟩), .int .i64 v, .int .i64 n] w fun e w' => e = .returned (.tuple #[]) ∧ ∃ F', Ou W p (l ++ bytesOf v n) F' w' :=
  (codec.outN_fits w p v n l F h.1 hl h1 h7 hv).mono fun _ _ ⟨he, hm⟩ => ⟨he, h.more hm⟩
theorem ou_Text {W w : World} {p : Nat} {l F : List Nat} (h : Ou W p l F w) (s : ByteArray) (hl : l.length ≤ 5000000) (hs : s.size ≤ 65535) :
    Calls Tryz.prog 93 #[.pointer (some ⟨p, 0, none⟩), .string s] w fun e w' => e = .returned (.tuple #[]) ∧ ∃ F', Ou W p (l ++ txt s) F' w' := by
  have := codec.outText_good w p l F (nums s) h.1 hl (nums_lt s) (by rw [nums_length]; exact hs)
  rw [strOf_nums, nums_length] at this
  exact this.mono fun _ _ ⟨he, hm⟩ => ⟨he, h.more hm⟩
theorem cell_at {w : World} {b : Nat} {cs : Array Value} {t : TypeId} {m : Nat × Nat} (h : w.heap[b]? = some (.cells cs t m)) (i : Nat) (v : Value) (hv : cs[i]? = some v) : w.cell? ⟨b, i, none⟩ = some v := by
  simp [World.cell?, h, hv]
/-- .. and a thing that lies beside it. -/
def Ob (W : World) (p : Nat) (l F : List Nat) (b : Nat) (cs : Array Value) (t : TypeId) (w : World) : Prop := Ou W p l F w ∧ b ∉ F ∧ w.heap[b]? = some (.cells cs t (0, 0))
theorem Ob.more {W w w' : World} {p b : Nat} {l l' F : List Nat} {cs : Array Value} {t : TypeId} (h : Ob W p l F b cs t w) (m : More w p l' F w') : ∃ F', Ob W p l' F' b cs t w' := by
  obtain ⟨⟨ho, hF, hb⟩, hn, hc⟩ := h
  have hlt : b < w.heap.size := (Array.getElem?_eq_some_iff.1 hc).1
  obtain ⟨F', o', t', s⟩ := m
  refine ⟨F', ⟨o', fun k hk => ?_, hb.trans (t'.toBelow _ hb.size fun i hi hf => by have := hF i hf; omega)⟩, fun hk => ?_, (t'.2.2.2.2 b hlt hn).trans hc⟩
  · rcases s k hk with h | h
    · exact hF k h
    · have := hb.size
      omega
  · rcases s b hk with h | h
    · exact hn h
    · omega
theorem ob_start {W w : World} {p : Nat} {l F : List Nat} (h : Ou W p l F w) (cs : Array Value) (t : TypeId) : Ob W p l F w.heap.size cs t (w.alloc (.cells cs t)) :=
  ⟨h.alloc _, fun hk => Nat.lt_irrefl _ (h.1.lt _ hk), heap_alloc_new w _⟩
theorem Ob.cell {W w : World} {p b : Nat} {l F : List Nat} {cs : Array Value} {t : TypeId} (h : Ob W p l F b cs t w) (i : Nat) (v : Value) (hv : cs[i]? = some v) : w.cell? ⟨b, i, none⟩ = some v := cell_at h.2.2 i v hv
theorem ob_N {W w : World} {p b : Nat} {l F : List Nat} {cs : Array Value} {t : TypeId} (h : Ob W p l F b cs t w) (v n : Nat) (hl : l.length ≤ 9000000) (h1 : 1 ≤ n) (h7 : n ≤ 7) (hv : v < 256 ^ n) :
    Calls Tryz.prog 92 #[.pointer (some ⟨p, 0, none⟩), .int .i64 v, .int .i64 n] w fun e w' => e = .returned (.tuple #[]) ∧ ∃ F', Ob W p (l ++ bytesOf v n) F' b cs t w' :=
  (codec.outN_fits w p v n l F h.1.1 hl h1 h7 hv).mono fun _ _ ⟨he, hm⟩ => ⟨he, h.more hm⟩
theorem ob_Text {W w : World} {p b : Nat} {l F : List Nat} {cs : Array Value} {t : TypeId} (h : Ob W p l F b cs t w) (s : ByteArray) (hl : l.length ≤ 5000000) (hs : s.size ≤ 65535) :
    Calls Tryz.prog 93 #[.pointer (some ⟨p, 0, none⟩), .string s] w fun e w' => e = .returned (.tuple #[]) ∧ ∃ F', Ob W p (l ++ txt s) F' b cs t w' := by
  have := codec.outText_good w p l F (nums s) h.1.1 hl (nums_lt s) (by rw [nums_length]; exact hs)
  rw [strOf_nums, nums_length] at this
  exact this.mono fun _ _ ⟨he, hm⟩ => ⟨he, h.more hm⟩
theorem ou_End {W w : World} {p : Nat} {l F : List Nat} (h : Ou W p l F w) (N : Nat) (hN : l.length = N) (hl : N ≤ 10000000) :
    Calls Tryz.prog 140 #[.pointer (some ⟨p, 0, none⟩)] w fun e w' => ∃ g, e = .returned (.tuple #[.slice (some ⟨g, 0, none⟩) N N, .int .i64 0]) ∧ W.heap.size ≤ g ∧ Bytes w' (some ⟨g, 0, none⟩) N l ∧ Below W.heap.size W w' := by
  subst hN
  refine (codec.end_good w p l F h.1 hl).mono ?_
  rintro e w' ⟨v, rfl, hm⟩
  obtain ⟨g, rfl, hg, hb, hB⟩ := hm.bytes
  have := h.2.2.size
  exact ⟨g, rfl, by omega, hB, h.2.2.trans (hb.mono this)⟩
/-- What a page that was made is. -/
def PutAns (W : World) (k : Nat) (l : List Nat) (e : Ending) (w' : World) : Prop := ∃ g m, e = .returned (.tuple #[.slice (some ⟨g, 0, none⟩) m m, .int .i64 0]) ∧ m = l.length + 12 ∧ W.heap.size ≤ g ∧ Bytes w' (some ⟨g, 0, none⟩) m (pg.pageL k l) ∧ Below W.heap.size W w'
theorem put_any {W w : World} {p : Nat} {l F : List Nat} (h : Ou W p l F w) (k : Nat) (h1 : 1 ≤ k) (h3 : k ≤ 3) (N : Nat) (hN : l.length = N) (hl : N ≤ 60000) :
    Calls Tryz.prog 94 #[.int .i64 k, .pointer (some ⟨p, 0, none⟩)] w fun e w' => PutAns W k l e w' := by
  have HE := Lib.hid (ou_End h N hN (by omega))
  have HN := Lib.hid hN
  have HP := Lib.hid (fun (w : World) (g : Nat) (hB : Bytes w (some ⟨g, 0, none⟩) N l) => pg.put_good w k N N (some ⟨g, 0, none⟩) l h1 h3 hB hl (fun e => by cases e))
  clear h hN
  go_enter Tryz.func94, Tryz.ntmps94
  go_wp2_with fail
  refine HE.out.mono ?_
  rintro e w1 ⟨g, rfl, hg, hB, hb⟩
  have HB := Lib.hid hB
  have HB1 := Lib.hid hb
  clear hB hb
  go_wp2_with fail
  refine (HP.out w1 g HB.out).mono ?_
  rintro e w2 ⟨v, rfl, hm⟩
  obtain ⟨g2, rfl, hg2, hb2, hB2⟩ := hm.bytes
  have HM := Lib.hid hB2
  have HB2 := Lib.hid hb2
  clear hm hb2 hB2
  go_wp2_with fail
  go_ret2
  have hl2 : (pg.pageL k l).length = l.length + 12 := by rw [pg.pageL_length]; omega
  have e := HM.out
  exact ⟨g2, _, rfl, hl2, by have := HB1.out.size; omega, e, HB1.out.trans (HB2.out.mono HB1.out.size)⟩
/-- What is said of each place of a tree that is formed. -/
theorem up_gt : ∀ (l : List Int) (f : Int), (up f l).2 = true → ∀ n ∈ l, f < n
  | [], f, h, n, hn => by simp at hn
  | a :: r, f, h, n, hn => by
    have h' : (r.foldl (fun st n => (n, st.2 && decide (st.1 < n))) (a, true && decide (f < a))).2 = true := h
    by_cases hfa : f < a
    · rw [decide_eq_true hfa] at h'
      rcases List.mem_cons.1 hn with rfl | hn
      · exact hfa
      · have := up_gt r a h' n hn
        omega
    · rw [decide_eq_false hfa] at h'
      have := fold_no r (a, true && false) rfl
      rw [this] at h'
      cases h'
theorem tree_mem {ps : List P} (h : treeB ps = true) : ∀ p ∈ ps, 0 ≤ p.n ∧ p.n < 16 ∧ named p.s = true := by
  intro p hp
  unfold treeB at h
  simp only [Bool.and_eq_true, Bool.not_eq_true'] at h
  obtain ⟨h1, h2, h3⟩ := h
  have a := up_gt _ _ h1 p.n (List.mem_map_of_mem hp)
  have b := (List.any_eq_false.1 h2) p hp
  simp only [Bool.or_eq_true, decide_eq_true_eq, Bool.not_eq_true', not_or] at b
  exact ⟨by omega, by omega, by have := b.2; simpa using this⟩
theorem named_60 {s : ByteArray} (h : named s = true) : s.size ≤ 60 := by
  unfold named nam.normOk at h
  simp only [Bool.and_eq_true, decide_eq_true_eq] at h
  exact h.1.1
theorem encP_len {p : P} (h : named p.s = true) : (encP p).length ≤ 63 := by
  have := named_60 h
  simp only [encP, txt, List.length_append, bytesOf_length, nums_length]
  omega
theorem flat_len {α : Type} (f : α → List Nat) (c : Nat) : ∀ (l : List α), (∀ x ∈ l, (f x).length ≤ c) → (l.flatMap f).length ≤ c * l.length
  | [], h => by simp
  | x :: r, h => by
    rw [List.flatMap_cons, List.length_append, List.length_cons, Nat.mul_add, Nat.mul_one]
    have := h x (by simp)
    have := flat_len f c r fun y hy => h y (by simp [hy])
    omega
/-- The bytes of a tree's first k places. -/
def treeK (ps : List P) (n k : Nat) : List Nat := bytesOf n 1 ++ (ps.take k).flatMap encP
theorem treeK_next {ps : List P} {n k : Nat} {p : P} (h : ps[k]? = some p) : treeK ps n (k + 1) = (treeK ps n k ++ bytesOf p.n.toNat 1) ++ txt p.s := by
  unfold treeK
  rw [take_next h, List.flatMap_append, List.flatMap_singleton, encP]
  simp only [List.append_assoc]
theorem treeK_len {ps : List P} (h : treeB ps = true) (n k : Nat) (hn : ps.length ≤ 255) : (treeK ps n k).length ≤ 16066 := by
  unfold treeK
  have := flat_len encP 63 (ps.take k) fun p hp => encP_len (tree_mem h p (List.mem_of_mem_take hp)).2.2
  rw [List.length_take] at this
  rw [List.length_append, bytesOf_length]
  have : 63 * min k ps.length ≤ 63 * 255 := Nat.mul_le_mul_left _ (by omega)
  omega
set_option maxHeartbeats 2000000 in
theorem putTree_good (W : World) (A : Option Addr) (n c : Nat) (ps : List P) (hR : Rd cP 2 W A n ps) (hn : n ≤ 255) (hr : nam.Room W) (h : treeB ps = true) :
    Calls Tryz.prog 52 #[.slice A n c] W fun e w' => PutAns W 3 (treeL ps) e w' := by
  have hF := formedTree_any W A n c ps hR (by omega) hr
  rw [h] at hF
  have HF := Lib.hid hF
  have HR := Lib.hid hR
  have HM := Lib.hid (tree_mem h)
  have HK := Lib.hid (fun k => treeK_len h n k (by rw [hR.1]; exact hn))
  have HN := Lib.hid hn
  have hnn : IntKind.i64.wrap (n : Int) = n := by simp [IntKind.wrap, IntKind.bits, IntKind.signed]; omega
  clear hF h hR hr
  go_enter Tryz.func52, Tryz.ntmps52
  go_wp2_with (first
    | (go_at_call 91; refine HF.out.mono ?_; rintro e w1 ⟨rfl, hb⟩; have HB1 := Lib.hid hb; have HO := Lib.hid (ou_start hb); clear hb)
    | (go_at_call 92; refine (ou_N HO.out n 1 (by simp) (by decide) (by decide) (by have := HN.out; omega)).mono ?_; rintro e w2 ⟨rfl, F2, ho⟩; have HO2 := Lib.hid ho; clear ho))
  go_loopw [15] (fun i wr => ∃ k : Nat, k ≤ n ∧ i = .int .i64 k ∧ Hid (∃ F, Ou W w1.heap.size (treeK ps n k) F wr)) (fun i _ => n - (intOf i).toNat)
  case atStart => exact ⟨0, Nat.zero_le _, rfl, Lib.hid ⟨F2, by have := HO2.out; simpa [treeK] using this⟩⟩
  case round =>
    obtain ⟨k, hk, rfl, HS⟩ := hrel
    by_cases hlt : k < n
    · obtain ⟨F, hs⟩ := HS.out
      obtain ⟨b, o, ⟨m, s⟩, rfl, hx, c0, c1⟩ := atP (HR.out.below hs.2.2) k hlt
      have hlt' : (k : Int) < (n : Int) := by omega
      obtain ⟨m0, m1, m2⟩ := HM.out _ (List.mem_of_getElem? hx)
      simp only at c0 c1 m0 m1 m2
      obtain ⟨v, rfl⟩ := Int.eq_ofNat_of_zero_le m0
      have HT := Lib.hid (treeK_next (n := n) hx)
      have HS1 := Lib.hid (ob_start hs #[.int .i64 v, .string s] 100)
      have HS60 := Lib.hid (named_60 m2)
      have HV := Lib.hid (show v < 256 ^ 1 by omega)
      clear hx hs m0 m1 m2
      go_wp2_with (first
        | (go_at_call 92; refine (ob_N HS1.out v 1 (by have := HK.out k; omega) (by decide) (by decide) HV.out).mono ?_; rintro e w3 ⟨rfl, F3, ho⟩; have HO3 := Lib.hid ho; have c2 := ho.cell 1 (.string s) rfl; clear ho)
        | (go_at_call 93; refine (ob_Text HO3.out s (by rw [List.length_append, bytesOf_length]; have := HK.out k; omega) (by have := HS60.out; omega)).mono ?_; rintro e w4 ⟨rfl, F4, ho⟩; have HO4 := Lib.hid (show ∃ F, Ou W w1.heap.size (treeK ps n (k + 1)) F w4 from ⟨F4, by rw [HT.out]; exact ho.1⟩); clear ho))
      go_roundw
      case rel => first | exact ⟨k + 1, by omega, by go_num, HO4⟩ | ((repeat apply Exists.intro); exact ⟨⟨k + 1, by omega, by go_num, HO4⟩, rfl⟩)
      case measure => (show n - ((k : Int) + 1).toNat < n - k; omega)
    · obtain rfl : k = n := by omega
      have HE : Hid (treeK ps k k = treeL ps) := Lib.hid (by unfold treeK treeL; rw [List.take_of_length_le (by rw [HR.out.1]; omega), HR.out.1])
      obtain ⟨F, hs⟩ := HS.out
      rw [HE.out] at hs
      have HP := Lib.hid (put_any hs 3 (by decide) (by decide) _ rfl (by rw [← HE.out]; have := HK.out k; omega))
      clear hs
      go_wp2_with (go_at_call 94; refine HP.out.mono ?_; rintro e w3 ⟨g, mm, rfl, hm⟩; have HM3 := Lib.hid hm; clear hm)
      go_ret2
      exact ⟨g, mm, rfl, HM3.out⟩
end Go.Proofs.YthhflkgngencdaaGreatDoor.idx
namespace Go.Proofs.YthhflkgngencdaaGreatDoor.idx
open Go.ChangeShapes Go.WideShapes Go.ChangeAt Go.RowKit
open Go.Proofs.YthhflkgngencdaaGreatDoor.row
open Go.Proofs.YthhflkgngencdaaGreatDoor.codec (Bytes OutIs More Touch bytesOf bytesOf_length strOf numOf)
open Go.Proofs.YthhflkgngencdaaGreatDoor.bod (named nums txt nums_length nums_lt strOf_nums)
open Go.Proofs.YthhflkgngencdaaGreatDoor.rd (got rest rd_N rd_Text rd_Done rest_lt)
open Go.Proofs.YthhflkgngencdaaGreatDoor.pg (payL)
set_option linter.unusedVariables false
set_option maxRecDepth 100000
set_option linter.unusedSimpArgs false

end Go.Proofs.YthhflkgngencdaaGreatDoor.idx
namespace Go.Proofs.YthhflkgngencdaaGreatDoor.idx
open Go.ChangeShapes Go.WideShapes Go.ChangeAt Go.RowKit
open Go.Proofs.YthhflkgngencdaaGreatDoor.row
open Go.Proofs.YthhflkgngencdaaGreatDoor.codec (Bytes OutIs More Touch bytesOf bytesOf_length strOf numOf)
open Go.Proofs.YthhflkgngencdaaGreatDoor.bod (named nums txt nums_length nums_lt strOf_nums)
open Go.Proofs.YthhflkgngencdaaGreatDoor.rd (got rest rd_N rd_Text rd_Done rest_lt)
open Go.Proofs.YthhflkgngencdaaGreatDoor.pg (payL)
set_option linter.unusedVariables false
set_option maxRecDepth 100000
set_option linter.unusedSimpArgs false

/-- A reader, and a row of things that were read, while k are still to come. -/
def GS {α : Type} (F : α → List Value) (K : Nat) (one : Option (List Nat) → α × Option (List Nat)) (W : World) (B q g : Nat) (E : TypeId) (T : List α × Option (List Nat)) (k : Nat) (L : Option (List Nat)) (v : Value) (acc : List α) (w : World) : Prop :=
  rd.Rd W q g L w ∧ Own F K B E w v acc ∧ acc ++ (readG one k L).1 = T.1 ∧ (readG one k L).2 = T.2 ∧ acc.length + k ≤ 70000 ∧ q < B ∧ g < B ∧ B ≤ w.heap.size
theorem GS.stop {α : Type} {F : α → List Value} {K : Nat} {one : Option (List Nat) → α × Option (List Nat)} {W : World} {B q g : Nat} {E : TypeId} {T : List α × Option (List Nat)} {k : Nat} {L : Option (List Nat)} {v : Value} {acc : List α} {w : World} (h : GS F K one W B q g E T k L v acc w) (hk : k = 0 ∨ L = none) : acc = T.1 ∧ L = T.2 := by
  obtain ⟨-, -, h1, h2, -⟩ := h
  rcases hk with rfl | rfl
  · simp only [readG, List.append_nil] at h1 h2
    exact ⟨h1, h2⟩
  · rw [read_none] at h1 h2
    simp only [List.append_nil] at h1 h2
    exact ⟨h1, h2⟩
theorem readG_some {α : Type} (one : Option (List Nat) → α × Option (List Nat)) (k : Nat) (l : List Nat) : readG one (k + 1) (some l) = ((one (some l)).1 :: (readG one k (one (some l)).2).1, (readG one k (one (some l)).2).2) := rfl
/-- One more was read. -/
theorem GS.more {α : Type} {F : α → List Value} {K : Nat} {one : Option (List Nat) → α × Option (List Nat)} {W : World} {B q g : Nat} {E : TypeId} {T : List α × Option (List Nat)} {k : Nat} {l : List Nat} {v v' : Value} {acc : List α} {w w1 w2 : World} (h : GS F K one W B q g E T (k + 1) (some l) v acc w)
    (hR : rd.Rd W q g (one (some l)).2 w1) (hB : B ≤ w1.heap.size) (ho1 : Own F K B E w1 v acc) (ho : Own F K B E w2 v' (acc ++ [(one (some l)).1])) (hg : w1.grownBy w2 v.ownBlock) : GS F K one W B q g E T k (one (some l)).2 v' (acc ++ [(one (some l)).1]) w2 := by
  obtain ⟨h0, h1, h2, h3, h4, h5, h6, h7⟩ := h
  rw [readG_some] at h2 h3
  have hne : ∀ b, b < B → w1.heap[b]? = w2.heap[b]? := fun b hb => by
    refine (hg.block b (by omega) (fun e => ?_)).symm
    have := (ho1.lt e.symm).1
    omega
  refine ⟨⟨?_, hR.2.1, Nat.lt_of_lt_of_le hR.2.2.1 hg.size, Nat.lt_of_lt_of_le hR.2.2.2.1 hg.size, ?_⟩, ho, by simpa using h2, h3, by simp; omega, h5, h6, Nat.le_trans hB hg.size⟩
  · have k1 := hR.1
    cases hL : (one (some l)).2 with
    | none =>
      rw [hL] at k1
      exact (hne q h5).symm.trans k1
    | some m =>
      rw [hL] at k1
      obtain ⟨o, c, hi, hc⟩ := k1
      exact ⟨o, c, hi.kept (hne q h5).symm (hne g h6).symm, hc⟩
  · refine hR.2.2.2.2.trans ⟨hg.os, hg.tape, hg.output, hg.size, fun b hb => (hne b ?_).symm⟩
    have := hR.2.1
    omega
theorem own_mono {α : Type} {F : α → List Value} {K B B' : Nat} {E : TypeId} {w : World} {v : Value} {ys : List α} (h : Own F K B E w v ys) (hb : B' ≤ B) : Own F K B' E w v ys := ⟨h.1, h.2.imp id fun ⟨g, cap, cur, h1, h2, h3⟩ => ⟨g, cap, cur, h1, Nat.le_trans hb h2, h3⟩⟩
theorem infoP : (Tryz.prog.info? 100).map (fun i => (i.zero, i.size, i.bytes)) = some (some (.agg #[.int .i64 0, .string ⟨#[]⟩]), 2, 24) := by kernel_rfl
end Go.Proofs.YthhflkgngencdaaGreatDoor.idx
namespace Go.Proofs.YthhflkgngencdaaGreatDoor.alk
open Go.Lib
set_option linter.unusedVariables false
set_option linter.unusedSimpArgs false

/-- Byte i of s. -/
def byt (s : ByteArray) (i : Nat) : Nat := (s.data[i]!).toNat
theorem byt_at (s : ByteArray) (i : Nat) (h : i < s.size) : (s[i]'h).toNat = byt s i := by
  unfold byt
  rw [getElem!_pos s.data i (by simpa using h)]; rfl
theorem byt_list (s : ByteArray) (i : Nat) (h : i < s.data.toList.length) : (s.data.toList[i]).toNat = byt s i := by
  unfold byt
  rw [getElem!_pos s.data i (by simpa using h)]
  simp

def low (c : Nat) : Nat := if 65 ≤ c ∧ c ≤ 90 then c + 32 else c
def alike (s t : ByteArray) : Bool := decide (s.size = t.size) && (List.range s.size).all fun i => low (byt s i) == low (byt t i)
theorem alike_true (s t : ByteArray) (h : s.size = t.size) (he : ∀ i, i < s.size → (low (byt s i) == low (byt t i)) = true) : alike s t = true := by
  unfold alike
  simp only [h, decide_true, Bool.true_and, List.all_eq_true, List.mem_range]
  intro i hi
  exact he i (by omega)
theorem fold_low (x y : UInt8) : foldEq x y = (low x.toNat == low y.toNat) := by
  have hx := UInt8.toNat_lt x
  have hy := UInt8.toNat_lt y
  rw [Bool.eq_iff_iff]
  unfold foldEq low
  simp only [decide_eq_true_eq, beq_iff_eq]
  split <;> split <;> omega
theorem equalFold_map : ∀ (s t : List UInt8), equalFold s t = (s.map (fun c => low c.toNat) == t.map (fun c => low c.toNat))
  | [], [] => rfl
  | [], _ :: _ => rfl
  | _ :: _, [] => rfl
  | x :: s, y :: t => by
    rw [equalFold, equalFold_map s t, fold_low]
    simp
end Go.Proofs.YthhflkgngencdaaGreatDoor.alk
namespace Go.Proofs.YthhflkgngencdaaGreatDoor.alk
open Go.ChangeShapes Go.WideShapes Go.ChangeAt Go.RowKit
set_option linter.unusedVariables false
set_option linter.unusedSimpArgs false

theorem small_any (w : World) (c : Nat) (hc : c < 256) :
    Calls Tryz.prog 113 #[.int .u8 (c : Nat)] w fun e w' => e = .returned (.int .u8 (low c : Nat)) ∧ w' = w := by
  unfold low
  by_cases h : 65 ≤ c ∧ c ≤ 90
  · rw [if_pos h]
    go_enter Tryz.func113, Tryz.ntmps113
    go_wp2
    go_ret
    exact ⟨by congr 1, rfl⟩
  · rw [if_neg h]
    go_enter Tryz.func113, Tryz.ntmps113
    go_wp2
    all_goals first | (exfalso; omega) | (go_ret; exact ⟨rfl, rfl⟩)

/-- The world has drawn, and nothing else. -/
def Drew (w w' : World) : Prop := ∃ n, w' = w.drewN n
theorem Drew.drewN {w w' : World} (h : Drew w w') (q : Nat) : Drew w (w'.drewN q) := by
  obtain ⟨n, rfl⟩ := h
  exact ⟨n + q, by rw [World.drewN_drewN]⟩
theorem Drew.below {w w' : World} (h : Drew w w') (B : Nat) : Below B w w' := by
  obtain ⟨n, rfl⟩ := h
  exact ⟨rfl, rfl, rfl, Nat.le_refl _, fun _ _ => rfl⟩

end Go.Proofs.YthhflkgngencdaaGreatDoor.alk
namespace Go.Proofs.YthhflkgngencdaaGreatDoor.flg
open Go.Lib Go.Proofs.YthhflkgngencdaaGreatDoor.alk
set_option linter.unusedVariables false
set_option linter.unusedSimpArgs false

/-- The five lowest bits of a number. -/
def five (x : Int) : Nat := (x % 32).toNat
theorem five_lt (x : Int) : five x < 32 := by unfold five; omega
theorem ofInt_five (x : Int) : (BitVec.ofInt 64 x).toNat % 32 = five x := by
  rw [BitVec.toNat_ofInt]
  unfold five
  omega
theorem wrap_mod (n : Nat) : IntKind.i64.wrap (n : Int) % 32 = (n : Int) % 32 := by
  rw [IntKind.wrap_i64]
  omega
theorem i64_and31 (n : Int) : bits .and .i64 n 31 = five n := by
  have h31 : (BitVec.ofInt 64 31).toNat = 2 ^ 5 - 1 := by decide
  have key : (BitVec.ofInt 64 n &&& BitVec.ofInt 64 31).toNat = (BitVec.ofInt 64 n).toNat % 2 ^ 5 := by
    rw [BitVec.toNat_and, h31, Nat.and_two_pow_sub_one_eq_mod]
  show IntKind.i64.wrap ((BitVec.ofInt 64 n &&& BitVec.ofInt 64 31).toNat : Nat) = _
  rw [key, show 2 ^ 5 = 32 from rfl, ofInt_five, IntKind.wrap_i64]
  have := five_lt n
  omega
theorem five_of_nat {x : Int} {n : Nat} (h : x % 32 = (n : Int) % 32) : five x = n % 32 := by unfold five; omega
theorem five_or (x y : Int) : five (bits .or .i64 x y) = five x ||| five y := by
  have e : bits .or .i64 x y = IntKind.i64.wrap ((BitVec.ofInt 64 x ||| BitVec.ofInt 64 y).toNat : Nat) := rfl
  rw [e, five_of_nat (wrap_mod _), BitVec.toNat_or, show 32 = 2 ^ 5 from rfl, Nat.or_mod_two_pow]
  congr 1 <;> exact ofInt_five _
theorem five_andNot (x y : Int) : five (bits .andNot .i64 x y) = five x &&& (31 ^^^ five y) := by
  have e : bits .andNot .i64 x y = IntKind.i64.wrap ((BitVec.ofInt 64 x &&& ~~~ BitVec.ofInt 64 y).toNat : Nat) := rfl
  rw [e, five_of_nat (wrap_mod _), BitVec.toNat_and, show 32 = 2 ^ 5 from rfl, Nat.and_mod_two_pow, show 2 ^ 5 = 32 from rfl, ofInt_five]
  congr 1
  rw [← ofInt_five y]
  obtain ⟨v, hv⟩ : ∃ v, BitVec.ofInt 64 y = v := ⟨_, rfl⟩
  rw [hv, BitVec.toNat_not]
  have h := v.isLt
  have h32 : v.toNat % 32 < 32 := Nat.mod_lt _ (by decide)
  have h1 : (2 ^ 64 - 1 - v.toNat) % 32 = 31 - v.toNat % 32 := by omega
  rw [h1]
  generalize v.toNat % 32 = k at h32
  revert k
  decide

/-- What the document makes of two flags, bit by bit. -/
def goes (how : Int) (a c : Bool) : Bool := decide (how = 0) && c || decide (how = 1) && (a || c) || decide (how = 2) && a && !c || (decide (how < 0) || decide (2 < how)) && a
/-- The same of the five lowest bits. -/
def chgN (m n : Nat) (h : Nat) : Nat := if h = 0 then n else if h = 1 then m ||| n else if h = 2 then m &&& (31 ^^^ n) else m
def kind (how : Int) : Nat := if how = 0 then 0 else if how = 1 then 1 else if how = 2 then 2 else 3
/-! ### Names -/
def nm (k : Nat) : List UInt8 :=
  if k = 0 then [92, 83, 101, 101, 110] else if k = 1 then [92, 65, 110, 115, 119, 101, 114, 101, 100] else if k = 2 then [92, 70, 108, 97, 103, 103, 101, 100] else if k = 3 then [92, 68, 101, 108, 101, 116, 101, 100] else [92, 68, 114, 97, 102, 116]
def nmS (k : Nat) : ByteArray := ⟨(nm k).toArray⟩
/-- The names of the first k bits of m. -/
def names (m : Nat) : Nat → List ByteArray
  | 0 => []
  | k + 1 => names m k ++ (if m.testBit k then [nmS k] else [])
/-! ### Flags of names -/
end Go.Proofs.YthhflkgngencdaaGreatDoor.flg
namespace Go.Proofs.YthhflkgngencdaaGreatDoor.flg
open Go.ChangeShapes Go.WideShapes Go.ChangeAt Go.RowKit Go.Proofs.YthhflkgngencdaaGreatDoor.alk
set_option linter.unusedVariables false
set_option linter.unusedSimpArgs false

theorem change_any (w : World) (x y how : Int) :
    Calls Tryz.prog 112 #[.int .i64 x, .int .i64 y, .int .i64 how] w fun e w' => e = .returned (.int .i64 (chgN (five x) (five y) (kind how) : Nat)) ∧ w' = w := by
  by_cases h0 : how = 0
  · subst h0
    show Calls _ _ _ w fun e w' => e = .returned (.int .i64 (five y : Nat)) ∧ w' = w
    go_enter Tryz.func112, Tryz.ntmps112
    go_wp2
    go_ret
    exact ⟨by rw [i64_and31]; rfl, rfl⟩
  · by_cases h1 : how = 1
    · subst h1
      show Calls _ _ _ w fun e w' => e = .returned (.int .i64 (five x ||| five y : Nat)) ∧ w' = w
      go_enter Tryz.func112, Tryz.ntmps112
      go_wp2
      go_ret
      exact ⟨by rw [i64_and31, five_or]; rfl, rfl⟩
    · by_cases h2 : how = 2
      · subst h2
        show Calls _ _ _ w fun e w' => e = .returned (.int .i64 (five x &&& (31 ^^^ five y) : Nat)) ∧ w' = w
        go_enter Tryz.func112, Tryz.ntmps112
        go_wp2
        go_ret
        exact ⟨by rw [i64_and31, five_andNot]; rfl, rfl⟩
      · have e0 : (how == 0) = false := by rw [beq_eq_false_iff_ne]; exact h0
        have e1 : (how == 1) = false := by rw [beq_eq_false_iff_ne]; exact h1
        have e2 : (how == 2) = false := by rw [beq_eq_false_iff_ne]; exact h2
        have hk : kind how = 3 := by simp [kind, h0, h1, h2]
        rw [hk]
        show Calls _ _ _ w fun e w' => e = .returned (.int .i64 (five x : Nat)) ∧ w' = w
        clear hk h0 h1 h2
        go_enter Tryz.func112, Tryz.ntmps112
        go_wp2
        go_ret
        exact ⟨by rw [i64_and31]; rfl, rfl⟩

end Go.Proofs.YthhflkgngencdaaGreatDoor.flg
namespace Go.Proofs.YthhflkgngencdaaGreatDoor.idx
open Go.ChangeShapes Go.WideShapes Go.ChangeAt Go.RowKit
open Go.Proofs.YthhflkgngencdaaGreatDoor.row
set_option linter.unusedVariables false
set_option maxRecDepth 100000
set_option linter.unusedSimpArgs false

def uI (e : E) : Int := (e.u : Int)
theorem below_any (w : World) (u x : Nat) (hx : x < 4294967296) :
    Calls Tryz.prog 247 #[.int .u32 u, .int .u32 x] w fun e w' => e = .returned (.bool (belowB u x)) ∧ Below w.heap.size w w' := by
  unfold belowB
  by_cases h1 : u < x
  · have d1 : decide (u < x) = true := decide_eq_true h1
    rw [d1]
    clear h1
    go_enter Tryz.func247, Tryz.ntmps247
    go_wp2
    go_ret
    exact ⟨rfl, Below.refl _ _⟩
  · have d1 : decide (u < x) = false := decide_eq_false h1
    rw [d1]
    by_cases h2 : x = 4294967295
    · have d2 : ((x : Int) == 4294967295) = true := by rw [beq_iff_eq]; omega
      rw [decide_eq_true h2]
      clear h1 h2 hx
      go_enter Tryz.func247, Tryz.ntmps247
      go_wp2
      go_ret
      exact ⟨rfl, Below.refl _ _⟩
    · have d2 : ((x : Int) == 4294967295) = false := by rw [beq_eq_false_iff_ne]; omega
      rw [decide_eq_false h2]
      clear h1 h2 hx
      go_enter Tryz.func247, Tryz.ntmps247
      go_wp2
      go_ret
      exact ⟨rfl, Below.refl _ _⟩
theorem place_any (w : World) (a : Int) :
    Calls Tryz.prog 226 #[.int .i64 a] w fun e w' => e = .returned (.bool (placeB a)) ∧ Below w.heap.size w w' := by
  unfold placeB
  by_cases h1 : 0 ≤ a
  · have d1 : decide ((0 : Int) ≤ a) = true := decide_eq_true h1
    rw [d1]
    by_cases h2 : a ≤ 4294967295
    · have d2 : decide (a ≤ (4294967295 : Int)) = true := decide_eq_true h2
      rw [d2]
      clear h1 h2
      go_enter Tryz.func226, Tryz.ntmps226
      go_wp2
      go_ret
      exact ⟨rfl, Below.refl _ _⟩
    · have d2 : decide (a ≤ (4294967295 : Int)) = false := decide_eq_false h2
      rw [d2]
      clear h1 h2
      go_enter Tryz.func226, Tryz.ntmps226
      go_wp2
      go_ret
      exact ⟨rfl, Below.refl _ _⟩
  · have d1 : decide ((0 : Int) ≤ a) = false := decide_eq_false h1
    rw [d1]
    clear h1
    go_enter Tryz.func226, Tryz.ntmps226
    go_wp2
    go_ret
    exact ⟨rfl, Below.refl _ _⟩
theorem uidE_any (w : World) (u : Nat) (a : Int) (hu : u < 4294967296) :
    Calls Tryz.prog 249 #[.agg #[.int .u32 u, .int .i64 a]] w fun e w' => e = .returned (.int .i64 u) ∧ Below w.heap.size w w' := by
  go_enter Tryz.func249, Tryz.ntmps249
  go_wp2
  go_ret
  exact ⟨rfl, (Below.refl _ _).alloc (Nat.le_refl _) _⟩
set_option maxHeartbeats 1000000 in
theorem riseE_any (W : World) (A : Option Addr) (n c : Nat) (ps : List E) (hR : Rd cE 2 W A n ps) (hn : n ≤ 1000000) (hok : ∀ e ∈ ps, e.u < 4294967296) :
    Calls Tryz.prog 248 #[.slice A n c, .int .i64 1, .func (.func 249) #[] #[]] W fun e w' => e = .returned (.bool (up 0 (ps.map uI)).2) ∧ Below W.heap.size W w' := by
  have HR := Lib.hid hR
  have HOK := Lib.hid hok
  clear hR hok
  go_enter Tryz.func248, Tryz.ntmps248
  go_wp2
  go_loopw [7, 15] (fun s i wr => ∃ k : Nat, k ≤ n ∧ i = .int .i64 k ∧ s = .int .i64 (up 0 ((ps.map uI).take k)).1 ∧ Hid ((up 0 ((ps.map uI).take k)).2 = true) ∧ Hid (Below W.heap.size W wr)) (fun _ i _ => n - (intOf i).toNat)
  case atStart => exact ⟨0, Nat.zero_le _, rfl, rfl, Lib.hid rfl, Lib.hid (Below.refl _ _)⟩
  case round =>
    obtain ⟨k, hk, rfl, rfl, HU, HB⟩ := hrel
    by_cases hlt : k < n
    · obtain ⟨b, o, ⟨m, a⟩, rfl, hx, c0, c1⟩ := atE (HR.out.below HB.out) k hlt
      have hm : m < 4294967296 := HOK.out _ (List.mem_of_getElem? hx)
      have hT := congrArg (up 0) (take_next (map_at uI hx))
      simp only [up_snoc, HU.out, Bool.true_and, uI] at hT
      have HT := Lib.hid hT
      simp only at c0 c1
      have hlt' : (k : Int) < (n : Int) := by omega
      have HN := Lib.hid (fun w => uidE_any w m a hm)
      clear hx hT hm
      generalize (up 0 ((ps.map uI).take k)).1 = g at *
      by_cases hg : g < (m : Int)
      · have hd : decide ((m : Int) ≤ g) = false := decide_eq_false (by omega)
        have HS := Lib.hid (show (up 0 ((ps.map uI).take (k + 1))) = ((m : Int), true) by rw [HT.out, decide_eq_true hg])
        clear HT hg
        go_wp2_with (go_at_call 249; refine (HN.out _).mono ?_; rintro e w1 ⟨rfl, hb⟩; have HB1 := Lib.hid (boxed hb).2; clear hb)
        go_roundw
        case rel => first | exact ⟨k + 1, by omega, by go_num, by rw [HS.out], Lib.hid (by rw [HS.out]), Lib.hid (HB.out.trans (HB1.out.mono HB.out.size))⟩ | ((repeat apply Exists.intro); exact ⟨⟨k + 1, by omega, by go_num, by rw [HS.out], Lib.hid (by rw [HS.out]), Lib.hid (HB.out.trans (HB1.out.mono HB.out.size))⟩, rfl⟩)
        case measure => (show n - ((k : Int) + 1).toNat < n - k; omega)
      · have hd : decide ((m : Int) ≤ g) = true := decide_eq_true (by omega)
        have HS := Lib.hid (show (up 0 (ps.map uI)).2 = false from up_stop (i := k + 1) (by rw [HT.out, decide_eq_false hg]))
        clear HT hg
        go_wp2_with (go_at_call 249; refine (HN.out _).mono ?_; rintro e w1 ⟨rfl, hb⟩; have HB1 := Lib.hid (boxed hb).2; clear hb)
        go_ret
        exact ⟨by rw [HS.out]; rfl, HB.out.trans (HB1.out.mono HB.out.size)⟩
    · obtain rfl : k = n := by omega
      have HE : Hid ((ps.map uI).take k = ps.map uI) := Lib.hid (List.take_of_length_le (by rw [List.length_map, HR.out.1]; omega))
      go_wp2
      go_ret
      exact ⟨by rw [← HE.out, HU.out]; rfl, HB.out⟩
theorem uidM_any (w : World) (u : Nat) (a : Int) (hu : u < 4294967296) :
    Calls Tryz.prog 254 #[.agg #[.int .u32 u, .int .i64 a]] w fun e w' => e = .returned (.int .i64 u) ∧ Below w.heap.size w w' := by
  go_enter Tryz.func254, Tryz.ntmps254
  go_wp2
  go_ret
  exact ⟨rfl, (Below.refl _ _).alloc (Nat.le_refl _) _⟩
set_option maxHeartbeats 1000000 in
theorem riseM_any (W : World) (A : Option Addr) (n c : Nat) (ps : List E) (hR : Rd cE 2 W A n ps) (hn : n ≤ 1000000) (hok : ∀ e ∈ ps, e.u < 4294967296) :
    Calls Tryz.prog 253 #[.slice A n c, .int .i64 1, .func (.func 254) #[] #[]] W fun e w' => e = .returned (.bool (up 0 (ps.map uI)).2) ∧ Below W.heap.size W w' := by
  have HR := Lib.hid hR
  have HOK := Lib.hid hok
  clear hR hok
  go_enter Tryz.func253, Tryz.ntmps253
  go_wp2
  go_loopw [7, 15] (fun s i wr => ∃ k : Nat, k ≤ n ∧ i = .int .i64 k ∧ s = .int .i64 (up 0 ((ps.map uI).take k)).1 ∧ Hid ((up 0 ((ps.map uI).take k)).2 = true) ∧ Hid (Below W.heap.size W wr)) (fun _ i _ => n - (intOf i).toNat)
  case atStart => exact ⟨0, Nat.zero_le _, rfl, rfl, Lib.hid rfl, Lib.hid (Below.refl _ _)⟩
  case round =>
    obtain ⟨k, hk, rfl, rfl, HU, HB⟩ := hrel
    by_cases hlt : k < n
    · obtain ⟨b, o, ⟨m, a⟩, rfl, hx, c0, c1⟩ := atE (HR.out.below HB.out) k hlt
      have hm : m < 4294967296 := HOK.out _ (List.mem_of_getElem? hx)
      have hT := congrArg (up 0) (take_next (map_at uI hx))
      simp only [up_snoc, HU.out, Bool.true_and, uI] at hT
      have HT := Lib.hid hT
      simp only at c0 c1
      have hlt' : (k : Int) < (n : Int) := by omega
      have HN := Lib.hid (fun w => uidM_any w m a hm)
      clear hx hT hm
      generalize (up 0 ((ps.map uI).take k)).1 = g at *
      by_cases hg : g < (m : Int)
      · have hd : decide ((m : Int) ≤ g) = false := decide_eq_false (by omega)
        have HS := Lib.hid (show (up 0 ((ps.map uI).take (k + 1))) = ((m : Int), true) by rw [HT.out, decide_eq_true hg])
        clear HT hg
        go_wp2_with (go_at_call 254; refine (HN.out _).mono ?_; rintro e w1 ⟨rfl, hb⟩; have HB1 := Lib.hid (boxed hb).2; clear hb)
        go_roundw
        case rel => first | exact ⟨k + 1, by omega, by go_num, by rw [HS.out], Lib.hid (by rw [HS.out]), Lib.hid (HB.out.trans (HB1.out.mono HB.out.size))⟩ | ((repeat apply Exists.intro); exact ⟨⟨k + 1, by omega, by go_num, by rw [HS.out], Lib.hid (by rw [HS.out]), Lib.hid (HB.out.trans (HB1.out.mono HB.out.size))⟩, rfl⟩)
        case measure => (show n - ((k : Int) + 1).toNat < n - k; omega)
      · have hd : decide ((m : Int) ≤ g) = true := decide_eq_true (by omega)
        have HS := Lib.hid (show (up 0 (ps.map uI)).2 = false from up_stop (i := k + 1) (by rw [HT.out, decide_eq_false hg]))
        clear HT hg
        go_wp2_with (go_at_call 254; refine (HN.out _).mono ?_; rintro e w1 ⟨rfl, hb⟩; have HB1 := Lib.hid (boxed hb).2; clear hb)
        go_ret
        exact ⟨by rw [HS.out]; rfl, HB.out.trans (HB1.out.mono HB.out.size)⟩
    · obtain rfl : k = n := by omega
      have HE : Hid ((ps.map uI).take k = ps.map uI) := Lib.hid (List.take_of_length_le (by rw [List.length_map, HR.out.1]; omega))
      go_wp2
      go_ret
      exact ⟨by rw [← HE.out, HU.out]; rfl, HB.out⟩
end Go.Proofs.YthhflkgngencdaaGreatDoor.idx
