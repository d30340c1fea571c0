/- Two Outs beside each other; bytes of the call's own. -/
import Derived.Test.YtklmbiekpilkhaaGreatDoorCrc
import Derived.Lib.SmallJoins
namespace Go.Proofs.YtklmbiekpilkhaaGreatDoor.two
open Go.ChangeShapes Go.WideShapes Go.ChangeAt Go.RowKit
open Go.Proofs.YtklmbiekpilkhaaGreatDoor.codec (Bytes vals vals_append vals_length vals_one OutIs More Made New bytesOf byteAt bytesOf_length bytesOf_lt Fits strOf)
set_option linter.unusedVariables false
set_option maxRecDepth 100000
set_option linter.unusedSimpArgs false

/-- Two Outs beside each other, on blocks of the call's own. -/
def Two (W : World) (P1 : Nat) (l1 F1 : List Nat) (P2 : Nat) (l2 F2 : List Nat) (w : World) : Prop :=
  OutIs w P1 l1 F1 ∧ OutIs w P2 l2 F2 ∧ (∀ k ∈ F1, W.heap.size ≤ k) ∧ (∀ k ∈ F2, W.heap.size ≤ k) ∧ (∀ k ∈ F2, k ∉ F1) ∧ Below W.heap.size W w
def Grew (F : List Nat) (w : World) (F' : List Nat) (w' : World) : Prop := codec.Touch (fun k => k ∈ F) w w' ∧ ∀ k ∈ F', k ∈ F ∨ w.heap.size ≤ k
theorem Two.more1 {W w w' : World} {P1 P2 : Nat} {l1 l2 l1' F1 F2 : List Nat} (h : Two W P1 l1 F1 P2 l2 F2 w) (m : More w P1 l1' F1 w') : ∃ F1', Two W P1 l1' F1' P2 l2 F2 w' ∧ Grew F1 w F1' w' := by
  obtain ⟨h1, h2, h3, h4, h5, h6⟩ := h
  obtain ⟨F', m1, m2, m3⟩ := m
  refine ⟨F', ⟨m1, h2.touch m2 h5, fun k hk => ?_, h4, fun k hk hk' => ?_, ?_⟩, m2, m3⟩
  · rcases m3 k hk with h | h
    · exact h3 k h
    · exact Nat.le_trans h6.size h
  · rcases m3 k hk' with h | h
    · exact h5 k hk h
    · exact absurd (h2.lt k hk) (by omega)
  · exact h6.trans (m2.toBelow W.heap.size h6.size (fun i hi hF => absurd (h3 i hF) (by omega)))
theorem Two.more2 {W w w' : World} {P1 P2 : Nat} {l1 l2 l2' F1 F2 : List Nat} (h : Two W P1 l1 F1 P2 l2 F2 w) (m : More w P2 l2' F2 w') : ∃ F2', Two W P1 l1 F1 P2 l2' F2' w' ∧ Grew F2 w F2' w' := by
  obtain ⟨h1, h2, h3, h4, h5, h6⟩ := h
  obtain ⟨F', ⟨h1', h2', h3', h4', h5', h6'⟩, hg⟩ := Two.more1 (W := W) (P1 := P2) (P2 := P1) (l2 := l1) ⟨h2, h1, h4, h3, fun k a b => h5 k b a, h6⟩ m
  exact ⟨F', ⟨h2', h1', h4', h3', fun k a b => h5' k b a, h6'⟩, hg⟩
theorem Grew.bytes {F F' : List Nat} {w w' : World} {g n : Nat} {o : Nat} {l : List Nat} (h : Grew F w F' w') (hB : Bytes w (some ⟨g, o, none⟩) n l) (hg : g ∉ F) : Bytes w' (some ⟨g, o, none⟩) n l :=
  hB.touch (fun ad e _ => by cases e; exact hg) h.1
theorem Grew.not {F F' : List Nat} {w w' : World} {g : Nat} (h : Grew F w F' w') (hg : g ∉ F) (hlt : g < w.heap.size) : g ∉ F' := fun hh => by
  rcases h.2 g hh with k | k
  · exact hg k
  · omega
theorem Two.below {W w w' : World} {P1 P2 : Nat} {l1 l2 F1 F2 : List Nat} (h : Two W P1 l1 F1 P2 l2 F2 w) (hb : Below w.heap.size w w') : Two W P1 l1 F1 P2 l2 F2 w' :=
  ⟨h.1.below hb, h.2.1.below hb, h.2.2.1, h.2.2.2.1, h.2.2.2.2.1, h.2.2.2.2.2.trans (hb.mono h.2.2.2.2.2.size)⟩
theorem Two.alloc {W w : World} {P1 P2 : Nat} {l1 l2 F1 F2 : List Nat} (h : Two W P1 l1 F1 P2 l2 F2 w) (o : Obj) : Two W P1 l1 F1 P2 l2 F2 (w.alloc o) := h.below ((Below.refl _ _).alloc (Nat.le_refl _) _)
theorem two_start (W : World) : Two W W.heap.size [] [W.heap.size] (W.heap.size + 1) [] [W.heap.size + 1] ((W.alloc (.cells #[.pointer none, .int .i64 0, .bool false] 79)).alloc (.cells #[.pointer none, .int .i64 0, .bool false] 79)) := by
  have h1 := codec.fresh_new W
  have h2 := codec.fresh_new (W.alloc (.cells #[.pointer none, .int .i64 0, .bool false] 79))
  rw [show (W.alloc (.cells #[.pointer none, .int .i64 0, .bool false] 79)).heap.size = W.heap.size + 1 by simp] at h2
  refine ⟨h1.below ((Below.refl _ _).alloc (Nat.le_refl _) _), h2, by simp, by simp, by simp, ((Below.refl _ _).alloc (Nat.le_refl _) _).alloc (by simp) _⟩
theorem Bytes.lit (w : World) (l : List Nat) (hl : ∀ b ∈ l, b < 256) (e : TypeId) (m : Nat × Nat) :
    Bytes (w.alloc (.cells (l.map fun b => Value.int .u8 (b : Nat)).toArray e m)) (some ⟨w.heap.size, 0, none⟩) l.length l := crc.Bytes_lit w l hl e m

theorem lit_at (w : World) (l : List Nat) (hl : ∀ b ∈ l, b < 256) (e : TypeId) (m : Nat × Nat) {g n : Nat} (hg : g = w.heap.size) (hn : l.length = n) :
    Bytes (w.alloc (.cells (vals l).toArray e m)) (some ⟨g, 0, none⟩) n l := by
  subst hg hn
  exact Bytes.lit w l hl e m
theorem fits_i {v n : Nat} (h1 : 1 ≤ n) (h7 : n ≤ 7) (hv : v < 256 ^ n) : Fits (v : Nat) (n : Nat) :=
  ⟨by omega, by omega, by omega, by simpa using (by exact_mod_cast hv : ((v : Nat) : Int) < ((256 ^ n : Nat) : Int))⟩
theorem outN_two {W w : World} {P1 P2 v n : Nat} {l1 l2 F1 F2 : List Nat} (h : Two W P1 l1 F1 P2 l2 F2 w) (hl : l1.length ≤ 9000000) (h1 : 1 ≤ n) (h7 : n ≤ 7) (hv : v < 256 ^ n) :
    Calls Tryz.prog 25 #[.pointer (some ⟨P1, 0, none⟩), .int .i64 v, .int .i64 n] w fun e w' => e = .returned (.tuple #[]) ∧ ∃ F', Two W P1 (l1 ++ bytesOf v n) F' P2 l2 F2 w' ∧ Grew F1 w F' w' :=
  (codec.outN_fits w P1 v n l1 F1 h.1 hl h1 h7 hv).mono fun _ _ ⟨he, hm⟩ => ⟨he, h.more1 hm⟩
theorem outN_two2 {W w : World} {P1 P2 v n : Nat} {l1 l2 F1 F2 : List Nat} (h : Two W P1 l1 F1 P2 l2 F2 w) (hl : l2.length ≤ 9000000) (h1 : 1 ≤ n) (h7 : n ≤ 7) (hv : v < 256 ^ n) :
    Calls Tryz.prog 25 #[.pointer (some ⟨P2, 0, none⟩), .int .i64 v, .int .i64 n] w fun e w' => e = .returned (.tuple #[]) ∧ ∃ F', Two W P1 l1 F1 P2 (l2 ++ bytesOf v n) F' w' ∧ Grew F2 w F' w' :=
  (codec.outN_fits w P2 v n l2 F2 h.2.1 hl h1 h7 hv).mono fun _ _ ⟨he, hm⟩ => ⟨he, h.more2 hm⟩
theorem raw_two {W w : World} {P1 P2 n c : Nat} {l1 l2 m F1 F2 : List Nat} {A : Option Addr} (h : Two W P1 l1 F1 P2 l2 F2 w) (hB : Bytes w A n m) (hn : l1.length + n ≤ 10000000) (hA : A = none → c = 0) (hAp : ∀ ad, A = some ad → 0 < n → ad.block ∉ F1) :
    Calls Tryz.prog 85 #[.pointer (some ⟨P1, 0, none⟩), .slice A n c] w fun e w' => e = .returned (.tuple #[]) ∧ ∃ F', Two W P1 (l1 ++ m) F' P2 l2 F2 w' ∧ Grew F1 w F' w' :=
  (codec.raw_good w P1 l1 F1 A n c m h.1 hB hn hA hAp).mono fun _ _ ⟨he, hm⟩ => ⟨he, h.more1 hm⟩
theorem raw_two2 {W w : World} {P1 P2 n c : Nat} {l1 l2 m F1 F2 : List Nat} {A : Option Addr} (h : Two W P1 l1 F1 P2 l2 F2 w) (hB : Bytes w A n m) (hn : l2.length + n ≤ 10000000) (hA : A = none → c = 0) (hAp : ∀ ad, A = some ad → 0 < n → ad.block ∉ F2) :
    Calls Tryz.prog 85 #[.pointer (some ⟨P2, 0, none⟩), .slice A n c] w fun e w' => e = .returned (.tuple #[]) ∧ ∃ F', Two W P1 l1 F1 P2 (l2 ++ m) F' w' ∧ Grew F2 w F' w' :=
  (codec.raw_good w P2 l2 F2 A n c m h.2.1 hB hn hA hAp).mono fun _ _ ⟨he, hm⟩ => ⟨he, h.more2 hm⟩
theorem end_two {W w : World} {P1 P2 : Nat} {l1 l2 F1 F2 : List Nat} (h : Two W P1 l1 F1 P2 l2 F2 w) (N : Nat) (hN : l1.length = N) (hl : N ≤ 10000000) :
    Calls Tryz.prog 53 #[.pointer (some ⟨P1, 0, none⟩)] w fun e w' => ∃ g, e = .returned (.tuple #[.slice (some ⟨g, 0, none⟩) N N, .int .i64 0]) ∧ Two W P1 l1 F1 P2 l2 F2 w' ∧ Bytes w' (some ⟨g, 0, none⟩) N l1 ∧ w.heap.size ≤ g := by
  subst hN
  exact (codec.end_good w P1 l1 F1 h.1 hl).mono fun _ _ ⟨v, he, hm⟩ => by
    obtain ⟨g, rfl, h1, h2, h3⟩ := hm.bytes
    exact ⟨g, he, h.below h2, h3, h1⟩
theorem end_two2 {W w : World} {P1 P2 : Nat} {l1 l2 F1 F2 : List Nat} (h : Two W P1 l1 F1 P2 l2 F2 w) (hl : l2.length ≤ 10000000) :
    Calls Tryz.prog 53 #[.pointer (some ⟨P2, 0, none⟩)] w fun e w' => ∃ v, e = .returned (.tuple #[v, .int .i64 0]) ∧ Made W l2 v w' :=
  (codec.end_good w P2 l2 F2 h.2.1 hl).mono fun _ _ ⟨v, he, g, hv, h1, h2, h3⟩ => ⟨v, he, g, hv, Nat.le_trans h.2.2.2.2.2.size h1, h.2.2.2.2.2.trans (h2.mono h.2.2.2.2.2.size), h3⟩
theorem all_vals (l : List Nat) : (vals l).toArray.all (·.oneCell') = true := by
  rw [Array.all_eq_true]
  intro i hi
  have := vals_one l (vals l)[i] (List.getElem_mem (by simpa using hi))
  simpa using this
theorem row_bytes {w : World} {g : Nat} {t : TypeId} {l : List Nat} (h : w.heap[g]? = some (.cells (vals l).toArray t (0, 0))) (hl : ∀ b ∈ l, b < 256) (n : Nat) (hn : l.length = n) : Bytes w (some ⟨g, 0, none⟩) n l := by
  refine ⟨hn, hl, fun _ => ⟨g, 0, rfl, fun i hi => ?_⟩⟩
  have hi' : i < l.length := by omega
  simp [World.cell?, h, vals, List.getD, hi']

/-- Bytes of the call's own. -/
def Mine (W : World) (v : Value) (M : List Nat) (w : World) : Prop := w.ownsRow W.heap.size 5 1 v M.length (vals M) ∧ Below W.heap.size W w
theorem Mine.below {W w w' : World} {v : Value} {M : List Nat} (h : Mine W v M w) (hb : Below w.heap.size w w') : Mine W v M w' :=
  ⟨h.1.kept (row := none) ⟨hb.os, hb.tape, hb.output, hb.size, fun i hi _ => hb.block i hi⟩ (by cases hv : v.ownBlock <;> simp), h.2.trans (hb.mono h.2.size)⟩
theorem Mine.alloc {W w : World} {v : Value} {M : List Nat} (h : Mine W v M w) (o : Obj) : Mine W v M (w.alloc o) := h.below ((Below.refl _ _).alloc (Nat.le_refl _) _)
theorem Mine.more {W w w' : World} {v v' : Value} {M M' : List Nat} (h : Mine W v M w) (ho : w'.ownsRow W.heap.size 5 1 v' M'.length (vals M')) (hg : w.grownBy w' v.ownBlock) : Mine W v' M' w' :=
  ⟨ho, h.2.trans ⟨hg.os, hg.tape, hg.output, hg.size, fun i hi => hg.block i (Nat.lt_of_lt_of_le hi h.2.size) (fun e => by have := (h.1.lt _ e.symm).1; omega)⟩⟩
theorem Mine.form {W w : World} {v : Value} {M : List Nat} (h : Mine W v M w) (N : Nat) (hN : M.length = N) (h0 : 0 < N) : ∃ g cap, v = .slice (some ⟨g, 0, none⟩) N cap ∧ N ≤ cap ∧ W.heap.size ≤ g := by
  subst hN
  rcases h.1.2 with ⟨_, h1⟩ | ⟨g, cap, cur, e, hb, _, hc, _⟩
  · omega
  · exact ⟨g, cap, e, hc, hb⟩
theorem Mine.bytes {W w : World} {g N cap : Nat} {M : List Nat} (h : Mine W (.slice (some ⟨g, 0, none⟩) N cap) M w) (hN : M.length = N) (hb : ∀ x ∈ M, x < 256) : Bytes w (some ⟨g, 0, none⟩) N M := codec.own_bytes' h.1 hN hb
theorem own_lit (W : World) (l : List Nat) (B n : Nat) (hn : l.length = n) (hl : n ≤ 1000) (hB : B ≤ W.heap.size) : (W.alloc (.cells (vals l).toArray 5)).ownsRow B 5 1 (.slice (some ⟨W.heap.size, 0, none⟩) n n) l.length (vals l) := by
  subst hn
  refine ⟨by simp [vals], .inr ⟨W.heap.size, l.length, _, rfl, hB, heap_alloc_new W _, Nat.le_refl _, by unfold maxLen; omega, by simp [vals], by rw [List.take_of_length_le] <;> simp [vals]⟩⟩
theorem mine_lit (W : World) (l : List Nat) (n : Nat) (hn : l.length = n) (hl : n ≤ 1000) : Mine W (.slice (some ⟨W.heap.size, 0, none⟩) n n) l (W.alloc (.cells (vals l).toArray 5)) :=
  ⟨own_lit W l _ n hn hl (Nat.le_refl _), (Below.refl _ _).alloc (Nat.le_refl _) _⟩

theorem refBytes_at (w : World) (v n : Nat) (hv : v < 18446744073709551616) (h1 : 1 ≤ n) (hn : n ≤ 100) :
    Calls Tryz.prog 94 #[.int .u64 v, .int .i64 n] w fun e w' => ∃ g, e = .returned (.slice (some ⟨g, 0, none⟩) n n) ∧ Bytes w' (some ⟨g, 0, none⟩) n (bytesOf v n) ∧ Below w.heap.size w w' :=
  (codec.refBytes_any w v n hv h1 hn).mono fun _ _ ⟨he, hr, hb⟩ => ⟨_, he, ⟨by simp [bytesOf], bytesOf_lt v n, fun _ => ⟨_, 0, rfl, fun i hi => by
    have := hr.cell (i := i) hi
    rw [Nat.zero_add, this]
    simp [bytesOf, List.getD, hi]⟩⟩, hb⟩
theorem Mine.drew {W w : World} {v : Value} {M : List Nat} (h : Mine W.drew v M w) : Mine W v M w := ⟨h.1, h.2.os, h.2.tape, h.2.output, h.2.size, h.2.block⟩
end Go.Proofs.YtklmbiekpilkhaaGreatDoor.two
