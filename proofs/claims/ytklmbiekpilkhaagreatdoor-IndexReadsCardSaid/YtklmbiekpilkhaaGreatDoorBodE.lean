/- How a note is encoded. -/
import Derived.Test.YtklmbiekpilkhaaGreatDoorBodC
namespace Go.Proofs.YtklmbiekpilkhaaGreatDoor.bod
open Go.ChangeShapes Go.WideShapes Go.ChangeAt Go.RowKit
open Go.Proofs.YtklmbiekpilkhaaGreatDoor.codec (Bytes OutIs More Touch bytesOf bytesOf_length strOf)
set_option linter.unusedVariables false
set_option linter.unusedSimpArgs false
set_option maxRecDepth 100000

/-- A note at b, and an Out at P that has taken l. -/
def Enc (W : World) (b : Nat) (cs : Array Value) (P : Nat) (l F : List Nat) (w : World) : Prop :=
  w.heap[b]? = some (.cells cs 100 (0, 0)) ∧ OutIs w P l F ∧ (∀ k ∈ F, W.heap.size ≤ k ∧ k ≠ b) ∧ b < w.heap.size ∧ Below W.heap.size W w
theorem Enc.more {W w w' : World} {b P : Nat} {cs : Array Value} {l l' F : List Nat} (h : Enc W b cs P l F w) (m : More w P l' F w') : ∃ F', Enc W b cs P l' F' w' := by
  obtain ⟨hb, ho, hF, hlt, hbel⟩ := h
  obtain ⟨F', o', t, s⟩ := m
  have hsz := t.2.2.2.1
  refine ⟨F', ?_, o', fun k hk => ?_, by omega, hbel.trans (t.toBelow _ hbel.size fun i hi hf => by have := (hF i hf).1; omega)⟩
  · exact (t.2.2.2.2 b hlt (fun hf => (hF b hf).2 rfl)).trans hb
  · rcases s k hk with h | h
    · exact hF k h
    · have := hbel.size
      exact ⟨by omega, by omega⟩
theorem enc_N {W w : World} {b P : Nat} {cs : Array Value} {l F : List Nat} (h : Enc W b cs P l F w) (v n : Nat) (hl : l.length ≤ 9000000) (h1 : 1 ≤ n) (h7 : n ≤ 7) (hv : v < 256 ^ n) :
    Calls Tryz.prog 25 #[.pointer (some ⟨P, 0, none⟩), .int .i64 v, .int .i64 n] w fun e w' => e = .returned (.tuple #[]) ∧ ∃ F', Enc W b cs P (l ++ bytesOf v n) F' w' :=
  (codec.outN_fits w P v n l F h.2.1 hl h1 h7 hv).mono fun _ _ ⟨he, hm⟩ => ⟨he, h.more hm⟩
theorem enc_Text {W w : World} {b P : Nat} {cs : Array Value} {l F : List Nat} (h : Enc W b cs P l F w) (s : ByteArray) (hl : l.length ≤ 5000000) (hs : s.size ≤ 65535) :
    Calls Tryz.prog 24 #[.pointer (some ⟨P, 0, none⟩), .string s] w fun e w' => e = .returned (.tuple #[]) ∧ ∃ F', Enc W b cs P (l ++ txt s) F' w' := by
  have := codec.outText_good w P l F (nums s) h.2.1 hl (nums_lt s) (by rw [nums_length]; exact hs)
  rw [strOf_nums, nums_length] at this
  exact this.mono fun _ _ ⟨he, hm⟩ => ⟨he, h.more hm⟩
theorem enc_Raw {W w : World} {b P n c : Nat} {cs : Array Value} {l F m : List Nat} {A : Option Addr} (h : Enc W b cs P l F w) (hB : Bytes W A n m) (hA : A = none → c = 0) (hn : l.length + n ≤ 10000000) :
    Calls Tryz.prog 85 #[.pointer (some ⟨P, 0, none⟩), .slice A n c] w fun e w' => e = .returned (.tuple #[]) ∧ ∃ F', Enc W b cs P (l ++ m) F' w' :=
  (codec.raw_good w P l F A n c m h.2.1 (hB.below hB.lt h.2.2.2.2) hn hA (fun ad e h0 hF => by have := hB.lt ad e h0; have := (h.2.2.1 _ hF).1; omega)).mono fun _ _ ⟨he, hm⟩ => ⟨he, h.more hm⟩
theorem enc_End {W w : World} {b P : Nat} {cs : Array Value} {l F : List Nat} (h : Enc W b cs P l F w) (N : Nat) (hN : l.length = N) (hl : N ≤ 10000000) :
    Calls Tryz.prog 53 #[.pointer (some ⟨P, 0, none⟩)] w fun e w' => ∃ g, e = .returned (.tuple #[.slice (some ⟨g, 0, none⟩) N N, .int .i64 0]) ∧ W.heap.size ≤ g ∧ Bytes w' (some ⟨g, 0, none⟩) N l ∧ Below W.heap.size W w' := by
  subst hN
  refine (codec.end_good w P l F h.2.1 hl).mono ?_
  rintro e w' ⟨v, rfl, hm⟩
  obtain ⟨g, rfl, hg, hb, hB⟩ := hm.bytes
  have := h.2.2.2.2.size
  exact ⟨g, rfl, by omega, hB, h.2.2.2.2.trans (hb.mono this)⟩
theorem enc_start {W w1 : World} {cs : Array Value} (h : Below (W.alloc (.cells cs 100)).heap.size (W.alloc (.cells cs 100)) w1) :
    Enc W W.heap.size cs w1.heap.size [] [w1.heap.size] (w1.alloc (.cells #[.pointer none, .int .i64 0, .bool false] 79)) := by
  obtain ⟨h1, h2⟩ := boxed h
  have hs : W.heap.size < w1.heap.size := by have := h.size; simp at this; omega
  have h3 : Below w1.heap.size w1 (w1.alloc (.cells #[.pointer none, .int .i64 0, .bool false] 79)) := (Below.refl _ _).alloc (Nat.le_refl _) _
  refine ⟨(h3.block _ hs).trans h1, codec.fresh_new w1, fun k hk => ?_, by have := h3.size; omega, h2.trans (h3.mono h2.size)⟩
  simp at hk
  subst hk
  exact ⟨by omega, by omega⟩
/-- What Encode answers. -/
def EncAns (W : World) (k : Int) (e : Nat) (s : ByteArray) (u : Nat) (d f : Int) (o : List Nat) (x : Ending) (w' : World) : Prop :=
  if formedB k e s u d f o.length then ∃ g N, x = .returned (.tuple #[.slice (some ⟨g, 0, none⟩) N N, .int .i64 0]) ∧ (payL k e s u d f o).length = N ∧ W.heap.size ≤ g ∧ Bytes w' (some ⟨g, 0, none⟩) N (payL k e s u d f o) ∧ Below W.heap.size W w'
  else x = .returned (.tuple #[.slice none 0 0, .int .i64 1]) ∧ Below W.heap.size W w'
end Go.Proofs.YtklmbiekpilkhaaGreatDoor.bod
