/- What the small parts of package codec answer. -/
import Derived.Test.YtmooeadeihgbdaaRows
import Derived.WalkKit
import Derived.ProofKit
import Derived.OpenShut
import Derived.ShutString
import Derived.ChangeOld
import Derived.Below
import Derived.Outline
import Derived.WalkSpells
import Derived.Lib.Hide
import Derived.Deep.QuietTactic
import Derived.BigQuiet
import Derived.Deep.OwnRows
import Derived.Deep.WholeRow
import Derived.StillTailTactics
import Derived.Lib.SlBytesConst
import Derived.Laws.CopyOwn
import Derived.Laws.AppendOwnNone
import Derived.Maps.AppendAt
import Derived.Deep.RegionLaw
import Derived.Deep.Heap
namespace Go.Proofs.Ytmooeadeihgbdaa.codec
open Go.ChangeShapes Go.WideShapes Go.ChangeAt Go.RowKit
set_option linter.unusedVariables false
set_option maxRecDepth 100000
set_option linter.unusedSimpArgs false

theorem below_draws {B : Nat} {a w : World} (h : Below B a w) (n : Nat) : Below B a (w.drewN n) := ⟨h.os, h.tape, h.output, h.size, h.block⟩
/-- The slice reads as these bytes. -/
def Bytes (w : World) (A : Option Addr) (n : Nat) (l : List Nat) : Prop :=
  l.length = n ∧ (∀ b ∈ l, b < 256) ∧ (0 < n → ∃ b o, A = some ⟨b, o, none⟩ ∧ ∀ i, i < n → w.cell? ⟨b, o + i, none⟩ = some (.int .u8 (l.getD i 0 : Nat)))
theorem getD_lt256 {l : List Nat} (h : ∀ x ∈ l, x < 256) (i : Nat) : l.getD i 0 < 256 := by
  by_cases hi : i < l.length
  · have : l.getD i 0 = l[i] := by simp [List.getD, hi]
    rw [this]
    exact h _ (List.getElem_mem hi)
  · have : l.getD i 0 = 0 := by simp [List.getD, List.getElem?_eq_none (Nat.le_of_not_lt hi)]
    omega

theorem info5 : (Try.prog.info? 5).map (fun i => (i.zero, i.size, i.bytes)) = some (some (.int .u8 0), 1, 1) := by kernel_rfl
def vals (l : List Nat) : List Value := l.map fun x => Value.int .u8 (x : Nat)
theorem vals_append (l m : List Nat) : vals (l ++ m) = vals l ++ vals m := by simp [vals]
theorem vals_length (l : List Nat) : (vals l).length = l.length := by simp [vals]
theorem vals_one (l : List Nat) : ∀ u ∈ vals l, u.oneCell' = true := by
  intro v hv
  obtain ⟨x, _, rfl⟩ := List.mem_map.1 hv
  rfl
theorem add_none (b o j : Nat) : (Addr.mk b o none).add j = ⟨b, o + j, none⟩ := by unfold Addr.add; split <;> simp_all
/-- The cells of bytes. -/
theorem Bytes.cells {w : World} {A : Option Addr} {n : Nat} {l : List Nat} (h : Bytes w A n l) (hn : 0 < n) : ∃ ad, A = some ad ∧ ∀ j v, (vals l)[j]? = some v → w.cell? (ad.add j) = some v := by
  obtain ⟨b, o, rfl, hc⟩ := h.2.2 hn
  refine ⟨_, rfl, fun j v hv => ?_⟩
  have hj : j < l.length := by
    have := (List.getElem?_eq_some_iff.1 hv).1
    simpa [vals] using this
  rw [add_none, hc j (by have := h.1; omega), ← hv]
  simp [vals, List.getD, hj]
theorem Bytes.lt {w : World} {A : Option Addr} {n : Nat} {l : List Nat} (h : Bytes w A n l) : ∀ ad, A = some ad → 0 < n → ad.block < w.heap.size := by
  rintro ad rfl hn
  obtain ⟨b, o, e, hc⟩ := h.2.2 hn
  cases e
  exact block_lt_of_cell (hc 0 hn)
/-- Bytes stay, where their block does. -/
theorem Bytes.kept {w w' : World} {A : Option Addr} {n : Nat} {l : List Nat} (h : Bytes w A n l) (hA : ∀ ad, A = some ad → 0 < n → w'.heap[ad.block]? = w.heap[ad.block]?) : Bytes w' A n l := by
  obtain ⟨h1, h2, h3⟩ := h
  refine ⟨h1, h2, fun hn => ?_⟩
  obtain ⟨b, o, rfl, hc⟩ := h3 hn
  refine ⟨b, o, rfl, fun i hi => ?_⟩
  have hk : w'.heap[b]? = w.heap[b]? := hA ⟨b, o, none⟩ rfl hn
  rw [← hc i hi]
  simp [World.cell?, hk]
theorem Bytes.below {w w' : World} {A : Option Addr} {n B : Nat} {l : List Nat} (h : Bytes w A n l) (hA : ∀ ad, A = some ad → 0 < n → ad.block < B) (hb : Below B w w') : Bytes w' A n l :=
  h.kept fun ad e hn => hb.block _ (hA ad e hn)
theorem Bytes.alloc {w : World} {A : Option Addr} {n : Nat} {l : List Nat} (h : Bytes w A n l) (o : Obj) : Bytes (w.alloc o) A n l :=
  h.kept fun ad e hn => heap_alloc_old w o (h.lt ad e hn)
theorem Bytes.drewN {w : World} {A : Option Addr} {n : Nat} {l : List Nat} (h : Bytes w A n l) (q : Nat) : Bytes (w.drewN q) A n l :=
  h.kept fun ad e hn => rfl

/-- Only these blocks may have changed. -/
def Touch (F : Nat → Prop) (w w' : World) : Prop := w'.os = w.os ∧ w'.tape = w.tape ∧ w'.output = w.output ∧ w.heap.size ≤ w'.heap.size ∧ ∀ k, k < w.heap.size → ¬ F k → w'.heap[k]? = w.heap[k]?
theorem Touch.trans {F : Nat → Prop} {a b c : World} (h : Touch F a b) (k : Touch (fun i => F i ∨ a.heap.size ≤ i) b c) : Touch F a c :=
  ⟨k.1.trans h.1, k.2.1.trans h.2.1, k.2.2.1.trans h.2.2.1, Nat.le_trans h.2.2.2.1 k.2.2.2.1, fun i hi hF => (k.2.2.2.2 i (Nat.lt_of_lt_of_le hi h.2.2.2.1) (fun hh => by rcases hh with h | h; exact hF h; omega)).trans (h.2.2.2.2 i hi hF)⟩
theorem Touch.mono {F G : Nat → Prop} {a b : World} (h : Touch F a b) (k : ∀ i, i < a.heap.size → F i → G i) : Touch G a b :=
  ⟨h.1, h.2.1, h.2.2.1, h.2.2.2.1, fun i hi hG => h.2.2.2.2 i hi (fun hF => hG (k i hi hF))⟩
theorem Touch.refl (F : Nat → Prop) (w : World) : Touch F w w := ⟨rfl, rfl, rfl, Nat.le_refl _, fun _ _ _ => rfl⟩
theorem Touch.alloc {F : Nat → Prop} {a b : World} (h : Touch F a b) (o : Obj) : Touch F a (b.alloc o) :=
  ⟨h.1, h.2.1, h.2.2.1, by have := h.2.2.2.1; simp; omega, fun i hi hF => (heap_alloc_old b o (Nat.lt_of_lt_of_le hi h.2.2.2.1)).trans (h.2.2.2.2 i hi hF)⟩
theorem Touch.drewN {F : Nat → Prop} {a b : World} (h : Touch F a b) (q : Nat) : Touch F a (b.drewN q) := h
theorem Touch.setCell {F : Nat → Prop} {a b : World} (h : Touch F a b) (ad : Addr) (hF : a.heap.size ≤ ad.block ∨ F ad.block) (v : Value) : Touch F a (b.setCell ad v) :=
  ⟨h.1, h.2.1, h.2.2.1, by have := h.2.2.2.1; simp; omega, fun i hi hi' => (heap_setCell_other _ _ _ _ (fun e => by subst e; rcases hF with h | h; omega; exact hi' h)).trans (h.2.2.2.2 i hi hi')⟩
theorem Touch.below {F : Nat → Prop} {a b c : World} (h : Touch F a b) (hb : Below b.heap.size b c) : Touch F a c :=
  h.trans ⟨hb.os, hb.tape, hb.output, hb.size, fun k hk _ => hb.block k hk⟩
theorem Touch.toBelow {F : Nat → Prop} {a b : World} (h : Touch F a b) (B : Nat) (hB : B ≤ a.heap.size) (hF : ∀ i, i < B → ¬ F i) : Below B a b := ⟨h.1, h.2.1, h.2.2.1, h.2.2.2.1, fun i hi => h.2.2.2.2 i (by omega) (hF i hi)⟩
theorem Bytes.touch {F : Nat → Prop} {w w' : World} {A : Option Addr} {n : Nat} {l : List Nat} (h : Bytes w A n l) (hA : ∀ ad, A = some ad → 0 < n → ¬ F ad.block) (hb : Touch F w w') : Bytes w' A n l :=
  h.kept fun ad e hn => hb.2.2.2.2 _ (h.lt ad e hn) (hA ad e hn)

end Go.Proofs.Ytmooeadeihgbdaa.codec
