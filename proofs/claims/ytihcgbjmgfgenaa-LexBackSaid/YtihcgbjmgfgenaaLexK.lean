/- The program is awake; whether a literal is to come. -/
import Derived.Test.YtihcgbjmgfgenaaLexJ
import Derived.Shelf.Vars
import Derived.Lib.SmallJoins
namespace Go.Proofs.Ytihcgbjmgfgenaa.lx
open Go.ChangeShapes Go.WideShapes Go.ChangeAt Go.RowKit
open Go.Proofs.Ytihcgbjmgfgenaa.codec (Bytes vals)
open Go.Proofs.Ytihcgbjmgfgenaa.row
set_option linter.unusedVariables false
set_option maxRecDepth 100000
set_option linter.unusedSimpArgs false

theorem Room.of_shape {w : World} (h : w.ShapedOpen Try.prog) : Room w :=
  cell_of_shapedOpen_int (t := 3) (zero := #[.int .i64 0]) h (of_decide_eq_true (by kernel_rfl)) (by kernel_rfl) rfl (by kernel_rfl) (by kernel_rfl) Try.underlying3
theorem waits_any (w : World) (p : Nat) (F done cur : List Nat) (left : Nat) (ret : Bool) (h : Ck w p F done cur left ret) :
    Calls Try.prog 12 #[.pointer (some ⟨p, 0, none⟩)] w fun e w' => e = .returned (.bool (decide (0 < left))) ∧ Below w.heap.size w w' := by
  have f4 := h.facts.2.2.1
  have lp := h.facts.2.2.2
  clear h
  go_enter Try.func12, Try.ntmps12
  go_wp2
  try go_quiet (fail)
  try go_wp2
  go_ret
  exact ⟨by simp, by first | exact Below.refl _ _ | exact codec.below_draws (Below.refl _ _) _⟩
def strLen : Value → Nat
  | .string s => s.size
  | _ => 0
def lit : List Nat := [65, 49, 32, 78, 79, 79, 80, 13, 10]
theorem lit_run : (run s0 lit).2 = [(1, [65, 49, 32, 78, 79, 79, 80])] := by decide +kernel
/-- An empty chunk. -/
theorem ck_new {w : World} {p : Nat} (h : w.heap[p]? = some (.cells (cells5 (.pointer none) 0 0 false 0) 44 (0, 0))) : CkS w p [] s0 :=
  ⟨⟨.pointer none, 0, [], h, .inl ⟨rfl, rfl, rfl⟩, by simp, ⟨fun _ => ⟨rfl, rfl⟩, fun h => by simp [s0] at h⟩⟩, fun h => absurd h (Nat.lt_irrefl 0), Nat.zero_le _⟩
/-- A unit of a row, in its cells. -/
theorem unit_at {w : World} {A : Option Addr} {n : Nat} {ys : List Un} (h : Rd cU 2 w A n ys) (k : Nat) (hk : k < n) : ∃ b o y, A = some ⟨b, o, none⟩ ∧ ys[k]? = some y ∧ w.cell? ⟨b, o + k * 2, none⟩ = some (.int .i64 (y.k : Nat)) ∧ w.cell? ⟨b, o + k * 2 + 1, none⟩ = some (.slice y.A y.n y.c) := by
  obtain ⟨b, o, y, h1, h2, h3⟩ := h.2 k hk
  exact ⟨b, o, y, h1, h2, h3 0 _ rfl, h3 1 _ rfl⟩
theorem lit_lies {w : World} {g : Nat} (hx : w.heap[g]? = some (.cells #[.int .u8 65, .int .u8 49, .int .u8 32, .int .u8 78, .int .u8 79, .int .u8 79, .int .u8 80, .int .u8 13, .int .u8 10] 5 (9, 10))) : Sl w (some ⟨g, 0, none⟩) 9 9 lit := by
  refine ⟨⟨rfl, by decide, fun _ => ⟨g, 0, rfl, fun i hi => ?_⟩⟩, Nat.le_refl _, trivial, fun e => by cases e⟩
  have hc : ∀ (i : Nat) (v : Value), (#[.int .u8 65, .int .u8 49, .int .u8 32, .int .u8 78, .int .u8 79, .int .u8 79, .int .u8 80, .int .u8 13, .int .u8 10] : Array Value)[i]? = some v → w.cell? ⟨g, i, none⟩ = some v := fun i v hv => by simp [World.cell?, hx, hv]
  rw [Nat.zero_add]
  refine hc i _ ?_
  match i, hi with
  | 0, _ => rfl
  | 1, _ => rfl
  | 2, _ => rfl
  | 3, _ => rfl
  | 4, _ => rfl
  | 5, _ => rfl
  | 6, _ => rfl
  | 7, _ => rfl
  | 8, _ => rfl
set_option maxHeartbeats 1000000 in
theorem awake_any (W : World) :
    Calls Try.prog 6 #[] W fun e w' => e = .returned (.bool true) ∧ Below W.heap.size W w' := by
  have hcv := fun (w : World) (C : Array Value) (n c g : Nat) (hg : g = w.heap.size) => Go.Joins.run_convert_bytes_const_at (P := Try.prog) w 22 5 C n c g hg Try.underlying22 Try.underlying5
  obtain ⟨W0, hW0⟩ : ∃ W0, W0 = W.alloc (.cells #[.pointer none, .int .i64 0, .int .i64 0, .bool false, .int .i64 0] 44) := ⟨_, rfl⟩
  obtain ⟨W1, hW1⟩ : ∃ W1, W1 = W0.alloc (.cells #[.int .u8 65, .int .u8 49, .int .u8 32, .int .u8 78, .int .u8 79, .int .u8 79, .int .u8 80, .int .u8 13, .int .u8 10] 5 (9, 10)) := ⟨_, rfl⟩
  have hb0 : Below W.heap.size W W0 := by rw [hW0]; exact (Below.refl _ _).alloc (Nat.le_refl _) _
  have hsz0 : W0.heap.size = W.heap.size + 1 := by rw [hW0]; simp
  have hb1 : Below W0.heap.size W0 W1 := by rw [hW1]; exact (Below.refl _ _).alloc (Nat.le_refl _) _
  have hp0 : W0.heap[W.heap.size]? = some (.cells (cells5 (.pointer none) 0 0 false 0) 44 (0, 0)) := by rw [hW0]; exact heap_alloc_new _ _
  have hp1 : W1.heap[W.heap.size]? = some (.cells (cells5 (.pointer none) 0 0 false 0) 44 (0, 0)) := (hb1.block _ (by omega)).trans hp0
  have hl1 : W1.heap[W.heap.size + 1]? = some (.cells #[.int .u8 65, .int .u8 49, .int .u8 32, .int .u8 78, .int .u8 79, .int .u8 79, .int .u8 80, .int .u8 13, .int .u8 10] 5 (9, 10)) := by rw [hW1, ← hsz0]; exact heap_alloc_new _ _
  have HF := Lib.hid (feed_any W1 W.heap.size [] s0 _ 9 9 lit (ck_new hp1) (lit_lies hl1) (by simp [blk]) (by decide))
  have HB := Lib.hid (hb0.trans (hb1.mono (by omega)))
  rw [hW0] at hW1
  have HW1 := Lib.hid hW1
  clear hW0 hW1 hb0 hsz0 hb1 hp0 hp1 hl1
  go_enter Try.func6, Try.ntmps6
  go_wp2_with fail
  rw [← HW1.out]
  refine HF.out.mono ?_
  rintro e w2 ⟨v, F', rfl, hC, hF', hT, hU⟩
  rw [lit_run] at hU
  obtain ⟨⟨ys, hO, hy1, hy2⟩, -⟩ := hU
  obtain ⟨A, c, rfl, hnc, hA, hR⟩ := hO.rd fU
  have h1 : ys.length = 1 := hy1
  rw [h1] at hR hnc ⊢
  obtain ⟨b, o, y, rfl, hy, c0, c1⟩ := unit_at hR 0 (by decide)
  obtain ⟨g1, g2, -⟩ := hy2 0 y _ hy rfl
  rw [g1] at c0
  have hcv2 := fun q => Bytes.text (g2.1.drewN q) y.c
  have hcv3 := Bytes.text g2.1 y.c
  have hs : strOf (1, [65, 49, 32, 78, 79, 79, 80]).2 = ⟨#[65, 49, 32, 78, 79, 79, 80]⟩ := rfl
  rw [hs] at hcv3
  have HB2 := Lib.hid (HB.out.trans (hT.toBelow W.heap.size HB.out.size (fun i hi h => by
    rcases h with h | h
    · omega
    · simp at h)))
  clear hC hF' hT hO hy1 hy2 hnc hA hR h1 hy g1 g2 hcv
  simp only [Nat.zero_mul, Nat.add_zero] at c0 c1
  go_wp2_with fail
  go_ret
  exact ⟨by simp, HB2.out⟩
end Go.Proofs.Ytihcgbjmgfgenaa.lx
