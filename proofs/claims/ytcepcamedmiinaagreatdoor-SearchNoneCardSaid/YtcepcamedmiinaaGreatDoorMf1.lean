/- The greatest UID of a mailbox. -/
import Derived.Test.YtcepcamedmiinaaGreatDoorMe6
import Derived.Test.YtcepcamedmiinaaGreatDoorMk8
namespace Go.Proofs.YtcepcamedmiinaaGreatDoor.sea
open Go.ChangeShapes Go.WideShapes Go.ChangeAt Go.RowKit
open Go.Proofs.YtcepcamedmiinaaGreatDoor.codec (Bytes vals)
open Go.Proofs.YtcepcamedmiinaaGreatDoor.lg (Y Nt cM Oct nts)
set_option linter.unusedVariables false
set_option maxRecDepth 100000
set_option linter.unusedSimpArgs false

def mxU (l : List Y) : Nat := l.foldl (fun a y => max a y.n.u) 0
theorem mxU_snoc (l : List Y) (y : Y) : mxU (l ++ [y]) = max (mxU l) y.n.u := by unfold mxU; rw [List.foldl_append]; rfl
theorem take_snoc {l : List Y} {k : Nat} {y : Y} (h : l[k]? = some y) : l.take (k + 1) = l.take k ++ [y] := by
  rw [List.take_add_one, h]
  rfl
theorem msg_at {w : World} {A : Option Addr} {n : Nat} {qs : List Y} (h : lg.Rd cM 4 w A n qs) (k : Nat) (hk : k < n) : ∃ b o y, A = some ⟨b, o, none⟩ ∧ qs[k]? = some y ∧ w.cell? ⟨b, o + k * 4, none⟩ = some (.int .u32 (y.n.u : Nat)) ∧ w.cell? ⟨b, o + k * 4 + 1, none⟩ = some (.int .i64 y.n.d) ∧ w.cell? ⟨b, o + k * 4 + 2, none⟩ = some (.int .i64 y.n.f) ∧ w.cell? ⟨b, o + k * 4 + 3, none⟩ = some (.slice y.A y.m y.c) ∧ Oct w y := by
  obtain ⟨b, o, y, h1, h2, h3, h4⟩ := h.2 k hk
  exact ⟨b, o, y, h1, h2, h3 0 _ rfl, h3 1 _ rfl, h3 2 _ rfl, h3 3 _ rfl, h4⟩
set_option maxHeartbeats 2000000 in
theorem greatest_any (W : World) (S : ByteArray) (E X : Nat) (A : Option Addr) (n c : Nat) (qs : List Y) (hR : lg.Rd cM 4 W A n qs) (hn : n ≤ 140737488355328) :
    Calls Tryz.prog 14 #[.agg #[.string S, .int .u32 E, .int .u32 X, .slice A n c]] W fun e w' => e = .returned (.int .u32 (mxU qs : Nat)) ∧ Below W.heap.size W w' := by
  obtain ⟨W1, hW1⟩ : ∃ W1, W1 = W.alloc (.cells #[.string S, .int .u32 E, .int .u32 X, .slice A n c] 25) := ⟨_, rfl⟩
  have hb1 : Below W.heap.size W W1 := by rw [hW1]; exact (Below.refl _ _).alloc (Nat.le_refl _) _
  have hX1 : W1.heap[W.heap.size]? = some (.cells #[.string S, .int .u32 E, .int .u32 X, .slice A n c] 25 (0, 0)) := by rw [hW1]; exact heap_alloc_new _ _
  have b3 := sq.cell_at hX1 3 _ rfl
  have HR := Lib.hid (hR.below hb1)
  have HB := Lib.hid hb1
  have HW1 := Lib.hid hW1
  have HL := Lib.hid hR.1
  clear hR hb1 hX1 hW1
  go_enter Tryz.func14, Tryz.ntmps14
  go_upto_region 2 with fail
  rw [← HW1.out]
  go_wp2_with fail
  go_loopw [3, 9] (fun x i wr => ∃ k : Nat, k ≤ n ∧ i = .int .i64 k ∧ x = .int .u32 (mxU (qs.take k) : Nat) ∧ Hid (Below W1.heap.size W1 wr)) (fun _ i _ => n - (intOf i).toNat)
  case atStart => exact ⟨0, Nat.zero_le _, rfl, rfl, Lib.hid (Below.refl _ _)⟩
  case round =>
    obtain ⟨k, hk, rfl, rfl, HBr⟩ := hrel
    by_cases hlt : k < n
    · obtain ⟨b, o, y, rfl, hx, c0, c1, c2, c3, _⟩ := msg_at (HR.out.below HBr.out) k hlt
      have hlt' : (k : Int) < (n : Int) := by omega
      have HT := Lib.hid (take_snoc hx)
      have HMx := Lib.hid (mxU_snoc (qs.take k) y)
      have HB2 := Lib.hid (HBr.out.alloc HBr.out.size (.cells #[.int .u32 (y.n.u : Nat), .int .i64 y.n.d, .int .i64 y.n.f, .slice y.A y.m y.c] 39))
      clear hx
      generalize mxU (qs.take k) = m at *
      generalize y.n.u = u at *
      generalize y.n.d = yd at *
      generalize y.n.f = yf at *
      generalize y.A = yA at *
      generalize y.m = ym at *
      generalize y.c = yc at *
      go_wp2_with fail
      refine ⟨⟨k + 1, by omega, by go_num, ?_, HB2⟩, ?_⟩
      · rw [HT.out, HMx.out]
        congr 1
        omega
      · show n - ((k : Int) + 1).toNat < n - k
        omega
    · obtain rfl : k = n := by omega
      have HE := Lib.hid (show qs.take k = qs from List.take_of_length_le (by rw [HL.out]; exact Nat.le_refl _))
      go_wp2
      go_ret
      exact ⟨by rw [HE.out]; rfl, HB.out.trans (HBr.out.mono HB.out.size)⟩
end Go.Proofs.YtcepcamedmiinaaGreatDoor.sea
