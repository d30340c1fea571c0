/- A note that comes in; the round words. -/
import Derived.Test.YtdbdeplabipfaaaGreatDoorBodW
import Derived.Test.YtdbdeplabipfaaaGreatDoorSumC
namespace Go.Proofs.YtdbdeplabipfaaaGreatDoor.cardPin
open Go.ChangeShapes Go.WideShapes Go.ChangeAt Go.RowKit
open Go.Proofs.YtdbdeplabipfaaaGreatDoor.codec (Bytes)
set_option linter.unusedVariables false
set_option linter.unusedSimpArgs false
set_option maxRecDepth 100000

theorem laid_of {W : World} (hL : laidMetH Tryz.prog laidL W) : sumDoor.Laid W := by
  have h := pick_one hL "cubby/sum.roundWords" Rows.laid_cubby_sum_roundWords (by kernel_rfl) (by kernel_rfl)
  have h' : laidMet Tryz.prog [("cubby/sum.roundWords", Lib.tabData .u32 (sumPlain.consts.map Int.ofNat))] W := h
  have gW : Tryz.prog.globalNamed "cubby/sum.roundWords" = some 0 := by kernel_rfl
  have hT := Lib.tabIs_of_head gW (by kernel_rfl) Tryz.underlying89 Tryz.underlying22 (by kernel_rfl) (by kernel_rfl) h'
  intro i hi
  have hl : i < sumPlain.consts.length := by
    have : sumPlain.consts.length = 64 := by decide
    omega
  rw [hT.cell gW i (by simpa using hl)]
  simp [List.getD, hl]
theorem cells3 : Tryz.prog.cellsOf 3 = 1 := by kernel_rfl
theorem cells2 : Tryz.prog.cellsOf 2 = 1 := by kernel_rfl
theorem cells9 : Tryz.prog.cellsOf 9 = 1 := by kernel_rfl
theorem cellsU : Tryz.prog.cellsOf 22 = 1 := by kernel_rfl
theorem cellsB : Tryz.prog.cellsOf 23 = 1 := by kernel_rfl
theorem cellsM : Tryz.prog.cellsOf 25 = 4 := by kernel_rfl
theorem cellsN : Tryz.prog.cellsOf 27 = 7 := by kernel_rfl
theorem note_in {H : Type} {enc : TypeId × Value → H} {W : World} {base : Nat} {v0 : Value} {d0 : DataW H} {p0 : List MemPlace} (hv : Value.okWide Tryz.prog W .any base 27 v0) (h0 : DataW.Trod enc Tryz.prog W 0 (fun _ => true) true 27 v0 d0 p0) :
    ∃ (k : Int) (e u : Nat) (s : ByteArray) (d f : Int) (A : Option Addr) (n c : Nat) (o : List Nat), v0 = .agg #[.int .i64 k, .int .u32 e, .string s, .int .u32 u, .int .i64 d, .int .i64 f, .slice A n c] ∧ e < 4294967296 ∧ u < 4294967296 ∧ Bytes W A n o ∧ (A = none → c = 0) := by
  obtain ⟨cs, rfl, hsz⟩ := okWide_struct Tryz.underlying27 hv
  rw [cellsN] at hsz
  obtain ⟨l⟩ := cs
  match l, hsz with
  | [c0, c1, c2, c3, c4, c5, c6], _ =>
  obtain ⟨fuel, hf⟩ := h0
  obtain ⟨xs, m, _, hxy, _, hxl, hf⟩ := DataW.trod_struct Tryz.underlying27 hf
  match xs, hxl with
  | [y0, y1, y2, y3], _ =>
  have g0 := hf 0 _ rfl
  have g1 := hf 1 _ rfl
  have g2 := hf 2 _ rfl
  have g3 := hf 3 _ rfl
  simp [cells3, cellsU, cells9, cellsM, Value.cells] at g0 g1 g2 g3
  obtain ⟨k, q0, _, w0⟩ := DataW.trod_int Tryz.underlying3 g0
  obtain ⟨e, q1, _, w1⟩ := DataW.trod_int Tryz.underlying22 g1
  obtain ⟨s, q2, _, _⟩ := DataW.trod_string Tryz.underlying9 g2
  obtain ⟨zs, m2, _, _, _, hzl, hz⟩ := DataW.trod_struct Tryz.underlying25 g3
  match zs, hzl with
  | [z0, z1, z2, z3], _ =>
  have k0 := hz 0 _ rfl
  have k1 := hz 1 _ rfl
  have k2 := hz 2 _ rfl
  have k3 := hz 3 _ rfl
  simp [cells3, cells2, cellsU, cellsB] at k0 k1 k2 k3
  obtain ⟨u, r0, _, w3⟩ := DataW.trod_int Tryz.underlying22 k0
  obtain ⟨d, r1, _, _⟩ := DataW.trod_int Tryz.underlying2 k1
  obtain ⟨f, r2, _, _⟩ := DataW.trod_int Tryz.underlying3 k2
  obtain ⟨A, n, c, r3⟩ : ∃ A n c, c6 = .slice A n c := by
    rcases open_ints Tryz.underlying23 Tryz.underlying5 (by kernel_rfl) k3 with ⟨hcs, _⟩ | ⟨x, l, c, zs, hcs, _⟩
    · simp at hcs
      exact ⟨_, _, _, hcs⟩
    · simp at hcs
      exact ⟨_, _, _, hcs⟩
  simp only [List.cons.injEq, and_true] at q0 q1 q2 r0 r1 r2
  subst q0 q1 q2 r0 r1 r2 r3
  have b1 := u32_bounds w1
  have b3 := u32_bounds w3
  obtain ⟨e, rfl⟩ := Int.eq_ofNat_of_zero_le b1.1
  obtain ⟨u, rfl⟩ := Int.eq_ofNat_of_zero_le b3.1
  obtain ⟨o, hB, _, _, hA⟩ := bytes_in (a0 := A) (len0 := n) (cap0 := c) (d0 := z3.1) (p0 := z3.2) (W := W) (enc := enc) ⟨m2, by simpa [Value.cells] using k3⟩
  exact ⟨k, e, u, s, d, f, A, n, c, o, rfl, by omega, by omega, hB, hA⟩
end Go.Proofs.YtdbdeplabipfaaaGreatDoor.cardPin
