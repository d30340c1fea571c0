/- How arguments come in: parts, and numbers. -/
import Derived.Test.YtmooeadeihgbdaaSqA
import Derived.Test.YtmooeadeihgbdaaArgIn
import Derived.Deep.Slices
import Derived.Deep.Fields
import Derived.Lib.SmallJoins
namespace Go.Proofs.Ytmooeadeihgbdaa.cardIn
open Go.ChangeShapes Go.WideShapes Go.ChangeAt Go.RowKit
open Go.Deep (open_slice choose_lt)
open Go.Proofs.Ytmooeadeihgbdaa.sq (X cX)
open Go.Proofs.Ytmooeadeihgbdaa.row
set_option linter.unusedVariables false
set_option linter.unusedSimpArgs false
set_option maxRecDepth 100000

theorem cellsX : Try.prog.cellsOf 32 = 2 := by kernel_rfl
theorem cellsU : Try.prog.cellsOf 29 = 1 := by kernel_rfl
theorem span_in {H : Type} {enc : TypeId × Value → H} {W : World} {n : Nat} {cs : List Value} {x : DataW H × List MemPlace} (hl : cs.length = 2) (h2 : DataW.trod enc Try.prog W 0 (fun _ => true) true n 32 cs = some x) :
    ∃ z : X, cs = cX z := by
  obtain ⟨xs, k, hk, hxy, _, hxl, hf⟩ := DataW.trod_struct Try.underlying32 h2
  match xs, hxl, cs, hl with
  | [y0, y1], _, [v0, v1], _ =>
    have g0 := hf 0 _ rfl
    have g1 := hf 1 _ rfl
    simp [cellsU] at g0 g1
    obtain ⟨m, q0, _, w0⟩ := DataW.trod_int Try.underlying29 g0
    obtain ⟨s, q1, _, w1⟩ := DataW.trod_int Try.underlying29 g1
    simp only [List.cons.injEq, and_true] at q0 q1
    subst q0 q1
    obtain ⟨m', rfl⟩ := Int.eq_ofNat_of_zero_le (u32_bounds w0).1
    obtain ⟨s', rfl⟩ := Int.eq_ofNat_of_zero_le (u32_bounds w1).1
    exact ⟨⟨m', s'⟩, rfl⟩
/-- Parts that came in. -/
theorem spans_in {H : Type} {enc : TypeId × Value → H} {W : World} {A0 : Option Addr} {N0 C0 : Nat} {d0 : DataW H} {p0 : List MemPlace} (h0 : DataW.Trod enc Try.prog W 0 (fun _ => true) true 23 (.slice A0 N0 C0) d0 p0) :
    ∃ zs, Rd cX 2 W A0 N0 zs := by
  obtain ⟨fuel, hf⟩ := h0
  rcases open_slice Try.underlying23 hf with ⟨hcs, _⟩ | ⟨a, len, cap, m, n, D, Pl, hcs, _, hl, hm, hmm, hx, hel⟩
  · simp [Value.cells] at hcs
    obtain ⟨rfl, rfl, rfl⟩ := hcs
    exact ⟨[], Rd.empty W⟩
  · simp [Value.cells] at hcs
    obtain ⟨rfl, rfl, rfl⟩ := hcs
    simp at hmm
    subst hmm
    rw [cellsX] at hel
    obtain ⟨b, o, spot⟩ := a
    have hspot : 0 < N0 → spot = none := by
      intro h
      obtain ⟨cs', h1, h2⟩ := hel 0 (by omega)
      obtain ⟨_, hl', hc'⟩ := World.cells?_some h1
      have := hc' 0 (by omega)
      have h4 : 0 < cs'.length := by omega
      rw [List.getElem?_eq_getElem h4] at this
      simpa [Addr.add] using World.cell?_spot this
    by_cases hz : 0 < N0
    · have := hspot hz
      subst this
      obtain ⟨it, hit⟩ := choose_lt (α := X) (n := N0) (p := fun i z => ∀ j u, (cX z)[j]? = some u → W.cell? ⟨b, o + i * 2 + j, none⟩ = some u) (fun i hi => by
        obtain ⟨cs', h1, h2⟩ := hel i (by omega)
        rw [codec.add_none] at h1
        obtain ⟨_, hl', hc'⟩ := World.cells?_some h1
        obtain ⟨y, rfl⟩ := span_in hl' h2
        refine ⟨y, fun j u hu => ?_⟩
        have hj := (List.getElem?_eq_some_iff.1 hu).1
        have := hc' j (by omega)
        rw [codec.add_none, hu] at this
        exact this)
      exact ⟨(List.range N0).map it, by simp, fun k hk => ⟨b, o, it k, rfl, by simp [hk], hit k hk⟩⟩
    · obtain rfl : N0 = 0 := by omega
      exact ⟨[], rfl, fun k hk => by omega⟩
def cN (x : Nat) : List Value := [.int .u32 (x : Nat)]
theorem fN : Fm cN 1 := ⟨fun _ => rfl, fun y u hu => by simp [cN] at hu; subst hu; rfl⟩
/-- Numbers that came in. -/
theorem nums_in {H : Type} {enc : TypeId × Value → H} {W : World} {a0 : Option Addr} {len0 cap0 : Nat} {d0 : DataW H} {p0 : List MemPlace} (h0 : DataW.Trod enc Try.prog W 0 (fun _ => true) true 37 (.slice a0 len0 cap0) d0 p0) :
    ∃ l : List Nat, Rd cN 1 W a0 len0 l := by
  obtain ⟨fuel, hf⟩ := h0
  rcases open_ints Try.underlying37 Try.underlying29 (by kernel_rfl) hf with ⟨hcs, _⟩ | ⟨x, l, c, zs, hcs, _, hl, hm, hz, _, hcell, hwz⟩
  · simp [Value.cells] at hcs
    obtain ⟨rfl, rfl, rfl⟩ := hcs
    exact ⟨[], Rd.empty W⟩
  · simp [Value.cells] at hcs
    obtain ⟨rfl, rfl, rfl⟩ := hcs
    have hz' : zs.length = cap0 := by simpa using hz
    refine ⟨(zs.take len0).map Int.toNat, by simp; omega, fun k hk => ?_⟩
    obtain ⟨b, o, spot⟩ := x
    have h0 := hcell 0 (by omega)
    have hspot : spot = none := by simpa [Addr.add] using World.cell?_spot h0
    subst hspot
    have hi' : k < zs.length := by omega
    refine ⟨b, o, zs[k].toNat, rfl, by simp [hk, hi'], fun j v hv => ?_⟩
    have hj := (List.getElem?_eq_some_iff.1 hv).1
    have hj0 : j = 0 := by simp [cN] at hj; exact hj
    subst hj0
    simp [cN] at hv
    subst hv
    have ha : (Addr.mk b o none).add k = ⟨b, o + k, none⟩ := by unfold Addr.add; split <;> simp_all
    rw [Nat.mul_one, Nat.add_zero, ← ha, hcell k (by omega)]
    have hb := u32_bounds (hwz zs[k] (List.getElem_mem hi'))
    simp [List.getD, hi']
    omega
end Go.Proofs.Ytmooeadeihgbdaa.cardIn
