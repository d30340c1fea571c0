/- How a slice of slices of bytes comes in; the law on frames one behind the other, for all payloads. -/
import Derived.Test.YtbgnhjmijcpffaaDoorFraT
import Derived.Test.YtbgnhjmijcpffaaDoorCardIn
import Derived.Deep.Matrix
namespace Go.Proofs.YtbgnhjmijcpffaaDoor.frm
open Go.ChangeShapes Go.WideShapes Go.ChangeAt Go.RowKit
open Go.Proofs.YtbgnhjmijcpffaaDoor.codec (Bytes)
set_option linter.unusedVariables false
set_option linter.unusedSimpArgs false

theorem slices_in {H : Type} {enc : TypeId × Value → H} {W : World} {a0 : Option Addr} {len0 cap0 : Nat} {d0 : DataW H} {p0 : List MemPlace} (h0 : DataW.Trod enc Tryd.prog W 0 (fun _ => true) true 37 (.slice a0 len0 cap0) d0 p0) :
    ∃ L, Slices W a0 len0 L ∧ len0 ≤ maxLen ∧ len0 ≤ cap0 ∧ (a0 = none → cap0 = 0) := by
  obtain ⟨fuel, hf⟩ := h0
  rcases Go.Deep.open_int_rows Tryd.underlying37 Tryd.underlying22 Tryd.underlying5 (by kernel_rfl) (by kernel_rfl) hf with ⟨hcs, _⟩ | ⟨a, len, cap, Ad, Ln, C, Z, hcs, _, hl, hm, _, hrow⟩
  · simp [Value.cells] at hcs
    obtain ⟨rfl, rfl, rfl⟩ := hcs
    exact ⟨[], ⟨rfl, fun k hk => absurd hk (by omega)⟩, by simp, Nat.le_refl _, fun _ => rfl⟩
  · simp [Value.cells] at hcs
    obtain ⟨rfl, rfl, rfl⟩ := hcs
    refine ⟨(List.range len0).map fun k => ⟨Ad k, Ln k, C k, ((Z k).take (Ln k)).map Int.toNat⟩, ⟨by simp, fun k hk => ?_⟩, by omega, hl, fun e => by cases e⟩
    obtain ⟨hc, hlc, hcm, hzl, hwf, hnil, hcell⟩ := hrow k (by omega)
    obtain ⟨b, o, spot⟩ := a
    have hspot : spot = none := by
      have h0 := (hrow 0 (by omega)).1
      simpa [Addr.add] using World.cell?_spot h0
    subst hspot
    refine ⟨b, o, ⟨Ad k, Ln k, C k, ((Z k).take (Ln k)).map Int.toNat⟩, rfl, by simp [hk], by rw [← codec.add_none]; exact hc, ⟨by simp; omega, ?_, fun hn => ?_⟩, hlc, by show Ln k ≤ maxLen; omega, hnil⟩
    · intro x hx
      obtain ⟨z, hz, rfl⟩ := List.mem_map.1 hx
      have := cardIn.u8_bounds (hwf z (List.mem_of_mem_take hz))
      omega
    · simp only [] at hn
      cases hA : Ad k with
      | none =>
        have := hnil hA
        omega
      | some a' =>
        obtain ⟨_, hcc⟩ := hcell a' hA
        obtain ⟨b', o', spot'⟩ := a'
        have hspot : spot' = none := by
          have h0 := hcc 0 (by omega)
          simpa [Addr.add] using World.cell?_spot h0
        subst hspot
        refine ⟨b', o', rfl, fun i hi => ?_⟩
        simp only [] at hi
        have h1 := hcc i (by omega)
        rw [codec.add_none] at h1
        rw [h1]
        have hi' : i < (Z k).length := by omega
        have hb := cardIn.u8_bounds (hwf (Z k)[i] (List.getElem_mem hi'))
        simp [List.getD, hi, hi']
        omega
theorem back_all (W : World) (n c kd ct : Nat) (A : Option Addr) (L : List P) (hS : Slices W A n L) (hn : n ≤ maxLen) (hkd : kd < 256) (hct : ct < 65536) (hL : sumDoor.Laid W) :
    Calls Tryd.prog 5 #[.slice A n c, .int .u8 kd, .int .u16 ct] W fun e w' => e = .returned (.bool true) ∧ Below W.heap.size W w' := by
  unfold maxLen at hn
  by_cases h : 20 < n
  · exact back_long W n c kd ct A hL h (by omega)
  · exact back_walk W n c kd ct A L hS (by omega) hkd hct hL
end Go.Proofs.YtbgnhjmijcpffaaDoor.frm
