/- Proves DiskSafe as it is given, for every input, without any condition. -/
import Derived.Test.YtedhbcaakdfcbaaAf
namespace Go.Proofs.Ytedhbcaakdfcbaa.diskSafe
open Go.ChangeShapes Go.WideShapes Go.ChangeAt Go.RowKit Go.Proofs.Ytedhbcaakdfcbaa.disk
set_option linter.unusedVariables false
set_option linter.unusedSimpArgs false

set_option maxRecDepth 100000 in
theorem lifted (os : Os) (started : os.Started) (H : Type) (enc : TypeId × Value → H) :
    ReturnsInHanded {} Try.checked os 5 .any (Rows.diskSafeSpec.pre6 enc Try.prog Try.f5 Rows.diskSafeRow.domain false) (Rows.diskSafeSpec.post enc Try.prog Try.f5 false true false false) := by
  refine returnsInHanded_of_change_sized (C := Try.checked) own started (by kernel_rfl) Try.func5
    (ChangeSpec.witness6 (enc := enc) (C := Try.checked) false ⟨#[], #[.int .i64 0, .slice none 0 0, .slice none 0 0, .slice none 0 0], []⟩ 8 (by kernel_rfl) (by kernel_rfl) (by kernel_rfl) (by kernel_rfl)) ?_
  intro W base args ds gs before hval0 hW hcnd hwt _
  have hval : ∀ (j : Nat) t v, Try.f5.params[j]? = some t → args[j]? = some v → Value.okWide Try.prog W .any base t v := hval0
  have hW' := hW
  obtain ⟨p, q, hA0, hV, rfl, hfz, hnd⟩ := hW
  have hA : DataW.TrodAll enc Try.prog W 0 (fun _ => true) true Try.f5.params.toList args.toList ds p := hA0
  rw [Try.params5] at hA hval
  obtain ⟨v0, vs0, d0, ds0, p0, q0, hargs, rfl, rfl, h0, r0⟩ := trodAll_cons hA
  obtain ⟨v1, vs1, d1, ds1, p1, q1, rfl, rfl, rfl, h1, r1⟩ := trodAll_cons r0
  obtain ⟨v2, vs2, d2, ds2, p2, q2, rfl, rfl, rfl, h2, r2⟩ := trodAll_cons r1
  obtain ⟨v3, vs3, d3, ds3, p3, q3, rfl, rfl, rfl, h3, r3⟩ := trodAll_cons r2
  obtain ⟨rfl, rfl, rfl⟩ := trodAll_nil r3
  obtain rfl : args = #[v0, v1, v2, v3] := by cases args; simp_all
  obtain ⟨rfl, rfl⟩ := trodVars_none hV
  obtain ⟨z0, rfl, rfl, rfl, w0⟩ := open_int Try.underlying3 (hval 0 3 v0 rfl rfl) h0
  have b0 := i64_bounds w0
  obtain ⟨A1, N1, C1, rfl⟩ := okWide_slice Try.underlying22 (hval 1 22 v1 rfl rfl)
  have k1 := h1
  have lt1 : ∀ x ∈ p1, x.block < W.heap.size := by obtain ⟨m, hm⟩ := k1; exact DataW.trod_lt m _ _ _ hm
  have hz1 : ∀ m ∈ DataW.weights Try.prog 22 d1, m ≤ 140737488355328 := fun m hm => by
    have hwt' : (DataW.weightsEach Try.prog ([3, 22, 34, 34] ++ []) ([_, d1, d2, d3] ++ [])).all (· ≤ reachBytes) = true := hwt
    have h1 := List.all_eq_true.1 hwt' m (DataW.weights_mem_each (j := 1) rfl rfl m hm)
    have h2 := reachBytes_lt
    simp at h1
    omega
  obtain ⟨L1, hB1⟩ := acts_in h1 hz1
  obtain ⟨A2, N2, C2, rfl⟩ := okWide_slice Try.underlying34 (hval 2 34 v2 rfl rfl)
  have k2 := h2
  have lt2 : ∀ x ∈ p2, x.block < W.heap.size := by obtain ⟨m, hm⟩ := k2; exact DataW.trod_lt m _ _ _ hm
  have hz2 : ∀ m ∈ DataW.weights Try.prog 34 d2, m ≤ 140737488355328 := fun m hm => by
    have hwt' : (DataW.weightsEach Try.prog ([3, 22, 34, 34] ++ []) ([_, d1, d2, d3] ++ [])).all (· ≤ reachBytes) = true := hwt
    have h1 := List.all_eq_true.1 hwt' m (DataW.weights_mem_each (j := 2) rfl rfl m hm)
    have h2 := reachBytes_lt
    simp at h1
    omega
  obtain ⟨L2, hB2⟩ := ints_in h2 hz2
  obtain ⟨A3, N3, C3, rfl⟩ := okWide_slice Try.underlying34 (hval 3 34 v3 rfl rfl)
  have k3 := h3
  have lt3 : ∀ x ∈ p3, x.block < W.heap.size := by obtain ⟨m, hm⟩ := k3; exact DataW.trod_lt m _ _ _ hm
  have hz3 : ∀ m ∈ DataW.weights Try.prog 34 d3, m ≤ 140737488355328 := fun m hm => by
    have hwt' : (DataW.weightsEach Try.prog ([3, 22, 34, 34] ++ []) ([_, d1, d2, d3] ++ [])).all (· ≤ reachBytes) = true := hwt
    have h1 := List.all_eq_true.1 hwt' m (DataW.weights_mem_each (j := 3) rfl rfl m hm)
    have h2 := reachBytes_lt
    simp at h1
    omega
  obtain ⟨L3, hB3⟩ := ints_in h3 hz3
  clear hA0 hval0
  refine (disk.safe_walk W z0 A1 N1 C1 L1 A2 N2 C2 L2 A3 N3 C3 L3 hB1 hB2.1 hB3.1 hB2.2 hB3.2).mono fun e W' ⟨he, bel⟩ => ?_
  subst he
  exact ⟨_, rfl, _, _, _, [], _, [], hW', trodAll_mk1 (shut_bool Try.underlying4 _), (trodAll_cons_mk (shut_int Try.underlying3 w0) (trodAll_cons_mk (Below.trod laidOut (by kernel_rfl) (of_decide_eq_true (by kernel_rfl)) k1 bel lt1) (trodAll_cons_mk (Below.trod laidOut (by kernel_rfl) (of_decide_eq_true (by kernel_rfl)) k2 bel lt2) (trodAll_cons_mk (Below.trod laidOut (by kernel_rfl) (of_decide_eq_true (by kernel_rfl)) k3 bel lt3) trodAll_mk0)))), rfl, bel.frame _, fun h => by cases h⟩

theorem over : Rows.DiskSafeSaid :=
  OpenClaim.holds_of_wide 5 Try.f5 rfl rfl rfl rfl rfl rfl rfl ⟨rfl, rfl, rfl, rfl, rfl⟩ rfl rfl rfl rfl rfl (by kernel_rfl) Try.func5 (by kernel_rfl)
    (of_decide_eq_true (by kernel_rfl)) (by unfold Func.isWrapper; first | (rw [if_pos (by decide +kernel)]; kernel_rfl) | (rw [if_neg (by decide +kernel)]; exact ⟨rfl, rfl⟩))
    (fun os started H enc _ => lifted os started H enc)

theorem proved : Rows.DiskSafeSaid := over
#print axioms proved
end Go.Proofs.Ytedhbcaakdfcbaa.diskSafe
