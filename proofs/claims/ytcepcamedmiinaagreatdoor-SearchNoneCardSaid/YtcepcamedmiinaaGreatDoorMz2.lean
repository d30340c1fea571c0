/- Proves SearchNone as it is given, for every input, without any condition but that the listed tables start as the text lays them (the card ties that). -/
import Derived.Test.YtcepcamedmiinaaGreatDoorMi
import Derived.Test.YtcepcamedmiinaaGreatDoorMg
import Derived.Test.YtcepcamedmiinaaGreatDoorTie
import Derived.Test.YtcepcamedmiinaaGreatDoorCards
namespace Go.Proofs.YtcepcamedmiinaaGreatDoor.searchNone
open Go.ChangeShapes Go.WideShapes Go.ChangeAt Go.RowKit Go.Proofs.YtcepcamedmiinaaGreatDoor.cardPin
open Go.ChangeMaps (open_string shut_string)
set_option linter.unusedVariables false
set_option linter.unusedSimpArgs false

set_option maxRecDepth 100000 in
theorem lifted (os : Os) (started : os.Started) (H : Type) (enc : TypeId × Value → H) :
    ReturnsInHanded {} Tryz.checked os 3 .any (fun w args => (Rows.searchNoneSpec.pre enc Tryz.prog Tryz.f3 [] false w args ∧ laidMetH Tryz.prog laidL w) ∧ sizedMet enc Tryz.prog Tryz.f3 (OpenSpec.ofChange Rows.searchNoneSpec) false w args)
      (Rows.searchNoneSpec.post enc Tryz.prog Tryz.f3 false true false false) := by
  refine and_shaped (C := Tryz.checked) (X := fun w _ => laidMetH Tryz.prog laidL w) (fun _ _ _ hh h => h.of_heap hh) own started (by kernel_rfl) Tryz.func3
    (ChangeSpec.witness_shaped (enc := enc) (C := Tryz.checked) (os := os) (X := fun w _ => laidMetH Tryz.prog laidL w) false (World.laidAll Tryz.prog os laidL) #[.agg #[.string ⟨#[]⟩, .int .u32 0, .int .u32 0, .slice none 0 0], .slice none 0 0, .slice none 0 0] 8 (World.laidAll_os _ _ _) (shaped os _) (by kernel_rfl) (by kernel_rfl) (by kernel_rfl) (door_met os _)) ?_
  intro W base args ds gs before hval0 hW hwt hL hsh
  have hval : ∀ (j : Nat) t v, Tryz.f3.params[j]? = some t → args[j]? = some v → Value.okWide Tryz.prog W .any base t v := hval0
  have hW' := hW
  obtain ⟨p, q, hA0, hV, rfl, hfz, hnd⟩ := hW
  have hA : DataW.TrodAll enc Tryz.prog W 0 (fun _ => true) true Tryz.f3.params.toList args.toList ds p := hA0
  rw [Tryz.params3] at hA hval
  obtain ⟨v0, vs0, d0, ds0, p0, q0, hargs, rfl, rfl, h0, r0⟩ := trodAll_cons hA
  obtain ⟨v1, vs1, d1, ds1, p1, q1, rfl, rfl, rfl, h1, r1⟩ := trodAll_cons r0
  obtain ⟨v2, vs2, d2, ds2, p2, q2, rfl, rfl, rfl, h2, r2⟩ := trodAll_cons r1
  obtain ⟨rfl, rfl, rfl⟩ := trodAll_nil r2
  obtain rfl : args = #[v0, v1, v2] := by cases args; simp_all
  obtain ⟨rfl, rfl⟩ := trodVars_none hV
  have k0 := h0
  have lt0 : ∀ x ∈ p0, x.block < W.heap.size := by obtain ⟨m, hm⟩ := k0; exact DataW.trod_lt m _ _ _ hm
  have hz0 : ∀ m ∈ DataW.weights Tryz.prog 25 d0, m ≤ 140737488355328 := fun m hm => by
    have hwt' : (DataW.weightsEach Tryz.prog ([25, 26, 26] ++ []) ([d0, d1, d2] ++ [])).all (· ≤ reachBytes) = true := hwt
    have h1 := List.all_eq_true.1 hwt' m (DataW.weights_mem_each (j := 0) rfl rfl m hm)
    have h2 := reachBytes_lt
    simp at h1
    omega
  obtain ⟨S0, E0, X0, A0, N0, C0, Q0, rfl, hB0⟩ := boxs_in (hval 0 25 v0 rfl rfl) h0 hz0
  obtain ⟨A1, N1, C1, rfl⟩ := okWide_slice Tryz.underlying26 (hval 1 26 v1 rfl rfl)
  have k1 := h1
  have lt1 : ∀ x ∈ p1, x.block < W.heap.size := by obtain ⟨m, hm⟩ := k1; exact DataW.trod_lt m _ _ _ hm
  have hz1 : ∀ m ∈ DataW.weights Tryz.prog 26 d1, m ≤ 140737488355328 := fun m hm => by
    have hwt' : (DataW.weightsEach Tryz.prog ([25, 26, 26] ++ []) ([d0, d1, d2] ++ [])).all (· ≤ reachBytes) = true := hwt
    have h1 := List.all_eq_true.1 hwt' m (DataW.weights_mem_each (j := 1) rfl rfl m hm)
    have h2 := reachBytes_lt
    simp at h1
    omega
  obtain ⟨L1, hT1⟩ := toks_in h1 hz1
  obtain ⟨A2, N2, C2, rfl⟩ := okWide_slice Tryz.underlying26 (hval 2 26 v2 rfl rfl)
  have k2 := h2
  have lt2 : ∀ x ∈ p2, x.block < W.heap.size := by obtain ⟨m, hm⟩ := k2; exact DataW.trod_lt m _ _ _ hm
  have hz2 : ∀ m ∈ DataW.weights Tryz.prog 26 d2, m ≤ 140737488355328 := fun m hm => by
    have hwt' : (DataW.weightsEach Tryz.prog ([25, 26, 26] ++ []) ([d0, d1, d2] ++ [])).all (· ≤ reachBytes) = true := hwt
    have h1 := List.all_eq_true.1 hwt' m (DataW.weights_mem_each (j := 2) rfl rfl m hm)
    have h2 := reachBytes_lt
    simp at h1
    omega
  obtain ⟨L2, hT2⟩ := toks_in h2 hz2
  clear hA0 hval0
  refine (sea.none_walk W S0 E0 X0 A0 N0 C0 Q0 hB0 A1 N1 C1 L1 hT1 A2 N2 C2 L2 hT2 (sea.Env.of hL hsh)).mono fun e W' ⟨he, bel⟩ => ?_
  subst he
  exact ⟨_, rfl, _, _, _, [], _, [], hW', trodAll_mk1 (shut_bool Tryz.underlying4 _), (trodAll_cons_mk (Below.trod laidOut (by kernel_rfl) (of_decide_eq_true (by kernel_rfl)) k0 bel lt0) (trodAll_cons_mk (Below.trod laidOut (by kernel_rfl) (of_decide_eq_true (by kernel_rfl)) k1 bel lt1) (trodAll_cons_mk (Below.trod laidOut (by kernel_rfl) (of_decide_eq_true (by kernel_rfl)) k2 bel lt2) trodAll_mk0))), rfl, bel.frame _, fun h => by cases h⟩

theorem over : Rows.SearchNoneSaid :=
  OpenClaim.holds_of_wide 3 Tryz.f3 rfl rfl rfl rfl rfl rfl rfl ⟨rfl, rfl, rfl, rfl, rfl⟩ rfl rfl rfl rfl rfl (by kernel_rfl) Tryz.func3 (by kernel_rfl)
    (of_decide_eq_true (by kernel_rfl)) (by unfold Func.isWrapper; first | (rw [if_pos (by decide +kernel)]; kernel_rfl) | (rw [if_neg (by decide +kernel)]; exact ⟨rfl, rfl⟩))
    (fun os started H enc _ => lifted os started H enc)

theorem proved : Rows.SearchNoneCardSaid :=
  Claim7.holds_tied_plain_at .later [] [.data, .data, .data, .data, .sentinel, .sentinel, .data, .pinned] true (true, "43fbc90ecc1fc148813e222d7c912812f0a4a174b9934598a72c4bf41f47e99d") true
    over (fun _ h => by cases h) (by kernel_rfl) (fun _ h => by cases h) searchNone_row_tie rfl ⟨rfl, rfl⟩ (by kernel_rfl) rfl
    (fun f fn hf hfn => by
      obtain rfl : f = 3 := Option.some.inj ((show Tryz.prog.funcNamed "cubby/cubbylaw17.SearchNone" = some 3 by kernel_rfl).symm.trans hf) |>.symm
      obtain rfl : fn = Tryz.f3 := (Option.some.inj (Tryz.func3.symm.trans hfn)).symm
      exact ⟨by kernel_rfl, fun j t ht => by
        rw [Tryz.params3] at ht
        have h3 : t = 25 ∨ t = 26 := by
          rcases j with _ | _ | _ | j
          · exact .inl (by simpa using ht.symm)
          · exact .inr ((by simpa using ht.symm))
          · exact .inr ((by simpa using ht.symm))
          · simp at ht
        rcases h3 with rfl | rfl
        · exact (show Tryz.prog.wantsStandIn 25 = false by kernel_rfl)
        · exact (show Tryz.prog.wantsStandIn 26 = false by kernel_rfl)⟩)
    (by kernel_rfl)
#print axioms proved
end Go.Proofs.YtcepcamedmiinaaGreatDoor.searchNone
