/- Proves SumCRC as it is given, for every slice of bytes, without any condition: its cyclic sum is what the document says. -/
import Derived.Test.YtnpohlimedhopaaA
namespace Go.Proofs.Ytnpohlimedhopaa.sumCRC
open Go.ChangeShapes Go.WideShapes Go.ChangeAt Go.RowKit Go.Proofs.Ytnpohlimedhopaa.sumPlain
set_option linter.unusedVariables false

theorem nine : (crcRun [49, 50, 51, 52, 53, 54, 55, 56, 57] ^^^ 4294967295 : Nat) = 3421780262 := by decide +kernel

theorem Bytes.lit (w : World) (l : List Nat) (hl : ∀ b ∈ l, b < 256) (e : TypeId) (m : Nat × Nat) :
    Bytes (w.alloc (.cells (l.map fun b => Value.int .u8 (b : Nat)).toArray e m)) (some ⟨w.heap.size, 0, none⟩) l.length l := by
  refine ⟨rfl, hl, fun _ => ⟨_, rfl, fun i hi => ?_⟩⟩
  have ha : (Addr.mk w.heap.size 0 none).add i = ⟨w.heap.size, i, none⟩ := by unfold Addr.add; split <;> simp_all
  rw [ha, World.cell?_alloc_mark]
  simp [List.getD, hi]

set_option maxHeartbeats 1000000 in
theorem awake_any (w : World) : Calls Try.prog 4 #[] w fun e w' => e = .returned (.bool true) ∧ Below w.heap.size w w' := by
  have kc := fun (w : World) (C : Array Value) (n c : Nat) => Lib.run_convert_bytes_const (P := Try.prog) w 22 5 C n c Try.underlying22 Try.underlying5
  have hB := Bytes.lit w [49, 50, 51, 52, 53, 54, 55, 56, 57] (by decide) 5 (9, 10)
  have HC := Lib.hid (crc_any (some ⟨w.heap.size, 0, none⟩) 9 9 _ _ hB (by decide))
  clear hB
  go_enter Try.func4, Try.ntmps4
  go_wp2_with (go_at_call 5; refine HC.out.mono ?_; rintro e w' ⟨rfl, rfl⟩)
  go_ret
  refine ⟨?_, (Below.refl _ _).alloc (Nat.le_refl _) _⟩
  have h9 : ((crcRun [49, 50, 51, 52, 53, 54, 55, 56, 57] ^^^ 4294967295 : Nat) : Int) = 3421780262 := by rw [nine]; rfl
  simp [h9]

theorem Bytes.below {w w' : World} {A : Option Addr} {n B : Nat} {l : List Nat} (h : Bytes w A n l) (hA : ∀ ad, A = some ad → 0 < n → ad.block < B) (hb : Below B w w') : Bytes w' A n l := by
  obtain ⟨h1, h2, h3⟩ := h
  refine ⟨h1, h2, fun hn => ?_⟩
  obtain ⟨ad, rfl, hc⟩ := h3 hn
  refine ⟨ad, rfl, fun i hi => ?_⟩
  rw [hb.cell (by rw [show (ad.add i).block = ad.block by unfold Addr.add; split <;> rfl]; exact hA ad rfl hn)]
  exact hc i hi

theorem Bytes.lt {w : World} {A : Option Addr} {n : Nat} {l : List Nat} (h : Bytes w A n l) : ∀ ad, A = some ad → 0 < n → ad.block < w.heap.size := by
  rintro ad rfl hn
  obtain ⟨ad', e, hc⟩ := h.2.2 hn
  cases e
  have h0 := hc 0 hn
  have e0 : ad.add 0 = ad := by unfold Addr.add; simp
  rw [e0] at h0
  rcases Nat.lt_or_ge ad.block w.heap.size with h | h
  · exact h
  · exfalso
    have hnone : w.heap[ad.block]? = none := Array.getElem?_eq_none h
    simp [World.cell?, hnone] at h0

set_option maxHeartbeats 1000000 in
theorem walk (A : Option Addr) (n c : Nat) (l : List Nat) (w : World) (h : Bytes w A n l) (hn : n ≤ maxLen) :
    Calls Try.prog 3 #[.slice A n c] w fun e w' => e = .returned (.bool true) ∧ Below w.heap.size w w' := by
  have hn' := hn
  unfold maxLen at hn'
  have HB := Lib.hid h
  have HN := Lib.hid hn
  have HE := Lib.hid (crcRun_slow h.2.1)
  clear h hn
  by_cases hs : 20000 < n
  · go_enter Try.func3, Try.ntmps3
    go_wp2_with fail
    refine (awake_any _).mono ?_
    rintro e w1 ⟨rfl, hb1⟩
    go_wp2_with fail
    refine (awake_any _).mono ?_
    rintro e w2 ⟨rfl, hb2⟩
    go_wp2
    go_ret
    exact ⟨rfl, hb1.trans (hb2.mono hb1.size)⟩
  · have hs' : decide ((20000 : Int) < n) = false := by simp; omega
    go_enter Try.func3, Try.ntmps3
    go_wp2_with fail
    refine (awake_any _).mono ?_
    rintro e w1 ⟨rfl, hb1⟩
    go_wp2_with fail
    have H1 := Lib.hid (HB.out.below HB.out.lt hb1)
    refine (crc_any A n c l _ H1.out HN.out).mono ?_
    rintro e w2 ⟨rfl, rfl⟩
    go_wp2_with fail
    refine (ref_any A n c l _ H1.out HN.out).mono ?_
    rintro e w2 ⟨rfl, rfl⟩
    rw [← HE.out]
    go_wp2
    go_ret
    exact ⟨rfl, hb1⟩

theorem own : ownKnob Try.prog.godebug = none := by kernel_rfl
theorem laidOut : laidOutB Try.prog = true := by kernel_rfl

theorem u8_bounds {z : Int} (h : (Lit.int .u8 z).wf = true) : 0 ≤ z ∧ z < 256 := by
  have h1 : IntKind.u8.min = 0 := rfl
  have h2 : IntKind.u8.max = 255 := rfl
  simp only [Lit.wf, Bool.and_eq_true, decide_eq_true_eq] at h
  omega

set_option maxRecDepth 100000 in
theorem lifted (os : Os) (started : os.Started) (H : Type) (enc : TypeId × Value → H) :
    ReturnsInHanded {} Try.checked os 3 .any (Rows.sumCRCSpec.pre6 enc Try.prog Try.f3 Rows.sumCRCRow.domain false) (Rows.sumCRCSpec.post enc Try.prog Try.f3 false true false false) := by
  refine returnsInHanded_of_change (C := Try.checked) own started (by kernel_rfl) Try.func3
    (ChangeSpec.witness6 (enc := enc) (C := Try.checked) false ⟨#[], #[.slice none 0 0], []⟩ 8 (by kernel_rfl) (by kernel_rfl) (by kernel_rfl) (by kernel_rfl)) ?_
  intro W base args ds gs before hval0 hW hcnd _
  have hval : ∀ (j : Nat) t v, Try.f3.params[j]? = some t → args[j]? = some v → Value.okWide Try.prog W .any base t v := hval0
  have hW' := hW
  obtain ⟨p, q, hA0, hV, rfl, hfz, hnd⟩ := hW
  have hA : DataW.TrodAll enc Try.prog W 0 (fun _ => true) true Try.f3.params.toList args.toList ds p := hA0
  rw [Try.params3] at hA hval
  obtain ⟨v0, vs0, d0, ds0, p0, q0, hargs, rfl, rfl, h0, r0⟩ := trodAll_cons hA
  obtain ⟨rfl, rfl, rfl⟩ := trodAll_nil r0
  obtain rfl : args = #[v0] := by cases args; simp_all
  obtain ⟨rfl, rfl⟩ := trodVars_none hV
  obtain ⟨a0, len0, cap0, rfl⟩ := okWide_slice Try.underlying22 (hval 0 22 v0 rfl rfl)
  have k0 := h0
  have lt0 : ∀ x ∈ p0, x.block < W.heap.size := by obtain ⟨m, hm⟩ := k0; exact DataW.trod_lt m _ _ _ hm
  obtain ⟨l, hB, hl⟩ : ∃ l, Bytes W a0 len0 l ∧ len0 ≤ maxLen := by
    obtain ⟨fuel, hf⟩ := h0
    rcases open_ints Try.underlying22 Try.underlying5 (by kernel_rfl) hf with ⟨hcs, _⟩ | ⟨x, l, c, zs, hcs, _, hl, hm, hz, _, hcell, hwz⟩
    · simp [Value.cells] at hcs
      obtain ⟨rfl, rfl, rfl⟩ := hcs
      exact ⟨[], ⟨rfl, by simp, fun h => absurd h (by omega)⟩, by simp⟩
    · simp [Value.cells] at hcs
      obtain ⟨rfl, rfl, rfl⟩ := hcs
      have hz' : zs.length = cap0 := by simpa using hz
      refine ⟨(zs.take len0).map Int.toNat, ⟨by simp; omega, ?_, fun hn => ⟨x, rfl, fun i hi => ?_⟩⟩, by omega⟩
      · intro b hb
        obtain ⟨z, hz, rfl⟩ := List.mem_map.1 hb
        have := u8_bounds (hwz z (List.mem_of_mem_take hz))
        omega
      · rw [hcell i (by omega)]
        have hi' : i < zs.length := by omega
        have hb := u8_bounds (hwz zs[i] (List.getElem_mem hi'))
        simp [List.getD, hi, hi']
        omega
  clear hA0 hval0
  refine (walk a0 len0 cap0 l W hB hl).mono fun e W' ⟨he, bel⟩ => ?_
  subst he
  exact ⟨_, rfl, _, _, _, [], _, [], hW', trodAll_mk1 (shut_bool Try.underlying4 _), (trodAll_cons_mk (Below.trod laidOut (by kernel_rfl) (of_decide_eq_true (by kernel_rfl)) k0 bel lt0) trodAll_mk0), rfl, bel.frame _, fun h => by cases h⟩

theorem over : Rows.sumCRCRow.holds Try.pinned (OpenSpec.ofChange Rows.sumCRCSpec) :=
  OpenClaim.holds_of_wide 3 Try.f3 rfl rfl rfl rfl rfl rfl rfl ⟨rfl, rfl, rfl, rfl, rfl⟩ rfl rfl rfl rfl rfl (by kernel_rfl) Try.func3 (by kernel_rfl)
    (of_decide_eq_true (by kernel_rfl)) (by unfold Func.isWrapper; first | (rw [if_pos (by decide +kernel)]; kernel_rfl) | (rw [if_neg (by decide +kernel)]; exact ⟨rfl, rfl⟩))
    (fun os started H enc _ => lifted os started H enc)

theorem proved : Rows.SumCRCSaid := over
#print axioms proved
end Go.Proofs.Ytnpohlimedhopaa.sumCRC
