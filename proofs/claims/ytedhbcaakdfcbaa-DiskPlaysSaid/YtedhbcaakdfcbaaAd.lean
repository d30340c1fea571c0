/- Acts that come in. -/
import Derived.Test.YtedhbcaakdfcbaaAc
import Derived.SizedLaws
import Derived.Deep.Slices
import Derived.Deep.Fields
import Derived.Lib.SmallJoins
import Derived.Stop.Joined
namespace Go.Proofs.Ytedhbcaakdfcbaa.disk
open Go.ChangeShapes Go.WideShapes Go.ChangeAt Go.RowKit Go.Deep Go.Maps Go.WideMaps
set_option linter.unusedVariables false
set_option linter.unusedSimpArgs false

theorem own : ownKnob Try.prog.godebug = none := by kernel_rfl
theorem laidOut : laidOutB Try.prog = true := by kernel_rfl
theorem u8_bounds {z : Int} (h : (Lit.int .u8 z).wf = true) : 0 ≤ z ∧ z < 256 := by
  have h1 : IntKind.u8.min = 0 := rfl
  have h2 : IntKind.u8.max = 255 := rfl
  simp only [Lit.wf, Bool.and_eq_true, decide_eq_true_eq] at h
  omega
theorem i64_bounds {z : Int} (h : (Lit.int .i64 z).wf = true) : -9223372036854775808 ≤ z ∧ z ≤ 9223372036854775807 := by
  have h1 : IntKind.i64.min = -9223372036854775808 := rfl
  have h2 : IntKind.i64.max = 9223372036854775807 := rfl
  simp only [Lit.wf, Bool.and_eq_true, decide_eq_true_eq] at h
  omega
theorem addr_add (b o j : Nat) : (Addr.mk b o none).add j = ⟨b, o + j, none⟩ := by unfold Addr.add; split <;> simp_all
theorem bytes_cell {H : Type} {enc : TypeId × Value → H} {W : World} {fuel : Nat} {cs : List Value} {x : DataW H × List MemPlace} (hf : DataW.trod enc Try.prog W 0 (fun _ => true) true fuel 33 cs = some x) :
    ∃ (A : Option Addr) (n c : Nat) (l : List Nat), cs = [.slice A n c] ∧ Bytes W A n l ∧ n ≤ c ∧ (A = none → c = 0) ∧ ∀ R, (∀ m ∈ DataW.weights Try.prog 33 x.1, m ≤ R) → n ≤ R := by
  rcases open_ints Try.underlying33 Try.underlying5 (by kernel_rfl) hf with ⟨rfl, _⟩ | ⟨x', l, c, zs, rfl, _, hl, hm, hz, hx, hcell, hwz⟩
  · exact ⟨none, 0, 0, [], rfl, ⟨rfl, by simp, fun h => absurd h (by omega)⟩, Nat.le_refl _, fun _ => rfl, fun _ _ => Nat.zero_le _⟩
  · have hz' : zs.length = c := by simpa using hz
    refine ⟨some x', l, c, (zs.take l).map Int.toNat, rfl, ⟨by simp; omega, ?_, fun hn => ?_⟩, hl, (fun e => by cases e), fun R hR => ?_⟩
    · intro b hb
      obtain ⟨z, hz, rfl⟩ := List.mem_map.1 hb
      have := u8_bounds (hwz z (List.mem_of_mem_take hz))
      omega
    · obtain ⟨b, o, spot⟩ := x'
      have h0 := hcell 0 (by omega)
      have hspot : spot = none := by simpa [Addr.add] using World.cell?_spot h0
      subst hspot
      refine ⟨b, o, rfl, fun i hi => ?_⟩
      rw [← addr_add, hcell i (by omega)]
      have hi' : i < zs.length := by omega
      have hb := u8_bounds (hwz zs[i] (List.getElem_mem hi'))
      simp [List.getD, hi, hi']
      omega
    · rw [hx] at hR
      have e : (lits (H := H) IntKind.u8 (List.take l zs)).length = l := by simp [lits]; omega
      have hb : Try.prog.bytesOf 5 = 1 := by kernel_rfl
      have := hR _ (by
        simp only [DataW.weights, Try.underlying33]
        exact List.mem_cons_self)
      rw [hb, Nat.mul_one, e] at this
      omega
theorem ints_cell {H : Type} {enc : TypeId × Value → H} {W : World} {fuel : Nat} {cs : List Value} {x : DataW H × List MemPlace} (hf : DataW.trod enc Try.prog W 0 (fun _ => true) true fuel 34 cs = some x) :
    ∃ (A : Option Addr) (n c : Nat) (l : List Int), cs = [.slice A n c] ∧ Ints W A n l ∧ n ≤ c ∧ ∀ R, (∀ m ∈ DataW.weights Try.prog 34 x.1, m ≤ R) → n ≤ R := by
  rcases open_ints Try.underlying34 Try.underlying3 (by kernel_rfl) hf with ⟨rfl, _⟩ | ⟨x', l, c, zs, rfl, _, hl, hm, hz, hx, hcell, hwz⟩
  · exact ⟨none, 0, 0, [], rfl, ⟨rfl, by simp, fun h => absurd h (by omega)⟩, Nat.le_refl _, fun _ _ => Nat.zero_le _⟩
  · have hz' : zs.length = c := by simpa using hz
    refine ⟨some x', l, c, zs.take l, rfl, ⟨by simp; omega, ?_, fun hn => ?_⟩, hl, fun R hR => ?_⟩
    · intro z hz
      have := i64_bounds (hwz z (List.mem_of_mem_take hz))
      omega
    · obtain ⟨b, o, spot⟩ := x'
      have h0 := hcell 0 (by omega)
      have hspot : spot = none := by simpa [Addr.add] using World.cell?_spot h0
      subst hspot
      refine ⟨b, o, rfl, fun i hi => ?_⟩
      rw [← addr_add, hcell i (by omega)]
      have hi' : i < zs.length := by omega
      simp [List.getD, hi, hi']
    · rw [hx] at hR
      have e : (lits (H := H) IntKind.i64 (List.take l zs)).length = l := by simp [lits]; omega
      have hb : Try.prog.bytesOf 3 = 8 := by kernel_rfl
      have := hR _ (by
        simp only [DataW.weights, Try.underlying34]
        exact List.mem_cons_self)
      rw [hb, e] at this
      omega
theorem size_len (b : ByteArray) : b.size = b.data.toList.length := (Array.length_toList (xs := b.data)).symm
theorem ints_in {H : Type} {enc : TypeId × Value → H} {W : World} {a0 : Option Addr} {len0 cap0 : Nat} {d0 : DataW H} {p0 : List MemPlace} (h0 : DataW.Trod enc Try.prog W 0 (fun _ => true) true 34 (.slice a0 len0 cap0) d0 p0) (hR : ∀ m ∈ DataW.weights Try.prog 34 d0, m ≤ 140737488355328) :
    ∃ L, Ints W a0 len0 L ∧ len0 ≤ 140737488355328 := by
  obtain ⟨fuel, hf⟩ := h0
  obtain ⟨A, n, c, l, e, hI, _, hw⟩ := ints_cell hf
  simp [Value.cells] at e
  obtain ⟨rfl, rfl, rfl⟩ := e
  exact ⟨l, hI, hw _ hR⟩
set_option maxRecDepth 50000 in
theorem act_in {H : Type} {enc : TypeId × Value → H} {W : World} {n : Nat} {b o : Nat} {cs : List Value} {x : DataW H × List MemPlace} (h1 : W.cells? 0 ⟨b, o, none⟩ 6 = some cs) (h2 : DataW.trod enc Try.prog W 0 (fun _ => true) true n 36 cs = some x) (hR : ∀ m ∈ DataW.weights Try.prog 36 x.1, m ≤ 140737488355328) :
    ∃ it : ActV, ActIs W W.heap.size b o it := by
  obtain ⟨_, hlen, hcell⟩ := World.cells?_some h1
  obtain ⟨xs, k, hk, hxy, _, hxl, hf⟩ := DataW.trod_struct Try.underlying36 h2
  match xs, hxl, cs, hlen with
  | [y0, y1, y2, y3, y4, y5], _, [v0, v1, v2, v3, v4, v5], _ =>
    have g0 := hf 0 _ rfl
    have g1 := hf 1 _ rfl
    have g2 := hf 2 _ rfl
    have g3 := hf 3 _ rfl
    have g4 := hf 4 _ rfl
    have g5 := hf 5 _ rfl
    have c5 : Try.prog.cellsOf 5 = 1 := by kernel_rfl
    have c9 : Try.prog.cellsOf 9 = 1 := by kernel_rfl
    have c3 : Try.prog.cellsOf 3 = 1 := by kernel_rfl
    have c33 : Try.prog.cellsOf 33 = 1 := by kernel_rfl
    have c34 : Try.prog.cellsOf 34 = 1 := by kernel_rfl
    simp [c5, c9, c3, c33, c34] at g0 g1 g2 g3 g4 g5
    have e0 := hcell 0 (by omega)
    have e1 := hcell 1 (by omega)
    have e2 := hcell 2 (by omega)
    have e3 := hcell 3 (by omega)
    have e4 := hcell 4 (by omega)
    have e5 := hcell 5 (by omega)
    simp only [addr_add] at e0 e1 e2 e3 e4 e5
    obtain ⟨kd, q0, _, wk⟩ := DataW.trod_int Try.underlying5 g0
    obtain ⟨sa, q1, z1, _⟩ := DataW.trod_string Try.underlying9 g1
    obtain ⟨sb, q2, z2, _⟩ := DataW.trod_string Try.underlying9 g2
    obtain ⟨at_, q3, _, _⟩ := DataW.trod_int Try.underlying3 g3
    obtain ⟨A, m, c, l, q4, hB, hc, hn, hwt⟩ := bytes_cell g4
    obtain ⟨A', m', c', l', q5, hI, hc', hwt'⟩ := ints_cell g5
    simp only [List.cons.injEq, and_true] at q0 q1 q2 q3 q4 q5
    subst q0 q1 q2 q3 q4 q5
    have bk := u8_bounds wk
    obtain ⟨kn, rfl⟩ := Int.eq_ofNat_of_zero_le bk.1
    have hw : ∀ (j : Nat) t y, ([5, 9, 9, 3, 33, 34] : List Nat)[j]? = some t → [y0, y1, y2, y3, y4, y5][j]? = some y → ∀ k ∈ DataW.weights Try.prog t y.1, k ≤ 140737488355328 := fun j t y ht hy k hk => hR k (by
      rw [hxy]
      simp only [DataW.weights, Try.underlying36, List.map_cons, List.map_nil, DataW.weightsEach]
      rcases j with _ | _ | _ | _ | _ | _ | j
      all_goals
        simp at ht hy
      all_goals
        subst ht hy
        simp [hk])
    have w1 := hw 1 9 y1 rfl rfl sa.data.toList.length (by rw [z1]; simp [DataW.weights])
    have w2 := hw 2 9 y2 rfl rfl sb.data.toList.length (by rw [z2]; simp [DataW.weights])
    refine ⟨⟨kn, sa, sb, at_, A, m, c, l, A', m', c', l'⟩, ⟨block_lt_of_cell (by simpa using e0), by simpa using e0, by simpa using e1, by simpa using e2, by simpa using e3, by simpa using e4, by simpa using e5, hB, hB.lt, hI, hI.lt, hn, hc, (by show kn < 256; omega), ?_, ?_, hwt _ (hw 4 33 y4 rfl rfl), hwt' _ (hw 5 34 y5 rfl rfl)⟩⟩
    · exact Nat.le_trans (Nat.le_of_eq (size_len sa)) w1
    · exact Nat.le_trans (Nat.le_of_eq (size_len sb)) w2
theorem weights_all {H : Type} {P : Program} {e : TypeId} (ls : List (DataW H)) (d : DataW H) (h : d ∈ ls) (k : Nat) (hk : k ∈ DataW.weights P e d) : k ∈ DataW.weightsAll P e ls := by
  induction ls with
  | nil => cases h
  | cons x r ih =>
    simp only [DataW.weightsAll, List.mem_append]
    rcases List.mem_cons.1 h with rfl | h
    · exact .inl hk
    · exact .inr (ih h)
set_option maxRecDepth 50000 in
/-- Acts that came in. -/
theorem acts_in {H : Type} {enc : TypeId × Value → H} {W : World} {a0 : Option Addr} {len0 cap0 : Nat} {d0 : DataW H} {p0 : List MemPlace} (h0 : DataW.Trod enc Try.prog W 0 (fun _ => true) true 22 (.slice a0 len0 cap0) d0 p0) (hR : ∀ m ∈ DataW.weights Try.prog 22 d0, m ≤ 140737488355328) :
    ∃ L, Acts W W.heap.size a0 len0 L := by
  obtain ⟨fuel, hf⟩ := h0
  have c36 : Try.prog.cellsOf 36 = 6 := by kernel_rfl
  rcases open_slice Try.underlying22 hf with ⟨hcs, _⟩ | ⟨a, len, cap, m, n, D, Pl, hcs, _, hl, hm, hmm, hx, hel⟩
  · simp [Value.cells] at hcs
    obtain ⟨rfl, rfl, rfl⟩ := hcs
    exact ⟨[], ⟨rfl, Nat.zero_le _, fun h => absurd h (by omega)⟩⟩
  · simp [Value.cells] at hcs
    obtain ⟨rfl, rfl, rfl⟩ := hcs
    simp at hmm
    subst hmm
    rw [c36] at hel
    obtain ⟨b, o, spot⟩ := a
    by_cases hz : 0 < len0
    · have hspot : spot = none := by
        obtain ⟨cs', h1, h2⟩ := hel 0 (by omega)
        obtain ⟨_, hl', hc'⟩ := World.cells?_some h1
        have := hc' 0 (by omega)
        have h4 : 0 < cs'.length := by omega
        rw [List.getElem?_eq_getElem h4] at this
        simpa [Addr.add] using World.cell?_spot this
      subst hspot
      have hd := congrArg Prod.fst hx
      simp only at hd
      obtain ⟨it, hit⟩ := choose_lt (α := ActV) (n := len0) (p := fun i x => ActIs W W.heap.size b (o + i * 6) x) (fun i hi => by
        obtain ⟨cs', h1, h2⟩ := hel i (by omega)
        rw [addr_add] at h1
        refine act_in h1 h2 fun k hk => hR k ?_
        rw [hd]
        simp only [DataW.weights, Try.underlying22]
        exact List.mem_cons_of_mem _ (List.mem_append_left _ (weights_all _ (D i) (List.mem_map.2 ⟨i, List.mem_range.2 hi, rfl⟩) k hk)))
      refine ⟨(List.range len0).map it, ⟨by simp, by omega, fun _ => ⟨b, o, rfl, fun i hi => ?_⟩⟩⟩
      have e : ((List.range len0).map it).getD i default = it i := by simp [List.getD, hi]
      rw [e]
      exact hit i hi
    · obtain rfl : len0 = 0 := by omega
      exact ⟨[], ⟨rfl, Nat.zero_le _, fun h => absurd h (by omega)⟩⟩
end Go.Proofs.Ytedhbcaakdfcbaa.disk
