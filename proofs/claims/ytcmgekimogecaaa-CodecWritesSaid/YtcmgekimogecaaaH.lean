/- Bytes and items that came in. -/
import Derived.Test.YtcmgekimogecaaaF
import Derived.Deep.Slices
import Derived.Deep.Fields
import Derived.Lib.SmallJoins
namespace Go.Proofs.Ytcmgekimogecaaa.codec
open Go.ChangeShapes Go.WideShapes Go.ChangeAt Go.RowKit Go.Deep
set_option linter.unusedVariables false
set_option linter.unusedSimpArgs false

theorem own : ownKnob Try.prog.godebug = none := by kernel_rfl
theorem laidOut : laidOutB Try.prog = true := by kernel_rfl
theorem u8_bounds {z : Int} (h : (Lit.int .u8 z).wf = true) : 0 ≤ z ∧ z < 256 := by
  have h1 : IntKind.u8.min = 0 := rfl
  have h2 : IntKind.u8.max = 255 := rfl
  simp only [Lit.wf, Bool.and_eq_true, decide_eq_true_eq] at h
  omega
theorem i64_bounds {z : Int} (h : (Lit.int .i64 z).wf = true) : -9223372036854775808 ≤ z ∧ z ≤ 9223372036854775807 := by
  have h1 : IntKind.i64.min = -9223372036854775808 := rfl
  have h2 : IntKind.i64.max = 9223372036854775807 := rfl
  simp only [Lit.wf, Bool.and_eq_true, decide_eq_true_eq] at h
  omega

/-- Bytes that came in, out of their cell. -/
theorem bytes_cell {H : Type} {enc : TypeId × Value → H} {W : World} {fuel : Nat} {cs : List Value} {x : DataW H × List MemPlace} (hf : DataW.trod enc Try.prog W 0 (fun _ => true) true fuel 28 cs = some x) :
    ∃ (A : Option Addr) (n c : Nat) (l : List Nat), cs = [.slice A n c] ∧ Bytes W A n l ∧ n ≤ maxLen ∧ n ≤ c ∧ (A = none → c = 0) ∧ n ≤ Rows.uptoBulk x.1 ∧ ∀ R, (∀ m ∈ DataW.weights Try.prog 28 x.1, m ≤ R) → n ≤ R := by
  have hlen : ∀ (ls : List (DataW H)), ls.length ≤ Rows.uptoBulkAll ls := by
    intro ls
    induction ls with
    | nil => simp
    | cons d r ih =>
      have : 1 ≤ Rows.uptoBulk d := by
        unfold Rows.uptoBulk
        split <;> omega
      simp [Rows.uptoBulkAll]
      omega
  rcases open_ints Try.underlying28 Try.underlying5 (by kernel_rfl) hf with ⟨rfl, _⟩ | ⟨x', l, c, zs, rfl, _, hl, hm, hz, hx, hcell, hwz⟩
  · exact ⟨none, 0, 0, [], rfl, ⟨rfl, by simp, fun h => absurd h (by omega)⟩, by simp, Nat.le_refl _, fun _ => rfl, Nat.zero_le _, fun _ _ => Nat.zero_le _⟩
  · have hz' : zs.length = c := by simpa using hz
    refine ⟨some x', l, c, (zs.take l).map Int.toNat, rfl, ⟨by simp; omega, ?_, fun hn => ?_⟩, by omega, hl, (fun e => by cases e), ?_, fun R hR => ?_⟩
    · intro b hb
      obtain ⟨z, hz, rfl⟩ := List.mem_map.1 hb
      have := u8_bounds (hwz z (List.mem_of_mem_take hz))
      omega
    · obtain ⟨b, o, spot⟩ := x'
      have h0 := hcell 0 (by omega)
      have hspot : spot = none := by simpa [Addr.add] using World.cell?_spot h0
      subst hspot
      refine ⟨b, o, rfl, fun i hi => ?_⟩
      rw [← add_none, hcell i (by omega)]
      have hi' : i < zs.length := by omega
      have hb := u8_bounds (hwz zs[i] (List.getElem_mem hi'))
      simp [List.getD, hi, hi']
      omega
    · rw [hx]
      have := hlen (lits IntKind.u8 (List.take l zs))
      have e : (lits (H := H) IntKind.u8 (List.take l zs)).length = l := by simp [lits]; omega
      rw [e] at this
      simp only [Rows.uptoBulk]
      omega
    · rw [hx] at hR
      have e : (lits (H := H) IntKind.u8 (List.take l zs)).length = l := by simp [lits]; omega
      have hb : Try.prog.bytesOf 5 = 1 := by kernel_rfl
      have := hR _ (by
        simp only [DataW.weights, Try.underlying28]
        exact List.mem_cons_self)
      rw [hb, Nat.mul_one, e] at this
      omega

theorem bulk_pos {H : Type} (d : DataW H) : 1 ≤ Rows.uptoBulk d := by
  unfold Rows.uptoBulk
  split <;> omega
theorem bulk_len {H : Type} (ls : List (DataW H)) : ls.length ≤ Rows.uptoBulkAll ls := by
  induction ls with
  | nil => simp
  | cons d r ih =>
    have := bulk_pos d
    simp [Rows.uptoBulkAll]
    omega
theorem bulk_mem {H : Type} (ls : List (DataW H)) (d : DataW H) (h : d ∈ ls) : Rows.uptoBulk d ≤ Rows.uptoBulkAll ls := by
  induction ls with
  | nil => cases h
  | cons e r ih =>
    simp only [Rows.uptoBulkAll]
    rcases List.mem_cons.1 h with rfl | h
    · omega
    · have := ih h
      omega
/-- An item that came in. -/
theorem item_in {H : Type} {enc : TypeId × Value → H} {W : World} {n : Nat} {b o : Nat} {cs : List Value} {x : DataW H × List MemPlace} (h1 : W.cells? 0 ⟨b, o, none⟩ 4 = some cs) (h2 : DataW.trod enc Try.prog W 0 (fun _ => true) true n 30 cs = some x) :
    ∃ it : Item, ItemIs W b o it ∧ it.len ≤ Rows.uptoBulk x.1 ∧ ∀ R, (∀ m ∈ DataW.weights Try.prog 30 x.1, m ≤ R) → it.len ≤ R := by
  obtain ⟨_, hlen, hcell⟩ := World.cells?_some h1
  obtain ⟨xs, k, hk, hxy, _, hxl, hf⟩ := DataW.trod_struct Try.underlying30 h2
  match xs, hxl, cs, hlen with
  | [y0, y1, y2, y3], _, [v0, v1, v2, v3], _ =>
    have g0 := hf 0 _ rfl
    have g1 := hf 1 _ rfl
    have g2 := hf 2 _ rfl
    have g3 := hf 3 _ rfl
    have c5 : Try.prog.cellsOf 5 = 1 := by kernel_rfl
    have c2 : Try.prog.cellsOf 2 = 1 := by kernel_rfl
    have c3 : Try.prog.cellsOf 3 = 1 := by kernel_rfl
    have c28 : Try.prog.cellsOf 28 = 1 := by kernel_rfl
    simp [c5, c2, c3, c28] at g0 g1 g2 g3
    have e0 := hcell 0 (by omega)
    have e1 := hcell 1 (by omega)
    have e2 := hcell 2 (by omega)
    have e3 := hcell 3 (by omega)
    simp only [add_none] at e0 e1 e2 e3
    obtain ⟨kd, q0, _, wk⟩ := DataW.trod_int Try.underlying5 g0
    obtain ⟨v, q1, _, wv⟩ := DataW.trod_int Try.underlying2 g1
    obtain ⟨sz, q2, _, ws⟩ := DataW.trod_int Try.underlying3 g2
    obtain ⟨A, m, c, l, q3, hB, hm, hc, hn, hbk, hwt⟩ := bytes_cell g3
    simp only [List.cons.injEq, and_true] at q0 q1 q2 q3
    subst q0 q1 q2 q3
    have bk := u8_bounds wk
    have bv := i64_bounds wv
    have bs := i64_bounds ws
    obtain ⟨kn, rfl⟩ := Int.eq_ofNat_of_zero_le bk.1
    refine ⟨⟨kn, v, sz, A, m, c, l⟩, ⟨by simpa using e0, by simpa using e1, by simpa using e2, by simpa using e3, hB, hc, hm, hn, bv.1, bv.2, bs.1, bs.2, (by show kn < 256; omega)⟩, ?_, fun R hR => ?_⟩
    · rw [hxy]
      simp only [List.map_cons, List.map_nil, Rows.uptoBulk, Rows.uptoBulkAll]
      show m ≤ _
      omega
    · refine hwt R fun k hk => hR k ?_
      rw [hxy]
      simp only [DataW.weights, Try.underlying30, List.map_cons, List.map_nil, DataW.weightsEach]
      simp [hk]
theorem weights_all {H : Type} {P : Program} {e : TypeId} (ls : List (DataW H)) (d : DataW H) (h : d ∈ ls) (k : Nat) (hk : k ∈ DataW.weights P e d) : k ∈ DataW.weightsAll P e ls := by
  induction ls with
  | nil => cases h
  | cons x r ih =>
    simp only [DataW.weightsAll, List.mem_append]
    rcases List.mem_cons.1 h with rfl | h
    · exact .inl hk
    · exact .inr (ih h)
/-- Items that came in. -/
theorem items_in {H : Type} {enc : TypeId × Value → H} {W : World} {a0 : Option Addr} {len0 cap0 : Nat} {d0 : DataW H} {p0 : List MemPlace} (h0 : DataW.Trod enc Try.prog W 0 (fun _ => true) true 22 (.slice a0 len0 cap0) d0 p0) :
    ∃ L, Items W a0 len0 L ∧ (∀ x ∈ L, x.len ≤ Rows.uptoBulk d0) ∧ ∀ R, (∀ m ∈ DataW.weights Try.prog 22 d0, m ≤ R) → ∀ x ∈ L, x.len ≤ R := by
  obtain ⟨fuel, hf⟩ := h0
  have c30 : Try.prog.cellsOf 30 = 4 := by kernel_rfl
  rcases open_slice Try.underlying22 hf with ⟨hcs, _⟩ | ⟨a, len, cap, m, n, D, Pl, hcs, _, hl, hm, hmm, hx, hel⟩
  · simp [Value.cells] at hcs
    obtain ⟨rfl, rfl, rfl⟩ := hcs
    exact ⟨[], ⟨rfl, Nat.zero_le _, fun h => absurd h (by omega)⟩, by simp, by simp⟩
  · simp [Value.cells] at hcs
    obtain ⟨rfl, rfl, rfl⟩ := hcs
    simp at hmm
    subst hmm
    rw [c30] at hel
    obtain ⟨b, o, spot⟩ := a
    have hspot : 0 < len0 → spot = none := by
      intro h
      obtain ⟨cs', h1, h2⟩ := hel 0 (by omega)
      obtain ⟨_, hl', hc'⟩ := World.cells?_some h1
      have := hc' 0 (by omega)
      have h4 : 0 < cs'.length := by omega
      rw [List.getElem?_eq_getElem h4] at this
      simpa [Addr.add] using World.cell?_spot this
    by_cases hz : 0 < len0
    · have := hspot hz
      subst this
      obtain ⟨it, hit⟩ := choose_lt (α := Item) (n := len0) (p := fun i x => ItemIs W b (o + i * 4) x ∧ x.len ≤ Rows.uptoBulk (D i) ∧ ∀ R, (∀ m ∈ DataW.weights Try.prog 30 (D i), m ≤ R) → x.len ≤ R) (fun i hi => by
        obtain ⟨cs', h1, h2⟩ := hel i (by omega)
        rw [add_none] at h1
        exact item_in h1 h2)
      refine ⟨(List.range len0).map it, ⟨by simp, by omega, fun _ => ⟨b, o, rfl, fun i hi => ?_⟩⟩, fun x hx' => ?_, fun R hR x hx' => ?_⟩
      · have e : ((List.range len0).map it).getD i default = it i := by simp [List.getD, hi]
        rw [e]
        exact (hit i hi).1
      · obtain ⟨i, hi, rfl⟩ := List.mem_map.1 hx'
        have hi' := List.mem_range.1 hi
        have h1 := (hit i hi').2.1
        have h2 : Rows.uptoBulk (D i) ≤ Rows.uptoBulkAll ((List.range len0).map D) := bulk_mem _ _ (List.mem_map.2 ⟨i, hi, rfl⟩)
        have hd := congrArg Prod.fst hx
        simp only at hd
        rw [hd]
        simp only [Rows.uptoBulk]
        omega
      · obtain ⟨i, hi, rfl⟩ := List.mem_map.1 hx'
        have hi' := List.mem_range.1 hi
        refine (hit i hi').2.2 R fun k hk => hR k ?_
        have hd := congrArg Prod.fst hx
        simp only at hd
        rw [hd]
        simp only [DataW.weights, Try.underlying22]
        refine List.mem_cons_of_mem _ (List.mem_append_left _ (weights_all _ (D i) (List.mem_map.2 ⟨i, hi, rfl⟩) k hk))
    · obtain rfl : len0 = 0 := by omega
      exact ⟨[], ⟨rfl, Nat.zero_le _, fun h => absurd h (by omega)⟩, by simp, by simp⟩
end Go.Proofs.Ytcmgekimogecaaa.codec
