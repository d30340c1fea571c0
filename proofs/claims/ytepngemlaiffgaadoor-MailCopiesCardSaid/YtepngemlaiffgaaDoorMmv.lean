/- Mailboxes and messages that come in. -/
import Derived.Test.YtepngemlaiffgaaDoorMc3
import Derived.Test.YtepngemlaiffgaaDoorMc4
import Derived.Deep.Slices
import Derived.Deep.Fields
import Derived.Lib.SmallJoins
namespace Go.Proofs.YtepngemlaiffgaaDoor.lg
/-- Messages of a mailbox's log. -/
def Msgs (S : ByteArray) (E : Nat) (l : List Nt) : Prop := (∀ n ∈ l, n.k = 2 ∧ n.e = E ∧ n.s = S) ∧ ∀ n ∈ l, n.u < 4294967296
instance : Inhabited Y := ⟨⟨⟨0, 0, ⟨#[]⟩, 0, 0, 0, []⟩, 0, none, 0, 0⟩⟩
end Go.Proofs.YtepngemlaiffgaaDoor.lg
namespace Go.Proofs.YtepngemlaiffgaaDoor.cardPin
open Go.ChangeShapes Go.WideShapes Go.ChangeAt Go.RowKit Go.Deep
open Go.Proofs.YtepngemlaiffgaaDoor.codec (Bytes)
open Go.Proofs.YtepngemlaiffgaaDoor.lg (Y Nt cM cN Oct Rd nts Msgs)
set_option linter.unusedVariables false
set_option linter.unusedSimpArgs false
set_option maxRecDepth 100000

theorem oct_in {H : Type} {enc : TypeId × Value → H} {W : World} {fuel : Nat} {cs : List Value} {x : DataW H × List MemPlace} (hf : DataW.trod enc Tryd.prog W 0 (fun _ => true) true fuel 28 cs = some x) :
    ∃ (A : Option Addr) (n c : Nat) (l : List Nat), cs = [.slice A n c] ∧ Bytes W A n l ∧ (A = none → c = 0) ∧ ∀ R, (∀ m ∈ DataW.weights Tryd.prog 28 x.1, m ≤ R) → n ≤ R := by
  rcases open_ints Tryd.underlying28 Tryd.underlying5 (by kernel_rfl) hf with ⟨rfl, _⟩ | ⟨x', l, c, zs, rfl, _, hl, hm, hz, hx, hcell, hwz⟩
  · exact ⟨none, 0, 0, [], rfl, ⟨rfl, by simp, fun h => absurd h (by omega)⟩, fun _ => rfl, fun _ _ => Nat.zero_le _⟩
  · have hz' : zs.length = c := by simpa using hz
    refine ⟨some x', l, c, (zs.take l).map Int.toNat, rfl, ⟨by simp; omega, ?_, fun hn => ?_⟩, (fun e => by cases e), fun R hR => ?_⟩
    · intro b hb
      obtain ⟨z, hz, rfl⟩ := List.mem_map.1 hb
      have := u8_bounds (hwz z (List.mem_of_mem_take hz))
      omega
    · obtain ⟨b, o, spot⟩ := x'
      have h0 := hcell 0 (by omega)
      have hspot : spot = none := by simpa [Addr.add] using World.cell?_spot h0
      subst hspot
      refine ⟨b, o, rfl, fun i hi => ?_⟩
      rw [← codec.add_none, hcell i (by omega)]
      have hi' : i < zs.length := by omega
      have hb := u8_bounds (hwz zs[i] (List.getElem_mem hi'))
      simp [List.getD, hi, hi']
      omega
    · rw [hx] at hR
      have e : (lits (H := H) IntKind.u8 (List.take l zs)).length = l := by simp [lits]; omega
      have hb : Tryd.prog.bytesOf 5 = 1 := by kernel_rfl
      have := hR _ (by
        simp only [DataW.weights, Tryd.underlying28]
        exact List.mem_cons_self)
      rw [hb, Nat.mul_one, e] at this
      omega
theorem weights_all {H : Type} {P : Program} {e : TypeId} (ls : List (DataW H)) (d : DataW H) (h : d ∈ ls) (k : Nat) (hk : k ∈ DataW.weights P e d) : k ∈ DataW.weightsAll P e ls := by
  induction ls with
  | nil => cases h
  | cons x r ih =>
    simp only [DataW.weightsAll, List.mem_append]
    rcases List.mem_cons.1 h with rfl | h
    · exact .inl hk
    · exact .inr (ih h)
/-- A message that came in. -/
theorem msg_in {H : Type} {enc : TypeId × Value → H} {W : World} (E : Nat) (S : ByteArray) {n : Nat} {cs : List Value} {x : DataW H × List MemPlace} (hl : cs.length = 4) (h2 : DataW.trod enc Tryd.prog W 0 (fun _ => true) true n 30 cs = some x) :
    ∃ y : Y, (y.n.k = 2 ∧ y.n.e = E ∧ y.n.s = S) ∧ y.n.u < 4294967296 ∧ cs = cM y ∧ Oct W y ∧ ∀ R, (∀ m ∈ DataW.weights Tryd.prog 30 x.1, m ≤ R) → y.m ≤ R := by
  obtain ⟨xs, k, hk, hxy, _, hxl, hf⟩ := DataW.trod_struct Tryd.underlying30 h2
  match xs, hxl, cs, hl with
  | [y0, y1, y2, y3], _, [v0, v1, v2, v3], _ =>
    have g0 := hf 0 _ rfl
    have g1 := hf 1 _ rfl
    have g2 := hf 2 _ rfl
    have g3 := hf 3 _ rfl
    simp [cells3, cells2, cellsU, cellsB] at g0 g1 g2 g3
    obtain ⟨u, q0, _, wu⟩ := DataW.trod_int Tryd.underlying22 g0
    obtain ⟨d, q1, _, wd⟩ := DataW.trod_int Tryd.underlying2 g1
    obtain ⟨f, q2, _, wf⟩ := DataW.trod_int Tryd.underlying3 g2
    obtain ⟨A, m, c, l, q3, hB, hn, hwt⟩ := oct_in g3
    simp only [List.cons.injEq, and_true] at q0 q1 q2 q3
    subst q0 q1 q2 q3
    have bu := u32_bounds wu
    obtain ⟨un, rfl⟩ := Int.eq_ofNat_of_zero_le bu.1
    refine ⟨⟨⟨2, E, S, un, d, f, l⟩, 0, A, m, c⟩, ⟨rfl, rfl, rfl⟩, by show un < _; omega, rfl, ⟨hB, hn⟩, fun R hR => ?_⟩
    refine hwt R fun k hk => hR k ?_
    rw [hxy]
    simp only [DataW.weights, Tryd.underlying30, List.map_cons, List.map_nil, DataW.weightsEach]
    simp [hk]
/-- Messages that came in. -/
theorem msgs_in {H : Type} {enc : TypeId × Value → H} {W : World} (E : Nat) (S : ByteArray) {fuel : Nat} {v : Value} {x0 : DataW H × List MemPlace} (hf : DataW.trod enc Tryd.prog W 0 (fun _ => true) true fuel 23 [v] = some x0) :
    ∃ A n c qs, v = .slice A n c ∧ Rd cM 4 W A n qs ∧ (∀ y ∈ qs, (y.n.k = 2 ∧ y.n.e = E ∧ y.n.s = S) ∧ y.n.u < 4294967296) ∧ (∀ y ∈ qs, ∀ b ∈ y.n.o, b < 256) ∧ (A = none → c = 0) ∧ ∀ R, (∀ m ∈ DataW.weights Tryd.prog 23 x0.1, m ≤ R) → n ≤ R ∧ ∀ y ∈ qs, y.m ≤ R := by
  rcases open_slice Tryd.underlying23 hf with ⟨hcs, _⟩ | ⟨a, len, cap, m, n, D, Pl, hcs, _, hl, hm, hmm, hx, hel⟩
  · simp at hcs
    subst hcs
    exact ⟨none, 0, 0, [], rfl, Rd.empty W, by simp, by simp, fun _ => rfl, by simp⟩
  · simp at hcs
    subst hcs
    simp at hmm
    subst hmm
    rw [cellsM] at hel
    obtain ⟨b, o, spot⟩ := a
    have hspot : 0 < len → spot = none := by
      intro h
      obtain ⟨cs', h1, h2⟩ := hel 0 (by omega)
      obtain ⟨_, hl', hc'⟩ := World.cells?_some h1
      have := hc' 0 (by omega)
      have h4 : 0 < cs'.length := by omega
      rw [List.getElem?_eq_getElem h4] at this
      simpa [Addr.add] using World.cell?_spot this
    have hbo : Tryd.prog.bytesOf 30 = 48 := by kernel_rfl
    have hx1 : x0.1 = .slice ((List.range len).map D) ((List.range (m - len)).map fun j => D (len + j)) := congrArg Prod.fst hx
    have hlenR : ∀ R, (∀ k ∈ DataW.weights Tryd.prog 23 x0.1, k ≤ R) → len ≤ R := by
      intro R hR
      have := hR (((List.range len).map D).length + ((List.range (m - len)).map fun j => D (len + j)).length |> (· * Tryd.prog.bytesOf 30)) (by
        rw [hx1]
        simp only [DataW.weights, Tryd.underlying23]
        exact List.mem_cons_self)
      simp only [hbo, List.length_map, List.length_range] at this
      omega
    by_cases hz : 0 < len
    · have := hspot hz
      subst this
      obtain ⟨it, hit⟩ := choose_lt (α := Y) (n := len) (p := fun i y => ((y.n.k = 2 ∧ y.n.e = E ∧ y.n.s = S) ∧ y.n.u < 4294967296) ∧ (∀ j u, (cM y)[j]? = some u → W.cell? ⟨b, o + i * 4 + j, none⟩ = some u) ∧ Oct W y ∧ ∀ R, (∀ k ∈ DataW.weights Tryd.prog 30 (D i), k ≤ R) → y.m ≤ R) (fun i hi => by
        obtain ⟨cs', h1, h2⟩ := hel i (by omega)
        rw [codec.add_none] at h1
        obtain ⟨_, hl', hc'⟩ := World.cells?_some h1
        obtain ⟨y, k1, k2, rfl, k3, k4⟩ := msg_in E S hl' h2
        refine ⟨y, ⟨k1, k2⟩, fun j u hu => ?_, k3, k4⟩
        have hj := (List.getElem?_eq_some_iff.1 hu).1
        have := hc' j (by omega)
        rw [codec.add_none, hu] at this
        exact this)
      refine ⟨_, len, _, (List.range len).map it, rfl, ⟨by simp, fun k hk => ⟨b, o, it k, rfl, by simp [hk], (hit k hk).2.1, (hit k hk).2.2.1⟩⟩, fun y hy => ?_, fun y hy => ?_, fun e => (by cases e), fun R hR => ⟨hlenR R hR, fun y hy => ?_⟩⟩
      · obtain ⟨i, hi, rfl⟩ := List.mem_map.1 hy
        exact (hit i (List.mem_range.1 hi)).1
      · obtain ⟨i, hi, rfl⟩ := List.mem_map.1 hy
        exact (hit i (List.mem_range.1 hi)).2.2.1.1.2.1
      · obtain ⟨i, hi, rfl⟩ := List.mem_map.1 hy
        refine (hit i (List.mem_range.1 hi)).2.2.2 R fun k hk => hR k ?_
        rw [hx1]
        simp only [DataW.weights, Tryd.underlying23]
        exact List.mem_cons_of_mem _ (List.mem_append.2 (.inl (weights_all _ _ (List.mem_map.2 ⟨i, hi, rfl⟩) k hk)))
    · obtain rfl : len = 0 := by omega
      exact ⟨_, 0, _, [], rfl, ⟨rfl, fun k hk => by omega⟩, by simp, by simp, (fun e => by cases e), fun R hR => ⟨Nat.zero_le _, by simp⟩⟩
theorem cellsQ : Tryd.prog.cellsOf 23 = 1 := by kernel_rfl
theorem cellsX : Tryd.prog.cellsOf 25 = 4 := by kernel_rfl
theorem box_in0 {H : Type} {enc : TypeId × Value → H} {W : World} {base : Nat} {v0 : Value} {d0 : DataW H} {p0 : List MemPlace} (hv : Value.okWide Tryd.prog W .any base 25 v0) (h0 : DataW.Trod enc Tryd.prog W 0 (fun _ => true) true 25 v0 d0 p0) (hw : ∀ m ∈ DataW.weights Tryd.prog 25 d0, m ≤ 140737488355328) :
    ∃ (S : ByteArray) (E X : Nat) (A : Option Addr) (n c : Nat) (qs : List Y), v0 = .agg #[.string S, .int .u32 E, .int .u32 X, .slice A n c] ∧ E < 4294967296 ∧ X < 4294967296 ∧ Rd cM 4 W A n qs ∧ Msgs S E (nts qs) ∧ (∀ t ∈ nts qs, ∀ b ∈ t.o, b < 256) ∧ n ≤ 140737488355328 ∧ S.size ≤ 140737488355328 ∧ (∀ y ∈ qs, y.m ≤ 140737488355328) ∧ (A = none → c = 0) := by
  obtain ⟨cs, rfl, hsz⟩ := okWide_struct Tryd.underlying25 hv
  rw [cellsX] at hsz
  obtain ⟨l⟩ := cs
  match l, hsz with
  | [c0, c1, c2, c3], _ =>
  obtain ⟨fuel, hf⟩ := h0
  obtain ⟨xs, m, _, hxy, _, hxl, hf⟩ := DataW.trod_struct Tryd.underlying25 hf
  match xs, hxl with
  | [y0, y1, y2, y3], _ =>
  have g0 := hf 0 _ rfl
  have g1 := hf 1 _ rfl
  have g2 := hf 2 _ rfl
  have g3 := hf 3 _ rfl
  simp [cellsU, cells9, cellsQ, Value.cells] at g0 g1 g2 g3
  obtain ⟨s, q0, r0, ws⟩ := DataW.trod_string Tryd.underlying9 g0
  obtain ⟨e, q1, _, w1⟩ := DataW.trod_int Tryd.underlying22 g1
  obtain ⟨u, q2, _, w3⟩ := DataW.trod_int Tryd.underlying22 g2
  simp only [List.cons.injEq, and_true] at q0 q1 q2
  subst q0 q1 q2
  have b1 := u32_bounds w1
  have b3 := u32_bounds w3
  obtain ⟨e, rfl⟩ := Int.eq_ofNat_of_zero_le b1.1
  obtain ⟨u, rfl⟩ := Int.eq_ofNat_of_zero_le b3.1
  obtain ⟨A, n, c, qs, rfl, hR, hq, hb, hnil, hwt⟩ := msgs_in e s g3
  have hd : d0 = .agg [y0.1, y1.1, y2.1, y3.1] := congrArg Prod.fst hxy
  have hms := hwt 140737488355328 (fun k hk => hw k (by
    rw [hd]
    simp only [DataW.weights, Tryd.underlying25, List.map_cons, List.map_nil, DataW.weightsEach]
    simp [hk]))
  have hss : s.size ≤ 140737488355328 := hw s.size (by
    rw [hd, show y0.1 = .lit (.string s.data.toList) from congrArg Prod.fst r0]
    simp only [DataW.weights, Tryd.underlying25, List.map_cons, List.map_nil, DataW.weightsEach]
    simp)
  refine ⟨s, e, u, A, n, c, qs, rfl, by omega, by omega, hR, ⟨fun t ht => ?_, fun t ht => ?_⟩, fun t ht => ?_, hms.1, hss, hms.2, hnil⟩
  · obtain ⟨y, hy, rfl⟩ := List.mem_map.1 ht
    exact (hq y hy).1
  · obtain ⟨y, hy, rfl⟩ := List.mem_map.1 ht
    exact (hq y hy).2
  · obtain ⟨y, hy, rfl⟩ := List.mem_map.1 ht
    exact hb y hy
theorem box_in {H : Type} {enc : TypeId × Value → H} {W : World} {base : Nat} {v0 : Value} {d0 : DataW H} {p0 : List MemPlace} (hv : Value.okWide Tryd.prog W .any base 25 v0) (h0 : DataW.Trod enc Tryd.prog W 0 (fun _ => true) true 25 v0 d0 p0) (hw : ∀ m ∈ DataW.weights Tryd.prog 25 d0, m ≤ 140737488355328) :
    ∃ (S : ByteArray) (E X : Nat) (A : Option Addr) (n c : Nat) (qs : List Y), v0 = .agg #[.string S, .int .u32 E, .int .u32 X, .slice A n c] ∧ E < 4294967296 ∧ X < 4294967296 ∧ Rd cM 4 W A n qs ∧ Msgs S E (nts qs) ∧ (∀ t ∈ nts qs, ∀ b ∈ t.o, b < 256) ∧ n ≤ 140737488355328 ∧ S.size ≤ 140737488355328 ∧ ∀ y ∈ qs, y.m ≤ 140737488355328 := by
  obtain ⟨S, E, X, A, n, c, qs, h1, h2, h3, h4, h5, h6, h7, h8, h9, -⟩ := box_in0 hv h0 hw
  exact ⟨S, E, X, A, n, c, qs, h1, h2, h3, h4, h5, h6, h7, h8, h9⟩
/-- A message that comes in by value. -/
theorem msg_val {H : Type} {enc : TypeId × Value → H} {W : World} {base : Nat} {v0 : Value} {d0 : DataW H} {p0 : List MemPlace} (hv : Value.okWide Tryd.prog W .any base 30 v0) (h0 : DataW.Trod enc Tryd.prog W 0 (fun _ => true) true 30 v0 d0 p0) (hw : ∀ m ∈ DataW.weights Tryd.prog 30 d0, m ≤ 140737488355328) :
    ∃ y : Y, v0 = .agg #[.int .u32 (y.n.u : Nat), .int .i64 y.n.d, .int .i64 y.n.f, .slice y.A y.m y.c] ∧ Oct W y ∧ (y.n.u < 4294967296 ∧ ∀ b ∈ y.n.o, b < 256) ∧ y.m ≤ 140737488355328 := by
  obtain ⟨cs, rfl, hsz⟩ := okWide_struct Tryd.underlying30 hv
  rw [cellsM] at hsz
  obtain ⟨fuel, hf⟩ := h0
  obtain ⟨y, -, h1, h2, h3, h4⟩ := msg_in 0 ByteArray.empty (by simpa [Value.cells] using hsz) hf
  refine ⟨y, ?_, h3, ⟨h1, h3.1.2.1⟩, h4 _ hw⟩
  simp [Value.cells] at h2
  obtain ⟨l⟩ := cs
  simp at h2
  subst h2
  rfl
theorem cellsX32 : Tryd.prog.cellsOf 42 = 1 := by kernel_rfl
/-- Numbers that come in. -/
theorem u32s_in {H : Type} {enc : TypeId × Value → H} {W : World} {a0 : Option Addr} {len0 cap0 : Nat} {d0 : DataW H} {p0 : List MemPlace} (h0 : DataW.Trod enc Tryd.prog W 0 (fun _ => true) true 42 (.slice a0 len0 cap0) d0 p0) :
    ∃ l : List Nat, l.length = len0 ∧ (∀ x ∈ l, x < 4294967296) ∧ (0 < len0 → ∃ b o, a0 = some ⟨b, o, none⟩ ∧ ∀ i, i < len0 → W.cell? ⟨b, o + i, none⟩ = some (.int .u32 (l.getD i 0 : Nat))) := by
  obtain ⟨fuel, hf⟩ := h0
  rcases open_ints Tryd.underlying42 Tryd.underlying22 (by kernel_rfl) hf with ⟨hcs, _⟩ | ⟨x, l, c, zs, hcs, _, hl, hm, hz, _, hcell, hwz⟩
  · simp [Value.cells] at hcs
    obtain ⟨rfl, rfl, rfl⟩ := hcs
    exact ⟨[], rfl, by simp, fun h => absurd h (by omega)⟩
  · simp [Value.cells] at hcs
    obtain ⟨rfl, rfl, rfl⟩ := hcs
    have hz' : zs.length = cap0 := by simpa using hz
    refine ⟨(zs.take len0).map Int.toNat, by simp; omega, ?_, fun hn => ?_⟩
    · intro b hb
      obtain ⟨z, hz, rfl⟩ := List.mem_map.1 hb
      have := u32_bounds (hwz z (List.mem_of_mem_take hz))
      omega
    · obtain ⟨b, o, spot⟩ := x
      have h0 := hcell 0 (by omega)
      have hspot : spot = none := by simpa [Addr.add] using World.cell?_spot h0
      subst hspot
      refine ⟨b, o, rfl, fun i hi => ?_⟩
      have ha : (Addr.mk b o none).add i = ⟨b, o + i, none⟩ := by unfold Addr.add; split <;> simp_all
      rw [← ha, hcell i (by omega)]
      have hi' : i < zs.length := by omega
      have hb := u32_bounds (hwz zs[i] (List.getElem_mem hi'))
      simp [List.getD, hi, hi']
      omega
end Go.Proofs.YtepngemlaiffgaaDoor.cardPin
