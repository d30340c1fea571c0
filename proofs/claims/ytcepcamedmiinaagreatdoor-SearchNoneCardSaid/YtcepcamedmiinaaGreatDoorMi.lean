/- What comes in, and what the listed variables hold. -/
import Derived.Test.YtcepcamedmiinaaGreatDoorMf4
import Derived.Test.YtcepcamedmiinaaGreatDoorMg
import Derived.Deep.Slices
import Derived.Deep.Fields
import Derived.Lib.SmallJoins
import Derived.Stop.LaidErr
import Derived.LaidLaws
import Derived.Test.YtcepcamedmiinaaGreatDoorMh2
namespace Go.Proofs.YtcepcamedmiinaaGreatDoor.sea
open Go.ChangeShapes Go.WideShapes Go.ChangeAt Go.RowKit
open Go.Proofs.YtcepcamedmiinaaGreatDoor.cardPin (pick_one)
set_option linter.unusedVariables false
set_option linter.unusedSimpArgs false
set_option maxRecDepth 100000

def pairs : List (List UInt8 × Int) := [([83, 69, 69, 78], 1), ([65, 78, 83, 87, 69, 82, 69, 68], 2), ([70, 76, 65, 71, 71, 69, 68], 4), ([68, 69, 76, 69, 84, 69, 68], 8), ([68, 82, 65, 70, 84], 16)]
def pairData {H : Type} (zs : List (List UInt8 × Int)) : DataW H := .agg (zs.map fun z => .agg [.lit (.string z.1), .lit (.int .i64 z.2)])
theorem cells9 : Tryz.prog.cellsOf 9 = 1 := by kernel_rfl
theorem cells3 : Tryz.prog.cellsOf 3 = 1 := by kernel_rfl
theorem cellsF : Tryz.prog.cellsOf 100 = 2 := by kernel_rfl
theorem cellsV : Tryz.prog.cellsOf 101 = 10 := by kernel_rfl
/-- An array of pairs that reads as a table holds the table's pairs. -/
theorem cells_of_pairs {H : Type} {enc : TypeId × Value → H} {w : World} {base : Nat} {sp : Nat → Bool} {held : Bool} {fuel : Nat} {cs : List Value} {zs : List (List UInt8 × Int)} {p : List MemPlace} (hz : zs.length = 5)
    (h : DataW.trod enc Tryz.prog w base sp held fuel 101 cs = some (pairData zs, p)) : cs.length = 10 ∧ ∀ i z, zs[i]? = some z → cs[i * 2]? = some (.string ⟨z.1.toArray⟩) ∧ cs[i * 2 + 1]? = some (.int .i64 z.2) := by
  cases fuel with
  | zero => simp [DataW.trod] at h
  | succ fuel =>
    simp only [DataW.trod, Tryz.underlying101, cellsF, cellsV] at h
    split at h
    · rename_i hl
      refine ⟨by simpa using hl, fun i z hiz => ?_⟩
      obtain ⟨xs, hm, hx⟩ := Option.map_eq_some_iff.1 h
      have hxs : xs.map (·.1) = zs.map fun z => (DataW.agg [.lit (.string z.1), .lit (.int .i64 z.2)] : DataW H) := by
        have := congrArg Prod.fst hx
        simpa [pairData] using this
      have hi : i < 5 := by
        have := (List.getElem?_eq_some_iff.1 hiz).1
        omega
      obtain ⟨b, hb, hf⟩ := Lib.mapM_at hm i i (by simp [hi])
      have hb1 : b.1 = .agg [.lit (.string z.1), .lit (.int .i64 z.2)] := by
        have h2 : (xs.map (·.1))[i]? = some b.1 := by simp [hb]
        rw [hxs] at h2
        simp [hiz] at h2
        exact h2.symm
      obtain ⟨y0, y1, n, hbx, hcl, g0, g1⟩ := trod_struct2 Tryz.underlying100 hf
      simp only [cells9, cells3] at g0 g1
      obtain ⟨s, c0, r0, _⟩ := DataW.trod_string Tryz.underlying9 g0
      obtain ⟨v, c1, r1, _⟩ := DataW.trod_int Tryz.underlying3 g1
      rw [hbx] at hb1
      simp only [DataW.agg.injEq, List.cons.injEq, and_true] at hb1
      obtain ⟨e0, e1⟩ := hb1
      rw [congrArg Prod.fst r0] at e0
      rw [congrArg Prod.fst r1] at e1
      simp only [DataW.lit.injEq, Lit.string.injEq] at e0
      simp only [DataW.lit.injEq, Lit.int.injEq, true_and] at e1
      have k0 := congrArg (·[0]?) c0
      have k1 := congrArg (·[0]?) c1
      simp [List.getElem?_take, List.getElem?_drop] at k0 k1
      refine ⟨?_, ?_⟩
      · rw [k0, ← e0]
      · rw [k1, ← e1]
    · cases h
theorem five_of {w : World} (h : laidMet Tryz.prog [("cubby/search.flagKeys", Rows.laid_cubby_search_flagKeys)] w) : Five w := by
  have e : (Rows.laid_cubby_search_flagKeys : DataW Unit) = pairData pairs := by kernel_rfl
  rw [e] at h
  obtain ⟨ps, ⟨g', t', cs, fuel, p, q, hg', ht', hvar, hd, _, _⟩, _⟩ := h
  obtain rfl := Option.some.inj ((show Tryz.prog.globalNamed "cubby/search.flagKeys" = some 0 by kernel_rfl).symm.trans hg')
  obtain rfl := Option.some.inj ((show (Tryz.prog.globals[0]?).map (·.type) = some 101 by kernel_rfl).symm.trans ht')
  obtain ⟨hl, hcs⟩ := cells_of_pairs rfl hd
  unfold World.var? at hvar
  rw [show Tryz.prog.globalNamed "cubby/search.flagKeys" = some 0 by kernel_rfl] at hvar
  simp only [Option.bind_some] at hvar
  split at hvar
  · rename_i c t fr hh
    refine ⟨t, fr, hh.trans ?_⟩
    have h1 := Option.some.inj hvar
    have h2 : cs = flags10 := by
      have c0 := hcs 0 _ rfl
      have c1 := hcs 1 _ rfl
      have c2 := hcs 2 _ rfl
      have c3 := hcs 3 _ rfl
      have c4 := hcs 4 _ rfl
      obtain ⟨l⟩ := cs
      simp only at hl c0 c1 c2 c3 c4
      match l, hl with
      | [x0, x1, x2, x3, x4, x5, x6, x7, x8, x9], _ =>
        simp at c0 c1 c2 c3 c4
        obtain ⟨rfl, rfl⟩ := c0
        obtain ⟨rfl, rfl⟩ := c1
        obtain ⟨rfl, rfl⟩ := c2
        obtain ⟨rfl, rfl⟩ := c3
        obtain ⟨rfl, rfl⟩ := c4
        rfl
    rw [h1, h2]
  · cases hvar
theorem star : "*" ++ "errors.errorString" = "*errors.errorString" := by decide
theorem rowP (u : TypeId) (h : Tryz.prog.typeName? 3 u = some "*errors.errorString") : u = 152 :=
  typeName_ptr_named (nm := "errors.errorString") (by rw [star]; kernel_rfl) (by kernel_rfl) (by decide) u (by rw [star]; exact h)
theorem cellsP : Tryz.prog.cellsOf 154 = 1 := by kernel_rfl
theorem err_of {n : String} {text : List UInt8} {W : World} {g : Nat} (h : laidMet Tryz.prog [(n, .iface "*errors.errorString" (.ptr (.agg [.lit (.string text)])))] W) (hg : Tryz.prog.globalNamed n = some g) (ht : (Tryz.prog.globals[g]?).map (·.type) = some 89) : Err g W := by
  obtain ⟨a, s, hvar, _⟩ := laid_sentinel h hg ht Tryz.underlying89 rowP Tryz.underlying152 Tryz.underlying154 rfl rfl Tryz.underlying9 cellsP cells9
  unfold World.var? at hvar
  rw [hg] at hvar
  simp only [Option.bind_some] at hvar
  split at hvar
  · rename_i c t fr hh
    exact ⟨_, _, t, fr, hh.trans (by rw [Option.some.inj hvar])⟩
  · cases hvar
theorem Env.of {W : World} (h : laidMetH Tryz.prog cardPin.laidL W) (hs : W.ShapedOpen Tryz.prog) : Env W :=
  ⟨hd.Room.of_shape hs,
   err_of (cardPin.pick_one h "strconv.ErrSyntax" Rows.laid_strconv_ErrSyntax (by kernel_rfl) (by kernel_rfl)) (by kernel_rfl) (by kernel_rfl),
   err_of (cardPin.pick_one h "strconv.ErrRange" Rows.laid_strconv_ErrRange (by kernel_rfl) (by kernel_rfl)) (by kernel_rfl) (by kernel_rfl),
   five_of (cardPin.pick_one h _ _ (by kernel_rfl) (by kernel_rfl))⟩
end Go.Proofs.YtcepcamedmiinaaGreatDoor.sea
namespace Go.Proofs.YtcepcamedmiinaaGreatDoor.cardPin
open Go.ChangeShapes Go.WideShapes Go.ChangeAt Go.RowKit Go.Deep
open Go.Proofs.YtcepcamedmiinaaGreatDoor.codec (Bytes)
open Go.Proofs.YtcepcamedmiinaaGreatDoor.lg (Y Nt cM Oct Rd nts)
open Go.Proofs.YtcepcamedmiinaaGreatDoor.sea (Tk cT)
set_option linter.unusedVariables false
set_option linter.unusedSimpArgs false
set_option maxRecDepth 100000

instance : Inhabited Y := ⟨⟨⟨0, 0, ⟨#[]⟩, 0, 0, 0, []⟩, 0, none, 0, 0⟩⟩
theorem oct_in {H : Type} {enc : TypeId × Value → H} {W : World} {fuel : Nat} {cs : List Value} {x : DataW H × List MemPlace} (hf : DataW.trod enc Tryz.prog W 0 (fun _ => true) true fuel 37 cs = some x) :
    ∃ (A : Option Addr) (n c : Nat) (l : List Nat), cs = [.slice A n c] ∧ Bytes W A n l ∧ (n ≤ c ∧ (A = none → c = 0)) ∧ ∀ R, (∀ m ∈ DataW.weights Tryz.prog 37 x.1, m ≤ R) → n ≤ R := by
  rcases open_ints Tryz.underlying37 Tryz.underlying5 (by kernel_rfl) hf with ⟨rfl, _⟩ | ⟨x', l, c, zs, rfl, _, hl, hm, hz, hx, hcell, hwz⟩
  · exact ⟨none, 0, 0, [], rfl, ⟨rfl, by simp, fun h => absurd h (by omega)⟩, ⟨Nat.le_refl _, fun _ => rfl⟩, fun _ _ => Nat.zero_le _⟩
  · have hz' : zs.length = c := by simpa using hz
    refine ⟨some x', l, c, (zs.take l).map Int.toNat, rfl, ⟨by simp; omega, ?_, fun hn => ?_⟩, ⟨hl, fun e => by cases e⟩, fun R hR => ?_⟩
    · intro b hb
      obtain ⟨z, hz, rfl⟩ := List.mem_map.1 hb
      have := u8_bounds (hwz z (List.mem_of_mem_take hz))
      omega
    · obtain ⟨b, o, spot⟩ := x'
      have h0 := hcell 0 (by omega)
      have hspot : spot = none := by simpa [Addr.add] using World.cell?_spot h0
      subst hspot
      refine ⟨b, o, rfl, fun i hi => ?_⟩
      rw [← codec.add_none, hcell i (by omega)]
      have hi' : i < zs.length := by omega
      have hb := u8_bounds (hwz zs[i] (List.getElem_mem hi'))
      simp [List.getD, hi, hi']
      omega
    · rw [hx] at hR
      have e : (lits (H := H) IntKind.u8 (List.take l zs)).length = l := by simp [lits]; omega
      have hb : Tryz.prog.bytesOf 5 = 1 := by kernel_rfl
      have := hR _ (by
        simp only [DataW.weights, Tryz.underlying37]
        exact List.mem_cons_self)
      rw [hb, Nat.mul_one, e] at this
      omega
theorem weights_all {H : Type} {P : Program} {e : TypeId} (ls : List (DataW H)) (d : DataW H) (h : d ∈ ls) (k : Nat) (hk : k ∈ DataW.weights P e d) : k ∈ DataW.weightsAll P e ls := by
  induction ls with
  | nil => cases h
  | cons x r ih =>
    simp only [DataW.weightsAll, List.mem_append]
    rcases List.mem_cons.1 h with rfl | h
    · exact .inl hk
    · exact .inr (ih h)
/-- A message that came in. -/
theorem msg_in {H : Type} {enc : TypeId × Value → H} {W : World} {n : Nat} {cs : List Value} {x : DataW H × List MemPlace} (hl : cs.length = 4) (h2 : DataW.trod enc Tryz.prog W 0 (fun _ => true) true n 39 cs = some x) :
    ∃ y : Y, cs = cM y ∧ Oct W y ∧ y.m ≤ y.c ∧ ∀ R, (∀ m ∈ DataW.weights Tryz.prog 39 x.1, m ≤ R) → y.m ≤ R := by
  obtain ⟨xs, k, hk, hxy, _, hxl, hf⟩ := DataW.trod_struct Tryz.underlying39 h2
  match xs, hxl, cs, hl with
  | [y0, y1, y2, y3], _, [v0, v1, v2, v3], _ =>
    have g0 := hf 0 _ rfl
    have g1 := hf 1 _ rfl
    have g2 := hf 2 _ rfl
    have g3 := hf 3 _ rfl
    simp [cells3, cells2, cellsU, cellsB] at g0 g1 g2 g3
    obtain ⟨u, q0, _, wu⟩ := DataW.trod_int Tryz.underlying22 g0
    obtain ⟨d, q1, _, wd⟩ := DataW.trod_int Tryz.underlying2 g1
    obtain ⟨f, q2, _, wf⟩ := DataW.trod_int Tryz.underlying3 g2
    obtain ⟨A, m, c, l, q3, hB, hn, hwt⟩ := oct_in g3
    simp only [List.cons.injEq, and_true] at q0 q1 q2 q3
    subst q0 q1 q2 q3
    have bu := u32_bounds wu
    obtain ⟨un, rfl⟩ := Int.eq_ofNat_of_zero_le bu.1
    refine ⟨⟨⟨2, 0, ByteArray.empty, un, d, f, l⟩, 0, A, m, c⟩, rfl, ⟨hB, hn.2⟩, hn.1, fun R hR => ?_⟩
    refine hwt R fun k hk => hR k ?_
    rw [hxy]
    simp only [DataW.weights, Tryz.underlying39, List.map_cons, List.map_nil, DataW.weightsEach]
    simp [hk]
/-- Messages that came in. -/
theorem msgs_in {H : Type} {enc : TypeId × Value → H} {W : World} {fuel : Nat} {v : Value} {x0 : DataW H × List MemPlace} (hf : DataW.trod enc Tryz.prog W 0 (fun _ => true) true fuel 23 [v] = some x0) :
    ∃ A n c qs, v = .slice A n c ∧ Rd cM 4 W A n qs ∧ (∀ y ∈ qs, y.m ≤ y.c) ∧ ∀ R, (∀ m ∈ DataW.weights Tryz.prog 23 x0.1, m ≤ R) → n ≤ R ∧ ∀ y ∈ qs, y.m ≤ R := by
  rcases open_slice Tryz.underlying23 hf with ⟨hcs, _⟩ | ⟨a, len, cap, m, n, D, Pl, hcs, _, hl, hm, hmm, hx, hel⟩
  · simp at hcs
    subst hcs
    exact ⟨none, 0, 0, [], rfl, Rd.empty W, by simp, by simp⟩
  · simp at hcs
    subst hcs
    simp at hmm
    subst hmm
    rw [cellsM] at hel
    obtain ⟨b, o, spot⟩ := a
    have hspot : 0 < len → spot = none := by
      intro h
      obtain ⟨cs', h1, h2⟩ := hel 0 (by omega)
      obtain ⟨_, hl', hc'⟩ := World.cells?_some h1
      have := hc' 0 (by omega)
      have h4 : 0 < cs'.length := by omega
      rw [List.getElem?_eq_getElem h4] at this
      simpa [Addr.add] using World.cell?_spot this
    have hbo : Tryz.prog.bytesOf 39 = 48 := by kernel_rfl
    have hx1 : x0.1 = .slice ((List.range len).map D) ((List.range (m - len)).map fun j => D (len + j)) := congrArg Prod.fst hx
    have hlenR : ∀ R, (∀ k ∈ DataW.weights Tryz.prog 23 x0.1, k ≤ R) → len ≤ R := by
      intro R hR
      have := hR (((List.range len).map D).length + ((List.range (m - len)).map fun j => D (len + j)).length |> (· * Tryz.prog.bytesOf 39)) (by
        rw [hx1]
        simp only [DataW.weights, Tryz.underlying23]
        exact List.mem_cons_self)
      simp only [hbo, List.length_map, List.length_range] at this
      omega
    by_cases hz : 0 < len
    · have := hspot hz
      subst this
      obtain ⟨it, hit⟩ := choose_lt (α := Y) (n := len) (p := fun i y => y.m ≤ y.c ∧ (∀ j u, (cM y)[j]? = some u → W.cell? ⟨b, o + i * 4 + j, none⟩ = some u) ∧ Oct W y ∧ ∀ R, (∀ k ∈ DataW.weights Tryz.prog 39 (D i), k ≤ R) → y.m ≤ R) (fun i hi => by
        obtain ⟨cs', h1, h2⟩ := hel i (by omega)
        rw [codec.add_none] at h1
        obtain ⟨_, hl', hc'⟩ := World.cells?_some h1
        obtain ⟨y, rfl, k3, k2, k4⟩ := msg_in hl' h2
        refine ⟨y, k2, fun j u hu => ?_, k3, k4⟩
        have hj := (List.getElem?_eq_some_iff.1 hu).1
        have := hc' j (by omega)
        rw [codec.add_none, hu] at this
        exact this)
      refine ⟨_, len, _, (List.range len).map it, rfl, ⟨by simp, fun k hk => ⟨b, o, it k, rfl, by simp [hk], (hit k hk).2.1, (hit k hk).2.2.1⟩⟩, fun y hy => ?_, fun R hR => ⟨hlenR R hR, fun y hy => ?_⟩⟩
      · obtain ⟨i, hi, rfl⟩ := List.mem_map.1 hy
        exact (hit i (List.mem_range.1 hi)).1
      · obtain ⟨i, hi, rfl⟩ := List.mem_map.1 hy
        refine (hit i (List.mem_range.1 hi)).2.2.2 R fun k hk => hR k ?_
        rw [hx1]
        simp only [DataW.weights, Tryz.underlying23]
        exact List.mem_cons_of_mem _ (List.mem_append.2 (.inl (weights_all _ _ (List.mem_map.2 ⟨i, hi, rfl⟩) k hk)))
    · obtain rfl : len = 0 := by omega
      exact ⟨_, 0, _, [], rfl, ⟨rfl, fun k hk => by omega⟩, by simp, fun R hR => ⟨Nat.zero_le _, by simp⟩⟩
theorem cellsQ : Tryz.prog.cellsOf 23 = 1 := by kernel_rfl
theorem cellsX : Tryz.prog.cellsOf 25 = 4 := by kernel_rfl
/-- A mailbox that came in. -/
theorem boxs_in {H : Type} {enc : TypeId × Value → H} {W : World} {base : Nat} {v0 : Value} {d0 : DataW H} {p0 : List MemPlace} (hv : Value.okWide Tryz.prog W .any base 25 v0) (h0 : DataW.Trod enc Tryz.prog W 0 (fun _ => true) true 25 v0 d0 p0) (hw : ∀ m ∈ DataW.weights Tryz.prog 25 d0, m ≤ 140737488355328) :
    ∃ (S : ByteArray) (E X : Nat) (A : Option Addr) (n c : Nat) (qs : List Y), v0 = .agg #[.string S, .int .u32 E, .int .u32 X, .slice A n c] ∧ sea.BoxI W S A n qs := by
  obtain ⟨cs, rfl, hsz⟩ := okWide_struct Tryz.underlying25 hv
  rw [cellsX] at hsz
  obtain ⟨l⟩ := cs
  match l, hsz with
  | [c0, c1, c2, c3], _ =>
  obtain ⟨fuel, hf⟩ := h0
  obtain ⟨xs, m, _, hxy, _, hxl, hf⟩ := DataW.trod_struct Tryz.underlying25 hf
  match xs, hxl with
  | [y0, y1, y2, y3], _ =>
  have g0 := hf 0 _ rfl
  have g1 := hf 1 _ rfl
  have g2 := hf 2 _ rfl
  have g3 := hf 3 _ rfl
  simp [cellsU, cells9, cellsQ, Value.cells] at g0 g1 g2 g3
  obtain ⟨s, q0, r0, ws⟩ := DataW.trod_string Tryz.underlying9 g0
  obtain ⟨e, q1, _, w1⟩ := DataW.trod_int Tryz.underlying22 g1
  obtain ⟨u, q2, _, w3⟩ := DataW.trod_int Tryz.underlying22 g2
  simp only [List.cons.injEq, and_true] at q0 q1 q2
  subst q0 q1 q2
  have b1 := u32_bounds w1
  have b3 := u32_bounds w3
  obtain ⟨e, rfl⟩ := Int.eq_ofNat_of_zero_le b1.1
  obtain ⟨u, rfl⟩ := Int.eq_ofNat_of_zero_le b3.1
  obtain ⟨A, n, c, qs, rfl, hR, hq, hwt⟩ := msgs_in g3
  have hd : d0 = .agg [y0.1, y1.1, y2.1, y3.1] := congrArg Prod.fst hxy
  have hms := hwt 140737488355328 (fun k hk => hw k (by
    rw [hd]
    simp only [DataW.weights, Tryz.underlying25, List.map_cons, List.map_nil, DataW.weightsEach]
    simp [hk]))
  have hss : s.size ≤ 140737488355328 := hw s.size (by
    rw [hd, show y0.1 = .lit (.string s.data.toList) from congrArg Prod.fst r0]
    simp only [DataW.weights, Tryz.underlying25, List.map_cons, List.map_nil, DataW.weightsEach]
    simp)
  exact ⟨s, e, u, A, n, c, qs, rfl, hR, hms.1, hss, fun y hy => ⟨hq y hy, hms.2 y hy⟩⟩
instance : Inhabited Tk := ⟨⟨0, ByteArray.empty⟩⟩
theorem cellsTk : Tryz.prog.cellsOf 34 = 2 := by kernel_rfl
theorem tok_in {H : Type} {enc : TypeId × Value → H} {W : World} {n : Nat} {cs : List Value} {x : DataW H × List MemPlace} (hl : cs.length = 2) (h2 : DataW.trod enc Tryz.prog W 0 (fun _ => true) true n 34 cs = some x) :
    ∃ z : Tk, cs = cT z ∧ ∀ R, (∀ m ∈ DataW.weights Tryz.prog 34 x.1, m ≤ R) → z.t.size ≤ R := by
  obtain ⟨xs, k, hk, hxy, _, hxl, hf⟩ := DataW.trod_struct Tryz.underlying34 h2
  match xs, hxl, cs, hl with
  | [y0, y1], _, [v0, v1], _ =>
    have g0 := hf 0 _ rfl
    have g1 := hf 1 _ rfl
    simp [cells3, cells9] at g0 g1
    obtain ⟨m, q0, _, w0⟩ := DataW.trod_int Tryz.underlying3 g0
    obtain ⟨s, q1, r1, _⟩ := DataW.trod_string Tryz.underlying9 g1
    simp only [List.cons.injEq, and_true] at q0 q1
    subst q0 q1
    refine ⟨⟨m, s⟩, rfl, fun R hR => hR s.size ?_⟩
    have hd : x.1 = .agg [y0.1, y1.1] := congrArg Prod.fst hxy
    rw [hd, show y1.1 = .lit (.string s.data.toList) from congrArg Prod.fst r1]
    simp only [DataW.weights, Tryz.underlying34, List.map_cons, List.map_nil, DataW.weightsEach]
    simp
/-- Tokens that came in. -/
theorem toks_in {H : Type} {enc : TypeId × Value → H} {W : World} {A0 : Option Addr} {N0 C0 : Nat} {d0 : DataW H} {p0 : List MemPlace} (h0 : DataW.Trod enc Tryz.prog W 0 (fun _ => true) true 26 (.slice A0 N0 C0) d0 p0) (hw : ∀ m ∈ DataW.weights Tryz.prog 26 d0, m ≤ 140737488355328) :
    ∃ l, sea.TokI W A0 N0 C0 l := by
  obtain ⟨fuel, hf⟩ := h0
  rcases open_slice Tryz.underlying26 hf with ⟨hcs, _⟩ | ⟨a, len, cap, m, n, D, Pl, hcs, _, hl, hm, hmm, hx, hel⟩
  · simp [Value.cells] at hcs
    obtain ⟨rfl, rfl, rfl⟩ := hcs
    exact ⟨[], Nat.le_refl _, fun _ => rfl, by omega, ⟨rfl, fun k hk => absurd hk (by omega)⟩, by simp⟩
  · simp [Value.cells] at hcs
    obtain ⟨rfl, rfl, rfl⟩ := hcs
    simp at hmm
    subst hmm
    rw [cellsTk] at hel
    obtain ⟨b, o, spot⟩ := a
    have hspot : 0 < N0 → spot = none := by
      intro h
      obtain ⟨cs', h1, h2⟩ := hel 0 (by omega)
      obtain ⟨_, hl', hc'⟩ := World.cells?_some h1
      have := hc' 0 (by omega)
      have h4 : 0 < cs'.length := by omega
      rw [List.getElem?_eq_getElem h4] at this
      simpa [Addr.add] using World.cell?_spot this
    have hbo : Tryz.prog.bytesOf 34 = 24 := by kernel_rfl
    have hx1 : d0 = .slice ((List.range N0).map D) ((List.range (m - N0)).map fun j => D (N0 + j)) := congrArg Prod.fst hx
    have hlen : N0 ≤ 140737488355328 := by
      have := hw (((List.range N0).map D).length + ((List.range (m - N0)).map fun j => D (N0 + j)).length |> (· * Tryz.prog.bytesOf 34)) (by
        rw [hx1]
        simp only [DataW.weights, Tryz.underlying26]
        exact List.mem_cons_self)
      simp only [hbo, List.length_map, List.length_range] at this
      omega
    by_cases hz : 0 < N0
    · have := hspot hz
      subst this
      obtain ⟨it, hit⟩ := choose_lt (α := Tk) (n := N0) (p := fun i z => (∀ R, (∀ m ∈ DataW.weights Tryz.prog 34 (D i), m ≤ R) → z.t.size ≤ R) ∧ ∀ j u, (cT z)[j]? = some u → W.cell? ⟨b, o + i * 2 + j, none⟩ = some u) (fun i hi => by
        obtain ⟨cs', h1, h2⟩ := hel i (by omega)
        rw [codec.add_none] at h1
        obtain ⟨_, hl', hc'⟩ := World.cells?_some h1
        obtain ⟨y, rfl, hy⟩ := tok_in hl' h2
        refine ⟨y, hy, fun j u hu => ?_⟩
        have hj := (List.getElem?_eq_some_iff.1 hu).1
        have := hc' j (by omega)
        rw [codec.add_none, hu] at this
        exact this)
      refine ⟨(List.range N0).map it, hl, fun e => by (first | cases e | (simp at e)), hlen, ⟨by simp, fun k hk => ⟨b, o, it k, rfl, by simp [hk], (hit k hk).2⟩⟩, fun t ht => ?_⟩
      obtain ⟨i, hi, rfl⟩ := List.mem_map.1 ht
      refine (hit i (List.mem_range.1 hi)).1 _ fun k hk => hw k ?_
      rw [hx1]
      simp only [DataW.weights, Tryz.underlying26]
      exact List.mem_cons_of_mem _ (List.mem_append.2 (.inl (weights_all _ _ (List.mem_map.2 ⟨i, List.mem_range.2 (List.mem_range.1 hi), rfl⟩) k hk)))
    · obtain rfl : N0 = 0 := by omega
      exact ⟨[], hl, fun e => by (first | cases e | (simp at e)), hlen, ⟨rfl, fun k hk => absurd hk (by omega)⟩, by simp⟩
end Go.Proofs.YtcepcamedmiinaaGreatDoor.cardPin
