/- Proves DiskNil as it is given, for every act, without any condition: a nil disk has nothing, and does nothing. -/
import Derived.Test.YtahjdeoaolhbmaaC
import Derived.Deep.Fields
import Derived.Lib.SmallJoins
namespace Go.Proofs.Ytahjdeoaolhbmaa.diskNil
open Go.ChangeShapes Go.WideShapes Go.ChangeAt Go.RowKit Go.Deep Go.Joins
set_option linter.unusedVariables false

theorem own : ownKnob Try.prog.godebug = none := by kernel_rfl
theorem laidOut : laidOutB Try.prog = true := by kernel_rfl

/-- A struct of one-cell fields, by value: its cells, and each field's own reading. -/
theorem struct_cells {H : Type} {enc : TypeId × Value → H} {P : Program} {w : World} {base b0 : Nat} {spare : Nat → Bool} {held : Bool} {r : Reach} {t : TypeId} {fs : Array Field} {v : Value} {d : DataW H} {p : List MemPlace}
    (hs : P.underlying t = some (.struct fs)) (hone : oneCellFields P fs = true) (hC : P.cellsOf t = fs.size) (hv : Value.okWide P w r b0 t v) (h : DataW.Trod enc P w base spare held t v d p) :
    ∃ (cs : Array Value) (n : Nat), v = .agg cs ∧ cs.size = fs.size ∧ ∀ (i : Nat) (f : Field) (c : Value), fs[i]? = some f → cs[i]? = some c → ∃ y, DataW.trod enc P w base spare held n f.type [c] = some y := by
  obtain ⟨cs, rfl, hsz⟩ := okWide_struct hs hv
  obtain ⟨fuel, hf⟩ := h
  obtain ⟨xs, n, _, _, _, hlen, hg⟩ := DataW.trod_struct hs hf
  refine ⟨cs, n, rfl, hsz.trans hC, fun i f c hi hc => ?_⟩
  obtain ⟨ho, hk⟩ := hone_of hone i f hi
  have hlt : i < fs.size := (Array.getElem?_eq_some_iff.1 hi).1
  have hx : i < xs.length := by omega
  have h1 := hg i f hi
  rw [ho, hk] at h1
  obtain ⟨hci, rfl⟩ := Array.getElem?_eq_some_iff.1 hc
  have e1 : ((Value.agg cs).cells.toList.drop i).take 1 = [cs[i]] := by
    have hl : i < cs.toList.length := by simpa using hci
    show (cs.toList.drop i).take 1 = _
    rw [List.drop_eq_getElem_cons hl]
    simp
  refine ⟨xs[i], ?_⟩
  rw [← e1, h1]
  exact List.getElem?_eq_getElem hx

theorem six {cs : Array Value} (h : cs.size = 6) : ∃ a b c d e f, cs = #[a, b, c, d, e, f] := by
  obtain ⟨l⟩ := cs
  match l, h with
  | [a, b, c, d, e, f], _ => exact ⟨a, b, c, d, e, f, rfl⟩

theorem walk (w : World) (k at_ : Int) (A B : ByteArray) (da ka : Option Addr) (dl dc kl kc : Nat) (h0 : 0 ≤ k) :
    Calls Try.prog 6 #[.agg #[.int .u8 k, .string A, .string B, .int .i64 at_, .slice da dl dc, .slice ka kl kc]] w fun e w' => e = .returned (.bool true) ∧ Below w.heap.size w w' := by
  by_cases h6 : k ≤ 6
  · exact walk_low w k at_ A B da ka dl dc kl kc h0 h6
  · exact walk_high w k at_ A B da ka dl dc kl kc (by omega)

set_option maxRecDepth 100000 in
theorem lifted (os : Os) (started : os.Started) (H : Type) (enc : TypeId × Value → H) :
    ReturnsInHanded {} Try.checked os 6 .any (Rows.diskNilSpec.pre6 enc Try.prog Try.f6 Rows.diskNilRow.domain false) (Rows.diskNilSpec.post enc Try.prog Try.f6 false true false false) := by
  refine returnsInHanded_of_change (C := Try.checked) own started (by kernel_rfl) Try.func6
    (ChangeSpec.witness6 (enc := enc) (C := Try.checked) false ⟨#[], #[.agg #[.int .u8 0, .string ByteArray.empty, .string ByteArray.empty, .int .i64 0, .slice none 0 0, .slice none 0 0]], []⟩ 8 (by kernel_rfl) (by kernel_rfl) (by kernel_rfl) (by kernel_rfl)) ?_
  intro W base args ds gs before hval0 hW hcnd _
  have hval : ∀ (j : Nat) t v, Try.f6.params[j]? = some t → args[j]? = some v → Value.okWide Try.prog W .any base t v := hval0
  have hW' := hW
  obtain ⟨p, q, hA0, hV, rfl, hfz, hnd⟩ := hW
  have hA : DataW.TrodAll enc Try.prog W 0 (fun _ => true) true Try.f6.params.toList args.toList ds p := hA0
  rw [Try.params6] at hA hval
  obtain ⟨v0, vs0, d0, ds0, p0, q0, hargs, rfl, rfl, h0, r0⟩ := trodAll_cons hA
  obtain ⟨rfl, rfl, rfl⟩ := trodAll_nil r0
  obtain rfl : args = #[v0] := by cases args; simp_all
  obtain ⟨rfl, rfl⟩ := trodVars_none hV
  have k0 := h0
  have lt0 : ∀ x ∈ p0, x.block < W.heap.size := by obtain ⟨m, hm⟩ := k0; exact DataW.trod_lt m _ _ _ hm
  obtain ⟨cs, n, rfl, hsz, hf⟩ := struct_cells Try.underlying36 (by kernel_rfl) (by kernel_rfl) (hval 0 36 v0 rfl rfl) h0
  obtain ⟨c0, c1, c2, c3, c4, c5, rfl⟩ := six hsz
  obtain ⟨y0, g0⟩ := hf 0 _ c0 rfl rfl
  obtain ⟨y1, g1⟩ := hf 1 _ c1 rfl rfl
  obtain ⟨y2, g2⟩ := hf 2 _ c2 rfl rfl
  obtain ⟨y3, g3⟩ := hf 3 _ c3 rfl rfl
  obtain ⟨y4, g4⟩ := hf 4 _ c4 rfl rfl
  obtain ⟨y5, g5⟩ := hf 5 _ c5 rfl rfl
  obtain ⟨k, e0, _, wk⟩ := DataW.trod_int Try.underlying5 g0
  obtain ⟨A, e1, _, _⟩ := DataW.trod_string Try.underlying9 g1
  obtain ⟨B, e2, _, _⟩ := DataW.trod_string Try.underlying9 g2
  obtain ⟨at_, e3, _, _⟩ := DataW.trod_int Try.underlying3 g3
  obtain ⟨da, dl, dc, e4⟩ := slice_form Try.underlying33 g4
  obtain ⟨ka, kl, kc, e5⟩ := slice_form Try.underlying34 g5
  simp only [List.cons.injEq, and_true] at e0 e1 e2 e3 e4 e5
  subst e0 e1 e2 e3 e4 e5
  have hk : 0 ≤ k := (bounds_u8 wk).1
  clear hA0 hval0 hf g0 g1 g2 g3 g4 g5
  refine (walk W k at_ A B da ka dl dc kl kc hk).mono fun e W' ⟨he, bel⟩ => ?_
  subst he
  exact ⟨_, rfl, _, _, _, [], _, [], hW', trodAll_mk1 (shut_bool Try.underlying4 _), (trodAll_cons_mk (Below.trod laidOut (by kernel_rfl) (of_decide_eq_true (by kernel_rfl)) k0 bel lt0) trodAll_mk0), rfl, bel.frame _, fun h => by cases h⟩

theorem over : Rows.diskNilRow.holds Try.pinned (OpenSpec.ofChange Rows.diskNilSpec) :=
  OpenClaim.holds_of_wide 6 Try.f6 rfl rfl rfl rfl rfl rfl rfl ⟨rfl, rfl, rfl, rfl, rfl⟩ rfl rfl rfl rfl rfl (by kernel_rfl) Try.func6 (by kernel_rfl)
    (of_decide_eq_true (by kernel_rfl)) (by unfold Func.isWrapper; first | (rw [if_pos (by decide +kernel)]; kernel_rfl) | (rw [if_neg (by decide +kernel)]; exact ⟨rfl, rfl⟩))
    (fun os started H enc _ => lifted os started H enc)

theorem proved : Rows.DiskNilSaid := over
#print axioms proved
end Go.Proofs.Ytahjdeoaolhbmaa.diskNil
