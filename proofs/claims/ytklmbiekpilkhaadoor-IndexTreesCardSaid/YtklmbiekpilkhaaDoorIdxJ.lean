/- The law on trees, for any tree; a tree that comes in. -/
import Derived.Test.YtklmbiekpilkhaaDoorIdxI
import Derived.Test.YtklmbiekpilkhaaDoorCardPin
import Derived.Deep.Slices
import Derived.Deep.Fields
import Derived.Lib.SmallJoins
namespace Go.Proofs.YtklmbiekpilkhaaDoor.idx
open Go.ChangeShapes Go.WideShapes Go.ChangeAt Go.RowKit
open Go.Proofs.YtklmbiekpilkhaaDoor.row
set_option linter.unusedVariables false
set_option maxRecDepth 100000
set_option linter.unusedSimpArgs false

theorem trees_walk (W : World) (A : Option Addr) (n c : Nat) (ps : List P) (hR : Rd cP 2 W A n ps) (hr : nam.Room W) :
    Calls Tryd.prog 3 #[.slice A n c] W fun e w' => e = .returned (.bool true) ∧ Below W.heap.size W w' := by
  by_cases hn : n ≤ 40
  · exact trees_mid W A n c ps hR hn hr
  · have HW := Lib.hid (awake_any W hr)
    have Hr := Lib.hid hr
    have hd40 : decide ((40 : Int) < (n : Int)) = true := by rw [decide_eq_true_iff]; omega
    clear hR hr hn
    go_enter Tryd.func3, Tryd.ntmps3
    go_wp2_with fail
    refine HW.out.mono ?_
    rintro e w1 ⟨rfl, hb⟩
    have HB1 := Lib.hid hb
    have HW1 := Lib.hid (awake_any w1 (Hr.out.below hb))
    clear hb
    go_wp2_with fail
    refine HW1.out.mono ?_
    rintro e w2 ⟨rfl, hb⟩
    have HB2 := Lib.hid hb
    clear hb
    go_wp2_with fail
    go_ret
    exact ⟨rfl, HB1.out.trans (HB2.out.mono HB1.out.size)⟩
end Go.Proofs.YtklmbiekpilkhaaDoor.idx
namespace Go.Proofs.YtklmbiekpilkhaaDoor.cardPin
open Go.ChangeShapes Go.WideShapes Go.ChangeAt Go.RowKit
open Go.ChangeMaps (open_string)
open Go.Deep (open_slice choose_lt)
open Go.Proofs.YtklmbiekpilkhaaDoor.idx (P cP)
open Go.Proofs.YtklmbiekpilkhaaDoor.row
set_option linter.unusedVariables false
set_option linter.unusedSimpArgs false
set_option maxRecDepth 100000
instance : Inhabited P := ⟨⟨0, ⟨#[]⟩⟩⟩
theorem cellsP : Tryd.prog.cellsOf 26 = 2 := by kernel_rfl
theorem cells3 : Tryd.prog.cellsOf 3 = 1 := by kernel_rfl
theorem cells9 : Tryd.prog.cellsOf 9 = 1 := by kernel_rfl
theorem place_in {H : Type} {enc : TypeId × Value → H} {W : World} {n : Nat} {cs : List Value} {x : DataW H × List MemPlace} (hl : cs.length = 2) (h2 : DataW.trod enc Tryd.prog W 0 (fun _ => true) true n 26 cs = some x) :
    ∃ z : P, cs = cP z := by
  obtain ⟨xs, k, hk, hxy, _, hxl, hf⟩ := DataW.trod_struct Tryd.underlying26 h2
  match xs, hxl, cs, hl with
  | [y0, y1], _, [v0, v1], _ =>
    have g0 := hf 0 _ rfl
    have g1 := hf 1 _ rfl
    simp [cells3, cells9] at g0 g1
    obtain ⟨m, q0, _, _⟩ := DataW.trod_int Tryd.underlying3 g0
    obtain ⟨s, q1, _, _⟩ := DataW.trod_string Tryd.underlying9 g1
    simp only [List.cons.injEq, and_true] at q0 q1
    subst q0 q1
    exact ⟨⟨m, s⟩, rfl⟩
/-- A tree that came in. -/
theorem places_in {H : Type} {enc : TypeId × Value → H} {W : World} {A0 : Option Addr} {N0 C0 : Nat} {d0 : DataW H} {p0 : List MemPlace} (h0 : DataW.Trod enc Tryd.prog W 0 (fun _ => true) true 22 (.slice A0 N0 C0) d0 p0) :
    ∃ zs, Rd cP 2 W A0 N0 zs := by
  obtain ⟨fuel, hf⟩ := h0
  rcases open_slice Tryd.underlying22 hf with ⟨hcs, _⟩ | ⟨a, len, cap, m, n, D, Pl, hcs, _, hl, hm, hmm, hx, hel⟩
  · simp [Value.cells] at hcs
    obtain ⟨rfl, rfl, rfl⟩ := hcs
    exact ⟨[], Rd.empty W⟩
  · simp [Value.cells] at hcs
    obtain ⟨rfl, rfl, rfl⟩ := hcs
    simp at hmm
    subst hmm
    rw [cellsP] at hel
    obtain ⟨b, o, spot⟩ := a
    have hspot : 0 < N0 → spot = none := by
      intro h
      obtain ⟨cs', h1, h2⟩ := hel 0 (by omega)
      obtain ⟨_, hl', hc'⟩ := World.cells?_some h1
      have := hc' 0 (by omega)
      have h4 : 0 < cs'.length := by omega
      rw [List.getElem?_eq_getElem h4] at this
      simpa [Addr.add] using World.cell?_spot this
    by_cases hz : 0 < N0
    · have := hspot hz
      subst this
      obtain ⟨it, hit⟩ := choose_lt (α := P) (n := N0) (p := fun i z => ∀ j u, (cP z)[j]? = some u → W.cell? ⟨b, o + i * 2 + j, none⟩ = some u) (fun i hi => by
        obtain ⟨cs', h1, h2⟩ := hel i (by omega)
        rw [codec.add_none] at h1
        obtain ⟨_, hl', hc'⟩ := World.cells?_some h1
        obtain ⟨y, rfl⟩ := place_in hl' h2
        refine ⟨y, fun j u hu => ?_⟩
        have hj := (List.getElem?_eq_some_iff.1 hu).1
        have := hc' j (by omega)
        rw [codec.add_none, hu] at this
        exact this)
      exact ⟨(List.range N0).map it, by simp, fun k hk => ⟨b, o, it k, rfl, by simp [hk], hit k hk⟩⟩
    · obtain rfl : N0 = 0 := by omega
      exact ⟨[], rfl, fun k hk => by omega⟩
end Go.Proofs.YtklmbiekpilkhaaDoor.cardPin
