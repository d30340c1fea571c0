/- What the listed tables hold when the call begins. -/
import Derived.Test.YtbhpgghbpibalaaGreatDoorMk
import Derived.Test.YtbhpgghbpibalaaGreatDoorMpp
import Derived.Test.YtbhpgghbpibalaaGreatDoorMc2
namespace Go.Proofs.YtbhpgghbpibalaaGreatDoor.par
open Go.ChangeShapes Go.WideShapes Go.ChangeAt Go.RowKit
set_option linter.unusedVariables false
set_option linter.unusedSimpArgs false
set_option maxRecDepth 100000

theorem pick_one {W : World} {L : List (String × DataW Unit)} (h : laidMetH Tryz.prog L W) (name : String) (d : DataW Unit) (e : L.filter (fun x => x.1 == name) = [(name, d)]) (hp : ([(name, d)].all fun x => x.2.handleName?.isNone) = true) : laidMet Tryz.prog [(name, d)] W := by
  have h1 := h.filter (fun x => x.1 == name)
  rw [e, MakeChecks.laidMetH_plain _ _ _ hp] at h1
  exact h1
theorem items_of {w : World} (h : laidMet Tryz.prog [("cubby/parse.itemNames", Rows.laid_cubby_parse_itemNames)] w) : Items w := by
  have e : (Rows.laid_cubby_parse_itemNames : DataW Unit) = flg.textData [[85, 73, 68], [70, 76, 65, 71, 83], [73, 78, 84, 69, 82, 78, 65, 76, 68, 65, 84, 69], [82, 70, 67, 56, 50, 50, 46, 83, 73, 90, 69], [69, 78, 86, 69, 76, 79, 80, 69], [66, 79, 68, 89, 91, 93], [66, 79, 68, 89, 91, 72, 69, 65, 68, 69, 82, 93], [66, 79, 68, 89, 91, 84, 69, 88, 84, 93]] := by kernel_rfl
  rw [e] at h
  obtain ⟨ps, ⟨g', t', cs, fuel, p, q, hg', ht', hvar, hd, _, _⟩, _⟩ := h
  obtain rfl := Option.some.inj ((show Tryz.prog.globalNamed "cubby/parse.itemNames" = some 1 by kernel_rfl).symm.trans hg')
  obtain rfl := Option.some.inj ((show (Tryz.prog.globals[1]?).map (·.type) = some 111 by kernel_rfl).symm.trans ht')
  have hcs := flg.cells_of_texts (n := 8) Tryz.underlying111 Tryz.underlying9 (by kernel_rfl) (by kernel_rfl) hd
  unfold World.var? at hvar
  rw [show Tryz.prog.globalNamed "cubby/parse.itemNames" = some 1 by kernel_rfl] at hvar
  simp only [Option.bind_some] at hvar
  split at hvar
  · rename_i c t fr hh
    refine ⟨t, fr, hh.trans ?_⟩
    have h1 := Option.some.inj hvar
    have h2 : cs = items8 := by
      apply Array.ext'
      rw [hcs]; rfl
    rw [h1, h2]
  · cases hvar
theorem Env.of {W : World} (h : laidMetH Tryz.prog cardPin.laidL W) (hs : W.ShapedOpen Tryz.prog) : Env W :=
  ⟨lx.Room.of_shape hs,
   ⟨⟨alk.asc_of (pick_one h _ _ (by kernel_rfl) (by kernel_rfl)), alk.orb_of (pick_one h _ _ (by kernel_rfl) (by kernel_rfl))⟩, flg.names_of (pick_one h _ _ (by kernel_rfl) (by kernel_rfl))⟩,
   ⟨dat.asc_of (pick_one h _ _ (by kernel_rfl) (by kernel_rfl)), dat.orb_of (pick_one h _ _ (by kernel_rfl) (by kernel_rfl))⟩,
   items_of (pick_one h _ _ (by kernel_rfl) (by kernel_rfl))⟩
theorem tags_come (w : World) (A : Option Addr) (n c : Nat) (b : List Nat) (hB : codec.Bytes w A n b) (hc : n ≤ c) (hn : A = none → c = 0) (hE : Env w) :
    Calls Tryz.prog 3 #[.slice A n c] w fun e w' => e = .returned (.bool true) ∧ Below w.heap.size w w' :=
  tags_walk w A n c b ⟨hB, hc, trivial, hn⟩ hE
end Go.Proofs.YtbhpgghbpibalaaGreatDoor.par
