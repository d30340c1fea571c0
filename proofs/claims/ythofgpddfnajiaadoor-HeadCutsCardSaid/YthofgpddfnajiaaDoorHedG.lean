/- A field that a line begins. -/
import Derived.Test.YthofgpddfnajiaaDoorHedF
namespace Go.Proofs.YthofgpddfnajiaaDoor.hd
open Go.ChangeShapes Go.WideShapes Go.ChangeAt Go.RowKit
open Go.Proofs.YthofgpddfnajiaaDoor.codec (Bytes vals)
set_option linter.unusedVariables false
set_option maxRecDepth 100000
set_option linter.unusedSimpArgs false

theorem cell_at {w : World} {b : Nat} {cs : Array Value} {t : TypeId} {m : Nat × Nat} (h : w.heap[b]? = some (.cells cs t m)) (i : Nat) (v : Value) (hv : cs[i]? = some v) : w.cell? ⟨b, i, none⟩ = some v := by
  simp [World.cell?, h, hv]
theorem fieldSize (cs : Array Value) (h : cs.size = 2) : (Tryd.prog.info? 40).map (·.size) = some cs.size := by
  rw [h]
  kernel_rfl
/-- What then lies in a part that is stored whole. -/
theorem two {w : World} {g : Nat} {t : TypeId} {cs : Array Value} (h : w.heap[g]? = some (.cells cs t (0, 0))) (hs : cs.size = 2) (v0 v1 : Value) :
    ((w.setCell ⟨g, 0, none⟩ v0).setCell ⟨g, 1, none⟩ v1).heap[g]? = some (.cells #[v0, v1] t (0, 0)) ∧
    (∀ k, k ≠ g → ((w.setCell ⟨g, 0, none⟩ v0).setCell ⟨g, 1, none⟩ v1).heap[k]? = w.heap[k]?) ∧
    ∀ (B : Nat) (a : World), Below B a w → B ≤ g → Below B a ((w.setCell ⟨g, 0, none⟩ v0).setCell ⟨g, 1, none⟩ v1) := by
  refine ⟨?_, fun k hk => by rw [heap_setCell_other _ _ _ _ hk, heap_setCell_other _ _ _ _ hk], fun B a hb hg => (hb.setCell (p := ⟨g, 0, none⟩) hg _).setCell (p := ⟨g, 1, none⟩) hg _⟩
  rw [heap_setCell_same _ g 1 _ t _ (heap_setCell_same _ g 0 _ t _ h)]
  obtain ⟨l⟩ := cs
  have hl : l.length = 2 := hs
  match l, hl with
  | [a0, a1], _ => rfl
theorem results_cell_tmp {P : Program} {fn : Func} {p q : Tmp} {ty : TypeId} (h : fn.results = #[.cell p ty, .tmp q]) (tmps : Array Value) (w : World) (g : Nat) (t : TypeId) (cs : Array Value) (fr : Nat × Nat) (d : TypeDesc)
    (hp : tmps.getD p undef = .pointer (some ⟨g, 0, none⟩)) (hg : w.heap[g]? = some (.cells cs t fr))
    (hu : P.underlying ty = some d) (hd : (match d with | .struct _ | .array _ _ => true | _ => false) = true) (hi : (P.info? ty).map (·.size) = some cs.size) :
    (results fn tmps).run P w = .ok (.tuple #[.agg cs, tmps.getD q undef]) w := by
  have hp' : tmps[p]?.getD undef = .pointer (some ⟨g, 0, none⟩) := by simpa using hp
  simp [results, h, hp', asAddr, run_loadVar_row w g t ty cs fr d hg hu hd hi]
/-- The field that a line begins. -/
def parseL (l : List Nat) : Option (List Nat × List Nat) := if ix 58 l < l.length ∧ nameB (l.take (ix 58 l)) = true then some (l.take (ix 58 l), l.drop (ix 58 l + 1)) else none
def ParseAns (w : World) (l : List Nat) (e : Ending) (w' : World) : Prop :=
  ∃ A1 n1 c1 A2 n2 c2, e = .returned (.tuple #[.agg #[.slice A1 n1 c1, .slice A2 n2 c2], .bool (parseL l).isSome]) ∧ (∀ a b, parseL l = some (a, b) → Sl w A1 n1 c1 a ∧ Sl w A2 n2 c2 b) ∧ Below w.heap.size w w'
set_option maxHeartbeats 1000000 in
theorem parse_any (w : World) (A : Option Addr) (n c : Nat) (l : List Nat) (hS : Sl w A n c l) (hn : n ≤ 1000000) (hr : Room w) :
    Calls Tryd.prog 13 #[.slice A n c] w fun e w' => ParseAns w l e w' := by
  obtain ⟨W0, hW0⟩ : ∃ W0, W0 = w.alloc (.cells #[.slice none 0 0, .slice none 0 0] 40) := ⟨_, rfl⟩
  have hb0 : Below w.heap.size w W0 := by rw [hW0]; exact (Below.refl _ _).alloc (Nat.le_refl _) _
  have hx0 : W0.heap[w.heap.size]? = some (.cells #[.slice none 0 0, .slice none 0 0] 40 (0, 0)) := by rw [hW0]; exact heap_alloc_new _ _
  obtain ⟨W1, hW1⟩ : ∃ W1, W1 = W0.alloc (.cells #[.int .u8 58] 5) := ⟨_, rfl⟩
  have hb01 : Below W0.heap.size W0 W1 := by rw [hW1]; exact (Below.refl _ _).alloc (Nat.le_refl _) _
  have hb1 : Below w.heap.size w W1 := hb0.trans (hb01.mono hb0.size)
  obtain ⟨g, hg⟩ : ∃ g, g = w.heap.size + 1 := ⟨_, rfl⟩
  have hc0 : W1.cell? ⟨g, 0, none⟩ = some (.int .u8 ((58 : Nat) : Nat)) := by
    rw [hW1, hg, show w.heap.size + 1 = W0.heap.size by rw [hW0]; simp]
    simp
  have hx1 : W1.heap[w.heap.size]? = some (.cells #[.slice none 0 0, .slice none 0 0] 40 (0, 0)) := (hb01.block _ (Array.getElem?_eq_some_iff.1 hx0).1).trans hx0
  have HC := Lib.hid (cut_any W1 A n c g 1 58 l (hS.below hb1) (by omega) (by decide) hc0 (hr.below hb1))
  have HB := Lib.hid hb1
  have HX := Lib.hid hx1
  have HS := Lib.hid hS
  have HW0 := Lib.hid hW0
  have HW1 := Lib.hid hW1
  have HG := Lib.hid hg
  have HN := Lib.hid hn
  clear hb0 hx0 hb01 hb1 hc0 hx1 hS hr hW0 hW1 hg hn
  go_enter Tryd.func13, Tryd.ntmps13
  go_wp2_with fail
  rw [← HW0.out, ← HG.out, ← HW1.out]
  refine HC.out.mono ?_
  rintro e w2 ⟨rfl, hb⟩
  have HB2 := Lib.hid (HB.out.trans (hb.mono HB.out.size))
  have hx2 : w2.heap[w.heap.size]? = some (.cells #[.slice none 0 0, .slice none 0 0] 40 (0, 0)) := (hb.block _ (Array.getElem?_eq_some_iff.1 HX.out).1).trans HX.out
  have HX2 := Lib.hid hx2
  obtain ⟨k, hk⟩ : ∃ k, k = ix 58 l := ⟨_, rfl⟩
  rw [← hk]
  have hkn : k ≤ n := by have := ix_le 58 l; rw [HS.out.1.1] at this; omega
  have HP := Lib.hid (show parseL l = if k < n ∧ nameB (l.take k) = true then some (l.take k, l.drop (k + 1)) else none by unfold parseL; rw [HS.out.1.1, ← hk])
  have c0 := cell_at hx2 0 _ rfl
  have c1 := cell_at hx2 1 _ rfl
  have z0 := frozen_of_row _ _ 0 _ _ hx2
  have z1 := frozen_of_row _ _ 1 _ _ hx2
  have HNm := Lib.hid (isName_any w2 A k c (l.take k) ((HS.out.below HB2.out).part k hkn).1 (by have := HN.out; omega))
  clear hb hx2 hk hkn
  by_cases hf : k < n
  · have hR : restV A n c k = .slice (if c = k + 1 then A else A.map fun x => x.add (k + 1)) (n - (k + 1)) (c - (k + 1)) := if_pos hf
    have HR2 := Lib.hid (HS.out.rest (k + 1) (by omega))
    have HK := Lib.hid hf
    rw [hR]
    rw [decide_eq_true hf]
    generalize (if c = k + 1 then A else A.map fun x => x.add (k + 1)) = R at *
    obtain ⟨m, hm⟩ : ∃ m, m = n - (k + 1) := ⟨_, rfl⟩
    obtain ⟨d, hd⟩ : ∃ d, d = c - (k + 1) := ⟨_, rfl⟩
    rw [← hm, ← hd] at HR2 ⊢
    obtain ⟨f, hff⟩ : ∃ f, f = nameB (l.take k) := ⟨_, rfl⟩
    rw [← hff] at HNm HP
    clear hf hR hm hd hff
    cases f with
    | false =>
      obtain ⟨k1, k2, k3⟩ := two HX2.out rfl (.slice none 0 0) (.slice none 0 0)
      have HK1 := Lib.hid k1
      have HE := Lib.hid (show ParseAns w l (.returned (.tuple #[.agg #[.slice none 0 0, .slice none 0 0], .bool false])) _ from ⟨none, 0, 0, none, 0, 0, by rw [HP.out, if_neg (by simp)]; rfl, (fun a b h => by rw [HP.out, if_neg (by simp)] at h; cases h), k3 _ _ HB2.out (Nat.le_refl _)⟩)
      clear k1 k2 k3
      go_wp2_with (go_at_call 19; refine HNm.out.mono ?_; rintro e w3 ⟨rfl, hw⟩; replace hw := hw.symm; subst hw)
      exact bodyPost_ret (results_cell_tmp Tryd.results13 _ _ w.heap.size _ _ _ _ rfl HK1.out Tryd.underlying40 rfl (fieldSize _ rfl)) rfl HE.out
    | true =>
      obtain ⟨k1, k2, k3⟩ := two HX2.out rfl (.slice A k c) (.slice R m d)
      have HK1 := Lib.hid k1
      have HE := Lib.hid (show ParseAns w l (.returned (.tuple #[.agg #[.slice A k c, .slice R m d], .bool true])) _ from ⟨A, k, c, R, m, d, by rw [HP.out, if_pos ⟨HK.out, rfl⟩]; rfl, fun a b h => by
        rw [HP.out, if_pos ⟨HK.out, rfl⟩] at h
        cases h
        exact ⟨HS.out.part k (Nat.le_of_lt HK.out), HR2.out⟩, k3 _ _ HB2.out (Nat.le_refl _)⟩)
      clear k1 k2 k3
      go_wp2_with (go_at_call 19; refine HNm.out.mono ?_; rintro e w3 ⟨rfl, hw⟩; replace hw := hw.symm; subst hw)
      exact bodyPost_ret (results_cell_tmp Tryd.results13 _ _ w.heap.size _ _ _ _ rfl HK1.out Tryd.underlying40 rfl (fieldSize _ rfl)) rfl HE.out
  · have hR : restV A n c k = .slice none 0 0 := if_neg hf
    rw [hR, decide_eq_false hf]
    obtain ⟨k1, k2, k3⟩ := two HX2.out rfl (.slice none 0 0) (.slice none 0 0)
    have HK1 := Lib.hid k1
    have HE := Lib.hid (show ParseAns w l (.returned (.tuple #[.agg #[.slice none 0 0, .slice none 0 0], .bool false])) _ from ⟨none, 0, 0, none, 0, 0, by rw [HP.out, if_neg (fun h => hf h.1)]; rfl, (fun a b h => by rw [HP.out, if_neg (fun h => hf h.1)] at h; cases h), k3 _ _ HB2.out (Nat.le_refl _)⟩)
    clear k1 k2 k3 hf hR
    go_wp2_with fail
    exact bodyPost_ret (results_cell_tmp Tryd.results13 _ _ w.heap.size _ _ _ _ rfl HK1.out Tryd.underlying40 rfl (fieldSize _ rfl)) rfl HE.out
end Go.Proofs.YthofgpddfnajiaaDoor.hd
