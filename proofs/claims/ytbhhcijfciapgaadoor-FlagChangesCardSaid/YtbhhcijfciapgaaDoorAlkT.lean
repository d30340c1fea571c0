/- The listed tables of the letters' other cases. -/
import Derived.Test.YtbhhcijfciapgaaDoorRows
import Derived.Test.YtbhhcijfciapgaaDoorAlkA
import Derived.Lib.LaidTab
import Derived.LaidSub
import Derived.MakeChecks
import Derived.Deep.SlicePairs
namespace Go.Proofs.YtbhhcijfciapgaaDoor.alk
open Go.ChangeShapes Go.WideShapes Go.ChangeAt Go.RowKit
set_option linter.unusedVariables false
set_option linter.unusedSimpArgs false
set_option maxRecDepth 100000

def asciiL : List Int := [0, 1, 2, 3, 4, 5, 6, 7, 8, 9, 10, 11, 12, 13, 14, 15, 16, 17, 18, 19, 20, 21, 22, 23, 24, 25, 26, 27, 28, 29, 30, 31, 32, 33, 34, 35, 36, 37, 38, 39, 40, 41, 42, 43, 44, 45, 46, 47, 48, 49, 50, 51, 52, 53, 54, 55, 56, 57, 58, 59, 60, 61, 62, 63, 64, 97, 98, 99, 100, 101, 102, 103, 104, 105, 106, 107, 108, 109, 110, 111, 112, 113, 114, 115, 116, 117, 118, 119, 120, 121, 122, 91, 92, 93, 94, 95, 96, 65, 66, 67, 68, 69, 70, 71, 72, 73, 74, 8490, 76, 77, 78, 79, 80, 81, 82, 383, 84, 85, 86, 87, 88, 89, 90, 123, 124, 125, 126, 127]
def orbitL : List (DataW Unit) := [.agg [.lit (.int .u16 75), .lit (.int .u16 107)], .agg [.lit (.int .u16 83), .lit (.int .u16 115)], .agg [.lit (.int .u16 107), .lit (.int .u16 8490)], .agg [.lit (.int .u16 115), .lit (.int .u16 383)], .agg [.lit (.int .u16 181), .lit (.int .u16 924)], .agg [.lit (.int .u16 197), .lit (.int .u16 229)], .agg [.lit (.int .u16 223), .lit (.int .u16 7838)], .agg [.lit (.int .u16 229), .lit (.int .u16 8491)], .agg [.lit (.int .u16 304), .lit (.int .u16 304)], .agg [.lit (.int .u16 305), .lit (.int .u16 305)], .agg [.lit (.int .u16 383), .lit (.int .u16 83)], .agg [.lit (.int .u16 452), .lit (.int .u16 453)], .agg [.lit (.int .u16 453), .lit (.int .u16 454)], .agg [.lit (.int .u16 454), .lit (.int .u16 452)], .agg [.lit (.int .u16 455), .lit (.int .u16 456)], .agg [.lit (.int .u16 456), .lit (.int .u16 457)], .agg [.lit (.int .u16 457), .lit (.int .u16 455)], .agg [.lit (.int .u16 458), .lit (.int .u16 459)], .agg [.lit (.int .u16 459), .lit (.int .u16 460)], .agg [.lit (.int .u16 460), .lit (.int .u16 458)], .agg [.lit (.int .u16 497), .lit (.int .u16 498)], .agg [.lit (.int .u16 498), .lit (.int .u16 499)], .agg [.lit (.int .u16 499), .lit (.int .u16 497)], .agg [.lit (.int .u16 837), .lit (.int .u16 921)], .agg [.lit (.int .u16 912), .lit (.int .u16 8147)], .agg [.lit (.int .u16 914), .lit (.int .u16 946)], .agg [.lit (.int .u16 917), .lit (.int .u16 949)], .agg [.lit (.int .u16 920), .lit (.int .u16 952)], .agg [.lit (.int .u16 921), .lit (.int .u16 953)], .agg [.lit (.int .u16 922), .lit (.int .u16 954)], .agg [.lit (.int .u16 924), .lit (.int .u16 956)], .agg [.lit (.int .u16 928), .lit (.int .u16 960)], .agg [.lit (.int .u16 929), .lit (.int .u16 961)], .agg [.lit (.int .u16 931), .lit (.int .u16 962)], .agg [.lit (.int .u16 934), .lit (.int .u16 966)], .agg [.lit (.int .u16 937), .lit (.int .u16 969)], .agg [.lit (.int .u16 944), .lit (.int .u16 8163)], .agg [.lit (.int .u16 946), .lit (.int .u16 976)], .agg [.lit (.int .u16 949), .lit (.int .u16 1013)], .agg [.lit (.int .u16 952), .lit (.int .u16 977)], .agg [.lit (.int .u16 953), .lit (.int .u16 8126)], .agg [.lit (.int .u16 954), .lit (.int .u16 1008)], .agg [.lit (.int .u16 956), .lit (.int .u16 181)], .agg [.lit (.int .u16 960), .lit (.int .u16 982)], .agg [.lit (.int .u16 961), .lit (.int .u16 1009)], .agg [.lit (.int .u16 962), .lit (.int .u16 963)], .agg [.lit (.int .u16 963), .lit (.int .u16 931)], .agg [.lit (.int .u16 966), .lit (.int .u16 981)], .agg [.lit (.int .u16 969), .lit (.int .u16 8486)], .agg [.lit (.int .u16 976), .lit (.int .u16 914)], .agg [.lit (.int .u16 977), .lit (.int .u16 1012)], .agg [.lit (.int .u16 981), .lit (.int .u16 934)], .agg [.lit (.int .u16 982), .lit (.int .u16 928)], .agg [.lit (.int .u16 1008), .lit (.int .u16 922)], .agg [.lit (.int .u16 1009), .lit (.int .u16 929)], .agg [.lit (.int .u16 1012), .lit (.int .u16 920)], .agg [.lit (.int .u16 1013), .lit (.int .u16 917)], .agg [.lit (.int .u16 1042), .lit (.int .u16 1074)], .agg [.lit (.int .u16 1044), .lit (.int .u16 1076)], .agg [.lit (.int .u16 1054), .lit (.int .u16 1086)], .agg [.lit (.int .u16 1057), .lit (.int .u16 1089)], .agg [.lit (.int .u16 1058), .lit (.int .u16 1090)], .agg [.lit (.int .u16 1066), .lit (.int .u16 1098)], .agg [.lit (.int .u16 1074), .lit (.int .u16 7296)], .agg [.lit (.int .u16 1076), .lit (.int .u16 7297)], .agg [.lit (.int .u16 1086), .lit (.int .u16 7298)], .agg [.lit (.int .u16 1089), .lit (.int .u16 7299)], .agg [.lit (.int .u16 1090), .lit (.int .u16 7300)], .agg [.lit (.int .u16 1098), .lit (.int .u16 7302)], .agg [.lit (.int .u16 1122), .lit (.int .u16 1123)], .agg [.lit (.int .u16 1123), .lit (.int .u16 7303)], .agg [.lit (.int .u16 7296), .lit (.int .u16 1042)], .agg [.lit (.int .u16 7297), .lit (.int .u16 1044)], .agg [.lit (.int .u16 7298), .lit (.int .u16 1054)], .agg [.lit (.int .u16 7299), .lit (.int .u16 1057)], .agg [.lit (.int .u16 7300), .lit (.int .u16 7301)], .agg [.lit (.int .u16 7301), .lit (.int .u16 1058)], .agg [.lit (.int .u16 7302), .lit (.int .u16 1066)], .agg [.lit (.int .u16 7303), .lit (.int .u16 1122)], .agg [.lit (.int .u16 7304), .lit (.int .u16 42570)], .agg [.lit (.int .u16 7776), .lit (.int .u16 7777)], .agg [.lit (.int .u16 7777), .lit (.int .u16 7835)], .agg [.lit (.int .u16 7835), .lit (.int .u16 7776)], .agg [.lit (.int .u16 7838), .lit (.int .u16 223)], .agg [.lit (.int .u16 8126), .lit (.int .u16 837)], .agg [.lit (.int .u16 8147), .lit (.int .u16 912)], .agg [.lit (.int .u16 8163), .lit (.int .u16 944)], .agg [.lit (.int .u16 8486), .lit (.int .u16 937)], .agg [.lit (.int .u16 8490), .lit (.int .u16 75)], .agg [.lit (.int .u16 8491), .lit (.int .u16 197)], .agg [.lit (.int .u16 42570), .lit (.int .u16 42571)], .agg [.lit (.int .u16 42571), .lit (.int .u16 7304)], .agg [.lit (.int .u16 64261), .lit (.int .u16 64262)], .agg [.lit (.int .u16 64262), .lit (.int .u16 64261)]]
/-- The letters' other cases, and what the search for the long s meets. -/
structure Fold (w : World) : Prop where
  asc : ∀ c, c < 128 → w.cell? ⟨1, c, none⟩ = some (.int .u16 (asciiL.getD c 0))
  orb : ∃ R o cap, w.cell? ⟨2, 0, none⟩ = some (.slice (some ⟨R, o, none⟩) 94 cap) ∧ R < w.heap.size ∧
    w.cell? ⟨R, o + 47 * 2, none⟩ = some (.int .u16 966) ∧
    w.cell? ⟨R, o + 23 * 2, none⟩ = some (.int .u16 837) ∧
    w.cell? ⟨R, o + 11 * 2, none⟩ = some (.int .u16 452) ∧
    w.cell? ⟨R, o + 5 * 2, none⟩ = some (.int .u16 197) ∧
    w.cell? ⟨R, o + 8 * 2, none⟩ = some (.int .u16 304) ∧
    w.cell? ⟨R, o + 10 * 2, none⟩ = some (.int .u16 383) ∧
    w.cell? ⟨R, o + 9 * 2, none⟩ = some (.int .u16 305) ∧
    w.cell? ⟨R, o + 10 * 2 + 1, none⟩ = some (.int .u16 83)
theorem Fold.below {w w' : World} (h : Fold w) (hb : Below w.heap.size w w') : Fold w' := by
  obtain ⟨ha, R, o, cap, hc, hR, h47, h23, h11, h5, h8, h10, h9, ht⟩ := h
  have e : ∀ i, w'.cell? ⟨R, i, none⟩ = w.cell? ⟨R, i, none⟩ := fun i => hb.cell (p := ⟨R, i, none⟩) hR
  refine ⟨fun c hc => ?_, R, o, cap, ?_, Nat.lt_of_lt_of_le hR hb.size, (e _).trans h47, (e _).trans h23, (e _).trans h11, (e _).trans h5, (e _).trans h8, (e _).trans h10, (e _).trans h9, (e _).trans ht⟩
  · have := ha c hc
    rw [hb.cell (p := ⟨_, c, none⟩) (block_lt_of_cell this)]
    exact this
  · rw [hb.cell (p := ⟨_, 0, none⟩) (block_lt_of_cell hc)]
    exact hc
theorem asc_of {w : World} (h : laidMet Tryd.prog [("unicode.asciiFold", Rows.laid_unicode_asciiFold)] w) : ∀ c, c < 128 → w.cell? ⟨1, c, none⟩ = some (.int .u16 (asciiL.getD c 0)) := by
  have e : (Rows.laid_unicode_asciiFold : DataW Unit) = Lib.tabData .u16 asciiL := by kernel_rfl
  rw [e] at h
  have ht := Lib.tabIs_of_head (g := 1) (t := 53) (e := 52) (n := 128) (by kernel_rfl) (by kernel_rfl) Tryd.underlying53 Tryd.underlying52 (by kernel_rfl) (by kernel_rfl) h
  exact fun c hc => ht.cell (by kernel_rfl) c (by rw [show asciiL.length = 128 by kernel_rfl]; exact hc)
theorem orb_of {w : World} (h : laidMet Tryd.prog [("unicode.caseOrbit", Rows.laid_unicode_caseOrbit)] w) : ∃ R o cap, w.cell? ⟨2, 0, none⟩ = some (.slice (some ⟨R, o, none⟩) 94 cap) ∧ R < w.heap.size ∧
    w.cell? ⟨R, o + 47 * 2, none⟩ = some (.int .u16 966) ∧
    w.cell? ⟨R, o + 23 * 2, none⟩ = some (.int .u16 837) ∧
    w.cell? ⟨R, o + 11 * 2, none⟩ = some (.int .u16 452) ∧
    w.cell? ⟨R, o + 5 * 2, none⟩ = some (.int .u16 197) ∧
    w.cell? ⟨R, o + 8 * 2, none⟩ = some (.int .u16 304) ∧
    w.cell? ⟨R, o + 10 * 2, none⟩ = some (.int .u16 383) ∧
    w.cell? ⟨R, o + 9 * 2, none⟩ = some (.int .u16 305) ∧
    w.cell? ⟨R, o + 10 * 2 + 1, none⟩ = some (.int .u16 83) := by
  obtain ⟨ps, ⟨g, t, cs, fuel, p, q, hg, ht, hvar, hd, -, -⟩, -, -⟩ := h
  obtain rfl := Option.some.inj ((show Tryd.prog.globalNamed "unicode.caseOrbit" = some 2 by kernel_rfl).symm.trans hg)
  obtain rfl := Option.some.inj ((show (Tryd.prog.globals[2]?).map (·.type) = some 54 by kernel_rfl).symm.trans ht)
  rcases Deep.open_slice_pairs (e := 56) Tryd.underlying54 Tryd.underlying56 (by kernel_rfl) rfl rfl (by kernel_rfl) (by kernel_rfl) hd with ⟨-, hx⟩ | ⟨a, len, cap, m, n, V0, V1, D0, D1, P0, P1, hcs, -, hl, -, hm, hx, hel⟩
  · cases hx
  · have hd1 : (Rows.laid_unicode_caseOrbit : DataW Unit) = .slice ((List.range len).map fun i => .agg [D0 i, D1 i]) ((List.range (m - len)).map fun j => .agg [D0 (len + j), D1 (len + j)]) := congrArg Prod.fst hx
    have hd2 : orbitL = (List.range len).map fun i => .agg [D0 i, D1 i] := by
      have : (Rows.laid_unicode_caseOrbit : DataW Unit) = .slice orbitL [] := by kernel_rfl
      rw [this] at hd1
      injection hd1
    have hlen : len = 94 := by
      have := congrArg List.length hd2
      rw [show orbitL.length = 94 by kernel_rfl] at this
      simpa using this.symm
    subst hlen
    have hmm : 94 ≤ m := by rw [hm]; split <;> omega
    obtain ⟨b, o, spot⟩ := a
    have hsp : spot = none := by
      have := (hel 0 (by omega)).1
      simpa [Addr.add] using World.cell?_spot this
    subst hsp
    have ea : ∀ j, ((⟨b, o, none⟩ : Addr).add j) = ⟨b, o + j, none⟩ := by
      intro j
      unfold Addr.add
      split <;> simp_all
    have key : ∀ (i F T : Nat), i < 94 → orbitL[i]? = some (.agg [.lit (.int .u16 F), .lit (.int .u16 T)]) → w.cell? ⟨b, o + i * 2, none⟩ = some (.int .u16 F) ∧ w.cell? ⟨b, o + i * 2 + 1, none⟩ = some (.int .u16 T) := by
      intro i F T hi h
      obtain ⟨h1, h2, h3, h4⟩ := hel i (by omega)
      obtain ⟨z1, e1, e2, -⟩ := DataW.trod_int Tryd.underlying52 h3
      obtain ⟨z2, e3, e4, -⟩ := DataW.trod_int Tryd.underlying52 h4
      rw [hd2] at h
      simp only [List.getElem?_map, List.getElem?_range hi, Option.map_some, Option.some.injEq, DataW.agg.injEq, List.cons.injEq, and_true] at h
      simp only [Prod.mk.injEq] at e2 e4
      rw [h.1] at e2
      rw [h.2] at e4
      have f1 := e2.1
      have f2 := e4.1
      injection f1 with f1
      injection f1 with _ f1
      injection f2 with f2
      injection f2 with _ f2
      simp only [List.cons.injEq, and_true] at e1 e3
      rw [ea, e1, ← f1] at h1
      rw [ea, e3, ← f2, ← Nat.add_assoc] at h2
      exact ⟨h1, h2⟩
    have hc0 : w.cell? ⟨2, 0, none⟩ = some (.slice (some ⟨b, o, none⟩) 94 cap) := by
      have hv := World.var?_cell (show Tryd.prog.globalNamed "unicode.caseOrbit" = some 2 by kernel_rfl) hvar 0
      rw [hv]
      have : cs[0]? = cs.toList[0]? := by simp
      rw [this, hcs]; rfl
    have hk := key 0 75 107 (by omega) (by kernel_rfl)
    exact ⟨b, o, cap, hc0, block_lt_of_cell hk.1, (key 47 966 981 (by omega) (by kernel_rfl)).1, (key 23 837 921 (by omega) (by kernel_rfl)).1, (key 11 452 453 (by omega) (by kernel_rfl)).1, (key 5 197 229 (by omega) (by kernel_rfl)).1, (key 8 304 304 (by omega) (by kernel_rfl)).1, (key 10 383 83 (by omega) (by kernel_rfl)).1, (key 9 305 305 (by omega) (by kernel_rfl)).1, (key 10 383 83 (by omega) (by kernel_rfl)).2⟩
end Go.Proofs.YtbhhcijfciapgaaDoor.alk
