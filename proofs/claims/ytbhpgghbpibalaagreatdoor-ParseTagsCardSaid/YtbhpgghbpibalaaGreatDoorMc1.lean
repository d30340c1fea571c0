/- Texts in any letters: plain mathematics. -/
import Derived.Lib.Fold
import Derived.Lib.Strings
import Derived.Test.YtbhpgghbpibalaaGreatDoorRows
import Derived.WalkKit
import Derived.ProofKit
import Derived.OpenShut
import Derived.ShutString
import Derived.ChangeOld
import Derived.Below
import Derived.Outline
import Derived.WalkSpells
import Derived.Lib.Hide
import Derived.Deep.QuietTactic
import Derived.BigQuiet
import Derived.Deep.OwnRows
import Derived.Deep.WholeRow
import Derived.StillTailTactics
import Derived.Deep.RegionLaw
import Derived.Lib.LaidTab
import Derived.LaidSub
import Derived.MakeChecks
import Derived.Deep.SlicePairs
import Derived.Test.YtbhpgghbpibalaaGreatDoorMs
import Derived.Lib.QuoteLoop
import Derived.Laws.RangeAny
import Derived.WalkMore
import Derived.ScopeJumps
import Derived.Deep.LoopGhost
namespace Go.Proofs.YtbhpgghbpibalaaGreatDoor.alk
open Go.Lib
set_option linter.unusedVariables false
set_option linter.unusedSimpArgs false

/-- Byte i of s. -/
def byt (s : ByteArray) (i : Nat) : Nat := (s.data[i]!).toNat
theorem byt_at (s : ByteArray) (i : Nat) (h : i < s.size) : (s[i]'h).toNat = byt s i := by
  unfold byt
  rw [getElem!_pos s.data i (by simpa using h)]; rfl
theorem byt_lt (s : ByteArray) (i : Nat) : byt s i < 256 := UInt8.toNat_lt _
theorem byt_of (l : List UInt8) (i : Nat) : byt ⟨l.toArray⟩ i = (l.getD i 0).toNat := by
  unfold byt
  by_cases h : i < l.length
  · rw [getElem!_pos _ i (by simpa using h), List.getD, List.getElem?_eq_getElem h]
    simp
  · rw [getElem!_neg _ i (by simpa using h), List.getD, List.getElem?_eq_none (by omega)]
    rfl
theorem byt_list (s : ByteArray) (i : Nat) (h : i < s.data.toList.length) : (s.data.toList[i]).toNat = byt s i := by
  unfold byt
  rw [getElem!_pos s.data i (by simpa using h)]
  simp

def low (c : Nat) : Nat := if 65 ≤ c ∧ c ≤ 90 then c + 32 else c
def alike (s t : ByteArray) : Bool := decide (s.size = t.size) && (List.range s.size).all fun i => low (byt s i) == low (byt t i)
theorem alike_false (s t : ByteArray) (i : Nat) (h : i < s.size) (hne : (low (byt s i) == low (byt t i)) = false) : alike s t = false := by
  unfold alike
  have : ((List.range s.size).all fun i => low (byt s i) == low (byt t i)) = false := by
    rw [List.all_eq_false]
    exact ⟨i, List.mem_range.2 h, by simp [hne]⟩
  rw [this, Bool.and_false]
theorem alike_true (s t : ByteArray) (h : s.size = t.size) (he : ∀ i, i < s.size → (low (byt s i) == low (byt t i)) = true) : alike s t = true := by
  unfold alike
  simp only [h, decide_true, Bool.true_and, List.all_eq_true, List.mem_range]
  intro i hi
  exact he i (by omega)
theorem alike_size (s t : ByteArray) (h : s.size ≠ t.size) : alike s t = false := by
  unfold alike
  simp [h]
theorem alike_iff (s t : ByteArray) : alike s t = true ↔ s.size = t.size ∧ ∀ i, i < s.size → low (byt s i) = low (byt t i) := by
  unfold alike
  simp only [Bool.and_eq_true, decide_eq_true_eq, List.all_eq_true, List.mem_range, beq_iff_eq]
/-- Two that are like one are like each other. -/
theorem alike_both {s t u : ByteArray} (h : alike s t = true) (k : alike s u = true) : alike t u = true := by
  rw [alike_iff] at *
  exact ⟨h.1.symm.trans k.1, fun i hi => (h.2 i (by omega)).symm.trans (k.2 i (by omega))⟩

theorem fold_low (x y : UInt8) : foldEq x y = (low x.toNat == low y.toNat) := by
  have hx := UInt8.toNat_lt x
  have hy := UInt8.toNat_lt y
  rw [Bool.eq_iff_iff]
  unfold foldEq low
  simp only [decide_eq_true_eq, beq_iff_eq]
  split <;> split <;> omega
theorem equalFold_map : ∀ (s t : List UInt8), equalFold s t = (s.map (fun c => low c.toNat) == t.map (fun c => low c.toNat))
  | [], [] => rfl
  | [], _ :: _ => rfl
  | _ :: _, [] => rfl
  | x :: s, y :: t => by
    rw [equalFold, equalFold_map s t, fold_low]
    simp
theorem byt_extract (s : ByteArray) (a b i : Nat) (h : a + i < b) (hb : b ≤ s.size) : byt (s.extract a b) i = byt s (a + i) := by
  have h1 : i < (s.extract a b).size := by rw [ByteArray.size_extract]; omega
  rw [← byt_at _ i h1, ← byt_at s (a + i) (by omega), ByteArray.getElem_extract]
theorem alike_fold (s t : ByteArray) (h : s.size = t.size) : alike s t = equalFold s.data.toList t.data.toList := by
  rw [equalFold_map, Bool.eq_iff_iff, alike_iff, beq_iff_eq]
  have hs : s.data.toList.length = s.size := (Lib.size_eq s).symm
  have ht : t.data.toList.length = t.size := (Lib.size_eq t).symm
  constructor
  · rintro ⟨-, hh⟩
    apply List.ext_getElem
    · simp only [List.length_map]; omega
    · intro i h1 h2
      simp only [List.length_map] at h1 h2
      rw [List.getElem_map, List.getElem_map, byt_list s i h1, byt_list t i h2]
      exact hh i (by omega)
  · intro hh
    refine ⟨h, fun i hi => ?_⟩
    have h1 : i < s.data.toList.length := by omega
    have h2 : i < t.data.toList.length := by omega
    have e := congrArg (fun l => l[i]?) hh
    simp only [List.getElem?_map, List.getElem?_eq_getElem h1, List.getElem?_eq_getElem h2, Option.map_some, Option.some.injEq] at e
    rw [byt_list s i h1, byt_list t i h2] at e
    exact e
theorem low_high (x y : Nat) (hx : 128 ≤ x) (hy : y < 128) : low y ≠ low x := by
  unfold low
  split <;> split <;> omega
end Go.Proofs.YtbhpgghbpibalaaGreatDoor.alk
namespace Go.Proofs.YtbhpgghbpibalaaGreatDoor.alk
open Go.ChangeShapes Go.WideShapes Go.ChangeAt Go.RowKit
set_option linter.unusedVariables false
set_option linter.unusedSimpArgs false

/-- The world has drawn, and nothing else. -/
def Drew (w w' : World) : Prop := ∃ n, w' = w.drewN n
theorem Drew.refl (w : World) : Drew w w := ⟨0, rfl⟩
theorem Drew.drewN {w w' : World} (h : Drew w w') (q : Nat) : Drew w (w'.drewN q) := by
  obtain ⟨n, rfl⟩ := h
  exact ⟨n + q, by rw [World.drewN_drewN]⟩
theorem Drew.below {w w' : World} (h : Drew w w') (B : Nat) : Below B w w' := by
  obtain ⟨n, rfl⟩ := h
  exact ⟨rfl, rfl, rfl, Nat.le_refl _, fun _ _ => rfl⟩

end Go.Proofs.YtbhpgghbpibalaaGreatDoor.alk
namespace Go.Proofs.YtbhpgghbpibalaaGreatDoor.alk
open Go.ChangeShapes Go.WideShapes Go.ChangeAt Go.RowKit
set_option linter.unusedVariables false
set_option linter.unusedSimpArgs false
set_option maxRecDepth 100000

def asciiL : List Int := [0, 1, 2, 3, 4, 5, 6, 7, 8, 9, 10, 11, 12, 13, 14, 15, 16, 17, 18, 19, 20, 21, 22, 23, 24, 25, 26, 27, 28, 29, 30, 31, 32, 33, 34, 35, 36, 37, 38, 39, 40, 41, 42, 43, 44, 45, 46, 47, 48, 49, 50, 51, 52, 53, 54, 55, 56, 57, 58, 59, 60, 61, 62, 63, 64, 97, 98, 99, 100, 101, 102, 103, 104, 105, 106, 107, 108, 109, 110, 111, 112, 113, 114, 115, 116, 117, 118, 119, 120, 121, 122, 91, 92, 93, 94, 95, 96, 65, 66, 67, 68, 69, 70, 71, 72, 73, 74, 8490, 76, 77, 78, 79, 80, 81, 82, 383, 84, 85, 86, 87, 88, 89, 90, 123, 124, 125, 126, 127]
def orbitL : List (DataW Unit) := [.agg [.lit (.int .u16 75), .lit (.int .u16 107)], .agg [.lit (.int .u16 83), .lit (.int .u16 115)], .agg [.lit (.int .u16 107), .lit (.int .u16 8490)], .agg [.lit (.int .u16 115), .lit (.int .u16 383)], .agg [.lit (.int .u16 181), .lit (.int .u16 924)], .agg [.lit (.int .u16 197), .lit (.int .u16 229)], .agg [.lit (.int .u16 223), .lit (.int .u16 7838)], .agg [.lit (.int .u16 229), .lit (.int .u16 8491)], .agg [.lit (.int .u16 304), .lit (.int .u16 304)], .agg [.lit (.int .u16 305), .lit (.int .u16 305)], .agg [.lit (.int .u16 383), .lit (.int .u16 83)], .agg [.lit (.int .u16 452), .lit (.int .u16 453)], .agg [.lit (.int .u16 453), .lit (.int .u16 454)], .agg [.lit (.int .u16 454), .lit (.int .u16 452)], .agg [.lit (.int .u16 455), .lit (.int .u16 456)], .agg [.lit (.int .u16 456), .lit (.int .u16 457)], .agg [.lit (.int .u16 457), .lit (.int .u16 455)], .agg [.lit (.int .u16 458), .lit (.int .u16 459)], .agg [.lit (.int .u16 459), .lit (.int .u16 460)], .agg [.lit (.int .u16 460), .lit (.int .u16 458)], .agg [.lit (.int .u16 497), .lit (.int .u16 498)], .agg [.lit (.int .u16 498), .lit (.int .u16 499)], .agg [.lit (.int .u16 499), .lit (.int .u16 497)], .agg [.lit (.int .u16 837), .lit (.int .u16 921)], .agg [.lit (.int .u16 912), .lit (.int .u16 8147)], .agg [.lit (.int .u16 914), .lit (.int .u16 946)], .agg [.lit (.int .u16 917), .lit (.int .u16 949)], .agg [.lit (.int .u16 920), .lit (.int .u16 952)], .agg [.lit (.int .u16 921), .lit (.int .u16 953)], .agg [.lit (.int .u16 922), .lit (.int .u16 954)], .agg [.lit (.int .u16 924), .lit (.int .u16 956)], .agg [.lit (.int .u16 928), .lit (.int .u16 960)], .agg [.lit (.int .u16 929), .lit (.int .u16 961)], .agg [.lit (.int .u16 931), .lit (.int .u16 962)], .agg [.lit (.int .u16 934), .lit (.int .u16 966)], .agg [.lit (.int .u16 937), .lit (.int .u16 969)], .agg [.lit (.int .u16 944), .lit (.int .u16 8163)], .agg [.lit (.int .u16 946), .lit (.int .u16 976)], .agg [.lit (.int .u16 949), .lit (.int .u16 1013)], .agg [.lit (.int .u16 952), .lit (.int .u16 977)], .agg [.lit (.int .u16 953), .lit (.int .u16 8126)], .agg [.lit (.int .u16 954), .lit (.int .u16 1008)], .agg [.lit (.int .u16 956), .lit (.int .u16 181)], .agg [.lit (.int .u16 960), .lit (.int .u16 982)], .agg [.lit (.int .u16 961), .lit (.int .u16 1009)], .agg [.lit (.int .u16 962), .lit (.int .u16 963)], .agg [.lit (.int .u16 963), .lit (.int .u16 931)], .agg [.lit (.int .u16 966), .lit (.int .u16 981)], .agg [.lit (.int .u16 969), .lit (.int .u16 8486)], .agg [.lit (.int .u16 976), .lit (.int .u16 914)], .agg [.lit (.int .u16 977), .lit (.int .u16 1012)], .agg [.lit (.int .u16 981), .lit (.int .u16 934)], .agg [.lit (.int .u16 982), .lit (.int .u16 928)], .agg [.lit (.int .u16 1008), .lit (.int .u16 922)], .agg [.lit (.int .u16 1009), .lit (.int .u16 929)], .agg [.lit (.int .u16 1012), .lit (.int .u16 920)], .agg [.lit (.int .u16 1013), .lit (.int .u16 917)], .agg [.lit (.int .u16 1042), .lit (.int .u16 1074)], .agg [.lit (.int .u16 1044), .lit (.int .u16 1076)], .agg [.lit (.int .u16 1054), .lit (.int .u16 1086)], .agg [.lit (.int .u16 1057), .lit (.int .u16 1089)], .agg [.lit (.int .u16 1058), .lit (.int .u16 1090)], .agg [.lit (.int .u16 1066), .lit (.int .u16 1098)], .agg [.lit (.int .u16 1074), .lit (.int .u16 7296)], .agg [.lit (.int .u16 1076), .lit (.int .u16 7297)], .agg [.lit (.int .u16 1086), .lit (.int .u16 7298)], .agg [.lit (.int .u16 1089), .lit (.int .u16 7299)], .agg [.lit (.int .u16 1090), .lit (.int .u16 7300)], .agg [.lit (.int .u16 1098), .lit (.int .u16 7302)], .agg [.lit (.int .u16 1122), .lit (.int .u16 1123)], .agg [.lit (.int .u16 1123), .lit (.int .u16 7303)], .agg [.lit (.int .u16 7296), .lit (.int .u16 1042)], .agg [.lit (.int .u16 7297), .lit (.int .u16 1044)], .agg [.lit (.int .u16 7298), .lit (.int .u16 1054)], .agg [.lit (.int .u16 7299), .lit (.int .u16 1057)], .agg [.lit (.int .u16 7300), .lit (.int .u16 7301)], .agg [.lit (.int .u16 7301), .lit (.int .u16 1058)], .agg [.lit (.int .u16 7302), .lit (.int .u16 1066)], .agg [.lit (.int .u16 7303), .lit (.int .u16 1122)], .agg [.lit (.int .u16 7304), .lit (.int .u16 42570)], .agg [.lit (.int .u16 7776), .lit (.int .u16 7777)], .agg [.lit (.int .u16 7777), .lit (.int .u16 7835)], .agg [.lit (.int .u16 7835), .lit (.int .u16 7776)], .agg [.lit (.int .u16 7838), .lit (.int .u16 223)], .agg [.lit (.int .u16 8126), .lit (.int .u16 837)], .agg [.lit (.int .u16 8147), .lit (.int .u16 912)], .agg [.lit (.int .u16 8163), .lit (.int .u16 944)], .agg [.lit (.int .u16 8486), .lit (.int .u16 937)], .agg [.lit (.int .u16 8490), .lit (.int .u16 75)], .agg [.lit (.int .u16 8491), .lit (.int .u16 197)], .agg [.lit (.int .u16 42570), .lit (.int .u16 42571)], .agg [.lit (.int .u16 42571), .lit (.int .u16 7304)], .agg [.lit (.int .u16 64261), .lit (.int .u16 64262)], .agg [.lit (.int .u16 64262), .lit (.int .u16 64261)]]
/-- The letters' other cases, and what the search for the long s meets. -/
structure Fold (w : World) : Prop where
  asc : ∀ c, c < 128 → w.cell? ⟨6, c, none⟩ = some (.int .u16 (asciiL.getD c 0))
  orb : ∃ R o cap, w.cell? ⟨7, 0, none⟩ = some (.slice (some ⟨R, o, none⟩) 94 cap) ∧ R < w.heap.size ∧
    w.cell? ⟨R, o + 47 * 2, none⟩ = some (.int .u16 966) ∧
    w.cell? ⟨R, o + 23 * 2, none⟩ = some (.int .u16 837) ∧
    w.cell? ⟨R, o + 11 * 2, none⟩ = some (.int .u16 452) ∧
    w.cell? ⟨R, o + 5 * 2, none⟩ = some (.int .u16 197) ∧
    w.cell? ⟨R, o + 8 * 2, none⟩ = some (.int .u16 304) ∧
    w.cell? ⟨R, o + 10 * 2, none⟩ = some (.int .u16 383) ∧
    w.cell? ⟨R, o + 9 * 2, none⟩ = some (.int .u16 305) ∧
    w.cell? ⟨R, o + 10 * 2 + 1, none⟩ = some (.int .u16 83)
theorem Fold.below {w w' : World} (h : Fold w) (hb : Below w.heap.size w w') : Fold w' := by
  obtain ⟨ha, R, o, cap, hc, hR, h47, h23, h11, h5, h8, h10, h9, ht⟩ := h
  have e : ∀ i, w'.cell? ⟨R, i, none⟩ = w.cell? ⟨R, i, none⟩ := fun i => hb.cell (p := ⟨R, i, none⟩) hR
  refine ⟨fun c hc => ?_, R, o, cap, ?_, Nat.lt_of_lt_of_le hR hb.size, (e _).trans h47, (e _).trans h23, (e _).trans h11, (e _).trans h5, (e _).trans h8, (e _).trans h10, (e _).trans h9, (e _).trans ht⟩
  · have := ha c hc
    rw [hb.cell (p := ⟨_, c, none⟩) (block_lt_of_cell this)]
    exact this
  · rw [hb.cell (p := ⟨_, 0, none⟩) (block_lt_of_cell hc)]
    exact hc
theorem asc_of {w : World} (h : laidMet Tryz.prog [("unicode.asciiFold", Rows.laid_unicode_asciiFold)] w) : ∀ c, c < 128 → w.cell? ⟨6, c, none⟩ = some (.int .u16 (asciiL.getD c 0)) := by
  have e : (Rows.laid_unicode_asciiFold : DataW Unit) = Lib.tabData .u16 asciiL := by kernel_rfl
  rw [e] at h
  have ht := Lib.tabIs_of_head (g := 6) (t := 142) (e := 141) (n := 128) (by kernel_rfl) (by kernel_rfl) Tryz.underlying142 Tryz.underlying141 (by kernel_rfl) (by kernel_rfl) h
  exact fun c hc => ht.cell (by kernel_rfl) c (by rw [show asciiL.length = 128 by kernel_rfl]; exact hc)
theorem orb_of {w : World} (h : laidMet Tryz.prog [("unicode.caseOrbit", Rows.laid_unicode_caseOrbit)] w) : ∃ R o cap, w.cell? ⟨7, 0, none⟩ = some (.slice (some ⟨R, o, none⟩) 94 cap) ∧ R < w.heap.size ∧
    w.cell? ⟨R, o + 47 * 2, none⟩ = some (.int .u16 966) ∧
    w.cell? ⟨R, o + 23 * 2, none⟩ = some (.int .u16 837) ∧
    w.cell? ⟨R, o + 11 * 2, none⟩ = some (.int .u16 452) ∧
    w.cell? ⟨R, o + 5 * 2, none⟩ = some (.int .u16 197) ∧
    w.cell? ⟨R, o + 8 * 2, none⟩ = some (.int .u16 304) ∧
    w.cell? ⟨R, o + 10 * 2, none⟩ = some (.int .u16 383) ∧
    w.cell? ⟨R, o + 9 * 2, none⟩ = some (.int .u16 305) ∧
    w.cell? ⟨R, o + 10 * 2 + 1, none⟩ = some (.int .u16 83) := by
  obtain ⟨ps, ⟨g, t, cs, fuel, p, q, hg, ht, hvar, hd, -, -⟩, -, -⟩ := h
  obtain rfl := Option.some.inj ((show Tryz.prog.globalNamed "unicode.caseOrbit" = some 7 by kernel_rfl).symm.trans hg)
  obtain rfl := Option.some.inj ((show (Tryz.prog.globals[7]?).map (·.type) = some 143 by kernel_rfl).symm.trans ht)
  rcases Deep.open_slice_pairs (e := 145) Tryz.underlying143 Tryz.underlying145 (by kernel_rfl) rfl rfl (by kernel_rfl) (by kernel_rfl) hd with ⟨-, hx⟩ | ⟨a, len, cap, m, n, V0, V1, D0, D1, P0, P1, hcs, -, hl, -, hm, hx, hel⟩
  · cases hx
  · have hd1 : (Rows.laid_unicode_caseOrbit : DataW Unit) = .slice ((List.range len).map fun i => .agg [D0 i, D1 i]) ((List.range (m - len)).map fun j => .agg [D0 (len + j), D1 (len + j)]) := congrArg Prod.fst hx
    have hd2 : orbitL = (List.range len).map fun i => .agg [D0 i, D1 i] := by
      have : (Rows.laid_unicode_caseOrbit : DataW Unit) = .slice orbitL [] := by kernel_rfl
      rw [this] at hd1
      injection hd1
    have hlen : len = 94 := by
      have := congrArg List.length hd2
      rw [show orbitL.length = 94 by kernel_rfl] at this
      simpa using this.symm
    subst hlen
    have hmm : 94 ≤ m := by rw [hm]; split <;> omega
    obtain ⟨b, o, spot⟩ := a
    have hsp : spot = none := by
      have := (hel 0 (by omega)).1
      simpa [Addr.add] using World.cell?_spot this
    subst hsp
    have ea : ∀ j, ((⟨b, o, none⟩ : Addr).add j) = ⟨b, o + j, none⟩ := by
      intro j
      unfold Addr.add
      split <;> simp_all
    have key : ∀ (i F T : Nat), i < 94 → orbitL[i]? = some (.agg [.lit (.int .u16 F), .lit (.int .u16 T)]) → w.cell? ⟨b, o + i * 2, none⟩ = some (.int .u16 F) ∧ w.cell? ⟨b, o + i * 2 + 1, none⟩ = some (.int .u16 T) := by
      intro i F T hi h
      obtain ⟨h1, h2, h3, h4⟩ := hel i (by omega)
      obtain ⟨z1, e1, e2, -⟩ := DataW.trod_int Tryz.underlying141 h3
      obtain ⟨z2, e3, e4, -⟩ := DataW.trod_int Tryz.underlying141 h4
      rw [hd2] at h
      simp only [List.getElem?_map, List.getElem?_range hi, Option.map_some, Option.some.injEq, DataW.agg.injEq, List.cons.injEq, and_true] at h
      simp only [Prod.mk.injEq] at e2 e4
      rw [h.1] at e2
      rw [h.2] at e4
      have f1 := e2.1
      have f2 := e4.1
      injection f1 with f1
      injection f1 with _ f1
      injection f2 with f2
      injection f2 with _ f2
      simp only [List.cons.injEq, and_true] at e1 e3
      rw [ea, e1, ← f1] at h1
      rw [ea, e3, ← f2, ← Nat.add_assoc] at h2
      exact ⟨h1, h2⟩
    have hc0 : w.cell? ⟨7, 0, none⟩ = some (.slice (some ⟨b, o, none⟩) 94 cap) := by
      have hv := World.var?_cell (show Tryz.prog.globalNamed "unicode.caseOrbit" = some 7 by kernel_rfl) hvar 0
      rw [hv]
      have : cs[0]? = cs.toList[0]? := by simp
      rw [this, hcs]; rfl
    have hk := key 0 75 107 (by omega) (by kernel_rfl)
    exact ⟨b, o, cap, hc0, block_lt_of_cell hk.1, (key 47 966 981 (by omega) (by kernel_rfl)).1, (key 23 837 921 (by omega) (by kernel_rfl)).1, (key 11 452 453 (by omega) (by kernel_rfl)).1, (key 5 197 229 (by omega) (by kernel_rfl)).1, (key 8 304 304 (by omega) (by kernel_rfl)).1, (key 10 383 83 (by omega) (by kernel_rfl)).1, (key 9 305 305 (by omega) (by kernel_rfl)).1, (key 10 383 83 (by omega) (by kernel_rfl)).2⟩
end Go.Proofs.YtbhpgghbpibalaaGreatDoor.alk
namespace Go.Proofs.YtbhpgghbpibalaaGreatDoor.alk
open Go.ChangeShapes Go.WideShapes Go.ChangeAt Go.RowKit
set_option linter.unusedVariables false
set_option linter.unusedSimpArgs false

set_option maxRecDepth 100000 in
theorem fold_ascii (w : World) (c d : Nat) (hc : c < 128) (hd : d < 65536) (h : w.cell? ⟨6, c, none⟩ = some (.int .u16 (d : Nat))) :
    Calls Tryz.prog 87 #[.int .i32 c] w fun e w' => e = .returned (.int .i32 d) ∧ w' = w := by
  have hb := block_lt_of_cell h
  go_enter Tryz.func87, Tryz.ntmps87
  go_wp2
  go_ret
  exact ⟨rfl, rfl⟩
theorem fold_383 (w : World) (h : Fold w) :
    Calls Tryz.prog 87 #[.int .i32 383] w fun e w' => e = .returned (.int .i32 83) ∧ w' = w := by
  obtain ⟨-, R, o, cap, hc, hR, h47, h23, h11, h5, h8, h10, h9, ht⟩ := h
  have h10b : w.cell? ⟨R, o + 10 * 2 + 0, none⟩ = some (.int .u16 383) := h10
  simp only [Nat.reduceMul] at h47 h23 h11 h5 h8 h10 h9 ht h10b
  have h2 := block_lt_of_cell hc
  go_enter Tryz.func87, Tryz.ntmps87
  go_wp2
  go_loop [3, 4] (fun lo hi => (lo = .int .i64 0 ∧ hi = .int .i64 94) ∨ (lo = .int .i64 0 ∧ hi = .int .i64 47) ∨ (lo = .int .i64 0 ∧ hi = .int .i64 23) ∨ (lo = .int .i64 0 ∧ hi = .int .i64 11) ∨ (lo = .int .i64 6 ∧ hi = .int .i64 11) ∨ (lo = .int .i64 9 ∧ hi = .int .i64 11) ∨ (lo = .int .i64 9 ∧ hi = .int .i64 10) ∨ (lo = .int .i64 10 ∧ hi = .int .i64 10)) (fun lo hi => (intOf hi).toNat - (intOf lo).toNat)
  case atStart => exact .inl ⟨rfl, rfl⟩
  case round =>
    rcases hrel with ⟨rfl, rfl⟩ | ⟨rfl, rfl⟩ | ⟨rfl, rfl⟩ | ⟨rfl, rfl⟩ | ⟨rfl, rfl⟩ | ⟨rfl, rfl⟩ | ⟨rfl, rfl⟩ | ⟨rfl, rfl⟩
    all_goals go_wp2
    all_goals first
      | (go_ret; exact ⟨rfl, rfl⟩)
      | (refine ⟨?_, ?_⟩ <;> simp [intOf]; done)

/-- A sign that has no other case. -/
def Fixed (c : Nat) : Prop := c < 128 ∧ asciiL.getD c 0 = (c : Int)
/-- A letter whose other case is one alone. -/
def Plain (c : Nat) : Prop := ∃ d, c < 128 ∧ d < 128 ∧ d ≠ c ∧ asciiL.getD c 0 = (d : Int) ∧ asciiL.getD d 0 = (c : Int)
theorem decode_one (s : ByteArray) (pos : Nat) (h : pos < s.size) (ha : 128 ≤ byt s pos) : 128 ≤ (Utf8.decode s pos).1 ∧ 1 ≤ (Utf8.decode s pos).2 ∧ (Utf8.decode s pos).1 ≤ 1114111 ∧ ((Utf8.decode s pos).2 = 1 → (Utf8.decode s pos).1 = 65533) := by
  rw [← byt_at s pos h] at ha
  have h1 := decode_high s pos h ha
  refine ⟨h1.1, h1.2, ?_, ?_⟩
  · have hb : ∀ k, (s.get! (pos + k)).toNat < 256 := fun k => (s.get! (pos + k)).toNat_lt
    have h0 := hb 0; have h1 := hb 1; have h2 := hb 2; have h3 := hb 3
    simp only [Utf8.decode]
    repeat' split
    all_goals simp_all [Utf8.runeError, Utf8.valid]
    all_goals omega
  · have hn : ¬ (s[pos]'h).toNat < 128 := by omega
    simp only [Utf8.decode, get_at s pos h, hn, if_false]
    repeat' split
    all_goals simp_all [Utf8.runeError]

theorem rest_at (t : ByteArray) (n : Nat) (ht : t.size = n) (p : Nat) (hp : p < n) : (t.extract p n).size = n - p ∧ (∃ x : UInt8, (t.extract p n).data.toList[0]? = some x ∧ x.toNat = byt t p) ∧ (t.extract p n).extract 1 (t.extract p n).size = t.extract (p + 1) n := by
  have hz : (t.extract p n).size = n - p := by rw [ByteArray.size_extract]; omega
  refine ⟨hz, ?_, ?_⟩
  · have hb := byt_extract t p n 0 (by omega) (by omega)
    have hl : 0 < (t.extract p n).data.toList.length := by rw [← Lib.size_eq]; omega
    refine ⟨_, List.getElem?_eq_getElem hl, ?_⟩
    rw [Nat.add_zero] at hb
    rw [← hb]
    unfold byt
    rw [getElem!_pos _ 0 (show 0 < (t.extract p n).size by omega)]
    simp
  · rw [hz, ByteArray.extract_extract]
    congr 1 <;> omega
theorem meas (c c' : Nat) (h : c' ≠ c) : (if intOf (.int .i32 (c : Nat)) = (c : Int) then 0 else 1) < (if intOf (.int .i32 (c' : Nat)) = (c : Int) then 0 else 1) := by
  rw [if_pos (show intOf (.int .i32 (c : Nat)) = (c : Int) from rfl), if_neg (show ¬ intOf (.int .i32 (c' : Nat)) = (c : Int) from fun e => h (Int.ofNat.inj e))]
  omega
theorem list_range (l : List Value) : l = (List.range l.length).map fun k => l.getD k undef := by
  apply List.ext_getElem
  · simp
  · intro i h1 h2
    simp [List.getD, h1]
theorem frame123 (tm : Array Value) (h : tm.size = 123) : ∃ U : Nat → Value, tm = #[U 0, U 1, U 2, U 3, U 4, U 5, U 6, U 7, U 8, U 9, U 10, U 11, U 12, U 13, U 14, U 15, U 16, U 17, U 18, U 19, U 20, U 21, U 22, U 23, U 24, U 25, U 26, U 27, U 28, U 29, U 30, U 31, U 32, U 33, U 34, U 35, U 36, U 37, U 38, U 39, U 40, U 41, U 42, U 43, U 44, U 45, U 46, U 47, U 48, U 49, U 50, U 51, U 52, U 53, U 54, U 55, U 56, U 57, U 58, U 59, U 60, U 61, U 62, U 63, U 64, U 65, U 66, U 67, U 68, U 69, U 70, U 71, U 72, U 73, U 74, U 75, U 76, U 77, U 78, U 79, U 80, U 81, U 82, U 83, U 84, U 85, U 86, U 87, U 88, U 89, U 90, U 91, U 92, U 93, U 94, U 95, U 96, U 97, U 98, U 99, U 100, U 101, U 102, U 103, U 104, U 105, U 106, U 107, U 108, U 109, U 110, U 111, U 112, U 113, U 114, U 115, U 116, U 117, U 118, U 119, U 120, U 121, U 122] ∧ ∀ k, tm.getD k undef = U k := by
  obtain ⟨l⟩ := tm
  have h' : l.length = 123 := h
  refine ⟨fun k => l.getD k undef, ?_, fun k => ?_⟩
  · have := list_range l
    rw [h'] at this
    exact congrArg Array.mk (this.trans rfl)
  · show (⟨l⟩ : Array Value).getD k undef = l.getD k undef
    by_cases hk : k < l.length
    · simp [Array.getD, List.getD, hk]
    · simp [Array.getD, List.getD, hk]
set_option maxHeartbeats 6400000 in
set_option maxRecDepth 100000 in
theorem fold_high (w : World) (s t : ByteArray) (n : Nat) (hn : n ≤ 100) (hs : s.size = n) (ht : t.size = n) (hF : Fold w) (hhi : ∃ j, j < n ∧ 128 ≤ byt s j)
    (hlow : ∀ j, j < n → byt t j < 128 ∧ (Plain (byt t j) ∨ byt t j = 83 ∨ byt t j = 115 ∨ Fixed (byt t j))) :
    Calls Tryz.prog 72 #[.string s, .string t] w fun e w' => e = .returned (.bool false) ∧ Below w.heap.size w w' := by
  have HHI := Lib.hid hhi
  have HLOW := Lib.hid hlow
  have HF := Lib.hid hF
  clear hhi hlow hF
  have hmin : min (s.size : Int) (t.size : Int) = n := by omega
  go_enter Tryz.func72, Tryz.ntmps72
  go_wp2
  refine wp_scope_jumps 0 (fun a' w' => w' = w ∧ a'.defers = [] ∧ a'.tmps.size = 123 ∧ a'.tmps.getD 0 undef = .string s ∧ a'.tmps.getD 1 undef = .string t ∧ ∃ i : Nat, a'.tmps.getD 5 undef = .int .i64 (i : Nat) ∧ i < n ∧ Hid (128 ≤ byt s i)) (fun _ _ => 0) rfl ?_ ?_
  · go_wp2
    go_loopw [5] (fun x wx => ∃ i : Nat, i ≤ n ∧ x = .int .i64 i ∧ wx = w ∧ Hid (∀ j, j < i → byt s j < 128)) (fun x _ => n - (intOf x).toNat)
    case atStart => exact ⟨0, Nat.zero_le _, rfl, rfl, fun j hj => absurd hj (Nat.not_lt_zero _)⟩
    case round =>
      obtain ⟨i, hi, rfl, rfl, hh⟩ := hrel
      by_cases hi3 : i < n
      · obtain ⟨x, hx⟩ : ∃ x, byt s i = x := ⟨_, rfl⟩
        obtain ⟨y, hy⟩ : ∃ y, byt t i = y := ⟨_, rfl⟩
        have ex : (s[i]).toNat = x := by rw [byt_at]; exact hx
        have ey : (t[i]).toNat = y := by rw [byt_at]; exact hy
        have hx256 : x < 256 := hx ▸ byt_lt s i
        have hy128 : y < 128 := hy ▸ (HLOW.out i hi3).1
        have hor : bits .or .u8 (x : Int) (y : Int) = ((x ||| y : Nat) : Int) := u8_or_nat _ _ (by omega) (by omega)
        by_cases hx128 : 128 ≤ x
        · have ho : (128 : Int) ≤ ((x ||| y : Nat) : Int) := by have : x ≤ x ||| y := Nat.left_le_or; omega
          have HX := Lib.hid (show 128 ≤ byt s i by rw [hx]; exact hx128)
          clear hx hy
          go_wp2
          go_step3
          exact ⟨rfl, rfl, rfl, rfl, rfl, rfl, i, rfl, hi3, HX.out⟩
        · have ho : ¬ (128 : Int) ≤ ((x ||| y : Nat) : Int) := by have := Nat.or_lt_two_pow (n := 7) (show x < 2 ^ 7 by omega) (show y < 2 ^ 7 by omega); omega
          have HN := Lib.hid (show ∀ j, j < i + 1 → byt s j < 128 by
            intro j hj
            rcases Nat.lt_succ_iff_lt_or_eq.1 hj with h' | rfl
            · exact hh.out j h'
            · rw [hx]; omega)
          clear hx hy hh
          go_wp2
          all_goals try (simp only [Exit.jump]; go_ret; exact ⟨rfl, Below.refl _ _⟩)
          all_goals exact ⟨⟨i + 1, by omega, by simp, trivial, HN.out⟩, by simp [intOf]; omega⟩
      · exfalso
        obtain ⟨j, hj, hb⟩ := HHI.out
        have := hh.out j (by omega)
        omega
  · rintro ⟨tm, df⟩ w' ⟨rfl, hdf, hsz, h0, h1, i, h5, hi, HX⟩
    have hdf' : df = [] := hdf
    subst hdf'
    obtain ⟨U, hU, hUk⟩ := frame123 tm hsz
    have g0 : U 0 = .string s := (hUk 0).symm.trans h0
    have g1 : U 1 = .string t := (hUk 1).symm.trans h1
    have g5 : U 5 = .int .i64 (i : Nat) := (hUk 5).symm.trans h5
    rw [g0, g1, g5] at hU
    subst hU
    clear hdf hsz h0 h1 h5 hUk g0 g1 g5
    have hq1 := (rest_at s n hs i hi)
    have hq0 : byt (s.extract i n) 0 = byt s i := byt_extract s i n 0 (by omega) (by omega)
    have HQ0 := Lib.hid (show 128 ≤ byt (s.extract i n) 0 by rw [hq0]; exact HX.out)
    have HQZ := Lib.hid hq1.1
    clear hq1 hq0
    go_wp2
    obtain ⟨q, hq⟩ : ∃ q, s.extract i n = q := ⟨_, rfl⟩
    rw [hq] at HQ0 HQZ ⊢
    clear hq
    go_loopw [1] (fun x wx => ∃ pos p : Nat, p < n ∧ x = .string (t.extract p n) ∧ wx = w'.iter q pos ∧ ((pos = 0 ∧ p = i) ∨ q.size - pos < n - p)) (fun _ wx => q.size - wx.iterPos w'.heap.size)
    case atStart => exact ⟨0, i, hi, rfl, rfl, .inl ⟨rfl, rfl⟩⟩
    case round =>
      obtain ⟨pos, p, hp, rfl, rfl, hst⟩ := hrel
      obtain ⟨hrz, ⟨x, hx, hxb⟩, hre⟩ := rest_at t n ht p hp
      have hlow := HLOW.out p hp
      rw [← hxb] at hlow
      obtain ⟨r, hr⟩ : ∃ r, t.extract p n = r := ⟨_, rfl⟩
      rw [hr] at hrz hx hre ⊢
      have HDR := Lib.hid (fun w => Tryz.utf8_DecodeRuneInString_ascii r x w hx hlow.1)
      have HRE := Lib.hid hre
      have HHL := Lib.hid hlow
      obtain ⟨c, hc⟩ : ∃ c, x.toNat = c := ⟨_, rfl⟩
      rw [hc] at HDR HHL hlow
      have hc128 := hlow.1
      have hr0 : 0 < r.size := by omega
      have hr9 : r.size ≤ n := by omega
      have hr1 : 1 ≤ r.size := hr0
      clear hr hx hxb hre hc hlow hrz
      by_cases hpos : pos < q.size
      · have hnx := fun ty => run_next_any (P := Tryz.prog) w' q pos ty hpos
        obtain ⟨dz, hdz⟩ : ∃ dz, Utf8.decode q pos = dz := ⟨_, rfl⟩
        by_cases hhi : 128 ≤ byt q pos
        · have hd1 := decode_one q pos hpos hhi
          have hzle : pos = 0 → (Utf8.decode q pos).2 ≤ q.size := fun h => by subst h; exact Lib.width_le q (by omega)
          rw [hdz] at hnx hd1 hzle
          obtain ⟨d, z⟩ := dz
          obtain ⟨d128, z1, dle, hz⟩ := hd1
          simp only at hnx d128 z1 dle hz hzle
          clear hdz
          have hgo : d = 383 → (p + 1 < n ∧ q.size - (pos + z) < n - (p + 1)) := by
            intro h383
            have hz2 : 2 ≤ z := by
              rcases Nat.lt_or_ge z 2 with h | h
              · have := hz (by omega); omega
              · exact h
            have hqz := HQZ.out
            rcases hst with ⟨rfl, rfl⟩ | hst
            · have := hzle rfl
              omega
            · omega
          have HGO := Lib.hid hgo
          clear hgo hz hzle hst
          have hrne : ((r.size : Int) == 0) = false := by rw [beq_eq_false_iff_ne]; omega
          have n1 : ((c : Int) == (d : Int)) = false := by rw [beq_eq_false_iff_ne]; omega
          have n2 : (c : Int) < (d : Int) := by omega
          have n3 : ¬ (d : Int) < 128 := by omega
          rcases HHL.out.2 with hpl | h83 | h115 | hfix
          · obtain ⟨c', -, hc', hne, f1, f2⟩ := hpl
            have F1 := Lib.hid (fun w1 (h : Fold w1) => fold_ascii w1 c c' hc128 (by omega) (by rw [h.asc c hc128, f1]))
            have F2 := Lib.hid (fun w1 (h : Fold w1) => fold_ascii w1 c' c hc' (by omega) (by rw [h.asc c' hc', f2]))
            have HF1 := Lib.hid (show Fold (w'.iter q (pos + z)) from HF.out.below ((Below.refl _ _).alloc (Nat.le_refl _) (Obj.stringIter q (pos + z))))
            have m1 : ((c' : Int) != (c : Int)) = true := by rw [bne_iff_ne]; omega
            have m2 : (c' : Int) < (d : Int) := by omega
            have HCC := Lib.hid hne
            clear f1 f2 hne
            go_wp2_with (first
              | (go_at_call 64; with_reducible refine Calls.mono (HDR.out _) ?_; rintro e w1 ⟨rfl, hw⟩; replace hw := hw.symm; subst hw)
              | (go_at_call 87; with_reducible refine Calls.mono (F1.out _ HF1.out) ?_; rintro e w1 ⟨rfl, hw⟩; replace hw := hw.symm; subst hw))
            go_loopw [13] (fun x wx => (x = .int .i32 c' ∨ x = .int .i32 c) ∧ wx = w'.iter q (pos + z)) (fun x _ => if intOf x = c then 0 else 1)
            case atStart => exact ⟨.inl rfl, rfl⟩
            case round =>
              obtain ⟨rfl | rfl, rfl⟩ := hrel
              · go_wp2_with (go_at_call 87; with_reducible refine Calls.mono (F2.out _ HF1.out) ?_; rintro e w1 ⟨rfl, hw⟩; replace hw := hw.symm; subst hw)
                exact ⟨⟨.inr rfl, trivial⟩, meas c c' HCC.out⟩
              · go_wp2
                simp only [Exit.jump]
                go_ret
                exact ⟨rfl, (Below.refl _ _).alloc (Nat.le_refl _) _⟩
          · subst h83
            have F1 := Lib.hid (fun w1 (h : Fold w1) => fold_ascii w1 83 115 (by omega) (by omega) (by rw [h.asc 83 (by omega)]; kernel_rfl))
            have F2 := Lib.hid (fun w1 (h : Fold w1) => fold_ascii w1 115 383 (by omega) (by omega) (by rw [h.asc 115 (by omega)]; kernel_rfl))
            have F3 := Lib.hid (fun w1 (h : Fold w1) => fold_383 w1 h)
            have HF1 := Lib.hid (show Fold (w'.iter q (pos + z)) from HF.out.below ((Below.refl _ _).alloc (Nat.le_refl _) (Obj.stringIter q (pos + z))))
            go_wp2_with (first
              | (go_at_call 64; with_reducible refine Calls.mono (HDR.out _) ?_; rintro e w1 ⟨rfl, hw⟩; replace hw := hw.symm; subst hw)
              | (go_at_call 87; refine Calls.mono (F1.out _ HF1.out) ?_; rintro e w1 ⟨rfl, hw⟩; replace hw := hw.symm; subst hw))
            go_loopw [13] (fun x wx => (x = .int .i32 115 ∨ x = .int .i32 383 ∨ (x = .int .i32 83 ∧ 383 < d)) ∧ wx = w'.iter q (pos + z)) (fun x _ => if intOf x = 83 then 0 else if intOf x = 383 then 1 else 2)
            case atStart => exact ⟨.inl rfl, rfl⟩
            case round =>
              obtain ⟨rfl | rfl | ⟨rfl, hd383⟩, rfl⟩ := hrel
              · have m2 : (115 : Int) < (d : Int) := by omega
                go_wp2_with (go_at_call 87; refine Calls.mono (F2.out _ HF1.out) ?_; rintro e w1 ⟨rfl, hw⟩; replace hw := hw.symm; subst hw)
                exact ⟨⟨.inr (.inl rfl), trivial⟩, by decide⟩
              · by_cases hd383 : 383 < d
                · have m2 : (383 : Int) < (d : Int) := by omega
                  go_wp2_with (go_at_call 87; refine Calls.mono (F3.out _ HF1.out) ?_; rintro e w1 ⟨rfl, hw⟩; replace hw := hw.symm; subst hw)
                  exact ⟨⟨.inr (.inr ⟨rfl, hd383⟩), trivial⟩, by decide⟩
                · have m2 : ¬ (383 : Int) < (d : Int) := by omega
                  by_cases hde : d = 383
                  · have m3 : ((383 : Int) == (d : Int)) = true := by rw [beq_iff_eq]; omega
                    have hg := HGO.out hde
                    clear hde
                    go_wp2
                    exact ⟨⟨pos + z, p + 1, hg.1, by rw [HRE.out], rfl, .inr hg.2⟩, by simp; omega⟩
                  · have m3 : ((383 : Int) == (d : Int)) = false := by rw [beq_eq_false_iff_ne]; omega
                    go_wp2
                    simp only [Exit.jump]
                    go_ret
                    exact ⟨rfl, (Below.refl _ _).alloc (Nat.le_refl _) _⟩
              · have m3 : ((83 : Int) == (d : Int)) = false := by rw [beq_eq_false_iff_ne]; omega
                go_wp2
                simp only [Exit.jump]
                go_ret
                exact ⟨rfl, (Below.refl _ _).alloc (Nat.le_refl _) _⟩
          · subst h115
            have F1 := Lib.hid (fun w1 (h : Fold w1) => fold_ascii w1 115 383 (by omega) (by omega) (by rw [h.asc 115 (by omega)]; kernel_rfl))
            have F2 := Lib.hid (fun w1 (h : Fold w1) => fold_ascii w1 83 115 (by omega) (by omega) (by rw [h.asc 83 (by omega)]; kernel_rfl))
            have F3 := Lib.hid (fun w1 (h : Fold w1) => fold_383 w1 h)
            have HF1 := Lib.hid (show Fold (w'.iter q (pos + z)) from HF.out.below ((Below.refl _ _).alloc (Nat.le_refl _) (Obj.stringIter q (pos + z))))
            go_wp2_with (first
              | (go_at_call 64; with_reducible refine Calls.mono (HDR.out _) ?_; rintro e w1 ⟨rfl, hw⟩; replace hw := hw.symm; subst hw)
              | (go_at_call 87; refine Calls.mono (F1.out _ HF1.out) ?_; rintro e w1 ⟨rfl, hw⟩; replace hw := hw.symm; subst hw))
            go_loopw [13] (fun x wx => (x = .int .i32 383 ∨ (x = .int .i32 83 ∧ 383 < d) ∨ (x = .int .i32 115 ∧ 383 < d)) ∧ wx = w'.iter q (pos + z)) (fun x _ => if intOf x = 115 then 0 else if intOf x = 83 then 1 else 2)
            case atStart => exact ⟨.inl rfl, rfl⟩
            case round =>
              obtain ⟨rfl | ⟨rfl, hd383⟩ | ⟨rfl, hd383⟩, rfl⟩ := hrel
              · by_cases hd383 : 383 < d
                · have m2 : (383 : Int) < (d : Int) := by omega
                  go_wp2_with (go_at_call 87; refine Calls.mono (F3.out _ HF1.out) ?_; rintro e w1 ⟨rfl, hw⟩; replace hw := hw.symm; subst hw)
                  exact ⟨⟨.inr (.inl ⟨rfl, hd383⟩), trivial⟩, by decide⟩
                · have m2 : ¬ (383 : Int) < (d : Int) := by omega
                  by_cases hde : d = 383
                  · have m3 : ((383 : Int) == (d : Int)) = true := by rw [beq_iff_eq]; omega
                    have hg := HGO.out hde
                    clear hde
                    go_wp2
                    exact ⟨⟨pos + z, p + 1, hg.1, by rw [HRE.out], rfl, .inr hg.2⟩, by simp; omega⟩
                  · have m3 : ((383 : Int) == (d : Int)) = false := by rw [beq_eq_false_iff_ne]; omega
                    go_wp2
                    simp only [Exit.jump]
                    go_ret
                    exact ⟨rfl, (Below.refl _ _).alloc (Nat.le_refl _) _⟩
              · have m2 : (83 : Int) < (d : Int) := by omega
                go_wp2_with (go_at_call 87; refine Calls.mono (F2.out _ HF1.out) ?_; rintro e w1 ⟨rfl, hw⟩; replace hw := hw.symm; subst hw)
                exact ⟨⟨.inr (.inr ⟨rfl, hd383⟩), trivial⟩, by decide⟩
              · have m3 : ((115 : Int) == (d : Int)) = false := by rw [beq_eq_false_iff_ne]; omega
                go_wp2
                simp only [Exit.jump]
                go_ret
                exact ⟨rfl, (Below.refl _ _).alloc (Nat.le_refl _) _⟩
          · obtain ⟨-, f1⟩ := hfix
            have F1 := Lib.hid (fun w1 (h : Fold w1) => fold_ascii w1 c c hc128 (by omega) (by rw [h.asc c hc128, f1]))
            have HF1 := Lib.hid (show Fold (w'.iter q (pos + z)) from HF.out.below ((Below.refl _ _).alloc (Nat.le_refl _) (Obj.stringIter q (pos + z))))
            clear f1
            go_wp2_with (first
              | (go_at_call 64; with_reducible refine Calls.mono (HDR.out _) ?_; rintro e w1 ⟨rfl, hw⟩; replace hw := hw.symm; subst hw)
              | (go_at_call 87; with_reducible refine Calls.mono (F1.out _ HF1.out) ?_; rintro e w1 ⟨rfl, hw⟩; replace hw := hw.symm; subst hw))
            go_loopw [13] (fun x wx => x = .int .i32 c ∧ wx = w'.iter q (pos + z)) (fun x _ => 0)
            case atStart => exact ⟨rfl, rfl⟩
            case round =>
              obtain ⟨rfl, rfl⟩ := hrel
              go_wp2
              simp only [Exit.jump]
              go_ret
              exact ⟨rfl, (Below.refl _ _).alloc (Nat.le_refl _) _⟩
        · have hlo : byt q pos < 128 := by omega
          have hst2 : q.size - pos < n - p := by
            rcases hst with ⟨rfl, rfl⟩ | hst
            · have := HQ0.out; omega
            · exact hst
          have hdd : Utf8.decode q pos = (byt q pos, 1) := by rw [decode_ascii q pos hpos (by rw [byt_at]; exact hlo), byt_at]
          rw [hdd] at hnx
          obtain ⟨d, hd⟩ : ∃ d, byt q pos = d := ⟨_, rfl⟩
          rw [hd] at hnx hlo
          simp only at hnx
          have HST := Lib.hid (show p + 1 < n ∧ q.size - (pos + 1) < n - (p + 1) by omega)
          clear hst hst2 hdd hdz hd hhi
          have hrne : ((r.size : Int) == 0) = false := by rw [beq_eq_false_iff_ne]; omega
          go_wp2_with (go_at_call 64; with_reducible refine Calls.mono (HDR.out _) ?_; rintro e w1 ⟨rfl, hw⟩; replace hw := hw.symm; subst hw)
          all_goals try (simp only [Exit.jump]; go_ret; exact ⟨rfl, (Below.refl _ _).alloc (Nat.le_refl _) _⟩)
          all_goals exact ⟨⟨pos + 1, p + 1, HST.out.1, by rw [HRE.out], rfl, .inr HST.out.2⟩, by simp; omega⟩
      · have hrne : ((r.size : Int) == 0) = false := by rw [beq_eq_false_iff_ne]; omega
        have hnx := fun ty => run_next_end (P := Tryz.prog) w' q pos ty hpos
        go_wp2
        simp only [Exit.jump]
        go_ret
        exact ⟨rfl, (Below.refl _ _).alloc (Nat.le_refl _) _⟩
end Go.Proofs.YtbhpgghbpibalaaGreatDoor.alk
