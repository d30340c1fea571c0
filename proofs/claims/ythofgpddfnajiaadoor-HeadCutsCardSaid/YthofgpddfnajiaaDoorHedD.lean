/- Fields in memory; the document's trimmed ones. -/
import Derived.Test.YthofgpddfnajiaaDoorHedA
import Derived.Test.YthofgpddfnajiaaDoorRow
import Derived.Deep.DeepCutAuto
import Derived.Tactics2
namespace Go.Proofs.YthofgpddfnajiaaDoor.hd
open Go.ChangeShapes Go.WideShapes Go.ChangeAt Go.RowKit
open Go.Proofs.YthofgpddfnajiaaDoor.row
set_option linter.unusedVariables false
set_option maxRecDepth 100000
set_option linter.unusedSimpArgs false

def cF (x : ByteArray × ByteArray) : List Value := [.string x.1, .string x.2]
theorem fF : Fm cF 2 := ⟨fun _ => rfl, fun y u hu => by simp [cF] at hu; rcases hu with rfl | rfl <;> rfl⟩
theorem infoF : (Tryd.prog.info? 35).map (fun i => (i.zero, i.size, i.bytes)) = some (some (.agg #[.string ⟨#[]⟩, .string ⟨#[]⟩]), 2, 32) := by kernel_rfl
theorem own_len {α : Type} {F : α → List Value} {K B : Nat} {E : TypeId} {w : World} {A : Option Addr} {m c : Nat} {ys : List α} (h : Own F K B E w (.slice A m c) ys) : ys.length = m := by
  rcases h.2 with ⟨e, h0⟩ | ⟨g, cap, cur, e, hB, _⟩
  · simp at e
    omega
  · simp at e
    omega
theorem own_form {α : Type} {F : α → List Value} {K B : Nat} {E : TypeId} {w : World} {v : Value} {ys : List α} (h : Own F K B E w v ys) (hm : 0 < ys.length) : ∃ g c, v = .slice (some ⟨g, 0, none⟩) ys.length c ∧ B ≤ g ∧ g < w.heap.size := by
  rcases h.2 with ⟨e, h0⟩ | ⟨g, cap, cur, e, hB, hg, _⟩
  · omega
  · exact ⟨g, cap, e, hB, (Array.getElem?_eq_some_iff.1 hg).1⟩
theorem fl_put : ∀ (L : List (ByteArray × ByteArray)) (k i : Nat) (u : Value) (y y' : ByteArray × ByteArray), L[k]? = some y → i < 2 → (cF y).set i u = cF y' → (fl cF L).set (k * 2 + i) u = fl cF (L.set k y')
  | [], k, i, u, y, y', h, _, _ => by simp at h
  | z :: r, 0, i, u, y, y', h, hi, e => by
    simp at h
    subst h
    rw [Nat.zero_mul, Nat.zero_add]
    show (cF z ++ fl cF r).set i u = cF y' ++ fl cF r
    rw [List.set_append_left _ _ (by rw [fF.len]; exact hi), e]
  | z :: r, k + 1, i, u, y, y', h, hi, e => by
    have ih := fl_put r k i u y y' (by simpa using h) hi e
    rw [show (k + 1) * 2 + i = k * 2 + i + 2 by omega]
    show _ :: _ :: (fl cF r).set (k * 2 + i) _ = _
    rw [ih]
    rfl
/-- A field's value is another one. -/
theorem own_put {B g m c k : Nat} {E : TypeId} {w : World} {ys : List (ByteArray × ByteArray)} {y : ByteArray × ByteArray} (h : Own cF 2 B E w (.slice (some ⟨g, 0, none⟩) m c) ys) (hk : ys[k]? = some y) (s : ByteArray) :
    Own cF 2 B E (w.setCell ⟨g, k * 2 + 1, none⟩ (.string s)) (.slice (some ⟨g, 0, none⟩) m c) (ys.set k (y.1, s)) ∧ w.grownBy (w.setCell ⟨g, k * 2 + 1, none⟩ (.string s)) (some g) := by
  have hlen := own_len h
  have h' : World.ownsRow w B E 2 (.slice (some ⟨g, 0, none⟩) m c) m (fl cF ys) := hlen ▸ h
  obtain ⟨s1, s2⟩ := World.ownsRow.stored h' (k * 2 + 1) (.string s)
  refine ⟨?_, s2⟩
  unfold Own
  rw [List.length_set, hlen, ← fl_put ys k 1 (.string s) y (y.1, s) hk (by decide) rfl]
  exact s1
theorem own_cell {B g m c k : Nat} {E : TypeId} {w : World} {ys : List (ByteArray × ByteArray)} {y : ByteArray × ByteArray} (h : Own cF 2 B E w (.slice (some ⟨g, 0, none⟩) m c) ys) (hk : ys[k]? = some y) :
    w.cell? ⟨g, k * 2 + 1, none⟩ = some (.string y.2) ∧ w.frozen? ⟨g, k * 2 + 1, none⟩ = false := by
  have hlen := own_len h
  have h' : World.ownsRow w B E 2 (.slice (some ⟨g, 0, none⟩) m c) m (fl cF ys) := hlen ▸ h
  have hk2 := (List.getElem?_eq_some_iff.1 hk).1
  have hcl := h'.cellAt (k * 2 + 1) (by omega)
  have hfz := h'.frozenAt (k * 2 + 1)
  rw [fl_at fF ys k y hk 1 (.string y.2) rfl] at hcl
  exact ⟨hcl, hfz⟩
theorem empty_yes {s : ByteArray} (hz : s.size = 0) : s.toList.isEmpty = true := by
  have : s.data = #[] := Array.eq_empty_of_size_eq_zero hz
  simp [ByteArray.toList_eq, this]
theorem empty_no {s : ByteArray} (hz : ¬ s.size = 0) : s.toList.isEmpty = false := by
  rw [Bool.eq_false_iff]
  intro h
  rw [ByteArray.toList_eq] at h
  have h' : s.data = #[] := by simpa using h
  exact hz (by show s.data.size = 0; rw [h']; rfl)
def strLen : Value → Nat
  | .string s => s.size
  | _ => 0
set_option maxHeartbeats 4000000 in
theorem trimmed_any (W : World) (B : Nat) (v : Value) (ys : List (ByteArray × ByteArray)) (hO : Own cF 2 B 35 W v ys) (hn : ys.length ≤ 1000000) (hs : ∀ y ∈ ys, y.2.size ≤ 1000000) :
    Calls Tryd.prog 10 #[v] W fun e w' => (∃ u, e = .returned u) ∧ Below B W w' := by
  by_cases h0 : ys.length = 0
  · have hv : v = .slice none 0 0 ∨ ∃ g c, v = .slice (some ⟨g, 0, none⟩) 0 c := by
      rcases hO.2 with ⟨e, _⟩ | ⟨g, cap, cur, e, hB, hg, _⟩
      · exact .inl e
      · exact .inr ⟨g, cap, by rw [e, h0]⟩
    clear hO hs
    rcases hv with rfl | ⟨g, c, rfl⟩
    · go_enter Tryd.func10, Tryd.ntmps10
      go_wp2
      go_loopw [3, 4, 7] (fun a b i wr => i = .int .i64 0 ∧ wr = W) (fun _ _ _ _ => 0)
      case atStart => exact ⟨rfl, rfl⟩
      case round =>
        obtain ⟨rfl, rfl⟩ := hrel
        go_wp2
        go_ret
        exact ⟨⟨_, rfl⟩, Below.refl _ _⟩
    · go_enter Tryd.func10, Tryd.ntmps10
      go_wp2
      go_loopw [3, 4, 7] (fun a b i wr => i = .int .i64 0 ∧ wr = W) (fun _ _ _ _ => 0)
      case atStart => exact ⟨rfl, rfl⟩
      case round =>
        obtain ⟨rfl, rfl⟩ := hrel
        go_wp2
        go_ret
        exact ⟨⟨_, rfl⟩, Below.refl _ _⟩
  · obtain ⟨g, c, rfl, hg, hgl⟩ := own_form hO (by omega)
    obtain ⟨n, hnn⟩ : ∃ n, n = ys.length := ⟨_, rfl⟩
    rw [← hnn] at hO hn ⊢
    have HO := Lib.hid hO
    have HS := Lib.hid hs
    have HN := Lib.hid hnn.symm
    have HG := Lib.hid hg
    have HN6 := Lib.hid hn
    clear hO hs hnn hg hgl h0 hn
    go_enter Tryd.func10, Tryd.ntmps10
    go_wp2
    go_loopw [7] (fun i wr => ∃ (k : Nat) (zs : List (ByteArray × ByteArray)), k ≤ n ∧ i = .int .i64 k ∧ Hid (Own cF 2 B 35 wr (.slice (some ⟨g, 0, none⟩) n c) zs) ∧ Hid (zs.length = n ∧ ∀ y ∈ zs, y.2.size ≤ 1000000) ∧ Hid (Below B W wr)) (fun i _ => n - (intOf i).toNat)
    case atStart => exact ⟨0, ys, Nat.zero_le _, rfl, HO, Lib.hid ⟨HN.out, HS.out⟩, Lib.hid (Below.refl _ _)⟩
    case round =>
      obtain ⟨k, zs, hk, rfl, HZ, HL, HB⟩ := hrel
      by_cases hlt : k < n
      · have hzk : zs[k]? = some (zs[k]'(by rw [HL.out.1]; exact hlt)) := List.getElem?_eq_getElem _
        obtain ⟨y, hy⟩ : ∃ y, zs[k]? = some y := ⟨_, hzk⟩
        have HY := Lib.hid hy
        have HSz := Lib.hid (HL.out.2 y (List.mem_of_getElem? hy))
        have HHk := Lib.hid hlt
        obtain ⟨c0, z0⟩ := own_cell HZ.out hy
        have hlt' : (k : Int) < (n : Int) := by omega
        clear hzk hy
        go_wp2_with fail
        go_loopw [4] (fun x wx => ∃ s, x = .string s ∧ Hid (s.size ≤ 1000000) ∧ wx = wr) (fun x _ => strLen x)
        case atStart => exact ⟨_, rfl, HSz, rfl⟩
        case round =>
          obtain ⟨s, rfl, HSs, rfl⟩ := hrel
          clear HSz
          by_cases hsz : s.size = 0
          · have hem := empty_yes hsz
            go_wp2_with fail
            try clear e1
            clear hsz hem
            go_loopw [4] (fun x wx => ∃ s, x = .string s ∧ Hid (s.size ≤ 1000000) ∧ wx = wr) (fun x _ => strLen x)
            case atStart => exact ⟨_, rfl, HSs, rfl⟩
            case round =>
              clear HSs
              obtain ⟨s, rfl, HSs, rfl⟩ := hrel
              by_cases hsz : s.size = 0
              · have hem := empty_yes hsz
                have hbn := HN6.out
                have hk1 : k + 1 ≤ n := HHk.out
                go_wp2_with fail
                obtain ⟨s1, s2⟩ := own_put HZ.out HY.out s
                have HZ2 := Lib.hid s1
                have HL2 := Lib.hid (show (zs.set k (y.1, s)).length = n ∧ ∀ z ∈ zs.set k (y.1, s), z.2.size ≤ 1000000 from ⟨by rw [List.length_set]; exact HL.out.1, fun z hz => by
                  rcases List.mem_or_eq_of_mem_set hz with h | rfl
                  · exact HL.out.2 z h
                  · exact HSs.out⟩)
                have HB2 := Lib.hid (HB.out.setCell (p := ⟨g, k * 2 + 1, none⟩) HG.out (.string s))
                clear s1 s2
                go_roundw
                case rel => first | exact ⟨k + 1, zs.set k (y.1, s), by omega, by go_num, HZ2, HL2, HB2⟩ | ((repeat apply Exists.intro); exact ⟨⟨k + 1, zs.set k (y.1, s), by omega, by go_num, HZ2, HL2, HB2⟩, rfl⟩)
                case measure => (show n - ((k : Int) + 1).toNat < n - k; omega)
              · have hem := empty_no hsz
                obtain ⟨m, hm⟩ : ∃ m, s.size = m + 1 := ⟨s.size - 1, by omega⟩
                have e0 : IntKind.i64.wrap ((s.size : Int) - 1) = (m : Int) := (IntWalk.i64_in _ (by have := HSs.out; omega)).trans (by omega)
                have hms' : m < s.size := by omega
                have e1 : (s[m]'hms').toNat = byt s m := byt_at s m hms'
                have hms : (m : Int) < (s.size : Int) := by omega
                have hms2 : (m : Int) ≤ (s.size : Int) := by omega
                obtain ⟨x, hx⟩ : ∃ x, x = byt s m := ⟨_, rfl⟩
                rw [← hx] at e1
                have HM := Lib.hid hm
                clear hx hm
                by_cases h1 : x = 32
                · subst h1
                  have HSs2 := Lib.hid (show (s.extract 0 m).size ≤ 1000000 by rw [ByteArray.size_extract]; have := HSs.out; have := HM.out; omega)
                  have HMe : Hid ((s.extract 0 m).size < s.size) := Lib.hid (by rw [ByteArray.size_extract]; have := HM.out; omega)
                  go_wp2_with fail
                  go_roundw
                  case rel => first | exact ⟨_, rfl, HSs2, rfl⟩ | exact ⟨_, rfl, HSs2, trivial⟩ | exact ⟨_, rfl, HSs2⟩
                  case measure => exact HMe.out
                · have q1 : ((x : Int) == 32) = false := by rw [beq_eq_false_iff_ne]; omega
                  by_cases h2 : x = 9
                  · subst h2
                    have HSs2 := Lib.hid (show (s.extract 0 m).size ≤ 1000000 by rw [ByteArray.size_extract]; have := HSs.out; have := HM.out; omega)
                    have HMe : Hid ((s.extract 0 m).size < s.size) := Lib.hid (by rw [ByteArray.size_extract]; have := HM.out; omega)
                    clear h1
                    go_wp2_with fail
                    go_roundw
                    case rel => first | exact ⟨_, rfl, HSs2, rfl⟩ | exact ⟨_, rfl, HSs2, trivial⟩ | exact ⟨_, rfl, HSs2⟩
                    case measure => exact HMe.out
                  · have q2 : ((x : Int) == 9) = false := by rw [beq_eq_false_iff_ne]; omega
                    clear h1 h2
                    have hbn := HN6.out
                    have hk1 : k + 1 ≤ n := HHk.out
                    go_wp2_with fail
                    obtain ⟨s1, s2⟩ := own_put HZ.out HY.out s
                    have HZ2 := Lib.hid s1
                    have HL2 := Lib.hid (show (zs.set k (y.1, s)).length = n ∧ ∀ z ∈ zs.set k (y.1, s), z.2.size ≤ 1000000 from ⟨by rw [List.length_set]; exact HL.out.1, fun z hz => by
                      rcases List.mem_or_eq_of_mem_set hz with h | rfl
                      · exact HL.out.2 z h
                      · exact HSs.out⟩)
                    have HB2 := Lib.hid (HB.out.setCell (p := ⟨g, k * 2 + 1, none⟩) HG.out (.string s))
                    clear s1 s2
                    go_roundw
                    case rel => first | exact ⟨k + 1, zs.set k (y.1, s), by omega, by go_num, HZ2, HL2, HB2⟩ | ((repeat apply Exists.intro); exact ⟨⟨k + 1, zs.set k (y.1, s), by omega, by go_num, HZ2, HL2, HB2⟩, rfl⟩)
                    case measure => (show n - ((k : Int) + 1).toNat < n - k; omega)
          · have hem := empty_no hsz
            have hms' : 0 < s.size := by omega
            have e1 : (s[0]'hms').toNat = byt s 0 := byt_at s 0 hms'
            have hms : (0 : Int) < (s.size : Int) := by omega
            have hms2 : (1 : Int) ≤ (s.size : Int) := by omega
            obtain ⟨x, hx⟩ : ∃ x, x = byt s 0 := ⟨_, rfl⟩
            rw [← hx] at e1
            have HM := Lib.hid hms'
            clear hx
            by_cases h1 : x = 32
            · subst h1
              have HSs2 := Lib.hid (show (s.extract 1 s.size).size ≤ 1000000 by rw [ByteArray.size_extract]; have := HSs.out; have := HM.out; omega)
              have HMe : Hid ((s.extract 1 s.size).size < s.size) := Lib.hid (by rw [ByteArray.size_extract]; have := HM.out; omega)
              go_wp2_with fail
              go_roundw
              case rel => first | exact ⟨_, rfl, HSs2, rfl⟩ | exact ⟨_, rfl, HSs2, trivial⟩ | exact ⟨_, rfl, HSs2⟩
              case measure => exact HMe.out
            · have q1 : ((x : Int) == 32) = false := by rw [beq_eq_false_iff_ne]; omega
              by_cases h2 : x = 9
              · subst h2
                have HSs2 := Lib.hid (show (s.extract 1 s.size).size ≤ 1000000 by rw [ByteArray.size_extract]; have := HSs.out; have := HM.out; omega)
                have HMe : Hid ((s.extract 1 s.size).size < s.size) := Lib.hid (by rw [ByteArray.size_extract]; have := HM.out; omega)
                clear h1
                go_wp2_with fail
                go_roundw
                case rel => first | exact ⟨_, rfl, HSs2, rfl⟩ | exact ⟨_, rfl, HSs2, trivial⟩ | exact ⟨_, rfl, HSs2⟩
                case measure => exact HMe.out
              · have q2 : ((x : Int) == 9) = false := by rw [beq_eq_false_iff_ne]; omega
                clear h1 h2
                go_wp2_with fail
                try clear e1
                clear hsz hem
                go_loopw [4] (fun x wx => ∃ s, x = .string s ∧ Hid (s.size ≤ 1000000) ∧ wx = wr) (fun x _ => strLen x)
                case atStart => exact ⟨_, rfl, HSs, rfl⟩
                case round =>
                  clear HSs
                  obtain ⟨s, rfl, HSs, rfl⟩ := hrel
                  by_cases hsz : s.size = 0
                  · have hem := empty_yes hsz
                    have hbn := HN6.out
                    have hk1 : k + 1 ≤ n := HHk.out
                    go_wp2_with fail
                    obtain ⟨s1, s2⟩ := own_put HZ.out HY.out s
                    have HZ2 := Lib.hid s1
                    have HL2 := Lib.hid (show (zs.set k (y.1, s)).length = n ∧ ∀ z ∈ zs.set k (y.1, s), z.2.size ≤ 1000000 from ⟨by rw [List.length_set]; exact HL.out.1, fun z hz => by
                      rcases List.mem_or_eq_of_mem_set hz with h | rfl
                      · exact HL.out.2 z h
                      · exact HSs.out⟩)
                    have HB2 := Lib.hid (HB.out.setCell (p := ⟨g, k * 2 + 1, none⟩) HG.out (.string s))
                    clear s1 s2
                    go_roundw
                    case rel => first | exact ⟨k + 1, zs.set k (y.1, s), by omega, by go_num, HZ2, HL2, HB2⟩ | ((repeat apply Exists.intro); exact ⟨⟨k + 1, zs.set k (y.1, s), by omega, by go_num, HZ2, HL2, HB2⟩, rfl⟩)
                    case measure => (show n - ((k : Int) + 1).toNat < n - k; omega)
                  · have hem := empty_no hsz
                    obtain ⟨m, hm⟩ : ∃ m, s.size = m + 1 := ⟨s.size - 1, by omega⟩
                    have e0 : IntKind.i64.wrap ((s.size : Int) - 1) = (m : Int) := (IntWalk.i64_in _ (by have := HSs.out; omega)).trans (by omega)
                    have hms' : m < s.size := by omega
                    have e1 : (s[m]'hms').toNat = byt s m := byt_at s m hms'
                    have hms : (m : Int) < (s.size : Int) := by omega
                    have hms2 : (m : Int) ≤ (s.size : Int) := by omega
                    obtain ⟨x, hx⟩ : ∃ x, x = byt s m := ⟨_, rfl⟩
                    rw [← hx] at e1
                    have HM := Lib.hid hm
                    clear hx hm
                    by_cases h1 : x = 32
                    · subst h1
                      have HSs2 := Lib.hid (show (s.extract 0 m).size ≤ 1000000 by rw [ByteArray.size_extract]; have := HSs.out; have := HM.out; omega)
                      have HMe : Hid ((s.extract 0 m).size < s.size) := Lib.hid (by rw [ByteArray.size_extract]; have := HM.out; omega)
                      go_wp2_with fail
                      go_roundw
                      case rel => first | exact ⟨_, rfl, HSs2, rfl⟩ | exact ⟨_, rfl, HSs2, trivial⟩ | exact ⟨_, rfl, HSs2⟩
                      case measure => exact HMe.out
                    · have q1 : ((x : Int) == 32) = false := by rw [beq_eq_false_iff_ne]; omega
                      by_cases h2 : x = 9
                      · subst h2
                        have HSs2 := Lib.hid (show (s.extract 0 m).size ≤ 1000000 by rw [ByteArray.size_extract]; have := HSs.out; have := HM.out; omega)
                        have HMe : Hid ((s.extract 0 m).size < s.size) := Lib.hid (by rw [ByteArray.size_extract]; have := HM.out; omega)
                        clear h1
                        go_wp2_with fail
                        go_roundw
                        case rel => first | exact ⟨_, rfl, HSs2, rfl⟩ | exact ⟨_, rfl, HSs2, trivial⟩ | exact ⟨_, rfl, HSs2⟩
                        case measure => exact HMe.out
                      · have q2 : ((x : Int) == 9) = false := by rw [beq_eq_false_iff_ne]; omega
                        clear h1 h2
                        have hbn := HN6.out
                        have hk1 : k + 1 ≤ n := HHk.out
                        go_wp2_with fail
                        obtain ⟨s1, s2⟩ := own_put HZ.out HY.out s
                        have HZ2 := Lib.hid s1
                        have HL2 := Lib.hid (show (zs.set k (y.1, s)).length = n ∧ ∀ z ∈ zs.set k (y.1, s), z.2.size ≤ 1000000 from ⟨by rw [List.length_set]; exact HL.out.1, fun z hz => by
                          rcases List.mem_or_eq_of_mem_set hz with h | rfl
                          · exact HL.out.2 z h
                          · exact HSs.out⟩)
                        have HB2 := Lib.hid (HB.out.setCell (p := ⟨g, k * 2 + 1, none⟩) HG.out (.string s))
                        clear s1 s2
                        go_roundw
                        case rel => first | exact ⟨k + 1, zs.set k (y.1, s), by omega, by go_num, HZ2, HL2, HB2⟩ | ((repeat apply Exists.intro); exact ⟨⟨k + 1, zs.set k (y.1, s), by omega, by go_num, HZ2, HL2, HB2⟩, rfl⟩)
                        case measure => (show n - ((k : Int) + 1).toNat < n - k; omega)
      · obtain rfl : k = n := by omega
        go_wp2
        go_ret
        exact ⟨⟨_, rfl⟩, HB.out⟩
end Go.Proofs.YthofgpddfnajiaaDoor.hd
