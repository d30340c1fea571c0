/- The three laws, walked. -/
import Derived.Test.YtbhhcijfciapgaaDoorFlgH
namespace Go.Proofs.YtbhhcijfciapgaaDoor.flg
open Go.ChangeShapes Go.WideShapes Go.ChangeAt Go.RowKit Go.Proofs.YtbhhcijfciapgaaDoor.alk
set_option linter.unusedVariables false
set_option linter.unusedSimpArgs false

theorem five_nat (n : Nat) (h : n < 32) : five (n : Int) = n := by unfold five; omega
theorem awake_any (w : World) (hN : Names w) :
    Calls Tryd.prog 6 #[] w fun e w' => e = .returned (.bool true) ∧ Below w.heap.size w w' := by
  have h := print_any w 1 hN
  rw [show (⟨(printL (five 1)).toArray⟩ : ByteArray) = ⟨#[40, 92, 83, 101, 101, 110, 41]⟩ by
    rw [show printL (five 1) = [40, 92, 83, 101, 101, 110, 41] by decide +kernel]] at h
  have H := Lib.hid h
  clear h
  go_enter Tryd.func6, Tryd.ntmps6
  go_wp2_with (go_at_call 9; refine H.out.mono ?_; rintro e w2 ⟨rfl, hb2⟩)
  go_ret
  exact ⟨rfl, hb2⟩

theorem changes_walk (W : World) (x y how : Int) (hN : Names W) :
    Calls Tryd.prog 5 #[.int .i64 x, .int .i64 y, .int .i64 how] W fun e w' => e = .returned (.bool true) ∧ Below W.heap.size W w' := by
  have HA := Lib.hid (awake_any W hN)
  have h2 := fun w => changed_any w x y how
  have h1 := fun w => change_any w x y how
  rw [chg_five] at h2
  have hlt := chgN_lt _ (kind_lt how) _ (five_lt x) _ (five_lt y)
  have h3 := fun w => change_any w (chgN (five x) (five y) (kind how) : Nat) y how
  rw [five_nat _ hlt, twice_all _ (kind_lt how) _ (five_lt x) _ (five_lt y)] at h3
  obtain ⟨m, hm⟩ : ∃ m, chgN (five x) (five y) (kind how) = m := ⟨_, rfl⟩
  rw [hm] at h1 h2 h3
  have H1 := Lib.hid h1
  have H2 := Lib.hid h2
  have H3 := Lib.hid h3
  clear h1 h2 h3 hm hlt
  go_enter Tryd.func5, Tryd.ntmps5
  go_wp2_with (first
    | (go_at_call 6; refine HA.out.mono ?_; rintro e w2 ⟨rfl, hb2⟩)
    | (go_at_call 13; with_reducible refine Calls.mono (H2.out _) ?_; rintro e w' ⟨rfl, hw⟩; replace hw := hw.symm; subst hw)
    | (go_at_call 12; with_reducible refine Calls.mono (H1.out _) ?_; rintro e w' ⟨rfl, hw⟩; replace hw := hw.symm; subst hw)
    | (go_at_call 12; with_reducible refine Calls.mono (H3.out _) ?_; rintro e w' ⟨rfl, hw⟩; replace hw := hw.symm; subst hw))
  go_ret
  exact ⟨rfl, hb2⟩

theorem fine_all {X : Nat → ByteArray} {n : Nat} (h : ∀ j, j < n → bitN (X j) ≠ 0) : fineB X n = true := fine_true fun j hj => by simpa using h j hj
theorem names_sizes : ∀ m, m < 32 → ∀ j, j < (names m 5).length → ((names m 5).getD j ByteArray.empty).size ≤ 9 := by decide +kernel
/-- Texts in a row of the call's own, as a slice. -/
theorem Tx.strs {w : World} {B : Nat} {v : Value} {l : List ByteArray} {Z : Nat} (h : Tx w B v l) (hZ : ∀ j, j < l.length → (l.getD j ByteArray.empty).size ≤ Z) : Strs w v l.length Z (fun j => l.getD j ByteArray.empty) := by
  rcases h.2 with ⟨rfl, hn⟩ | ⟨g, cap, cur, rfl, hbg, hg, hnc, hcm, hcs, htake⟩
  · exact ⟨none, 0, by rw [hn], fun h => by omega⟩
  · refine ⟨some ⟨g, 0, none⟩, cap, rfl, fun hn => ⟨g, 0, rfl, (h.lt g rfl).2, fun j hj => ⟨?_, hZ j hj⟩⟩⟩
    have := h.cells (g := g) rfl j (.string (l.getD j ByteArray.empty)) (by
      unfold svals
      rw [List.getElem?_map, List.getElem?_eq_getElem hj]
      simp [List.getD, hj])
    rwa [show (⟨g, 0, none⟩ : Addr).add j = ⟨g, 0 + j, none⟩ by unfold Addr.add; split <;> simp_all] at this

set_option maxHeartbeats 6400000 in
theorem prints_walk (W : World) (x : Int) (hT : Tab W) :
    Calls Tryd.prog 3 #[.int .i64 x] W fun e w' => e = .returned (.bool true) ∧ Below W.heap.size W w' := by
  have HA := Lib.hid (awake_any W hT.names)
  have HT := Lib.hid hT
  have HPR := Lib.hid (fun w h => print_any w x h)
  have HFS := Lib.hid (fun w => flags_any w x)
  have h31 := i64_and31 x
  obtain ⟨m, hm⟩ : ∃ m, five x = m := ⟨_, rfl⟩
  have hm32 : m < 32 := hm ▸ five_lt x
  have HX := Lib.hid (fun (k : Nat) (hk : k < 5) (b : Bool) (h : m.testBit k = b) => bit_and x k (b := b) (by rw [bitB_five x k hk, hm]; exact h))
  rw [hm] at HPR HFS h31
  obtain ⟨s, hs⟩ : ∃ s : ByteArray, ⟨(printL m).toArray⟩ = s := ⟨_, rfl⟩
  rw [hs] at HPR HFS
  have HM := Lib.hid hm32
  have H31 := Lib.hid h31
  clear hm hm32 hs hT h31
  obtain ⟨i0, hi, hz0, hz1, hz2⟩ := info9
  have HFL := Lib.hid (fun (k : Nat) (hk : k < 5) w => flag_any w k hk)
  go_enter Tryd.func3, Tryd.ntmps3
  go_wp2_with (go_at_call 6; refine HA.out.mono ?_; rintro e w2 ⟨rfl, hb0⟩)
  have HB0 := Lib.hid hb0
  clear hb0
  go_loopw [3, 9] (fun v i wr => ∃ k : Nat, k ≤ 5 ∧ i = .int .i64 k ∧ Tx wr W.heap.size v (names m k) ∧ Below W.heap.size W wr) (fun _ i _ => 5 - (intOf i).toNat)
  case atStart => exact ⟨0, Nat.zero_le _, rfl, World.ownsRow_nil w2 _ _ 1, HB0.out⟩
  case round =>
    obtain ⟨k, hk, rfl, hTx, hb⟩ := hrel
    have hnl := names_len m k
    by_cases hk5 : k < 5
    · have HF := Lib.hid (HFL.out k hk5)
      have hX0 := HX.out k hk5
      obtain ⟨q, hq⟩ : ∃ q, nmS k = q := ⟨_, rfl⟩
      cases hbit : m.testBit k
      · have hX := hX0 _ hbit
        have HS := Lib.hid (names_off m k hbit)
        simp only [Bool.false_eq_true, if_false] at hX
        obtain ⟨l, hl⟩ : ∃ l, names m k = l := ⟨_, rfl⟩
        rw [hl] at hTx HS hnl
        clear hX0 hbit hq hl
        go_wp2
        exact ⟨⟨k + 1, hk5, by simp, by rw [HS.out]; exact hTx, hb⟩, by simp [intOf]; omega⟩
      · have hX := hX0 _ hbit
        have HS := Lib.hid (names_on m k hbit)
        simp only [if_true] at hX
        rw [hq] at HF HS
        obtain ⟨l, hl⟩ : ∃ l, names m k = l := ⟨_, rfl⟩
        rw [hl] at hTx HS hnl
        clear hX0 hbit hq hl
        go_wp2_with (first
          | (at_builtin; refine wpList_append_own _ rfl _ _ 23 rfl W.heap.size 9 i0 (.string ⟨#[]⟩) 1 16 Tryd.underlying23 hi hz0 hz1 hz2 rfl (by decide) _ _ _ rfl (World.ownsRow.alloc hTx _) ⟨wr.heap.size, 0, none⟩ 1 1 [.string q] rfl rfl ?c1 ?c2 ?c3 ?c4 ?c5 ?_)
          | (go_at_call 7; refine (HF.out _).mono ?_; rintro e w' ⟨rfl, hw⟩; replace hw := hw.symm; subst hw))
        case c1 =>
          intro j u hj
          match j, hj with
          | 0, hj => simp at hj; subst hj; simp [Addr.add]
        case c2 => intro u hu; simp at hu; subst hu; rfl
        case c3 => unfold maxLen; omega
        case c4 => omega
        case c5 => have := hb.size; simp; omega
        intro v' w1 hown hgrow _
        have hT1 : Tx w1 W.heap.size v' (l ++ [q]) := by
          unfold Tx svals
          rw [List.length_append, List.map_append]
          exact hown
        have hb1 : Below W.heap.size W w1 := (hb.alloc hb.size _).grown hgrow (by have := hb.size; simp; omega) (fun g hg => (World.ownsRow.lt hTx g hg).1)
        clear hown hgrow hTx hb
        go_wp2
        exact ⟨⟨k + 1, hk5, by simp, by rw [HS.out]; exact hT1, hb1⟩, by simp [intOf]; omega⟩
    · obtain rfl : k = 5 := by omega
      have hTr := HT.out.below hb
      have hpa := parse_any wr _ _ 9 _ (by omega) (hTx.strs (names_sizes m HM.out)) hTr
      have hno := names_ors m HM.out
      rw [fine_all hno.2, show parN (fun j => (names m 5).getD j ByteArray.empty) (names m 5).length = m by unfold parN; rw [fine_all hno.2, if_pos rfl, hno.1]] at hpa
      have HPA := Lib.hid hpa
      have HTR := Lib.hid hTr
      have HB := Lib.hid hb
      clear hpa hno hTr hTx hb
      have h31 := H31.out
      go_wp2_with (first
        | (go_at_call 8; refine HPA.out.mono ?_; rintro e w3 ⟨rfl, hb3⟩)
        | (go_at_call 9; refine (HPR.out _ (HTR.out.below hb3).names).mono ?_; rintro e w4 ⟨rfl, hb4⟩)
        | (go_at_call 10; refine (HFS.out _).mono ?_; rintro e w' ⟨rfl, hw⟩; replace hw := hw.symm; subst hw))
      go_ret
      exact ⟨rfl, HB.out.trans ((hb3.trans (hb4.mono hb3.size)).mono HB.out.size)⟩

set_option maxHeartbeats 6400000 in
theorem parses_walk (W : World) (a : Option Addr) (n cap : Nat) (X : Nat → ByteArray) (hX : Strs W (.slice a n cap) n maxLen X) (hn : n ≤ maxLen) (hT : Tab W) :
    Calls Tryd.prog 4 #[.slice a n cap] W fun e w' => e = .returned (.bool true) ∧ Below W.heap.size W w' := by
  have HA := Lib.hid (fun w h => awake_any w h)
  have HT := Lib.hid hT
  have HXS := Lib.hid hX
  have hn' := hn
  simp only [maxLen] at hn'
  clear hT hX hn
  by_cases h50 : 50 < n
  · have h50' : (50 : Int) < (n : Int) := by omega
    go_enter Tryd.func4, Tryd.ntmps4
    go_wp2_with (first
      | (go_at_call 6; refine (HA.out W HT.out.names).mono ?_; rintro e w2 ⟨rfl, hb2⟩)
      | (go_at_call 6; refine (HA.out w2 (HT.out.below hb2).names).mono ?_; rintro e w3 ⟨rfl, hb3⟩))
    go_ret
    exact ⟨rfl, hb2.trans (hb3.mono hb2.size)⟩
  · have h50' : ¬ (50 : Int) < (n : Int) := by omega
    rcases Nat.eq_zero_or_pos n with h0 | h0
    · subst h0
      go_enter Tryd.func4, Tryd.ntmps4
      go_wp2_with (go_at_call 6; refine (HA.out W HT.out.names).mono ?_; rintro e w2 ⟨rfl, hb2⟩)
      have HB := Lib.hid hb2
      have HT2 := Lib.hid (HT.out.below hb2)
      clear hb2
      go_loop [18] (fun x => x = .int .i64 0) (fun _ => 0)
      case atStart => exact rfl
      case round =>
        obtain rfl := hrel
        have hst := (⟨a, cap, rfl, fun h => absurd h (by omega)⟩ : Strs w2 (.slice a 0 cap) 0 1000 X)
        have hpa := fun hT => parse_any w2 _ 0 1000 X (by omega) hst hT
        have hna := fun (w3 : World) (hb : Below w2.heap.size w2 w3) => named_any w3 _ 0 1000 X (by omega) (Nat.le_refl _) (Strs.below hst hb)
        obtain ⟨m, hm⟩ : ∃ m, parN X 0 = m := ⟨_, rfl⟩
        obtain ⟨ok, hok⟩ : ∃ ok, fineB X 0 = ok := ⟨_, rfl⟩
        rw [hm, hok] at hpa
        simp only [hm, hok] at hna
        have HPA := Lib.hid (hpa HT2.out)
        have HNA := Lib.hid hna
        clear hpa hna hst hm hok
        cases ok
        all_goals
          go_wp2_with (first
            | (go_at_call 8; refine HPA.out.mono ?_; rintro e w3 ⟨rfl, hb3⟩)
            | (go_at_call 11; refine (HNA.out _ hb3).mono ?_; rintro e w4 ⟨rfl, hb4⟩))
          go_ret
          exact ⟨rfl, HB.out.trans ((hb3.trans (hb4.mono hb3.size)).mono HB.out.size)⟩
    · obtain ⟨a', cap', hv, hh⟩ := HXS.out
      obtain ⟨b, o, ha, hlt, hc⟩ := hh h0
      obtain ⟨rfl, -, rfl⟩ : a = a' ∧ n = n ∧ cap = cap' := by simpa using hv
      subst ha
      have HLT := Lib.hid hlt
      have HC := Lib.hid hc
      clear hh hv hlt hc h0
      go_enter Tryd.func4, Tryd.ntmps4
      go_wp2_with (go_at_call 6; refine (HA.out W HT.out.names).mono ?_; rintro e w2 ⟨rfl, hb2⟩)
      have HB := Lib.hid hb2
      have HT2 := Lib.hid (HT.out.below hb2)
      have HC2 := Lib.hid (show ∀ j, j < n → w2.cell? ⟨b, o + j, none⟩ = some (.string (X j)) ∧ (X j).size ≤ maxLen from fun j hj => ⟨(hb2.cell (p := ⟨b, o + j, none⟩) HLT.out).trans (HC.out j hj).1, (HC.out j hj).2⟩)
      have HL2 := Lib.hid (Nat.lt_of_lt_of_le HLT.out hb2.size)
      clear hb2
      go_loop [18] (fun x => ∃ i : Nat, i ≤ n ∧ x = .int .i64 i ∧ Hid (∀ j, j < i → (X j).size ≤ 100)) (fun x => n - (intOf x).toNat)
      case atStart => exact ⟨0, Nat.zero_le _, rfl, fun j h => absurd h (Nat.not_lt_zero _)⟩
      case round =>
        obtain ⟨i, hi, rfl, hh⟩ := hrel
        by_cases hin : i < n
        · have hcr := (HC2.out i hin).1
          have hsz := (HC2.out i hin).2
          have HH2 := Lib.hid (show (X i).size ≤ 100 → ∀ j, j < i + 1 → (X j).size ≤ 100 by
            intro h j hj
            rcases Nat.lt_succ_iff_lt_or_eq.1 hj with h' | rfl
            · exact hh.out j h'
            · exact h)
          have k1 : (0 : Int) ≤ (i : Int) := by omega
          have k2 : (i : Int) < (n : Int) := by omega
          obtain ⟨s, hs⟩ : ∃ s, X i = s := ⟨_, rfl⟩
          rw [hs] at hcr hsz HH2
          clear hs
          by_cases h100 : 100 < s.size
          · have h1 : (100 : Int) < (s.size : Int) := by omega
            go_wp2
            go_ret
            exact ⟨rfl, HB.out⟩
          · have h1 : ¬ (100 : Int) < (s.size : Int) := by omega
            have HN := Lib.hid (HH2.out (by omega))
            clear HH2
            go_wp2
            exact ⟨⟨i + 1, hin, by simp, HN.out⟩, by simp [intOf]; omega⟩
        · obtain rfl : i = n := by omega
          have hst := (⟨_, cap, rfl, fun _ => ⟨b, o, rfl, HL2.out, fun j hj => ⟨(HC2.out j hj).1, Nat.le_trans (hh.out j hj) (by omega)⟩⟩⟩ : Strs w2 (.slice (some ⟨b, o, none⟩) i cap) i 1000 X)
          have hpa := fun hT => parse_any w2 _ i 1000 X (by omega) hst hT
          have hna := fun (w3 : World) (hb : Below w2.heap.size w2 w3) => named_any w3 _ i 1000 X (by omega) (Nat.le_refl _) (Strs.below hst hb)
          obtain ⟨m, hm⟩ : ∃ m, parN X i = m := ⟨_, rfl⟩
          obtain ⟨ok, hok⟩ : ∃ ok, fineB X i = ok := ⟨_, rfl⟩
          rw [hm, hok] at hpa
          simp only [hm, hok] at hna
          have HPA := Lib.hid (hpa HT2.out)
          have HNA := Lib.hid hna
          clear hpa hna hst hm hok
          cases ok
          all_goals
            go_wp2_with (first
              | (go_at_call 8; refine HPA.out.mono ?_; rintro e w3 ⟨rfl, hb3⟩)
              | (go_at_call 11; refine (HNA.out _ hb3).mono ?_; rintro e w4 ⟨rfl, hb4⟩))
            go_ret
            exact ⟨rfl, HB.out.trans ((hb3.trans (hb4.mono hb3.size)).mono HB.out.size)⟩
end Go.Proofs.YtbhhcijfciapgaaDoor.flg
