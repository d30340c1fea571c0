/- A text's time, as the program reads it. -/
import Derived.Test.YtehecgkmckoolaaDoorDatF
namespace Go.Proofs.YtehecgkmckoolaaDoor.dat
open Go.ChangeShapes Go.WideShapes Go.ChangeAt Go.RowKit
open Go.Lib (dg itoa byteCells strCells)
set_option linter.unusedVariables false
set_option linter.unusedSimpArgs false

theorem zonV_in (s : ByteArray) (o : Option Nat) : -400000 ≤ zonV s o ∧ zonV s o ≤ 400000 := by
  have h1 : zonH s o < 100 := numV_lt s 2 _
  have h2 : zonM s o < 100 := numV_lt s 2 _
  unfold zonV
  split
  · omega
  · split <;> omega
/-- What is answered of s. -/
def Ans (w : World) (s : ByteArray) (e : Ending) (w' : World) : Prop := ∃ t ok, e = .returned (.tuple #[.int .i64 t, .bool ok]) ∧ Par s t ok ∧ Below w.heap.size w w'
theorem Ans.mk {w : World} {s : ByteArray} {e : Ending} {w' : World} (t : Int) (ok : Bool) (h1 : e = .returned (.tuple #[.int .i64 t, .bool ok])) (h2 : Par s t ok) (h3 : Below w.heap.size w w') : Ans w s e w' := ⟨t, ok, h1, h2, h3⟩
set_option maxHeartbeats 6400000 in
theorem parse_any (w : World) (s : ByteArray) (hz : s.size ≤ 1000) (hF : Fold w) :
    Calls Tryd.prog 9 #[.string s] w (Ans w s) := by
  have c1 := fun (w1 : World) (h : St w1 w.heap.size s (some 0)) => day_take w1 w.heap.size s hz h
  have c2 := fun (w1 : World) (h : St w1 w.heap.size s (dayO s)) => mark_any w1 w.heap.size s (dayO s) 45 (by omega) hz h
  have c3 := fun (w1 : World) (h : St w1 w.heap.size s (o2 s)) (hb : Below w.heap.size w w1) => month_take w1 w.heap.size s (o2 s) hz h (hF.below hb) (fun w' hb' => hF.below (hb.trans hb'))
  have c4 := fun (w1 : World) (h : St w1 w.heap.size s (monO s (o2 s))) => mark_any w1 w.heap.size s (monO s (o2 s)) 45 (by omega) hz h
  have c5 := fun (w1 : World) (h : St w1 w.heap.size s (o4 s)) => num_any w1 w.heap.size s (o4 s) 4 9999 (by omega) (by omega) hz (by omega) h
  have c6 := fun (w1 : World) (h : St w1 w.heap.size s (numO s 4 9999 (o4 s))) => mark_any w1 w.heap.size s (numO s 4 9999 (o4 s)) 32 (by omega) hz h
  have c7 := fun (w1 : World) (h : St w1 w.heap.size s (o6 s)) => num_any w1 w.heap.size s (o6 s) 2 23 (by omega) (by omega) hz (by omega) h
  have c8 := fun (w1 : World) (h : St w1 w.heap.size s (numO s 2 23 (o6 s))) => mark_any w1 w.heap.size s (numO s 2 23 (o6 s)) 58 (by omega) hz h
  have c9 := fun (w1 : World) (h : St w1 w.heap.size s (o8 s)) => num_any w1 w.heap.size s (o8 s) 2 59 (by omega) (by omega) hz (by omega) h
  have c10 := fun (w1 : World) (h : St w1 w.heap.size s (numO s 2 59 (o8 s))) => mark_any w1 w.heap.size s (numO s 2 59 (o8 s)) 58 (by omega) hz h
  have c11 := fun (w1 : World) (h : St w1 w.heap.size s (o10 s)) => num_any w1 w.heap.size s (o10 s) 2 59 (by omega) (by omega) hz (by omega) h
  have c12 := fun (w1 : World) (h : St w1 w.heap.size s (numO s 2 59 (o10 s))) => mark_any w1 w.heap.size s (numO s 2 59 (o10 s)) 32 (by omega) hz h
  have c13 := fun (w1 : World) (h : St w1 w.heap.size s (o12 s)) => zone_take w1 w.heap.size s (o12 s) hz h
  have c14 := fun (w1 : World) (h : St w1 w.heap.size s (o13 s)) => done_any w1 w.heap.size s (o13 s) hz h
  rw [show mk s 45 (dayO s) = o2 s from rfl] at c2
  rw [show mk s 45 (monO s (o2 s)) = o4 s from rfl] at c4
  rw [show mk s 32 (numO s 4 9999 (o4 s)) = o6 s from rfl] at c6
  rw [show mk s 58 (numO s 2 23 (o6 s)) = o8 s from rfl] at c8
  rw [show mk s 58 (numO s 2 59 (o8 s)) = o10 s from rfl] at c10
  rw [show mk s 32 (numO s 2 59 (o10 s)) = o12 s from rfl] at c12
  rw [show zonO s (o12 s) = o13 s from rfl] at c13
  have bD := dayV_lt s
  have bM := monV_le s (o2 s)
  have bY := numV_lt s 4 (o4 s)
  have bH := numV_lt s 2 (o6 s)
  have bI := numV_lt s 2 (o8 s)
  have bE := numV_lt s 2 (o10 s)
  have bZ := zonV_in s (o12 s)
  have hfm := fun h => chain_fm (s := s) h
  have hno : o13 s ≠ some s.size → ∀ d m y h i e zh zm, Fm s d m y h i e zh zm → ¬ d ≤ daysN y m := fun hn d m y h i e zh zm f hd => hn (chain_of f hd)
  obtain ⟨D, hD⟩ : ∃ x, dayV s = x := ⟨_, rfl⟩
  obtain ⟨M, hM⟩ : ∃ x, monV s (o2 s) = x := ⟨_, rfl⟩
  obtain ⟨Y, hY⟩ : ∃ x, numV s 4 (o4 s) = x := ⟨_, rfl⟩
  obtain ⟨H, hH⟩ : ∃ x, numV s 2 (o6 s) = x := ⟨_, rfl⟩
  obtain ⟨I, hI⟩ : ∃ x, numV s 2 (o8 s) = x := ⟨_, rfl⟩
  obtain ⟨E, hE⟩ : ∃ x, numV s 2 (o10 s) = x := ⟨_, rfl⟩
  obtain ⟨Z, hZ⟩ : ∃ x, zonV s (o12 s) = x := ⟨_, rfl⟩
  rw [hD] at c1 bD
  rw [hM] at c3 bM
  rw [hY] at c5 bY
  rw [hH] at c7 bH
  rw [hI] at c9 bI
  rw [hE] at c11 bE
  rw [hZ] at c13 bZ
  rw [hD, hM, hY, hH, hI, hE, hZ] at hfm
  have C1 := Lib.hid c1; have C2 := Lib.hid c2; have C3 := Lib.hid c3; have C4 := Lib.hid c4; have C5 := Lib.hid c5; have C6 := Lib.hid c6; have C7 := Lib.hid c7; have C8 := Lib.hid c8; have C9 := Lib.hid c9; have C10 := Lib.hid c10; have C11 := Lib.hid c11; have C12 := Lib.hid c12; have C13 := Lib.hid c13; have C14 := Lib.hid c14
  have HFM := Lib.hid hfm; have HNO := Lib.hid hno
  clear c1 c2 c3 c4 c5 c6 c7 c8 c9 c10 c11 c12 c13 c14 hfm hno hD hM hY hH hI hE hZ hF
  have hY4 : Y < 10000 := bY
  have hlen := Lib.hid (fun w => length_any w Y M (by omega) (by omega))
  have hdo := Lib.hid (fun w (h0 : 1 ≤ M) => dayOf_any w Y M D (by omega) h0 bM (by omega))
  have hti := Lib.hid (fun w => isTime_any w ((nY Y + D - 1 + (cum Y (M - 1) : Nat)) * 86400 + H * 3600 + I * 60 + E - Z))
  have hst0 : St (w.alloc (.cells #[.string s, .bool false] 40)) w.heap.size s (some 0) := ⟨Nat.zero_le _, by rw [heap_alloc_new]; simp⟩
  have hst := hst0
  have hb : Below w.heap.size w (w.alloc (.cells #[.string s, .bool false] 40)) := (Below.refl _ _).alloc (Nat.le_refl _) _
  clear hst0
  by_cases hdn : o13 s = some s.size
  · rw [decide_eq_true hdn] at C14
    obtain ⟨hf, hz13⟩ := HFM.out hdn
    have hM1 : 1 ≤ M := by have := hf.m0; omega
    have hK1 := nY_bounds Y (by omega)
    have hK2 := cum_le Y (M - 1)
    have hT : timeOf s D M Y H I E (zonH s (o12 s)) (zonM s (o12 s)) = (nY Y + D - 1 + (cum Y (M - 1) : Nat)) * 86400 + H * 3600 + I * 60 + E - Z := by
      unfold timeOf
      rw [hz13]
    have huniq : ∀ d m y h i e zh zm, Fm s d m y h i e zh zm → d = D ∧ m = M ∧ y = Y ∧ timeOf s d m y h i e zh zm = timeOf s D M Y H I E (zonH s (o12 s)) (zonM s (o12 s)) := fun d m y h i e zh zm f => by
      obtain ⟨rfl, rfl, rfl, rfl, rfl, rfl, rfl, rfl⟩ := f.same hf
      exact ⟨rfl, rfl, rfl, rfl⟩
    have hyes : 1 ≤ D → D ≤ daysN Y M → ∀ T, T = (nY Y + D - 1 + (cum Y (M - 1) : Nat)) * 86400 + H * 3600 + I * 60 + E - Z → 0 ≤ T ∧ T ≤ 253402300799 → Par s T true := fun h1 h2 T h3 h4 =>
      .inl ⟨rfl, D, M, Y, H, I, E, _, _, hf, h1, h2, h3.trans hT.symm, h4.1, h4.2⟩
    have hnon : (D < 1 ∨ daysN Y M < D ∨ ¬ (0 ≤ (nY Y + D - 1 + (cum Y (M - 1) : Nat)) * 86400 + H * 3600 + I * 60 + E - Z ∧ (nY Y + D - 1 + (cum Y (M - 1) : Nat)) * 86400 + H * 3600 + I * 60 + E - Z ≤ 253402300799)) → Par s 0 false := fun hh =>
      par_none fun d m y h i e zh zm f h1 h2 h3 h4 => by
        obtain ⟨rfl, rfl, rfl, ht⟩ := huniq d m y h i e zh zm f
        rw [ht, hT] at h3 h4
        omega
    obtain ⟨K, hK⟩ : ∃ K, nY Y + (D : Int) - 1 + ((cum Y (M - 1) : Nat) : Int) = K := ⟨_, rfl⟩
    have hKb : -720000 ≤ K ∧ K ≤ 2934000 := by omega
    rw [hK] at hyes hnon hdo hti
    have HY := Lib.hid hyes
    have HN := Lib.hid hnon
    obtain ⟨l, hl⟩ : ∃ l, daysN Y M = l := ⟨_, rfl⟩
    rw [hl] at HY HN hlen
    have hl31 : l ≤ 31 := by have := (daysN_pos Y M).2; omega
    clear hdn hf hz13 hK1 hK2 hT huniq hyes hnon hK hl HFM HNO
    by_cases hD1 : D < 1
    · have hpar := Lib.hid (HN.out (.inl hD1))
      go_enter Tryd.func9, Tryd.ntmps9
      go_wp2_with (first
      | (go_at_call 23; with_reducible refine Calls.mono (C1.out _ hst) ?_; clear hst; rintro e w1 ⟨rfl, hst, hb1⟩; replace hb := hb.trans hb1; clear hb1)
      | (go_at_call 24; with_reducible refine Calls.mono (C2.out _ hst) ?_; clear hst; rintro e w1 ⟨rfl, hst, hb1⟩; replace hb := hb.trans hb1; clear hb1)
      | (go_at_call 25; with_reducible refine Calls.mono (C3.out _ hst hb) ?_; clear hst; rintro e w1 ⟨rfl, hst, hb1⟩; replace hb := hb.trans hb1; clear hb1)
      | (go_at_call 24; with_reducible refine Calls.mono (C4.out _ hst) ?_; clear hst; rintro e w1 ⟨rfl, hst, hb1⟩; replace hb := hb.trans hb1; clear hb1)
      | (go_at_call 26; with_reducible refine Calls.mono (C5.out _ hst) ?_; clear hst; rintro e w1 ⟨rfl, hst, hb1⟩; replace hb := hb.trans hb1; clear hb1)
      | (go_at_call 24; with_reducible refine Calls.mono (C6.out _ hst) ?_; clear hst; rintro e w1 ⟨rfl, hst, hb1⟩; replace hb := hb.trans hb1; clear hb1)
      | (go_at_call 26; with_reducible refine Calls.mono (C7.out _ hst) ?_; clear hst; rintro e w1 ⟨rfl, hst, hb1⟩; replace hb := hb.trans hb1; clear hb1)
      | (go_at_call 24; with_reducible refine Calls.mono (C8.out _ hst) ?_; clear hst; rintro e w1 ⟨rfl, hst, hb1⟩; replace hb := hb.trans hb1; clear hb1)
      | (go_at_call 26; with_reducible refine Calls.mono (C9.out _ hst) ?_; clear hst; rintro e w1 ⟨rfl, hst, hb1⟩; replace hb := hb.trans hb1; clear hb1)
      | (go_at_call 24; with_reducible refine Calls.mono (C10.out _ hst) ?_; clear hst; rintro e w1 ⟨rfl, hst, hb1⟩; replace hb := hb.trans hb1; clear hb1)
      | (go_at_call 26; with_reducible refine Calls.mono (C11.out _ hst) ?_; clear hst; rintro e w1 ⟨rfl, hst, hb1⟩; replace hb := hb.trans hb1; clear hb1)
      | (go_at_call 24; with_reducible refine Calls.mono (C12.out _ hst) ?_; clear hst; rintro e w1 ⟨rfl, hst, hb1⟩; replace hb := hb.trans hb1; clear hb1)
      | (go_at_call 27; with_reducible refine Calls.mono (C13.out _ hst) ?_; clear hst; rintro e w1 ⟨rfl, hst, hb1⟩; replace hb := hb.trans hb1; clear hb1)
      | (go_at_call 28; with_reducible refine Calls.mono (C14.out _ hst) ?_; rintro e w1 ⟨rfl, hw⟩; replace hw := hw.symm; subst hw)
      | (go_at_call 29; with_reducible refine Calls.mono (hlen.out _) ?_; rintro e w1 ⟨rfl, hw⟩; replace hw := hw.symm; subst hw)
      | (go_at_call 30; with_reducible refine Calls.mono (hdo.out _ hM1) ?_; rintro e w1 ⟨rfl, hw⟩; replace hw := hw.symm; subst hw)
      | (go_at_call 12; refine Calls.mono (hti.out _) ?_; rintro e w1 ⟨rfl, hw⟩; replace hw := hw.symm; subst hw))
      go_ret2
      exact Ans.mk 0 false rfl hpar.out hb
    · by_cases hDl : l < D
      · have hpar := Lib.hid (HN.out (.inr (.inl hDl)))
        go_enter Tryd.func9, Tryd.ntmps9
        go_wp2_with (first
      | (go_at_call 23; with_reducible refine Calls.mono (C1.out _ hst) ?_; clear hst; rintro e w1 ⟨rfl, hst, hb1⟩; replace hb := hb.trans hb1; clear hb1)
      | (go_at_call 24; with_reducible refine Calls.mono (C2.out _ hst) ?_; clear hst; rintro e w1 ⟨rfl, hst, hb1⟩; replace hb := hb.trans hb1; clear hb1)
      | (go_at_call 25; with_reducible refine Calls.mono (C3.out _ hst hb) ?_; clear hst; rintro e w1 ⟨rfl, hst, hb1⟩; replace hb := hb.trans hb1; clear hb1)
      | (go_at_call 24; with_reducible refine Calls.mono (C4.out _ hst) ?_; clear hst; rintro e w1 ⟨rfl, hst, hb1⟩; replace hb := hb.trans hb1; clear hb1)
      | (go_at_call 26; with_reducible refine Calls.mono (C5.out _ hst) ?_; clear hst; rintro e w1 ⟨rfl, hst, hb1⟩; replace hb := hb.trans hb1; clear hb1)
      | (go_at_call 24; with_reducible refine Calls.mono (C6.out _ hst) ?_; clear hst; rintro e w1 ⟨rfl, hst, hb1⟩; replace hb := hb.trans hb1; clear hb1)
      | (go_at_call 26; with_reducible refine Calls.mono (C7.out _ hst) ?_; clear hst; rintro e w1 ⟨rfl, hst, hb1⟩; replace hb := hb.trans hb1; clear hb1)
      | (go_at_call 24; with_reducible refine Calls.mono (C8.out _ hst) ?_; clear hst; rintro e w1 ⟨rfl, hst, hb1⟩; replace hb := hb.trans hb1; clear hb1)
      | (go_at_call 26; with_reducible refine Calls.mono (C9.out _ hst) ?_; clear hst; rintro e w1 ⟨rfl, hst, hb1⟩; replace hb := hb.trans hb1; clear hb1)
      | (go_at_call 24; with_reducible refine Calls.mono (C10.out _ hst) ?_; clear hst; rintro e w1 ⟨rfl, hst, hb1⟩; replace hb := hb.trans hb1; clear hb1)
      | (go_at_call 26; with_reducible refine Calls.mono (C11.out _ hst) ?_; clear hst; rintro e w1 ⟨rfl, hst, hb1⟩; replace hb := hb.trans hb1; clear hb1)
      | (go_at_call 24; with_reducible refine Calls.mono (C12.out _ hst) ?_; clear hst; rintro e w1 ⟨rfl, hst, hb1⟩; replace hb := hb.trans hb1; clear hb1)
      | (go_at_call 27; with_reducible refine Calls.mono (C13.out _ hst) ?_; clear hst; rintro e w1 ⟨rfl, hst, hb1⟩; replace hb := hb.trans hb1; clear hb1)
      | (go_at_call 28; with_reducible refine Calls.mono (C14.out _ hst) ?_; rintro e w1 ⟨rfl, hw⟩; replace hw := hw.symm; subst hw)
      | (go_at_call 29; with_reducible refine Calls.mono (hlen.out _) ?_; rintro e w1 ⟨rfl, hw⟩; replace hw := hw.symm; subst hw)
      | (go_at_call 30; with_reducible refine Calls.mono (hdo.out _ hM1) ?_; rintro e w1 ⟨rfl, hw⟩; replace hw := hw.symm; subst hw)
      | (go_at_call 12; refine Calls.mono (hti.out _) ?_; rintro e w1 ⟨rfl, hw⟩; replace hw := hw.symm; subst hw))
        go_ret2
        exact Ans.mk 0 false rfl hpar.out hb
      · by_cases hT : 0 ≤ K * 86400 + H * 3600 + I * 60 + E - Z ∧ K * 86400 + H * 3600 + I * 60 + E - Z ≤ 253402300799
        · rw [decide_eq_true hT] at hti
          have hpar := Lib.hid (HY.out (by omega) (by omega) _ rfl hT)
          clear hT
          go_enter Tryd.func9, Tryd.ntmps9
          go_wp2_with (first
      | (go_at_call 23; with_reducible refine Calls.mono (C1.out _ hst) ?_; clear hst; rintro e w1 ⟨rfl, hst, hb1⟩; replace hb := hb.trans hb1; clear hb1)
      | (go_at_call 24; with_reducible refine Calls.mono (C2.out _ hst) ?_; clear hst; rintro e w1 ⟨rfl, hst, hb1⟩; replace hb := hb.trans hb1; clear hb1)
      | (go_at_call 25; with_reducible refine Calls.mono (C3.out _ hst hb) ?_; clear hst; rintro e w1 ⟨rfl, hst, hb1⟩; replace hb := hb.trans hb1; clear hb1)
      | (go_at_call 24; with_reducible refine Calls.mono (C4.out _ hst) ?_; clear hst; rintro e w1 ⟨rfl, hst, hb1⟩; replace hb := hb.trans hb1; clear hb1)
      | (go_at_call 26; with_reducible refine Calls.mono (C5.out _ hst) ?_; clear hst; rintro e w1 ⟨rfl, hst, hb1⟩; replace hb := hb.trans hb1; clear hb1)
      | (go_at_call 24; with_reducible refine Calls.mono (C6.out _ hst) ?_; clear hst; rintro e w1 ⟨rfl, hst, hb1⟩; replace hb := hb.trans hb1; clear hb1)
      | (go_at_call 26; with_reducible refine Calls.mono (C7.out _ hst) ?_; clear hst; rintro e w1 ⟨rfl, hst, hb1⟩; replace hb := hb.trans hb1; clear hb1)
      | (go_at_call 24; with_reducible refine Calls.mono (C8.out _ hst) ?_; clear hst; rintro e w1 ⟨rfl, hst, hb1⟩; replace hb := hb.trans hb1; clear hb1)
      | (go_at_call 26; with_reducible refine Calls.mono (C9.out _ hst) ?_; clear hst; rintro e w1 ⟨rfl, hst, hb1⟩; replace hb := hb.trans hb1; clear hb1)
      | (go_at_call 24; with_reducible refine Calls.mono (C10.out _ hst) ?_; clear hst; rintro e w1 ⟨rfl, hst, hb1⟩; replace hb := hb.trans hb1; clear hb1)
      | (go_at_call 26; with_reducible refine Calls.mono (C11.out _ hst) ?_; clear hst; rintro e w1 ⟨rfl, hst, hb1⟩; replace hb := hb.trans hb1; clear hb1)
      | (go_at_call 24; with_reducible refine Calls.mono (C12.out _ hst) ?_; clear hst; rintro e w1 ⟨rfl, hst, hb1⟩; replace hb := hb.trans hb1; clear hb1)
      | (go_at_call 27; with_reducible refine Calls.mono (C13.out _ hst) ?_; clear hst; rintro e w1 ⟨rfl, hst, hb1⟩; replace hb := hb.trans hb1; clear hb1)
      | (go_at_call 28; with_reducible refine Calls.mono (C14.out _ hst) ?_; rintro e w1 ⟨rfl, hw⟩; replace hw := hw.symm; subst hw)
      | (go_at_call 29; with_reducible refine Calls.mono (hlen.out _) ?_; rintro e w1 ⟨rfl, hw⟩; replace hw := hw.symm; subst hw)
      | (go_at_call 30; with_reducible refine Calls.mono (hdo.out _ hM1) ?_; rintro e w1 ⟨rfl, hw⟩; replace hw := hw.symm; subst hw)
      | (go_at_call 12; refine Calls.mono (hti.out _) ?_; rintro e w1 ⟨rfl, hw⟩; replace hw := hw.symm; subst hw))
          go_ret2
          exact Ans.mk _ true rfl hpar.out hb
        · have hpar := Lib.hid (HN.out (.inr (.inr hT)))
          rw [decide_eq_false hT] at hti
          clear hT
          go_enter Tryd.func9, Tryd.ntmps9
          go_wp2_with (first
      | (go_at_call 23; with_reducible refine Calls.mono (C1.out _ hst) ?_; clear hst; rintro e w1 ⟨rfl, hst, hb1⟩; replace hb := hb.trans hb1; clear hb1)
      | (go_at_call 24; with_reducible refine Calls.mono (C2.out _ hst) ?_; clear hst; rintro e w1 ⟨rfl, hst, hb1⟩; replace hb := hb.trans hb1; clear hb1)
      | (go_at_call 25; with_reducible refine Calls.mono (C3.out _ hst hb) ?_; clear hst; rintro e w1 ⟨rfl, hst, hb1⟩; replace hb := hb.trans hb1; clear hb1)
      | (go_at_call 24; with_reducible refine Calls.mono (C4.out _ hst) ?_; clear hst; rintro e w1 ⟨rfl, hst, hb1⟩; replace hb := hb.trans hb1; clear hb1)
      | (go_at_call 26; with_reducible refine Calls.mono (C5.out _ hst) ?_; clear hst; rintro e w1 ⟨rfl, hst, hb1⟩; replace hb := hb.trans hb1; clear hb1)
      | (go_at_call 24; with_reducible refine Calls.mono (C6.out _ hst) ?_; clear hst; rintro e w1 ⟨rfl, hst, hb1⟩; replace hb := hb.trans hb1; clear hb1)
      | (go_at_call 26; with_reducible refine Calls.mono (C7.out _ hst) ?_; clear hst; rintro e w1 ⟨rfl, hst, hb1⟩; replace hb := hb.trans hb1; clear hb1)
      | (go_at_call 24; with_reducible refine Calls.mono (C8.out _ hst) ?_; clear hst; rintro e w1 ⟨rfl, hst, hb1⟩; replace hb := hb.trans hb1; clear hb1)
      | (go_at_call 26; with_reducible refine Calls.mono (C9.out _ hst) ?_; clear hst; rintro e w1 ⟨rfl, hst, hb1⟩; replace hb := hb.trans hb1; clear hb1)
      | (go_at_call 24; with_reducible refine Calls.mono (C10.out _ hst) ?_; clear hst; rintro e w1 ⟨rfl, hst, hb1⟩; replace hb := hb.trans hb1; clear hb1)
      | (go_at_call 26; with_reducible refine Calls.mono (C11.out _ hst) ?_; clear hst; rintro e w1 ⟨rfl, hst, hb1⟩; replace hb := hb.trans hb1; clear hb1)
      | (go_at_call 24; with_reducible refine Calls.mono (C12.out _ hst) ?_; clear hst; rintro e w1 ⟨rfl, hst, hb1⟩; replace hb := hb.trans hb1; clear hb1)
      | (go_at_call 27; with_reducible refine Calls.mono (C13.out _ hst) ?_; clear hst; rintro e w1 ⟨rfl, hst, hb1⟩; replace hb := hb.trans hb1; clear hb1)
      | (go_at_call 28; with_reducible refine Calls.mono (C14.out _ hst) ?_; rintro e w1 ⟨rfl, hw⟩; replace hw := hw.symm; subst hw)
      | (go_at_call 29; with_reducible refine Calls.mono (hlen.out _) ?_; rintro e w1 ⟨rfl, hw⟩; replace hw := hw.symm; subst hw)
      | (go_at_call 30; with_reducible refine Calls.mono (hdo.out _ hM1) ?_; rintro e w1 ⟨rfl, hw⟩; replace hw := hw.symm; subst hw)
      | (go_at_call 12; refine Calls.mono (hti.out _) ?_; rintro e w1 ⟨rfl, hw⟩; replace hw := hw.symm; subst hw))
          go_ret2
          exact Ans.mk 0 false rfl hpar.out hb
  · rw [decide_eq_false hdn] at C14
    have hpar : Par s 0 false := par_none fun d m y h i e zh zm f h1 h2 _ _ => HNO.out hdn d m y h i e zh zm f h2
    have HPAR := Lib.hid hpar
    clear hdn hpar
    go_enter Tryd.func9, Tryd.ntmps9
    go_wp2_with (first
      | (go_at_call 23; with_reducible refine Calls.mono (C1.out _ hst) ?_; clear hst; rintro e w1 ⟨rfl, hst, hb1⟩; replace hb := hb.trans hb1; clear hb1)
      | (go_at_call 24; with_reducible refine Calls.mono (C2.out _ hst) ?_; clear hst; rintro e w1 ⟨rfl, hst, hb1⟩; replace hb := hb.trans hb1; clear hb1)
      | (go_at_call 25; with_reducible refine Calls.mono (C3.out _ hst hb) ?_; clear hst; rintro e w1 ⟨rfl, hst, hb1⟩; replace hb := hb.trans hb1; clear hb1)
      | (go_at_call 24; with_reducible refine Calls.mono (C4.out _ hst) ?_; clear hst; rintro e w1 ⟨rfl, hst, hb1⟩; replace hb := hb.trans hb1; clear hb1)
      | (go_at_call 26; with_reducible refine Calls.mono (C5.out _ hst) ?_; clear hst; rintro e w1 ⟨rfl, hst, hb1⟩; replace hb := hb.trans hb1; clear hb1)
      | (go_at_call 24; with_reducible refine Calls.mono (C6.out _ hst) ?_; clear hst; rintro e w1 ⟨rfl, hst, hb1⟩; replace hb := hb.trans hb1; clear hb1)
      | (go_at_call 26; with_reducible refine Calls.mono (C7.out _ hst) ?_; clear hst; rintro e w1 ⟨rfl, hst, hb1⟩; replace hb := hb.trans hb1; clear hb1)
      | (go_at_call 24; with_reducible refine Calls.mono (C8.out _ hst) ?_; clear hst; rintro e w1 ⟨rfl, hst, hb1⟩; replace hb := hb.trans hb1; clear hb1)
      | (go_at_call 26; with_reducible refine Calls.mono (C9.out _ hst) ?_; clear hst; rintro e w1 ⟨rfl, hst, hb1⟩; replace hb := hb.trans hb1; clear hb1)
      | (go_at_call 24; with_reducible refine Calls.mono (C10.out _ hst) ?_; clear hst; rintro e w1 ⟨rfl, hst, hb1⟩; replace hb := hb.trans hb1; clear hb1)
      | (go_at_call 26; with_reducible refine Calls.mono (C11.out _ hst) ?_; clear hst; rintro e w1 ⟨rfl, hst, hb1⟩; replace hb := hb.trans hb1; clear hb1)
      | (go_at_call 24; with_reducible refine Calls.mono (C12.out _ hst) ?_; clear hst; rintro e w1 ⟨rfl, hst, hb1⟩; replace hb := hb.trans hb1; clear hb1)
      | (go_at_call 27; with_reducible refine Calls.mono (C13.out _ hst) ?_; clear hst; rintro e w1 ⟨rfl, hst, hb1⟩; replace hb := hb.trans hb1; clear hb1)
      | (go_at_call 28; with_reducible refine Calls.mono (C14.out _ hst) ?_; rintro e w1 ⟨rfl, hw⟩; replace hw := hw.symm; subst hw)
      | (go_at_call 29; with_reducible refine Calls.mono (hlen.out _) ?_; rintro e w1 ⟨rfl, hw⟩; replace hw := hw.symm; subst hw)
      | (go_at_call 30; with_reducible refine Calls.mono (hdo.out _ hM1) ?_; rintro e w1 ⟨rfl, hw⟩; replace hw := hw.symm; subst hw)
      | (go_at_call 12; refine Calls.mono (hti.out _) ?_; rintro e w1 ⟨rfl, hw⟩; replace hw := hw.symm; subst hw))
    go_ret2
    exact Ans.mk 0 false rfl HPAR.out hb
end Go.Proofs.YtehecgkmckoolaaDoor.dat
