/- The numbers, the day and the zone that the reader takes. -/
import Derived.Test.YtehecgkmckoolaaDoorDatR
namespace Go.Proofs.YtehecgkmckoolaaDoor.dat
open Go.ChangeShapes Go.WideShapes Go.ChangeAt Go.RowKit
open Go.Lib (dg itoa byteCells strCells)
set_option linter.unusedVariables false
set_option linter.unusedSimpArgs false

theorem num_none (w : World) (p : Nat) (s : ByteArray) (o : Option Nat) (d most : Nat) (hd : d ≤ 4) (hz : s.size ≤ 1000) (hm : most ≤ 9999) (h : St w p s o) (hn : tk s d o = none) (ht : tkS s d o = ⟨#[]⟩) (hv : numV s d o = 0) (ho : numO s d most o = none) :
    Calls Tryd.prog 26 #[.pointer (some ⟨p, 0, none⟩), .int .i64 d, .int .i64 most] w fun e w' => e = .returned (.int .i64 (numV s d o : Nat)) ∧ St w' p s (numO s d most o) ∧ Below p w w' := by
  have hT := take_any w p s o d (by omega) hz h
  rw [hn, ht] at hT
  have HT := Lib.hid hT
  clear hT hn ht
  rw [hv, ho]
  clear hv ho
  go_enter Tryd.func26, Tryd.ntmps26
  go_wp2_with (go_at_call 36; refine HT.out.mono ?_; rintro e w1 ⟨rfl, hst, hb⟩)
  go_loop [8, 15] (fun x i => x = .int .i64 0 ∧ i = .int .i64 0) (fun _ i => 0)
  case atStart => exact ⟨rfl, rfl⟩
  case round =>
    obtain ⟨rfl, rfl⟩ := hrel
    go_wp2
    go_ret
    exact ⟨rfl, hst, hb⟩
set_option maxHeartbeats 1600000 in
theorem num_any (w : World) (p : Nat) (s : ByteArray) (o : Option Nat) (d most : Nat) (hd0 : 1 ≤ d) (hd : d ≤ 4) (hz : s.size ≤ 1000) (hm : most ≤ 9999) (h : St w p s o) :
    Calls Tryd.prog 26 #[.pointer (some ⟨p, 0, none⟩), .int .i64 d, .int .i64 most] w fun e w' => e = .returned (.int .i64 (numV s d o : Nat)) ∧ St w' p s (numO s d most o) ∧ Below p w w' := by
  cases o with
  | none => exact num_none w p s none d most hd hz hm h rfl rfl rfl rfl
  | some k =>
    by_cases hk : k + d ≤ s.size
    · have e1 : tkS s d (some k) = s.extract k (k + d) := by simp only [tkS]; rw [if_pos hk]
      have e2 : tk s d (some k) = some (k + d) := by simp [tk, hk]
      have e3 : numV s d (some k) = (digs s k d).getD 0 := by simp [numV, hk]
      have e4 : numO s d most (some k) = (digs s k d).bind fun v => if v ≤ most then some (k + d) else none := by simp [numO, hk]
      have hT := take_any w p s (some k) d (by omega) hz h
      rw [e1, e2] at hT
      rw [e3, e4]
      have hqz : (s.extract k (k + d)).size = d := by rw [ByteArray.size_extract]; omega
      have hqb : ∀ j, j < d → byt (s.extract k (k + d)) j = byt s (k + j) := fun j hj => byt_extract s k (k + d) j (by omega) hk
      obtain ⟨q, hq⟩ : ∃ q, s.extract k (k + d) = q := ⟨_, rfl⟩
      rw [hq] at hT hqz hqb
      subst hqz
      have HT := Lib.hid hT
      have HQ := Lib.hid hqb
      clear hT e1 e2 e3 e4 hqb hq
      go_enter Tryd.func26, Tryd.ntmps26
      go_wp2_with (go_at_call 36; refine HT.out.mono ?_; rintro e w1 ⟨rfl, hst, hb⟩; obtain ⟨f1, bv, c1⟩ := hst.free; have hbad := Lib.hid hst.bad; have HST := Lib.hid hst; clear hst)
      go_loop [8, 15] (fun x i => ∃ j v : Nat, j ≤ q.size ∧ i = .int .i64 j ∧ x = .int .i64 v ∧ v < 10000 ∧ Hid (digs s k j = some v)) (fun _ i => q.size - (intOf i).toNat)
      case atStart => exact ⟨0, 0, Nat.zero_le _, rfl, rfl, by omega, rfl⟩
      case round =>
        obtain ⟨j, v, hj, rfl, rfl, hv, hd'⟩ := hrel
        by_cases hjl : j < q.size
        · have hv3 : v < 1000 := Nat.lt_of_lt_of_le (digs_lt s k j v hd'.out) (Nat.le_trans (Nat.pow_le_pow_right (by omega) (show j ≤ 3 by omega)) (by decide))
          obtain ⟨c, hc⟩ : ∃ c, byt q j = c := ⟨_, rfl⟩
          have hc256 : c < 256 := hc ▸ byt_lt q j
          have e1 : (q[j]).toNat = c := by rw [byt_at]; exact hc
          have hcs : byt s (k + j) = c := by rw [← HQ.out j hjl]; exact hc
          have hbd : digB c = false → digs s k q.size = none := fun h => digs_bad s k q.size j hjl (by rw [hcs]; exact h)
          have hgood : digB c = true → digs s k (j + 1) = some (10 * v + (c - 48)) := fun h => by
            simp only [digs]
            rw [hd'.out, hcs]
            simp [h]
          have HB := Lib.hid hbd
          have HG := Lib.hid hgood
          clear hbd hgood hc hcs
          go_wp2
          all_goals first
            | (go_ret
               rw [HB.out (by simp [digB] at *; omega)]
               exact ⟨rfl, hbad.out.1, hb.trans hbad.out.2⟩)
            | (refine ⟨⟨j + 1, 10 * v + (c - 48), hjl, by simp, ?_, by omega, HG.out (by simp [digB] at *; omega)⟩, by simp [intOf]; omega⟩
               congr 1
               omega)
        · obtain rfl : j = q.size := by omega
          by_cases hvm : v ≤ most
          · have hgt : ¬ ((most : Int) < (v : Int)) := by omega
            go_wp2
            go_ret
            rw [hd'.out]
            simp only [Option.getD_some, Option.bind_some]
            rw [if_pos hvm]
            exact ⟨rfl, HST.out, hb⟩
          · have hgt : ((most : Int) < (v : Int)) := by omega
            go_wp2
            go_ret
            rw [hd'.out]
            simp only [Option.getD_some, Option.bind_some]
            rw [if_neg hvm]
            exact ⟨rfl, hbad.out.1, hb.trans hbad.out.2⟩
    · refine num_none w p s (some k) d most hd hz hm h (by simp [tk]; omega) (by simp only [tkS]; rw [if_neg hk]) (by simp [numV, hk]) (by simp [numO, hk])

theorem day_take (w : World) (p : Nat) (s : ByteArray) (hz : s.size ≤ 1000) (h : St w p s (some 0)) :
    Calls Tryd.prog 23 #[.pointer (some ⟨p, 0, none⟩)] w fun e w' => e = .returned (.int .i64 (dayV s : Nat)) ∧ St w' p s (dayO s) ∧ Below p w w' := by
  have hb := h.2
  have he : s.extract 0 s.size = s := by simp
  rw [he] at hb
  obtain ⟨c0, c1, f0, f1, hlt⟩ := facts hb
  have hnone : ∀ w, St w p s (some 0) → _ := fun w h => num_any w p s (some 0) 2 31 (by omega) (by omega) hz (by omega) h
  by_cases h0 : 0 < s.size
  · have hne : ¬ s.toList = [] := by
      intro hc
      have h1 : s = ⟨#[]⟩ := LastIndex.eq_of_toList (by rw [hc, Lib.toList_data])
      rw [h1] at h0
      exact absurd h0 (by decide)
    have hne2 : s.toList.isEmpty = false := by
      cases h : s.toList with
      | nil => exact absurd h hne
      | cons a l => rfl
    by_cases hbl : byt s 0 = 32
    · have hbb : ((s[0].toNat : Int) == 32) = true := by rw [byt_at s 0 h0, hbl]; rfl
      have e1 : dayV s = numV s 1 (some 1) := by unfold dayV; rw [if_pos ⟨h0, hbl⟩]
      have e2 : dayO s = numO s 1 9 (some 1) := by unfold dayO; rw [if_pos ⟨h0, hbl⟩]
      have e3 : tk s 1 (some 0) = some 1 := by simp only [tk, Option.bind_some]; rw [if_pos (by omega)]
      rw [e1, e2]
      have HT := Lib.hid (take_any w p s (some 0) 1 (by omega) hz h)
      have HN := Lib.hid (fun w (h : St w p s (some 1)) => num_any w p s (some 1) 1 9 (by omega) (by omega) hz (by omega) h)
      have HE := Lib.hid e3
      clear h hb he e1 e2 e3 hnone hbl
      go_enter Tryd.func23, Tryd.ntmps23
      go_wp2_with (first | (go_at_call 36; refine HT.out.mono ?_; rintro e w1 ⟨rfl, hst, hb1⟩; rw [HE.out] at hst) | (go_at_call 26; refine (HN.out _ hst).mono ?_; rintro e w2 ⟨rfl, hst2, hb2⟩))
      go_ret
      exact ⟨rfl, hst2, hb1.trans hb2⟩
    · have hbb : ((s[0].toNat : Int) == 32) = false := by
        rw [byt_at s 0 h0, beq_eq_false_iff_ne]; omega
      have e1 : dayV s = numV s 2 (some 0) := by unfold dayV; rw [if_neg (fun h => hbl h.2)]
      have e2 : dayO s = numO s 2 31 (some 0) := by unfold dayO; rw [if_neg (fun h => hbl h.2)]
      rw [e1, e2]
      have HN := Lib.hid (hnone w h)
      clear h hb he e1 e2 hnone hbl
      go_enter Tryd.func23, Tryd.ntmps23
      go_wp2_with (go_at_call 26; refine HN.out.mono ?_; rintro e w2 ⟨rfl, hst2, hb2⟩)
      go_ret
      exact ⟨rfl, hst2, hb2⟩
  · have e1 : dayV s = numV s 2 (some 0) := by unfold dayV; rw [if_neg (fun h => h0 h.1)]
    have e2 : dayO s = numO s 2 31 (some 0) := by unfold dayO; rw [if_neg (fun h => h0 h.1)]
    have hs0 : s = ⟨#[]⟩ := by
      apply ByteArray.ext
      apply Array.eq_empty_of_size_eq_zero
      show s.size = 0
      omega
    rw [e1, e2]
    have HN := Lib.hid (hnone w h)
    clear h hb he e1 e2 hnone
    have c0' : w.cell? ⟨p, 0, none⟩ = some (.string ⟨#[]⟩) := by rw [c0, hs0]
    have HS := Lib.hid hs0
    clear c0 hs0 h0
    go_enter Tryd.func23, Tryd.ntmps23
    go_wp2_with (go_at_call 26; refine HN.out.mono ?_; rintro e w2 ⟨rfl, hst2, hb2⟩)
    go_ret
    exact ⟨rfl, hst2, hb2⟩

theorem zone_take (w : World) (p : Nat) (s : ByteArray) (o : Option Nat) (hz : s.size ≤ 1000) (h : St w p s o) :
    Calls Tryd.prog 27 #[.pointer (some ⟨p, 0, none⟩)] w fun e w' => e = .returned (.int .i64 (zonV s o)) ∧ St w' p s (zonO s o) ∧ Below p w w' := by
  have HT := Lib.hid (take_any w p s o 1 (by omega) hz h)
  have HN1 := Lib.hid (fun w (h : St w p s (tk s 1 o)) => num_any w p s (tk s 1 o) 2 14 (by omega) (by omega) hz (by omega) h)
  have HN2 := Lib.hid (fun w (h : St w p s (numO s 2 14 (tk s 1 o))) => num_any w p s (numO s 2 14 (tk s 1 o)) 2 59 (by omega) (by omega) hz (by omega) h)
  have b1 := numV_lt s 2 (tk s 1 o)
  have b2 := numV_lt s 2 (numO s 2 14 (tk s 1 o))
  have hcase : (tkS s 1 o = ⟨#[43]⟩ ∧ signV s o = 43) ∨ (tkS s 1 o = ⟨#[45]⟩ ∧ signV s o = 45) ∨ ((tkS s 1 o = ⟨#[]⟩ ∨ ∃ x : UInt8, tkS s 1 o = ⟨#[x]⟩ ∧ x ≠ 43 ∧ x ≠ 45) ∧ signV s o ≠ 43 ∧ signV s o ≠ 45) := by
    cases o with
    | none => exact .inr (.inr ⟨.inl rfl, by simp [signV], by simp [signV]⟩)
    | some k =>
      by_cases hk : k + 1 ≤ s.size
      · obtain ⟨x, hx, hxb⟩ := byte_one s k hk
        have e1 : tkS s 1 (some k) = ⟨#[x]⟩ := by simp only [tkS]; rw [if_pos hk, hx]
        have e2 : signV s (some k) = byt s k := by simp only [signV, Option.bind_some]; rw [if_pos hk]; rfl
        rw [e1, e2, ← hxb]
        by_cases h43 : x = 43
        · subst h43; exact .inl ⟨rfl, rfl⟩
        · by_cases h45 : x = 45
          · subst h45; exact .inr (.inl ⟨rfl, rfl⟩)
          · exact .inr (.inr ⟨.inr ⟨x, rfl, h43, h45⟩, fun hc => h43 (UInt8.toNat_inj.1 hc), fun hc => h45 (UInt8.toNat_inj.1 hc)⟩)
      · have e1 : tkS s 1 (some k) = ⟨#[]⟩ := by simp only [tkS]; rw [if_neg hk]
        have e2 : signV s (some k) = 0 := by simp only [signV, Option.bind_some]; rw [if_neg hk]; rfl
        exact .inr (.inr ⟨.inl e1, by rw [e2]; decide, by rw [e2]; decide⟩)
  have eO : zonO s o = if signV s o = 43 ∨ signV s o = 45 then numO s 2 59 (numO s 2 14 (tk s 1 o)) else none := rfl
  have eV : zonV s o = if signV s o = 43 then ((numV s 2 (tk s 1 o) * 3600 + numV s 2 (numO s 2 14 (tk s 1 o)) * 60 : Nat) : Int) else if signV s o = 45 then -((numV s 2 (tk s 1 o) * 3600 + numV s 2 (numO s 2 14 (tk s 1 o)) * 60 : Nat) : Int) else 0 := rfl
  rw [eO, eV]
  obtain ⟨H, hH⟩ : ∃ H, numV s 2 (tk s 1 o) = H := ⟨_, rfl⟩
  obtain ⟨M, hM⟩ : ∃ M, numV s 2 (numO s 2 14 (tk s 1 o)) = M := ⟨_, rfl⟩
  rw [hH] at b1 HN1 ⊢
  rw [hM] at b2 HN2 ⊢
  clear eO eV hH hM h
  rcases hcase with ⟨e1, e2⟩ | ⟨e1, e2⟩ | ⟨e1, e2, e3⟩
  · rw [e1] at HT
    rw [e2]
    clear e1 e2
    go_enter Tryd.func27, Tryd.ntmps27
    go_wp2_with (first | (go_at_call 36; refine HT.out.mono ?_; rintro e w1 ⟨rfl, hst, hb1⟩) | (go_at_call 26; with_reducible refine Calls.mono (HN1.out w1 hst) ?_; rintro e w2 ⟨rfl, hst2, hb2⟩) | (go_at_call 26; with_reducible refine Calls.mono (HN2.out w2 hst2) ?_; rintro e w3 ⟨rfl, hst3, hb3⟩))
    go_ret
    exact ⟨by congr 2, hst3, hb1.trans (hb2.trans hb3)⟩
  · rw [e1] at HT
    rw [e2]
    clear e1 e2
    go_enter Tryd.func27, Tryd.ntmps27
    go_wp2_with (first | (go_at_call 36; refine HT.out.mono ?_; rintro e w1 ⟨rfl, hst, hb1⟩) | (go_at_call 26; with_reducible refine Calls.mono (HN1.out w1 hst) ?_; rintro e w2 ⟨rfl, hst2, hb2⟩) | (go_at_call 26; with_reducible refine Calls.mono (HN2.out w2 hst2) ?_; rintro e w3 ⟨rfl, hst3, hb3⟩))
    go_ret
    exact ⟨by congr 2, hst3, hb1.trans (hb2.trans hb3)⟩
  · rw [if_neg e2, if_neg e3, if_neg (fun h => h.elim e2 e3)]
    clear e2 e3
    rcases e1 with e1 | ⟨x, e1, hx1, hx2⟩
    · rw [e1] at HT
      clear e1
      go_enter Tryd.func27, Tryd.ntmps27
      go_wp2_with (first | (go_at_call 36; refine HT.out.mono ?_; rintro e w1 ⟨rfl, hst, hb1⟩) | (go_at_call 26; with_reducible refine Calls.mono (HN1.out w1 hst) ?_; rintro e w2 ⟨rfl, hst2, hb2⟩) | (go_at_call 26; with_reducible refine Calls.mono (HN2.out w2 hst2) ?_; rintro e w3 ⟨rfl, hst3, hb3⟩; obtain ⟨f1, bv, c1⟩ := hst3.free; have hbad := Lib.hid hst3.bad))
      go_ret
      exact ⟨rfl, hbad.out.1, hb1.trans (hb2.trans (hb3.trans hbad.out.2))⟩
    · rw [e1] at HT
      clear e1
      have n1 : (x == 43) = false := by simpa using hx1
      have n2 : (x == 45) = false := by simpa using hx2
      clear hx1 hx2
      go_enter Tryd.func27, Tryd.ntmps27
      go_wp2_with (first | (go_at_call 36; refine HT.out.mono ?_; rintro e w1 ⟨rfl, hst, hb1⟩) | (go_at_call 26; with_reducible refine Calls.mono (HN1.out w1 hst) ?_; rintro e w2 ⟨rfl, hst2, hb2⟩) | (go_at_call 26; with_reducible refine Calls.mono (HN2.out w2 hst2) ?_; rintro e w3 ⟨rfl, hst3, hb3⟩; obtain ⟨f1, bv, c1⟩ := hst3.free; have hbad := Lib.hid hst3.bad))
      go_ret
      exact ⟨rfl, hbad.out.1, hb1.trans (hb2.trans (hb3.trans hbad.out.2))⟩
end Go.Proofs.YtehecgkmckoolaaDoor.dat
