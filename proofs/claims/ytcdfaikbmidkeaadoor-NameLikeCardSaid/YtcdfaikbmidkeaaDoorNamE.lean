/- What Like answers. -/
import Derived.Test.YtcdfaikbmidkeaaDoorNamD
namespace Go.Proofs.YtcdfaikbmidkeaaDoor.nam
open Go.ChangeShapes Go.WideShapes Go.ChangeAt Go.RowKit
set_option linter.unusedVariables false
set_option linter.unusedSimpArgs false

theorem index_any (w : World) (s : ByteArray) (a : Nat) (z : Int) (hz : Lib.indexByte (s.extract a s.size).data.toList 47 = z) :
    Calls Tryd.prog 38 #[.string (s.extract a s.size), .string ⟨#[47]⟩] w fun e w' => e = .returned (.int .i64 z) ∧ w' = w := by
  subst hz
  exact Tryd.strings_Index_one (s.extract a s.size) 47 w

set_option maxHeartbeats 1600000 in
theorem partEnd_any (w : World) (s : ByteArray) (a : Nat) (hs : s.size ≤ 900) (ha : a ≤ s.size) :
    Calls Tryd.prog 31 #[.string s, .int .i64 (a : Nat)] w fun e w' => e = .returned (.int .i64 (pe s a : Nat)) ∧ w' = w := by
  obtain ⟨p1, p2, p3, p4⟩ := pe_spec s a ha
  clear p3 p4
  have hpe : pe s a = if Lib.indexByte (s.extract a s.size).data.toList 47 = -1 then s.size else a + (Lib.indexByte (s.extract a s.size).data.toList 47).toNat := rfl
  obtain ⟨z, hz⟩ : ∃ z, Lib.indexByte (s.extract a s.size).data.toList 47 = z := ⟨_, rfl⟩
  have hge := Lib.indexByte_ge (s.extract a s.size).data.toList 47
  rw [hz] at hpe hge
  by_cases h : z = -1
  · subst h
    rw [if_pos rfl] at hpe
    rw [hpe]
    have HZ := Lib.hid hz
    clear hz hpe p1 p2
    go_enter Tryd.func31, Tryd.ntmps31
    go_wp2_with (go_at_call 38; refine (index_any _ s a _ HZ.out).mono ?_; rintro e w1 ⟨rfl, rfl⟩)
    go_ret
    exact ⟨rfl, rfl⟩
  · obtain ⟨o, ho⟩ := Int.eq_ofNat_of_zero_le (show 0 ≤ z by omega)
    subst ho
    rw [if_neg h] at hpe
    have hpe' : pe s a = a + o := by rw [hpe]; simp
    rw [hpe'] at p1 p2 ⊢
    have HZ := Lib.hid hz
    clear hz hpe hpe' h hge
    go_enter Tryd.func31, Tryd.ntmps31
    go_wp2_with (go_at_call 38; refine (index_any _ s a _ HZ.out).mono ?_; rintro e w1 ⟨rfl, rfl⟩)
    go_ret
    exact ⟨by simp, rfl⟩

set_option maxHeartbeats 1600000 in
theorem overPart_any (w : World) (B g cap : Nat) (r : Nat → Bool) (s : ByteArray) (hs : s.size ≤ 900) (hB : B ≤ w.heap.size) (h : Pl w B (.slice (some ⟨g, 0, none⟩) (pl s.size r).length cap) (pl s.size r)) (hl : 0 < (pl s.size r).length) :
    Calls Tryd.prog 20 #[.slice (some ⟨g, 0, none⟩) (pl s.size r).length cap, .string s] w fun e w' => ∃ v', e = .returned v' ∧ Pl w' B v' (pl s.size (stars false s r)) ∧ Below B w w' := by
  have hle : (pl s.size r)[0] ≤ s.size := pl_le 0 hl
  have hF := full_any w B g cap _ s (by omega) h hl hle
  have hlen := pl_length s.size r
  by_cases hf : (pl s.size r).length = s.size - (pl s.size r)[0] + 1
  · have hst := pl_full_stars (s := s) false hl hf
    have hf' : decide ((pl s.size r).length = s.size - (pl s.size r)[0] + 1) = true := decide_eq_true hf
    rw [hf'] at hF
    rw [hst]
    obtain ⟨l, hl'⟩ : ∃ l, pl s.size r = l := ⟨_, rfl⟩
    have HF := Lib.hid hF
    clear hF hf' hf hst hle
    rw [hl'] at HF h hl hlen ⊢
    clear hl'
    go_enter Tryd.func20, Tryd.ntmps20
    go_wp2_with (go_at_call 29; refine HF.out.mono ?_; rintro e w1 ⟨rfl, rfl⟩)
    go_ret
    exact ⟨_, rfl, h, Below.refl _ _⟩
  · have hf' : decide ((pl s.size r).length = s.size - (pl s.size r)[0] + 1) = false := decide_eq_false hf
    rw [hf'] at hF
    have hgl : g < w.heap.size := by
      obtain ⟨g', cap', e, _, hh, _⟩ := h.form hl
      cases e
      exact hh
    have H := Lib.hid h
    have HF := Lib.hid hF
    clear hF hf' hf h hle
    obtain ⟨n, hn⟩ : ∃ n, (pl s.size r).length = n := ⟨_, rfl⟩
    have HN := Lib.hid hn
    rw [hn] at HF hl hlen ⊢
    clear hn
    go_enter Tryd.func20, Tryd.ntmps20
    go_wp2_with (go_at_call 29; refine HF.out.mono ?_; rintro e w ⟨rfl, rfl⟩)
    go_loopw [5, 6, 16] (fun x y z wr => ∃ (j next : Nat) (tt : List Nat), j ≤ n ∧ next ≤ s.size + 1 ∧ z = .int .i64 j ∧ y = .int .i64 next ∧ Hid (Part s r tt next j) ∧ Hid (Pl wr w.heap.size x tt) ∧ Below w.heap.size w wr) (fun _ _ z _ => n - (intOf z).toNat)
    case atStart => exact ⟨0, 0, [], Nat.zero_le _, Nat.zero_le _, rfl, rfl, Part.start s r, Pl.nil _ _, Below.refl _ _⟩
    case round =>
      obtain ⟨j, next, tt, hj, hnx, rfl, rfl, hp, hP, hb⟩ := hrel
      by_cases hjn : j < n
      · have hjl : j < (pl s.size r).length := by rw [HN.out]; exact hjn
        obtain ⟨x, hx⟩ : ∃ x, (pl s.size r)[j] = x := ⟨_, rfl⟩
        have hxs : x ≤ s.size := hx ▸ pl_le j hjl
        have hcell : wr.cell? ⟨g, j, none⟩ = some (.int .i64 (x : Nat)) := by
          rw [hb.cell hgl, ← hx]
          exact H.out.at j hjl
        by_cases hlt : x < next
        · have hp' := Lib.hid (hp.out.skip hjl (by rw [hx]; exact hlt))
          clear hx hjl
          go_wp2
          refine ⟨⟨j + 1, next, tt, hjn, hnx, by simp, rfl, hp'.out, hP, hb⟩, by simp [intOf]; omega⟩
        · obtain ⟨e, he⟩ : ∃ e, pe s x = e := ⟨_, rfl⟩
          obtain ⟨p1, p2, p3, p4⟩ := pe_spec s x hxs
          have hend := fun w => partEnd_any w s x hs hxs
          rw [he] at p1 p2 p3 p4 hend
          have hp' := Lib.hid (hp.out.step (e := e) hjl (by rw [hx]; omega) (by rw [hx]; exact p1) p2 (by rw [hx]; exact p3) p4)
          rw [hx] at hp'
          have htl : tt.length ≤ 1000 := by
            rw [hp.out.to_]
            have := List.length_filter_le (stars false s r) (List.range next)
            simp at this
            omega
          have HE := Lib.hid hend
          clear hx hjl he p3 p4 hend
          go_wp2_with (first | (go_at_call 31; refine (HE.out _).mono ?_; rintro e w1 ⟨rfl, rfl⟩) | (go_at_call 30; refine (run_any _ w.heap.size _ tt x e htl (by omega) (by omega) hb.size hP.out).mono ?_; rintro e w1 ⟨v', rfl, hP1, hb1⟩))
          refine ⟨⟨j + 1, e + 1, _, hjn, by omega, by simp, by simp, hp'.out, hP1, hb.trans hb1⟩, by simp [intOf]; omega⟩
      · obtain rfl : j = n := by omega
        have hp' := hp.out
        rw [← HN.out] at hp'
        have ht := Lib.hid hp'.end_
        clear hp'
        go_wp2
        go_ret
        refine ⟨_, rfl, ?_, hb.mono hB⟩
        rw [← ht.out]
        exact hP.out.mono hB

theorem pl_stars_pos {n : Nat} {r : Nat → Bool} (star : Bool) (s : ByteArray) (h : 0 < (pl n r).length) : 0 < (pl n (stars star s r)).length := by
  have hm := pl_mem.1 (List.getElem_mem h)
  exact List.length_pos_of_mem (pl_mem.2 ⟨hm.1, (stars_iff ..).2 ⟨_, Nat.le_refl _, hm.2, fun m h1 h2 => by omega⟩⟩)
theorem like_loop_end (p s : ByteArray) (i : Nat) (hi : i ≤ p.size) (n : Nat) (hn : (pl s.size (R p s i)).length = n) (h0 : n = 0) : LK p s = false :=
  LK_none p s i hi (pl_nil (by omega))

set_option maxHeartbeats 4000000 in
theorem like_any (w : World) (p s : ByteArray) (hp : p.size ≤ 900) (hs : s.size ≤ 900) :
    Calls Tryd.prog 11 #[.string p, .string s] w fun e w' => e = .returned (.bool (LK p s)) ∧ Below w.heap.size w w' := by
  go_enter Tryd.func11, Tryd.ntmps11
  go_wp2
  go_loopw [5, 6] (fun x y wr => ∃ (i g n cap : Nat), i ≤ p.size ∧ n ≤ s.size + 1 ∧ w.heap.size ≤ g ∧ y = .int .i64 i ∧ x = .slice (some ⟨g, 0, none⟩) n cap ∧ Hid ((pl s.size (R p s i)).length = n) ∧ Hid (Pl wr w.heap.size x (pl s.size (R p s i))) ∧ Below w.heap.size w wr) (fun _ y _ => p.size - (intOf y).toNat)
  case atStart =>
    have e0 : pl s.size (R p s 0) = [0] := by
      unfold pl
      rw [List.range_succ_eq_map]
      simp [R, List.filter_cons, List.filter_map]
    refine ⟨0, w.heap.size, 1, 1, Nat.zero_le _, by omega, Nat.le_refl _, rfl, rfl, by rw [e0]; rfl, ?_, (Below.refl _ _).alloc (Nat.le_refl _) _⟩
    rw [e0]
    exact World.ownsRow_lit (base := w.heap.size) w #[.int .i64 0] 1 (Nat.le_refl _) (by unfold maxLen; omega) rfl
  case round =>
    obtain ⟨i, g, n, cap, hi, hn, hg, rfl, rfl, hl, hP, hb⟩ := hrel
    by_cases hip : i < p.size
    · by_cases hn0 : 0 < n
      · obtain ⟨c, hc⟩ : ∃ c, byt p i = c := ⟨_, rfl⟩
        have hc256 : c < 256 := hc ▸ byt_lt p i
        have e1 : (p[i]).toNat = c := by rw [byt_at]; exact hc
        have hnext : R p s (i + 1) = nextR c s (R p s i) := by rw [← hc]; rfl
        have hBr : w.heap.size ≤ wr.heap.size := hb.size
        have hl0 : 0 < (pl s.size (R p s i)).length := by rw [hl.out]; exact hn0
        have hP' := hP.out
        rw [← hl.out] at hP'
        have HN := Lib.hid hnext
        clear hc hnext
        by_cases h42 : c = 42
        · subst h42
          have hO := overBytes_any wr w.heap.size g cap (R p s i) s hs hBr hP' hl0
          rw [hl.out] at hO
          have HO := Lib.hid hO
          clear hO hP' hl0
          go_wp2_with (go_at_call 19; refine HO.out.mono ?_; rintro e w1 ⟨v', rfl, hP1, hb1⟩; have HP1 := Lib.hid hP1; clear hP1)
          have e2 : pl s.size (R p s (i + 1)) = pl s.size (stars true s (R p s i)) := by rw [HN.out]; rfl
          have hpos := pl_stars_pos true s (show 0 < (pl s.size (R p s i)).length by rw [hl.out]; exact hn0)
          obtain ⟨g', cap', rfl, hg', _, _⟩ := HP1.out.form hpos
          refine ⟨⟨i + 1, g', _, cap', hip, pl_length _ _, hg', by simp, rfl, by rw [e2]; rfl, by rw [e2]; exact HP1, hb.trans hb1⟩, by simp [intOf]; omega⟩
        · by_cases h37 : c = 37
          · subst h37
            have hO := overPart_any wr w.heap.size g cap (R p s i) s hs hBr hP' hl0
            rw [hl.out] at hO
            have HO := Lib.hid hO
            clear hO hP' hl0
            go_wp2_with (go_at_call 20; refine HO.out.mono ?_; rintro e w1 ⟨v', rfl, hP1, hb1⟩; have HP1 := Lib.hid hP1; clear hP1)
            have e2 : pl s.size (R p s (i + 1)) = pl s.size (stars false s (R p s i)) := by rw [HN.out]; rfl
            have hpos := pl_stars_pos false s (show 0 < (pl s.size (R p s i)).length by rw [hl.out]; exact hn0)
            obtain ⟨g', cap', rfl, hg', _, _⟩ := HP1.out.form hpos
            refine ⟨⟨i + 1, g', _, cap', hip, pl_length _ _, hg', by simp, rfl, by rw [e2]; rfl, by rw [e2]; exact HP1, hb.trans hb1⟩, by simp [intOf]; omega⟩
          · have hO := overByte_any wr w.heap.size g cap (pl s.size (R p s i)) s c hc256 hs (by rw [hl.out]; omega) (fun x hx => (pl_mem.1 hx).1) hBr hP' hg
            rw [hl.out, ov_pl] at hO
            have HO := Lib.hid hO
            have g1 : ((c : Int) == 42) = false := by simp; omega
            have g2 : ((c : Int) == 37) = false := by simp; omega
            clear hO hP' hl0
            go_wp2_with (go_at_call 21; refine HO.out.mono ?_; rintro e w1 ⟨rfl, hP1, hb1⟩; have HP1 := Lib.hid hP1; clear hP1)
            have e2 : pl s.size (R p s (i + 1)) = pl s.size (overB c s (R p s i)) := by rw [HN.out]; unfold nextR; rw [if_neg h42, if_neg h37]
            refine ⟨⟨i + 1, g, _, cap, hip, pl_length _ _, hg, by simp, rfl, by rw [e2]; rfl, by rw [e2]; exact HP1, hb.trans hb1⟩, by simp [intOf]; omega⟩
      · obtain rfl : n = 0 := by omega
        have hk := Lib.hid (like_loop_end p s i hi 0 hl.out rfl)
        go_wp2
        go_ret
        exact ⟨by rw [hk.out]; rfl, hb⟩
    · obtain rfl : i = p.size := by omega
      by_cases hn0 : 0 < n
      · have hl0 : 0 < (pl s.size (R p s p.size)).length := by rw [hl.out]; exact hn0
        have hP' := hP.out
        rw [← hl.out] at hP'
        obtain ⟨x, hx⟩ : ∃ x, (pl s.size (R p s p.size))[(pl s.size (R p s p.size)).length - 1] = x := ⟨_, rfl⟩
        have hcell := hP'.at _ (show (pl s.size (R p s p.size)).length - 1 < (pl s.size (R p s p.size)).length by omega)
        rw [hx] at hcell
        have hlast := pl_last hl0
        rw [hx, LK_end] at hlast
        rw [hl.out] at hcell
        have HL := Lib.hid hlast
        clear hlast hx hP' hl0
        go_wp2
        go_ret
        refine ⟨congrArg (fun b => Ending.returned (Value.bool b)) ?_, hb⟩
        rw [← HL.out, Bool.eq_iff_iff]
        simp
        try omega
      · obtain rfl : n = 0 := by omega
        have hk := Lib.hid (like_loop_end p s p.size (Nat.le_refl _) 0 hl.out rfl)
        go_wp2
        go_ret
        exact ⟨by rw [hk.out]; rfl, hb⟩
end Go.Proofs.YtcdfaikbmidkeaaDoor.nam
