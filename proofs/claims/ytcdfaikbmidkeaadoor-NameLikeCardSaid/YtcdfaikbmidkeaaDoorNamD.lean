/- What the small parts of Like answer: places in rows of the call's own. -/
import Derived.Test.YtcdfaikbmidkeaaDoorNamA
import Derived.Test.YtcdfaikbmidkeaaDoorNamL
import Derived.Deep.AppendLies
import Derived.OwnWalk
namespace Go.Proofs.YtcdfaikbmidkeaaDoor.nam
open Go.ChangeShapes Go.WideShapes Go.ChangeAt Go.RowKit
set_option linter.unusedVariables false
set_option linter.unusedSimpArgs false

theorem info3 : (Tryd.prog.info? 3).map (fun i => (i.zero, i.size, i.bytes)) = some (some (.int .i64 0), 1, 8) := by kernel_rfl
def ivals (l : List Nat) : List Value := l.map fun x => Value.int .i64 (x : Nat)
theorem ivals_length (l : List Nat) : (ivals l).length = l.length := by simp [ivals]
theorem ivals_append (l m : List Nat) : ivals (l ++ m) = ivals l ++ ivals m := by simp [ivals]
/-- The slice holds these numbers, in a row of the call's own. -/
def Pl (w : World) (B : Nat) (v : Value) (l : List Nat) : Prop := w.ownsRow B 3 1 v l.length (ivals l)
theorem Pl.nil (w : World) (B : Nat) : Pl w B (.slice none 0 0) [] := World.ownsRow_nil _ _ _ _
theorem Pl.form {w : World} {B : Nat} {v : Value} {l : List Nat} (h : Pl w B v l) (hl : 0 < l.length) : ∃ g cap, v = .slice (some ⟨g, 0, none⟩) l.length cap ∧ B ≤ g ∧ g < w.heap.size ∧ l.length ≤ cap := by
  rcases h.2 with ⟨_, h0⟩ | ⟨g, cap, cur, hv, hB, hg, hc, _⟩
  · omega
  · exact ⟨g, cap, hv, hB, (Array.getElem?_eq_some_iff.1 hg).1, hc⟩
theorem Pl.at {w : World} {B g cap : Nat} {l : List Nat} (h : Pl w B (.slice (some ⟨g, 0, none⟩) l.length cap) l) (j : Nat) (hj : j < l.length) : w.cell? ⟨g, j, none⟩ = some (.int .i64 (l[j] : Nat)) := by
  rw [World.ownsRow.cellAt h j (by omega)]
  simp [ivals, hj]
theorem Pl.mono {w : World} {B B' : Nat} {v : Value} {l : List Nat} (h : Pl w B v l) (hb : B' ≤ B) : Pl w B' v l := by
  refine ⟨h.1, ?_⟩
  rcases h.2 with h2 | ⟨g, cap, cur, hv, hB, r⟩
  · exact .inl h2
  · exact .inr ⟨g, cap, cur, hv, by omega, r⟩
theorem Pl.kept {w w' : World} {B : Nat} {v : Value} {l : List Nat} (h : Pl w B v l) (hk : ∀ g, v.ownBlock = some g → w'.heap[g]? = w.heap[g]?) : Pl w' B v l := by
  refine ⟨h.1, ?_⟩
  rcases h.2 with h2 | ⟨g, cap, cur, hv, hB, hg, r⟩
  · exact .inl h2
  · refine .inr ⟨g, cap, cur, hv, hB, ?_, r⟩
    rw [hk g (by rw [hv]; rfl)]
    exact hg
theorem Pl.below {w w' : World} {B C : Nat} {v : Value} {l : List Nat} (h : Pl w B v l) (hb : Below C w w') (hv : ∀ g, v.ownBlock = some g → g < C) : Pl w' B v l := h.kept fun g hg => hb.block g (hv g hg)

/-- An element appended within what the row has. -/
theorem run_append_in {P : Program} (w : World) (base : Nat) (t ty e : TypeId) (i : TypeInfo) (ht : P.underlying t = some (.slice e)) (hi : P.info? e = some i) (hsize : i.size = 1)
    (g L cap k : Nat) (xs : List Value) (hown : w.ownsRow base e 1 (.slice (some ⟨g, 0, none⟩) L cap) L xs) (hk : k < L)
    (a : Addr) (c : Nat) (u : Value) (hu : w.cell? a = some u) (h1 : u.oneCell' = true) :
    ∃ w', (Builtin.append_ #[t, t] ty #[.slice (some ⟨g, 0, none⟩) k cap, .slice (some a) 1 c]).run P w = .ok (.slice (some ⟨g, 0, none⟩) (k + 1) cap) w' ∧
      w'.ownsRow base e 1 (.slice (some ⟨g, 0, none⟩) L cap) L (xs.set k u) ∧ w.grownBy w' (some g) := by
  rcases hown.2 with ⟨h, _⟩ | ⟨g', cap', cur, h, hbg, hg, hnc, hcm, hcs, htake⟩
  · simp at h
  · simp only [Value.slice.injEq, Option.some.injEq, Addr.mk.injEq, and_true, true_and] at h
    obtain ⟨rfl, rfl⟩ := h
    have ha : a.add 0 = a := by cases a; simp [Addr.add]
    have hr := run_append_room (P := P) w t ty e i ht hi g k cap cur hg a 1 c [u] (by simp [hsize]) (fun j v hj => by
      cases j with
      | zero => simp at hj; subst hj; rw [ha]; exact hu
      | succ j => simp at hj) (fun v hv => by simp at hv; subst hv; exact h1) (by omega) (by simp [hsize]; omega)
    refine ⟨_, hr, ⟨by simpa using hown.1, .inr ⟨g, cap, _, rfl, hbg, setRow_heap w g cur _ e _ hg, hnc, hcm, ?_, ?_⟩⟩, ⟨rfl, rfl, rfl, by simp, fun j _ hj => setRow_other w g j _ (fun e => hj (by simp [e]))⟩⟩
    · simp [hsize]
      omega
    · simp only [hsize, Nat.mul_one, List.length_cons, List.length_nil, Nat.zero_add] at *
      have e1 : cur.toList.take k ++ [u] ++ cur.toList.drop (k + 1) = cur.toList.set k u := by
        rw [List.set_eq_take_append_cons_drop, if_pos (by simp; omega)]
        simp
      show (cur.toList.take k ++ [u] ++ cur.toList.drop (k + 1)).take L = _
      rw [e1, List.take_set, htake]
theorem wpList_append_in {P : Program} (w : World) {ops : Array Oper} {rest : List Oper} {o : Oper} {a : Act} {Q : Exit → Act → World → Prop}
    (hg : o.guard = none) (s x : Operand) (t : TypeId) (hop : o.op = Op.call { callee := Callee.builtin Builtin.append, args := #[s, x], argTypes := #[t, t] })
    (base : Nat) (e : TypeId) (i : TypeInfo) (h1 : P.underlying t = some (.slice e)) (h2 : P.info? e = some i) (h4 : i.size = 1)
    (g L cap k : Nat) (xs : List Value) (hs : a.eval s = .slice (some ⟨g, 0, none⟩) k cap) (hown : w.ownsRow base e 1 (.slice (some ⟨g, 0, none⟩) L cap) L xs) (hk : k < L) (ad : Addr) (c : Nat) (u : Value) (hx : a.eval x = .slice (some ad) 1 c)
    (hu : w.cell? ad = some u) (h1c : u.oneCell' = true)
    (hK : ∀ w', w'.ownsRow base e 1 (.slice (some ⟨g, 0, none⟩) L cap) L (xs.set k u) → w.grownBy w' (some g) → wpList P ops Q rest (a.put o.dst (.slice (some ⟨g, 0, none⟩) (k + 1) cap)) w') :
    wpList P ops Q (o :: rest) a w := by
  refine wpList_plain hg fun K hK' => ?_
  obtain ⟨w', hrun, r1, r2⟩ := run_append_in (P := P) w base t o.type e i h1 h2 h4 g L cap k xs hown hk ad c u hu h1c
  unfold Oper.wp
  simp [execOp, hop, resolve, invoke, builtin, hs, hx, hrun, Result.andThen]
  exact hK' _ _ (hK w' r1 r2)
theorem ownsRow_short {w : World} {base : Nat} {e : TypeId} {g L cap k : Nat} {xs : List Value} (h : w.ownsRow base e 1 (.slice (some ⟨g, 0, none⟩) L cap) L xs) (hk : k ≤ L) :
    w.ownsRow base e 1 (.slice (some ⟨g, 0, none⟩) k cap) k (xs.take k) := by
  have hl := h.1
  refine ⟨by simp; omega, ?_⟩
  rcases h.2 with ⟨h', _⟩ | ⟨g', cap', cur, h', hb, hg, hnc, hcm, hcs, htake⟩
  · simp at h'
  · simp only [Value.slice.injEq, Option.some.injEq, Addr.mk.injEq, and_true, true_and] at h'
    obtain ⟨rfl, rfl⟩ := h'
    refine .inr ⟨g, cap, cur, rfl, hb, hg, by omega, hcm, hcs, ?_⟩
    rw [← htake, List.take_take]
    congr 1
    omega

theorem full_any (w : World) (B g cap : Nat) (l : List Nat) (s : ByteArray) (hs : s.size ≤ 1000) (h : Pl w B (.slice (some ⟨g, 0, none⟩) l.length cap) l) (hl : 0 < l.length) (hle : l[0] ≤ s.size) :
    Calls Tryd.prog 29 #[.slice (some ⟨g, 0, none⟩) l.length cap, .string s] w fun e w' => e = .returned (.bool (decide (l.length = s.size - l[0] + 1))) ∧ w' = w := by
  obtain ⟨x, hx⟩ : ∃ x, l[0] = x := ⟨_, rfl⟩
  obtain ⟨n, hn⟩ : ∃ n, l.length = n := ⟨_, rfl⟩
  have hc := h.at 0 hl
  rw [hx] at hc hle ⊢
  rw [hn] at hl ⊢
  clear h hx hn
  go_enter Tryd.func29, Tryd.ntmps29
  go_wp2
  go_ret
  refine ⟨congrArg (fun b => Ending.returned (Value.bool b)) ?_, rfl⟩
  rw [Bool.eq_iff_iff]
  simp
  omega

/-- f, f + 1, .. ahead of k. -/
def seg (f k : Nat) : List Nat := (List.range k).filter fun x => decide (f ≤ x)
theorem seg_nil (f : Nat) : seg f f = [] := by
  unfold seg
  rw [List.filter_eq_nil_iff]
  intro x hx
  have := List.mem_range.1 hx
  simp; omega
theorem seg_succ (f k : Nat) (h : f ≤ k) : seg f (k + 1) = seg f k ++ [k] := by
  unfold seg
  rw [List.range_succ, List.filter_append]
  simp [List.filter_cons, h]
theorem seg_upTo (f e : Nat) : seg f (e + 1) = upTo f e := rfl
theorem seg_length (f k : Nat) : (seg f k).length ≤ k := by
  have := List.length_filter_le (fun x => decide (f ≤ x)) (List.range k)
  simpa [seg] using this

set_option maxHeartbeats 1600000 in
theorem run_any (w : World) (B : Nat) (v : Value) (l : List Nat) (f e : Nat) (hl : l.length ≤ 1000) (he : e ≤ 1000) (hfe : f ≤ e + 1) (hB : B ≤ w.heap.size) (h : Pl w B v l) :
    Calls Tryd.prog 30 #[v, .int .i64 (f : Nat), .int .i64 (e : Nat)] w fun r w' => ∃ v', r = .returned v' ∧ Pl w' B v' (l ++ upTo f e) ∧ Below B w w' := by
  obtain ⟨i0, hi, hz0, hz1, hz2⟩ := info_parts info3
  go_enter Tryd.func30, Tryd.ntmps30
  go_wp2
  go_loopw [0, 7] (fun x y wr => ∃ k : Nat, f ≤ k ∧ k ≤ e + 1 ∧ y = .int .i64 k ∧ Pl wr B x (l ++ seg f k) ∧ Below B w wr) (fun _ y _ => (e + 1) - (intOf y).toNat)
  case atStart => exact ⟨f, Nat.le_refl _, hfe, rfl, by rw [seg_nil, List.append_nil]; exact h, Below.refl _ _⟩
  case round =>
    obtain ⟨k, hk1, hk2, rfl, hP, hb⟩ := hrel
    have hsl := seg_length f k
    have hBr : B ≤ wr.heap.size := Nat.le_trans hB hb.size
    by_cases hk : k ≤ e
    · go_wp2_with (at_builtin; refine wpList_append_own _ rfl _ _ 30 rfl B 3 i0 (.int .i64 0) 1 8 Tryd.underlying30 hi hz0 hz1 hz2 rfl (by decide) _ _ _ rfl (World.ownsRow.alloc hP _) ⟨wr.heap.size, 0, none⟩ 1 1 [.int .i64 (k : Nat)] rfl rfl ?c1 ?c2 ?c3 ?c4 ?c5 ?_)
      case c1 =>
        intro j u hj
        match j, hj with
        | 0, hj => simp at hj; subst hj; simp [Addr.add]
      case c2 => intro u hu; simp at hu; subst hu; rfl
      case c3 => simp only [List.length_append]; unfold maxLen; omega
      case c4 => simp only [List.length_append]; omega
      case c5 => simp; omega
      intro v' w1 hown hgrow _
      have hP1 : Pl w1 B v' (l ++ seg f (k + 1)) := by
        unfold Pl
        rw [seg_succ f k hk1, ← List.append_assoc, ivals_append]
        have e1 : (l ++ seg f k ++ [k]).length = l.length + (seg f k).length + 1 := by simp; omega
        rw [e1]
        exact hown
      have hb1 : Below B w w1 := (hb.alloc hBr _).grown hgrow (by simp; omega) (fun g hg => (World.ownsRow.lt hP g hg).1)
      clear hown hgrow hP hb
      go_wp2
      refine ⟨⟨k + 1, by omega, by omega, by simp, hP1, hb1⟩, by simp [intOf]; omega⟩
    · go_wp2
      go_ret
      obtain rfl : k = e + 1 := by omega
      exact ⟨_, rfl, by rw [← seg_upTo]; exact hP, hb⟩

set_option maxHeartbeats 1600000 in
theorem overBytes_any (w : World) (B g cap : Nat) (r : Nat → Bool) (s : ByteArray) (hs : s.size ≤ 900) (hB : B ≤ w.heap.size) (h : Pl w B (.slice (some ⟨g, 0, none⟩) (pl s.size r).length cap) (pl s.size r)) (hl : 0 < (pl s.size r).length) :
    Calls Tryd.prog 19 #[.slice (some ⟨g, 0, none⟩) (pl s.size r).length cap, .string s] w fun e w' => ∃ v', e = .returned v' ∧ Pl w' B v' (pl s.size (stars true s r)) ∧ Below B w w' := by
  have hle : (pl s.size r)[0] ≤ s.size := pl_le 0 hl
  have hF := full_any w B g cap _ s (by omega) h hl hle
  have hc := h.at 0 hl
  by_cases hf : (pl s.size r).length = s.size - (pl s.size r)[0] + 1
  · have hst := pl_full_stars (s := s) true hl hf
    have hf' : decide ((pl s.size r).length = s.size - (pl s.size r)[0] + 1) = true := decide_eq_true hf
    rw [hf'] at hF
    rw [hst]
    obtain ⟨l, hl'⟩ : ∃ l, pl s.size r = l := ⟨_, rfl⟩
    have HF := Lib.hid hF
    clear hF hf' hf hst hc hle
    rw [hl'] at HF h hl ⊢
    clear hl'
    go_enter Tryd.func19, Tryd.ntmps19
    go_wp2_with (go_at_call 29; refine HF.out.mono ?_; rintro e w1 ⟨rfl, rfl⟩)
    go_ret
    exact ⟨_, rfl, h, Below.refl _ _⟩
  · have hst := pl_stars_true (n := s.size) (s := s) hl
    have hf' : decide ((pl s.size r).length = s.size - (pl s.size r)[0] + 1) = false := decide_eq_false hf
    rw [hf'] at hF
    rw [hst]
    have hrun := run_any w B (.slice none 0 0) [] (pl s.size r)[0] s.size (by simp) (by omega) (by omega) hB (Pl.nil _ _)
    rw [List.nil_append] at hrun
    obtain ⟨x, hx⟩ : ∃ x, (pl s.size r)[0] = x := ⟨_, rfl⟩
    obtain ⟨n, hn⟩ : ∃ n, (pl s.size r).length = n := ⟨_, rfl⟩
    rw [hx] at hrun hc hle ⊢
    rw [hn] at hF hl ⊢
    have HF := Lib.hid hF
    have HR := Lib.hid hrun
    clear hF hrun hf' hf hst hx hn h
    go_enter Tryd.func19, Tryd.ntmps19
    go_wp2_with (first | (go_at_call 29; refine HF.out.mono ?_; rintro e w1 ⟨rfl, rfl⟩) | (go_at_call 30; refine HR.out.mono ?_; rintro e w1 ⟨v', rfl, hP, hb⟩))
    go_ret
    exact ⟨_, rfl, hP, hb⟩

set_option maxHeartbeats 1600000 in
theorem overByte_any (w : World) (B g cap : Nat) (l : List Nat) (s : ByteArray) (c : Nat) (hc : c < 256) (hs : s.size ≤ 900) (hll : l.length ≤ 1000) (hle : ∀ x ∈ l, x ≤ s.size) (hB : B ≤ w.heap.size) (h : Pl w B (.slice (some ⟨g, 0, none⟩) l.length cap) l) (hg : B ≤ g) :
    Calls Tryd.prog 21 #[.slice (some ⟨g, 0, none⟩) l.length cap, .string s, .int .u8 (c : Nat)] w fun e w' => e = .returned (.slice (some ⟨g, 0, none⟩) (ov c s l).length cap) ∧ Pl w' B (.slice (some ⟨g, 0, none⟩) (ov c s l).length cap) (ov c s l) ∧ Below B w w' := by
  obtain ⟨i0, hi, hz0, hz1, hz2⟩ := info_parts info3
  have H0 : Hid (∃ M : List Nat, M.length = l.length ∧ M.take (ov c s (l.take 0)).length = ov c s (l.take 0) ∧ M.drop 0 = l.drop 0 ∧ w.ownsRow B 3 1 (.slice (some ⟨g, 0, none⟩) l.length cap) l.length (ivals M)) := ⟨l, rfl, by simp [ov], rfl, h⟩
  have hcapl : l.length ≤ cap := by
    rcases h.2 with ⟨h', _⟩ | ⟨g', cap', cur, h', _, _, hnc, _⟩
    · simp at h'
    · simp only [Value.slice.injEq, Option.some.injEq, Addr.mk.injEq, and_true, true_and] at h'
      omega
  clear h
  go_enter Tryd.func21, Tryd.ntmps21
  go_wp2
  go_loopw [7, 14] (fun x y wr => ∃ j : Nat, j ≤ l.length ∧ y = .int .i64 j ∧ x = .slice (some ⟨g, 0, none⟩) (ov c s (l.take j)).length cap ∧
    Hid (∃ M : List Nat, M.length = l.length ∧ M.take (ov c s (l.take j)).length = ov c s (l.take j) ∧ M.drop j = l.drop j ∧ wr.ownsRow B 3 1 (.slice (some ⟨g, 0, none⟩) l.length cap) l.length (ivals M)) ∧ Below B w wr) (fun _ y _ => l.length - (intOf y).toNat)
  case atStart => exact ⟨0, Nat.zero_le _, rfl, rfl, H0, Below.refl _ _⟩
  case round =>
    obtain ⟨j, hj, rfl, rfl, hM, hb⟩ := hrel
    by_cases hjl : j < l.length
    · obtain ⟨x, hx⟩ : ∃ x, l[j] = x := ⟨_, rfl⟩
      have hstep := ov_step c s l j hjl
      rw [hx] at hstep
      have hTl : (ov c s (l.take j)).length ≤ j := by
        have := ov_length c s (l.take j)
        simp at this
        omega
      obtain ⟨T, hT⟩ : ∃ T, ov c s (l.take j) = T := ⟨_, rfl⟩
      rw [hT] at hM hTl hstep ⊢
      clear hT
      obtain ⟨M, hM1, hM2, hM3, hM4⟩ := hM.out
      have hxs : x ≤ s.size := hx ▸ hle _ (List.getElem_mem hjl)
      have hMj : M[j]? = some x := by
        have := congrArg (fun q : List Nat => q[0]?) hM3
        simp only [List.getElem?_drop, Nat.add_zero] at this
        rw [this, List.getElem?_eq_getElem hjl, hx]
      have hcell : wr.cell? ⟨g, j, none⟩ = some (.int .i64 (x : Nat)) := by
        rw [World.ownsRow.cellAt hM4 j (by omega)]
        simp [ivals, hMj]
      have HM1 := Lib.hid hM1
      have HM2 := Lib.hid hM2
      have HM3 := Lib.hid hM3
      have HS := Lib.hid hstep
      clear hM hM1 hM2 hM3 hx hMj hstep
      by_cases hxl : x < s.size
      · obtain ⟨d, hd⟩ : ∃ d, byt s x = d := ⟨_, rfl⟩
        have e1 : (s[x]).toNat = d := by rw [byt_at]; exact hd
        have HD := Lib.hid hd
        clear hd
        by_cases hdc : d = c
        · subst hdc
          have HS' : Hid (ov d s (l.take (j + 1)) = T ++ [x + 1]) := by
            have := HS.out
            rw [show ovF d s x = some (x + 1) by simp [ovF, hxl, HD.out]] at this
            exact this
          clear HS
          go_wp2_with (at_builtin; refine wpList_append_in _ rfl _ _ 30 rfl B 3 i0 Tryd.underlying30 hi hz1 g l.length cap T.length (ivals M) rfl (World.ownsRow.alloc hM4 _) (by omega) ⟨wr.heap.size, 0, none⟩ 1 (.int .i64 ((x + 1 : Nat) : Int)) rfl ?c1 rfl ?_)
          case c1 => simp
          intro w1 hown hgrow
          have hMl := HM1.out
          have hn : Hid (∃ M : List Nat, M.length = l.length ∧ M.take (ov d s (l.take (j + 1))).length = ov d s (l.take (j + 1)) ∧ M.drop (j + 1) = l.drop (j + 1) ∧ w1.ownsRow B 3 1 (.slice (some ⟨g, 0, none⟩) l.length cap) l.length (ivals M)) := by
            rw [HS'.out]
            refine ⟨M.set T.length (x + 1), by simp [hMl], ?_, ?_, ?_⟩
            · rw [show (T ++ [x + 1]).length = T.length + 1 by simp]
              have h3 : T.length < M.length := by omega
              rw [List.take_add_one, List.take_set_of_le (Nat.le_refl _), HM2.out, List.getElem?_set_self (by omega)]
              rfl
            · rw [List.drop_set_of_lt (by omega)]
              have := congrArg (fun q : List Nat => q.drop 1) HM3.out
              simpa [List.drop_drop] using this
            · unfold ivals at hown ⊢
              rw [List.map_set]
              exact hown
          have hb1 : Below B w w1 := (hb.alloc (Nat.le_trans hB hb.size) _).grown hgrow (by have := hb.size; simp; omega) (fun q hq => by cases hq; exact hg)
          have HV : Hid ((ov d s (l.take (j + 1))).length = T.length + 1) := by show _ = _; rw [HS'.out]; simp
          clear hown hgrow hM4 hb hcell HM1 HM2 HM3 hMl
          go_wp2
          refine ⟨⟨j + 1, by omega, by simp, by rw [HV.out], hn, hb1⟩, by simp [intOf]; omega⟩
        · have HS' : Hid (ov c s (l.take (j + 1)) = T) := by
            have := HS.out
            rw [show ovF c s x = none by simp [ovF, HD.out, hdc]] at this
            exact Lib.hid (by simpa using this)
          have hne : ((d : Int) == (c : Int)) = false := by simp; omega
          have hn : Hid (∃ M : List Nat, M.length = l.length ∧ M.take (ov c s (l.take (j + 1))).length = ov c s (l.take (j + 1)) ∧ M.drop (j + 1) = l.drop (j + 1) ∧ wr.ownsRow B 3 1 (.slice (some ⟨g, 0, none⟩) l.length cap) l.length (ivals M)) := by
            rw [HS'.out]
            refine ⟨M, HM1.out, HM2.out, ?_, hM4⟩
            have := congrArg (fun q : List Nat => q.drop 1) HM3.out
            simpa [List.drop_drop] using this
          clear HS HM1 HM2 HM3 hM4
          go_wp2
          refine ⟨⟨j + 1, by omega, by simp, by rw [HS'.out], hn, hb⟩, by simp [intOf]; omega⟩
      · have HS' : Hid (ov c s (l.take (j + 1)) = T) := by
          have := HS.out
          rw [show ovF c s x = none by simp [ovF, hxl]] at this
          exact Lib.hid (by simpa using this)
        have hn : Hid (∃ M : List Nat, M.length = l.length ∧ M.take (ov c s (l.take (j + 1))).length = ov c s (l.take (j + 1)) ∧ M.drop (j + 1) = l.drop (j + 1) ∧ wr.ownsRow B 3 1 (.slice (some ⟨g, 0, none⟩) l.length cap) l.length (ivals M)) := by
          rw [HS'.out]
          refine ⟨M, HM1.out, HM2.out, ?_, hM4⟩
          have := congrArg (fun q : List Nat => q.drop 1) HM3.out
          simpa [List.drop_drop] using this
        clear HS HM1 HM2 HM3 hM4
        go_wp2
        refine ⟨⟨j + 1, by omega, by simp, by rw [HS'.out], hn, hb⟩, by simp [intOf]; omega⟩
    · obtain ⟨M, hM1, hM2, hM3, hM4⟩ := hM.out
      obtain rfl : j = l.length := by omega
      rw [List.take_length] at hM2 ⊢
      have hk := ownsRow_short hM4 (ov_length c s l)
      have hP : Pl wr B (.slice (some ⟨g, 0, none⟩) (ov c s l).length cap) (ov c s l) := by
        unfold Pl
        rw [show ivals (ov c s l) = (ivals M).take (ov c s l).length by rw [← hM2]; simp [ivals, List.map_take]]
        exact hk
      clear hM hM1 hM2 hM3 hM4 hk
      go_wp2
      go_ret
      exact ⟨rfl, hP, hb⟩
end Go.Proofs.YtcdfaikbmidkeaaDoor.nam
