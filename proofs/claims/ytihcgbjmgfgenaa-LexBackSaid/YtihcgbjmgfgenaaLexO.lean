/- The document's units. -/
import Derived.Test.YtihcgbjmgfgenaaLexN
namespace Go.Proofs.Ytihcgbjmgfgenaa.lx
open Go.ChangeShapes Go.WideShapes Go.ChangeAt Go.RowKit
open Go.Proofs.Ytihcgbjmgfgenaa.codec (Bytes vals)
open Go.Proofs.Ytihcgbjmgfgenaa.row
set_option linter.unusedVariables false
set_option maxRecDepth 100000
set_option linter.unusedSimpArgs false

theorem str_lies (w : World) (l : List Nat) (hl : ∀ x ∈ l, x < 256) : Sl (Lib.bytesWorld w 5 (strOf l)) (some ⟨w.heap.size, 0, none⟩) (strOf l).size (grownCap w (strOf l).size 0 5) l ∧ Below w.heap.size w (Lib.bytesWorld w 5 (strOf l)) ∧ (Lib.bytesWorld w 5 (strOf l)).heap.size = w.heap.size + 1 := by
  refine ⟨⟨⟨(strOf_size l).symm, hl, fun _ => ⟨_, 0, rfl, fun i hi => ?_⟩⟩, ?_, trivial, fun e => by cases e⟩, ⟨rfl, rfl, rfl, by rw [Lib.bytesWorld_size]; omega, fun k hk => Lib.bytesWorld_at_old w 5 _ k hk⟩, Lib.bytesWorld_size _ _ _⟩
  · rw [Nat.zero_add, Lib.bytesWorld_cell w 5 _ i hi]
    rw [strOf_size] at hi
    have hx := hl (l.getD i 0) (by simp [List.getD, hi])
    simp [strOf, List.getD, hi] at hx ⊢
    omega
  · exact grownCap_ge w (strOf l).size 0 5
/-- What has been told, and what is left. -/
def DS (W : World) (l dl rl : List Nat) (us : List U) (v : Value) (w : World) : Prop :=
  UR W.heap.size w (fun _ => False) v us ∧ Below W.heap.size W w ∧ run s0 l = ((run ⟨dl, [], 0⟩ rl).1, us ++ (run ⟨dl, [], 0⟩ rl).2) ∧ dl.length + rl.length ≤ l.length ∧ us.length + rl.length ≤ l.length ∧ (∀ x ∈ dl, x < 256) ∧ (∀ x ∈ rl, x < 256)
/-- No line's end stands ahead of here. -/
def NoEnd (rl : List Nat) (e : Nat) : Prop := ∀ i, i < e → rl[i]? = some 13 → rl[i + 1]? ≠ some 10
theorem none_left {dl rl : List Nat} {e : Nat} (h : NoEnd rl e) (he : rl.length ≤ e + 1) : run ⟨dl, [], 0⟩ rl = (⟨dl, rl, 0⟩, []) := by
  have := run_stays rl dl [] (fun i h1 h2 => by
    rw [List.nil_append] at h1 h2
    have hi := (List.getElem?_eq_some_iff.1 h2).1
    exact absurd h2 (h i (by omega) h1))
  simpa using this
theorem split_at {rl : List Nat} {e : Nat} (h1 : rl[e]? = some 13) (h2 : rl[e + 1]? = some 10) : rl = rl.take e ++ 13 :: 10 :: rl.drop (e + 2) := by
  obtain ⟨g1, g2⟩ := List.getElem?_eq_some_iff.1 h1
  obtain ⟨g3, g4⟩ := List.getElem?_eq_some_iff.1 h2
  have h3 := List.take_append_drop e rl
  rw [List.drop_eq_getElem_cons g1, g2, List.drop_eq_getElem_cons g3, g4] at h3
  exact h3.symm
theorem line_run {dl rl : List Nat} {e : Nat} (h : NoEnd rl e) (h1 : rl[e]? = some 13) (h2 : rl[e + 1]? = some 10) :
    run ⟨dl, [], 0⟩ rl = ((run (close dl (rl.take e)).1 (rl.drop (e + 2))).1, (close dl (rl.take e)).2 :: (run (close dl (rl.take e)).1 (rl.drop (e + 2))).2) := by
  have he := (List.getElem?_eq_some_iff.1 h1).1
  have hlen : (rl.take e).length = e := by rw [List.length_take]; omega
  have := run_line (rl.take e) dl (rl.drop (e + 2)) (fun i hi hj => by
    have hie : i < e := by
      have := (List.getElem?_eq_some_iff.1 hi).1
      omega
    rw [List.getElem?_take, if_pos hie] at hi
    by_cases hn : i + 1 < e
    · rw [List.getElem?_append_left (by omega), List.getElem?_take, if_pos hn] at hj
      exact h i hie hi hj
    · rw [List.getElem?_append_right (by omega), hlen, show i + 1 - e = 0 by omega] at hj
      simp at hj)
  rw [← split_at h1 h2] at this
  exact this
theorem told_next {W wr w3 w4 : World} {us : List U} {u : U} {v v1 : Value} {ys : List Un} {A : Option Addr} {n c : Nat} (hB : Below W.heap.size W wr) (hO : Own cU 2 W.heap.size 29 wr v ys) (h1 : ys.length = us.length) (h3 : ∀ (k : Nat) (y : Un) (u : U), ys[k]? = some y → us[k]? = some u → y.k = u.1 ∧ Sl wr y.A y.n y.c u.2 ∧ ∀ i ∈ blk y.A, W.heap.size ≤ i ∧ i < wr.heap.size ∧ v.ownBlock ≠ some i ∧ ¬ False)
    (h4 : ∀ i, v.ownBlock = some i → W.heap.size ≤ i ∧ i < wr.heap.size ∧ ¬ False) (hb3 : Below wr.heap.size wr w3) (hS : Sl w3 A n c u.2) (hA : ∀ i ∈ blk A, wr.heap.size ≤ i ∧ i < w3.heap.size)
    (ho : Own cU 2 W.heap.size 29 w4 v1 (ys ++ [⟨u.1, A, n, c⟩])) (hg : w3.grownBy w4 v.ownBlock) (hat : v1.ownBlock = v.ownBlock ∨ ∃ g, v1.ownBlock = some g ∧ w3.heap.size ≤ g) : UR W.heap.size w4 (fun _ => False) v1 (us ++ [u]) ∧ Below W.heap.size W w4 := by
  have hs := hB.size
  have hs3 := hb3.size
  have hb := hB.trans (hb3.mono hs)
  refine ⟨UR.push h1 (fun k y u hy hu => ?_) (fun i hi => ⟨(h4 i hi).1, by have := (h4 i hi).2.1; omega, not_false⟩) hS (fun i hi => ⟨by have := (hA i hi).1; omega, (hA i hi).2, fun e => by have := (h4 i e).2.1; have := (hA i hi).1; omega, not_false⟩) ho hg hat (by omega) (fun i h => h.elim), ?_⟩
  · obtain ⟨g1, g2, g3⟩ := h3 k y u hy hu
    exact ⟨g1, ⟨g2.1.below g2.1.lt hb3, g2.2⟩, fun i hi => ⟨(g3 i hi).1, by have := (g3 i hi).2.1; omega, (g3 i hi).2.2.1, not_false⟩⟩
  · exact hb.trans ⟨hg.os, hg.tape, hg.output, hg.size, fun i hi => hg.block i (by have := hb.size; omega) (fun e => by have := (h4 i e.symm).1; omega)⟩
theorem DS.fresh {W w4 : World} {l dl rl line rest : List Nat} {us : List U} {u : U} {v1 : Value} {e : Nat} (hrun : run s0 l = ((run (close dl line).1 rest).1, us ++ (close dl line).2 :: (run (close dl line).1 rest).2)) (hcl : close dl line = (s0, u)) (hrest : rest = rl.drop (e + 2)) (he : e + 1 < rl.length)
    (hc1 : dl.length + rl.length ≤ l.length) (hc2 : us.length + rl.length ≤ l.length) (hb : ∀ x ∈ rl, x < 256) (h : UR W.heap.size w4 (fun _ => False) v1 (us ++ [u]) ∧ Below W.heap.size W w4) : DS W l [] rest (us ++ [u]) v1 w4 := by
  rw [hcl] at hrun
  refine ⟨h.1, h.2, ?_, ?_, ?_, by simp, fun x hx => ?_⟩
  · rw [hrun]
    simp [s0]
  · rw [hrest, List.length_drop]
    simp
    omega
  · rw [hrest, List.length_drop, List.length_append]
    simp
    omega
  · rw [hrest] at hx
    exact hb x (List.mem_of_mem_drop hx)
theorem DS.asked {W w4 : World} {l dl rl line rest : List Nat} {us : List U} {v1 : Value} {e n : Nat} (hrun : run s0 l = ((run (close dl line).1 rest).1, us ++ (close dl line).2 :: (run (close dl line).1 rest).2)) (hcl : close dl line = (⟨dl ++ line ++ [13, 10], [], n⟩, (4, []))) (hrest : rest = rl.drop (e + 2)) (hline : line = rl.take e) (he : e + 1 < rl.length)
    (hc1 : dl.length + rl.length ≤ l.length) (hc2 : us.length + rl.length ≤ l.length) (hb : ∀ x ∈ rl, x < 256) (hd : ∀ x ∈ dl, x < 256) (hn : n ≤ rest.length) (h : UR W.heap.size w4 (fun _ => False) v1 (us ++ [((4, []) : U)]) ∧ Below W.heap.size W w4) : DS W l (dl ++ line ++ [13, 10] ++ rest.take n) (rest.drop n) (us ++ [((4, []) : U)]) v1 w4 := by
  rw [hcl] at hrun
  have hl1 : rest.length = rl.length - (e + 2) := by rw [hrest, List.length_drop]
  have hl2 : line.length = e := by rw [hline, List.length_take]; omega
  have hr : run ⟨dl ++ line ++ [13, 10], [], n⟩ rest = run ⟨dl ++ line ++ [13, 10] ++ rest.take n, [], 0⟩ (rest.drop n) := by
    have e1 : run ⟨dl ++ line ++ [13, 10], [], n⟩ rest = run ⟨dl ++ line ++ [13, 10], [], n⟩ (rest.take n ++ rest.drop n) := by rw [List.take_append_drop]
    have hlt : (rest.take n).length = n := by rw [List.length_take]; omega
    rw [e1, run_append, run_lit (rest.take n) (dl ++ line ++ [13, 10]) [] n (by omega), hlt, Nat.sub_self]
    simp
  refine ⟨h.1, h.2, ?_, ?_, ?_, ?_, fun x hx => ?_⟩
  · rw [hrun]
    simp only
    rw [hr]
    simp
  · simp only [List.length_append, List.length_take, List.length_drop, List.length_cons, List.length_nil]
    omega
  · simp only [List.length_append, List.length_drop, List.length_cons, List.length_nil]
    omega
  · intro x hx
    simp only [List.mem_append] at hx
    rcases hx with ((h | h) | h) | h
    · exact hd x h
    · rw [hline] at h
      exact hb x (List.mem_of_mem_take h)
    · simp at h
      omega
    · have h2 := List.mem_of_mem_take h
      rw [hrest] at h2
      exact hb x (List.mem_of_mem_drop h2)
  · have h2 := List.mem_of_mem_drop hx
    rw [hrest] at h2
    exact hb x (List.mem_of_mem_drop h2)
theorem asked_end {l dl line rest : List Nat} {us : List U} {n : Nat} (hrun : run s0 l = ((run (close dl line).1 rest).1, us ++ (close dl line).2 :: (run (close dl line).1 rest).2)) (hcl : close dl line = (⟨dl ++ line ++ [13, 10], [], n⟩, (4, []))) (hn : rest.length < n) :
    (run s0 l).2 = us ++ [((4, []) : U)] ∧ 0 < (run s0 l).1.left := by
  rw [hcl] at hrun
  simp only at hrun
  rw [run_lit rest (dl ++ line ++ [13, 10]) [] n (by omega)] at hrun
  rw [hrun]
  refine ⟨rfl, ?_⟩
  show 0 < n - rest.length
  omega
set_option maxHeartbeats 8000000 in
theorem units_any (W : World) (l : List Nat) (s : ByteArray) (hs : s = strOf l) (hb : ∀ x ∈ l, x < 256) (hn : l.length ≤ 20000) :
    Calls Try.prog 8 #[.string s] W fun e w' => FedAns W l e w' := by
  have H0 := Lib.hid (show DS W l [] l [] (.slice none 0 0) W from ⟨UR.nil _ _ _, Below.refl _ _, rfl, by simp, by simp, by simp, hb⟩)
  have hcv := fun (w' : World) (s : ByteArray) => Lib.run_convert_string_bytes (P := Try.prog) w' 9 22 5 s Try.underlying9 Try.underlying22 Try.underlying5
  have HS := Lib.hid hs
  have HN := Lib.hid hn
  clear hs hb hn
  go_enter Try.func8, Try.ntmps8
  go_wp2_with fail
  go_loopw [0, 4, 5] (fun b v d wr => ∃ (dl rl : List Nat) (us : List U) (r ds : ByteArray), b = .string r ∧ d = .string ds ∧ Hid (r = strOf rl ∧ ds = strOf dl) ∧ Hid (DS W l dl rl us v wr)) (fun b _ _ _ => strLen b)
  case atStart => exact ⟨[], l, [], s, ⟨#[]⟩, rfl, rfl, Lib.hid ⟨HS.out, rfl⟩, H0⟩
  case round =>
    obtain ⟨dl, rl, us, r, ds, rfl, rfl, HR, HD⟩ := hrel
    go_wp2_with fail
    obtain ⟨L, hL⟩ : ∃ L, L = r.size := ⟨_, rfl⟩
    have hlen : rl.length = L := by rw [hL, HR.out.1, strOf_size]
    have hL2 : L ≤ 20000 := by
      have h1 := HD.out.2.2.2.1
      have h2 := HN.out
      omega
    have HAt := Lib.hid (show ∀ (i y : Nat) (h : i < r.size), rl[i]? = some y → (r[i]'h).toNat = y from fun i y h hy => by
      have h1 : byt r i = y := by
        rw [HR.out.1]
        exact byt_strOf HD.out.2.2.2.2.2.2 hy
      rw [byt_at, h1])
    have HL := Lib.hid (And.intro hL hlen)
    clear hL hlen
    go_loop [6] (fun i => ∃ e : Nat, e ≤ L ∧ i = .int .i64 e ∧ Hid (NoEnd rl e)) (fun i => L - (intOf i).toNat)
    case atStart => exact ⟨0, Nat.zero_le _, rfl, Lib.hid (fun i hi => absurd hi (Nat.not_lt_zero _))⟩
    case round =>
      obtain ⟨e, heL, rfl, HE⟩ := hrel
      have e1 : IntKind.i64.wrap ((e : Int) + 1) = (e : Int) + 1 := IntWalk.i64_in _ (by omega)
      by_cases hin : e + 1 < L
      · obtain ⟨x, hx⟩ : ∃ x, rl[e]? = some x := ⟨_, List.getElem?_eq_getElem (by have := HL.out.2; omega)⟩
        obtain ⟨y, hy⟩ : ∃ y, rl[e + 1]? = some y := ⟨_, List.getElem?_eq_getElem (by have := HL.out.2; omega)⟩
        have hes : e < r.size := by have := HL.out.1; omega
        have hes1 : e + 1 < r.size := by have := HL.out.1; omega
        have c0 := HAt.out e x hes hx
        have c1 := HAt.out (e + 1) y hes1 hy
        have t1 : ((e : Int) + 1).toNat = e + 1 := by omega
        have b1 : (0 : Int) ≤ (e : Int) + 1 := by omega
        have b2 : (e : Int) + 1 < (r.size : Int) := by omega
        have q0 : decide ((e : Int) + 1 < (r.size : Int)) = true := decide_eq_true (by omega)
        have HXY := Lib.hid (And.intro hx hy)
        by_cases hgo : x = 13 ∧ y = 10
        · have q1 : ((x : Int) != 13) = false := by rw [bne_eq_false_iff_eq]; omega
          have q2 : ((y : Int) != 10) = false := by rw [bne_eq_false_iff_eq]; omega
          have HG := Lib.hid (And.intro hgo.1 hgo.2)
          clear hx hy hgo
          go_wp2_with fail
          clear q0 q1 q2 t1 b1 b2 e1 c0 c1
          have hls : r.extract 0 e = strOf (rl.take e) := by rw [HR.out.1, strOf_take]
          have hrs : r.extract (e + 2) r.size = strOf (rl.drop (e + 2)) := by rw [HR.out.1, strOf_rest _ _ _ (by rw [strOf_size]; exact Nat.le_refl _)]
          have hlsz : (r.extract 0 e).size = e := by rw [ByteArray.size_extract]; omega
          have hrsz : (r.extract (e + 2) r.size).size = L - (e + 2) := by rw [ByteArray.size_extract]; have := HL.out.1; omega
          generalize r.extract 0 e = ls at *
          generalize r.extract (e + 2) r.size = rs at *
          have hlt : (rl.take e).length = e := by rw [List.length_take]; have := HL.out.2; omega
          have HWn := Lib.hid (wants_any wr (rl.take e) ls hls (fun x hx => HD.out.2.2.2.2.2.2 x (List.mem_of_mem_take hx)) (by omega))
          obtain ⟨hU, hB, hrun, hcnt, hcnt2, hdb, hrb⟩ := HD.out
          rw [line_run HE.out (by rw [HXY.out.1, HG.out.1]) (by rw [HXY.out.2, HG.out.2])] at hrun
          obtain ⟨⟨ys, hO, hy2, hy3⟩, hy4⟩ := hU
          obtain ⟨AV, cv, hv⟩ := own_slice hO
          obtain ⟨nv, hnv⟩ : ∃ nv, nv = ys.length := ⟨_, rfl⟩
          rw [← hnv] at hv
          subst hv
          have HTold := Lib.hid (fun (u : U) (A : Option Addr) (n c : Nat) (w3 w4 : World) (v1 : Value) hb3 hS hA ho hg hat => told_next (w3 := w3) (w4 := w4) (u := u) (A := A) (n := n) (c := c) (v1 := v1) hB hO hy2 hy3 hy4 hb3 hS hA ho hg hat)
          have HO := Lib.hid hO
          have HBw := Lib.hid hB
          have HRun := Lib.hid hrun
          have HCnt := Lib.hid (show ys.length ≤ 20000000 ∧ dl.length + rl.length ≤ l.length ∧ us.length + rl.length ≤ l.length ∧ (∀ x ∈ dl, x < 256) ∧ (∀ x ∈ rl, x < 256) from ⟨by have := HN.out; omega, hcnt, hcnt2, hdb, hrb⟩)
          have HLs := Lib.hid (And.intro hls (And.intro hrs (And.intro hlt hin)))
          have hds : ds.size = dl.length := by rw [HR.out.2, strOf_size]
          have HDs := Lib.hid hds
          have hcat : ∀ w, (Op.stringOp .add ds ls).run Try.prog w = .ok (.string (ds ++ ls)) w := fun w => run_string_add_sum w _ _ (by have := HN.out; omega)
          have hdsl : ds ++ ls = strOf (dl ++ rl.take e) := by rw [HR.out.2, hls, strOf_append]
          have HSm := Lib.hid (fun w => some_any w (dl ++ rl.take e) (ds ++ ls) hdsl)
          have HDl := Lib.hid hdsl
          clear hls hrs hlt hB hrun hcnt hcnt2 hdb hrb hO hy2 hy3 hy4 hnv hds hdsl hin
          obtain ⟨line, hline⟩ : ∃ line, line = rl.take e := ⟨_, rfl⟩
          refine HWn.out.mono ?_
          rintro e9 w9 ⟨rfl, hw⟩
          replace hw := hw.symm
          subst hw
          obtain ⟨z, hz⟩ : ∃ z, z = wantsZ (rl.take e) := ⟨_, rfl⟩
          rw [← hz]
          have HZz := Lib.hid hz
          clear hz
          by_cases hlong : 2000 < e
          · skip
            have p1 : decide ((2000 : Int) < (ls.size : Int)) = true := decide_eq_true (by omega)
            have hcl : close dl (rl.take e) = (s0, (2, (dl ++ rl.take e).take 100)) := by unfold close; rw [if_pos (by rw [HLs.out.2.2.1]; exact hlong)]
            have hbl : ∀ x ∈ (dl ++ rl.take e).take 100, x < 256 := fun x hx => by
              have hx2 : x ∈ dl ++ rl.take e := List.mem_of_mem_take hx
              rcases List.mem_append.1 hx2 with h | h
              · exact HCnt.out.2.2.2.1 x h
              · exact HCnt.out.2.2.2.2 x (List.mem_of_mem_take h)
            have HSl := Lib.hid (str_lies wr ((dl ++ rl.take e).take 100) hbl)
            have HCl := Lib.hid hcl
            obtain ⟨bs, hbs⟩ : ∃ bs, bs = strOf ((dl ++ rl.take e).take 100) := ⟨_, rfl⟩
            have HSm2 := HSm
            rw [← hbs] at HSl HSm2
            have HO3 := Lib.hid (HO.out.below HSl.out.2.1)
            have HW3 := Lib.hid (show W.heap.size ≤ (Lib.bytesWorld wr 5 bs).heap.size by have h1 := HSl.out.2.1.size; have h2 := HBw.out.size; omega)
            have HEnd := Lib.hid (fun (v1 : Value) (w4 : World) ho hg hat => DS.fresh (e := e) (w4 := w4) (v1 := v1) HRun.out HCl.out rfl (by rw [HL.out.2]; exact HLs.out.2.2.2) HCnt.out.2.1 HCnt.out.2.2.1 HCnt.out.2.2.2.2 (HTold.out (2, (dl ++ rl.take e).take 100) _ _ _ (Lib.bytesWorld wr 5 bs) w4 v1 HSl.out.2.1 HSl.out.1 (fun i hi => by
                simp [blk] at hi
                have h1 := HSl.out.2.2
                omega) ho hg hat))
            have HMs := Lib.hid (show rs.size < r.size by have h1 := HL.out.1; have h2 := HLs.out.2.2.2; omega)
            have HRs := Lib.hid (And.intro HLs.out.2.1 (show (⟨#[]⟩ : ByteArray) = strOf [] from rfl))
            clear hcl hbl hbs hlsz hrsz
            go_wp2_with fail
            refine (HSm2.out wr).mono ?_
            rintro e9 w9 ⟨rfl, hw⟩
            replace hw := hw.symm
            subst hw
            go_wp2_with (at_builtin; refine row.wpList_append_own fU (by decide) (by decide) (by_ := 32) (by decide) (z := .agg #[.int .i64 0, .slice none 0 0]) rfl rfl (.tmp 56) (.tmp 63) 24 29 rfl Try.underlying24 infoU W.heap.size (.slice AV nv cv) ys rfl HO3.out HW3.out HCnt.out.1 ⟨2, some ⟨wr.heap.size, 0, none⟩, bs.size, grownCap wr bs.size 0 5⟩ (0, 0) _ (by simp) rfl _ rfl ?_; intro v1 w4 ho hg h3; have HS1 := Lib.hid (HEnd.out v1 w4 ho hg h3); clear ho hg h3)
            go_roundw
            case rel => first | exact ⟨[], rl.drop (e + 2), _, rs, ⟨#[]⟩, rfl, rfl, HRs, HS1⟩ | ((repeat apply Exists.intro); exact ⟨⟨[], rl.drop (e + 2), _, rs, ⟨#[]⟩, rfl, rfl, HRs, HS1⟩, rfl⟩)
            case measure => (show rs.size < r.size; exact HMs.out)
          · have p1 : decide ((2000 : Int) < (ls.size : Int)) = false := decide_eq_false (by omega)
            cases hlit : litL (rl.take e) with
            | none =>
              obtain rfl : z = -1 := by
                rw [HZz.out]
                unfold wantsZ
                rw [hlit]
              have hcl : close dl (rl.take e) = (s0, (1, dl ++ rl.take e)) := by unfold close; rw [if_neg (by rw [HLs.out.2.2.1]; exact hlong)]; simp only [hlit]
              have hbl : ∀ x ∈ dl ++ rl.take e, x < 256 := fun x hx => by
                have hx2 : x ∈ dl ++ rl.take e := hx
                rcases List.mem_append.1 hx2 with h | h
                · exact HCnt.out.2.2.2.1 x h
                · exact HCnt.out.2.2.2.2 x (List.mem_of_mem_take h)
              have HSl := Lib.hid (str_lies wr (dl ++ rl.take e) hbl)
              have HCl := Lib.hid hcl
              have HSm2 := HSm
              rw [← HDl.out] at HSl
              generalize hbs : ds ++ ls = bs at *
              have HO3 := Lib.hid (HO.out.below HSl.out.2.1)
              have HW3 := Lib.hid (show W.heap.size ≤ (Lib.bytesWorld wr 5 bs).heap.size by have h1 := HSl.out.2.1.size; have h2 := HBw.out.size; omega)
              have HEnd := Lib.hid (fun (v1 : Value) (w4 : World) ho hg hat => DS.fresh (e := e) (w4 := w4) (v1 := v1) HRun.out HCl.out rfl (by rw [HL.out.2]; exact HLs.out.2.2.2) HCnt.out.2.1 HCnt.out.2.2.1 HCnt.out.2.2.2.2 (HTold.out (1, dl ++ rl.take e) _ _ _ (Lib.bytesWorld wr 5 bs) w4 v1 HSl.out.2.1 HSl.out.1 (fun i hi => by
                  simp [blk] at hi
                  have h1 := HSl.out.2.2
                  omega) ho hg hat))
              have HMs := Lib.hid (show rs.size < r.size by have h1 := HL.out.1; have h2 := HLs.out.2.2.2; omega)
              have HRs := Lib.hid (And.intro HLs.out.2.1 (show (⟨#[]⟩ : ByteArray) = strOf [] from rfl))
              clear hcl hbl hbs hlsz hrsz
              go_wp2_with (at_builtin; refine row.wpList_append_own fU (by decide) (by decide) (by_ := 32) (by decide) (z := .agg #[.int .i64 0, .slice none 0 0]) rfl rfl (.tmp 44) (.tmp 50) 24 29 rfl Try.underlying24 infoU W.heap.size (.slice AV nv cv) ys rfl HO3.out HW3.out HCnt.out.1 ⟨1, some ⟨wr.heap.size, 0, none⟩, bs.size, grownCap wr bs.size 0 5⟩ (0, 0) _ (by simp) rfl _ rfl ?_; intro v1 w4 ho hg h3; have HS1 := Lib.hid (HEnd.out v1 w4 ho hg h3); clear ho hg h3)
              go_roundw
              case rel => first | exact ⟨[], rl.drop (e + 2), _, rs, ⟨#[]⟩, rfl, rfl, HRs, HS1⟩ | ((repeat apply Exists.intro); exact ⟨⟨[], rl.drop (e + 2), _, rs, ⟨#[]⟩, rfl, rfl, HRs, HS1⟩, rfl⟩)
              case measure => (show rs.size < r.size; exact HMs.out)
            | some n =>
              obtain rfl : z = (n : Int) := by
                rw [HZz.out]
                unfold wantsZ
                rw [hlit]
              by_cases hgr : 20000 < n
              · have p2 : decide ((20000 : Int) < (n : Int)) = true := decide_eq_true (by omega)
                have hcl : close dl (rl.take e) = (s0, (3, (dl ++ rl.take e).take 100)) := by unfold close; rw [if_neg (by rw [HLs.out.2.2.1]; exact hlong)]; simp only [hlit]; rw [if_pos hgr]
                have hbl : ∀ x ∈ (dl ++ rl.take e).take 100, x < 256 := fun x hx => by
                  have hx2 : x ∈ dl ++ rl.take e := List.mem_of_mem_take hx
                  rcases List.mem_append.1 hx2 with h | h
                  · exact HCnt.out.2.2.2.1 x h
                  · exact HCnt.out.2.2.2.2 x (List.mem_of_mem_take h)
                have HSl := Lib.hid (str_lies wr ((dl ++ rl.take e).take 100) hbl)
                have HCl := Lib.hid hcl
                obtain ⟨bs, hbs⟩ : ∃ bs, bs = strOf ((dl ++ rl.take e).take 100) := ⟨_, rfl⟩
                have HSm2 := HSm
                rw [← hbs] at HSl HSm2
                have HO3 := Lib.hid (HO.out.below HSl.out.2.1)
                have HW3 := Lib.hid (show W.heap.size ≤ (Lib.bytesWorld wr 5 bs).heap.size by have h1 := HSl.out.2.1.size; have h2 := HBw.out.size; omega)
                have HEnd := Lib.hid (fun (v1 : Value) (w4 : World) ho hg hat => DS.fresh (e := e) (w4 := w4) (v1 := v1) HRun.out HCl.out rfl (by rw [HL.out.2]; exact HLs.out.2.2.2) HCnt.out.2.1 HCnt.out.2.2.1 HCnt.out.2.2.2.2 (HTold.out (3, (dl ++ rl.take e).take 100) _ _ _ (Lib.bytesWorld wr 5 bs) w4 v1 HSl.out.2.1 HSl.out.1 (fun i hi => by
                    simp [blk] at hi
                    have h1 := HSl.out.2.2
                    omega) ho hg hat))
                have HMs := Lib.hid (show rs.size < r.size by have h1 := HL.out.1; have h2 := HLs.out.2.2.2; omega)
                have HRs := Lib.hid (And.intro HLs.out.2.1 (show (⟨#[]⟩ : ByteArray) = strOf [] from rfl))
                clear hcl hbl hbs hlsz hrsz
                go_wp2_with fail
                refine (HSm2.out wr).mono ?_
                rintro e9 w9 ⟨rfl, hw⟩
                replace hw := hw.symm
                subst hw
                go_wp2_with (at_builtin; refine row.wpList_append_own fU (by decide) (by decide) (by_ := 32) (by decide) (z := .agg #[.int .i64 0, .slice none 0 0]) rfl rfl (.tmp 68) (.tmp 75) 24 29 rfl Try.underlying24 infoU W.heap.size (.slice AV nv cv) ys rfl HO3.out HW3.out HCnt.out.1 ⟨3, some ⟨wr.heap.size, 0, none⟩, bs.size, grownCap wr bs.size 0 5⟩ (0, 0) _ (by simp) rfl _ rfl ?_; intro v1 w4 ho hg h3; have HS1 := Lib.hid (HEnd.out v1 w4 ho hg h3); clear ho hg h3)
                go_roundw
                case rel => first | exact ⟨[], rl.drop (e + 2), _, rs, ⟨#[]⟩, rfl, rfl, HRs, HS1⟩ | ((repeat apply Exists.intro); exact ⟨⟨[], rl.drop (e + 2), _, rs, ⟨#[]⟩, rfl, rfl, HRs, HS1⟩, rfl⟩)
                case measure => (show rs.size < r.size; exact HMs.out)
              · have p2 : decide ((20000 : Int) < (n : Int)) = false := decide_eq_false (by omega)
                have p3 : decide ((0 : Int) ≤ (n : Int)) = true := decide_eq_true (by omega)
                have hcl : close dl (rl.take e) = (⟨dl ++ rl.take e ++ [13, 10], [], n⟩, (4, [])) := by unfold close; rw [if_neg (by rw [HLs.out.2.2.1]; exact hlong)]; simp only [hlit]; rw [if_neg hgr]
                have HCl := Lib.hid hcl
                have HWs := Lib.hid HBw.out.size
                have HEnd := Lib.hid (fun (v1 : Value) (w4 : World) ho hg hat => HTold.out (4, []) none 0 0 wr w4 v1 (Below.refl _ _) (Sl.none _) (by simp [blk]) ho hg hat)
                have HMs := Lib.hid (show rs.size < r.size by have h1 := HL.out.1; have h2 := HLs.out.2.2.2; omega)
                have HAsk := Lib.hid (fun (v1 : Value) (w4 : World) (hn : n ≤ (rl.drop (e + 2)).length) (h : UR W.heap.size w4 (fun _ => False) v1 (us ++ [((4, []) : U)]) ∧ Below W.heap.size W w4) => DS.asked (e := e) (w4 := w4) (v1 := v1) HRun.out HCl.out rfl rfl (by rw [HL.out.2]; exact HLs.out.2.2.2) HCnt.out.2.1 HCnt.out.2.2.1 HCnt.out.2.2.2.2 HCnt.out.2.2.2.1 hn h)
                have hrl : (rl.drop (e + 2)).length = rs.size := by rw [HLs.out.2.1, strOf_size]
                have hn2 : n ≤ 20000 := by omega
                have hcat2 : ∀ w, (Op.stringOp .add (ds ++ ls) ⟨#[13, 10]⟩).run Try.prog w = .ok (.string ((ds ++ ls) ++ ⟨#[13, 10]⟩)) w := fun w => run_string_add_sum w _ _ (by
                  have h1 := HN.out
                  have h2 := HDs.out
                  have h3 := HCnt.out.2.1
                  have h4 : (⟨#[13, 10]⟩ : ByteArray).size = 2 := rfl
                  rw [ByteArray.size_append]
                  omega)
                have hcat3 : ∀ w, (Op.stringOp .add ((ds ++ ls) ++ ⟨#[13, 10]⟩) (rs.extract 0 n)).run Try.prog w = .ok (.string (((ds ++ ls) ++ ⟨#[13, 10]⟩) ++ rs.extract 0 n)) w := fun w => run_string_add_sum w _ _ (by
                  have h1 := HN.out
                  have h2 := HDs.out
                  have h3 := HCnt.out.2.1
                  have h4 : (⟨#[13, 10]⟩ : ByteArray).size = 2 := rfl
                  rw [ByteArray.size_append, ByteArray.size_append, ByteArray.size_extract]
                  omega)
                by_cases hgt : rs.size < n
                · have p4 : decide ((rs.size : Int) < (n : Int)) = true := decide_eq_true (by omega)
                  have p5 : decide (rs.size < n) = true := decide_eq_true (by omega)
                  have HEn := Lib.hid (asked_end HRun.out HCl.out (by rw [hrl]; exact hgt))
                  have HZ := Lib.hid (fun (v1 : Value) (w4 : World) ho hg hat => (show FedAns W l (.returned (.tuple #[v1, .bool true])) w4 from by
                    obtain ⟨hU, hB⟩ := HEnd.out v1 w4 ho hg hat
                    rw [← HEn.out.1] at hU
                    obtain ⟨⟨ys, hO, hy2⟩, hy3⟩ := hU
                    obtain ⟨AV, cv, rfl⟩ := own_slice hO
                    refine ⟨AV, ys.length, cv, ?_, ⟨⟨ys, hO, hy2⟩, hy3⟩, hB⟩
                    rw [decide_eq_true HEn.out.2]))
                  clear hcl hlit hgr hgt hrl hlsz hrsz
                  go_wp2_with (at_builtin; refine row.wpList_append_own fU (by decide) (by decide) (by_ := 32) (by decide) (z := .agg #[.int .i64 0, .slice none 0 0]) rfl rfl (.tmp 80) (.tmp 82) 24 29 rfl Try.underlying24 infoU W.heap.size (.slice AV nv cv) ys rfl HO.out HWs.out HCnt.out.1 ⟨4, none, 0, 0⟩ (0, 0) _ (by simp) rfl _ rfl ?_; intro v1 w4 ho hg h3; have HS1 := Lib.hid (HZ.out v1 w4 ho hg h3); clear ho hg h3)
                  go_ret2
                  exact HS1.out
                · have p4 : decide ((rs.size : Int) < (n : Int)) = false := decide_eq_false (by omega)
                  have p5 : decide (rs.size < n) = false := decide_eq_false (by omega)
                  have hns : n ≤ rs.size := by omega
                  have HRs := Lib.hid (show rs.extract n rs.size = strOf ((rl.drop (e + 2)).drop n) ∧ ((ds ++ ls) ++ ⟨#[13, 10]⟩) ++ rs.extract 0 n = strOf (dl ++ rl.take e ++ [13, 10] ++ (rl.drop (e + 2)).take n) from by
                    refine ⟨?_, ?_⟩
                    · rw [HLs.out.2.1, strOf_rest _ _ _ (by rw [strOf_size]; exact Nat.le_refl _)]
                    · rw [HLs.out.2.1, strOf_take, HDl.out, show (⟨#[13, 10]⟩ : ByteArray) = strOf [13, 10] from rfl, strOf_append, strOf_append])
                  have HZ := Lib.hid (fun (v1 : Value) (w4 : World) ho hg hat => HAsk.out v1 w4 (by rw [hrl]; exact hns) (HEnd.out v1 w4 ho hg hat))
                  have HM2 := Lib.hid (show (rs.extract n rs.size).size < r.size by
                    have h1 := HMs.out
                    rw [ByteArray.size_extract]
                    omega)
                  clear hcl hlit hgr hgt hrl hlsz hrsz
                  go_wp2_with (at_builtin; refine row.wpList_append_own fU (by decide) (by decide) (by_ := 32) (by decide) (z := .agg #[.int .i64 0, .slice none 0 0]) rfl rfl (.tmp 80) (.tmp 82) 24 29 rfl Try.underlying24 infoU W.heap.size (.slice AV nv cv) ys rfl HO.out HWs.out HCnt.out.1 ⟨4, none, 0, 0⟩ (0, 0) _ (by simp) rfl _ rfl ?_; intro v1 w4 ho hg h3; have HS1 := Lib.hid (HZ.out v1 w4 ho hg h3); clear ho hg h3)
                  go_roundw
                  case rel => first | exact ⟨_, _, _, _, _, rfl, rfl, HRs, HS1⟩ | ((repeat apply Exists.intro); exact ⟨⟨_, _, _, _, _, rfl, rfl, HRs, HS1⟩, rfl⟩)
                  case measure => (show (rs.extract n rs.size).size < r.size; exact HM2.out)
        · have HE1 := Lib.hid (show NoEnd rl (e + 1) from fun i hi h1 h2 => by
            by_cases hie : i < e
            · exact HE.out i hie h1 h2
            · obtain rfl : i = e := by omega
              rw [hx] at h1
              rw [hy] at h2
              exact hgo ⟨Option.some.inj h1, Option.some.inj h2⟩)
          by_cases hx13 : x = 13
          · have q1 : ((x : Int) != 13) = false := by rw [bne_eq_false_iff_eq]; omega
            have q2 : ((y : Int) != 10) = true := by rw [bne_iff_ne]; omega
            clear hx hy hgo hx13
            go_wp2_with fail
            go_round
            case rel => first | exact ⟨e + 1, by omega, by go_num, HE1⟩ | ((repeat apply Exists.intro); exact ⟨⟨e + 1, by omega, by go_num, HE1⟩, rfl⟩)
            case measure => (show L - ((e : Int) + 1).toNat < L - e; omega)
          · have q1 : ((x : Int) != 13) = true := by rw [bne_iff_ne]; omega
            clear hx hy hgo hx13
            go_wp2_with fail
            go_round
            case rel => first | exact ⟨e + 1, by omega, by go_num, HE1⟩ | ((repeat apply Exists.intro); exact ⟨⟨e + 1, by omega, by go_num, HE1⟩, rfl⟩)
            case measure => (show L - ((e : Int) + 1).toNat < L - e; omega)
      · have q0 : decide ((e : Int) + 1 < (r.size : Int)) = false := decide_eq_false (by have := HL.out.1; omega)
        have q3 : decide ((r.size : Int) ≤ (e : Int) + 1) = true := decide_eq_true (by have := HL.out.1; omega)
        have HZ := Lib.hid (show FedAns W l (.returned (.tuple #[u4, .bool false])) wr from by
          obtain ⟨hU, hB, hrun, -⟩ := HD.out
          rw [none_left HE.out (by have := HL.out.2; omega), List.append_nil] at hrun
          obtain ⟨⟨ys, hO, hy2⟩, hy3⟩ := hU
          obtain ⟨AV, cv, rfl⟩ := own_slice hO
          refine ⟨AV, ys.length, cv, ?_, ?_, hB⟩
          · rw [hrun]
            rfl
          · rw [hrun]
            exact ⟨⟨ys, hO, hy2⟩, hy3⟩)
        clear hin
        go_wp2_with fail
        go_ret2
        exact HZ.out
end Go.Proofs.Ytihcgbjmgfgenaa.lx
