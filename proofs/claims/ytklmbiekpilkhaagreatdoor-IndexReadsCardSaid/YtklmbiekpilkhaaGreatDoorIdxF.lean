/- How a tree is got. -/
import Derived.Test.YtklmbiekpilkhaaGreatDoorIdxE
namespace Go.Proofs.YtklmbiekpilkhaaGreatDoor.idx
open Go.ChangeShapes Go.WideShapes Go.ChangeAt Go.RowKit
open Go.Proofs.YtklmbiekpilkhaaGreatDoor.row
open Go.Proofs.YtklmbiekpilkhaaGreatDoor.codec (Bytes OutIs More Touch bytesOf bytesOf_length strOf numOf)
open Go.Proofs.YtklmbiekpilkhaaGreatDoor.bod (named nums txt nums_length nums_lt strOf_nums)
open Go.Proofs.YtklmbiekpilkhaaGreatDoor.rd (got rest rd_N rd_Text rd_Done rest_lt)
open Go.Proofs.YtklmbiekpilkhaaGreatDoor.pg (IsPage payL)
set_option linter.unusedVariables false
set_option maxRecDepth 100000
set_option linter.unusedSimpArgs false

/-- A reader, and a row of things that were read, while k are still to come. -/
def GS {α : Type} (F : α → List Value) (K : Nat) (one : Option (List Nat) → α × Option (List Nat)) (W : World) (B q g : Nat) (E : TypeId) (T : List α × Option (List Nat)) (k : Nat) (L : Option (List Nat)) (v : Value) (acc : List α) (w : World) : Prop :=
  rd.Rd W q g L w ∧ Own F K B E w v acc ∧ acc ++ (readG one k L).1 = T.1 ∧ (readG one k L).2 = T.2 ∧ acc.length + k ≤ 70000 ∧ q < B ∧ g < B ∧ B ≤ w.heap.size
theorem GS.stop {α : Type} {F : α → List Value} {K : Nat} {one : Option (List Nat) → α × Option (List Nat)} {W : World} {B q g : Nat} {E : TypeId} {T : List α × Option (List Nat)} {k : Nat} {L : Option (List Nat)} {v : Value} {acc : List α} {w : World} (h : GS F K one W B q g E T k L v acc w) (hk : k = 0 ∨ L = none) : acc = T.1 ∧ L = T.2 := by
  obtain ⟨-, -, h1, h2, -⟩ := h
  rcases hk with rfl | rfl
  · simp only [readG, List.append_nil] at h1 h2
    exact ⟨h1, h2⟩
  · rw [read_none] at h1 h2
    simp only [List.append_nil] at h1 h2
    exact ⟨h1, h2⟩
theorem readG_some {α : Type} (one : Option (List Nat) → α × Option (List Nat)) (k : Nat) (l : List Nat) : readG one (k + 1) (some l) = ((one (some l)).1 :: (readG one k (one (some l)).2).1, (readG one k (one (some l)).2).2) := rfl
/-- One more was read. -/
theorem GS.more {α : Type} {F : α → List Value} {K : Nat} {one : Option (List Nat) → α × Option (List Nat)} {W : World} {B q g : Nat} {E : TypeId} {T : List α × Option (List Nat)} {k : Nat} {l : List Nat} {v v' : Value} {acc : List α} {w w1 w2 : World} (h : GS F K one W B q g E T (k + 1) (some l) v acc w)
    (hR : rd.Rd W q g (one (some l)).2 w1) (hB : B ≤ w1.heap.size) (ho1 : Own F K B E w1 v acc) (ho : Own F K B E w2 v' (acc ++ [(one (some l)).1])) (hg : w1.grownBy w2 v.ownBlock) : GS F K one W B q g E T k (one (some l)).2 v' (acc ++ [(one (some l)).1]) w2 := by
  obtain ⟨h0, h1, h2, h3, h4, h5, h6, h7⟩ := h
  rw [readG_some] at h2 h3
  have hne : ∀ b, b < B → w1.heap[b]? = w2.heap[b]? := fun b hb => by
    refine (hg.block b (by omega) (fun e => ?_)).symm
    have := (ho1.lt e.symm).1
    omega
  refine ⟨⟨?_, hR.2.1, Nat.lt_of_lt_of_le hR.2.2.1 hg.size, Nat.lt_of_lt_of_le hR.2.2.2.1 hg.size, ?_⟩, ho, by simpa using h2, h3, by simp; omega, h5, h6, Nat.le_trans hB hg.size⟩
  · have k1 := hR.1
    cases hL : (one (some l)).2 with
    | none =>
      rw [hL] at k1
      exact (hne q h5).symm.trans k1
    | some m =>
      rw [hL] at k1
      obtain ⟨o, c, hi, hc⟩ := k1
      exact ⟨o, c, hi.kept (hne q h5).symm (hne g h6).symm, hc⟩
  · refine hR.2.2.2.2.trans ⟨hg.os, hg.tape, hg.output, hg.size, fun b hb => (hne b ?_).symm⟩
    have := hR.2.1
    omega
theorem own_touch {α : Type} {F : α → List Value} {K B q : Nat} {E : TypeId} {w w' : World} {v : Value} {ys : List α} (h : Own F K B E w v ys) (hq : q < B) (ht : codec.Touch (fun i => i = q) w w') : Own F K B E w' v ys :=
  h.touch ht fun g e hg => by have := (h.lt e).1; omega
theorem own_mono {α : Type} {F : α → List Value} {K B B' : Nat} {E : TypeId} {w : World} {v : Value} {ys : List α} (h : Own F K B E w v ys) (hb : B' ≤ B) : Own F K B' E w v ys := ⟨h.1, h.2.imp id fun ⟨g, cap, cur, h1, h2, h3⟩ => ⟨g, cap, cur, h1, Nat.le_trans hb h2, h3⟩⟩
theorem infoP : (Tryz.prog.info? 68).map (fun i => (i.zero, i.size, i.bytes)) = some (some (.agg #[.int .i64 0, .string ⟨#[]⟩]), 2, 24) := by kernel_rfl
theorem rd_text {W w : World} {q g : Nat} {L : Option (List Nat)} (h : rd.Rd W q g L w) :
    Calls Tryz.prog 17 #[.pointer (some ⟨q, 0, none⟩)] w fun e w' => e = .returned (.string (tx L)) ∧ rd.Rd W q g (lt L) w' ∧ ∃ w1, codec.Touch (fun i => i = q) w w1 ∧ codec.Touch (fun i => i = q) w1 w' := rd_Text h
/-- What GetTree answers. -/
def TreeAns (W : World) (l : List Nat) (e : Ending) (w' : World) : Prop :=
  ((∃ v xs, IsPage 3 l ∧ readT (payL l) = (xs, some []) ∧ treeB xs = true ∧ xs.length ≤ 255 ∧ e = .returned (.tuple #[v, .int .i64 0]) ∧ Own cP 2 W.heap.size 68 w' v xs) ∨
    (¬ (IsPage 3 l ∧ (readT (payL l)).2 = some [] ∧ treeB (readT (payL l)).1 = true) ∧ e = .returned (.tuple #[.slice none 0 0, .int .i64 9]))) ∧ Below W.heap.size W w'
set_option maxHeartbeats 4000000 in
theorem getTree_any (W : World) (n c : Nat) (A : Option Addr) (l : List Nat) (hB : Bytes W A n l) (hn : n ≤ 1000000) (hc : n ≤ c) (hr : nam.Room W) :
    Calls Tryz.prog 8 #[.slice A n c] W fun e w' => TreeAns W l e w' := by
  have HG := Lib.hid (get_any W 3 n c A l hB (by omega) hc)
  have Hr := Lib.hid hr
  have HL := Lib.hid hB.2.1
  have HN := Lib.hid hB.1
  clear hB hr
  go_enter Tryz.func8, Tryz.ntmps8
  go_wp2_with fail
  refine HG.out.mono ?_
  rintro e w1 (⟨hip, q, g, rfl, hr⟩ | ⟨hnp, rfl, hb⟩)
  · have hpl : ∀ b ∈ payL l, b < 256 := by
      obtain ⟨m, -, -, -, hp⟩ := pg.isPage_pay HL.out (by have := HN.out; omega) hip
      intro b hb
      refine HL.out b ?_
      rw [hp]
      simp [pg.pageL, pg.body, hb]
    have HI := Lib.hid hip
    have HR1 := Lib.hid hr
    have HC := Lib.hid (rd_N hr 1 (by decide) (by decide))
    have HPL := Lib.hid hpl
    have hcn : numOf (got 1 (some (payL l))) ≤ 255 := by
      cases h1 : rest 1 (some (payL l)) with
      | none =>
        have : got 1 (some (payL l)) = [] := by
          simp only [rest] at h1
          simp only [got]
          split at h1
          · simp at h1
          · rename_i h; rw [if_neg h]
        rw [this]
        decide
      | some t =>
        obtain ⟨e1, e2⟩ := got_some h1
        have := codec.numOf_lt (got 1 (some (payL l))) (fun b hb => hpl b (by rw [e1]; simp [hb])) 1
        rw [List.take_of_length_le (by omega)] at this
        omega
    have hT : readT (payL l) = readG oneP (numOf (got 1 (some (payL l)))) (rest 1 (some (payL l))) := rfl
    have HT := Lib.hid hT
    clear hip hr hT hpl
    generalize numOf (got 1 (some (payL l))) = n0 at *
    obtain ⟨L0, hL0⟩ : ∃ L0, L0 = rest 1 (some (payL l)) := ⟨_, rfl⟩
    rw [← hL0] at HC HT
    clear hL0
    go_wp2_with (go_at_call 18; refine HC.out.mono ?_; rintro e w2 ⟨rfl, hr2, ht2⟩; have HR2 := Lib.hid hr2; clear hr2 ht2)
    go_loopw [6, 7] (fun v i wr => ∃ k : Nat, i = .int .i64 k ∧ k ≤ 255 ∧ Hid (∃ L acc, GS cP 2 oneP W w2.heap.size q g 68 (readT (payL l)) k L v acc wr)) (fun _ i _ => (intOf i).toNat)
    case atStart =>
      refine ⟨n0, rfl, hcn, Lib.hid ⟨L0, [], HR2.out, Own.nil _ _ _ _ _, ?_, ?_, by simp; omega, HR2.out.2.2.1, HR2.out.2.2.2.1, Nat.le_refl _⟩⟩
      · rw [HT.out]; rfl
      · rw [HT.out]
    case round =>
      obtain ⟨k, rfl, hk, HS⟩ := hrel
      obtain ⟨L, acc, hs⟩ := HS.out
      have hal : acc.length ≤ 70000 := by have := hs.2.2.2.2.1; omega
      have HBel := Lib.hid hs.1.bel
      have HW2 := Lib.hid (show W.heap.size ≤ w2.heap.size by have := hs.1.2.1; have := hs.2.2.2.2.2.1; omega)
      cases k with
      | zero =>
        obtain ⟨ea, eL⟩ := hs.stop (Or.inl rfl)
        obtain ⟨A2, c2, hv, hc2, hA2, hRd⟩ := hs.2.1.rd fP
        subst hv
        have hD := rd_Done hs.1
        have HF := Lib.hid (fun w (hb : Below wr.heap.size wr w) => formedTree_any w A2 acc.length c2 acc (hRd.below hb) (by omega) (Hr.out.below (HBel.out.trans (hb.mono HBel.out.size))))
        have HO := Lib.hid (own_mono hs.2.1 HW2.out)
        have HEA := Lib.hid ea
        have HEL := Lib.hid eL
        have HLEN := Lib.hid (show acc.length ≤ 255 by
          rw [ea, HT.out]
          exact Nat.le_trans (read_len _ _ _) hcn)
        clear hs ea eL hRd hA2 HS
        by_cases hL : L = some []
        · rw [decide_eq_true hL] at hD
          have HD := Lib.hid hD
          have HT2 := Lib.hid (show readT (payL l) = (acc, some []) from Prod.ext HEA.out.symm (by rw [← HEL.out, hL]))
          clear hD hL
          cases htb : treeB acc
          · rw [htb] at HF
            have HTB := Lib.hid htb
            clear htb
            go_wp2_with (first
              | (go_at_call 20; refine HD.out.mono ?_; rintro e w3 ⟨rfl, rfl⟩)
              | (go_at_call 23; refine (HF.out _ (Below.refl _ _)).mono ?_; rintro e w4 ⟨rfl, hb4⟩; have HB4 := Lib.hid hb4; clear hb4))
            go_ret2
            exact ⟨Or.inr ⟨fun h => by rw [HT2.out, HTB.out] at h; exact absurd h.2.2 Bool.false_ne_true, rfl⟩, HBel.out.trans (HB4.out.mono HBel.out.size)⟩
          · rw [htb] at HF
            have HTB := Lib.hid htb
            clear htb
            go_wp2_with (first
              | (go_at_call 20; refine HD.out.mono ?_; rintro e w3 ⟨rfl, rfl⟩)
              | (go_at_call 23; refine (HF.out _ (Below.refl _ _)).mono ?_; rintro e w4 ⟨rfl, hb4⟩; have HB4 := Lib.hid hb4; clear hb4))
            go_ret2
            exact ⟨Or.inl ⟨_, acc, HI.out, HT2.out, HTB.out, HLEN.out, rfl, HO.out.below HB4.out⟩, HBel.out.trans (HB4.out.mono HBel.out.size)⟩
        · rw [decide_eq_false hL] at hD
          have HD := Lib.hid hD
          have HT2 := Lib.hid (show (readT (payL l)).2 ≠ some [] from fun h => hL (HEL.out.trans h))
          clear hD hL
          go_wp2_with (go_at_call 20; refine HD.out.mono ?_; rintro e w3 ⟨rfl, rfl⟩)
          go_ret2
          exact ⟨Or.inr ⟨fun h => HT2.out h.2.1, rfl⟩, HBel.out⟩
      | succ k =>
        cases L with
        | none =>
          have hbad := rd_Bad hs.1
          have hD := rd_Done hs.1
          rw [decide_eq_true rfl] at hbad
          rw [decide_eq_false (by simp)] at hD
          obtain ⟨ea, eL⟩ := hs.stop (Or.inr rfl)
          have HX := Lib.hid hbad
          have HD := Lib.hid hD
          have HT2 := Lib.hid (show (readT (payL l)).2 ≠ some [] from fun h => by rw [← eL] at h; cases h)
          clear hs ea eL hbad hD HS
          have hk0 : decide ((0 : Int) < ((k + 1 : Nat) : Int)) = true := by rw [decide_eq_true_iff]; omega
          go_wp2_with (first
            | (go_at_call 19; refine HX.out.mono ?_; rintro e w3 ⟨rfl, rfl⟩)
            | (go_at_call 20; refine HD.out.mono ?_; rintro e w3 ⟨rfl, rfl⟩))
          go_ret2
          exact ⟨Or.inr ⟨fun h => HT2.out h.2.1, rfl⟩, HBel.out⟩
        | some m =>
          have hbad := rd_Bad hs.1
          rw [decide_eq_false (by simp)] at hbad
          have HX := Lib.hid hbad
          have HC3 := Lib.hid (rd_N hs.1 1 (by decide) (by decide))
          have HS0 := Lib.hid hs
          clear hs hbad HS
          have hk0 : decide ((0 : Int) < ((k + 1 : Nat) : Int)) = true := by rw [decide_eq_true_iff]; omega
          obtain ⟨nv, hnv⟩ : ∃ nv : Nat, nv = numOf (got 1 (some m)) := ⟨_, rfl⟩
          obtain ⟨tv, htv⟩ : ∃ tv, tv = tx (rest 1 (some m)) := ⟨_, rfl⟩
          have HY := Lib.hid (show (⟨(nv : Int), tv⟩ : P) = (oneP (some m)).1 by rw [hnv, htv]; rfl)
          have HTX := Lib.hid (fun w (h : rd.Rd W q g (rest 1 (some m)) w) => rd_text h)
          rw [← hnv] at HC3
          rw [← htv] at HTX
          clear hnv htv
          go_wp2_with (first
            | (go_at_call 19; refine HX.out.mono ?_; rintro e w3 ⟨rfl, rfl⟩)
            | (go_at_call 18; refine HC3.out.mono ?_; rintro e w4 ⟨rfl, hr4, ht4⟩; have HT4 := Lib.hid ht4; have HR4 := Lib.hid hr4; have HC5 := Lib.hid (HTX.out w4 hr4); clear hr4 ht4)
            | (go_at_call 17; refine HC5.out.mono ?_; rintro e w5 ⟨rfl, hr5, w6, t6, t7⟩; have HR5 := Lib.hid hr5; have HO5 := Lib.hid (own_touch (own_touch (own_touch HS0.out.2.1 HS0.out.2.2.2.2.2.1 HT4.out) HS0.out.2.2.2.2.2.1 t6) HS0.out.2.2.2.2.2.1 t7); have HB5 := Lib.hid (show w2.heap.size ≤ w5.heap.size by have := HS0.out.2.2.2.2.2.2.2; have := HT4.out.2.2.2.1; have := t6.2.2.2.1; have := t7.2.2.2.1; omega); clear hr5 t6 t7)
            | (at_builtin; refine row.wpList_append_own fP (by decide) (by decide) (by_ := 24) (by decide) (z := .agg #[.int .i64 0, .string ⟨#[]⟩]) rfl rfl (.tmp 30) (.tmp 35) 36 68 rfl Tryz.underlying36 infoP w2.heap.size u6 acc rfl HO5.out HB5.out (by omega) ⟨(nv : Int), tv⟩ (0, 0) _ rfl rfl _ rfl ?_; intro v7 w7 ho7 hg7 hat7; have HS7 := Lib.hid (show ∃ L acc, GS cP 2 oneP W w2.heap.size q g 68 (readT (payL l)) k L v7 acc w7 from ⟨_, _, GS.more HS0.out HR5.out HB5.out HO5.out (by rw [← HY.out]; exact ho7) hg7⟩); clear ho7 hg7 hat7))
          go_roundw
          case rel => first | exact ⟨k, by go_num, by omega, HS7⟩ | ((repeat apply Exists.intro); exact ⟨⟨k, by go_num, by omega, HS7⟩, rfl⟩)
          case measure => first | (simp [intOf]; done) | (simp [intOf]; omega)
  · have HI := Lib.hid hnp
    have HB1 := Lib.hid hb
    clear hnp hb
    go_wp2_with fail
    go_ret2
    exact ⟨Or.inr ⟨fun h => HI.out h.1, rfl⟩, HB1.out⟩
end Go.Proofs.YtklmbiekpilkhaaGreatDoor.idx
