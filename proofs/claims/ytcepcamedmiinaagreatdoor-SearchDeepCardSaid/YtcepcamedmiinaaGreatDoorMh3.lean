/- How the program cuts a head from its text. -/
import Derived.Test.YtcepcamedmiinaaGreatDoorMa1
namespace Go.Proofs.YtcepcamedmiinaaGreatDoor.hd
open Go.ChangeShapes Go.WideShapes Go.ChangeAt Go.RowKit
open Go.Proofs.YtcepcamedmiinaaGreatDoor.codec (Bytes vals)
set_option linter.unusedVariables false
set_option maxRecDepth 100000
set_option linter.unusedSimpArgs false

def sliceLen : Value → Nat
  | .slice _ n _ => n
  | _ => 0
/-- What a cut answers. -/
def CutAns (W : World) (l : List Nat) (e : Ending) (w' : World) : Prop :=
  ∃ G k H j, e = .returned (.tuple #[.slice G (headN l) k, .slice H (l.length - headN l) j]) ∧ Bytes w' G (headN l) (l.take (headN l)) ∧ Bytes w' H (l.length - headN l) (l.drop (headN l)) ∧ Below W.heap.size W w'
set_option maxHeartbeats 4000000 in
theorem headCut_any (W : World) (A : Option Addr) (n c : Nat) (l : List Nat) (hS : Sl W A n c l) (hn : n ≤ 1000000) (hr : Room W) :
    Calls Tryz.prog 51 #[.slice A n c] W fun e w' => CutAns W l e w' := by
  have HS := Lib.hid hS
  have HR := Lib.hid hr
  have HN := Lib.hid hn
  have HL := Lib.hid hS.1.1
  have hnc : n ≤ c := hS.2.1
  clear hS hr hn
  go_enter Tryz.func51, Tryz.ntmps51
  go_wp2
  go_loopw [4, 5, 6] (fun r mo lx wr => ∃ (p : Nat) (b : Bool) (R : Option Addr) (m d : Nat), r = .slice R m d ∧ mo = .bool b ∧ Hid (m + p = n) ∧ Hid (Sl wr R m d (l.drop p)) ∧ Hid (headN l = p + leftN b l p) ∧ Hid (Below W.heap.size W wr)) (fun r _ _ _ => sliceLen r)
  case atStart => exact ⟨0, true, A, n, c, rfl, rfl, Lib.hid (Nat.add_zero n), HS, Lib.hid (by rw [leftN, if_pos rfl, List.drop_zero, Nat.zero_add]), Lib.hid (Below.refl _ _)⟩
  case round =>
    obtain ⟨p, b, R, m, d, rfl, rfl, HM, HSr, HH, HB⟩ := hrel
    go_upto_region 3 with fail
    go_cut [14] from 9 to 22 (fun s wx => s = .bool (b && decide (0 < m)) ∧ wx = wr)
    case first =>
      cases b with
      | false =>
        go_wp2_with fail
        go_meet
        exact ⟨rfl, rfl⟩
      | true =>
        go_wp2_with fail
        go_meet
        exact ⟨by simp, rfl⟩
    case rest =>
      obtain ⟨rfl, hw⟩ := hcut; replace hw := hw.symm; subst hw
      obtain ⟨q, hq⟩ : ∃ q, q = (b && decide (0 < m)) := ⟨_, rfl⟩
      rw [← hq]
      have HQ := Lib.hid hq
      clear hq
      cases q with
      | true =>
        have hb2 : b = true ∧ 0 < m := by have := HQ.out; simpa using this.symm
        obtain ⟨rfl, h0⟩ := hb2
        have HA := Lib.hid (line_any wr R m d (l.drop p) HSr.out (by have := HM.out; have := HN.out; omega) (HR.out.below HB.out))
        have HH0 := Lib.hid h0
        clear h0
        go_wp2_with fail
        refine HA.out.mono ?_
        rintro e w2 ⟨R2, m2, d2, rfl, hm2, hS2, hb⟩
        have HB2 := Lib.hid (HB.out.trans (hb.mono HB.out.size))
        have HM2 := Lib.hid (show m2 + (p + nx (l.drop p)) = n by have := HM.out; omega)
        have hx := nx_pos (l := l.drop p) (by rw [List.length_drop, HL.out]; have := HM.out; have := HH0.out; omega)
        have HLt := Lib.hid (show m2 < m by omega)
        have HS2 := Lib.hid (show Sl w2 R2 m2 d2 (l.drop (p + nx (l.drop p))) by
          rw [← drop_nx]
          exact hS2.below hb)
        have HH2 := Lib.hid (headN_step (p := p) (by rw [HL.out]; have := HM.out; have := HH0.out; omega) (by have h1 := HH.out; rw [leftN, if_pos rfl] at h1; exact h1))
        obtain ⟨k, hk⟩ : ∃ k, k = (ln (l.drop p)).length := ⟨_, rfl⟩
        rw [← hk] at HH2 ⊢
        clear hm2 hS2 hb hx hk
        go_wp2_with fail
        go_roundw
        case rel => first | exact ⟨p + nx (l.drop p), _, R2, m2, d2, rfl, rfl, HM2, HS2, HH2, HB2⟩ | ((repeat apply Exists.intro); exact ⟨⟨p + nx (l.drop p), _, R2, m2, d2, rfl, rfl, HM2, HS2, HH2, HB2⟩, rfl⟩)
        case measure => exact HLt.out
      | false =>
        have HE := Lib.hid (show m + headN l = n by
          have h1 := HH.out
          have h2 := HM.out
          cases b with
          | false => rw [leftN, if_neg (by decide)] at h1; omega
          | true =>
            have h3 : ¬ 0 < m := by have := HQ.out; simpa using this
            rw [leftN, if_pos rfl, List.drop_of_length_le (by rw [HL.out]; omega), headN_nil] at h1
            omega)
        clear HQ
        obtain ⟨h, hh⟩ : ∃ h, h = headN l := ⟨_, rfl⟩
        rw [← hh] at HE
        have hhn : h ≤ n := by have := HE.out; omega
        have e0 : IntKind.i64.wrap ((n : Int) - (m : Int)) = (h : Int) := (IntWalk.i64_in _ (by have := HE.out; have := HN.out; omega)).trans (by have := HE.out; omega)
        have HHd := Lib.hid hh
        have hhc : (h : Int) ≤ (c : Int) := by omega
        have hhc2 : (h : Int) ≤ (n : Int) := by omega
        have hhc3 : (n : Int) ≤ (c : Int) := by omega
        clear hh HH HSr HM
        cases A with
        | none =>
          obtain rfl : c = 0 := HS.out.2.2.2 rfl
          obtain rfl : n = 0 := by omega
          obtain rfl : h = 0 := by omega
          obtain rfl : m = 0 := by have := HE.out; omega
          go_upto_region 8 with fail
          have HBd := Lib.hid (show Below W.heap.size W wr.drew from codec.below_draws HB.out 1)
          refine wp_region_noPanic ?_
          refine wp_region_held_drew (S := fun _ => True) (by kernel_rfl) trivial (fun hHeld => ?_)
          refine wpAnyH_take (i := 0) (v := ?_) rfl (by kernel_rfl) (by kernel_rfl) (by kernel_rfl) (fun _ _ _ h => h) (Or.inl ⟨by kernel_rfl, ?_⟩) hHeld ?_
          rotate_left
          · (intro w' hw'; go_simp; first | done | with_reducible rfl)
          refine wpAnyH_take (i := 1) (v := ?_) rfl (by kernel_rfl) (by kernel_rfl) (by kernel_rfl) (fun _ _ _ h => h) (Or.inl ⟨by kernel_rfl, ?_⟩) hHeld ?_
          rotate_left
          · (intro w' hw'; go_simp; first | done | with_reducible rfl)
          refine wpAnyH_take (i := 2) (v := ?_) rfl (by kernel_rfl) (by kernel_rfl) (by kernel_rfl) (fun _ _ _ h => h) (Or.inl ⟨by kernel_rfl, ?_⟩) hHeld ?_
          rotate_left
          · (intro w' hw'; go_simp; first | done | with_reducible rfl)
          refine wpAnyH_take (i := 4) (v := ?_) rfl (by kernel_rfl) (by kernel_rfl) (by kernel_rfl) (fun _ _ _ h => h) (Or.inl ⟨by kernel_rfl, ?_⟩) hHeld ?_
          rotate_left
          · (intro w' hw'; go_simp; first | done | with_reducible rfl)
          refine wpAnyH_take (i := 5) (v := ?_) rfl (by kernel_rfl) (by kernel_rfl) (by kernel_rfl) (fun _ _ _ h => h) (Or.inl ⟨by kernel_rfl, ?_⟩) hHeld ?_
          rotate_left
          · (intro w' hw'; go_simp; first | done | with_reducible rfl)
          refine wpAnyH_take (i := 6) (v := ?_) rfl (by kernel_rfl) (by kernel_rfl) (by kernel_rfl) (fun _ _ _ h => h) (Or.inl ⟨by kernel_rfl, ?_⟩) hHeld ?_
          rotate_left
          · (intro w' hw'; go_simp; first | done | with_reducible rfl)
          generalize wr.drew = w6 at *
          have HC1 := Lib.hid (clone_any w6 none 0 0 (l.take 0) ((HS.out.below HBd.out).part 0 (Nat.zero_le _)) (by have := HN.out; omega))
          refine wpAnyH_ready (rs := [3]) (by kernel_rfl) (by simp) ?_
          refine AllReadyH.cons rfl (fun K hK => ?_) AllReadyH.nil
          go_simp
          refine HC1.out.mono ?_
          rintro e w7 ⟨G, k, rfl, hb1, hb7⟩
          have HB7 := Lib.hid (HBd.out.trans (hb7.mono HBd.out.size))
          have HG := Lib.hid hb1
          clear hb1 hb7
          go_wp2_with fail
          refine hK.out _ _ trivial (fun hH1 => ?_)
          clear hK K hHeld
          have HC2 := Lib.hid (clone_any w7 _ (0 - 0) (0 - 0) (l.drop 0) ((HS.out.below HB7.out).rest 0 (Nat.zero_le _)) (by have := HN.out; omega))
          rw [if_pos rfl] at HC2
          refine wpAnyH_ready (rs := [7]) (by kernel_rfl) (by simp) ?_
          refine AllReadyH.cons rfl (fun K hK => ?_) AllReadyH.nil
          go_simp
          refine HC2.out.mono ?_
          rintro e w8 ⟨H, j, rfl, hb2, hb8⟩
          have HB8 := Lib.hid (HB7.out.trans (hb8.mono HB7.out.size))
          have HH2 := Lib.hid hb2
          have HG8 := Lib.hid (HG.out.below HG.out.lt hb8)
          clear hb2 hb8
          go_wp2_with fail
          refine hK.out _ _ trivial (fun hH2 => ?_)
          clear hK K hH1
          refine wpAnyH_take (i := 8) (v := ?_) rfl (by kernel_rfl) (by kernel_rfl) (by kernel_rfl) (fun _ _ _ h => h) (Or.inl ⟨by kernel_rfl, ?_⟩) hH2 ?_
          rotate_left
          · (intro w' hw'; go_simp; first | done | with_reducible rfl)
          refine wpAnyH_take (i := 9) (v := ?_) rfl (by kernel_rfl) (by kernel_rfl) (by kernel_rfl) (fun _ _ _ h => h) (Or.inl ⟨by kernel_rfl, ?_⟩) hH2 ?_
          rotate_left
          · (intro w' hw'; go_simp; first | done | with_reducible rfl)
          refine wpAnyH_done (by kernel_rfl) ?_ _
          refine NoPanic.normal ?_
          go_simp
          go_wp2_with fail
          go_ret2
          unfold CutAns
          rw [← HHd.out, HL.out]
          exact ⟨G, k, H, j, by simp, HG8.out, by simpa using HH2.out, HB8.out⟩
        | some ad =>
          by_cases hch : c = h
          · subst hch
            obtain rfl : n = c := by omega
            go_upto_region 8 with fail
            have HBd := Lib.hid (show Below W.heap.size W wr.drew from codec.below_draws HB.out 1)
            refine wp_region_noPanic ?_
            refine wp_region_held_drew (S := fun _ => True) (by kernel_rfl) trivial (fun hHeld => ?_)
            refine wpAnyH_take (i := 0) (v := ?_) rfl (by kernel_rfl) (by kernel_rfl) (by kernel_rfl) (fun _ _ _ h => h) (Or.inl ⟨by kernel_rfl, ?_⟩) hHeld ?_
            rotate_left
            · (intro w' hw'; go_simp; first | done | with_reducible rfl)
            refine wpAnyH_take (i := 1) (v := ?_) rfl (by kernel_rfl) (by kernel_rfl) (by kernel_rfl) (fun _ _ _ h => h) (Or.inl ⟨by kernel_rfl, ?_⟩) hHeld ?_
            rotate_left
            · (intro w' hw'; go_simp; first | done | with_reducible rfl)
            refine wpAnyH_take (i := 2) (v := ?_) rfl (by kernel_rfl) (by kernel_rfl) (by kernel_rfl) (fun _ _ _ h => h) (Or.inl ⟨by kernel_rfl, ?_⟩) hHeld ?_
            rotate_left
            · (intro w' hw'; go_simp; first | done | with_reducible rfl)
            refine wpAnyH_take (i := 4) (v := ?_) rfl (by kernel_rfl) (by kernel_rfl) (by kernel_rfl) (fun _ _ _ h => h) (Or.inl ⟨by kernel_rfl, ?_⟩) hHeld ?_
            rotate_left
            · (intro w' hw'; go_simp; first | done | with_reducible rfl)
            refine wpAnyH_take (i := 5) (v := ?_) rfl (by kernel_rfl) (by kernel_rfl) (by kernel_rfl) (fun _ _ _ h => h) (Or.inl ⟨by kernel_rfl, ?_⟩) hHeld ?_
            rotate_left
            · (intro w' hw'; go_simp; first | done | with_reducible rfl)
            refine wpAnyH_take (i := 6) (v := ?_) rfl (by kernel_rfl) (by kernel_rfl) (by kernel_rfl) (fun _ _ _ h => h) (Or.inl ⟨by kernel_rfl, ?_⟩) hHeld ?_
            rotate_left
            · (intro w' hw'; go_simp; first | done | with_reducible rfl)
            generalize wr.drew = w6 at *
            have HC1 := Lib.hid (clone_any w6 (some ad) n n (l.take n) ((HS.out.below HBd.out).part n hhn) (by have := HN.out; omega))
            refine wpAnyH_ready (rs := [3]) (by kernel_rfl) (by simp) ?_
            refine AllReadyH.cons rfl (fun K hK => ?_) AllReadyH.nil
            go_simp
            refine HC1.out.mono ?_
            rintro e w7 ⟨G, k, rfl, hb1, hb7⟩
            have HB7 := Lib.hid (HBd.out.trans (hb7.mono HBd.out.size))
            have HG := Lib.hid hb1
            clear hb1 hb7
            go_wp2_with fail
            refine hK.out _ _ trivial (fun hH1 => ?_)
            clear hK K hHeld
            have HC2 := Lib.hid (clone_any w7 _ (n - n) (n - n) (l.drop n) ((HS.out.below HB7.out).rest n hhn) (by have := HN.out; omega))
            rw [if_pos rfl, Nat.sub_self] at HC2
            refine wpAnyH_ready (rs := [7]) (by kernel_rfl) (by simp) ?_
            refine AllReadyH.cons rfl (fun K hK => ?_) AllReadyH.nil
            go_simp
            refine HC2.out.mono ?_
            rintro e w8 ⟨H, j, rfl, hb2, hb8⟩
            have HB8 := Lib.hid (HB7.out.trans (hb8.mono HB7.out.size))
            have HH2 := Lib.hid hb2
            have HG8 := Lib.hid (HG.out.below HG.out.lt hb8)
            clear hb2 hb8
            go_wp2_with fail
            refine hK.out _ _ trivial (fun hH2 => ?_)
            clear hK K hH1
            refine wpAnyH_take (i := 8) (v := ?_) rfl (by kernel_rfl) (by kernel_rfl) (by kernel_rfl) (fun _ _ _ h => h) (Or.inl ⟨by kernel_rfl, ?_⟩) hH2 ?_
            rotate_left
            · (intro w' hw'; go_simp; first | done | with_reducible rfl)
            refine wpAnyH_take (i := 9) (v := ?_) rfl (by kernel_rfl) (by kernel_rfl) (by kernel_rfl) (fun _ _ _ h => h) (Or.inl ⟨by kernel_rfl, ?_⟩) hH2 ?_
            rotate_left
            · (intro w' hw'; go_simp; first | done | with_reducible rfl)
            refine wpAnyH_done (by kernel_rfl) ?_ _
            refine NoPanic.normal ?_
            go_simp
            go_wp2_with fail
            go_ret2
            unfold CutAns
            rw [← HHd.out, HL.out]
            exact ⟨G, k, H, j, by simp, HG8.out, by simpa using HH2.out, HB8.out⟩
          · have hch' : ¬ ((c : Int) = (h : Int)) := by omega
            go_upto_region 8 with fail
            have HBd := Lib.hid (show Below W.heap.size W wr.drew from codec.below_draws HB.out 1)
            refine wp_region_noPanic ?_
            refine wp_region_held_drew (S := fun _ => True) (by kernel_rfl) trivial (fun hHeld => ?_)
            refine wpAnyH_take (i := 0) (v := ?_) rfl (by kernel_rfl) (by kernel_rfl) (by kernel_rfl) (fun _ _ _ h => h) (Or.inl ⟨by kernel_rfl, ?_⟩) hHeld ?_
            rotate_left
            · (intro w' hw'; go_simp; first | done | with_reducible rfl)
            refine wpAnyH_take (i := 1) (v := ?_) rfl (by kernel_rfl) (by kernel_rfl) (by kernel_rfl) (fun _ _ _ h => h) (Or.inl ⟨by kernel_rfl, ?_⟩) hHeld ?_
            rotate_left
            · (intro w' hw'; go_simp; first | done | with_reducible rfl)
            refine wpAnyH_take (i := 2) (v := ?_) rfl (by kernel_rfl) (by kernel_rfl) (by kernel_rfl) (fun _ _ _ h => h) (Or.inl ⟨by kernel_rfl, ?_⟩) hHeld ?_
            rotate_left
            · (intro w' hw'; go_simp; first | done | with_reducible rfl)
            refine wpAnyH_take (i := 4) (v := ?_) rfl (by kernel_rfl) (by kernel_rfl) (by kernel_rfl) (fun _ _ _ h => h) (Or.inl ⟨by kernel_rfl, ?_⟩) hHeld ?_
            rotate_left
            · (intro w' hw'; go_simp; first | done | with_reducible rfl)
            refine wpAnyH_take (i := 5) (v := ?_) rfl (by kernel_rfl) (by kernel_rfl) (by kernel_rfl) (fun _ _ _ h => h) (Or.inl ⟨by kernel_rfl, ?_⟩) hHeld ?_
            rotate_left
            · (intro w' hw'; go_simp; first | done | with_reducible rfl)
            refine wpAnyH_take (i := 6) (v := ?_) rfl (by kernel_rfl) (by kernel_rfl) (by kernel_rfl) (fun _ _ _ h => h) (Or.inl ⟨by kernel_rfl, ?_⟩) hHeld ?_
            rotate_left
            · (intro w' hw'; go_simp; first | done | with_reducible rfl)
            generalize wr.drew = w6 at *
            have HC1 := Lib.hid (clone_any w6 (some ad) h c (l.take h) ((HS.out.below HBd.out).part h hhn) (by have := HN.out; omega))
            refine wpAnyH_ready (rs := [3]) (by kernel_rfl) (by simp) ?_
            refine AllReadyH.cons rfl (fun K hK => ?_) AllReadyH.nil
            go_simp
            refine HC1.out.mono ?_
            rintro e w7 ⟨G, k, rfl, hb1, hb7⟩
            have HB7 := Lib.hid (HBd.out.trans (hb7.mono HBd.out.size))
            have HG := Lib.hid hb1
            clear hb1 hb7
            go_wp2_with fail
            refine hK.out _ _ trivial (fun hH1 => ?_)
            clear hK K hHeld
            have HC2 := Lib.hid (clone_any w7 _ (n - h) (c - h) (l.drop h) ((HS.out.below HB7.out).rest h hhn) (by have := HN.out; omega))
            rw [if_neg hch] at HC2
            refine wpAnyH_ready (rs := [7]) (by kernel_rfl) (by simp) ?_
            refine AllReadyH.cons rfl (fun K hK => ?_) AllReadyH.nil
            go_simp
            refine HC2.out.mono ?_
            rintro e w8 ⟨H, j, rfl, hb2, hb8⟩
            have HB8 := Lib.hid (HB7.out.trans (hb8.mono HB7.out.size))
            have HH2 := Lib.hid hb2
            have HG8 := Lib.hid (HG.out.below HG.out.lt hb8)
            clear hb2 hb8
            go_wp2_with fail
            refine hK.out _ _ trivial (fun hH2 => ?_)
            clear hK K hH1
            refine wpAnyH_take (i := 8) (v := ?_) rfl (by kernel_rfl) (by kernel_rfl) (by kernel_rfl) (fun _ _ _ h => h) (Or.inl ⟨by kernel_rfl, ?_⟩) hH2 ?_
            rotate_left
            · (intro w' hw'; go_simp; first | done | with_reducible rfl)
            refine wpAnyH_take (i := 9) (v := ?_) rfl (by kernel_rfl) (by kernel_rfl) (by kernel_rfl) (fun _ _ _ h => h) (Or.inl ⟨by kernel_rfl, ?_⟩) hH2 ?_
            rotate_left
            · (intro w' hw'; go_simp; first | done | with_reducible rfl)
            refine wpAnyH_done (by kernel_rfl) ?_ _
            refine NoPanic.normal ?_
            go_simp
            go_wp2_with fail
            go_ret2
            unfold CutAns
            rw [← HHd.out, HL.out]
            exact ⟨G, k, H, j, by simp, HG8.out, by simpa using HH2.out, HB8.out⟩
end Go.Proofs.YtcepcamedmiinaaGreatDoor.hd
