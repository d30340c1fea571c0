/- The law on picking. -/
import Derived.Test.YtmooeadeihgbdaaSqU
import Derived.Test.YtmooeadeihgbdaaSqH
import Derived.Deep.RegionHeld3
namespace Go.Proofs.Ytmooeadeihgbdaa.sq
open Go.ChangeShapes Go.WideShapes Go.ChangeAt Go.RowKit
open Go.Proofs.Ytmooeadeihgbdaa.row
open Go.Proofs.Ytmooeadeihgbdaa.cardIn (cN fN)
set_option linter.unusedVariables false
set_option maxRecDepth 100000
set_option linter.unusedSimpArgs false

/-- How many of the first k are in. -/
def cnt (xs : List X) (gr : Nat) (all : List Nat) (k : Nat) : Nat := ((all.take k).filter fun n => hasB xs n gr).length
theorem cnt_next {xs : List X} {gr k n : Nat} {all : List Nat} (h : all[k]? = some n) : cnt xs gr all (k + 1) = cnt xs gr all k + if hasB xs n gr then 1 else 0 := by
  unfold cnt
  rw [filter_next (p := fun n => hasB xs n gr) h, List.length_append]
  cases hasB xs n gr <;> rfl
theorem cnt_le (xs : List X) (gr : Nat) (all : List Nat) (k : Nat) : cnt xs gr all k ≤ all.length := by
  unfold cnt
  have h1 := List.length_filter_le (fun n => hasB xs n gr) (all.take k)
  rw [List.length_take] at h1
  omega
set_option maxHeartbeats 4000000 in
theorem picks_walk (W : World) (A : Option Addr) (m c : Nat) (xs : List X) (hR : Rd cX 2 W A m xs) (B : Option Addr) (q d : Nat) (all : List Nat) (hN : Rd cN 1 W B q all) (hr : Room W) :
    Calls Try.prog 5 #[.slice A m c, .slice B q d] W fun e w' => e = .returned (.bool true) ∧ Below W.heap.size W w' := by
  have HW := Lib.hid (awake_any W hr)
  have Hr := Lib.hid hr
  have HR := Lib.hid hR
  have HN := Lib.hid hN
  clear hR hr hN
  by_cases hm : m ≤ 100
  · have q1 : decide ((100 : Int) < (m : Int)) = false := decide_eq_false (by omega)
    by_cases hq : q ≤ 200
    · have q2 : decide ((200 : Int) < (q : Int)) = false := decide_eq_false (by omega)
      go_enter Try.func5, Try.ntmps5
      go_wp2_with fail
      refine HW.out.mono ?_
      rintro e w1 ⟨rfl, hb⟩
      have HB1 := Lib.hid hb
      clear hb
      go_wp2_with fail
      clear q1 q2
      go_loopw [24] (fun i wr => ∃ k : Nat, k ≤ q ∧ i = .int .i64 k ∧ Hid (Below W.heap.size W wr)) (fun i _ => q - (intOf i).toNat)
      case atStart => exact ⟨0, Nat.zero_le _, rfl, HB1⟩
      case round =>
        obtain ⟨k, hk, rfl, HB⟩ := hrel
        by_cases hlt : k < q
        · obtain ⟨b, o, n, rfl, hx, d0⟩ := atN (HN.out.below HB.out) k hlt
          have hlt' : (k : Int) < (q : Int) := by omega
          have HN2 := Lib.hid (HN.out.below HB.out)
          clear hx
          have HST := Lib.hid HB.out
          by_cases hn : n < 1
          · have p1 : decide ((n : Int) < 1) = true := decide_eq_true (by omega)
            clear hn
            go_wp2_with fail
            go_quiet (fail)
            clear d0
            have HB4 := Lib.hid (codec.below_draws HST.out nq)
            generalize wr.drewN nq = w4 at *
            go_wp2_with fail
            go_ret
            exact ⟨rfl, HB4.out⟩
          · have p1 : decide ((n : Int) < 1) = false := decide_eq_false (by omega)
            by_cases hk0 : 0 < k
            · obtain ⟨h, hh⟩ : ∃ h, k = h + 1 := ⟨k - 1, by omega⟩
              obtain ⟨b2, o2, y, he, hy, d1⟩ := atN HN2.out h (by omega)
              cases he
              have e1 : IntKind.i64.wrap ((k : Int) - 1) = (h : Int) := (IntWalk.i64_in _ (by omega)).trans (by omega)
              have l2 : (h : Int) < (q : Int) := by omega
              have p2 : decide (0 < k) = true := decide_eq_true hk0
              by_cases hny : n ≤ y
              · have p3 : decide (n ≤ y) = true := decide_eq_true hny
                clear hn hh hy hny hk0
                go_wp2_with fail
                go_quiet (fail)
                clear d0 d1 e1
                have HB4 := Lib.hid (codec.below_draws HST.out nq)
                generalize wr.drewN nq = w4 at *
                go_wp2_with fail
                go_ret
                exact ⟨rfl, HB4.out⟩
              · have p3 : decide (n ≤ y) = false := decide_eq_false hny
                clear hn hh hy hny hk0
                go_wp2_with fail
                go_quiet (fail)
                clear d0 d1 e1
                have HB4 := Lib.hid (codec.below_draws HST.out nq)
                generalize wr.drewN nq = w4 at *
                go_wp2_with fail
                go_roundw
                case rel => first | exact ⟨k + 1, by omega, by go_num, HB4⟩ | ((repeat apply Exists.intro); exact ⟨⟨k + 1, by omega, by go_num, HB4⟩, rfl⟩)
                case measure => (show q - ((k : Int) + 1).toNat < q - k; omega)
            · have p2 : decide (0 < k) = false := decide_eq_false hk0
              clear hn hk0
              go_wp2_with fail
              go_quiet (fail)
              clear d0
              have HB4 := Lib.hid (codec.below_draws HST.out nq)
              generalize wr.drewN nq = w4 at *
              go_wp2_with fail
              go_roundw
              case rel => first | exact ⟨k + 1, by omega, by go_num, HB4⟩ | ((repeat apply Exists.intro); exact ⟨⟨k + 1, by omega, by go_num, HB4⟩, rfl⟩)
              case measure => (show q - ((k : Int) + 1).toNat < q - k; omega)
        · obtain rfl : k = q := by omega
          have hm6 : m ≤ 1000000 := by omega
          have HP := Lib.hid (pick_any wr A m c xs (HR.out.below HB.out) hm6 B k d all (HN.out.below HB.out) (by omega))
          go_wp2_with fail
          refine HP.out.mono ?_
          rintro e w2 ⟨C, c2, rfl, hG, hb⟩
          have HB2 := Lib.hid (HB.out.trans (hb.mono HB.out.size))
          obtain ⟨gr, hgr⟩ : ∃ gr, gr = all.getLastD 0 := ⟨_, rfl⟩
          have HGr := Lib.hid hgr
          have HPk := Lib.hid (show pickB xs all = all.filter fun n => hasB xs n gr by unfold pickB; rw [← hgr])
          obtain ⟨G, hGl⟩ : ∃ G, G = (pickB xs all).length := ⟨_, rfl⟩
          rw [← hGl] at hG ⊢
          have HG := Lib.hid hG
          have HGl := Lib.hid (show cnt xs gr all k = G by
            rw [hGl, HPk.out]
            unfold cnt
            rw [List.take_of_length_le (by rw [HN.out.1]; exact Nat.le_refl _)])
          clear hG hb hgr hGl hk hlt
          generalize k = q at *
          go_wp2_with fail
          have HC0 := Lib.hid (show cnt xs gr all 0 = 0 from rfl)
          go_loopw [7, 54] (fun v i wr => ∃ k : Nat, ∃ kk : Nat, k ≤ q ∧ i = .int .i64 k ∧ v = .int .i64 kk ∧ Hid (cnt xs gr all k = kk) ∧ Hid (Below w2.heap.size w2 wr)) (fun _ i _ => q - (intOf i).toNat)
          case atStart => exact ⟨0, 0, Nat.zero_le _, rfl, rfl, HC0, Lib.hid (Below.refl _ _)⟩
          case round =>
            clear HB
            obtain ⟨k, kk, hk, rfl, rfl, HK, HB⟩ := hrel
            by_cases hlt : k < q
            · obtain ⟨h, hh⟩ : ∃ h, q = h + 1 := ⟨q - 1, by omega⟩
              obtain ⟨b, o, n, rfl, hx, d0⟩ := atN (HN.out.below (HB2.out.trans (HB.out.mono HB2.out.size))) k hlt
              obtain ⟨b3, o3, gl, he, hgl, d1⟩ := atN (HN.out.below (HB2.out.trans (HB.out.mono HB2.out.size))) h (by omega)
              cases he
              obtain rfl : gl = gr := by rw [HGr.out, last_of HN.out.1 hh hgl]
              have hlt' : (k : Int) < (q : Int) := by omega
              have e1 : IntKind.i64.wrap ((q : Int) - 1) = (h : Int) := (IntWalk.i64_in _ (by omega)).trans (by omega)
              have l1 : (h : Int) < (q : Int) := by omega
              have HOu := Lib.hid (fun w' (hb : Below wr.heap.size wr w') => ours_any w' A m c xs (HR.out.below ((HB2.out.trans (HB.out.mono HB2.out.size)).trans (hb.mono (Nat.le_trans HB2.out.size HB.out.size)))) hm6)
              have HD0 := Lib.hid (fun w' (hb : Below wr.heap.size wr w') => (hb.cell (p := ⟨b, o + k, none⟩) (block_lt_of_cell d0)).trans d0)
              have HD1 := Lib.hid (fun w' (hb : Below wr.heap.size wr w') => (hb.cell (p := ⟨b, o + h, none⟩) (block_lt_of_cell d1)).trans d1)
              have HST := Lib.hid (show Below wr.heap.size wr wr.drew from codec.below_draws (Below.refl _ _) 1)
              have HCn := Lib.hid (cnt_next (xs := xs) (gr := gl) hx)
              have HFa := Lib.hid (fun (hp : hasB xs n gl = true) => show (pickB xs all)[kk]? = some n by rw [HPk.out, ← HK.out]; exact filter_at (p := fun n => hasB xs n gl) hx hp)
              clear hx hgl hh d0 d1
              go_wp2_with fail
              refine wp_region_noPanic ?_
              refine wp_region_held_drew (S := fun w' => Below wr.heap.size wr w') (by kernel_rfl) HST.out (fun hHeld => ?_)
              refine wpAnyH_take (i := 0) (v := ?_) rfl (by kernel_rfl) (by kernel_rfl) (by kernel_rfl) (fun _ _ _ h => h) (Or.inl ⟨by kernel_rfl, ?_⟩) hHeld ?_
              rotate_left
              · (intro w' hw'; go_simp; first | done | with_reducible rfl)
              refine wpAnyH_take (i := 2) (v := ?_) rfl (by kernel_rfl) (by kernel_rfl) (by kernel_rfl) (fun _ _ _ h => h) (Or.inl ⟨by kernel_rfl, ?_⟩) hHeld ?_
              rotate_left
              · (intro w' hw'; go_simp; first | done | with_reducible rfl)
              refine wpAnyH_take (i := 3) (v := ?_) rfl (by kernel_rfl) (by kernel_rfl) (by kernel_rfl) (fun _ _ _ h => h) (Or.inl ⟨by kernel_rfl, ?_⟩) hHeld ?_
              rotate_left
              · (intro w' hw'; go_simp; first | done | with_reducible rfl)
              refine wpAnyH_take (i := 4) (v := ?_) rfl (by kernel_rfl) (by kernel_rfl) (by kernel_rfl) (fun _ _ _ h => h) (Or.inl ⟨by kernel_rfl, ?_⟩) hHeld ?_
              rotate_left
              · (intro w' hw'; go_simp; first | done | with_reducible rfl)
              refine wpAnyH_take (i := 5) (v := ?_) rfl (by kernel_rfl) (by kernel_rfl) (by kernel_rfl) (fun _ _ _ h => h) (Or.inl ⟨by kernel_rfl, ?_⟩) hHeld ?_
              rotate_left
              · (intro w' hw'; have d0 := HD0.out w' hw'; go_simp; first | done | with_reducible rfl)
              refine wpAnyH_take (i := 6) (v := ?_) rfl (by kernel_rfl) (by kernel_rfl) (by kernel_rfl) (fun _ _ _ h => h) (Or.inl ⟨by kernel_rfl, ?_⟩) hHeld ?_
              rotate_left
              · (intro w' hw'; go_simp; first | done | with_reducible rfl)
              refine wpAnyH_take (i := 7) (v := ?_) rfl (by kernel_rfl) (by kernel_rfl) (by kernel_rfl) (fun _ _ _ h => h) (Or.inl ⟨by kernel_rfl, ?_⟩) hHeld ?_
              rotate_left
              · (intro w' hw'; go_simp; first | done | with_reducible rfl)
              refine wpAnyH_take (i := 8) (v := ?_) rfl (by kernel_rfl) (by kernel_rfl) (by kernel_rfl) (fun _ _ _ h => h) (Or.inl ⟨by kernel_rfl, ?_⟩) hHeld ?_
              rotate_left
              · (intro w' hw'; go_simp; first | done | with_reducible rfl)
              refine wpAnyH_take (i := 9) (v := ?_) rfl (by kernel_rfl) (by kernel_rfl) (by kernel_rfl) (fun _ _ _ h => h) (Or.inl ⟨by kernel_rfl, ?_⟩) hHeld ?_
              rotate_left
              · (intro w' hw'; go_simp; first | done | with_reducible rfl)
              refine wpAnyH_take (i := 10) (v := ?_) rfl (by kernel_rfl) (by kernel_rfl) (by kernel_rfl) (fun _ _ _ h => h) (Or.inl ⟨by kernel_rfl, ?_⟩) hHeld ?_
              rotate_left
              · (intro w' hw'; go_simp; first | done | with_reducible rfl)
              refine wpAnyH_take (i := 11) (v := ?_) rfl (by kernel_rfl) (by kernel_rfl) (by kernel_rfl) (fun _ _ _ h => h) (Or.inl ⟨by kernel_rfl, ?_⟩) hHeld ?_
              rotate_left
              · (intro w' hw'; have d1 := HD1.out w' hw'; go_simp; first | done | with_reducible rfl)
              refine wpAnyH_ready (rs := [1]) (by kernel_rfl) (by simp) ?_
              refine AllReadyH.cons rfl (fun K hK => ?_) AllReadyH.nil
              go_simp
              refine (HOu.out _ hHeld).mono ?_
              rintro e w4 ⟨C5, c5, rfl, hR5, hb5⟩
              have HB5 := Lib.hid (hHeld.trans (hb5.mono hHeld.size))
              have HHa := Lib.hid (rHas_any w4 C5 m c5 xs n gl hR5 hm6)
              clear hb5 hR5
              go_wp2_with fail
              refine hK.out _ _ HB5.out (fun hH1 => ?_)
              clear hK K hHeld
              refine wpAnyH_ready (rs := [12]) (by kernel_rfl) (by simp) ?_
              refine AllReadyH.cons rfl (fun K hK => ?_) AllReadyH.nil
              go_simp
              refine HHa.out.mono ?_
              rintro e w5 ⟨rfl, hb6⟩
              have HB6 := Lib.hid (HB5.out.trans (hb6.mono HB5.out.size))
              clear hb6
              go_wp2_with fail
              refine hK.out _ _ HB6.out (fun hH2 => ?_)
              clear hK K hH1
              refine wpAnyH_done (by kernel_rfl) ?_ _
              refine NoPanic.normal ?_
              go_simp
              cases hp : hasB xs n gl
              · rw [hp] at HCn
                have HK1 := Lib.hid (show cnt xs gl all (k + 1) = kk by rw [HCn.out, HK.out]; rfl)
                have HB7 := Lib.hid (HB.out.trans (HB6.out.mono HB.out.size))
                clear hp
                go_wp2_with fail
                go_roundw
                case rel => first | exact ⟨k + 1, kk, by omega, by go_num, rfl, HK1, HB7⟩ | ((repeat apply Exists.intro); exact ⟨⟨k + 1, kk, by omega, by go_num, rfl, HK1, HB7⟩, rfl⟩)
                case measure => (show q - ((k : Int) + 1).toNat < q - k; omega)
              · have hat := HFa.out hp
                rw [hp] at HCn
                have HK1 := Lib.hid (show cnt xs gl all (k + 1) = kk + 1 by rw [HCn.out, HK.out]; rfl)
                have hB7 := HB.out.trans (HB6.out.mono HB.out.size)
                have hkG : kk < G := by
                  have h1 := (List.getElem?_eq_some_iff.1 hat).1
                  rw [HG.out.1] at h1
                  exact h1
                have hG2 : G ≤ 200 := by
                  have h1 := cnt_le xs gl all q
                  rw [HGl.out, HN.out.1] at h1
                  omega
                obtain ⟨b4, o4, n2, rfl, hn2, d2⟩ := atN (HG.out.below hB7) kk hkG
                rw [hat] at hn2
                cases hn2
                have d3 := HD0.out _ HB6.out
                have l3 : (kk : Int) < (G : Int) := by omega
                have p4 : decide (G ≤ kk) = false := decide_eq_false (by omega)
                have HB7 := Lib.hid hB7
                clear hp hat hB7
                go_wp2_with fail
                go_quiet (fail)
                clear d2 d3
                have HB8 := Lib.hid (codec.below_draws HB7.out nq)
                generalize w5.drewN nq = w6 at *
                go_wp2_with fail
                go_roundw
                case rel => first | exact ⟨k + 1, kk + 1, by omega, by go_num, by go_num, HK1, HB8⟩ | ((repeat apply Exists.intro); exact ⟨⟨k + 1, kk + 1, by omega, by go_num, by go_num, HK1, HB8⟩, rfl⟩)
                case measure => (show q - ((k : Int) + 1).toNat < q - k; omega)
            · obtain rfl : k = q := by omega
              have HE := Lib.hid (show kk = G by rw [← HK.out, HGl.out])
              have hE := HE.out
              subst hE
              go_wp2_with fail
              go_ret
              exact ⟨by simp, HB2.out.trans (HB.out.mono HB2.out.size)⟩
    · have q2 : decide ((200 : Int) < (q : Int)) = true := decide_eq_true (by omega)
      clear hm hq
      go_enter Try.func5, Try.ntmps5
      go_wp2_with fail
      refine HW.out.mono ?_
      rintro e w1 ⟨rfl, hb⟩
      have HB1 := Lib.hid hb
      have HW1 := Lib.hid (awake_any w1 (Hr.out.below hb))
      clear hb
      go_wp2_with fail
      refine HW1.out.mono ?_
      rintro e w2 ⟨rfl, hb⟩
      have HB2 := Lib.hid (HB1.out.trans (hb.mono HB1.out.size))
      clear hb
      go_wp2_with fail
      go_ret
      exact ⟨rfl, HB2.out⟩
  · have q1 : decide ((100 : Int) < (m : Int)) = true := decide_eq_true (by omega)
    clear hm
    go_enter Try.func5, Try.ntmps5
    go_wp2_with fail
    refine HW.out.mono ?_
    rintro e w1 ⟨rfl, hb⟩
    have HB1 := Lib.hid hb
    have HW1 := Lib.hid (awake_any w1 (Hr.out.below hb))
    clear hb
    go_wp2_with fail
    refine HW1.out.mono ?_
    rintro e w2 ⟨rfl, hb⟩
    have HB2 := Lib.hid (HB1.out.trans (hb.mono HB1.out.size))
    clear hb
    go_wp2_with fail
    go_ret
    exact ⟨rfl, HB2.out⟩
end Go.Proofs.Ytmooeadeihgbdaa.sq
