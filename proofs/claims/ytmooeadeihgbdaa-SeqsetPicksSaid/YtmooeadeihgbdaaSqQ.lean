/- Parts in rising order, with the farthest ends: the program's walk. -/
import Derived.Test.YtmooeadeihgbdaaSqP
namespace Go.Proofs.Ytmooeadeihgbdaa.sq
open Go.ChangeShapes Go.WideShapes Go.ChangeAt Go.RowKit
open Go.Proofs.Ytmooeadeihgbdaa.row
set_option linter.unusedVariables false
set_option maxRecDepth 100000
set_option linter.unusedSimpArgs false

theorem natmax (a b : Nat) : ((max a b : Nat) : Int) = max (a : Int) (b : Int) := by omega
theorem risen_next {xs : List X} {k gr : Nat} {x : X} (h : xs[k]? = some x) : risen (xs.take (k + 1)) gr = risen (xs.take k) gr ++ [⟨lo x gr, hi x gr⟩] := by
  unfold risen
  rw [take_next h, List.map_append]
  rfl
theorem up_of_sorted {d : Array X} (h : Sort.SortedIn (ltOf cf) 0 d.size d) : Up d.toList := by
  intro i j x y hij hx hy
  have hi := (List.getElem?_eq_some_iff.1 hx)
  have hj := (List.getElem?_eq_some_iff.1 hy)
  have e1 : d[i]! = x := by rw [getElem!_pos d i (by simpa using hi.1)]; simpa using hi.2
  have e2 : d[j]! = y := by rw [getElem!_pos d j (by simpa using hj.1)]; simpa using hj.2
  rcases Nat.lt_or_eq_of_le hij with h1 | rfl
  · have := h i j (Nat.zero_le _) h1 (by simpa using hj.1)
    rw [e1, e2] at this
    have h3 : decide (cf y x < 0) = false := this
    rw [cf_lt] at h3
    simpa using h3
  · rw [hx] at hy
    cases hy
    exact Nat.le_refl _
theorem perm_of {d d' : Array X} (h : Sort.PermIn 0 d.size d d') : d'.toList.Perm d.toList ∧ d'.size = d.size := by
  refine ⟨?_, h.1⟩
  have := h.2.2
  rw [show d.extract 0 d.size = d by simp] at this
  rwa [show d'.extract 0 d.size = d' by rw [← h.1]; simp] at this
theorem own_some {v v1 : Value} {n : Nat} (hG : ∃ g, v.ownBlock = some g) (h3 : v1.ownBlock = v.ownBlock ∨ ∃ g, v1.ownBlock = some g ∧ n ≤ g) : ∃ g, v1.ownBlock = some g := by
  rcases h3 with h3 | ⟨g, h3, _⟩
  · rw [h3]; exact hG
  · exact ⟨g, h3⟩
theorem own_at {α : Type} {F : α → List Value} {K B : Nat} {E : TypeId} {w : World} {v : Value} {ys : List α} (h : Own F K B E w v ys) (hG : ∃ g, v.ownBlock = some g) : ∃ g c, v = .slice (some ⟨g, 0, none⟩) ys.length c ∧ B ≤ g ∧ g < w.heap.size := by
  rcases h.2 with ⟨e, h0⟩ | ⟨g, cap, cur, e, hB, hg, _⟩
  · subst e
    obtain ⟨g, hg⟩ := hG
    cases hg
  · exact ⟨g, cap, e, hB, (Array.getElem?_eq_some_iff.1 hg).1⟩
/-- Ends being made the farthest. -/
def FS (W : World) (g : Nat) (ys : List X) (i : Nat) (w : World) : Prop := Far w g ys i ∧ Below W.heap.size W w ∧ g < w.heap.size
theorem FS.step {W w : World} {g i : Nat} {ys : List X} {x : X} (h : FS W g ys i w) (hx : ys[i]? = some x) (hg : W.heap.size ≤ g) : FS W g ys (i + 1) (w.setCell ⟨g, i * 2 + 1, none⟩ (.int .u32 (max x.t (mxL (ys.take i)) : Nat))).drew :=
  ⟨(h.1.step hx).below (codec.below_draws (Below.refl _ _) 1), codec.below_draws (h.2.1.setCell (p := ⟨g, i * 2 + 1, none⟩) hg _) 1, by show g < (w.setCell _ _).heap.size; simpa using h.2.2⟩
theorem enters28 : ∀ args w, (callFunc 28 args).run Try.prog w = .ok (.enter 28 args) w := enters_of Try.func28 (by kernel_rfl) rfl
theorem sort_any (w : World) (g c : Nat) (d : Array X) (hH : Sort.HoldsK cX 2 w g 0 d) (hg : g < w.heap.size) (hd : d.size ≤ 1000000) :
    Calls Try.prog 27 #[.slice (some ⟨g, 0, none⟩) d.size c, .func (.func 28) #[] #[]] w fun e w' => e = .returned (.tuple #[]) ∧ ∃ d' : Array X, d'.toList.Perm d.toList ∧ Up d'.toList ∧ Far w' g d'.toList 1 ∧ w.heap.size ≤ w'.heap.size ∧ ∀ B W, Below B W w → B ≤ g → Below B W w' := by
  refine (Try.slices_SortFunc 2 Try.isAgg32 Try.sizeOf32 cX fX.len fX.one cf swo 28 #[] g 0 c d w enters28 (fun m os dk hs x y => order_any _ x y) hH hg (by omega)).mono ?_
  rintro e w' ⟨rfl, d', n, os, hp, hs, rfl⟩
  obtain ⟨h1, h2⟩ := perm_of hp
  have hsz : w.heap.size ≤ (sortWorldK cX 2 w g 0 n d' os).heap.size := size_sortWorldK_c cX 2 w g 0 n d' os
  exact ⟨rfl, d', h1, up_of_sorted (by rw [h2]; exact hs), far_of_holds (holdsK_sortWorldK_c cX 2 w g 0 d d' n os hH hg h2), hsz, fun B W hb hB => below_sort hb (by omega) hB⟩
set_option maxHeartbeats 4000000 in
theorem reaches_any (W : World) (A : Option Addr) (m c : Nat) (xs : List X) (gr : Nat) (hR : Rd cX 2 W A m xs) (hm : m ≤ 1000000) :
    Calls Try.prog 20 #[.slice A m c, .int .u32 (gr : Nat)] W fun e w' => ReachAns W xs gr e w' := by
  have HR := Lib.hid hR
  clear hR
  obtain ⟨i0, hi0, hz0, hz1, hz2⟩ := info_parts infoSp
  go_enter Try.func20, Try.ntmps20
  go_wp2_with (at_make; refine wpList_make_own W rfl _ _ 23 rfl W.heap.size 32 i0 (.agg #[.int .u32 0, .int .u32 0]) 2 Try.underlying23 hi0 hz0 hz1 _ _ _ m rfl rfl ?c1 ?c2 ?c3 ?c4 ?_)
  case c1 => simp
  case c2 => rw [hz2]; omega
  case c3 => unfold maxLen; omega
  case c4 => exact Nat.le_refl _
  intro w1 hown hgrow
  have HS0 := Lib.hid (show RS W xs gr 0 (.slice (some ⟨W.heap.size, 0, none⟩) 0 m) w1 from ⟨hown, (Below.refl _ _).grown hgrow (Nat.le_refl _) (fun k hk => by cases hk), ⟨_, rfl⟩⟩)
  clear hown hgrow hi0 hz0 hz1 hz2
  go_wp2
  go_loopw [5, 14] (fun v i wr => ∃ k : Nat, k ≤ m ∧ i = .int .i64 k ∧ Hid (RS W xs gr k v wr)) (fun _ i _ => m - (intOf i).toNat)
  case atStart => exact ⟨0, Nat.zero_le _, rfl, HS0⟩
  case round =>
    obtain ⟨k, hk, rfl, HS⟩ := hrel
    by_cases hlt : k < m
    · obtain ⟨b, o, ⟨f, t⟩, rfl, hx, c0, c1⟩ := atX (HR.out.below HS.out.2.1) k hlt
      simp only at c0 c1
      have hlt' : (k : Int) < (m : Int) := by omega
      have HT := Lib.hid (risen_next (gr := gr) hx)
      have HL : Hid ((risen (xs.take k) gr).length ≤ 20000000) := Lib.hid (by unfold risen; rw [List.length_map, List.length_take]; omega)
      have HB2 := Lib.hid (HS.out.2.1.alloc HS.out.2.1.size (.cells #[.int .u32 (f : Nat), .int .u32 (t : Nat)] 32))
      have HO2 := Lib.hid (HS.out.1.alloc (.cells #[.int .u32 (f : Nat), .int .u32 (t : Nat)] 32))
      have HG := Lib.hid HS.out.2.2
      have HRi := Lib.hid (rising_any (wr.alloc (.cells #[.int .u32 (f : Nat), .int .u32 (t : Nat)] 32)) ⟨f, t⟩ gr)
      generalize lo ⟨f, t⟩ gr = p at *
      generalize hi ⟨f, t⟩ gr = q at *
      clear hx
      go_wp2_with fail
      refine HRi.out.mono ?_
      rintro e w2 ⟨rfl, hb⟩
      have HB3 := Lib.hid (HB2.out.trans (hb.mono HB2.out.size))
      have HO3 := Lib.hid (HO2.out.below hb)
      clear hb
      go_wp2_with (at_builtin; refine row.wpList_append_own fX (by decide) (by decide) (by_ := 8) (by decide) (z := .agg #[.int .u32 0, .int .u32 0]) rfl rfl (.tmp 18) (.tmp 22) 23 32 rfl Try.underlying23 infoSp W.heap.size u5 _ rfl HO3.out HB3.out.size HL.out ⟨p, q⟩ (0, 0) _ (by simp) rfl _ rfl ?_; intro v1 w4 ho hg h3; have HS1 := Lib.hid (show RS W xs gr (k + 1) v1 w4 from ⟨by rw [HT.out]; exact ho, grown_below HB3.out HO3.out hg, own_some HG.out h3⟩); clear ho hg h3)
      go_roundw
      case rel => first | exact ⟨k + 1, by omega, by go_num, HS1⟩ | ((repeat apply Exists.intro); exact ⟨⟨k + 1, by omega, by go_num, HS1⟩, rfl⟩)
      case measure => (show m - ((k : Int) + 1).toNat < m - k; omega)
    · obtain rfl : k = m := by omega
      have hE : risen (xs.take k) gr = risen xs gr := by rw [List.take_of_length_le (by rw [HR.out.1]; omega)]
      have hlen : (risen xs gr).length = k := by unfold risen; rw [List.length_map, HR.out.1]
      obtain ⟨ho, hb, hG⟩ := HS.out
      rw [hE] at ho
      obtain ⟨g, cp, hv, hgB, hgl⟩ := own_at ho hG
      rw [hlen] at hv
      subst hv
      have HB := Lib.hid hb
      have HSo := Lib.hid (sort_any wr g cp (risen xs gr).toArray (holds_of_own ho hlen) hgl (by simp [hlen]; omega))
      rw [show (risen xs gr).toArray.size = k by simp [hlen]] at HSo
      have HLn := Lib.hid hlen
      clear hE hlen ho hb hG
      go_wp2_with fail
      refine HSo.out.mono ?_
      rintro e w2 ⟨rfl, d, hp, hu, hf, hsz, hbel⟩
      have HB2 := Lib.hid (hbel _ _ HB.out hgB)
      have HP := Lib.hid (show d.toList.Perm (risen xs gr) by simpa using hp)
      have HU := Lib.hid hu
      have HF := Lib.hid hf
      have HZ := Lib.hid (show d.toList.length = k by have := hp.length_eq; simp at this; rw [Array.length_toList, this, HLn.out])
      have HW2 := Lib.hid hsz
      generalize d.toList = ys at *
      clear hp hu hf hsz hbel
      go_wp2_with fail
      have HF2 := Lib.hid (show FS W g ys 1 w2 from ⟨HF.out, HB2.out, by have := HW2.out; omega⟩)
      go_loopw [8] (fun i wr => ∃ j : Nat, 1 ≤ j ∧ j ≤ k + 1 ∧ i = .int .i64 j ∧ Hid (FS W g ys j wr)) (fun i _ => k - (intOf i).toNat)
      case atStart => exact ⟨1, Nat.le_refl _, by omega, rfl, HF2⟩
      case round =>
        obtain ⟨j, hj1, hjk, rfl, HJ⟩ := hrel
        by_cases hjl : j < k
        · obtain ⟨h, rfl⟩ : ∃ h, j = h + 1 := ⟨j - 1, by omega⟩
          obtain ⟨j, hj⟩ : ∃ j, j = h + 1 := ⟨_, rfl⟩
          rw [← hj] at hjl hj1 hjk HJ
          obtain ⟨x, hx⟩ : ∃ x, ys[j]? = some x := ⟨_, List.getElem?_eq_getElem (by rw [HZ.out]; exact hjl)⟩
          obtain ⟨y, hy⟩ : ∃ y, ys[h]? = some y := ⟨_, List.getElem?_eq_getElem (by rw [HZ.out]; omega)⟩
          obtain ⟨_, d0, z0⟩ := HJ.out.1 j x hx
          obtain ⟨_, d1, _⟩ := HJ.out.1 h y hy
          rw [show tt ys j j x = x.t from if_neg (Nat.lt_irrefl j)] at d0
          rw [show tt ys j h y = mxL (ys.take j) by unfold tt; rw [if_pos (by omega), hj]] at d1
          have HN := Lib.hid (HJ.out.step hx hgB)
          rw [natmax] at HN
          generalize x.t = a at *
          generalize mxL (ys.take j) = b at *
          have e1 : IntKind.i64.wrap ((j : Int) - 1) = (h : Int) := (IntWalk.i64_in _ (by omega)).trans (by omega)
          have l1 : (j : Int) < (k : Int) := by omega
          have l2 : (h : Int) < (k : Int) := by omega
          have hji : ((h + 1 : Nat) : Int) = (j : Int) := by omega
          rw [← hj]
          clear hx hy hji hj
          go_wp2_with fail
          go_still_tail 14, (by kernel_rfl)
          clear e1
          go_wp2_with fail
          go_roundw
          case rel => first | exact ⟨j + 1, by omega, by omega, by go_num, HN⟩ | ((repeat apply Exists.intro); exact ⟨⟨j + 1, by omega, by omega, by go_num, HN⟩, rfl⟩)
          case measure => (show k - ((j : Int) + 1).toNat < k - j; omega)
        · have hFar := HJ.out
          go_wp2
          go_ret
          exact ⟨g, cp, ys, j, by rw [HR.out.1]; rfl, hFar.1, by rw [HR.out.1]; omega, HP.out, HU.out, hgB, hFar.2.2, hFar.2.1⟩
end Go.Proofs.Ytmooeadeihgbdaa.sq
