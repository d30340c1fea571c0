/- What is picked: the program's walk. -/
import Derived.Test.YtmooeadeihgbdaaSqR
namespace Go.Proofs.Ytmooeadeihgbdaa.sq
open Go.ChangeShapes Go.WideShapes Go.ChangeAt Go.RowKit
open Go.Proofs.Ytmooeadeihgbdaa.row
open Go.Proofs.Ytmooeadeihgbdaa.cardIn (cN fN)
set_option linter.unusedVariables false
set_option maxRecDepth 100000
set_option linter.unusedSimpArgs false

theorem infoN : (Try.prog.info? 29).map (fun i => (i.zero, i.size, i.bytes)) = some (some (.int .u32 0), 1, 4) := by kernel_rfl
/-- Numbers being picked. -/
def KS (W : World) (l : List Nat) (v : Value) (w : World) : Prop := Own cN 1 W.heap.size 29 w v l ∧ Below W.heap.size W w
theorem last_of {all : List Nat} {q h x : Nat} (hq : all.length = q) (hh : q = h + 1) (hx : all[h]? = some x) : all.getLastD 0 = x := by
  rw [List.getLastD_eq_getLast?, List.getLast?_eq_getElem?, hq, hh, Nat.add_sub_cancel, hx]
  rfl
set_option maxHeartbeats 4000000 in
theorem pick_any (W : World) (A : Option Addr) (m c : Nat) (xs : List X) (hR : Rd cX 2 W A m xs) (hm : m ≤ 1000000) (B : Option Addr) (q d : Nat) (all : List Nat) (hN : Rd cN 1 W B q all) (hq : q ≤ 1000000) :
    Calls Try.prog 12 #[.slice A m c, .slice B q d] W fun e w' => ∃ C c', e = .returned (.slice C (pickB xs all).length c') ∧ Rd cN 1 w' C (pickB xs all).length (pickB xs all) ∧ Below W.heap.size W w' := by
  have HN := Lib.hid hN
  by_cases hq0 : q = 0
  · subst hq0
    obtain rfl : all = [] := List.eq_nil_of_length_eq_zero hN.1
    clear hN hR HN
    go_enter Try.func12, Try.ntmps12
    go_wp2_with fail
    go_ret
    exact ⟨none, 0, rfl, Rd.empty _, Below.refl _ _⟩
  · obtain ⟨h, hh⟩ : ∃ h, q = h + 1 := ⟨q - 1, by omega⟩
    have q1 : ((q : Int) == 0) = false := by rw [beq_eq_false_iff_ne]; omega
    obtain ⟨b, o, gr, rfl, hg, c0⟩ := atN hN h (by omega)
    have HP := Lib.hid (show pickB xs all = all.filter fun n => hasB xs n gr by unfold pickB; rw [last_of hN.1 hh hg])
    have HRe := Lib.hid (fun w (hb : Below W.heap.size W w) => reaches_any w A m c xs gr (hR.below hb) hm)
    have HL := Lib.hid (show xs.length = m from hR.1)
    have e1 : IntKind.i64.wrap ((q : Int) - 1) = (h : Int) := (IntWalk.i64_in _ (by omega)).trans (by omega)
    have l1 : (h : Int) < (q : Int) := by omega
    clear hN hR hq0 hh hg
    go_enter Try.func12, Try.ntmps12
    go_wp2_with fail
    refine (HRe.out _ (by first | exact Below.refl _ _ | exact codec.below_draws (Below.refl _ _) _)).mono ?_
    rintro e w2 ⟨g, c2, ys, i, rfl, hF, hi, hp, hu, hgB, hgl, hb⟩
    rw [HL.out] at hi ⊢
    have HI := Lib.hid (fun (w : World) (hb2 : Below w2.heap.size w2 w) (n : Nat) (hn : n ≠ 0) => isReached_any w g m c2 n i ys (hF.below hb2) hi hu (by rw [hp.length_eq]; unfold risen; rw [List.length_map, HL.out]) hm hn)
    have HA := Lib.hid (fun (n : Nat) (hn : n ≠ 0) => show (ys.any fun x => within x n) = hasB xs n gr by rw [hasB_risen, decide_eq_true hn, Bool.true_and]; exact any_perm hp)
    have HB2 := Lib.hid hb
    have HN2 := Lib.hid (HN.out.below hb)
    have HK0 := Lib.hid (show KS w2 ((all.take 0).filter fun n => hasB xs n gr) (.slice none 0 0) w2 from ⟨Own.nil _ _ _ _ _, Below.refl _ _⟩)
    clear hF hi hp hu hgB hgl hb e1 l1 c0
    go_wp2_with fail
    go_loopw [6, 22] (fun v i wr => ∃ k : Nat, k ≤ q ∧ i = .int .i64 k ∧ Hid (KS w2 ((all.take k).filter fun n => hasB xs n gr) v wr)) (fun _ i _ => q - (intOf i).toNat)
    case atStart => exact ⟨0, Nat.zero_le _, rfl, HK0⟩
    case round =>
      obtain ⟨k, hk, rfl, HS⟩ := hrel
      by_cases hlt : k < q
      · obtain ⟨b2, o2, n, he, hx, d0⟩ := atN (HN2.out.below HS.out.2) k hlt
        cases he
        have hlt' : (k : Int) < (q : Int) := by omega
        have HT := Lib.hid (filter_next (p := fun n => hasB xs n gr) hx)
        have HO := Lib.hid HS.out.1
        have HB := Lib.hid HS.out.2
        have HL2 : Hid (((all.take k).filter fun n => hasB xs n gr).length ≤ 20000000) := Lib.hid (by
          have h1 := List.length_filter_le (fun n => hasB xs n gr) (all.take k)
          rw [List.length_take] at h1
          omega)
        clear hx
        by_cases hn : n = 0
        · subst hn
          have HS1 := Lib.hid (show KS w2 ((all.take (k + 1)).filter fun n => hasB xs n gr) u6 wr by
            rw [HT.out, show hasB xs 0 gr = false from rfl]
            simpa using HS.out)
          go_wp2_with fail
          go_roundw
          case rel => first | exact ⟨k + 1, by omega, by go_num, HS1⟩ | ((repeat apply Exists.intro); exact ⟨⟨k + 1, by omega, by go_num, HS1⟩, rfl⟩)
          case measure => (show q - ((k : Int) + 1).toNat < q - k; omega)
        · have HC := Lib.hid (HI.out wr HB.out n hn)
          rw [HA.out n hn] at HC
          have p1 : ((n : Int) != 0) = true := by rw [bne_iff_ne]; omega
          cases hp : hasB xs n gr
          · rw [hp] at HC
            have HS1 := fun w4 (hb : Below wr.heap.size wr w4) => Lib.hid (show KS w2 ((all.take (k + 1)).filter fun n => hasB xs n gr) u6 w4 by
              rw [HT.out]
              simp only [hp]
              exact ⟨by simpa using HO.out.below hb, HB.out.trans (hb.mono HB.out.size)⟩)
            have HSd := Lib.hid HS1
            clear hp HS1
            go_wp2_with fail
            refine HC.out.mono ?_
            rintro e w4 ⟨rfl, hb⟩
            have HS1 := HSd.out w4 hb
            clear hb
            go_wp2_with fail
            go_roundw
            case rel => first | exact ⟨k + 1, by omega, by go_num, HS1⟩ | ((repeat apply Exists.intro); exact ⟨⟨k + 1, by omega, by go_num, HS1⟩, rfl⟩)
            case measure => (show q - ((k : Int) + 1).toNat < q - k; omega)
          · rw [hp] at HC HT
            clear hp
            go_wp2_with fail
            refine HC.out.mono ?_
            rintro e w4 ⟨rfl, hb⟩
            have HB4 := Lib.hid (HB.out.trans (hb.mono HB.out.size))
            have HO4 := Lib.hid (HO.out.below hb)
            clear hb
            go_wp2_with (at_builtin; refine row.wpList_append_own fN (by decide) (by decide) (by_ := 4) (by decide) (z := .int .u32 0) rfl rfl (.tmp 33) (.tmp 35) 37 29 rfl Try.underlying37 infoN w2.heap.size u6 _ rfl HO4.out HB4.out.size HL2.out n (0, 0) _ (by simp) rfl _ rfl ?_; intro v1 w5 ho hg h3; have HS1 := Lib.hid (show KS w2 ((all.take (k + 1)).filter fun n => hasB xs n gr) v1 w5 from ⟨by rw [HT.out]; exact ho, grown_below HB4.out HO4.out hg⟩); clear ho hg h3)
            go_roundw
            case rel => first | exact ⟨k + 1, by omega, by go_num, HS1⟩ | ((repeat apply Exists.intro); exact ⟨⟨k + 1, by omega, by go_num, HS1⟩, rfl⟩)
            case measure => (show q - ((k : Int) + 1).toNat < q - k; omega)
      · obtain rfl : k = q := by omega
        obtain ⟨ho, hb⟩ := HS.out
        rw [List.take_of_length_le (by rw [HN2.out.1]; omega), ← HP.out] at ho
        obtain ⟨C, c', rfl, _, _, hR'⟩ := ho.rd fN
        have HF := Lib.hid (And.intro hR' (HB2.out.trans (hb.mono HB2.out.size)))
        clear ho hb hR'
        go_wp2_with fail
        go_ret
        exact ⟨C, c', rfl, HF.out.1, HF.out.2⟩
end Go.Proofs.Ytmooeadeihgbdaa.sq
