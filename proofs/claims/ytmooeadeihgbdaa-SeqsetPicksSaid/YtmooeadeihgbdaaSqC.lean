/- Whether a number is in a set: the document's Has; ours. -/
import Derived.Test.YtmooeadeihgbdaaSqA
namespace Go.Proofs.Ytmooeadeihgbdaa.sq
open Go.ChangeShapes Go.WideShapes Go.ChangeAt Go.RowKit
open Go.Proofs.Ytmooeadeihgbdaa.row
set_option linter.unusedVariables false
set_option maxRecDepth 100000
set_option linter.unusedSimpArgs false

/-- The document's words: from one to the other, whichever is greater. -/
theorem inX_eq (x : X) (n g : Nat) : inX x n g = (decide (told x.f g ≤ n) && decide (n ≤ told x.t g) || decide (told x.t g ≤ n) && decide (n ≤ told x.f g)) := by
  unfold inX lo hi
  rw [Bool.eq_iff_iff]
  simp only [Bool.or_eq_true, Bool.and_eq_true, decide_eq_true_eq]
  omega
theorem any_at {α : Type} {p : α → Bool} {l : List α} {k : Nat} {x : α} (h : l[k]? = some x) : (l.drop k).any p = (p x || (l.drop (k + 1)).any p) := by
  obtain ⟨h1, h2⟩ := List.getElem?_eq_some_iff.1 h
  rw [List.drop_eq_getElem_cons h1, List.any_cons, h2]
theorem any_end {α : Type} {p : α → Bool} {l : List α} {k : Nat} (h : l.length ≤ k) : (l.drop k).any p = false := by
  rw [List.drop_eq_nil_of_le h]
  rfl
/-- Does a part hold it, where one is asked at all? -/
def inN (x : X) (n g : Nat) : Bool := decide (1 ≤ n) && inX x n g
theorem hasB_eq (l : List X) (n g : Nat) : hasB l n g = l.any fun x => inN x n g := by
  unfold hasB inN
  by_cases h : n = 0
  · subst h
    rw [show (l.any fun x => decide (1 ≤ 0) && inX x 0 g) = false from any_no fun j x _ => rfl]
    rfl
  · rw [decide_eq_true h, Bool.true_and]
    congr 1
    funext x
    rw [decide_eq_true (by omega : 1 ≤ n), Bool.true_and]
set_option maxHeartbeats 4000000 in
theorem rHas_any (W : World) (A : Option Addr) (m c : Nat) (xs : List X) (n g : Nat) (hR : Rd cX 2 W A m xs) (hm : m ≤ 1000000) :
    Calls Try.prog 10 #[.slice A m c, .int .u32 (n : Nat), .int .u32 (g : Nat)] W fun e w' => e = .returned (.bool (hasB xs n g)) ∧ Below W.heap.size W w' := by
  rw [hasB_eq]
  have HR := Lib.hid hR
  clear hR
  go_enter Try.func10, Try.ntmps10
  go_wp2
  go_loopw [12] (fun i wr => ∃ k : Nat, k ≤ m ∧ i = .int .i64 k ∧ Hid ((xs.any fun x => inN x n g) = (xs.drop k).any fun x => inN x n g) ∧ Hid (Below W.heap.size W wr)) (fun i _ => m - (intOf i).toNat)
  case atStart => exact ⟨0, Nat.zero_le _, rfl, Lib.hid rfl, Lib.hid (Below.refl _ _)⟩
  case round =>
    obtain ⟨k, hk, rfl, HA, HB⟩ := hrel
    by_cases hlt : k < m
    · obtain ⟨b, o, ⟨f, t⟩, rfl, hx, c0, c1⟩ := atX (HR.out.below HB.out) k hlt
      simp only at c0 c1
      have hlt' : (k : Int) < (m : Int) := by omega
      have HT := Lib.hid (HA.out.trans (any_at (p := fun x => inN x n g) hx))
      clear hx
      by_cases hf : f = 0
      · by_cases ht : t = 0
        · subst hf
          subst ht
          have HI := Lib.hid (show inX ⟨0, 0⟩ n g = (decide (g ≤ n) && decide (n ≤ g) || decide (g ≤ n) && decide (n ≤ g)) by rw [inX_eq]; simp [told])
          go_wp2_with fail
          go_quiet (fail)
          obtain ⟨w2, hw2⟩ : ∃ w2, w2 = wr.drewN nq := ⟨_, rfl⟩
          rw [← hw2]
          have HB2 := Lib.hid (show Below W.heap.size W w2 by rw [hw2]; exact codec.below_draws HB.out nq)
          clear hw2 c0 c1
          go_wp2_with fail
          all_goals first
            | (go_ret; exact ⟨by rw [HT.out, show inN ⟨0, 0⟩ n g = true by (unfold inN; rw [HI.out]; simp only [Bool.and_eq_true, Bool.or_eq_true, decide_eq_true_eq]; omega)]; rfl, HB2.out⟩)
            | (have HT2 := Lib.hid (HT.out.trans (show (inN ⟨0, 0⟩ n g || (xs.drop (k + 1)).any fun x => inN x n g) = (xs.drop (k + 1)).any fun x => inN x n g by (rw [show inN ⟨0, 0⟩ n g = false by (rw [Bool.eq_false_iff]; intro h9; unfold inN at h9; rw [HI.out] at h9; simp only [Bool.and_eq_true, Bool.or_eq_true, decide_eq_true_eq] at h9; omega)]; rfl)))
               go_roundw
               case rel => first | exact ⟨k + 1, by omega, by go_num, HT2, HB2⟩ | ((repeat apply Exists.intro); exact ⟨⟨k + 1, by omega, by go_num, HT2, HB2⟩, rfl⟩)
               case measure => (show m - ((k : Int) + 1).toNat < m - k; omega))
        · subst hf
          have HI := Lib.hid (show inX ⟨0, t⟩ n g = (decide (g ≤ n) && decide (n ≤ t) || decide (t ≤ n) && decide (n ≤ g)) by rw [inX_eq]; simp [told, ht])
          go_wp2_with fail
          go_quiet (fail)
          obtain ⟨w2, hw2⟩ : ∃ w2, w2 = wr.drewN nq := ⟨_, rfl⟩
          rw [← hw2]
          have HB2 := Lib.hid (show Below W.heap.size W w2 by rw [hw2]; exact codec.below_draws HB.out nq)
          clear hw2 c0 c1
          go_wp2_with fail
          all_goals first
            | (go_ret; exact ⟨by rw [HT.out, show inN ⟨0, t⟩ n g = true by (unfold inN; rw [HI.out]; simp only [Bool.and_eq_true, Bool.or_eq_true, decide_eq_true_eq]; omega)]; rfl, HB2.out⟩)
            | (have HT2 := Lib.hid (HT.out.trans (show (inN ⟨0, t⟩ n g || (xs.drop (k + 1)).any fun x => inN x n g) = (xs.drop (k + 1)).any fun x => inN x n g by (rw [show inN ⟨0, t⟩ n g = false by (rw [Bool.eq_false_iff]; intro h9; unfold inN at h9; rw [HI.out] at h9; simp only [Bool.and_eq_true, Bool.or_eq_true, decide_eq_true_eq] at h9; omega)]; rfl)))
               go_roundw
               case rel => first | exact ⟨k + 1, by omega, by go_num, HT2, HB2⟩ | ((repeat apply Exists.intro); exact ⟨⟨k + 1, by omega, by go_num, HT2, HB2⟩, rfl⟩)
               case measure => (show m - ((k : Int) + 1).toNat < m - k; omega))
      · by_cases ht : t = 0
        · subst ht
          have HI := Lib.hid (show inX ⟨f, 0⟩ n g = (decide (f ≤ n) && decide (n ≤ g) || decide (g ≤ n) && decide (n ≤ f)) by rw [inX_eq]; simp [told, hf])
          go_wp2_with fail
          go_quiet (fail)
          obtain ⟨w2, hw2⟩ : ∃ w2, w2 = wr.drewN nq := ⟨_, rfl⟩
          rw [← hw2]
          have HB2 := Lib.hid (show Below W.heap.size W w2 by rw [hw2]; exact codec.below_draws HB.out nq)
          clear hw2 c0 c1
          go_wp2_with fail
          all_goals first
            | (go_ret; exact ⟨by rw [HT.out, show inN ⟨f, 0⟩ n g = true by (unfold inN; rw [HI.out]; simp only [Bool.and_eq_true, Bool.or_eq_true, decide_eq_true_eq]; omega)]; rfl, HB2.out⟩)
            | (have HT2 := Lib.hid (HT.out.trans (show (inN ⟨f, 0⟩ n g || (xs.drop (k + 1)).any fun x => inN x n g) = (xs.drop (k + 1)).any fun x => inN x n g by (rw [show inN ⟨f, 0⟩ n g = false by (rw [Bool.eq_false_iff]; intro h9; unfold inN at h9; rw [HI.out] at h9; simp only [Bool.and_eq_true, Bool.or_eq_true, decide_eq_true_eq] at h9; omega)]; rfl)))
               go_roundw
               case rel => first | exact ⟨k + 1, by omega, by go_num, HT2, HB2⟩ | ((repeat apply Exists.intro); exact ⟨⟨k + 1, by omega, by go_num, HT2, HB2⟩, rfl⟩)
               case measure => (show m - ((k : Int) + 1).toNat < m - k; omega))
        · have HI := Lib.hid (show inX ⟨f, t⟩ n g = (decide (f ≤ n) && decide (n ≤ t) || decide (t ≤ n) && decide (n ≤ f)) by rw [inX_eq]; simp [told, hf, ht])
          go_wp2_with fail
          go_quiet (fail)
          obtain ⟨w2, hw2⟩ : ∃ w2, w2 = wr.drewN nq := ⟨_, rfl⟩
          rw [← hw2]
          have HB2 := Lib.hid (show Below W.heap.size W w2 by rw [hw2]; exact codec.below_draws HB.out nq)
          clear hw2 c0 c1
          go_wp2_with fail
          all_goals first
            | (go_ret; exact ⟨by rw [HT.out, show inN ⟨f, t⟩ n g = true by (unfold inN; rw [HI.out]; simp only [Bool.and_eq_true, Bool.or_eq_true, decide_eq_true_eq]; omega)]; rfl, HB2.out⟩)
            | (have HT2 := Lib.hid (HT.out.trans (show (inN ⟨f, t⟩ n g || (xs.drop (k + 1)).any fun x => inN x n g) = (xs.drop (k + 1)).any fun x => inN x n g by (rw [show inN ⟨f, t⟩ n g = false by (rw [Bool.eq_false_iff]; intro h9; unfold inN at h9; rw [HI.out] at h9; simp only [Bool.and_eq_true, Bool.or_eq_true, decide_eq_true_eq] at h9; omega)]; rfl)))
               go_roundw
               case rel => first | exact ⟨k + 1, by omega, by go_num, HT2, HB2⟩ | ((repeat apply Exists.intro); exact ⟨⟨k + 1, by omega, by go_num, HT2, HB2⟩, rfl⟩)
               case measure => (show m - ((k : Int) + 1).toNat < m - k; omega))
    · obtain rfl : k = m := by omega
      have HF := Lib.hid (HA.out.trans (any_end (Nat.le_of_eq HR.out.1)))
      go_wp2
      go_ret
      exact ⟨by rw [HF.out]; rfl, HB.out⟩
/-- Parts of the call's own. -/
def OX (W : World) (xs : List X) (k : Nat) (v : Value) (w : World) : Prop := Own cX 2 W.heap.size 31 w v (xs.take k) ∧ Below W.heap.size W w
theorem infoX : (Try.prog.info? 31).map (fun i => (i.zero, i.size, i.bytes)) = some (some (.agg #[.int .u32 0, .int .u32 0]), 2, 8) := by kernel_rfl
theorem take_next {α : Type} {l : List α} {k : Nat} {x : α} (h : l[k]? = some x) : l.take (k + 1) = l.take k ++ [x] := by
  rw [List.take_add_one, h]
  rfl
set_option maxHeartbeats 1000000 in
theorem ours_any (W : World) (A : Option Addr) (m c : Nat) (xs : List X) (hR : Rd cX 2 W A m xs) (hm : m ≤ 1000000) :
    Calls Try.prog 11 #[.slice A m c] W fun e w' => ∃ B c', e = .returned (.slice B m c') ∧ Rd cX 2 w' B m xs ∧ Below W.heap.size W w' := by
  have HR := Lib.hid hR
  clear hR
  go_enter Try.func11, Try.ntmps11
  go_wp2
  go_loopw [3, 7] (fun v i wr => ∃ k : Nat, k ≤ m ∧ i = .int .i64 k ∧ Hid (OX W xs k v wr)) (fun _ i _ => m - (intOf i).toNat)
  case atStart => exact ⟨0, Nat.zero_le _, rfl, Lib.hid ⟨Own.nil _ _ _ _ _, Below.refl _ _⟩⟩
  case round =>
    obtain ⟨k, hk, rfl, HS⟩ := hrel
    by_cases hlt : k < m
    · obtain ⟨b, o, ⟨f, t⟩, rfl, hx, c0, c1⟩ := atX (HR.out.below HS.out.2) k hlt
      simp only at c0 c1
      have hlt' : (k : Int) < (m : Int) := by omega
      have HT := Lib.hid (take_next hx)
      have HL : Hid ((xs.take k).length ≤ 20000000) := Lib.hid (by rw [List.length_take]; omega)
      have HO := Lib.hid HS.out.1
      have HB := Lib.hid HS.out.2
      clear hx
      go_wp2_with (at_builtin; refine row.wpList_append_own fX (by decide) (by decide) (by_ := 8) (by decide) (z := .agg #[.int .u32 0, .int .u32 0]) rfl rfl (.tmp 10) (.tmp 15) 26 31 rfl Try.underlying26 infoX W.heap.size u3 _ rfl HO.out HB.out.size HL.out ⟨f, t⟩ (0, 0) _ (by simp) rfl _ rfl ?_; intro v1 w1 ho hg h3; have HS1 := Lib.hid (show OX W xs (k + 1) v1 w1 from ⟨by rw [HT.out]; exact ho, grown_below HB.out HO.out hg⟩); clear ho hg h3)
      go_roundw
      case rel => first | exact ⟨k + 1, by omega, by go_num, HS1⟩ | ((repeat apply Exists.intro); exact ⟨⟨k + 1, by omega, by go_num, HS1⟩, rfl⟩)
      case measure => (show m - ((k : Int) + 1).toNat < m - k; omega)
    · obtain rfl : k = m := by omega
      have HE : Hid (xs.take k = xs) := Lib.hid (List.take_of_length_le (by rw [HR.out.1]; omega))
      go_wp2
      go_ret
      obtain ⟨ho, hb⟩ := HS.out
      rw [HE.out] at ho
      obtain ⟨B, c', rfl, _, _, hR'⟩ := ho.rd fX
      rw [HR.out.1] at hR' ⊢
      exact ⟨B, c', rfl, hR', hb⟩
end Go.Proofs.Ytmooeadeihgbdaa.sq
