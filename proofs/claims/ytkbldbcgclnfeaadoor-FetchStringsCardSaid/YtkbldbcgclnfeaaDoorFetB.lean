/- What is counted, and a string of an answer. -/
import Derived.Test.YtkbldbcgclnfeaaDoorFetC
import Derived.Test.YtkbldbcgclnfeaaDoorFetT
import Derived.Lib.AppendIntMem
namespace Go.Proofs.YtkbldbcgclnfeaaDoor.fet
open Go.ChangeShapes hiding strOf
open Go.WideShapes Go.ChangeAt Go.RowKit
open Go.Proofs.YtkbldbcgclnfeaaDoor.lx
set_option linter.unusedVariables false
set_option linter.unusedSimpArgs false
set_option maxRecDepth 100000

/-- What the library's decimal numeral asks of its own table. -/
def Tens (w : World) : Prop := Lib.TabBelow Tryd.prog w.heap.size w "internal/strconv.uint64pow10" .u64 Lib.pow10Tab
theorem itoa_any (w : World) (n : Nat) (hn : n ≤ 999999) (ht : Tens w) :
    Calls Tryd.prog 17 #[.int .i64 (n : Nat)] w fun e w' => e = .returned (.string (strOf (digs n))) ∧ Below w.heap.size w w' := by
  refine (Tryd.strconv_Itoa n (by omega) (by omega) w (Lib.TabBelow.here ht)).mono ?_
  rintro e w' ⟨rfl, k, os, rfl⟩
  refine ⟨?_, Lib.below_grow _ _ (Nat.le_refl _) _ _⟩
  rw [itoa_digs hn]
  rfl
set_option maxHeartbeats 2000000 in
theorem counted_any (W : World) (S : ByteArray) (l : List Nat) (hS : S = strOf l) (hn : l.length ≤ 100000) (ht : Tens W) :
    Calls Tryd.prog 11 #[.string S] W fun e w' => e = .returned (.string (strOf (cntL l))) ∧ Below W.heap.size W w' := by
  have hz : S.size = l.length := by rw [hS, strOf_size]
  have hd := (digs_len (n := l.length) (by omega)).2
  have HD := Lib.hid (itoa_any W l.length (by omega) ht)
  rw [← hz] at HD
  obtain ⟨D, hD⟩ : ∃ D, D = strOf (digs S.size) := ⟨_, rfl⟩
  rw [← hD] at HD
  rw [hz] at hD
  have r1 := cat_run [123] (digs l.length) (by simp; omega) ⟨#[123]⟩ D (strOf (123 :: digs l.length)) rfl hD rfl
  have r2 := cat_run (123 :: digs l.length) [125, 13, 10] (by simp; omega) (strOf (123 :: digs l.length)) ⟨#[125, 13, 10]⟩ (strOf (123 :: digs l.length ++ [125, 13, 10])) rfl rfl rfl
  have r3 := cat_run (123 :: digs l.length ++ [125, 13, 10]) l (by simp; omega) (strOf (123 :: digs l.length ++ [125, 13, 10])) S (strOf (cntL l)) rfl hS (by rw [counted_cat])
  generalize strOf (123 :: digs l.length) = P1 at *
  generalize strOf (123 :: digs l.length ++ [125, 13, 10]) = P2 at *
  generalize strOf (cntL l) = P3 at *
  clear hS hn hz hd hD ht
  go_enter Tryd.func11, Tryd.ntmps11
  go_wp2_with fail
  refine HD.out.mono ?_
  rintro e w1 ⟨rfl, hb⟩
  have HB := Lib.hid hb
  clear hb
  go_wp2_with fail
  go_ret
  exact ⟨rfl, HB.out⟩
set_option maxHeartbeats 2000000 in
/-- A string of an answer, as the program makes it. -/
theorem string_any (W : World) (S : ByteArray) (l : List Nat) (hS : S = strOf l) (hl : ∀ x ∈ l, x < 256) (hn : l.length ≤ 100000) (ht : Tens W) :
    Calls Tryd.prog 5 #[.string S] W fun e w' => e = .returned (.string (strOf (tellL l))) ∧ Below W.heap.size W w' := by
  have HF := Lib.hid (fits_any W S l hS hl (by omega))
  have HQ := Lib.hid (quoted_any W S l hS hl (by omega))
  have HC := Lib.hid (counted_any W S l hS hn ht)
  cases hp : plainL l with
  | true =>
    have HE := Lib.hid (show tellL l = quoL l by unfold tellL; rw [if_pos hp])
    rw [hp] at HF
    clear hS hl hn ht hp HC
    go_enter Tryd.func5, Tryd.ntmps5
    go_wp2_with fail
    refine HF.out.mono ?_
    rintro e w1 ⟨rfl, hw⟩
    replace hw := hw.symm
    subst hw
    go_wp2_with fail
    refine HQ.out.mono ?_
    rintro e w2 ⟨rfl, hb⟩
    have HB := Lib.hid hb
    clear hb
    go_wp2_with fail
    go_ret
    exact ⟨by rw [HE.out]; rfl, HB.out⟩
  | false =>
    have HE := Lib.hid (show tellL l = cntL l by unfold tellL; rw [if_neg (by rw [hp]; decide)])
    rw [hp] at HF
    clear hS hl hn ht hp HQ
    go_enter Tryd.func5, Tryd.ntmps5
    go_wp2_with fail
    refine HF.out.mono ?_
    rintro e w1 ⟨rfl, hw⟩
    replace hw := hw.symm
    subst hw
    go_wp2_with fail
    refine HC.out.mono ?_
    rintro e w2 ⟨rfl, hb⟩
    have HB := Lib.hid hb
    clear hb
    go_wp2_with fail
    go_ret
    exact ⟨by rw [HE.out]; rfl, HB.out⟩
theorem Tens.below {w w' : World} (h : Tens w) (hb : Below w.heap.size w w') : Tens w' := fun w2 h2 => h w2 (hb.trans (h2.mono hb.size))
set_option maxHeartbeats 2000000 in
theorem awake_any (W : World) (ht : Tens W) : Calls Tryd.prog 4 #[] W fun e w' => e = .returned (.bool true) ∧ Below W.heap.size W w' := by
  have hS := string_any W ⟨#[97, 34]⟩ [97, 34] rfl (by decide) (by decide) ht
  rw [show strOf (tellL [97, 34]) = ⟨#[34, 97, 92, 34, 34]⟩ by rfl] at hS
  have HS := Lib.hid hS
  clear hS ht
  go_enter Tryd.func4, Tryd.ntmps4
  go_wp2_with fail
  refine HS.out.mono ?_
  rintro e w1 ⟨rfl, hb⟩
  have HB := Lib.hid hb
  clear hb
  go_wp2_with fail
  refine (marks_one _ w1.heap.size 1 (by simp) (by simp)).mono ?_
  rintro e w2 ⟨rfl, hb⟩
  have HB2 := Lib.hid (show Below W.heap.size W w2 from (HB.out.alloc HB.out.size _).trans (hb.mono (by have := HB.out.size; simp; omega)))
  clear hb
  go_wp2_with fail
  go_ret
  exact ⟨rfl, HB2.out⟩
end Go.Proofs.YtkbldbcgclnfeaaDoor.fet
