/- How a page is read, and a tree is got. -/
import Derived.Test.YtklmbiekpilkhaaGreatDoorIdxD
namespace Go.Proofs.YtklmbiekpilkhaaGreatDoor.idx
open Go.ChangeShapes Go.WideShapes Go.ChangeAt Go.RowKit
open Go.Proofs.YtklmbiekpilkhaaGreatDoor.row
open Go.Proofs.YtklmbiekpilkhaaGreatDoor.codec (Bytes OutIs More Touch bytesOf bytesOf_length strOf numOf)
open Go.Proofs.YtklmbiekpilkhaaGreatDoor.bod (named nums txt nums_length nums_lt strOf_nums)
open Go.Proofs.YtklmbiekpilkhaaGreatDoor.rd (got rest rd_N rd_Text rd_Done rest_lt)
open Go.Proofs.YtklmbiekpilkhaaGreatDoor.pg (IsPage payL)
set_option linter.unusedVariables false
set_option maxRecDepth 100000
set_option linter.unusedSimpArgs false

theorem rd_base {W W1 w : World} {q g : Nat} {L : Option (List Nat)} (hb : Below W.heap.size W W1) (h : rd.Rd W1 q g L w) : rd.Rd W q g L w :=
  ⟨h.1, Nat.le_trans hb.size h.2.1, h.2.2.1, h.2.2.2.1, hb.trans (h.2.2.2.2.mono hb.size)⟩
theorem rd_Bad {W w : World} {q g : Nat} {L : Option (List Nat)} (h : rd.Rd W q g L w) :
    Calls Tryz.prog 19 #[.pointer (some ⟨q, 0, none⟩)] w fun e w' => e = .returned (.bool (decide (L = none))) ∧ w = w' := by
  cases L with
  | none =>
    obtain ⟨h0, h1, hlt⟩ := h.1.facts
    have hd : decide ((none : Option (List Nat)) = none) = true := by simp
    rw [hd]
    clear h
    go_enter Tryz.func19, Tryz.ntmps19
    go_wp2_with fail
    go_ret
    exact ⟨rfl, rfl⟩
  | some l =>
    obtain ⟨o, c, hi, hc⟩ := h.1
    obtain ⟨h0, h1, hf, hlt⟩ := hi.facts
    have hd : decide (some l = none) = false := by simp
    rw [hd]
    clear h hi
    go_enter Tryz.func19, Tryz.ntmps19
    go_wp2_with fail
    go_ret
    exact ⟨rfl, rfl⟩
/-- What comes of a page that is read. -/
def GetAns (W : World) (k : Int) (l : List Nat) (e : Ending) (w' : World) : Prop :=
  (IsPage k l ∧ ∃ q g, e = .returned (.tuple #[.pointer (some ⟨q, 0, none⟩), .int .i64 0]) ∧ rd.Rd W q g (some (payL l)) w') ∨ (¬ IsPage k l ∧ e = .returned (.tuple #[.pointer none, .int .i64 9]) ∧ Below W.heap.size W w')
set_option maxHeartbeats 1000000 in
theorem get_any (W : World) (k : Int) (n c : Nat) (A : Option Addr) (l : List Nat) (hB : Bytes W A n l) (hn : n ≤ 10000000) (hc : n ≤ c) :
    Calls Tryz.prog 16 #[.int .i64 k, .slice A n c] W fun e w' => GetAns W k l e w' := by
  have HG := Lib.hid (pg.get_any W k n c A l hB hn hc)
  have HN := Lib.hid hB.1
  have HL := Lib.hid hB.2.1
  clear hB
  go_enter Tryz.func16, Tryz.ntmps16
  go_wp2_with fail
  refine HG.out.mono ?_
  rintro e w1 ⟨hb, ⟨hip, g, m, hm, rfl, hg, hB1⟩ | ⟨hnp, rfl⟩⟩
  · have hml : m ≤ 10000000 := by
      obtain ⟨m', rfl, h1, h3, hp⟩ := pg.isPage_pay HL.out (by have := HN.out; omega) hip
      have := congrArg List.length hp
      rw [pg.pageL_length] at this
      have := HN.out
      omega
    have HB1 := Lib.hid hb
    have HI := Lib.hid hip
    have HR := Lib.hid (rd.rd_new w1 _ m m (payL l) hB1 hml)
    clear hb hip hm hB1 hg hml
    go_wp2_with fail
    refine HR.out.mono ?_
    rintro e w2 ⟨q, g2, rfl, hr⟩
    have HR2 := Lib.hid (rd_base HB1.out hr)
    clear hr
    go_wp2_with fail
    go_ret2
    exact Or.inl ⟨HI.out, q, g2, rfl, HR2.out⟩
  · have HB1 := Lib.hid hb
    have HI := Lib.hid hnp
    clear hb hnp
    go_wp2_with fail
    go_ret2
    exact Or.inr ⟨HI.out, rfl, HB1.out⟩
end Go.Proofs.YtklmbiekpilkhaaGreatDoor.idx
