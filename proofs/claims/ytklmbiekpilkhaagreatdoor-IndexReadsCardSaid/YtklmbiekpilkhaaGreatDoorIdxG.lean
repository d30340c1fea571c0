/- Awake. -/
import Derived.Test.YtklmbiekpilkhaaGreatDoorIdxF
namespace Go.Proofs.YtklmbiekpilkhaaGreatDoor.idx
open Go.ChangeShapes Go.WideShapes Go.ChangeAt Go.RowKit
open Go.Proofs.YtklmbiekpilkhaaGreatDoor.row
open Go.Proofs.YtklmbiekpilkhaaGreatDoor.codec (Bytes OutIs More bytesOf bytesOf_length strOf numOf)
open Go.Proofs.YtklmbiekpilkhaaGreatDoor.pg (IsPage payL)
set_option linter.unusedVariables false
set_option maxRecDepth 100000
set_option linter.unusedSimpArgs false

theorem page_long {k : Int} {l : List Nat} (h : IsPage k l) : 12 ≤ l.length := by
  obtain ⟨m, p, -, -, -, rfl⟩ := h
  rw [pg.pageL_length]
  omega
theorem tree_inbox : treeB [⟨1, nam.INBOX⟩] = true := by decide
theorem rd_one (w : World) (m : Int) (s : ByteArray) (t : TypeId) : Rd cP 2 (w.alloc (.cells #[.int .i64 m, .string s] t)) (some ⟨w.heap.size, 0, none⟩) 1 [⟨m, s⟩] := by
  refine ⟨rfl, fun k hk => ?_⟩
  obtain rfl : k = 0 := by omega
  refine ⟨_, 0, ⟨m, s⟩, rfl, rfl, fun j v hv => ?_⟩
  simp only [Nat.zero_mul, Nat.zero_add]
  rw [World.cell?_alloc_mark]
  simpa [cP] using hv
set_option maxHeartbeats 1000000 in
theorem awake_any (W : World) (hr : nam.Room W) :
    Calls Tryz.prog 5 #[] W fun e w' => e = .returned (.bool true) ∧ Below W.heap.size W w' := by
  have hG := getTree_any W 0 0 none [] (codec.empty_bytes W) (by omega) (Nat.le_refl _) hr
  have HG := Lib.hid hG
  have HP := Lib.hid (fun (w : World) (hb : Below W.heap.size W w) => putTree_good (w.alloc (.cells #[.int .i64 1, .string nam.INBOX] 68)) (some ⟨w.heap.size, 0, none⟩) 1 1 _ (rd_one w 1 nam.INBOX _) (by omega) (hr.below (hb.alloc hb.size _)) tree_inbox)
  clear hG hr
  go_enter Tryz.func5, Tryz.ntmps5
  go_wp2_with fail
  refine HG.out.mono ?_
  rintro e w1 ⟨(⟨v, xs, hip, -⟩ | ⟨-, rfl⟩), hb⟩
  · exact absurd (page_long hip) (by simp)
  · have HB1 := Lib.hid hb
    clear hb
    go_wp2_with fail
    refine (HP.out w1 HB1.out).mono ?_
    rintro e w2 ⟨g, m, rfl, hm, hg, -, hb⟩
    have HB2 := Lib.hid hb
    have hm0 : decide (0 < m) = true := by rw [decide_eq_true_iff]; omega
    clear hb hm hg
    go_wp2_with fail
    go_ret
    exact ⟨rfl, (HB1.out.alloc HB1.out.size _).trans (HB2.out.mono (by have := HB1.out.size; simp; omega))⟩
end Go.Proofs.YtklmbiekpilkhaaGreatDoor.idx
