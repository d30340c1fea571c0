/- What the document says of a page; what a program that does nothing answers wrongly. -/
import Derived.Test.YtklmbiekpilkhaaDoorPagC
import Derived.Deep.RegionWith
namespace Go.Proofs.YtklmbiekpilkhaaDoor.pg
open Go.ChangeShapes Go.WideShapes Go.ChangeAt Go.RowKit
open Go.Proofs.YtklmbiekpilkhaaDoor.codec (Bytes vals vals_append vals_length vals_one OutIs More Made New bytesOf byteAt bytesOf_length bytesOf_lt Fits strOf)
open Go.Proofs.YtklmbiekpilkhaaDoor.crc (crcOf crcOf_lt crc_prog crc_ref)
open Go.Proofs.YtklmbiekpilkhaaDoor.two
open Go.Proofs.YtklmbiekpilkhaaDoor.rd
set_option linter.unusedVariables false
set_option maxRecDepth 100000
set_option linter.unusedSimpArgs false

set_option maxHeartbeats 2000000 in
theorem refPage_any (W : World) (k n c : Nat) (A : Option Addr) (p : List Nat) (h1 : 1 ≤ k) (h3 : k ≤ 3) (hB : Bytes W A n p) (hn : n ≤ 10000000) (hA : A = none → c = 0) :
    Calls Tryd.prog 9 #[.int .i64 k, .slice A n c] W fun e w' => ∃ v, e = .returned v ∧ Mine W v (pageL k p) w' := by
  have HB := Lib.hid hB
  have HN := Lib.hid hA
  have HM := Lib.hid (mine_lit W [112, 97, 103, k] 4 rfl (by omega))
  clear hB hA
  have HF : Hid ([112, 97, 103, k] ++ bytesOf n 4 = first k p.length) := by
    have := HB.out.1
    show _ = _
    rw [this]
    rfl
  obtain ⟨m, hm⟩ : ∃ m, m = 8 + n := ⟨_, rfl⟩
  have HBL := Lib.hid (show (body k p).length = m by rw [body_length, HB.out.1]; omega)
  have hm1 : m ≤ 10000008 := by omega
  have hm0 : 0 < m := by omega
  clear hm
  go_enter Tryd.func9, Tryd.ntmps9
  go_wp2_with fail
  refine (refBytes_at _ n 4 (by omega) (by omega) (by omega)).mono ?_
  rintro e w1 ⟨g1, rfl, hB1, hb1⟩
  have HM1 := Lib.hid (HM.out.below hb1)
  have HB1 := Lib.hid hB1
  clear hb1 hB1 HM
  go_wp2_with (first
    | (at_builtin; refine codec.wpList_append_bytes rfl (.tmp 8) (.tmp 12) rfl W.heap.size _ [112, 97, 103, k] rfl HM1.out.1 HM1.out.2.size (some ⟨g1, 0, none⟩) 4 4 (bytesOf n 4) rfl HB1.out (fun e => by cases e) (by simp) ?_; intro v2 w2 ho hg _ _; have hM2 := HM1.out.more ho hg; rw [HF.out] at hM2; have HM2 := Lib.hid hM2; clear ho hg hM2 HM1)
    | (at_builtin; refine codec.wpList_append_bytes rfl (.tmp 14) (.tmp 15) rfl W.heap.size _ (first k p.length) rfl HM2.out.1 HM2.out.2.size A n c p rfl (HB.out.below HB.out.lt HM2.out.2) HN.out (by rw [first_length]; omega) ?_; intro v3 w3 ho hg _ _; have hM3 : Mine W v3 (body k p) w3 := HM2.out.more ho hg; obtain ⟨g3, cap3, rfl, hc3, -⟩ := hM3.form m HBL.out hm0; have HM3 := Lib.hid hM3; have HC := Lib.hid (crc_ref (some ⟨g3, 0, none⟩) m cap3 _ w3 (HM3.out.bytes HBL.out (body_lt (by omega) HB.out.2.1)) (by unfold maxLen; omega)); clear ho hg hM3 HM2))
  have hcl := crcOf_lt (l := body k p) (body_lt (by omega) HB.out.2.1)
  generalize hCe : crcOf (body k p) = C at *
  have HCe := Lib.hid hCe
  clear hCe
  refine HC.out.mono ?_
  rintro e w4 ⟨rfl, rfl⟩
  go_wp2_with fail
  refine (refBytes_at _ C 4 (by omega) (by omega) (by omega)).mono ?_
  rintro e w5 ⟨g5, rfl, hB5, hb5⟩
  have HM5 := Lib.hid (HM3.out.below hb5)
  have HB5 := Lib.hid hB5
  clear hb5 hB5 HM3 HC
  go_wp2_with (first
    | (at_builtin; refine codec.wpList_append_bytes rfl (.tmp 17) (.tmp 21) rfl W.heap.size _ (body k p) rfl HM5.out.1 HM5.out.2.size (some ⟨g5, 0, none⟩) 4 4 (bytesOf C 4) rfl HB5.out (fun e => by cases e) (by rw [HBL.out]; omega) ?_; intro v6 w6 ho hg _ _; have HM6 := Lib.hid (HM5.out.more ho hg); clear ho hg HM5))
  go_ret
  refine ⟨v6, rfl, ?_⟩
  have := HM6.out
  rw [← HCe.out] at this
  unfold pageL
  exact this
end Go.Proofs.YtklmbiekpilkhaaDoor.pg
