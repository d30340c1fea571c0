/- What reading a page answers, walked. -/
import Derived.Test.YtklmbiekpilkhaaGreatDoorPagB
namespace Go.Proofs.YtklmbiekpilkhaaGreatDoor.pg
open Go.ChangeShapes Go.WideShapes Go.ChangeAt Go.RowKit
open Go.Proofs.YtklmbiekpilkhaaGreatDoor.codec (Bytes vals vals_append vals_length vals_one OutIs More Made New bytesOf byteAt bytesOf_length bytesOf_lt Fits strOf)
open Go.Proofs.YtklmbiekpilkhaaGreatDoor.crc (crcOf crcOf_lt crc_prog crc_ref)
open Go.Proofs.YtklmbiekpilkhaaGreatDoor.two
open Go.Proofs.YtklmbiekpilkhaaGreatDoor.rd
set_option linter.unusedVariables false
set_option maxRecDepth 100000
set_option linter.unusedSimpArgs false

/-- The answer of Get. -/
def GotPage (W : World) (k : Int) (l : List Nat) (e : Ending) (w' : World) : Prop :=
  Below W.heap.size W w' ∧ ((IsPage k l ∧ ∃ g m, m = (payL l).length ∧ e = .returned (.tuple #[.slice (some ⟨g, 0, none⟩) m m, .int .i64 0]) ∧ W.heap.size ≤ g ∧ Bytes w' (some ⟨g, 0, none⟩) m (payL l)) ∨
    (¬ IsPage k l ∧ e = .returned (.tuple #[.slice none 0 0, .int .i64 9])))
set_option maxHeartbeats 2000000 in
theorem get_any (W : World) (k : Int) (n c : Nat) (A : Option Addr) (l : List Nat) (hB : Bytes W A n l) (hn : n ≤ 10000000) (hc : n ≤ c) :
    Calls Tryz.prog 37 #[.int .i64 k, .slice A n c] W fun e w' => GotPage W k l e w' := by
  have hl := hB.2.1
  have hlen := hB.1
  have hiff := isPage_iff (k := k) hl (by omega)
  obtain ⟨T, hT⟩ : ∃ T, T = strOf (got 3 (some l)) := ⟨_, rfl⟩
  obtain ⟨b, hb⟩ : ∃ b, b = decide (got 3 (some l) = [112, 97, 103]) := ⟨_, rfl⟩
  have hg3 : ∀ x ∈ got 3 (some l), x < 256 := by
    intro x hx
    simp only [got] at hx
    split at hx
    · exact hl x (List.mem_of_mem_take hx)
    · simp at hx
  have heq : (T.toList == (⟨#[112, 97, 103]⟩ : ByteArray).data.toList) = b := by
    by_cases h : got 3 (some l) = [112, 97, 103]
    · rw [hb, hT, h, ByteArray.toList_eq]
      decide
    · rw [hb, decide_eq_false h]
      exact str_ne (fun e => h (codec.strOf_inj hg3 (by decide) (hT.symm.trans e)))
  have HB := Lib.hid hB
  have HI := Lib.hid hiff
  have HTq := Lib.hid hT
  have Hb := Lib.hid hb
  have HL := Lib.hid hl
  have Hlen := Lib.hid hlen
  clear hB hiff hT hb hg3 hl hlen
  have hm1 : ∀ m, some l = some m → ∀ b ∈ m, b < 256 := fun m h => by cases h; exact HL.out
  have HL1 := Lib.hid (rest_lt 3 hm1)
  have HL2 := Lib.hid (rest_lt 1 HL1.out)
  have HL3 := Lib.hid (rest_lt 4 HL2.out)
  have HL4 := Lib.hid (rest_lt (told l) HL3.out)
  go_enter Tryz.func37, Tryz.ntmps37
  go_wp2_with fail
  refine (rd_new W A n c l HB.out hn).mono ?_
  rintro e w1 ⟨q, g, rfl, hR⟩
  have HR1 := Lib.hid hR
  have H3 := Lib.hid (rd_Raw hR 3 hm1)
  clear hR hm1
  go_wp2_with fail
  refine H3.out.mono ?_
  rintro e w2 ⟨g2, m2, hm2, rfl, hg2, hB2, hR2, -⟩
  have c1 : (convert 22 9 (.slice (some ⟨g2, 0, none⟩) m2 m2)).run Tryz.prog w2 = .ok (.string T) w2 := by rw [HTq.out]; exact hB2.text m2
  have HR2 := Lib.hid hR2
  clear hm2 hB2 hR2 HR1 H3 hg2
  go_wp2_with fail
  clear c1
  refine (rd_N HR2.out 1 (by omega) (by omega)).mono ?_
  rintro e w3 ⟨rfl, hR3, -⟩
  have HR3 := Lib.hid hR3
  obtain ⟨kd, hkd⟩ : ∃ kd, kd = codec.numOf (got 1 (rest 3 (some l))) := ⟨_, rfl⟩
  rw [← hkd]
  have Hkd := Lib.hid hkd
  clear hR3 HR2 hkd
  go_wp2_with fail
  refine (rd_N HR3.out 4 (by omega) (by omega)).mono ?_
  rintro e w4 ⟨rfl, hR4, -⟩
  have HR4 := Lib.hid hR4
  obtain ⟨ln, hln⟩ : ∃ ln, ln = told l := ⟨_, rfl⟩
  rw [show codec.numOf (got 4 (rest 1 (rest 3 (some l)))) = ln from hln.symm]
  have Hln := Lib.hid hln
  clear hR4 HR3 hln
  go_wp2_with fail
  refine (rd_Raw HR4.out ln HL3.out).mono ?_
  rintro e w5 ⟨g5, m5, hm5, rfl, hg5, hB5, hR5, -⟩
  have HR5 := Lib.hid hR5
  have HB5 := Lib.hid hB5
  have Hm5 := Lib.hid hm5
  have HG5 := Lib.hid (show W.heap.size ≤ g5 from Nat.le_trans HR4.out.bel.size hg5)
  clear hR5 HR4 hm5 hB5 hg5
  go_wp2_with fail
  refine (rd_N HR5.out 4 (by omega) (by omega)).mono ?_
  rintro e w6 ⟨rfl, hR6, ht6⟩
  have HR6 := Lib.hid hR6
  have HB6 := Lib.hid (keep HR5.out HB5.out ht6)
  obtain ⟨cr, hcr⟩ : ∃ cr, cr = codec.numOf (got 4 (rest ln (rest 4 (rest 1 (rest 3 (some l)))))) := ⟨_, rfl⟩
  have hcr4 : cr < 4294967296 := by rw [hcr]; exact num4_lt HL.out 4 _ (by rw [Hln.out]; exact HL4.out)
  rw [← hcr]
  have Hcr := Lib.hid hcr
  clear hR6 HR5 ht6 hcr HB5
  have HF : Hid (Formed k l ↔ b = true ∧ (1 ≤ k ∧ k ≤ 3) ∧ ((kd : Nat) : Int) = k ∧ rest 4 (rest ln (rest 4 (rest 1 (rest 3 (some l))))) = some []) := by
    show _ ↔ _
    rw [Hb.out, Hkd.out, Hln.out, decide_eq_true_eq]
    exact Iff.rfl
  obtain ⟨L6, hL6⟩ : ∃ L6, L6 = rest 4 (rest ln (rest 4 (rest 1 (rest 3 (some l))))) := ⟨_, rfl⟩
  rw [← hL6] at HF HR6
  have hbad : ¬ Formed k l → ∀ w', Below W.heap.size W w' → GotPage W k l (.returned (.tuple #[.slice none 0 0, .int .i64 9])) w' := fun h w' hb => ⟨hb, .inr ⟨fun hp => h (HI.out.1 hp).1, rfl⟩⟩
  have HBad := Lib.hid hbad
  clear hbad HTq Hkd Hb hL6
  by_cases hb : b = true
  · subst hb
    by_cases hk : 1 ≤ k ∧ k ≤ 3
    · obtain ⟨m, rfl⟩ := Int.eq_ofNat_of_zero_le (show 0 ≤ k by omega)
      have hd : decide ((1 : Int) ≤ (m : Nat) ∧ ((m : Nat) : Int) ≤ 3) = true := by simpa using hk
      by_cases hkm : kd = m
      · subst hkm
        by_cases hL : L6 = some []
        · have hdL : decide (L6 = some []) = true := by simpa using hL
          have hF := HF.out.2 ⟨rfl, hk, rfl, hL⟩
          obtain ⟨m', hmm, h1, h3, h12, h5, h6, h7⟩ := formed_is HL.out hF
          have hlen := Hlen.out
          rw [hlen] at h12 h5 h6
          obtain ⟨bb, oo, rfl, -⟩ := HB.out.2.2 (by omega)
          have HBt := Lib.hid (bytes_take (HB.out.below HB.out.lt HR6.out.bel) (n - 4) (by omega))
          have hcl : crcOf (l.take (n - 4)) < 4294967296 := crcOf_lt (fun x hx => HL.out x (List.mem_of_mem_take hx))
          have HC := Lib.hid (fun c' => crc_prog (some ⟨bb, oo, none⟩) (n - 4) c' _ w6 HBt.out (by unfold maxLen; omega))
          have HIs : Hid (IsPage (kd : Nat) l ↔ cr = crcOf (l.take (n - 4))) := by
            have := HI.out
            show _ ↔ _
            rw [Hcr.out, Hln.out]
            rw [hlen] at this
            exact this.trans ⟨fun h => h.2, fun h => ⟨hF, h⟩⟩
          have HF := Lib.hid hF
          have HP : Hid (got ln (rest 4 (rest 1 (rest 3 (some l)))) = payL l) := by rw [Hln.out]; exact rfl
          clear hF hmm h1 h3 h5 h6 h7 hlen
          generalize hCC : crcOf (l.take (n - 4)) = C at *
          clear hCC
          by_cases hcc : cr = C
          · subst hcc
            have HI1 := Lib.hid (HIs.out.2 rfl)
            go_wp2_with (first | (go_at_call 65; refine (isKind_any _ _).mono ?_; rw [hd]; rintro e w7 ⟨rfl, rfl⟩) | (go_at_call 20; refine (rd_Done HR6.out).mono ?_; rw [hdL]; rintro e w7 ⟨rfl, rfl⟩) | (go_at_call 66; refine (HC.out _).mono ?_; rintro e w7 ⟨rfl, rfl⟩))
            go_ret2
            have hB6 := HB6.out
            have hm5 := Hm5.out
            rw [HP.out] at hB6 hm5
            exact ⟨HR6.out.bel, .inl ⟨HI1.out, g5, m5, hm5, rfl, HG5.out, hB6⟩⟩
          · have HI1 := Lib.hid (show ¬ IsPage (kd : Nat) l from fun h => hcc (HIs.out.1 h))
            go_wp2_with (first | (go_at_call 65; refine (isKind_any _ _).mono ?_; rw [hd]; rintro e w7 ⟨rfl, rfl⟩) | (go_at_call 20; refine (rd_Done HR6.out).mono ?_; rw [hdL]; rintro e w7 ⟨rfl, rfl⟩) | (go_at_call 66; refine (HC.out _).mono ?_; rintro e w7 ⟨rfl, rfl⟩))
            go_ret2
            exact ⟨HR6.out.bel, .inr ⟨HI1.out, rfl⟩⟩
        · have hdL : decide (L6 = some []) = false := by simpa using hL
          have HF' := Lib.hid (show ¬ Formed (kd : Nat) l from fun h => hL (HF.out.1 h).2.2.2)
          go_wp2_with (first | (go_at_call 65; refine (isKind_any _ _).mono ?_; rw [hd]; rintro e w7 ⟨rfl, rfl⟩) | (go_at_call 20; refine (rd_Done HR6.out).mono ?_; rw [hdL]; rintro e w7 ⟨rfl, rfl⟩))
          go_ret2
          exact HBad.out HF'.out _ HR6.out.bel
      · have HF' := Lib.hid (show ¬ Formed (m : Nat) l from fun h => hkm (by have := (HF.out.1 h).2.2.1; omega))
        go_wp2_with (first | (go_at_call 65; refine (isKind_any _ _).mono ?_; rw [hd]; rintro e w7 ⟨rfl, rfl⟩))
        go_ret2
        exact HBad.out HF'.out _ HR6.out.bel
    · have hd : decide (1 ≤ k ∧ k ≤ 3) = false := by simpa using hk
      have HF' := Lib.hid (show ¬ Formed k l from fun h => hk (HF.out.1 h).2.1)
      clear hk
      go_wp2_with (first | (go_at_call 65; refine (isKind_any _ _).mono ?_; rw [hd]; rintro e w7 ⟨rfl, rfl⟩))
      go_ret2
      exact HBad.out HF'.out _ HR6.out.bel
  · have hb' : b = false := by simpa using hb
    subst hb'
    have HF' := Lib.hid (show ¬ Formed k l from fun h => hb (HF.out.1 h).1)
    go_wp2_with fail
    go_ret2
    exact HBad.out HF'.out _ HR6.out.bel
end Go.Proofs.YtklmbiekpilkhaaGreatDoor.pg
