/- A page of which a bit is another one, or that is cut off, or goes on: plain mathematics, and the law walked. -/
import Derived.Test.YtgkaeabcedkgaaaPagF
namespace Go.Proofs.Ytgkaeabcedkgaaa.pg
open Go.ChangeShapes Go.WideShapes Go.ChangeAt Go.RowKit
open Go.Proofs.Ytgkaeabcedkgaaa.codec (Bytes vals vals_append vals_length vals_one OutIs More Made New bytesOf byteAt bytesOf_length bytesOf_lt Fits strOf)
open Go.Proofs.Ytgkaeabcedkgaaa.crc (crcOf crcOf_lt crc_prog crc_ref)
open Go.Proofs.Ytgkaeabcedkgaaa.two
open Go.Proofs.Ytgkaeabcedkgaaa.rd
set_option linter.unusedVariables false
set_option maxRecDepth 100000
set_option linter.unusedSimpArgs false

theorem page_take8 (k : Nat) (p : List Nat) : (pageL k p).take 8 = first k p.length := by
  unfold pageL body
  rw [List.append_assoc, List.take_append_of_le_length (by rw [first_length]; omega), List.take_of_length_le (by rw [first_length]; omega)]
theorem first_inj {k n m : Nat} (hn : n < 4294967296) (hm : m < 4294967296) (h : first k n = first k m) : n = m := by
  unfold first at h
  have h2 := List.append_cancel_left h
  have := congrArg codec.numOf h2
  rwa [codec.numOf_bytes _ 4 (by omega), codec.numOf_bytes _ 4 (by omega)] at this
/-- Bytes that begin as a page does have its length, if they are a page. -/
theorem same_length {k : Nat} {p l : List Nat} (hp : p.length < 4294967296) (hl : l.length < 4294967296) (h8 : l.take 8 = first k p.length) (h : IsPage k l) : l.length = (pageL k p).length := by
  obtain ⟨m, p', e, h1, h3, rfl⟩ := h
  obtain rfl : k = m := by omega
  rw [page_take8] at h8
  rw [pageL_length] at hl
  rw [pageL_length, pageL_length, first_inj (by omega) hp h8]
theorem cut_bad {k : Nat} {p : List Nat} {j : Nat} (hp : p.length < 4294967000) (hj : j < (pageL k p).length) : ¬ IsPage k ((pageL k p).take j) := by
  intro h
  have hlj : ((pageL k p).take j).length = j := by simp; omega
  obtain ⟨m, p', e, h1, h3, e2⟩ := id h
  have h12 := congrArg List.length e2
  rw [hlj, pageL_length] at h12
  have := same_length (p := p) (by omega) (by rw [hlj]; rw [pageL_length] at hj; omega) (by rw [List.take_take, show min 8 j = 8 by omega, page_take8]) h
  omega
theorem more_bad {k : Nat} {p : List Nat} {x : Nat} (hp : p.length < 4294967000) : ¬ IsPage k (pageL k p ++ [x]) := by
  intro h
  have := same_length (p := p) (by omega) (by simp [pageL_length]; omega) (by rw [List.take_append_of_le_length (by rw [pageL_length]; omega), page_take8]) h
  simp at this
theorem turned_bad {k : Nat} {p : List Nat} {i y : Nat} (hk : k < 256) (hpb : ∀ b ∈ p, b < 256) (hp : p.length < 4294967000) (hi : i < (pageL k p).length) (hy : y < 256) (hne : (pageL k p).getD i 0 ≠ y) : ¬ IsPage k ((pageL k p).set i y) := by
  rintro ⟨m, p', e, h1, h3, e2⟩
  obtain rfl : k = m := by omega
  have hlen := congrArg List.length e2
  rw [List.length_set, pageL_length, pageL_length] at hlen
  have hlp : p'.length = p.length := by omega
  have hbl : (body k p).length = (body k p').length := by rw [body_length, body_length]; omega
  have hp'b : ∀ b ∈ pageL k p', b < 256 := by
    rw [← e2]
    intro b hb
    rcases List.mem_or_eq_of_mem_set hb with h | rfl
    · exact pageL_lt hk hpb b h
    · exact hy
  have hb' : ∀ b ∈ body k p', b < 256 := fun b hb => hp'b b (by unfold pageL; simp [hb])
  by_cases hib : i < (body k p).length
  · have e3 : (pageL k p).set i y = (body k p).set i y ++ bytesOf (crcOf (body k p)) 4 := by
      unfold pageL
      rw [List.set_append_left _ _ hib]
    rw [e3] at e2
    unfold pageL at e2
    obtain ⟨e4, e5⟩ := List.append_inj e2 (by rw [List.length_set]; exact hbl)
    have hc := congrArg codec.numOf e5
    rw [codec.numOf_bytes _ 4 (crcOf_lt (body_lt hk hpb)), codec.numOf_bytes _ 4 (crcOf_lt hb')] at hc
    have hg : (body k p).getD i 0 ≠ y := by
      intro h
      apply hne
      unfold pageL
      rw [← h]
      simp [List.getD, List.getElem?_append_left hib]
    have := crcPlain.crc_set (body_lt hk hpb) hib hy hg
    rw [e4] at this
    exact this (crcPlain.crc_end_inj hc)
  · have hib' : (body k p).length ≤ i := by omega
    have e3 : (pageL k p).set i y = body k p ++ (bytesOf (crcOf (body k p)) 4).set (i - (body k p).length) y := by
      unfold pageL
      rw [List.set_append_right _ _ hib']
    have e6 := e2
    rw [e3] at e6
    unfold pageL at e6
    obtain ⟨e4, e5⟩ := List.append_inj e6 hbl
    have hpp : pageL k p' = pageL k p := by
      unfold pageL
      rw [← e4]
    rw [hpp] at e2
    have this : ((pageL k p).set i y).getD i 0 = (pageL k p).getD i 0 := congrArg (fun l => l.getD i 0) e2
    apply hne
    rw [← this]
    simp [List.getD, hi]
theorem pow_lt (bit : Nat) : 2 ^ (bit % 8) < 256 ∧ 0 < 2 ^ (bit % 8) := by
  have h : bit % 8 < 8 := Nat.mod_lt _ (by omega)
  generalize bit % 8 = k at *
  obtain rfl | rfl | rfl | rfl | rfl | rfl | rfl | rfl : k = 0 ∨ k = 1 ∨ k = 2 ∨ k = 3 ∨ k = 4 ∨ k = 5 ∨ k = 6 ∨ k = 7 := by omega
  all_goals decide
theorem flip_lt {x y bit : Nat} (hx : x < 256) (hy : y = x ^^^ 2 ^ (bit % 8)) : y < 256 := by
  rw [hy]
  exact Nat.xor_lt_two_pow (n := 8) hx (pow_lt bit).1
theorem flip_ne {x y bit : Nat} (hx : x < 256) (hy : y = x ^^^ 2 ^ (bit % 8)) : x ≠ y := by
  intro e
  have h : x ^^^ y = 2 ^ (bit % 8) := by rw [hy, ← Nat.xor_assoc, Nat.xor_self, Nat.zero_xor]
  rw [← e, Nat.xor_self] at h
  have := (pow_lt bit).2
  omega
theorem flip_i {x y bit : Nat} (hx : x < 256) (hy : y = x ^^^ 2 ^ (bit % 8)) : bits .xor .u8 (x : Int) (2 ^ (bit % 8) % 256) = (y : Int) := by
  have h := u8_xor_nat x (2 ^ (bit % 8)) hx (pow_lt bit).1
  have e : ((2 : Int) ^ (bit % 8) % 256) = ((2 ^ (bit % 8) : Nat) : Int) := by
    have := (pow_lt bit).1
    rw [Int.emod_eq_of_lt]
    · simp
    · exact Int.pow_nonneg (by omega)
    · have h2 : ((2 ^ (bit % 8) : Nat) : Int) < 256 := by omega
      simpa using h2
  rw [e, h, hy]
theorem flipped {w : World} {g n i y : Nat} {l : List Nat} (h : Bytes w (some ⟨g, 0, none⟩) n l) (hi : i < n) (hy : y < 256) : Bytes (w.setCell ⟨g, i, none⟩ (.int .u8 (y : Nat))) (some ⟨g, 0, none⟩) n (l.set i y) := by
  refine ⟨by rw [List.length_set]; exact h.1, fun b hb => ?_, fun hn => ⟨g, 0, rfl, fun j hj => ?_⟩⟩
  · rcases List.mem_or_eq_of_mem_set hb with hb | rfl
    · exact h.2.1 b hb
    · exact hy
  · obtain ⟨b', o', e, hc⟩ := h.2.2 hn
    cases e
    have hlj : j < l.length := by rw [h.1]; exact hj
    rw [Nat.zero_add]
    by_cases e : j = i
    · subst e
      have h0 := hc j hj
      rw [Nat.zero_add] at h0
      rw [World.cell?_setCell_same _ _ _ h0]
      simp [List.getD, hlj]
    · rw [World.cell?_setCell_other _ _ _ _ (fun h => by injection h; omega)]
      have h0 := hc j hj
      rw [Nat.zero_add] at h0
      rw [h0]
      have e' : i ≠ j := fun h => e h.symm
      simp [List.getD, e']
theorem Mine.thawed {W w : World} {g n cap : Nat} {M : List Nat} (h : Mine W (.slice (some ⟨g, 0, none⟩) n cap) M w) (i : Nat) : w.frozen? ⟨g, i, none⟩ = false := by
  rcases h.1.2 with ⟨e, _⟩ | ⟨g', cap', cur, e, hb, hgg, _⟩
  · cases e
  · cases e
    exact frozen_of_row _ _ _ _ _ hgg
theorem Bytes_at {w : World} {b o n : Nat} {l : List Nat} (h : Bytes w (some ⟨b, o, none⟩) n l) (i : Nat) (hi : i < n) :
    ∃ x : Nat, l.getD i 0 = x ∧ x < 256 ∧ w.cell? ⟨b, o + i, none⟩ = some (.int .u8 (x : Nat)) := by
  obtain ⟨b', o', e, hc⟩ := h.2.2 (by omega)
  cases e
  exact ⟨_, rfl, codec.getD_lt256 h.2.1 i, hc i hi⟩

set_option maxHeartbeats 1000000 in
theorem turned_walk (W : World) (kd n c at_ bit cut : Nat) (A : Option Addr) (p : List Nat) (hB : Bytes W A n p) (hn : n ≤ maxLen) (hc : n ≤ c) (hA : A = none → c = 0) (hkd : kd < 256) (hat : at_ < 65536) (hbit : bit < 256) (hcut : cut < 65536) :
    Calls Try.prog 5 #[.int .u8 kd, .slice A n c, .int .u16 at_, .int .u8 bit, .int .u16 cut] W fun e w' => e = .returned (.bool true) ∧ Below W.heap.size W w' := by
  unfold maxLen at hn
  have HB := Lib.hid hB
  have HN := Lib.hid hA
  have HW := Lib.hid (awake_any W)
  clear hB hA
  by_cases h4 : 10000 < n
  · go_enter Try.func5, Try.ntmps5
    go_wp2_with fail
    refine HW.out.mono ?_
    rintro e w1 ⟨rfl, hb⟩
    have HB1 := Lib.hid hb
    have HW1 := Lib.hid (awake_any w1)
    clear hb
    go_wp2_with fail
    refine HW1.out.mono ?_
    rintro e w2 ⟨rfl, hb⟩
    have HB2 := Lib.hid hb
    clear hb
    go_wp2_with fail
    go_ret
    exact ⟨rfl, HB1.out.trans (HB2.out.mono HB1.out.size)⟩
  · obtain ⟨k, hk⟩ : ∃ k, k = 1 + kd % 3 := ⟨_, rfl⟩
    have hk1 : 1 ≤ k := by omega
    have hk3 : k ≤ 3 := by omega
    have HK := Lib.hid (show ((1 : Int) + (kd : Int) % 3) = (k : Nat) by omega)
    obtain ⟨N, hN⟩ : ∃ N, N = (pageL k p).length := ⟨_, rfl⟩
    have hNn : N = 12 + n := by rw [hN, pageL_length, HB.out.1]
    have hN0 : 0 < N := by omega
    have hN1 : N ≤ 10012 := by omega
    have HNq := Lib.hid hN.symm
    have HPl := Lib.hid (show p.length < 4294967000 by have := HB.out.1; omega)
    have HLb := Lib.hid (pageL_lt (k := k) (p := p) (by omega) HB.out.2.1)
    have h5 : n ≤ 10000 := by omega
    obtain ⟨i, hi⟩ : ∃ i, i = at_ % N := ⟨_, rfl⟩
    have hiN : i < N := by rw [hi]; exact Nat.mod_lt _ hN0
    have hai : ((at_ : Int) % (N : Int)) = (i : Nat) := by rw [hi]; rfl
    obtain ⟨j, hj⟩ : ∃ j, j = cut % N := ⟨_, rfl⟩
    have hjN : j < N := by rw [hj]; exact Nat.mod_lt _ hN0
    have hcj : ((cut : Int) % (N : Int)) = (j : Nat) := by rw [hj]; rfl
    clear hk hNn hN hi hj
    go_enter Try.func5, Try.ntmps5
    go_wp2_with fail
    refine HW.out.mono ?_
    rintro e w1 ⟨rfl, hb⟩
    have HB1 := Lib.hid hb
    clear hb
    go_wp2_with fail
    rw [HK.out]
    refine (refPage_any w1 k n c A p hk1 hk3 (HB.out.below HB.out.lt HB1.out) (by omega) HN.out).mono ?_
    rintro e w2 ⟨v, rfl, hM⟩
    obtain ⟨g, cap, rfl, hcap, hg⟩ := hM.form N HNq.out hN0
    have HB2 := Lib.hid (HB1.out.trans (hM.2.mono HB1.out.size))
    have HBg := Lib.hid (hM.bytes HNq.out HLb.out)
    have HM0 := Lib.hid (show Mine w2 (.slice (some ⟨w2.heap.size, 0, none⟩) 0 0) [] (w2.alloc (.cells #[] 5)) from mine_lit w2 [] 0 rfl (by omega))
    clear hM hg
    go_wp2_with (at_builtin; refine codec.wpList_append_bytes rfl (.tmp 35) (.tmp 36) rfl w2.heap.size _ [] rfl HM0.out.1 HM0.out.2.size (some ⟨g, 0, none⟩) N cap (pageL k p) rfl (HBg.out.alloc _) (fun e => by cases e) (by simp; omega) ?_; intro v3 w3 ho hg _ _; have hM3 := HM0.out.more ho hg; rw [List.nil_append] at hM3; obtain ⟨g3, cap3, rfl, hc3, hg3⟩ := hM3.form N HNq.out hN0; have hB3 := hM3.bytes HNq.out HLb.out; obtain ⟨x, hx, hx2, hcx⟩ := Bytes_at hB3 i hiN; rw [Nat.zero_add] at hcx; have hfx := Mine.thawed hM3 i; have HX := Lib.hid hx; have HB3 := Lib.hid hB3; have HBe3 := Lib.hid hM3.2; clear hM3 ho hg hx hB3)
    obtain ⟨y, hy⟩ : ∃ y, y = x ^^^ 2 ^ (bit % 8) := ⟨_, rfl⟩
    have hyb := flip_lt hx2 hy
    have HYN := flip_ne hx2 hy
    rw [flip_i hx2 hy]
    have HB4 := Lib.hid (show Below w2.heap.size w2 (w3.setCell ⟨g3, i, none⟩ (.int .u8 (y : Nat))) from HBe3.out.setCell hg3 _)
    have HC4 := Lib.hid (flipped HB3.out hiN hyb)
    have HBad1 := Lib.hid (turned_bad (k := k) (p := p) (i := i) (y := y) (by omega) HB.out.2.1 HPl.out (by rw [HNq.out]; exact hiN) hyb (by rw [HX.out]; exact HYN))
    have HBad2 := Lib.hid (cut_bad (k := k) (p := p) (j := j) HPl.out (by rw [HNq.out]; exact hjN))
    have HBad3 := Lib.hid (more_bad (k := k) (p := p) (x := bit) HPl.out)
    clear hcx hfx hy HYN hx2 hyb HX HM0
    generalize w3.setCell ⟨g3, i, none⟩ (.int .u8 (y : Nat)) = w4 at *
    have HBg4 := Lib.hid (HBg.out.below HBg.out.lt HB4.out)
    refine (get_any w4 k N cap3 (some ⟨g3, 0, none⟩) _ HC4.out (by omega) hc3).mono ?_
    rintro e w5 ⟨hb5, ⟨hip, -⟩ | ⟨-, rfl⟩⟩
    · exact absurd hip HBad1.out
    have HB5 := Lib.hid (HB4.out.trans (hb5.mono HB4.out.size))
    have HBg5 := Lib.hid (HBg.out.below HBg.out.lt HB5.out)
    clear hb5
    go_wp2_with fail
    refine (get_any w5 k j cap (some ⟨g, 0, none⟩) _ (bytes_take HBg5.out j (by omega)) (by omega) (by omega)).mono ?_
    rintro e w6 ⟨hb6, ⟨hip, -⟩ | ⟨-, rfl⟩⟩
    · exact absurd hip HBad2.out
    have HB6 := Lib.hid (HB5.out.trans (hb6.mono HB5.out.size))
    have HBg6 := Lib.hid (HBg.out.below HBg.out.lt HB6.out)
    have HM6 := Lib.hid (show Mine w6 (.slice (some ⟨w6.heap.size, 0, none⟩) 0 0) [] (w6.alloc (.cells #[] 5)) from mine_lit w6 [] 0 rfl (by omega))
    clear hb6
    go_wp2_with (first
      | (at_builtin; refine codec.wpList_append_bytes rfl (.tmp 71) (.tmp 72) rfl w6.heap.size _ [] rfl HM6.out.1 HM6.out.2.size (some ⟨g, 0, none⟩) N cap (pageL k p) rfl (HBg6.out.alloc _) (fun e => by cases e) (by simp; omega) ?_; intro v7 w7 ho hg _ _; have hM7 := HM6.out.more ho hg; rw [List.nil_append] at hM7; have HM7 := Lib.hid (hM7.alloc (.cells #[.int .u8 bit] 5)); have HL7 := Lib.hid (lit_at w7 [bit] (by simpa using hbit) 5 (0, 0) rfl rfl); clear hM7 ho hg HM6)
      | (at_builtin; refine codec.wpList_append_bytes rfl (.tmp 73) (.tmp 75) rfl w6.heap.size _ (pageL k p) rfl HM7.out.1 HM7.out.2.size (some ⟨w7.heap.size, 0, none⟩) 1 1 [bit] rfl HL7.out (fun e => by cases e) (by rw [HNq.out]; omega) ?_; intro v8 w8 ho hg _ _; have hM8 := HM7.out.more ho hg; have HM8 := Lib.hid hM8; clear hM8 ho hg HM7))
    obtain ⟨g8, cap8, rfl, hc8, hg8⟩ := HM8.out.form (N + 1) (by simp [HNq.out]) (by omega)
    have HB8 := Lib.hid (HB6.out.trans (HM8.out.2.mono HB6.out.size))
    refine (get_any w8 k (N + 1) cap8 (some ⟨g8, 0, none⟩) _ (HM8.out.bytes (by simp [HNq.out]) (codec.all_lt HLb.out (by simpa using hbit))) (by omega) hc8).mono ?_
    rintro e w9 ⟨hb9, ⟨hip, -⟩ | ⟨-, rfl⟩⟩
    · exact absurd hip HBad3.out
    have HB9 := Lib.hid (HB2.out.trans ((HB8.out.trans (hb9.mono HB8.out.size)).mono HB2.out.size))
    clear hb9
    go_wp2_with fail
    go_ret
    exact ⟨rfl, HB9.out⟩
end Go.Proofs.Ytgkaeabcedkgaaa.pg
