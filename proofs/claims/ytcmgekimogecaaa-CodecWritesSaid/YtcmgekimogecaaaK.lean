/- What is put has the bytes that the document says, and is got back, or is spoilt. -/
import Derived.Test.YtcmgekimogecaaaJ
namespace Go.Proofs.Ytcmgekimogecaaa.codec
open Go.ChangeShapes Go.WideShapes Go.ChangeAt Go.RowKit
set_option linter.unusedVariables false
set_option linter.unusedSimpArgs false

theorem write_start {w w1 : World} (L : List Item) (hb : Below w.heap.size w w1) : WriteSt w w1.heap.size L 0 false (.slice none 0 0) (w1.alloc (.cells #[.pointer none, .int .i64 0, .bool false] 27)) :=
  ⟨[], [w1.heap.size], hb.alloc hb.size _, hb.size, World.ownsRow_nil _ _ _ _, by simp, (fun g e => by cases e), by simpa using hb.size, by simp, by simp, .inr ⟨rfl, fresh_new w1⟩, by simp, fun _ => ⟨by simp [encAll], by simp⟩⟩

/-- How far was read back. -/
def BackSt (w : World) (q g : Nat) (L : List Item) (k : Nat) (wr : World) : Prop := Below w.heap.size w wr ∧ w.heap.size ≤ q ∧ q < wr.heap.size ∧ g < wr.heap.size ∧ ∃ o c, InIs wr q g o c (encAll (L.drop k)) ∧ c ≤ 10000000
theorem back_next {w : World} {q g : Nat} {L : List Item} {k c : Nat} {wr w0 w4 : World} (hb : Below w.heap.size w wr) (hq : w.heap.size ≤ q) (hql : q < wr.heap.size) (hg : g < wr.heap.size) (h0 : Below wr.heap.size wr w0) (hc : c ≤ 10000000) (h : Went w0 q g c (encAll (L.drop (k + 1))) w4) : BackSt w q g L (k + 1) w4 := by
  obtain ⟨o', c', h1, h2, h3⟩ := h
  have hs := h0.size
  have hs2 := h2.2.2.2.1
  exact ⟨(hb.trans (h0.mono hb.size)).trans (h2.toBelow _ (Nat.le_trans hb.size hs) (fun i hi => by omega)), hq, by omega, by omega, o', c', h1, by omega⟩
theorem back_N {w0 : World} {q g o c : Nat} {rest : List Nat} {V S : Int} (h : InIs w0 q g o c (bytesOf V.toNat S.toNat ++ rest)) (hf : Fits V S) (hc : c ≤ 10000000) :
    Calls Try.prog 15 #[.pointer (some ⟨q, 0, none⟩), .int .i64 S] w0 fun e w' => e = .returned (.int .i64 V) ∧ Went w0 q g c rest w' := by
  obtain ⟨f1, f2, f3, f4⟩ := hf
  obtain ⟨s, rfl⟩ := Int.eq_ofNat_of_zero_le (show 0 ≤ S by omega)
  obtain ⟨u, rfl⟩ := Int.eq_ofNat_of_zero_le f3
  have hu : u < 256 ^ s := by
    have : ((u : Nat) : Int) < ((256 ^ s : Nat) : Int) := by simpa using f4
    exact_mod_cast this
  rw [Int.toNat_natCast, Int.toNat_natCast] at h
  have h15 := inN_good w0 q g o c s _ h (by omega) (by omega) (by simp [bytesOf]; omega) hc
  rw [Int.toNat_natCast, List.take_append_of_le_length (by simp [bytesOf]), List.take_of_length_le (by simp [bytesOf]), numOf_bytes u s hu, List.drop_append_of_le_length (by simp [bytesOf]), List.drop_eq_nil_of_le (by simp [bytesOf]), List.nil_append] at h15
  exact h15
theorem back_Raw {w0 : World} {q g o c n : Nat} {l rest : List Nat} (h : InIs w0 q g o c (l ++ rest)) (hg : g < w0.heap.size) (hn : l.length = n) (hc : c ≤ 10000000) :
    Calls Try.prog 17 #[.pointer (some ⟨q, 0, none⟩), .int .i64 (n : Nat)] w0 fun e w' => (∃ g', e = .returned (.slice (some ⟨g', 0, none⟩) n n) ∧ Bytes w' (some ⟨g', 0, none⟩) n l) ∧ Went w0 q g c rest w' := by
  subst hn
  have h17 := inRaw_good w0 q g o c (l.length : Nat) _ h hg (by omega) (by simp; omega) hc
  rw [Int.toNat_natCast, List.take_append_of_le_length (Nat.le_refl _), List.take_of_length_le (Nat.le_refl _), List.drop_append_of_le_length (Nat.le_refl _), List.drop_eq_nil_of_le (Nat.le_refl _), List.nil_append] at h17
  exact h17
theorem went_cells {w0 w6 : World} {q g ci X : Nat} {l : List Nat} {a b c d : Value} (h : Went w0 q g ci l w6) (hx : w0.heap[X]? = some (.cells #[a, b, c, d] 30 (0, 0))) (hq : q < X) :
    w6.cell? ⟨X, 0, none⟩ = some a ∧ w6.cell? ⟨X, 1, none⟩ = some b ∧ w6.cell? ⟨X, 2, none⟩ = some c ∧ w6.cell? ⟨X, 3, none⟩ = some d := by
  obtain ⟨o', c', h1, h2, h3⟩ := h
  have hX : X < w0.heap.size := (Array.getElem?_eq_some_iff.1 hx).1
  have h4 := (h2.2.2.2.2 X hX (by omega)).trans hx
  exact ⟨by simp [World.cell?, h4], by simp [World.cell?, h4], by simp [World.cell?, h4], by simp [World.cell?, h4]⟩
theorem u64_pow {n : Nat} (h7 : n ≤ 7) : IntKind.u64.wrap (2 ^ (8 * n)) = ((2 ^ (8 * n) : Nat) : Int) := by
  have h := pow_le7 h7
  have e : ((2 : Int) ^ (8 * n)) = ((2 ^ (8 * n) : Nat) : Int) := by simp
  rw [e]
  generalize 2 ^ (8 * n) = m at *
  rw [IntKind.wrap_u64]
  omega
theorem u64_fits {u n : Nat} (h7 : n ≤ 7) (hu : u < 256 ^ n) : decide (IntKind.u64.wrap (2 ^ (8 * n)) ≤ (u : Int)) = false := by
  rw [u64_pow h7, decide_eq_false_iff_not]
  rw [p256] at hu
  have : ((u : Nat) : Int) < ((2 ^ (8 * n) : Nat) : Int) := by exact_mod_cast hu
  omega
theorem u64_not {u n : Nat} (h7 : n ≤ 7) (hu : ¬ u < 256 ^ n) : decide (IntKind.u64.wrap (2 ^ (8 * n)) ≤ (u : Int)) = true := by
  rw [u64_pow h7, decide_eq_true_eq]
  rw [p256] at hu
  have : ((2 ^ (8 * n) : Nat) : Int) ≤ ((u : Nat) : Int) := by exact_mod_cast (Nat.le_of_not_lt hu)
  omega

set_option maxRecDepth 100000 in
set_option maxHeartbeats 4000000 in
theorem writes_walk (w : World) (A1 : Option Addr) (n1 c1 : Nat) (L : List Item) (hI : Items w A1 n1 L) (hs : ∀ x ∈ L, x.len ≤ 140737488355328) :
    Calls Try.prog 3 #[.slice A1 n1 c1] w fun e w' => e = .returned (.bool true) ∧ Below w.heap.size w w' := by
  have hn1 := hI.2.1
  unfold maxLen at hn1
  have HI := Lib.hid hI
  have HSz := Lib.hid hs
  clear hI hs
  go_enter Try.func3, Try.ntmps3
  go_wp2_with fail
  refine (awake_any w).mono ?_
  rintro e w1 ⟨rfl, hb1⟩
  have HI1 := Lib.hid (show Items w1 A1 n1 L from ⟨HI.out.1, HI.out.2.1, fun h => by obtain ⟨b, o, e, hc⟩ := HI.out.2.2 h; exact ⟨b, o, e, fun i hi => (hc i hi).below (Nat.le_refl _) hb1⟩⟩)
  have HBl := Lib.hid hb1
  clear hb1
  go_wp2_with fail
  refine (few_exact _ _ _ _ L HI1.out HSz.out).mono ?_
  rintro e w2 ⟨rfl, rfl⟩
  by_cases hgo : n1 ≤ 100 ∧ tot L ≤ 200000
  · have hd : decide (n1 ≤ 100 ∧ tot L ≤ 200000) = true := by simp [hgo]
    rw [hd]
    obtain ⟨h100, htot⟩ := hgo
    have HST := Lib.hid (write_start L HBl.out)
    obtain ⟨p, hp⟩ : ∃ p, p = w1.heap.size := ⟨_, rfl⟩
    clear hd
    go_wp2
    rw [← hp] at HST ⊢
    generalize w1.alloc (.cells #[.pointer none, .int .i64 0, .bool false] 27) = w2 at *
    clear hp HBl HI1
    go_loopw [4, 5, 23] (fun v sv i wr => ∃ (k : Nat) (sp : Bool), k ≤ n1 ∧ i = .int .i64 k ∧ sv = .bool sp ∧ WriteSt w p L k sp v wr) (fun _ _ i _ => n1 - (intOf i).toNat)
    case atStart => exact ⟨0, false, by omega, rfl, rfl, HST.out⟩
    case round =>
      clear HST
      obtain ⟨k, sp, hk, rfl, rfl, hst⟩ := hrel
      by_cases hlt : k < n1
      · obtain ⟨b', o', x, rfl, hx, hi⟩ := HI.out.at_ hlt
        have hbel : Below w.heap.size w wr := by obtain ⟨_, _, h, _⟩ := hst; exact h
        have hi' := hi.below (Nat.le_refl _) hbel
        have hkd := hi'.kind
        have hv := hi'.v
        have hsz := hi'.size
        have hsl := hi'.sl
        have HItem := Lib.hid hi
        have hkl : k < L.length := by have := HI.out.1; omega
        clear hi hi'
        obtain ⟨kd, V, S, A, n, c, lb⟩ := x
        simp only at hkd hv hsz hsl
        have hk256 : kd < 256 := HItem.out.k256
        have htk : tot (L.take (k + 1)) = tot (L.take k) + n := by rw [tot_take L k hkl, ← hx]
        have htl := tot_le L (k + 1)
        have HX := Lib.hid hx
        clear hx
        obtain ⟨MW, F, hmid, hlen, hfit⟩ := write_mid hst #[.int .u8 (kd : Nat), .int .i64 V, .int .i64 S, .slice A n c]
        have HMid := Lib.hid hmid
        have HFit := Lib.hid hfit
        have HEnc := Lib.hid (encAll_take L k hkl)
        have HFT := Lib.hid (fits_take L k hkl)
        rw [← HX.out] at HEnc HFT
        have HBel := Lib.hid hbel
        clear hst hmid hfit hbel
        by_cases hkind : kd < 3
        · by_cases hfits : Fits V S
          · --N-FITS
            have HF := Lib.hid hfits
            have H8 := Lib.hid (step_N HMid.out (by omega) V S)
            obtain ⟨f1, f2, f3, f4⟩ := hfits
            obtain ⟨s, rfl⟩ := Int.eq_ofNat_of_zero_le (show 0 ≤ S by omega)
            obtain ⟨u, rfl⟩ := Int.eq_ofNat_of_zero_le f3
            have hu : u < 256 ^ s := by
              have : ((u : Nat) : Int) < ((256 ^ s : Nat) : Int) := by simpa using f4
              exact_mod_cast this
            have hu2 : u < 72057594037927936 := Nat.lt_of_lt_of_le hu (Nat.le_trans (Nat.pow_le_pow_right (by omega) (show s ≤ 7 by omega)) (by decide))
            clear f4
            have hd1 : decide ((s : Int) < 1) = false := by simp; omega
            have hd2 : decide (7 < (s : Int)) = false := by simp; omega
            have hd3 : decide ((u : Int) < 0) = false := by simp
            have hd4 := u64_fits (n := s) (u := u) (by omega) hu
            have hei : encAll (L.take (k + 1)) = encAll (L.take k) ++ bytesOf u s := by rw [HEnc.out]; simp [encItem, hkind]
            have HEI := Lib.hid hei
            clear hei
            have HFI : Hid (FitsItem ⟨kd, (u : Nat), (s : Nat), A, n, c, lb⟩) := ⟨fun _ => HF.out, fun e => by simp at e; omega⟩
            have hmw : MW.length ≤ 300000 := by omega
            clear hu
            go_wp2_with (first | (go_at_call 8; refine H8.out.mono ?_; rintro e w4 ⟨rfl, hg4, hn4⟩; obtain ⟨F4, hm4⟩ := hg4 HF.out; obtain ⟨d0, d1, d2, d3⟩ := hm4.cells; have HM4 := Lib.hid hm4; clear hg4 hn4 hm4) | (go_at_call 9; refine (refBytes_any _ u s (by omega) (by omega) (by omega)).mono ?_; rintro e w5 ⟨rfl, hrow, hb5⟩; have HM5 := Lib.hid (HM4.out.below HM4.out.plt hb5); have HB5 := Lib.hid (bytes_row (v := u) (n := s) hrow (Nat.le_refl _) (fun j _ => rfl)); clear hrow hb5) | (at_builtin; refine wpList_append_bytes rfl (.tmp 70) (.tmp 76) rfl w.heap.size u4 MW rfl HM5.out.own HM5.out.bel.size (some ⟨w4.heap.size, 0, none⟩) s s (bytesOf u s) rfl HB5.out (fun e => by cases e) (by omega) ?_; intro v6 w6 ho6 hg6 _ hat6; have HM6 := Lib.hid (HM5.out.grow (bytesOf_lt u s) ho6 hg6 hat6); clear ho6 hg6 hat6))
            go_roundw
            case rel =>
              refine ⟨k + 1, sp, by omega, rfl, rfl, mid_write HM6.out ?_ ?_⟩
              · rw [List.length_append, bytesOf_length]
                omega
              · intro e
                obtain ⟨e1, e2⟩ := HFit.out e
                exact ⟨by rw [HEI.out, e1], HFT.out e2 HFI.out⟩
            case measure => simp [intOf]; omega
          · have HNF := Lib.hid hfits
            have H8 := Lib.hid (step_N HMid.out (by omega) V S)
            by_cases g1 : S < 1
            · --N-NOT1
              have hd1 : decide (S < 1) = true := by simp [g1]
              go_wp2_with (first | (go_at_call 8; refine H8.out.mono ?_; rintro e w4 ⟨rfl, hg4, hn4⟩; obtain ⟨F4, hm4⟩ := hn4 HNF.out; obtain ⟨d0, d1, d2, d3⟩ := hm4.cells; have HM4 := Lib.hid hm4; clear hg4 hn4 hm4))
              go_roundw
              case rel => exact ⟨k + 1, true, by omega, rfl, rfl, mid_spoilt HM4.out (by omega)⟩
              case measure => simp [intOf]; omega
            · by_cases g2 : 7 < S
              · --N-NOT2
                have hd1 : decide (S < 1) = false := by simp [g1]
                have hd2 : decide (7 < S) = true := by simp [g2]
                go_wp2_with (first | (go_at_call 8; refine H8.out.mono ?_; rintro e w4 ⟨rfl, hg4, hn4⟩; obtain ⟨F4, hm4⟩ := hn4 HNF.out; obtain ⟨d0, d1, d2, d3⟩ := hm4.cells; have HM4 := Lib.hid hm4; clear hg4 hn4 hm4))
                go_roundw
                case rel => exact ⟨k + 1, true, by omega, rfl, rfl, mid_spoilt HM4.out (by omega)⟩
                case measure => simp [intOf]; omega
              · by_cases g3 : V < 0
                · --N-NOT3
                  have hd1 : decide (S < 1) = false := by simp [g1]
                  have hd2 : decide (7 < S) = false := by simp [g2]
                  have hd3 : decide (V < 0) = true := by simp [g3]
                  go_wp2_with (first | (go_at_call 8; refine H8.out.mono ?_; rintro e w4 ⟨rfl, hg4, hn4⟩; obtain ⟨F4, hm4⟩ := hn4 HNF.out; obtain ⟨d0, d1, d2, d3⟩ := hm4.cells; have HM4 := Lib.hid hm4; clear hg4 hn4 hm4))
                  go_roundw
                  case rel => exact ⟨k + 1, true, by omega, rfl, rfl, mid_spoilt HM4.out (by omega)⟩
                  case measure => simp [intOf]; omega
                · --N-NOT4
                  obtain ⟨s, rfl⟩ := Int.eq_ofNat_of_zero_le (show 0 ≤ S by omega)
                  obtain ⟨u, rfl⟩ := Int.eq_ofNat_of_zero_le (show 0 ≤ V by omega)
                  have hu : ¬ u < 256 ^ s := fun h => HNF.out ⟨by omega, by omega, by omega, by simpa using (by exact_mod_cast h : ((u : Nat) : Int) < ((256 ^ s : Nat) : Int))⟩
                  have hu2 : u ≤ 9223372036854775807 := by have := HItem.out.topV; simp at this; omega
                  have hd1 : decide ((s : Int) < 1) = false := by simp; omega
                  have hd2 : decide (7 < (s : Int)) = false := by simp; omega
                  have hd3 : decide ((u : Int) < 0) = false := by simp
                  have hd4 := u64_not (n := s) (u := u) (by omega) hu
                  clear hu
                  go_wp2_with (first | (go_at_call 8; refine H8.out.mono ?_; rintro e w4 ⟨rfl, hg4, hn4⟩; obtain ⟨F4, hm4⟩ := hn4 HNF.out; obtain ⟨d0, d1, d2, d3⟩ := hm4.cells; have HM4 := Lib.hid hm4; clear hg4 hn4 hm4))
                  go_roundw
                  case rel => exact ⟨k + 1, true, by omega, rfl, rfl, mid_spoilt HM4.out (by omega)⟩
                  case measure => simp [intOf]; omega
        · have hB : Bytes w A n lb := HItem.out.bytes
          have HB := Lib.hid hB
          have HNil := Lib.hid HItem.out.nil
          have hln : lb.length = n := hB.1
          have HS256 := Lib.hid hB.2.1
          have hcv := (hB.below hB.lt (HBel.out.alloc HBel.out.size (.cells #[.int .u8 (kd : Nat), .int .i64 V, .int .i64 S, .slice A n c] 30))).text c
          clear hB
          by_cases hk3 : kd = 3
          · --TEXT
            have H10 := Lib.hid (step_Text HMid.out (by omega) lb HS256.out)
            have hei : encAll (L.take (k + 1)) = encAll (L.take k) ++ (bytesOf n 2 ++ lb) := by rw [HEnc.out]; simp [encItem, hk3]
            have HEI := Lib.hid hei
            have hkk1 : decide ((kd : Int) < 3) = false := by simp; omega
            have hkk2 : ((kd : Int) == 3) = true := by rw [beq_iff_eq]; omega
            have HK3 := Lib.hid hk3
            clear hei hk3 hkind
            rw [hln] at H10
            obtain ⟨st, hst⟩ : ∃ st, st = strOf lb := ⟨_, rfl⟩
            rw [← hst] at hcv H10
            have HSt := Lib.hid hst
            clear hst
            have hmw : MW.length + n ≤ 300000 := by omega
            obtain ⟨big, hbig⟩ : ∃ big, big = decide (65535 < (n : Int)) := ⟨_, rfl⟩
            have hbig2 : decide (65535 < n) = big := by rw [hbig]; simp; omega
            rw [hbig2] at H10
            have HBig := Lib.hid hbig2
            have HR := Lib.hid (fun w4 => refText_any w4 lb HS256.out (by omega))
            rw [← HSt.out, hln] at HR
            obtain ⟨E, hE⟩ : ∃ E, E = bytesOf n 2 ++ lb := ⟨_, rfl⟩
            have hEl : E.length = n + 2 := by rw [hE, List.length_append, bytesOf_length, hln]; omega
            have hE256 : ∀ x ∈ E, x < 256 := by rw [hE]; exact all_lt (bytesOf_lt n 2) HS256.out
            rw [← hE] at HR H10 HEI
            have H11 : Hid (∀ w4, Calls Try.prog 11 #[.string st] w4 fun e w5 => ∃ g5 c5, e = .returned (.slice (some ⟨g5, 0, none⟩) (n + 2) c5) ∧ Below w4.heap.size w4 w5 ∧ Bytes w5 (some ⟨g5, 0, none⟩) (n + 2) E) := by
              intro w4
              refine (HR.out w4).mono ?_
              rintro e w5 ⟨v, rfl, g5, c5, rfl, _, hb, hy⟩
              rw [hEl] at hy ⊢
              exact ⟨g5, c5, rfl, hb, hy⟩
            have HE256 := Lib.hid hE256
            have HEl := Lib.hid hEl
            clear hbig2 hln hE hEl hE256 HR
            cases sp with
            | true =>
              go_wp2_with (first | (go_at_call 10; refine H10.out.mono ?_; rintro e w4 ⟨rfl, F4, hm4⟩; obtain ⟨d0, d1, d2, d3⟩ := hm4.cells; have hcv4 := (HB.out.below HB.out.lt hm4.bel).text c; rw [← HSt.out] at hcv4; have HM4 := Lib.hid hm4; clear hm4) | (go_at_call 11; refine (H11.out _).mono ?_; rintro e w5 ⟨g5, c5, rfl, hb5, hy5⟩; have HM5 := Lib.hid (HM4.out.below HM4.out.plt hb5); have HB5 := Lib.hid hy5; clear hb5 hy5) | (at_builtin; refine wpList_append_bytes rfl (.tmp 93) (.tmp 97) rfl w.heap.size u4 MW rfl HM5.out.own HM5.out.bel.size (some ⟨g5, 0, none⟩) (n + 2) c5 E rfl HB5.out (fun e => by cases e) (by omega) ?_; intro v6 w6 ho6 hg6 _ hat6; have HM6 := Lib.hid (HM5.out.grow HE256.out ho6 hg6 hat6); clear ho6 hg6 hat6))
              go_roundw
              case rel =>
                refine ⟨k + 1, true, by omega, rfl, rfl, mid_write HM6.out ?_ ?_⟩
                · rw [List.length_append, HEl.out]
                  omega
                · intro e
                  cases e
              case measure => simp [intOf]; omega
            | false =>
              go_wp2_with (first | (go_at_call 10; refine H10.out.mono ?_; rintro e w4 ⟨rfl, F4, hm4⟩; obtain ⟨d0, d1, d2, d3⟩ := hm4.cells; have hcv4 := (HB.out.below HB.out.lt hm4.bel).text c; rw [← HSt.out] at hcv4; have HM4 := Lib.hid hm4; clear hm4) | (go_at_call 11; refine (H11.out _).mono ?_; rintro e w5 ⟨g5, c5, rfl, hb5, hy5⟩; have HM5 := Lib.hid (HM4.out.below HM4.out.plt hb5); have HB5 := Lib.hid hy5; clear hb5 hy5) | (at_builtin; refine wpList_append_bytes rfl (.tmp 93) (.tmp 97) rfl w.heap.size u4 MW rfl HM5.out.own HM5.out.bel.size (some ⟨g5, 0, none⟩) (n + 2) c5 E rfl HB5.out (fun e => by cases e) (by omega) ?_; intro v6 w6 ho6 hg6 _ hat6; have HM6 := Lib.hid (HM5.out.grow HE256.out ho6 hg6 hat6); clear ho6 hg6 hat6))
              go_roundw
              case rel =>
                refine ⟨k + 1, big, by omega, rfl, by rw [hbig], mid_write HM6.out ?_ ?_⟩
                · rw [List.length_append, HEl.out]
                  omega
                · intro e
                  obtain ⟨e1, e2⟩ := HFit.out (by simp)
                  refine ⟨by rw [HEI.out, e1], HFT.out e2 ⟨fun h => ?_, fun _ => ?_⟩⟩
                  · have := HK3.out
                    simp at h
                    omega
                  · have := HBig.out
                    rw [e, decide_eq_false_iff_not] at this
                    show n ≤ 65535
                    omega
              case measure => simp [intOf]; omega
          · --RAW
            have hei : encAll (L.take (k + 1)) = encAll (L.take k) ++ lb := by rw [HEnc.out]; simp [encItem, hk3, hkind]
            have HEI := Lib.hid hei
            have hkk1 : decide ((kd : Int) < 3) = false := by simp; omega
            have hkk2 : ((kd : Int) == 3) = false := by rw [beq_eq_false_iff_ne]; omega
            have HK3 := Lib.hid (And.intro hk3 hkind)
            have H12 := Lib.hid (step_Raw HMid.out A n c lb HB.out (by omega) HNil.out)
            have hmw : MW.length + n ≤ 300000 := by omega
            clear hei hk3 hkind hcv
            go_wp2_with (first | (go_at_call 12; refine H12.out.mono ?_; rintro e w4 ⟨rfl, F4, hm4⟩; obtain ⟨d0, d1, d2, d3⟩ := hm4.cells; have HB4 := Lib.hid (HB.out.below HB.out.lt hm4.bel); have HM4 := Lib.hid hm4; clear hm4) | (at_builtin; refine wpList_append_bytes rfl (.tmp 33) (.tmp 35) rfl w.heap.size u4 MW rfl HM4.out.own HM4.out.bel.size A n c lb rfl HB4.out HNil.out (by omega) ?_; intro v6 w6 ho6 hg6 _ hat6; have HM6 := Lib.hid (HM4.out.grow HS256.out ho6 hg6 hat6); clear ho6 hg6 hat6))
            go_roundw
            case rel =>
              refine ⟨k + 1, sp, by omega, rfl, rfl, mid_write HM6.out ?_ ?_⟩
              · rw [List.length_append, HB.out.1]
                omega
              · intro e
                obtain ⟨e1, e2⟩ := HFit.out e
                refine ⟨by rw [HEI.out, e1], HFT.out e2 ⟨fun h => ?_, fun h => ?_⟩⟩
                · exact absurd h HK3.out.2
                · exact absurd h HK3.out.1
            case measure => simp [intOf]; omega
      · obtain rfl : k = n1 := by omega
        obtain ⟨MW, F, hbel, hpl, hown, h256, _, _, _, _, hout, hlen, hfit⟩ := hst
        have hkL : L.take k = L := List.take_of_length_le (by have := HI.out.1; omega)
        rw [hkL] at hlen hfit
        have HBel := Lib.hid hbel
        rcases hout with ⟨rfl, hsp⟩ | ⟨rfl, ho⟩
        · --END-SPOILT
          have HE := Lib.hid (end_stop wr _ (takes_spoilt wr p true hsp.bad))
          clear hsp hown hfit hbel
          go_wp2_with (go_at_call 13; refine HE.out.mono ?_; rintro e w4 ⟨rfl, rfl⟩)
          go_ret
          exact ⟨rfl, HBel.out⟩
        · --END-GOOD
          obtain ⟨hM, hAll⟩ := hfit rfl
          have HAll := Lib.hid hAll
          obtain ⟨A, c, rfl, hBw⟩ := owns_slice hown h256
          have HE := Lib.hid (end_good wr p MW F ho (by omega))
          have HBw := Lib.hid hBw
          have HM := Lib.hid hM
          obtain ⟨N, hN⟩ : ∃ N, N = MW.length := ⟨_, rfl⟩
          have HN := Lib.hid hN
          rw [← hN] at hlen HBw ⊢
          clear hAll hown hBw ho hM hN hfit hbel h256
          go_wp2_with fail
          refine HE.out.mono ?_
          rintro e w4 ⟨vb, rfl, hmade⟩
          obtain ⟨g4, rfl, hg4, hb4, hB4⟩ := hmade.bytes
          rw [← HN.out] at hB4 ⊢
          have ht1 := (hB4.text N)
          have hw4 := (HBw.out.below HBw.out.lt hb4)
          have ht2 := hw4.text c
          obtain ⟨st, hst⟩ : ∃ st, st = strOf MW := ⟨_, rfl⟩
          rw [← hst] at ht1 ht2
          have HB4 := Lib.hid hB4
          have HBe4 := Lib.hid hb4
          clear hmade hB4 hb4 hw4 hst
          go_wp2_with fail
          refine (newIn_any w4 _ N N MW HB4.out (by omega)).mono ?_
          rintro e w5 ⟨rfl, hin, hb5⟩
          have HST : Hid (BackSt w (w4.heap.size + 1) w4.heap.size L 0 w5) := by
            have h1 := HBel.out.size
            have h2 := HBe4.out.size
            have h3 := hin.facts.2.2.2
            refine ⟨(HBel.out.trans (HBe4.out.mono h1)).trans (hb5.mono (by omega)), by omega, h3, by omega, 0, N, ?_, by omega⟩
            rw [List.drop_zero, ← HM.out]
            exact hin
          obtain ⟨q, hq⟩ : ∃ q, q = w4.heap.size + 1 := ⟨_, rfl⟩
          obtain ⟨g, hg⟩ : ∃ g, g = w4.heap.size := ⟨_, rfl⟩
          rw [← hq, ← hg] at HST
          rw [← hq]
          clear hin hb5 hq hg HB4 HBe4 HBel ht1 ht2 hg4 HBw HE
          go_wp2
          go_loopw [125] (fun i wr => ∃ j : Nat, j ≤ k ∧ i = .int .i64 j ∧ BackSt w q g L j wr) (fun i _ => k - (intOf i).toNat)
          case atStart => exact ⟨0, by omega, rfl, HST.out⟩
          case round =>
            clear HST
            obtain ⟨j, hj, rfl, hst⟩ := hrel
            by_cases hjlt : j < k
            · obtain ⟨b', o', x, rfl, hx, hi⟩ := HI.out.at_ hjlt
              have hi' := hi.below (Nat.le_refl _) hst.1
              have hkd := hi'.kind
              have hv := hi'.v
              have hsz := hi'.size
              have hsl := hi'.sl
              have HItem := Lib.hid hi
              have hkl : j < L.length := by have := HI.out.1; omega
              have hfx : FitsItem x := HAll.out x (by rw [hx]; simp [List.getD, hkl])
              have htk : tot (L.take (j + 1)) = tot (L.take j) + x.len := by rw [tot_take L j hkl, ← hx]
              have htl := tot_le L (j + 1)
              have hen := encAll_drop L j hkl
              rw [← hx] at hen
              clear hi hi' hx
              obtain ⟨kd, V, S, B, n, cb, lb⟩ := x
              simp only at hkd hv hsz hsl htk
              obtain ⟨hbel, hq, hql, hgl, o, ci, hin, hci⟩ := hst
              rw [hen] at hin
              have h0 := (Below.refl wr.heap.size wr).alloc (Nat.le_refl _) (.cells #[.int .u8 (kd : Nat), .int .i64 V, .int .i64 S, .slice B n cb] 30)
              have hin0 := hin.alloc hgl (.cells #[.int .u8 (kd : Nat), .int .i64 V, .int .i64 S, .slice B n cb] 30)
              have HNx := Lib.hid (fun (w4 : World) (h : Went (wr.alloc (.cells #[.int .u8 (kd : Nat), .int .i64 V, .int .i64 S, .slice B n cb] 30)) q g ci (encAll (L.drop (j + 1))) w4) => back_next hbel hq hql hgl h0 hci h)
              have HBel := Lib.hid hbel
              clear hin hbel h0
              by_cases hkind : kd < 3
              · --B-N
                have hei : encItem ⟨kd, V, S, B, n, cb, lb⟩ = bytesOf V.toNat S.toNat := by simp [encItem, hkind]
                rw [hei] at hin0
                have HIn := Lib.hid hin0
                have HF := Lib.hid (hfx.1 hkind)
                clear hin0 hei hen
                go_wp2
                go_region_with (go_at_call 15; refine (back_N (w0 := (wr.alloc (.cells #[.int .u8 (kd : Nat), .int .i64 V, .int .i64 S, .slice B n cb] 30)).drew) (c := ci) HIn.out HF.out hci).mono ?_; rintro e w6 ⟨rfl, hw6⟩; obtain ⟨e0, e1, e2, e3⟩ := went_cells hw6 (heap_alloc_new wr _) hql; have HW6 := Lib.hid hw6; clear hw6)
                all_goals go_wp2
                all_goals go_roundw
                case rel => exact ⟨j + 1, by omega, rfl, HNx.out _ HW6.out⟩
                case measure => simp [intOf]; omega
                case rel => exact ⟨j + 1, by omega, rfl, HNx.out _ HW6.out⟩
                case measure => simp [intOf]; omega
                case rel => exact ⟨j + 1, by omega, rfl, HNx.out _ HW6.out⟩
                case measure => simp [intOf]; omega
              · have hB : Bytes w B n lb := HItem.out.bytes
                have hcv := (hB.below hB.lt (HBel.out.alloc HBel.out.size (.cells #[.int .u8 (kd : Nat), .int .i64 V, .int .i64 S, .slice B n cb] 30)))
                obtain ⟨st, hst⟩ : ∃ st, st = strOf lb := ⟨_, rfl⟩
                have hcv1 := hcv.text cb
                have hcv2 : (convert 28 9 (.slice B n cb)).run Try.prog (wr.alloc (.cells #[.int .u8 (kd : Nat), .int .i64 V, .int .i64 S, .slice B n cb] 30)).drew = .ok (.string st) (wr.alloc (.cells #[.int .u8 (kd : Nat), .int .i64 V, .int .i64 S, .slice B n cb] 30)).drew := by rw [hst]; exact (hcv.drewN 1).text cb
                rw [← hst] at hcv1
                have HTx := Lib.hid (fun (w6 : World) (h : Below w.heap.size w w6) => (hB.below hB.lt h).text cb)
                rw [← hst] at HTx
                by_cases hk3 : kd = 3
                · --B-TEXT
                  have hei : encItem ⟨kd, V, S, B, n, cb, lb⟩ = bytesOf lb.length 2 ++ lb := by simp [encItem, hk3, hB.1]
                  rw [hei] at hin0
                  have h16 := inText_good (wr.alloc (.cells #[.int .u8 (kd : Nat), .int .i64 V, .int .i64 S, .slice B n cb] 30)).drew q g o ci lb _ hin0 (by have := hgl; simp; omega) (by have := hfx.2 hk3; have := hB.1; simp only at *; omega) hci
                  rw [← hst] at h16
                  have H16 := Lib.hid h16
                  have hkk1 : decide ((kd : Int) < 3) = false := by simp; omega
                  have hkk2 : ((kd : Int) == 3) = true := by rw [beq_iff_eq]; omega
                  clear hin0 hei hen hcv hst h16 hB hk3 hkind hfx
                  go_wp2
                  go_region_with (go_at_call 16; refine H16.out.mono ?_; rintro e w6 ⟨rfl, hw6⟩; obtain ⟨e0, e1, e2, e3⟩ := went_cells hw6 (heap_alloc_new wr _) hql; have hcv6 := HTx.out w6 (HNx.out _ hw6).1; have HW6 := Lib.hid hw6; clear hw6)
                  all_goals go_wp2
                  all_goals exact ⟨⟨j + 1, by omega, rfl, HNx.out _ HW6.out⟩, by simp [intOf]; omega⟩
                · --B-RAW
                  have hei : encItem ⟨kd, V, S, B, n, cb, lb⟩ = lb := by simp [encItem, hk3, hkind]
                  rw [hei] at hin0
                  have H17 := Lib.hid (back_Raw (w0 := (wr.alloc (.cells #[.int .u8 (kd : Nat), .int .i64 V, .int .i64 S, .slice B n cb] 30)).drew) (n := n) (rest := encAll (L.drop (j + 1))) hin0 (by have := hgl; simp; omega) hB.1 hci)
                  have hkk1 : decide ((kd : Int) < 3) = false := by simp; omega
                  have hkk2 : ((kd : Int) == 3) = false := by rw [beq_eq_false_iff_ne]; omega
                  have HStr := Lib.hid hst
                  clear hin0 hei hen hcv hst hB hk3 hkind hfx
                  go_wp2
                  go_region_with (go_at_call 17; refine H17.out.mono ?_; rintro e w6 ⟨⟨g6, rfl, hy6⟩, hw6⟩; obtain ⟨e0, e1, e2, e3⟩ := went_cells hw6 (heap_alloc_new wr _) hql; have hcv6 := HTx.out w6 (HNx.out _ hw6).1; have hcv7 := hy6.text n; rw [← HStr.out] at hcv7; have HW6 := Lib.hid hw6; clear hw6 hy6)
                  all_goals go_wp2
                  all_goals exact ⟨⟨j + 1, by omega, rfl, HNx.out _ HW6.out⟩, by simp [intOf]; omega⟩
            · --BACK-END
              obtain rfl : j = k := by omega
              obtain ⟨hbel, hq, hql, hgl, o, ci, hin, hci⟩ := hst
              have hdr : L.drop j = [] := List.drop_eq_nil_of_le (by have := HI.out.1; omega)
              rw [hdr] at hin
              have HBel := Lib.hid hbel
              have H18 := Lib.hid (done_good wr q g o ci _ hin)
              have H19 := Lib.hid (bad_good wr q g o ci _ hin)
              have hz : decide ((encAll ([] : List Item)).length = 0) = true := by simp [encAll]
              rw [hz] at H18
              clear hin hbel hz
              go_wp2_with (first | (go_at_call 18; refine H18.out.mono ?_; rintro e w6 ⟨rfl, rfl⟩) | (go_at_call 19; refine H19.out.mono ?_; rintro e w6 ⟨rfl, rfl⟩))
              go_ret
              exact ⟨rfl, HBel.out⟩
  · --NOT-GO
    have hd : decide (n1 ≤ 100 ∧ tot L ≤ 200000) = false := by simpa using hgo
    rw [hd]
    go_wp2_with (go_at_call 6; refine (awake_any _).mono ?_; rintro e w3 ⟨rfl, hb3⟩)
    go_ret
    exact ⟨rfl, HBl.out.trans (hb3.mono HBl.out.size)⟩
end Go.Proofs.Ytcmgekimogecaaa.codec
