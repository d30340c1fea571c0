/- Clones: the walk. -/
import Derived.Test.YtedhbcaakdfcbaaAc
namespace Go.Proofs.Ytedhbcaakdfcbaa.disk
open Go.ChangeShapes Go.WideShapes Go.ChangeAt Go.RowKit Go.Maps Go.WideMaps Go.Sort Go.Shelf
set_option linter.unusedVariables false
set_option linter.unusedSimpArgs false

theorem ActIs.ok {w : World} {B base b o : Nat} {x : ActV} (h : ActIs w B b o x) (hB : B ≤ base) (hk : x.kn ≤ 1000000) : ActOk w base x :=
  ⟨h.bytes, fun ad e h0 => Nat.lt_of_lt_of_le (h.blow ad e h0) hB, h.ints, fun ad e h0 => Nat.lt_of_lt_of_le (h.ilow ad e h0) hB, h.dnil, h.dle, h.sa, h.sb, hk⟩
/-- A disk that has been played upon: k acts of L. -/
structure Played (w0 : World) (base p k : Nat) (L : List ActV) (w : World) : Prop where
  ex : ∃ mb D c fm, Dsk w base p mb D c fm k ∧ ∀ s f, fm s = some f → f.l.length ≤ tot (L.take k)
  below : Below w0.heap.size w0 w
theorem played_step {w0 w w' : World} {base p k : Nat} {L : List ActV} {mb : Option Nat} {D : DataW Value} {c : Cfg} {fm : FM} (hB : w0.heap.size ≤ base) (hk : k < L.length) (hd : Dsk w base p mb D c fm k) (hb : Below w0.heap.size w0 w)
    (ha : Aft w base p mb D (k + 1) (tot (L.take k) + (L.getD k default).dn) w') : Played w0 base p (k + 1) L w' := by
  obtain ⟨mb', D', c', fm', q1, q2, q3, q4⟩ := ha
  refine ⟨⟨mb', D', c', fm', q1, fun s f e => Nat.le_trans (q2 s f e) ?_⟩, hb.trans (q3.toBelow _ hb.size (fun i hi hf => by have := (hd.foot_lt i hf).1; omega))⟩
  rw [tot_take L k hk]
  unfold ActV.len
  omega
/-- A clone that has been played upon, beside the disk that it is of, and another clone. -/
structure Two (w0 : World) (base p p2 p3 S b3 n1 : Nat) (mb : Option Nat) (D D3 : DataW Value) (c : Cfg) (fm : FM) (k : Nat) (L1 L2 : List ActV) (w : World) : Prop where
  ex : ∃ mb2 D2 c2 fm2, Dsk w p2 p2 mb2 D2 c2 fm2 (n1 + k) ∧ (∀ s f, fm2 s = some f → f.l.length ≤ tot L1 + tot (L2.take k)) ∧ ∀ j, Foot p2 mb2 D2 j → (p2 ≤ j ∧ j < p3) ∨ S ≤ j
  d : Dsk w base p mb D c fm n1
  x : Dsk w p3 p3 (some b3) D3 c fm n1
  dlow : ∀ j, Foot p mb D j → j < p2
  xlow : ∀ j, Foot p3 (some b3) D3 j → p3 ≤ j ∧ j < S
  below : Below w0.heap.size w0 w
  size : S ≤ w.heap.size
  ord : w0.heap.size ≤ p2 ∧ p2 ≤ p3 ∧ p3 ≤ S
theorem two_step {w0 w w' : World} {base p p2 p3 S b3 n1 k : Nat} {mb mb2 : Option Nat} {D D2 D3 : DataW Value} {c c2 : Cfg} {fm fm2 : FM} {L1 L2 : List ActV} (h : Two w0 base p p2 p3 S b3 n1 mb D D3 c fm k L1 L2 w) (hk : k < L2.length) (hd : Dsk w p2 p2 mb2 D2 c2 fm2 (n1 + k)) (hF : ∀ j, Foot p2 mb2 D2 j → (p2 ≤ j ∧ j < p3) ∨ S ≤ j)
    (ha : Aft w p2 p2 mb2 D2 (n1 + k + 1) (tot L1 + tot (L2.take k) + (L2.getD k default).dn) w') : Two w0 base p p2 p3 S b3 n1 mb D D3 c fm (k + 1) L1 L2 w' := by
  obtain ⟨mb', D', c', fm', q1, q2, q3, q4⟩ := ha
  obtain ⟨o1, o2, o3⟩ := h.ord
  refine ⟨⟨mb', D', c', fm', q1, fun s f e => Nat.le_trans (q2 s f e) ?_, fun j hj => ?_⟩, h.d.touch q3 (fun j hj hf => ?_), h.x.touch q3 (fun j hj hf => ?_), h.dlow, h.xlow, h.below.trans (q3.toBelow _ h.below.size (fun i hi hf => ?_)), Nat.le_trans h.size q3.2.2.2.1, h.ord⟩
  · rw [tot_take L2 k hk]
    unfold ActV.len
    omega
  · rcases q4 j hj with h1 | h1
    · exact hF j h1
    · exact .inr (Nat.le_trans h.size h1)
  · have h1 := h.dlow j hj
    have h2 := hF j hf
    omega
  · have h1 := h.xlow j hj
    have h2 := hF j hf
    omega
  · have h2 := hF i hf
    omega
theorem two_start {w0 w w5 w6 : World} {base p b2 b3 n1 : Nat} {mb : Option Nat} {D D2 D3 : DataW Value} {c : Cfg} {fm : FM} {L1 L2 : List ActV} (hb0 : Below w0.heap.size w0 w) (hd : Dsk w base p mb D c fm n1) (hM : ∀ s f, fm s = some f → f.l.length ≤ tot L1)
    (hc : Dsk w5 w.heap.size w.heap.size (some b2) D2 c fm n1) (hb5 : Below w.heap.size w w5) (hx : Dsk w6 w5.heap.size w5.heap.size (some b3) D3 c fm n1) (hb6 : Below w5.heap.size w5 w6) : Two w0 base p w.heap.size w5.heap.size w6.heap.size b3 n1 mb D D3 c fm 0 L1 L2 w6 := by
  have hc6 := hc.below hb6
  refine ⟨⟨_, _, _, _, hc6, fun s f e => Nat.le_trans (hM s f e) (Nat.le_add_right _ _), fun j hj => .inl ⟨(hc.foot_lt j hj).1, (hc.foot_lt j hj).2⟩⟩, (hd.below hb5).below hb6, hx, fun j hj => (hd.foot_lt j hj).2, fun j hj => hx.foot_lt j hj, hb0.trans ((hb5.mono hb0.size).trans (hb6.mono (Nat.le_trans hb0.size hb5.size))), Nat.le_refl _, hb0.size, hb5.size, hb6.size⟩
theorem len43 (w : World) (ty : TypeId) (A : Option Addr) (n c : Nat) : (Builtin.len_ #[43] ty #[.slice A n c]).run Try.prog w = .ok (.int .i64 (n : Nat)) w := by
  simp [Builtin.len_, run_underlying Try.underlying43, Builtin.lenOf]
  rfl
set_option maxRecDepth 50000 in
set_option maxHeartbeats 8000000 in
theorem clones_walk (w : World) (cap : Int) (A1 : Option Addr) (n1 c1 : Nat) (L1 : List ActV) (A2 : Option Addr) (n2 c2 : Nat) (L2 : List ActV) (h1 : Acts w w.heap.size A1 n1 L1) (h2 : Acts w w.heap.size A2 n2 L2) :
    Calls Try.prog 4 #[.int .i64 cap, .slice A1 n1 c1, .slice A2 n2 c2] w fun e w' => e = .returned (.bool true) ∧ Below w.heap.size w w' := by
  have HAc := Lib.hid (fun w' (hb : Below w.heap.size w w') => And.intro (h1.touch (F := fun _ => False) (fun _ _ h => h) (touch_below hb)) (h2.touch (F := fun _ => False) (fun _ _ h => h) (touch_below hb)))
  have H6 := Lib.hid (fun w' (hb : Below w.heap.size w w') => (awake_any w').mono (R' := fun e w2 => e = .returned (.bool true) ∧ Below w.heap.size w w2) (fun e w2 h => ⟨h.1, hb.trans (h.2.mono hb.size)⟩))
  have H71 := Lib.hid (fun w' (hb : Below w.heap.size w w') => (few_exact w' w.heap.size A1 n1 c1 L1 60 (by decide) (HAc.out w' hb).1).mono (R' := fun e w2 => e = .returned (.bool (decide (n1 ≤ 60 ∧ tot L1 ≤ 100000))) ∧ Below w.heap.size w w2) (fun e w2 h => ⟨h.1, hb.trans (h.2.mono hb.size)⟩))
  have H72 := Lib.hid (fun w' (hb : Below w.heap.size w w') => (few_exact w' w.heap.size A2 n2 c2 L2 60 (by decide) (HAc.out w' hb).2).mono (R' := fun e w2 => e = .returned (.bool (decide (n2 ≤ 60 ∧ tot L2 ≤ 100000))) ∧ Below w.heap.size w w2) (fun e w2 h => ⟨h.1, hb.trans (h.2.mono hb.size)⟩))
  have HL1 := Lib.hid (And.intro h1.1 h2.1)
  clear h1 h2
  by_cases f1 : n1 ≤ 60 ∧ tot L1 ≤ 100000
  · by_cases f2 : n2 ≤ 60 ∧ tot L2 ≤ 100000
    · rw [decide_eq_true f1] at H71
      rw [decide_eq_true f2] at H72
      by_cases hc : 0 ≤ cap ∧ cap ≤ 4194304
      · have H8 := Lib.hid (fun w' => new_ok w' cap hc.1 hc.2)
        have HF := Lib.hid (And.intro f1 f2)
        clear f1 f2 hc
        go_enter Try.func4, Try.ntmps4
        go_wp2_with (first | (go_at_call 6; refine (H6.out _ (Below.refl _ _)).mono ?_; rintro e w1 ⟨rfl, hb⟩; have HB1 := Lib.hid hb; clear hb) | (go_at_call 7; first | (refine (H71.out _ HB1.out).mono ?_; rintro e w2 ⟨rfl, hb⟩; have HB2 := Lib.hid hb; clear hb HB1) | (refine (H72.out _ HB2.out).mono ?_; rintro e w3 ⟨rfl, hb⟩; have HB3 := Lib.hid hb; clear hb)) | (go_at_call 8; refine (H8.out _).mono ?_; rintro e w4 ⟨rfl, hd, hb⟩; have HD := Lib.hid hd; have HB4 := Lib.hid (HB3.out.trans (hb.mono HB3.out.size)); clear hd hb))
        have HP0 := Lib.hid (show Played w w3.heap.size w3.heap.size 0 L1 w4 from ⟨⟨_, _, _, _, HD.out, fun s f e => by cases e⟩, HB4.out⟩)
        have HW3 := Lib.hid HB3.out.size
        clear HD HB2 HB3 HB4 H6 H71 H72 H8
        go_loopw [9, 44] (fun _ i wr => ∃ k : Nat, k ≤ n1 ∧ i = .int .i64 k ∧ Played w w3.heap.size w3.heap.size k L1 wr) (fun _ i _ => n1 - (intOf i).toNat)
        case atStart => exact ⟨0, Nat.zero_le _, rfl, HP0.out⟩
        case round =>
          clear HP0
          obtain ⟨k, hk, rfl, hp⟩ := hrel
          have HP := Lib.hid hp
          have HAw := Lib.hid (HAc.out _ hp.below)
          obtain ⟨⟨mb, D, c, fm, hd, hM⟩, hb⟩ := hp
          have HD := Lib.hid hd
          have HM := Lib.hid hM
          have HB := Lib.hid hb
          clear hd hM hb
          by_cases hlt : k < n1
          · obtain ⟨b', o', x, rfl, hx, hi⟩ := HAw.out.1.at_ hlt
            have hkl : k < L1.length := by have := HL1.out.1; omega
            have htk := tot_take L1 k hkl
            rw [← hx] at htk
            have htl := tot_le L1 (k + 1)
            have hxl : x.len = x.a.size + x.b.size + x.dn + x.kn := rfl
            have hf := HF.out.1
            have HDo := Lib.hid (do_any x HD.out HM.out (hi.ok HW3.out (by omega)) (by omega) (Nat.le_trans (HD.out.foot_lt _ (.inl rfl)).1 (Nat.le_of_lt (HD.out.foot_lt _ (.inl rfl)).2)) (by omega))
            unfold ActV.val at HDo
            have g0 := hi.kind
            have g1 := hi.ca
            have g2 := hi.cb
            have g3 := hi.at_
            have g4 := hi.data
            have g5 := hi.keep
            have HX := Lib.hid hx
            clear hi hx htk htl hxl hf
            have HLt := Lib.hid hlt
            have hk60 : k < 60 := by have := HF.out.1.1; omega
            go_wp2_with (first | (go_at_call 9; refine HDo.out.mono ?_; rintro e w5 ⟨⟨r, rfl⟩, ha⟩; rw [HX.out] at ha; have HP5 := Lib.hid (played_step HW3.out hkl HD.out HB.out ha); clear ha))
            go_roundw
            case rel => exact ⟨k + 1, Nat.succ_le_of_lt HLt.out, by go_num, HP5.out⟩
            case measure => have hh := HLt.out; simp [intOf]; omega
          · obtain rfl : k = n1 := by omega
            have hf := HF.out.1
            have hM1 : ∀ s f, fm s = some f → f.l.length ≤ tot L1 := fun s f e => by
              have := HM.out s f e
              rwa [List.take_of_length_le (by have := HL1.out.1; omega)] at this
            have H13 := Lib.hid (clone_any HD.out hM1 (by omega) (by omega) (Nat.le_trans (HD.out.foot_lt _ (.inl rfl)).1 (Nat.le_of_lt (HD.out.foot_lt _ (.inl rfl)).2)))
            have HM1 := Lib.hid hM1
            have HHf := Lib.hid hf
            clear hf hM1 HM HP
            go_wp2_with (first | (go_at_call 13; refine H13.out.mono ?_; rintro e w5 ⟨b2, D2, rfl, hd2, hb5⟩; have HC5 := Lib.hid hd2; have HB5 := Lib.hid hb5; have HD5 := Lib.hid (HD.out.below hb5); clear hd2 hb5))
            have H13b := Lib.hid (clone_any HD5.out HM1.out (by have := HHf.out; omega) (by have := HHf.out; omega) (Nat.le_trans (HD5.out.foot_lt _ (.inl rfl)).1 (Nat.le_of_lt (HD5.out.foot_lt _ (.inl rfl)).2)))
            clear H13
            go_wp2_with (first | (go_at_call 13; refine H13b.out.mono ?_; rintro e w6 ⟨b3, D3, rfl, hd3, hb6⟩; have HX6 := Lib.hid hd3; have HB6 := Lib.hid hb6; clear hd3 hb6))
            have HT0 := Lib.hid (two_start (L2 := L2) HB.out HD.out HM1.out HC5.out HB5.out HX6.out HB6.out)
            clear HD5 HX6 HB6 H13b HC5 HB5 HAw
            go_loopw [12, 60] (fun _ i wr2 => ∃ k2 : Nat, k2 ≤ n2 ∧ i = .int .i64 k2 ∧ Two w w3.heap.size w3.heap.size wr.heap.size w5.heap.size w6.heap.size b3 k mb D D3 c fm k2 L1 L2 wr2) (fun _ i _ => n2 - (intOf i).toNat)
            case atStart => exact ⟨0, Nat.zero_le _, rfl, HT0.out⟩
            case round =>
              clear HT0
              obtain ⟨k2, hk2, rfl, ht⟩ := hrel
              have HT := Lib.hid ht
              clear ht
              have HAw := Lib.hid (HAc.out _ HT.out.below)
              obtain ⟨⟨mb2, D2, c2, fm2, hd2, hM2, hF2⟩⟩ := HT.out
              have HD2 := Lib.hid hd2
              have HM2 := Lib.hid hM2
              have HF2 := Lib.hid hF2
              clear hd2 hM2 hF2
              by_cases hlt2 : k2 < n2
              · obtain ⟨b', o', x, rfl, hx, hi⟩ := HAw.out.2.at_ hlt2
                have hkl : k2 < L2.length := by have := HL1.out.2; omega
                have htk := tot_take L2 k2 hkl
                rw [← hx] at htk
                have htl := tot_le L2 (k2 + 1)
                have hxl : x.len = x.a.size + x.b.size + x.dn + x.kn := rfl
                have hf := HF.out
                have ho := HT.out.ord
                have HDo := Lib.hid (do_any x HD2.out HM2.out (hi.ok ho.1 (by omega)) (by omega) (Nat.le_of_lt (HD2.out.foot_lt _ (.inl rfl)).2) (by omega))
                unfold ActV.val at HDo
                have g0 := hi.kind
                have g1 := hi.ca
                have g2 := hi.cb
                have g3 := hi.at_
                have g4 := hi.data
                have g5 := hi.keep
                have HX := Lib.hid hx
                clear hi hx htk htl hxl hf ho
                have HLt2 := Lib.hid hlt2
                have hk60 : k2 < 60 := by have := HF.out.2.1; omega
                go_wp2_with (first | (go_at_call 9; refine HDo.out.mono ?_; rintro e w7 ⟨⟨r, rfl⟩, ha⟩; rw [HX.out] at ha; have HT7 := Lib.hid (two_step HT.out hkl HD2.out HF2.out ha); clear ha))
                go_roundw
                case rel => exact ⟨k2 + 1, Nat.succ_le_of_lt HLt2.out, by go_num, HT7.out⟩
                case measure => have hh := HLt2.out; simp [intOf]; omega
              · obtain rfl : k2 = n2 := by omega
                clear HD2 HM2 HF2
                have hf := HF.out
                have H14 := Lib.hid (names_any HT.out.d (by omega))
                go_wp2_with (first | (go_at_call 14; refine H14.out.mono ?_; clear H14; rintro e w8 ⟨v, ns, rfl, q1, q2, q3, q4⟩; have HLs := Lib.hid q1; have HOw1 := Lib.hid q2; have HB8 := Lib.hid q4; clear q1 q2 q3 q4))
                obtain ⟨Av, cv, rfl⟩ : ∃ Av cv, v = .slice Av ns.length cv := by
                  rcases HOw1.out.2 with ⟨e, h0⟩ | ⟨g, cap, cur, e, _⟩
                  · exact ⟨none, 0, by rw [h0]; exact e⟩
                  · exact ⟨_, _, e⟩
                have H14b := Lib.hid (names_any (HT.out.x.below HB8.out) (by omega))
                go_wp2_with (first | (go_at_call 14; refine H14b.out.mono ?_; clear H14b; rintro e w9 ⟨v2, ns2, rfl, q1, q2, q3, q4⟩; have HLs2 := Lib.hid q1; have HOw2 := Lib.hid q2; have HB9 := Lib.hid q4; clear q1 q2 q3 q4))
                obtain rfl : ns = ns2 := HLs.out.same HLs2.out
                obtain ⟨Av2, cv2, rfl⟩ : ∃ Av cv, v2 = .slice Av ns.length cv := by
                  rcases HOw2.out.2 with ⟨e, h0⟩ | ⟨g, cap, cur, e, _⟩
                  · exact ⟨none, 0, by rw [h0]; exact e⟩
                  · exact ⟨_, _, e⟩
                have HD9 := Lib.hid ((HT.out.d.below HB8.out).below HB9.out)
                have HX9 := Lib.hid ((HT.out.x.below HB8.out).below HB9.out)
                obtain ⟨nl, hnl⟩ : ∃ nl, nl = ns.length := ⟨_, rfl⟩
                rw [← hnl] at HOw1 HOw2 ⊢
                have HN1 := Lib.hid (namesAt_of (by rw [← hnl]; exact HOw1.out) hnl.symm)
                have HN2 := Lib.hid (namesAt_of (by rw [← hnl]; exact HOw2.out) hnl.symm)
                have HNl := Lib.hid hnl
                have hnm : nl ≤ 2 ^ 63 - 1 := own_len HOw1.out
                clear hnl HOw1 HOw2
                have hln := fun w' ty => len43 w' ty Av nl cv
                have hln2 := fun w' ty => len43 w' ty Av2 nl cv2
                have H15a := Lib.hid (room_any HD9.out)
                have H15b := Lib.hid (fun q => room_any (HX9.out.drewN q))
                go_wp2_with (first | (go_at_call 15; refine H15a.out.mono ?_; clear H15a; rintro e w10 ⟨rfl, q, rfl⟩) | (go_at_call 15; refine (H15b.out _).mono ?_; rintro e w11 ⟨rfl, q2, rfl⟩))
                rw [hln2 w9 3]
                go_wp2_with (first | (go_at_call 15; refine H15a.out.mono ?_; clear H15a; rintro e w10 ⟨rfl, q, rfl⟩) | (go_at_call 15; refine (H15b.out _).mono ?_; rintro e w11 ⟨rfl, q2, rfl⟩))
                have hz9 : ∀ q, (w9.drewN q).heap.size = w9.heap.size := fun q => rfl
                have HBase : Hid (Below w.heap.size w w9) := (HT.out.below.trans (HB8.out.mono HT.out.below.size)).trans (HB9.out.mono (Nat.le_trans HT.out.below.size HB8.out.size))
                have HN1' := Lib.hid (HN1.out.below HB9.out)
                clear HN1 HB8 HB9 hln hln2 hz9
                go_loopw [15, 16, 17, 18, 19, 88] (fun _ _ _ _ _ i wr3 => ∃ k3 : Nat, k3 ≤ nl ∧ i = .int .i64 k3 ∧ Below w9.heap.size w9 wr3) (fun _ _ _ _ _ i _ => nl - (intOf i).toNat)
                case atStart => exact ⟨0, Nat.zero_le _, rfl, below_draws (Below.refl _ _) _⟩
                case round =>
                  obtain ⟨k3, hk3, rfl, hb3⟩ := hrel
                  have HB3 := Lib.hid hb3
                  clear hb3
                  by_cases hlt3 : k3 < nl
                  · obtain ⟨g1, S, rfl, hS, hmem, hc1⟩ := (HN1'.out.below HB3.out).at_ hlt3
                    obtain ⟨g2, S2, rfl, hS2, -, hc2⟩ := (HN2.out.below HB3.out).at_ hlt3
                    obtain rfl : S = S2 := bytes_ext (hS.trans hS2.symm)
                    rw [← hS] at hmem
                    obtain ⟨f, hfm⟩ := Option.isSome_iff_exists.1 ((HLs.out.mem _).1 hmem)
                    have hfl := HM1.out _ _ hfm
                    have hf' := HHf.out
                    have H16a := Lib.hid (read_str S (HD9.out.below HB3.out) f hfm (by omega))
                    have H16b := Lib.hid (fun w' (hb : Below wr.heap.size wr w') => read_str S ((HX9.out.below HB3.out).below hb) f hfm (by omega))
                    have HLt3 := Lib.hid hlt3
                    clear hS hS2 hmem hfm hfl hf'
                    go_wp2_with fail
                    refine H16a.out.mono ?_
                    rintro e w10 ⟨Aa, ma, rfl, hBa, hb10⟩
                    have HBa := Lib.hid hBa
                    have HB10 := Lib.hid hb10
                    have d1 : w10.cell? ⟨g1, k3, none⟩ = some (.string S) := (hb10.cell (p := ⟨g1, k3, none⟩) (block_lt_of_cell hc1)).trans hc1
                    have d2 : w10.cell? ⟨g2, k3, none⟩ = some (.string S) := (hb10.cell (p := ⟨g2, k3, none⟩) (block_lt_of_cell hc2)).trans hc2
                    clear hBa hb10 hc1 hc2 H16a
                    go_wp2_with fail
                    refine (H16b.out _ HB10.out).mono ?_
                    rintro e w11 ⟨Ab, mb', rfl, hBb, hb11⟩
                    obtain ⟨T, hT⟩ : ∃ T, T = textOf (rdL c f) := ⟨_, rfl⟩
                    have HBa11 := Lib.hid (HBa.out.belowS hb11)
                    have HBb11 := Lib.hid hBb
                    have HB11 := Lib.hid (HB3.out.trans ((HB10.out.trans (hb11.mono HB10.out.size)).mono HB3.out.size))
                    have x1 : w11.cell? ⟨g1, k3, none⟩ = some (.string S) := (hb11.cell (p := ⟨g1, k3, none⟩) (block_lt_of_cell d1)).trans d1
                    have x2 : w11.cell? ⟨g2, k3, none⟩ = some (.string S) := (hb11.cell (p := ⟨g2, k3, none⟩) (block_lt_of_cell d2)).trans d2
                    have y1 : ∀ q, (convert 33 9 (.slice Aa ma ma)).run Try.prog (w11.drewN q) = .ok (.string T) (w11.drewN q) := fun q => by rw [hT]; exact (HBa11.out.drewN q).text ma
                    have y2 : ∀ q, (convert 33 9 (.slice Ab mb' mb')).run Try.prog (w11.drewN q) = .ok (.string T) (w11.drewN q) := fun q => by rw [hT]; exact (HBb11.out.drewN q).text mb'
                    clear hBb hb11 d1 d2 hT H16b
                    go_wp2_with fail
                    go_quiet (fail)
                    go_wp2_with fail
                    go_roundw
                    case rel => exact ⟨k3 + 1, Nat.succ_le_of_lt HLt3.out, by go_num, below_draws HB11.out _⟩
                    case measure => have hh := HLt3.out; simp [intOf]; omega
                  · obtain rfl : k3 = nl := by omega
                    go_wp2_with fail
                    go_ret
                    exact ⟨rfl, HBase.out.trans (HB3.out.mono HBase.out.size)⟩
      · have H8 := Lib.hid (fun w' => new_bad w' cap (by omega))
        clear f1 f2 hc
        go_enter Try.func4, Try.ntmps4
        go_wp2_with (first | (go_at_call 6; refine (H6.out _ (Below.refl _ _)).mono ?_; rintro e w1 ⟨rfl, hb⟩; have HB1 := Lib.hid hb; clear hb) | (go_at_call 7; first | (refine (H71.out _ HB1.out).mono ?_; rintro e w2 ⟨rfl, hb⟩; have HB2 := Lib.hid hb; clear hb HB1) | (refine (H72.out _ HB2.out).mono ?_; rintro e w3 ⟨rfl, hb⟩; have HB3 := Lib.hid hb; clear hb)) | (go_at_call 8; refine (H8.out _).mono ?_; rintro e w4 ⟨rfl, hb⟩; have HB4 := Lib.hid (HB3.out.trans (hb.mono HB3.out.size)); clear hb))
        go_ret
        exact ⟨rfl, HB4.out⟩
    · rw [decide_eq_true f1] at H71
      rw [decide_eq_false f2] at H72
      clear f1 f2
      go_enter Try.func4, Try.ntmps4
      go_wp2_with fail
      refine (H6.out _ (Below.refl _ _)).mono ?_
      rintro e w1 ⟨rfl, hb⟩
      have HB1 := Lib.hid hb
      clear hb
      go_wp2_with fail
      refine (H71.out _ HB1.out).mono ?_
      rintro e w2 ⟨rfl, hb⟩
      have HB2 := Lib.hid hb
      clear hb
      go_wp2_with fail
      refine (H72.out _ HB2.out).mono ?_
      rintro e w3 ⟨rfl, hb⟩
      have HB3 := Lib.hid hb
      clear hb
      go_wp2_with fail
      refine (H6.out _ HB3.out).mono ?_
      rintro e w4 ⟨rfl, hb⟩
      go_wp2_with fail
      go_ret
      exact ⟨rfl, hb⟩
  · rw [decide_eq_false f1] at H71
    clear f1
    go_enter Try.func4, Try.ntmps4
    go_wp2_with fail
    refine (H6.out _ (Below.refl _ _)).mono ?_
    rintro e w1 ⟨rfl, hb⟩
    have HB1 := Lib.hid hb
    clear hb
    go_wp2_with fail
    refine (H71.out _ HB1.out).mono ?_
    rintro e w2 ⟨rfl, hb⟩
    have HB2 := Lib.hid hb
    clear hb
    go_wp2_with fail
    refine (H6.out _ HB2.out).mono ?_
    rintro e w3 ⟨rfl, hb⟩
    go_wp2_with fail
    go_ret
    exact ⟨rfl, hb⟩
end Go.Proofs.Ytedhbcaakdfcbaa.disk
