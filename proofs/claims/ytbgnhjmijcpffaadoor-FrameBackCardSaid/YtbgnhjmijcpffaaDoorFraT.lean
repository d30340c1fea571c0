/- The law on frames one behind the other, walked. -/
import Derived.Test.YtbgnhjmijcpffaaDoorFraR
namespace Go.Proofs.YtbgnhjmijcpffaaDoor.frm
open Go.ChangeShapes Go.WideShapes Go.ChangeAt Go.RowKit
open Go.Proofs.YtbgnhjmijcpffaaDoor.codec (Bytes vals vals_append vals_length vals_one OutIs More Made New bytesOf byteAt bytesOf_length bytesOf_lt Fits strOf)
set_option linter.unusedVariables false
set_option maxRecDepth 100000
set_option linter.unusedSimpArgs false

theorem St.form {W w : World} {i : Nat} {v7 v8 : Value} {xs : List X} {fs : List (Nat × List Nat)} (h : St W i v7 v8 xs fs w) : ∃ A c, v7 = .slice A (allF fs).length c ∧ (allF fs).length ≤ c ∧ (A = none → c = 0) ∧ Bytes w A (allF fs).length (allF fs) := by
  rcases h.own.2 with ⟨e, h0⟩ | ⟨g, cap, cur, e, hB, hg, hc, _⟩
  · have h1 : allF fs = [] := List.eq_nil_of_length_eq_zero h0
    exact ⟨none, 0, by rw [h0]; exact e, by omega, fun _ => rfl, by rw [h1]; exact codec.empty_bytes w⟩
  · subst e
    exact ⟨_, cap, rfl, hc, fun e => (by cases e), codec.own_bytes' h.own rfl (allF_lt h.good)⟩

theorem own_below {w w' : World} {B n : Nat} {v : Value} {M : List Value} (h : w.ownsRow B 5 1 v n M) (hb : Below w.heap.size w w') : w'.ownsRow B 5 1 v n M :=
  h.kept (row := none) ⟨hb.os, hb.tape, hb.output, hb.size, fun i hi _ => hb.block i hi⟩ (by cases hv : v.ownBlock <;> simp)
set_option maxHeartbeats 1000000 in
theorem back_long (W : World) (n c kd ct : Nat) (A : Option Addr) (hL : sumDoor.Laid W) (h : 20 < n) (hn : n ≤ 9223372036854775807) :
    Calls Tryd.prog 5 #[.slice A n c, .int .u8 kd, .int .u16 ct] W fun e w' => e = .returned (.bool true) ∧ Below W.heap.size W w' := by
  have HL := Lib.hid hL
  have HW := Lib.hid (awake_any W hL)
  clear hL
  go_enter Tryd.func5, Tryd.ntmps5
  go_wp2_with fail
  refine HW.out.mono ?_
  rintro e w1 ⟨rfl, hb⟩
  have HB1 := Lib.hid hb
  have HW1 := Lib.hid (awake_any w1 (HL.out.below HL.out.lt hb))
  clear hb
  go_wp2_with fail
  refine HW1.out.mono ?_
  rintro e w2 ⟨rfl, hb⟩
  have HB2 := Lib.hid hb
  clear hb
  go_wp2_with fail
  go_ret
  exact ⟨rfl, HB1.out.trans (HB2.out.mono HB1.out.size)⟩

set_option maxHeartbeats 4000000 in
theorem back_walk (W : World) (n c kd ct : Nat) (A : Option Addr) (L : List P) (hS : Slices W A n L) (hn : n ≤ 20) (hkd : kd < 256) (hct : ct < 65536) (hL : sumDoor.Laid W) :
    Calls Tryd.prog 5 #[.slice A n c, .int .u8 kd, .int .u16 ct] W fun e w' => e = .returned (.bool true) ∧ Below W.heap.size W w' := by
  have HL := Lib.hid hL
  have HS := Lib.hid hS
  have HW := Lib.hid (awake_any W hL)
  clear hL hS
  go_enter Tryd.func5, Tryd.ntmps5
  go_wp2_with fail
  refine HW.out.mono ?_
  rintro e w0 ⟨rfl, hb0⟩
  have HB0 := Lib.hid hb0
  have HSt := Lib.hid (st_start w0)
  have HS0 := Lib.hid (HS.out.below hb0)
  have HL0 := Lib.hid (HL.out.below HL.out.lt hb0)
  clear hb0 HW HS HL
  go_wp2
  go_loopw [7, 8, 26] (fun v7 v8 i wr => ∃ (k : Nat) (xs : List X) (fs : List (Nat × List Nat)), k ≤ n ∧ i = .int .i64 k ∧ St w0 k v7 v8 xs fs wr) (fun _ _ i _ => n - (intOf i).toNat)
  case atStart => exact ⟨0, [], [], Nat.zero_le _, rfl, HSt.out⟩
  case round =>
    clear HSt
    obtain ⟨k, xs, fs, hk, rfl, hst⟩ := hrel
    have HSt := Lib.hid hst
    obtain ⟨A7, c7, rfl, hc7, hn7, hB7⟩ := hst.form
    have HC7 := Lib.hid hc7
    have HN7 := Lib.hid hn7
    have HB7 := Lib.hid hB7
    clear hst hc7 hn7 hB7
    by_cases hlt : k < n
    · obtain ⟨b, o, ⟨A1, n1, c1, p1⟩, rfl, hx, hc, hB, hnc, hnm, hnil⟩ := HS0.out.2 k hlt
      simp only [] at hc hB hnc hnm hnil
      unfold maxLen at hnm
      have hcell : wr.cell? ⟨b, o + k, none⟩ = some (.slice A1 n1 c1) := (HSt.out.bel.cell (p := ⟨b, o + k, none⟩) (block_lt_of_cell hc)).trans hc
      have HCell := Lib.hid hc
      have HP := Lib.hid hB
      have HNil := Lib.hid hnil
      clear hx hc hB hnil
      by_cases hbig : 2000 < n1
      · go_wp2
        go_ret
        exact ⟨rfl, HB0.out.trans (HSt.out.bel.mono HB0.out.size)⟩
      · obtain ⟨K, hK⟩ : ∃ K, K = 1 + (kd + k) % 3 := ⟨_, rfl⟩
        have hK1 : 1 ≤ K := by omega
        have hK3 : K ≤ 3 := by omega
        have eK : (1 : Int) + ((kd : Int) + (k : Int)) % 3 = (K : Nat) := by omega
        clear hK
        have HA1 := Lib.hid (show ∀ ad, A1 = some ad → 0 < n1 → ad.block < w0.heap.size from fun ad e h0 => HP.out.lt ad e h0)
        have HPw := Lib.hid (HP.out.below HP.out.lt HSt.out.bel)
        have HAne := Lib.hid (show ∀ ad, A1 = some ad → 0 < n1 → (u8).ownBlock ≠ some ad.block from fun ad e h0 e' => by
          have h1 := HA1.out ad e h0
          have h2 := (HSt.out.recs.1.lt _ e').1
          omega)
        go_wp2_with (first
          | (at_builtin; refine wpList_append_rec2 rfl (.tmp 41) (.tmp 50) 32 40 rfl Tryd.underlying32 infoD w0.heap.size u8 xs rfl HSt.out.recs HSt.out.bel.size (by have := HSt.out.xlen; omega) ⟨⟨(allF fs).length, K, p1⟩, A1, n1, c1⟩ (0, 0) wr.heap.size rfl rfl HPw.out HAne.out ?_; intro v8' w1 hr1 hg1 hat1; have HR1 := Lib.hid hr1; have HM1 := Lib.hid (HSt.out.mid hg1 hat1); have d1 : w1.cell? ⟨b, o + k, none⟩ = some (.slice A1 n1 c1) := (HM1.out.2.2.cell (p := ⟨b, o + k, none⟩) (block_lt_of_cell HCell.out)).trans HCell.out; clear hr1 hg1 hat1)
          | (go_at_call 9; refine (refFrame_any w1 K n1 c1 A1 p1 hK1 hK3 (HP.out.below HP.out.lt HM1.out.2.2) (by omega) HNil.out).mono ?_; rintro e w2 ⟨v3, rfl, hM3⟩; obtain ⟨g3, cap3, rfl, hc3, -⟩ := hM3.form (44 + n1) (by rw [frameL_length, HP.out.1]) (by omega); have HM3 := Lib.hid hM3; clear hM3 hc3)
          | (at_builtin; refine codec.wpList_append_bytes rfl (.tmp 52) (.tmp 58) rfl w0.heap.size (.slice A7 (allF fs).length c7) (allF fs) rfl (own_below HM1.out.1 HM3.out.2) (Nat.le_trans HM1.out.2.2.size HM3.out.2.size) (some ⟨g3, 0, none⟩) (44 + n1) cap3 (frameL K p1) rfl (HM3.out.bytes (by rw [frameL_length, HP.out.1]) (frameL_lt (by omega) HP.out.2.1)) (fun e => by cases e) (by have h1 := allF_le HSt.out.good; rw [HSt.out.len] at h1; omega) ?_; intro v9 w3 ho hg hnn hat; have HSt9 := Lib.hid (HSt.out.step HR1.out HM1.out HM3.out.2 ho hg hat hK1 hK3 (by have := HP.out.1; omega) HP.out.2.1 HA1.out); clear ho hg hnn hat))
        go_roundw
        case rel => first | exact ⟨k + 1, _, _, by omega, by go_num, HSt9.out⟩ | ((repeat apply Exists.intro); exact ⟨⟨k + 1, _, _, by omega, by go_num, HSt9.out⟩, rfl⟩)
        case measure => (show n - ((k : Int) + 1).toNat < n - k; omega)
    · obtain rfl : k = n := by omega
      go_wp2_with fail
      have hM50 : (allF fs).length ≤ 50000 := by
        have h1 := allF_le HSt.out.good
        rw [HSt.out.len] at h1
        omega
      have HQ := Lib.hid (scan_any wr A7 (allF fs).length c7 (allF fs) HB7.out HC7.out hM50 (HL0.out.below HL0.out.lt HSt.out.bel))
      have HSA := Lib.hid (scan_all HSt.out.good)
      refine HQ.out.mono ?_
      rintro e w1 ⟨v, torn, rfl, xs1, hr, hb, hs⟩
      have hs2 := hs.symm.trans HSA.out
      have ht : torn = (allF fs).length := congrArg Prod.snd hs2
      subst ht
      have hmm : xs1.map X.r = xs.map X.r := by rw [HSt.out.told]; exact congrArg Prod.fst hs2
      have hxk := HSt.out.xlen
      have hx1 : xs1.length = k := by
        have := congrArg List.length hmm
        simp at this
        omega
      obtain ⟨A11, c11, rfl, -, hR1⟩ := hr.reads
      have hrec8 := HSt.out.recs.below hb
      obtain ⟨A8, c8, rfl, hc8, hR8⟩ := hrec8.reads
      rw [hx1] at hR1 ⊢
      rw [hxk] at hR8 hc8 ⊢
      have HSm := Lib.hid (same_any w1 A11 A8 k c11 c8 xs1 xs hR1 hR8 hmm (by omega))
      have HR8 := Lib.hid hR8
      have HC8 := Lib.hid hc8
      have HX := Lib.hid hxk
      have HBe := Lib.hid (HSt.out.bel.trans (hb.mono HSt.out.bel.size))
      have HB71 := Lib.hid (HB7.out.below HB7.out.lt hb)
      have HTl := Lib.hid HSt.out.told
      have HGd := Lib.hid HSt.out.good
      have HLn := Lib.hid HSt.out.len
      clear hr hb hs hs2 hmm hx1 hxk hR1 hR8 hrec8 HQ HSA HSt HB7 hc8
      obtain ⟨M, hM⟩ : ∃ M, M = (allF fs).length := ⟨_, rfl⟩
      rw [← hM] at HC7 HB71 hM50 ⊢
      have HMq := Lib.hid hM
      clear hM
      go_wp2_with fail
      refine HSm.out.mono ?_
      rintro e w2 ⟨rfl, hb⟩
      have HR2 := Lib.hid (HR8.out.below hb)
      have HBe2 := Lib.hid (HBe.out.trans (hb.mono HBe.out.size))
      have HB2 := Lib.hid (HB71.out.below HB71.out.lt hb)
      clear hb HR8 HBe HB71 HSm
      by_cases hM0 : M = 0
      · subst hM0
        go_wp2_with fail
        go_ret
        exact ⟨rfl, HB0.out.trans (HBe2.out.mono HB0.out.size)⟩
      · have hMp : 0 < M := by omega
        obtain ⟨T, hT⟩ : ∃ T, T = ct % M := ⟨_, rfl⟩
        have hTM : T < M := by rw [hT]; exact Nat.mod_lt _ hMp
        have eT : (ct : Int) % (M : Int) = (T : Nat) := by rw [hT]; simp
        have hM1 : (1 : Int) ≤ (M : Int) := by omega
        clear hT
        have hMi : ((M : Int) == 0) = false := by rw [beq_eq_false_iff_ne]; omega
        clear hM0
        go_wp2_with fail
        go_loopw [14] (fun i wr => ∃ m q : Nat, m ≤ k ∧ i = .int .i64 m ∧ Hid (wr = w2.drewN q) ∧ (allF (fs.take m)).length ≤ T) (fun i _ => k - (intOf i).toNat)
        case atStart => exact ⟨0, 0, Nat.zero_le _, rfl, rfl, by simp [allF]⟩
        case round =>
          obtain ⟨m, q, hm, rfl, HQ, hST⟩ := hrel
          by_cases hmk : m = k
          · exfalso
            subst hmk
            rw [List.take_of_length_le (by rw [HLn.out]; omega), ← HMq.out] at hST
            omega
          · have hlt' : m < k := by omega
            obtain ⟨b8, o8, ⟨⟨ax, kx, px⟩, Ax, nx, cx⟩, rfl, hx, d0, d1, d2, dB⟩ := (HR2.out.drewN q).2 m hlt'
            rw [← HQ.out] at d0 d1 d2 dB
            obtain ⟨f, hf⟩ : ∃ f, fs[m]? = some f := ⟨_, List.getElem?_eq_getElem (by rw [HLn.out]; exact hlt')⟩
            have hr : ax = (allF (fs.take m)).length ∧ px = f.2 := by
              have h1 := recsF_at fs 0 m f hf
              rw [← HTl.out, List.getElem?_map, hx] at h1
              simp at h1
              exact ⟨h1.1, h1.2.2⟩
            have hnx : nx = f.2.length := by
              have h9 : px.length = nx := dB.1
              rw [← h9, hr.2]
            have HF := Lib.hid hf
            have HAx := Lib.hid hr.1
            have HNx := Lib.hid hnx
            rw [← hr.1] at hST
            have hmi : (m : Int) < (k : Int) := by omega
            have hm0 : (0 : Int) ≤ (m : Int) := by omega
            simp only [] at d0 d2
            clear hx hf hr hnx d1 dB hmk hm
            have V1 := Lib.hid (IntWalk.i64_in ((ax : Int) + 44) (by omega))
            by_cases hc : ax + 44 + nx ≤ T
            · have V2 := Lib.hid (IntWalk.i64_in ((ax : Int) + 44 + (nx : Int)) (by omega))
              have k1 : decide ((ax : Int) + 44 + (nx : Int) ≤ (T : Int)) = true := by simp; omega
              have HT' := Lib.hid (show (allF (fs.take (m + 1))).length ≤ T by rw [allF_take HF.out, ← HAx.out, ← HNx.out]; omega)
              go_wp2_with fail
              have v1 := V1.out
              have v2 := V2.out
              go_quiet (fail)
              clear v1 v2 d0 d2 k1
              have HQ2 : Hid (wr.drewN nq = w2.drewN (q + nq)) := by
                show _ = _
                rw [HQ.out, World.drewN_drewN]
              generalize wr.drewN nq = W2 at *
              go_wp2
              go_roundw
              case rel => first | exact ⟨m + 1, q + nq, by omega, by go_num, HQ2, HT'.out⟩ | ((repeat apply Exists.intro); exact ⟨⟨m + 1, q + nq, by omega, by go_num, HQ2, HT'.out⟩, rfl⟩)
              case measure => (show k - ((m : Int) + 1).toNat < k - m; omega)
            · have V2 := Lib.hid (IntWalk.i64_in ((ax : Int) + 44 + (nx : Int)) (by have := HF.out; have h2 := (HGd.out _ (List.mem_of_getElem? this)).2.2.1; have h3 := HNx.out; omega))
              have k1 : decide ((ax : Int) + 44 + (nx : Int) ≤ (T : Int)) = false := by simp; omega
              have HSC := Lib.hid (scan_cut HGd.out HF.out (T := T) (by rw [← HAx.out]; exact hST) (by rw [← HAx.out, ← HNx.out]; omega))
              rw [← HAx.out] at HSC
              clear hc
              go_wp2_with fail
              have v1 := V1.out
              have v2 := V2.out
              go_quiet (fail)
              clear v1 v2 d0 d2 k1
              have HBe3 : Hid (Below w0.heap.size w0 (wr.drewN nq)) := by
                show Below _ _ _
                rw [HQ.out]
                exact codec.below_draws (codec.below_draws HBe2.out _) _
              have HB3 : Hid (Bytes (wr.drewN nq) A7 M (allF fs)) := by
                show Bytes _ _ _ _
                rw [HQ.out]
                exact (HB2.out.drewN _).drewN _
              have HR3 : Hid (Reads (wr.drewN nq) (some ⟨b8, o8, none⟩) k xs) := by
                show Reads _ _ _ _
                rw [HQ.out]
                exact (HR2.out.drewN _).drewN _
              clear HQ HBe2 HB2 HR2
              generalize wr.drewN nq = W2 at *
              obtain ⟨b7, o7, rfl, -⟩ := HB3.out.2.2 hMp
              have hTc : T ≤ c7 := by have := HC7.out; omega
              go_wp2_with fail
              refine (scan_any W2 (some ⟨b7, o7, none⟩) T c7 ((allF fs).take T) (bytes_take HB3.out T (by omega)) hTc (by omega) (HL0.out.below HL0.out.lt HBe3.out)).mono ?_
              rintro e w3 ⟨v, torn, rfl, xs2, hr, hb, hs⟩
              have hs2 := hs.symm.trans HSC.out
              have ht : torn = ax := congrArg Prod.snd hs2
              subst ht
              have hmm : xs2.map X.r = (xs.take m).map X.r := by
                rw [List.map_take, HTl.out, recsF_take]
                exact congrArg Prod.fst hs2
              have hx1 : xs2.length = m := by
                have := congrArg List.length hmm
                simp at this
                have := HX.out
                omega
              obtain ⟨A12, c12, rfl, -, hR1⟩ := hr.reads
              rw [hx1] at hR1 ⊢
              have hR4 := HR3.out.below hb
              have HSm := Lib.hid (same_any w3 A12 (some ⟨b8, o8, none⟩) m c12 c8 xs2 (xs.take m) hR1 (hR4.take m (by omega)) hmm (by omega))
              have HBe4 := Lib.hid (HBe3.out.trans (hb.mono HBe3.out.size))
              obtain ⟨b9, o9, ⟨⟨ay, ky, py⟩, Ay, ny, cy⟩, e9, hy, d0, -⟩ := hR4.2 m hlt'
              cases e9
              have hay : ay = torn := by
                have h1 := recsF_at fs 0 m f HF.out
                rw [← HTl.out, List.getElem?_map, hy] at h1
                simp at h1
                rw [h1.1, HAx.out]
              rw [hay] at d0
              simp only [] at d0
              have hmc : m ≤ c8 := by have := HC8.out; omega
              clear hr hb hs hs2 hmm hx1 hR1 hR4 hy hay HSC HBe3 HB3 HR3
              go_wp2_with fail
              refine HSm.out.mono ?_
              rintro e w4 ⟨rfl, hb⟩
              have HB5 := Lib.hid (HB0.out.trans ((HBe4.out.trans (hb.mono HBe4.out.size)).mono HB0.out.size))
              clear hb d0
              by_cases hTS : T = torn
              · subst hTS
                go_wp2_with fail
                go_ret
                exact ⟨rfl, HB5.out⟩
              · have hTS' : ((T : Int) == (torn : Int)) = false := by rw [beq_eq_false_iff_ne]; omega
                have hTS2 : ((T : Int) != (torn : Int)) = true := by rw [bne_iff_ne]; omega
                clear hTS
                go_wp2_with fail
                go_ret
                exact ⟨rfl, HB5.out⟩
end Go.Proofs.YtbgnhjmijcpffaaDoor.frm
