/- What the document says of a scan. -/
import Derived.Test.YtbgnhjmijcpffaaDoorFraK
namespace Go.Proofs.YtbgnhjmijcpffaaDoor.frm
open Go.ChangeShapes Go.WideShapes Go.ChangeAt Go.RowKit
open Go.Proofs.YtbgnhjmijcpffaaDoor.codec (Bytes vals vals_append vals_length vals_one OutIs More Made New bytesOf byteAt bytesOf_length bytesOf_lt Fits strOf)
set_option linter.unusedVariables false
set_option maxRecDepth 100000
set_option linter.unusedSimpArgs false

theorem own_form {w : World} {B N : Nat} {v : Value} {M : List Nat} (h : w.ownsRow B 5 1 v M.length (vals M)) (hne : v ≠ .slice none 0 0) (hb : ∀ x ∈ M, x < 256) (hN : M.length = N) :
    ∃ g cap, v = .slice (some ⟨g, 0, none⟩) N cap ∧ B ≤ g ∧ Bytes w (some ⟨g, 0, none⟩) N M ∧ N ≤ cap := by
  subst hN
  rcases h.2 with ⟨e, _⟩ | ⟨g, cap, cur, e, hB, _, hc, _⟩
  · exact absurd e hne
  · subst e
    exact ⟨g, cap, rfl, hB, codec.own_bytes' h rfl hb, hc⟩

theorem copy_rec {W w5 w6 : World} {E : TypeId} {v v5 : Value} {xs : List X} {A : Option Addr} {m : Nat} {p : List Nat} (h1 : Recs W.heap.size E w5 v xs) (h2 : Below W.heap.size W w5) (hp : Bytes w5 A m p)
    (ho : w6.ownsRow w5.heap.size 5 1 v5 ([] ++ p).length (vals ([] ++ p))) (hg : (w5.alloc (.cells #[] 5)).grownBy w6 (Value.slice (some ⟨w5.heap.size, 0, none⟩) 0 0).ownBlock) (hnn : v5 = .slice none 0 0 ↔ Value.slice (some ⟨w5.heap.size, 0, none⟩) 0 0 = .slice none 0 0 ∧ m = 0) :
    ∃ g cap, v5 = .slice (some ⟨g, 0, none⟩) m cap ∧ Recs W.heap.size E w6 v xs ∧ Bytes w6 (some ⟨g, 0, none⟩) m p ∧ W.heap.size ≤ w6.heap.size ∧ (∀ ad, (some ⟨g, 0, none⟩ : Option Addr) = some ad → 0 < m → v.ownBlock ≠ some ad.block) ∧ Below W.heap.size W w6 := by
  have hb : Below w5.heap.size w5 w6 := ((Below.refl _ _).alloc (Nat.le_refl _) _).trans ⟨hg.os, hg.tape, hg.output, hg.size, fun k hk => hg.block k (by simp; omega) (fun e => by
    have := Option.some.inj e
    simp at this
    omega)⟩
  rw [List.nil_append] at ho
  obtain ⟨g, cap, e, hB, hBy, _⟩ := own_form ho (fun e => by have := (hnn.1 e).1; cases this) hp.2.1 hp.1
  have hb' := h2.trans (hb.mono h2.size)
  refine ⟨g, cap, e, h1.below hb, hBy, hb'.size, fun ad e _ e' => ?_, hb'⟩
  cases e
  have := (h1.1.lt _ e').2
  simp at this
  omega
set_option maxHeartbeats 4000000 in
theorem refScan_any (W : World) (A : Option Addr) (n c : Nat) (l : List Nat) (hB : Bytes W A n l) (hc : n ≤ c) (hnm : n ≤ 40000) :
    Calls Tryd.prog 11 #[.slice A n c] W fun e w' => ∃ v torn, e = .returned (.tuple #[v, .int .i64 (torn : Nat)]) ∧ Found W 40 l v torn w' := by
  have HB := Lib.hid hB
  have HS := Lib.hid (sofar_start W 40 l)
  clear hB
  go_enter Tryd.func11, Tryd.ntmps11
  go_wp2
  go_loopw [4, 5, 6] (fun v d t wr => ∃ k tn : Nat, k ≤ n ∧ d = .int .i64 k ∧ t = .int .i64 tn ∧ Sofar W 40 l v k tn wr) (fun _ d _ _ => n - (intOf d).toNat)
  case atStart => exact ⟨0, 0, Nat.zero_le _, rfl, rfl, HS.out⟩
  case round =>
    clear HS
    obtain ⟨k, tn, hk, rfl, rfl, hso⟩ := hrel
    have HSo := Lib.hid hso
    clear hso
    by_cases hlt : k < n
    · obtain ⟨b, o, rfl, -⟩ := HB.out.2.2 (by omega)
      have HNH := Lib.hid (refHead_any wr b o n c k l (HB.out.below HB.out.lt HSo.out.bel) hlt hc hnm)
      by_cases hr : rightB (l.drop k) = true
      · rw [if_pos hr, if_pos hr, hr] at HNH
        obtain ⟨hlong, hm3⟩ := right_long hr
        rw [HB.out.1] at hlong
        obtain ⟨m, hm⟩ : ∃ m, m = numOf4 (l.drop k) := ⟨_, rfl⟩
        obtain ⟨kd, hkd⟩ : ∃ kd, kd = (l.drop k).getD 3 0 := ⟨_, rfl⟩
        rw [← hm, ← hkd] at HNH
        rw [← hm] at hm3
        have HM := Lib.hid hm
        have HKd := Lib.hid hkd
        have HR := Lib.hid hr
        clear hr hm hkd
        by_cases ht : n < k + 44 + m
        · have HF := Lib.hid (HSo.out.found (scan_torn l k tn (by rw [HB.out.1]; omega) HR.out (by rw [HB.out.1, ← HM.out]; omega)))
          go_wp2_with (go_at_call 24; refine HNH.out.mono ?_; rintro e w1 ⟨rfl, hb⟩; have HB2 := Lib.hid hb; clear hb)
          go_ret2
          obtain ⟨xs, h1, h2, h3⟩ := HF.out
          exact ⟨_, k, rfl, xs, h1.below HB2.out, h2.trans (HB2.out.mono h2.size), h3⟩
        · have ht' : k + 44 + m ≤ n := by omega
          by_cases hci : c = k + 44
          · have HM0 : Hid (m = 0) := show m = 0 by omega
            have h0 : c - (k + 44) = 0 := by omega
            have HCi := Lib.hid hci
            clear hci
            go_wp2_with (go_at_call 24; refine HNH.out.mono ?_; rintro e w1 ⟨rfl, hb⟩; have HB2 := Lib.hid hb; clear hb)
            have HPB : Hid (∀ w', Below W.heap.size W w' → Bytes w' (some ⟨b, o, none⟩) m (payOf l k)) := fun w' h => pay_bytes (HB.out.below HB.out.lt h) HM.out ht' (fun h => absurd HM0.out (by omega))
            have HCp : Hid (m ≤ 0) := by have := HM0.out; show m ≤ _; omega
            rw [show k + 44 + m - (k + 44) = m by omega, h0]
            clear HM0 HCi h0
            have HSo2 := Lib.hid (HSo.out.below HB2.out)
            with_reducible refine (dig_ref w1 (some ⟨b, o, none⟩) m 0 (payOf l k) (HPB.out w1 HSo2.out.bel) (by omega) (fun e => by cases e)).mono ?_
            rintro e w2 ⟨rfl, hb2⟩
            obtain ⟨dd, hdd⟩ : ∃ dd, dd = (vals (dig (payOf l k))).toArray := ⟨_, rfl⟩
            have HSo3 := Lib.hid (HSo2.out.below hb2)
            have HA := Lib.hid (all_vals (dig (payOf l k)))
            have HP := Lib.hid (size54 (dig (payOf l k)) (dig_length _))
            have HZ := Lib.hid (show (Array.replicate 32 (Value.int .u8 0)).size = (vals (dig (payOf l k))).toArray.size by simp [vals, dig_length])
            have HRw := Lib.hid (heap_alloc_new w2 (.cells (Array.replicate 32 (Value.int .u8 0)) 54))
            rw [← hdd] at HA HP HZ ⊢
            have HDd := Lib.hid hdd
            clear hb2 hdd HNH HB2 HSo2
            go_wp2_with (refine wpList_store_row rfl 54 (.tmp 11) (.tmp 45) rfl w2.heap.size dd rfl rfl 54 _ HRw.out HP.out HZ.out HA.out ?_; rw [World.setRow_alloc_new]; obtain ⟨D, hD⟩ : ∃ D, D = w2.heap.size := ⟨_, rfl⟩; obtain ⟨w3, hw3⟩ : ∃ w3, w3 = w2.alloc (.cells dd 54) := ⟨_, rfl⟩; rw [← hw3, ← hD]; have HSo4 := Lib.hid (show Sofar W 40 l u4 k tn w3 by rw [hw3]; exact HSo3.out.below ((Below.refl _ _).alloc (Nat.le_refl _) _)); have HD4 := Lib.hid (show Bytes w3 (some ⟨D, 0, none⟩) 32 (dig (payOf l k)) by rw [hw3, HDd.out]; exact lit_at w2 _ (dig_lt _) _ _ hD (dig_length _)); clear hD hw3 HRw HA HP HZ HSo3 HDd)
            obtain ⟨T1, hT1⟩ : ∃ T1, T1 = strOf (dig (payOf l k)) := ⟨_, rfl⟩
            obtain ⟨T2, hT2⟩ : ∃ T2, T2 = strOf (told l k) := ⟨_, rfl⟩
            have c1 : ∀ q, (convert 22 9 (.slice (some ⟨D, 0, none⟩) 32 32)).run Tryd.prog (w3.drewN q) = .ok (.string T1) (w3.drewN q) := fun q => by rw [hT1]; exact (HD4.out.drewN q).text 32
            have hBt : Bytes w3 (some ⟨b, o + (k + 12), none⟩) 32 (told l k) := by
              have := bytes_take (bytes_drop (HB.out.below HB.out.lt HSo4.out.bel) (k + 12) (by omega)) 32 (by omega)
              rw [← List.drop_drop] at this
              exact this
            have c2 : ∀ q, (convert 22 9 (.slice (some ⟨b, o + (k + 12), none⟩) (k + 44 - (k + 12)) (c - (k + 12)))).run Tryd.prog (w3.drewN q) = .ok (.string T2) (w3.drewN q) := fun q => by rw [hT2, show k + 44 - (k + 12) = 32 by omega]; exact (hBt.drewN q).text _
            have c3 : ∀ q, (convert 22 9 (.slice (some ⟨b, o + (k + 12), none⟩) 32 (c - (k + 12)))).run Tryd.prog (w3.drewN q) = .ok (.string T2) (w3.drewN q) := fun q => by rw [hT2]; exact (hBt.drewN q).text _
            have hcn : ¬ c = k + 12 := by omega
            have hsl := fun w g => slice54 w g
            obtain ⟨e, he⟩ : ∃ e, e = k + 44 + m := ⟨_, rfl⟩
            have HE := Lib.hid he
            have hen : e ≤ n := by omega
            have hke : k < e := by omega
            have ee : Hid ((k : Int) + 44 + (m : Int) = (e : Nat)) := by show _ = _; omega
            have W12 := IntWalk.i64_in ((k : Int) + 12) (by omega)
            have W44 := IntWalk.i64_in ((k : Int) + 44) (by omega)
            have HW := Lib.hid (And.intro W12 W44)
            have t12 : Hid (((k : Int) + 12).toNat = k + 12 ∧ ((k : Int) + 44).toNat = k + 44) := ⟨by omega, by omega⟩
            have i1 : (0 : Int) ≤ (k : Int) + 12 := by omega
            have i2 : (k : Int) + 12 ≤ (k : Int) + 44 := by omega
            have i3 : (k : Int) + 44 ≤ (c : Int) := by omega
            by_cases hdg : dig (payOf l k) = told l k
            · have hq : (T1.toList == T2.toList) = true := by rw [hT1, hT2, hdg, beq_self_eq_true]
              have HSc := Lib.hid (scan_rec l k tn e (by rw [HB.out.1]; omega) HR.out (by rw [← HM.out]; exact he) (by rw [HB.out.1]; exact hen) hdg)
              clear he hdg hT1 hT2 hBt
              obtain ⟨t1, t2⟩ := t12.out
              clear t12
              go_quiet (fail)
              clear W12 W44 t1 t2 c1 c2 c3 HD4
              have HSo5 := Lib.hid (HSo4.out.below (codec.below_draws (Below.refl _ _) nq))
              generalize w3.drewN nq = w4 at *
              obtain ⟨xs, r1, r2, r3, r4⟩ := HSo5.out
              have R1 := Lib.hid r1
              have R2 := Lib.hid r2
              have R3 := Lib.hid r3
              have R4 := Lib.hid r4
              have HPb := Lib.hid (HPB.out w4 r2)
              clear r1 r2 r3 r4 HSo4 HSo5 hq
              go_wp2_with (first
                | (at_builtin; refine codec.wpList_append_bytes rfl (.tmp 59) (.tmp 60) rfl w4.heap.size _ [] rfl (World.ownsRow_made w4 #[] 0 (Nat.le_refl _) (Nat.zero_le _) rfl) (by simp) (some ⟨b, o, none⟩) m 0 (payOf l k) rfl (HPb.out.alloc _) (fun e => by cases e) (by simp; omega) ?_; intro v5 w5 ho hg hnn _; have HX5 := Lib.hid (copy_rec R1.out R2.out HPb.out ho hg hnn); clear ho hg hnn; obtain ⟨g5, cap5, rfl, hX5⟩ := HX5.out; have HX6 := Lib.hid hX5; clear hX5 HX5)
                | (at_builtin; refine wpList_append_rec rfl (.tmp 56) (.tmp 63) 32 40 rfl Tryd.underlying32 infoD W.heap.size u4 xs rfl HX6.out.1 HX6.out.2.2.1 (by have := R3.out; omega) ⟨⟨k, kd, payOf l k⟩, some ⟨g5, 0, none⟩, m, cap5⟩ (0, 0) w5.heap.size rfl rfl HX6.out.2.1 HX6.out.2.2.2.1 ?_; intro v6 w6 hR6 hb6; have HSo7 := Lib.hid (show Sofar W 40 l v6 e e w6 from sofar_rec hR6 (HX6.out.2.2.2.2.trans hb6) R3.out hke R4.out HSc.out HKd.out); clear hR6 hb6))
              go_roundw
              case rel => first | exact ⟨e, e, hen, by rw [← ee.out], by rw [← ee.out], HSo7.out⟩ | ((repeat apply Exists.intro); exact ⟨⟨e, e, hen, by rw [← ee.out], by rw [← ee.out], HSo7.out⟩, rfl⟩)
              case measure => (show n - ((k : Int) + 44 + (m : Int)).toNat < n - k; have := HE.out; omega)
            · have hq : (T1.toList == T2.toList) = false := by
                have h2 : (told l k).length = 32 := hBt.1
                have := str_ne (T := T1) (S := T2) (fun e => hdg (codec.strOf_inj (dig_lt _) hBt.2.1 (by rw [← hT1, ← hT2]; exact e)))
                rw [ByteArray.toList_eq T2]
                exact this
              have HSc := Lib.hid (scan_bad l k tn e (by rw [HB.out.1]; omega) HR.out (by rw [← HM.out]; exact he) (by rw [HB.out.1]; exact hen) hdg)
              clear he hdg hT1 hT2 hBt
              obtain ⟨t1, t2⟩ := t12.out
              clear t12
              go_quiet (fail)
              clear W12 W44 t1 t2 c1 c2 c3 HD4
              have HSo5 := Lib.hid ((HSo4.out.below (codec.below_draws (Below.refl _ _) nq)).on (k' := e) (t' := e) (by omega) HSc.out)
              generalize w3.drewN nq = w4 at *
              clear HSo4 hq
              go_wp2_with fail
              go_roundw
              case rel => first | exact ⟨e, e, hen, by rw [← ee.out], by rw [← ee.out], HSo5.out⟩ | ((repeat apply Exists.intro); exact ⟨⟨e, e, hen, by rw [← ee.out], by rw [← ee.out], HSo5.out⟩, rfl⟩)
              case measure => (show n - ((k : Int) + 44 + (m : Int)).toNat < n - k; have := HE.out; omega)
          · go_wp2_with (go_at_call 24; refine HNH.out.mono ?_; rintro e w1 ⟨rfl, hb⟩; have HB2 := Lib.hid hb; clear hb)
            rw [show k + 44 + m - (k + 44) = m by omega]
            have HPB : Hid (∀ w', Below W.heap.size W w' → Bytes w' (some ⟨b, o + (k + 44), none⟩) m (payOf l k)) := fun w' h => pay_bytes (HB.out.below HB.out.lt h) HM.out ht' (fun _ => rfl)
            have HCp : Hid (m ≤ c - (k + 44)) := by show m ≤ _; omega
            clear hci
            generalize c - (k + 44) = cp at *
            have HSo2 := Lib.hid (HSo.out.below HB2.out)
            with_reducible refine (dig_ref w1 (some ⟨b, o + (k + 44), none⟩) m cp (payOf l k) (HPB.out w1 HSo2.out.bel) (by omega) (fun e => by cases e)).mono ?_
            rintro e w2 ⟨rfl, hb2⟩
            obtain ⟨dd, hdd⟩ : ∃ dd, dd = (vals (dig (payOf l k))).toArray := ⟨_, rfl⟩
            have HSo3 := Lib.hid (HSo2.out.below hb2)
            have HA := Lib.hid (all_vals (dig (payOf l k)))
            have HP := Lib.hid (size54 (dig (payOf l k)) (dig_length _))
            have HZ := Lib.hid (show (Array.replicate 32 (Value.int .u8 0)).size = (vals (dig (payOf l k))).toArray.size by simp [vals, dig_length])
            have HRw := Lib.hid (heap_alloc_new w2 (.cells (Array.replicate 32 (Value.int .u8 0)) 54))
            rw [← hdd] at HA HP HZ ⊢
            have HDd := Lib.hid hdd
            clear hb2 hdd HNH HB2 HSo2
            go_wp2_with (refine wpList_store_row rfl 54 (.tmp 11) (.tmp 45) rfl w2.heap.size dd rfl rfl 54 _ HRw.out HP.out HZ.out HA.out ?_; rw [World.setRow_alloc_new]; obtain ⟨D, hD⟩ : ∃ D, D = w2.heap.size := ⟨_, rfl⟩; obtain ⟨w3, hw3⟩ : ∃ w3, w3 = w2.alloc (.cells dd 54) := ⟨_, rfl⟩; rw [← hw3, ← hD]; have HSo4 := Lib.hid (show Sofar W 40 l u4 k tn w3 by rw [hw3]; exact HSo3.out.below ((Below.refl _ _).alloc (Nat.le_refl _) _)); have HD4 := Lib.hid (show Bytes w3 (some ⟨D, 0, none⟩) 32 (dig (payOf l k)) by rw [hw3, HDd.out]; exact lit_at w2 _ (dig_lt _) _ _ hD (dig_length _)); clear hD hw3 HRw HA HP HZ HSo3 HDd)
            obtain ⟨T1, hT1⟩ : ∃ T1, T1 = strOf (dig (payOf l k)) := ⟨_, rfl⟩
            obtain ⟨T2, hT2⟩ : ∃ T2, T2 = strOf (told l k) := ⟨_, rfl⟩
            have c1 : ∀ q, (convert 22 9 (.slice (some ⟨D, 0, none⟩) 32 32)).run Tryd.prog (w3.drewN q) = .ok (.string T1) (w3.drewN q) := fun q => by rw [hT1]; exact (HD4.out.drewN q).text 32
            have hBt : Bytes w3 (some ⟨b, o + (k + 12), none⟩) 32 (told l k) := by
              have := bytes_take (bytes_drop (HB.out.below HB.out.lt HSo4.out.bel) (k + 12) (by omega)) 32 (by omega)
              rw [← List.drop_drop] at this
              exact this
            have c2 : ∀ q, (convert 22 9 (.slice (some ⟨b, o + (k + 12), none⟩) (k + 44 - (k + 12)) (c - (k + 12)))).run Tryd.prog (w3.drewN q) = .ok (.string T2) (w3.drewN q) := fun q => by rw [hT2, show k + 44 - (k + 12) = 32 by omega]; exact (hBt.drewN q).text _
            have c3 : ∀ q, (convert 22 9 (.slice (some ⟨b, o + (k + 12), none⟩) 32 (c - (k + 12)))).run Tryd.prog (w3.drewN q) = .ok (.string T2) (w3.drewN q) := fun q => by rw [hT2]; exact (hBt.drewN q).text _
            have hcn : ¬ c = k + 12 := by omega
            have hsl := fun w g => slice54 w g
            obtain ⟨e, he⟩ : ∃ e, e = k + 44 + m := ⟨_, rfl⟩
            have HE := Lib.hid he
            have hen : e ≤ n := by omega
            have hke : k < e := by omega
            have ee : Hid ((k : Int) + 44 + (m : Int) = (e : Nat)) := by show _ = _; omega
            have W12 := IntWalk.i64_in ((k : Int) + 12) (by omega)
            have W44 := IntWalk.i64_in ((k : Int) + 44) (by omega)
            have HW := Lib.hid (And.intro W12 W44)
            have t12 : Hid (((k : Int) + 12).toNat = k + 12 ∧ ((k : Int) + 44).toNat = k + 44) := ⟨by omega, by omega⟩
            have i1 : (0 : Int) ≤ (k : Int) + 12 := by omega
            have i2 : (k : Int) + 12 ≤ (k : Int) + 44 := by omega
            have i3 : (k : Int) + 44 ≤ (c : Int) := by omega
            by_cases hdg : dig (payOf l k) = told l k
            · have hq : (T1.toList == T2.toList) = true := by rw [hT1, hT2, hdg, beq_self_eq_true]
              have HSc := Lib.hid (scan_rec l k tn e (by rw [HB.out.1]; omega) HR.out (by rw [← HM.out]; exact he) (by rw [HB.out.1]; exact hen) hdg)
              clear he hdg hT1 hT2 hBt
              obtain ⟨t1, t2⟩ := t12.out
              clear t12
              go_quiet (fail)
              clear W12 W44 t1 t2 c1 c2 c3 HD4
              have HSo5 := Lib.hid (HSo4.out.below (codec.below_draws (Below.refl _ _) nq))
              generalize w3.drewN nq = w4 at *
              obtain ⟨xs, r1, r2, r3, r4⟩ := HSo5.out
              have R1 := Lib.hid r1
              have R2 := Lib.hid r2
              have R3 := Lib.hid r3
              have R4 := Lib.hid r4
              have HPb := Lib.hid (HPB.out w4 r2)
              clear r1 r2 r3 r4 HSo4 HSo5 hq
              go_wp2_with (first
                | (at_builtin; refine codec.wpList_append_bytes rfl (.tmp 59) (.tmp 60) rfl w4.heap.size _ [] rfl (World.ownsRow_made w4 #[] 0 (Nat.le_refl _) (Nat.zero_le _) rfl) (by simp) (some ⟨b, o + (k + 44), none⟩) m cp (payOf l k) rfl (HPb.out.alloc _) (fun e => by cases e) (by simp; omega) ?_; intro v5 w5 ho hg hnn _; have HX5 := Lib.hid (copy_rec R1.out R2.out HPb.out ho hg hnn); clear ho hg hnn; obtain ⟨g5, cap5, rfl, hX5⟩ := HX5.out; have HX6 := Lib.hid hX5; clear hX5 HX5)
                | (at_builtin; refine wpList_append_rec rfl (.tmp 56) (.tmp 63) 32 40 rfl Tryd.underlying32 infoD W.heap.size u4 xs rfl HX6.out.1 HX6.out.2.2.1 (by have := R3.out; omega) ⟨⟨k, kd, payOf l k⟩, some ⟨g5, 0, none⟩, m, cap5⟩ (0, 0) w5.heap.size rfl rfl HX6.out.2.1 HX6.out.2.2.2.1 ?_; intro v6 w6 hR6 hb6; have HSo7 := Lib.hid (show Sofar W 40 l v6 e e w6 from sofar_rec hR6 (HX6.out.2.2.2.2.trans hb6) R3.out hke R4.out HSc.out HKd.out); clear hR6 hb6))
              go_roundw
              case rel => first | exact ⟨e, e, hen, by rw [← ee.out], by rw [← ee.out], HSo7.out⟩ | ((repeat apply Exists.intro); exact ⟨⟨e, e, hen, by rw [← ee.out], by rw [← ee.out], HSo7.out⟩, rfl⟩)
              case measure => (show n - ((k : Int) + 44 + (m : Int)).toNat < n - k; have := HE.out; omega)
            · have hq : (T1.toList == T2.toList) = false := by
                have h2 : (told l k).length = 32 := hBt.1
                have := str_ne (T := T1) (S := T2) (fun e => hdg (codec.strOf_inj (dig_lt _) hBt.2.1 (by rw [← hT1, ← hT2]; exact e)))
                rw [ByteArray.toList_eq T2]
                exact this
              have HSc := Lib.hid (scan_bad l k tn e (by rw [HB.out.1]; omega) HR.out (by rw [← HM.out]; exact he) (by rw [HB.out.1]; exact hen) hdg)
              clear he hdg hT1 hT2 hBt
              obtain ⟨t1, t2⟩ := t12.out
              clear t12
              go_quiet (fail)
              clear W12 W44 t1 t2 c1 c2 c3 HD4
              have HSo5 := Lib.hid ((HSo4.out.below (codec.below_draws (Below.refl _ _) nq)).on (k' := e) (t' := e) (by omega) HSc.out)
              generalize w3.drewN nq = w4 at *
              clear HSo4 hq
              go_wp2_with fail
              go_roundw
              case rel => first | exact ⟨e, e, hen, by rw [← ee.out], by rw [← ee.out], HSo5.out⟩ | ((repeat apply Exists.intro); exact ⟨⟨e, e, hen, by rw [← ee.out], by rw [← ee.out], HSo5.out⟩, rfl⟩)
              case measure => (show n - ((k : Int) + 44 + (m : Int)).toNat < n - k; have := HE.out; omega)
      · rw [Bool.not_eq_true] at hr
        rw [hr] at HNH
        have HSo2 := Lib.hid (HSo.out.on (k' := k + 1) (t' := tn) (by omega) (scan_skip l k tn (by rw [HB.out.1]; omega) hr))
        clear hr
        go_wp2_with (go_at_call 24; refine HNH.out.mono ?_; rintro e w1 ⟨rfl, hb⟩; have HSo3 := Lib.hid (HSo2.out.below hb); clear hb)
        go_roundw
        case rel => first | exact ⟨k + 1, tn, by omega, by go_num, rfl, HSo3.out⟩ | ((repeat apply Exists.intro); exact ⟨⟨k + 1, tn, by omega, by go_num, rfl, HSo3.out⟩, rfl⟩)
        case measure => (show n - ((k : Int) + 1).toNat < n - k; omega)
    · obtain rfl : k = n := by omega
      have HF := Lib.hid (HSo.out.found (scan_end l k tn (by rw [HB.out.1]; omega)))
      go_wp2
      go_ret2
      exact ⟨_, tn, rfl, HF.out⟩
end Go.Proofs.YtbgnhjmijcpffaaDoor.frm
