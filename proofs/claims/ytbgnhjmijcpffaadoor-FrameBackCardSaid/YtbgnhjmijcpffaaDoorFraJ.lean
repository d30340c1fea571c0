/- What Scan answers. -/
import Derived.Test.YtbgnhjmijcpffaaDoorFraI
namespace Go.Proofs.YtbgnhjmijcpffaaDoor.frm
open Go.ChangeShapes Go.WideShapes Go.ChangeAt Go.RowKit
open Go.Proofs.YtbgnhjmijcpffaaDoor.codec (Bytes vals vals_append vals_length vals_one OutIs More Made New bytesOf byteAt bytesOf_length bytesOf_lt Fits strOf)
set_option linter.unusedVariables false
set_option maxRecDepth 100000
set_option linter.unusedSimpArgs false

theorem head_of_right {l : List Nat} {i : Nat} (hr : rightB (l.drop i) = true) : headL' (l.drop i) = headC ((l.drop i).getD 3 0) (numOf4 (l.drop i)) (told l i) ∧ (told l i).length = 32 := by
  have h := right_long hr
  exact ⟨by unfold headL' told; rw [if_pos hr], by simp [told]; omega⟩
theorem head_cells {w : World} {D k m : Nat} {d : List Nat} {t : TypeId} {fr : Nat × Nat} (h : w.heap[D]? = some (.cells (headC k m d) t fr)) : w.cell? ⟨D, 0, none⟩ = some (.int .i64 k) ∧ w.cell? ⟨D, 1, none⟩ = some (.int .i64 m) ∧ w.rangeAt D 2 (vals d) := by
  refine ⟨by rw [cell_of_row _ _ _ _ _ _ h]; rfl, by rw [cell_of_row _ _ _ _ _ _ h]; rfl, fun j v hv => ?_⟩
  rw [cell_of_row _ _ _ _ _ _ h]
  unfold headC
  rw [show 2 + j = j + 1 + 1 by omega]
  simpa using hv
theorem range_below {w w' : World} {D o : Nat} {cs : List Value} (h : Below w.heap.size w w') (hD : D < w.heap.size) (hr : w.rangeAt D o cs) : w'.rangeAt D o cs := fun j v hv => by
  have := hr j v hv
  rw [← this]
  exact h.cell (p := ⟨D, o + j, none⟩) hD
/-- What is scanned goes into a list of one's own. -/
def Found (W : World) (E : TypeId) (l : List Nat) (v : Value) (torn : Nat) (w : World) : Prop := ∃ xs : List X, Recs W.heap.size E w v xs ∧ Below W.heap.size W w ∧ scan l 0 0 = (xs.map X.r, torn)
/-- What was found ahead of a place. -/
def Sofar (W : World) (E : TypeId) (l : List Nat) (v : Value) (k t : Nat) (w : World) : Prop := ∃ xs : List X, Recs W.heap.size E w v xs ∧ Below W.heap.size W w ∧ xs.length ≤ k ∧ scan l 0 0 = (xs.map X.r ++ (scan l k t).1, (scan l k t).2)
theorem Sofar.below {W w w' : World} {E : TypeId} {l : List Nat} {v : Value} {k t : Nat} (h : Sofar W E l v k t w) (hb : Below w.heap.size w w') : Sofar W E l v k t w' := by
  obtain ⟨xs, h1, h2, h3, h4⟩ := h
  exact ⟨xs, h1.below hb, h2.trans (hb.mono h2.size), h3, h4⟩
theorem Sofar.bel {W w : World} {E : TypeId} {l : List Nat} {v : Value} {k t : Nat} (h : Sofar W E l v k t w) : Below W.heap.size W w := by
  obtain ⟨xs, h1, h2, h3, h4⟩ := h
  exact h2
theorem Sofar.found {W w : World} {E : TypeId} {l : List Nat} {v : Value} {k t torn : Nat} (h : Sofar W E l v k t w) (hs : scan l k t = ([], torn)) : Found W E l v torn w := by
  obtain ⟨xs, h1, h2, h3, h4⟩ := h
  rw [hs] at h4
  exact ⟨xs, h1, h2, by simpa using h4⟩
theorem Sofar.on {W w : World} {E : TypeId} {l : List Nat} {v : Value} {k t k' t' : Nat} (h : Sofar W E l v k t w) (hk : k ≤ k') (hs : scan l k t = scan l k' t') : Sofar W E l v k' t' w := by
  obtain ⟨xs, h1, h2, h3, h4⟩ := h
  exact ⟨xs, h1, h2, by omega, by rw [← hs]; exact h4⟩
theorem sofar_start (W : World) (E : TypeId) (l : List Nat) : Sofar W E l (.slice none 0 0) 0 0 W := ⟨[], Recs.nil _ _ _, Below.refl _ _, by simp, by simp⟩

theorem pay_bytes {w : World} {b o n i m : Nat} {l : List Nat} {Ap : Addr} (h : Bytes w (some ⟨b, o, none⟩) n l) (hm : m = numOf4 (l.drop i)) (hi : i + 44 + m ≤ n) (hA : 0 < m → Ap = ⟨b, o + (i + 44), none⟩) : Bytes w (some Ap) m (payOf l i) := by
  unfold payOf
  rw [← hm]
  rcases Nat.eq_zero_or_pos m with h0 | h0
  · rw [h0, List.take_zero]
    exact ⟨rfl, by simp, fun h => absurd h (by omega)⟩
  · rw [hA h0]
    exact bytes_take (bytes_drop h (i + 44) (by omega)) m (by omega)
theorem copied_recs {W w5 w6 : World} {E : TypeId} {v : Value} {xs : List X} {A : Option Addr} {m : Nat} {p : List Nat} (h1 : Recs W.heap.size E w5.drew v xs) (h2 : Below W.heap.size W w5) (hp : Bytes w5.drew A m p) (hw : w6 = w5.drew.alloc (.cells (vals p).toArray 5)) :
    Recs W.heap.size E w6 v xs ∧ Bytes w6 (some ⟨w5.drew.heap.size, 0, none⟩) m p ∧ W.heap.size ≤ w6.heap.size ∧ (∀ ad, (some ⟨w5.drew.heap.size, 0, none⟩ : Option Addr) = some ad → 0 < m → v.ownBlock ≠ some ad.block) ∧ Below W.heap.size W w6 := by
  subst hw
  have hb : Below W.heap.size W w5.drew := ⟨h2.os, h2.tape, h2.output, h2.size, h2.block⟩
  refine ⟨h1.alloc _, lit_at w5.drew p hp.2.1 _ _ rfl hp.1, Nat.le_trans hb.size (by simp), fun ad e _ e' => ?_, hb.alloc hb.size _⟩
  cases e
  exact absurd (h1.1.lt _ e').2 (Nat.lt_irrefl _)
theorem cell_new {w5 w6 : World} {D i : Nat} {ob : Obj} (hD : D < w5.heap.size) (hw : w6 = w5.drew.alloc ob) : w6.cell? ⟨D, i, none⟩ = w5.drew.cell? ⟨D, i, none⟩ := by
  subst hw
  exact World.cell?_alloc_lt _ _ _ hD
theorem sofar_rec {W w : World} {E : TypeId} {l : List Nat} {v : Value} {xs : List X} {A : Option Addr} {i k e m c kd : Nat} (hr : Recs W.heap.size E w v (xs ++ [⟨⟨i, kd, payOf l i⟩, A, m, c⟩])) (hb : Below W.heap.size W w) (hx : xs.length ≤ i) (hk : i < e)
    (h4 : scan l 0 0 = (xs.map X.r ++ (scan l i k).1, (scan l i k).2)) (hc : scan l i k = (recOf l i :: (scan l e e).1, (scan l e e).2)) (hkd : kd = (l.drop i).getD 3 0) : Sofar W E l v e e w := by
  subst hkd
  refine ⟨_, hr, hb, by simp; omega, ?_⟩
  rw [h4, hc]
  simp [recOf]
set_option maxHeartbeats 2000000 in
theorem scan_any (W : World) (A : Option Addr) (n c : Nat) (l : List Nat) (hB : Bytes W A n l) (hc : n ≤ c) (hnm : n ≤ 50000) (hL : sumDoor.Laid W) :
    Calls Tryd.prog 10 #[.slice A n c] W fun e w' => ∃ v torn, e = .returned (.tuple #[v, .int .i64 (torn : Nat)]) ∧ Found W 61 l v torn w' := by
  have HB := Lib.hid hB
  have HL := Lib.hid hL
  have HS := Lib.hid (sofar_start W 61 l)
  have HZ := Lib.hid (sizeL [])
  clear hB hL
  go_enter Tryd.func10, Tryd.ntmps10
  go_wp2
  go_loopw [4, 5] (fun v d wr => ∃ k : Nat, k ≤ n ∧ d = .int .i64 k ∧ Sofar W 61 l v k k wr) (fun _ d _ => n - (intOf d).toNat)
  case atStart => exact ⟨0, Nat.zero_le _, rfl, HS.out⟩
  case round =>
    clear HS
    obtain ⟨k, hk, rfl, hso⟩ := hrel
    have HSo := Lib.hid hso
    clear hso
    by_cases hlt : k < n
    · have HNH := Lib.hid (nextHead_any wr A n c k l (HB.out.below HB.out.lt HSo.out.bel) hc hnm hk)
      cases hnx : nx l (n - k) k with
      | none =>
        have HF := Lib.hid (HSo.out.found (nx_none l k (n - k) k (by rw [HB.out.1]; omega) hnx))
        rw [hnx] at HNH
        clear hnx
        go_wp2_with (first
          | (go_at_call 21; refine (HNH.out _ rfl).mono ?_; rintro e w1 ⟨rfl, hb⟩; have HB1 := Lib.hid hb; clear hb)
          | (refine wpList_store_row rfl 57 (.tmp 7) (.tmp 20) rfl w1.heap.size zeroC rfl rfl 57 zeroC (heap_alloc_new w1 (.cells zeroC 57)) (size57 0 0 (List.replicate 32 0) (by simp)) rfl (all_head 0 0 (List.replicate 32 0)) ?_; rw [World.setRow_alloc_new]; have HB2 := Lib.hid (HB1.out.alloc HB1.out.size (.cells zeroC 57)); generalize w1.alloc (.cells zeroC 57) = w2 at *))
        go_ret2
        obtain ⟨xs, h1, h2, h3⟩ := HF.out
        exact ⟨_, k, rfl, xs, h1.below HB2.out, h2.trans (HB2.out.mono h2.size), h3⟩
      | some i =>
        obtain ⟨hsk, hki, hin, hr⟩ := nx_some l k i (n - k) k (by rw [HB.out.1]; omega) hnx
        obtain ⟨hhd, hdl⟩ := head_of_right hr
        obtain ⟨hlong, hm3⟩ := right_long hr
        rw [HB.out.1] at hin hlong
        rw [hnx] at HNH
        simp only [hhd] at HNH
        clear hnx hhd
        obtain ⟨m, hm⟩ : ∃ m, m = numOf4 (l.drop i) := ⟨_, rfl⟩
        rw [← hm] at HNH hm3
        obtain ⟨kd, hkd⟩ : ∃ kd, kd = (l.drop i).getD 3 0 := ⟨_, rfl⟩
        rw [← hkd] at HNH
        obtain ⟨d, hd⟩ : ∃ d, d = told l i := ⟨_, rfl⟩
        rw [← hd] at HNH hdl
        have HP := Lib.hid (size57 kd m d hdl)
        have HA := Lib.hid (all_head kd m d)
        have HZc := Lib.hid (show zeroC.size = (headC kd m d).size by rw [headC_size _ _ _ hdl]; rfl)
        have HM := Lib.hid hm
        have HKd := Lib.hid hkd
        have HD := Lib.hid hd
        have HDl := Lib.hid hdl
        have HR := Lib.hid hr
        have HSk := Lib.hid hsk
        obtain ⟨b, o, rfl, -⟩ := HB.out.2.2 (by omega)
        clear hm hkd hd hdl hr hsk
        by_cases ht : n < i + 44 + m
        · have HF := Lib.hid ((HSo.out.on hki HSk.out).found (scan_torn l i k (by rw [HB.out.1]; omega) HR.out (by rw [HB.out.1, ← HM.out]; omega)))
          go_wp2_with (first
            | (go_at_call 21; refine (HNH.out _ rfl).mono ?_; rintro e w1 ⟨rfl, hb⟩; have HB1 := Lib.hid hb; clear hb)
            | (refine wpList_store_row rfl 57 (.tmp 7) (.tmp 20) rfl w1.heap.size (headC kd m d) rfl rfl 57 zeroC (heap_alloc_new w1 (.cells zeroC 57)) HP.out HZc.out HA.out ?_; rw [World.setRow_alloc_new]; have HB2 := Lib.hid (HB1.out.alloc HB1.out.size (.cells (headC kd m d) 57)); obtain ⟨c0, c1, -⟩ := head_cells (heap_alloc_new w1 (.cells (headC kd m d) 57)); generalize w1.alloc (.cells (headC kd m d) 57) = w2 at *; generalize w1.heap.size = D at *))
          go_ret2
          obtain ⟨xs, h1, h2, h3⟩ := HF.out
          exact ⟨_, i, rfl, xs, h1.below HB2.out, h2.trans (HB2.out.mono h2.size), h3⟩
        · have ht' : i + 44 + m ≤ n := by omega
          by_cases hci : c = i + 44
          · have HM0 : Hid (m = 0) := show m = 0 by omega
            have HCi := Lib.hid hci
            have h0 : c - (i + 44) = 0 := by omega
            clear hci
            go_wp2_with (first
              | (go_at_call 21; refine (HNH.out _ rfl).mono ?_; rintro e w1 ⟨rfl, hb⟩; have HB1 := Lib.hid hb; clear hb)
              | (refine wpList_store_row rfl 57 (.tmp 7) (.tmp 20) rfl w1.heap.size (headC kd m d) rfl rfl 57 zeroC (heap_alloc_new w1 (.cells zeroC 57)) HP.out HZc.out HA.out ?_; rw [World.setRow_alloc_new]; have HB2 := Lib.hid (HB1.out.alloc HB1.out.size (.cells (headC kd m d) 57)); obtain ⟨c0, c1, cr⟩ := head_cells (heap_alloc_new w1 (.cells (headC kd m d) 57)); have HCr := Lib.hid cr; clear cr; generalize w1.alloc (.cells (headC kd m d) 57) = w2 at *; generalize w1.heap.size = D at *))
            rw [show i + 44 + m - (i + 44) = m by omega]
            have HPB : Hid (∀ w', Below W.heap.size W w' → Bytes w' (some ⟨b, o, none⟩) m (payOf l i)) := fun w' h => pay_bytes (HB.out.below HB.out.lt h) HM.out ht' (fun h => absurd HM0.out (by omega))
            have HCp : Hid (m ≤ c - (i + 44)) := by have := HM0.out; show m ≤ _; omega
            clear HM0 HCi h0
            generalize c - (i + 44) = cp at *
            have hso2 := (HSo.out.on hki HSk.out).below HB2.out
            have HSo2 := Lib.hid hso2
            have HSM := Lib.hid (show ∀ w', Below w2.heap.size w2 w' → Calls Tryd.prog 22 #[.slice (some ⟨b, o, none⟩) m cp] w' fun e w'' => e = .returned (.agg (vals (dig (payOf l i))).toArray) ∧ Below w2.heap.size w2 w'' from fun w' h => (dig_prog w' (some ⟨b, o, none⟩) m cp _ (HPB.out w' (HSo2.out.bel.trans (h.mono HSo2.out.bel.size))) (by omega) HCp.out (HL.out.below HL.out.lt (HSo2.out.bel.trans (h.mono HSo2.out.bel.size)))).mono fun e w'' h2 => ⟨h2.1, h.trans (h2.2.mono h.size)⟩)
            have HEq := Lib.hid (fun w' => eq_bytes w' (dig (payOf l i)) d (dig_length _) HDl.out (dig_lt _) (by rw [HD.out]; exact fun x hx => HB.out.2.1 x (List.mem_of_mem_drop (List.mem_of_mem_drop (List.mem_of_mem_take hx)))))
            have hDl : D < w2.heap.size := block_lt_of_cell c0
            have HDL := Lib.hid hDl
            have h54 := Tryd.underlying54
            have hsz : (Tryd.prog.info? 54).map (·.size) = some (vals d).length := by have := size54 d HDl.out; simpa using this
            obtain ⟨bb, hbb⟩ : ∃ bb, bb = decide (dig (payOf l i) = d) := ⟨_, rfl⟩
            rw [← hbb] at HEq
            have HBB := Lib.hid hbb
            clear hso2 hDl hbb HNH
            obtain ⟨e, he⟩ : ∃ e, e = i + 44 + m := ⟨_, rfl⟩
            have HE := Lib.hid he
            have hen : e ≤ n := by omega
            have ee : ((i : Int) + 44 + (m : Int)) = (e : Nat) := by omega
            rw [ee]
            have hik : k < e := by omega
            have hie : i < e := by omega
            clear he ee ht ht'
            refine wp_region_noPanic ?_
            refine wp_region_held_drew (S := fun w' => Below w2.heap.size w2 w') (by kernel_rfl) (codec.below_draws (Below.refl _ _) 1) (fun hHeld => ?_)
            refine wpAnyH_take (i := 0) (v := .slice (some ⟨b, o, none⟩) m cp) rfl (by kernel_rfl) (by kernel_rfl) (by kernel_rfl) (fun _ _ _ h => h) (Or.inl ⟨by rfl, fun w' _ => by go_simp⟩) hHeld ?_
            refine wpAnyH_take (i := 2) (v := .pointer (some ⟨D, 2, none⟩)) rfl (by kernel_rfl) (by kernel_rfl) (by kernel_rfl) (fun _ _ _ h => h) (Or.inl ⟨by rfl, fun w' _ => by go_simp⟩) hHeld ?_
            refine wpAnyH_take (i := 3) (v := .agg (vals d).toArray) rfl (by kernel_rfl) (by kernel_rfl) (by kernel_rfl) (fun _ _ _ h => h) (yieldsIf_load_mid (by rfl) 54 (.tmp 47) rfl D 2 rfl (vals d) _ (fun _ hw => range_below hw HDL.out HCr.out) h54 rfl hsz) hHeld ?_
            refine wpAnyH_ready (rs := [1]) (by kernel_rfl) (by simp) ?_
            refine AllReadyH.cons rfl (fun K hK => ?_) AllReadyH.nil
            go_simp
            refine (HSM.out _ hHeld).mono ?_
            rintro e5 w5 ⟨rfl, hb5⟩
            go_wp2_with fail
            refine hK.out _ _ hb5 (fun hH5 => ?_)
            clear hK K hHeld
            have hq := HEq.out
            refine wpAnyH_take (i := 4) (v := .bool bb) rfl (by kernel_rfl) (by kernel_rfl) (by kernel_rfl) (fun _ _ _ h => h) (Or.inl ⟨by rfl, fun w' _ => by go_simp⟩) hH5 ?_
            refine wpAnyH_done (by kernel_rfl) ?_ _
            refine NoPanic.normal ?_
            have HSo5 := Lib.hid (HSo2.out.below hH5)
            have d0 : w5.cell? ⟨D, 0, none⟩ = some (.int .i64 kd) := by rw [← c0]; exact hH5.cell (p := ⟨D, 0, none⟩) HDL.out
            clear hq hH5 HSM HEq HSo2 HB2 c0 c1 HCr hb5
            cases bb with
            | false =>
              have hne : dig (payOf l i) ≠ told l i := by
                have := HBB.out
                rw [HD.out] at this
                simpa using this.symm
              have HSo6 := Lib.hid (HSo5.out.on (k' := e) (t' := e) (by omega) (scan_bad l i k e (by rw [HB.out.1]; omega) HR.out (by rw [← HM.out]; exact HE.out) (by rw [HB.out.1]; exact hen) hne))
              clear hne
              go_wp2_with fail
              go_roundw
              case rel => ((repeat apply Exists.intro); exact ⟨⟨e, hen, rfl, HSo6.out⟩, rfl⟩)
              case measure => (show n - e < n - k; omega)
            | true =>
              have heq : dig (payOf l i) = told l i := by
                have := HBB.out
                rw [HD.out] at this
                simpa using this.symm
              have HSc := Lib.hid (scan_rec l i k e (by rw [HB.out.1]; omega) HR.out (by rw [← HM.out]; exact HE.out) (by rw [HB.out.1]; exact hen) heq)
              obtain ⟨xs, r1, r2, r3, r4⟩ := HSo5.out
              have R1 := Lib.hid (show Recs W.heap.size 61 w5.drew u4 xs from r1.drewN 1)
              have R2 := Lib.hid r2
              have R3 := Lib.hid r3
              have R4 := Lib.hid r4
              have HPb := Lib.hid (show Bytes w5.drew _ m (payOf l i) from (HPB.out w5 r2).drewN 1)
              have d1 : w5.drew.cell? ⟨D, 0, none⟩ = some (.int .i64 kd) := d0
              have HDl5 := Lib.hid (block_lt_of_cell d0)
              clear heq r1 r2 r3 r4 HSo5
              go_wp2_with fail
              go_region_law (first
                | (refine step_append_rec rfl (.tmp 50) (.tmp 57) 29 61 rfl Tryd.underlying29 infoP W.heap.size u4 xs (by simp [Act.eval, Act.put]) HX6.out.1 HX6.out.2.2.1 (by have := R3.out; omega) ⟨⟨i, kd, payOf l i⟩, some ⟨G, 0, none⟩, m, m⟩ (0, 0) w6.heap.size rfl (by simp [Act.eval, Act.put]) HX6.out.2.1 HX6.out.2.2.2.1 ?_; intro v7 w7 hR7 hb7; have HR7 := Lib.hid hR7; have HB7 := Lib.hid (HX6.out.2.2.2.2.trans hb7); clear hR7 hb7)
                | (go_simp; go_at_call 23; refine (copied_any _ _ m cp _ HPb.out (by omega)).mono ?_; rintro e6 w6 ⟨rfl, hw6⟩; have HX6 := Lib.hid (copied_recs R1.out R2.out HPb.out hw6); have d6 : w6.cell? ⟨D, 0, none⟩ = some (.int .i64 kd) := (cell_new HDl5.out hw6).trans d1; obtain ⟨G, hG⟩ : ∃ G, G = w5.drew.heap.size := ⟨_, rfl⟩; rw [← hG] at HX6 ⊢; clear hw6 hG))
              all_goals
                have HSo7 : Hid (Sofar W 61 l v7 e e w7) := sofar_rec HR7.out HB7.out R3.out hie R4.out HSc.out HKd.out
                clear d0 d1 d6 HX6 HR7 HB7 R1 R2 R3 R4 HSc HPb HPB
                go_wp2
                go_roundw
                case rel => ((repeat apply Exists.intro); exact ⟨⟨e, hen, rfl, HSo7.out⟩, rfl⟩)
                case measure => (show n - e < n - k; omega)
          · go_wp2_with (first
              | (go_at_call 21; refine (HNH.out _ rfl).mono ?_; rintro e w1 ⟨rfl, hb⟩; have HB1 := Lib.hid hb; clear hb)
              | (refine wpList_store_row rfl 57 (.tmp 7) (.tmp 20) rfl w1.heap.size (headC kd m d) rfl rfl 57 zeroC (heap_alloc_new w1 (.cells zeroC 57)) HP.out HZc.out HA.out ?_; rw [World.setRow_alloc_new]; have HB2 := Lib.hid (HB1.out.alloc HB1.out.size (.cells (headC kd m d) 57)); obtain ⟨c0, c1, cr⟩ := head_cells (heap_alloc_new w1 (.cells (headC kd m d) 57)); have HCr := Lib.hid cr; clear cr; generalize w1.alloc (.cells (headC kd m d) 57) = w2 at *; generalize w1.heap.size = D at *))
            rw [show i + 44 + m - (i + 44) = m by omega]
            have HPB : Hid (∀ w', Below W.heap.size W w' → Bytes w' (some ⟨b, o + (i + 44), none⟩) m (payOf l i)) := fun w' h => pay_bytes (HB.out.below HB.out.lt h) HM.out ht' (fun _ => rfl)
            have HCp : Hid (m ≤ c - (i + 44)) := by show m ≤ _; omega
            clear hci
            generalize c - (i + 44) = cp at *
            have hso2 := (HSo.out.on hki HSk.out).below HB2.out
            have HSo2 := Lib.hid hso2
            have HSM := Lib.hid (show ∀ w', Below w2.heap.size w2 w' → Calls Tryd.prog 22 #[.slice (some ⟨b, o + (i + 44), none⟩) m cp] w' fun e w'' => e = .returned (.agg (vals (dig (payOf l i))).toArray) ∧ Below w2.heap.size w2 w'' from fun w' h => (dig_prog w' (some ⟨b, o + (i + 44), none⟩) m cp _ (HPB.out w' (HSo2.out.bel.trans (h.mono HSo2.out.bel.size))) (by omega) HCp.out (HL.out.below HL.out.lt (HSo2.out.bel.trans (h.mono HSo2.out.bel.size)))).mono fun e w'' h2 => ⟨h2.1, h.trans (h2.2.mono h.size)⟩)
            have HEq := Lib.hid (fun w' => eq_bytes w' (dig (payOf l i)) d (dig_length _) HDl.out (dig_lt _) (by rw [HD.out]; exact fun x hx => HB.out.2.1 x (List.mem_of_mem_drop (List.mem_of_mem_drop (List.mem_of_mem_take hx)))))
            have hDl : D < w2.heap.size := block_lt_of_cell c0
            have HDL := Lib.hid hDl
            have h54 := Tryd.underlying54
            have hsz : (Tryd.prog.info? 54).map (·.size) = some (vals d).length := by have := size54 d HDl.out; simpa using this
            obtain ⟨bb, hbb⟩ : ∃ bb, bb = decide (dig (payOf l i) = d) := ⟨_, rfl⟩
            rw [← hbb] at HEq
            have HBB := Lib.hid hbb
            clear hso2 hDl hbb HNH
            obtain ⟨e, he⟩ : ∃ e, e = i + 44 + m := ⟨_, rfl⟩
            have HE := Lib.hid he
            have hen : e ≤ n := by omega
            have ee : ((i : Int) + 44 + (m : Int)) = (e : Nat) := by omega
            rw [ee]
            have hik : k < e := by omega
            have hie : i < e := by omega
            clear he ee ht ht'
            refine wp_region_noPanic ?_
            refine wp_region_held_drew (S := fun w' => Below w2.heap.size w2 w') (by kernel_rfl) (codec.below_draws (Below.refl _ _) 1) (fun hHeld => ?_)
            refine wpAnyH_take (i := 0) (v := .slice (some ⟨b, o + (i + 44), none⟩) m cp) rfl (by kernel_rfl) (by kernel_rfl) (by kernel_rfl) (fun _ _ _ h => h) (Or.inl ⟨by rfl, fun w' _ => by go_simp⟩) hHeld ?_
            refine wpAnyH_take (i := 2) (v := .pointer (some ⟨D, 2, none⟩)) rfl (by kernel_rfl) (by kernel_rfl) (by kernel_rfl) (fun _ _ _ h => h) (Or.inl ⟨by rfl, fun w' _ => by go_simp⟩) hHeld ?_
            refine wpAnyH_take (i := 3) (v := .agg (vals d).toArray) rfl (by kernel_rfl) (by kernel_rfl) (by kernel_rfl) (fun _ _ _ h => h) (yieldsIf_load_mid (by rfl) 54 (.tmp 47) rfl D 2 rfl (vals d) _ (fun _ hw => range_below hw HDL.out HCr.out) h54 rfl hsz) hHeld ?_
            refine wpAnyH_ready (rs := [1]) (by kernel_rfl) (by simp) ?_
            refine AllReadyH.cons rfl (fun K hK => ?_) AllReadyH.nil
            go_simp
            refine (HSM.out _ hHeld).mono ?_
            rintro e5 w5 ⟨rfl, hb5⟩
            go_wp2_with fail
            refine hK.out _ _ hb5 (fun hH5 => ?_)
            clear hK K hHeld
            have hq := HEq.out
            refine wpAnyH_take (i := 4) (v := .bool bb) rfl (by kernel_rfl) (by kernel_rfl) (by kernel_rfl) (fun _ _ _ h => h) (Or.inl ⟨by rfl, fun w' _ => by go_simp⟩) hH5 ?_
            refine wpAnyH_done (by kernel_rfl) ?_ _
            refine NoPanic.normal ?_
            have HSo5 := Lib.hid (HSo2.out.below hH5)
            have d0 : w5.cell? ⟨D, 0, none⟩ = some (.int .i64 kd) := by rw [← c0]; exact hH5.cell (p := ⟨D, 0, none⟩) HDL.out
            clear hq hH5 HSM HEq HSo2 HB2 c0 c1 HCr hb5
            cases bb with
            | false =>
              have hne : dig (payOf l i) ≠ told l i := by
                have := HBB.out
                rw [HD.out] at this
                simpa using this.symm
              have HSo6 := Lib.hid (HSo5.out.on (k' := e) (t' := e) (by omega) (scan_bad l i k e (by rw [HB.out.1]; omega) HR.out (by rw [← HM.out]; exact HE.out) (by rw [HB.out.1]; exact hen) hne))
              clear hne
              go_wp2_with fail
              go_roundw
              case rel => ((repeat apply Exists.intro); exact ⟨⟨e, hen, rfl, HSo6.out⟩, rfl⟩)
              case measure => (show n - e < n - k; omega)
            | true =>
              have heq : dig (payOf l i) = told l i := by
                have := HBB.out
                rw [HD.out] at this
                simpa using this.symm
              have HSc := Lib.hid (scan_rec l i k e (by rw [HB.out.1]; omega) HR.out (by rw [← HM.out]; exact HE.out) (by rw [HB.out.1]; exact hen) heq)
              obtain ⟨xs, r1, r2, r3, r4⟩ := HSo5.out
              have R1 := Lib.hid (show Recs W.heap.size 61 w5.drew u4 xs from r1.drewN 1)
              have R2 := Lib.hid r2
              have R3 := Lib.hid r3
              have R4 := Lib.hid r4
              have HPb := Lib.hid (show Bytes w5.drew _ m (payOf l i) from (HPB.out w5 r2).drewN 1)
              have d1 : w5.drew.cell? ⟨D, 0, none⟩ = some (.int .i64 kd) := d0
              have HDl5 := Lib.hid (block_lt_of_cell d0)
              clear heq r1 r2 r3 r4 HSo5
              go_wp2_with fail
              go_region_law (first
                | (refine step_append_rec rfl (.tmp 50) (.tmp 57) 29 61 rfl Tryd.underlying29 infoP W.heap.size u4 xs (by simp [Act.eval, Act.put]) HX6.out.1 HX6.out.2.2.1 (by have := R3.out; omega) ⟨⟨i, kd, payOf l i⟩, some ⟨G, 0, none⟩, m, m⟩ (0, 0) w6.heap.size rfl (by simp [Act.eval, Act.put]) HX6.out.2.1 HX6.out.2.2.2.1 ?_; intro v7 w7 hR7 hb7; have HR7 := Lib.hid hR7; have HB7 := Lib.hid (HX6.out.2.2.2.2.trans hb7); clear hR7 hb7)
                | (go_simp; go_at_call 23; refine (copied_any _ _ m cp _ HPb.out (by omega)).mono ?_; rintro e6 w6 ⟨rfl, hw6⟩; have HX6 := Lib.hid (copied_recs R1.out R2.out HPb.out hw6); have d6 : w6.cell? ⟨D, 0, none⟩ = some (.int .i64 kd) := (cell_new HDl5.out hw6).trans d1; obtain ⟨G, hG⟩ : ∃ G, G = w5.drew.heap.size := ⟨_, rfl⟩; rw [← hG] at HX6 ⊢; clear hw6 hG))
              all_goals
                have HSo7 : Hid (Sofar W 61 l v7 e e w7) := sofar_rec HR7.out HB7.out R3.out hie R4.out HSc.out HKd.out
                clear d0 d1 d6 HX6 HR7 HB7 R1 R2 R3 R4 HSc HPb HPB
                go_wp2
                go_roundw
                case rel => ((repeat apply Exists.intro); exact ⟨⟨e, hen, rfl, HSo7.out⟩, rfl⟩)
                case measure => (show n - e < n - k; omega)
    · obtain rfl : k = n := by omega
      have HF := Lib.hid (HSo.out.found (scan_end l k k (by rw [HB.out.1]; omega)))
      go_wp2
      go_ret2
      exact ⟨_, k, rfl, HF.out⟩
end Go.Proofs.YtbgnhjmijcpffaaDoor.frm
