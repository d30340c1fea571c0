/- The law on a log that grows. -/
import Derived.Test.YtfmdhcjniikfdaaGreatDoorLd
/- What the document makes of notes, and where it lies. -/
namespace Go.Proofs.YtfmdhcjniikfdaaGreatDoor.lg
open Go.ChangeShapes Go.WideShapes Go.ChangeAt Go.RowKit
open Go.Proofs.YtfmdhcjniikfdaaGreatDoor.codec (Bytes vals)
open Go.Proofs.YtfmdhcjniikfdaaGreatDoor.bod (cell_at)
set_option linter.unusedVariables false
set_option maxRecDepth 100000
set_option linter.unusedSimpArgs false

theorem ruY_mem {qs : List Y} {i : Nat} {y : Y} (h : y ∈ ruY qs i) : ∃ y2 ∈ qs, y.A = y2.A ∧ y.m = y2.m := by
  obtain ⟨j, hj, rfl⟩ := List.getElem_of_mem h
  have h1 : (ruY qs i)[j]? = some (ruY qs i)[j] := List.getElem?_eq_getElem hj
  have h2 : (ruY qs i)[j]? = if j < i then (qs[j]?).map (fun x => yU x (j + 1)) else qs[j]? := ru_at yU qs i j
  rw [h2] at h1
  split at h1
  · obtain ⟨z, hz, e⟩ := Option.map_eq_some_iff.1 h1
    exact ⟨z, List.mem_of_getElem? hz, by rw [← e]; rfl, by rw [← e]; rfl⟩
  · exact ⟨_, List.mem_of_getElem? h1, rfl, rfl⟩
theorem OS.frsh {W W1 : World} {r m c : Nat} {A : Option Addr} {S : ByteArray} {E X : Nat} {zs : List Y} {w : World} (h : OS W1 r S E X (.slice A m c) zs w) (hr : r = W.heap.size) : ∀ ad, A = some ad → W.heap.size ≤ ad.block := by
  obtain ⟨h1, h2, h3, h5, h6⟩ := h
  intro ad e
  have h1 := (h2.lt (g := ad.block) (by rw [e]; rfl)).1
  omega
/-- The document's mailbox of notes: fresh, but for the octets, which are those of the notes. -/
def OfFresh (W : World) (ys : List Y) (e : Ending) (w' : World) : Prop := ∃ A n c qs, e = .returned (.tuple #[.agg #[.string (nmL (nts ys)), .int .u32 (boxE (nts ys) : Nat), .int .u32 (boxX (nts ys) : Nat), .slice A n c], .bool (cl (epo (nts ys)) (lives (nts ys))).2]) ∧ Rd cM 4 w' A n qs ∧ n ≤ c ∧ nts qs = boxed (nts ys) ∧ Below W.heap.size W w' ∧ (∀ ad, A = some ad → W.heap.size ≤ ad.block) ∧ ∀ y ∈ qs, ∃ y2 ∈ ys, y.A = y2.A ∧ y.m = y2.m
set_option maxHeartbeats 4000000 in
theorem of_fresh (W : World) (A : Option Addr) (n c : Nat) (ys : List Y) (hR : Rd cN 7 W A n ys) (hn : n ≤ 16000000) (hok : ∀ y ∈ ys, y.n.ok) :
    Calls Tryz.prog 9 #[.slice A n c] W fun x w' => OfFresh W ys x w' := by
  obtain ⟨r, hr⟩ : ∃ r, r = W.heap.size := ⟨_, rfl⟩
  obtain ⟨W1, hW1⟩ : ∃ W1, W1 = (W.alloc (.cells #[.string ⟨#[]⟩, .int .u32 0, .int .u32 0, .slice none 0 0] 35)).alloc (.cells #[.string ⟨#[]⟩, .int .u32 0, .int .u32 1, .slice none 0 0] 35) := ⟨_, rfl⟩
  have HBW := Lib.hid (show Below r W W1 by rw [hW1, hr]; exact ((Below.refl _ _).alloc (Nat.le_refl _) _).alloc (by simp) _)
  have HWS := Lib.hid (show r + 2 = W1.heap.size by rw [hW1, hr]; simp)
  have HRC := Lib.hid (fun (w1 : World) (h : Below (r + 1) W1 w1) => show w1.heap[r]? = some (.cells #[.string ⟨#[]⟩, .int .u32 0, .int .u32 0, .slice none 0 0] 35 (0, 0)) from (h.block _ (by omega)).trans (by rw [hW1, hr, heap_alloc_old _ _ (by simp)]; exact heap_alloc_new _ _))
  have hp0 : W1.heap[r + 1]? = some (.cells #[.string ⟨#[]⟩, .int .u32 0, .int .u32 1, .slice none 0 0] 35 (0, 0)) := by rw [hW1, hr]; have := heap_alloc_new (W.alloc (.cells #[.string ⟨#[]⟩, .int .u32 0, .int .u32 0, .slice none 0 0] 35)) (.cells #[.string ⟨#[]⟩, .int .u32 0, .int .u32 1, .slice none 0 0] 35); simpa using this
  have HS0 : Hid (OS W1 r (nmL []) (epo []) 1 (.slice none 0 0) [] W1) := Lib.hid ⟨hp0, Own.nil _ _ _ _ _, by simp, Below.refl _ _, by rw [← HWS.out]; omega⟩
  have HRd := Lib.hid (fun (w' : World) (h : Below (r + 1) W1 w') => hR.below (hr ▸ (HBW.out.trans (h.mono (by omega)))))
  have HOld := Lib.hid (show ∀ (k : Nat) (y : Y), ys[k]? = some y → ∀ ad, y.A = some ad → 0 < y.m → ad.block < r from fun k y hy ad e h0 => by
    have hk : k < n := by rw [← hR.1]; exact (List.getElem?_eq_some_iff.1 hy).1
    obtain ⟨b, o, z, h1, h2, h3, h4⟩ := hR.2 k hk
    rw [hy] at h2
    cases h2
    rw [hr]
    exact h4.1.lt ad e h0)
  have HBlk := Lib.hid (show ∀ b o, A = some ⟨b, o, none⟩ → 0 < n → b < r from fun b o e h0 => by
    obtain ⟨b', o', z, h1, h2, h3, h4⟩ := hR.2 0 h0
    rw [e] at h1
    cases h1
    rw [hr]
    exact block_lt_of_cell (h3 0 _ rfl))
  have HL := Lib.hid (show (nts ys).length = n by rw [nts_len, hR.1])
  have HO := Lib.hid hok
  have HW1 := Lib.hid hW1
  have HR0 := Lib.hid hr
  clear hW1 hp0 hR hok hr
  go_enter Tryz.func9, Tryz.ntmps9
  go_wp2_with fail
  rw [← HW1.out, ← HR0.out]
  go_loopw [17] (fun i wr => ∃ k : Nat, k ≤ n ∧ i = .int .i64 k ∧ Hid (OS W1 r (nmL ((nts ys).take k)) (epo ((nts ys).take k)) 1 (.slice none 0 0) [] wr)) (fun i _ => n - (intOf i).toNat)
  case atStart => exact ⟨0, Nat.zero_le _, rfl, HS0⟩
  case round =>
    obtain ⟨k, hk, rfl, HS⟩ := hrel
    by_cases hlt : k < n
    · have hos := HS.out
      obtain ⟨b, o, y, rfl, hx, c0, c1, c2, c3, c4, c5, c6, hoc⟩ := (HRd.out _ hos.2.2.2.1).at7 k hlt
      have HT := Lib.hid ((congrArg epo (take_next (nts_at hx))).trans (epo_snoc _ _))
      have HT2 := Lib.hid ((congrArg nmL (take_next (nts_at hx))).trans (nmL_snoc _ _))
      have hyo := (HO.out y (List.mem_of_getElem? hx)).parts
      obtain ⟨⟨tk, te, ts, tu, td, tf, to_⟩, a, A', m', c'⟩ := y
      simp only [] at c0 c1 c2 c3 c4 c5 c6 HT HT2 hyo
      have d1 := cell_at hos.1 1 _ rfl
      have f1 := frozen_of_row _ _ 1 _ _ hos.1
      have f0 := frozen_of_row _ _ 0 _ _ hos.1
      have d0 := cell_at hos.1 0 _ rfl
      have hlt' : (k : Int) < (n : Int) := by omega
      have hbr : b < r := HBlk.out b o rfl (by omega)
      have hbr1 : ¬ b = r + 1 := by omega
      clear hx hoc hos
      by_cases h3 : tk = 3
      · subst h3
        have HE : Hid (nmL ((nts ys).take (k + 1)) = nmL ((nts ys).take k)) := by rw [HT2.out]; exact Lib.hid (if_pos rfl)
        clear HT2 hyo
        go_wp2_with fail
        go_still_tail 9, (by kernel_rfl)
        go_wp2_with fail
        have HS1 : Hid (OS W1 r (nmL ((nts ys).take (k + 1))) (epo ((nts ys).take (k + 1))) 1 (.slice none 0 0) [] (wr.setCell ⟨r + 1, 1, none⟩ (.int .u32 (max ((epo ((nts ys).take k) : Nat) : Int) (te : Int)))).drew) := by
          rw [HE.out, HT.out, ← natmax]
          exact Lib.hid (HS.out.setE.drewN 1)
        go_roundw
        case rel => first | exact ⟨k + 1, by omega, by go_num, HS1⟩ | ((repeat apply Exists.intro); exact ⟨⟨k + 1, by omega, by go_num, HS1⟩, rfl⟩)
        case measure => (show n - ((k : Int) + 1).toNat < n - k; omega)
      · have h3' : decide ((tk : Int) < 3) = true := by rw [decide_eq_true_iff]; omega
        have HE : Hid (nmL ((nts ys).take (k + 1)) = ts) := by rw [HT2.out]; exact Lib.hid (if_neg h3)
        clear HT2 h3 hyo
        go_wp2_with fail
        go_still_tail 9, (by kernel_rfl)
        go_wp2_with fail
        have HS1 : Hid (OS W1 r (nmL ((nts ys).take (k + 1))) (epo ((nts ys).take (k + 1))) 1 (.slice none 0 0) [] ((wr.setCell ⟨r + 1, 1, none⟩ (.int .u32 (max ((epo ((nts ys).take k) : Nat) : Int) (te : Int)))).setCell ⟨r + 1, 0, none⟩ (.string ts)).drew) := by
          rw [HE.out, HT.out, ← natmax]
          exact Lib.hid (HS.out.setE.setS.drewN 1)
        go_roundw
        case rel => first | exact ⟨k + 1, by omega, by go_num, HS1⟩ | ((repeat apply Exists.intro); exact ⟨⟨k + 1, by omega, by go_num, HS1⟩, rfl⟩)
        case measure => (show n - ((k : Int) + 1).toNat < n - k; omega)
    · obtain rfl : k = n := by omega
      have HTK : Hid ((nts ys).take k = nts ys) := Lib.hid (List.take_of_length_le (by rw [HL.out]; omega))
      have hos := HS.out
      rw [HTK.out] at hos
      have HL0 : Hid (OL W1 r ys 0 wr) := Lib.hid ⟨_, hos⟩
      have HKK := Lib.hid (And.intro hk hk)
      clear hos HTK HS hlt hk HKK
      go_wp2_with fail
      go_loopw [6, 7, 44] (fun cn la i wr => ∃ j : Nat, j ≤ k ∧ i = .int .i64 j ∧ cn = .bool (cl (epo (nts ys)) (pick (nts ys) (livB (nts ys)) j)).2 ∧ la = .int .u32 ((cl (epo (nts ys)) (pick (nts ys) (livB (nts ys)) j)).1 : Nat) ∧ Hid (OL W1 r ys j wr)) (fun _ _ i _ => k - (intOf i).toNat)
      case atStart => exact ⟨0, Nat.zero_le _, rfl, rfl, rfl, HL0⟩
      case round =>
        obtain ⟨j, hj, rfl, rfl, rfl, HS⟩ := hrel
        obtain ⟨v, hos⟩ := HS.out
        by_cases hlt : j < k
        · obtain ⟨b, o, y, rfl, hx, c0, c1, c2, c3, c4, c5, c6, hoc⟩ := (HRd.out _ hos.2.2.2.1).at7 j hlt
          have hyo := (HO.out y (List.mem_of_getElem? hx)).parts
          obtain ⟨⟨tk, te, ts, tu, td, tf, to_⟩, a, A', m', c'⟩ := y
          simp only [] at c0 c1 c2 c3 c4 c5 c6 hyo
          have HX := Lib.hid hx
          have HOS := Lib.hid hos
          have HYO := Lib.hid hyo
          have hbr : b < r := HBlk.out b o rfl (by omega)
          have hbr1 : ¬ b = r + 1 := by omega
          have hlt' : (j : Int) < (k : Int) := by omega
          have hgt := hos.2.2.2.2
          clear hx hoc hos hyo
          obtain ⟨B15, hB15⟩ : ∃ B, B = decide (1 < tk ∧ te = epo (nts ys)) := ⟨_, rfl⟩
          have HB15 := Lib.hid hB15
          clear hB15
          go_upto_region 15 with (fail)
          go_cut [60] from 45 to 144 (fun s wx => s = .bool B15 ∧ Hid (OS W1 r (nmL (nts ys)) (epo (nts ys)) (rnx (epo (nts ys)) ((nts ys).take j)) v (pick ys (livB (nts ys)) j) wx) ∧ Hid (wx.heap[wr.heap.size]? = some (.cells #[.int .i64 (tk : Nat), .int .u32 (te : Nat), .string ts, .int .u32 (tu : Nat), .int .i64 td, .int .i64 tf, .slice A' m' c'] 51 (0, 0))))
          case first =>
            have d1 := cell_at HOS.out.1 1 _ rfl
            have hpw : r + 1 < wr.heap.size := by omega
            by_cases h1 : tk = 1
            · subst h1
              have hb : B15 = false := by rw [HB15.out]; simp
              subst hb
              go_wp2_with fail
              go_meet
              exact ⟨rfl, Lib.hid (HOS.out.alloc _), Lib.hid (heap_alloc_new _ _)⟩
            · have h1' : decide ((1 : Int) < (tk : Int)) = true := by have := HYO.out; rw [decide_eq_true_iff]; omega
              by_cases hE : te = epo (nts ys)
              · have hE' : ((te : Int) == ((epo (nts ys) : Nat) : Int)) = true := by rw [beq_iff_eq]; omega
                have hb : B15 = true := by have := HYO.out; rw [HB15.out, decide_eq_true_iff]; omega
                subst hb
                clear hE h1
                go_wp2_with fail
                go_meet
                exact ⟨rfl, Lib.hid (HOS.out.alloc _), Lib.hid (heap_alloc_new _ _)⟩
              · have hE' : ((te : Int) == ((epo (nts ys) : Nat) : Int)) = false := by rw [beq_eq_false_iff_ne]; omega
                have hb : B15 = false := by rw [HB15.out, decide_eq_false_iff_not]; omega
                subst hb
                clear hE h1
                go_wp2_with fail
                go_meet
                exact ⟨rfl, Lib.hid (HOS.out.alloc _), Lib.hid (heap_alloc_new _ _)⟩
          case rest =>
            obtain ⟨rfl, HO5, HN5⟩ := hcut
            have HP9 := Lib.hid hgt
            have HVP := Lib.hid (show ∀ g, v.ownBlock = some g → g < wr.heap.size from fun g e => (HOS.out.2.1.lt e).2)
            generalize wr.heap.size = p9 at *
            have hpp : ¬ p9 = r + 1 := by omega
            have hpp' : ¬ r + 1 = p9 := by omega
            have HRX := Lib.hid ((congrArg (rnx (epo (nts ys))) (take_next (nts_at HX.out))).trans (rnx_snoc _ _ _))
            clear c0 c1 c2 c3 c4 c5 c6
            go_upto_if 60 with (fail)
            go_cut [] from 45 to 144 (fun wx => Hid (OS W1 r (nmL (nts ys)) (epo (nts ys)) (rnx (epo (nts ys)) ((nts ys).take (j + 1))) v (pick ys (livB (nts ys)) j) wx) ∧ Hid (wx.heap[p9]? = some (.cells #[.int .i64 (tk : Nat), .int .u32 (te : Nat), .string ts, .int .u32 (tu : Nat), .int .i64 td, .int .i64 tf, .slice A' m' c'] 51 (0, 0))))
            case first =>
              cases B15 with
              | false =>
                have HRX2 : Hid (rnx (epo (nts ys)) ((nts ys).take (j + 1)) = rnx (epo (nts ys)) ((nts ys).take j)) := by rw [HRX.out]; exact Lib.hid (if_neg (of_decide_eq_false HB15.out.symm))
                go_wp2_with fail
                go_meet
                exact ⟨by rw [HRX2.out]; exact HO5, HN5⟩
              | true =>
                have HRX2 : Hid (rnx (epo (nts ys)) ((nts ys).take (j + 1)) = max (rnx (epo (nts ys)) ((nts ys).take j)) (if tu < 4294967295 then tu + 1 else tu)) := by rw [HRX.out]; exact Lib.hid (if_pos (of_decide_eq_true HB15.out.symm))
                have e3 := cell_at HN5.out 3 _ rfl
                have d2 := cell_at HO5.out.1 2 _ rfl
                have f2 := frozen_of_row _ _ 2 _ _ HO5.out.1
                by_cases hu : tu < 4294967295
                · have hu' : decide ((tu : Int) < 4294967295) = true := by rw [decide_eq_true_iff]; omega
                  rw [if_pos hu] at HRX2
                  go_wp2_with fail
                  go_meet
                  exact ⟨by rw [HRX2.out, ← natmax1]; exact Lib.hid HO5.out.setX, by rw [← natmax1]; exact Lib.hid ((heap_setCell_other _ _ _ _ (by show p9 ≠ r + 1; omega)).trans HN5.out)⟩
                · have hu' : decide ((tu : Int) < 4294967295) = false := by rw [decide_eq_false_iff_not]; omega
                  rw [if_neg hu] at HRX2
                  go_wp2_with fail
                  go_meet
                  exact ⟨by rw [HRX2.out, ← natmax]; exact Lib.hid HO5.out.setX, by rw [← natmax]; exact Lib.hid ((heap_setCell_other _ _ _ _ (by show p9 ≠ r + 1; omega)).trans HN5.out)⟩
            case rest =>
              obtain ⟨HO6, HN6⟩ := hcut
              clear HRX HO5 HN5 HB15
              have e0 := cell_at HN6.out 0 _ rfl
              have hp9 : p9 < wc.heap.size := block_lt_of_cell e0
              obtain ⟨T, hT⟩ : ∃ T : Nt, T = ⟨tk, te, ts, tu, td, tf, to_⟩ := ⟨_, rfl⟩
              have HTT := Lib.hid hT
              have HG0 : Hid (gto T (nts ys) j (j + 1) = ((tk : Int) != 2)) := by
                rw [gto_start, hT]
                exact Lib.hid (show decide (tk ≠ 2) = ((tk : Int) != 2) by rw [Bool.eq_iff_iff, decide_eq_true_iff, bne_iff_ne]; omega)
              clear hT
              go_wp2_with fail
              go_loopw [11, 12] (fun g i wr2 => ∃ q d : Nat, j + 1 ≤ q ∧ q ≤ k ∧ i = .int .i64 q ∧ g = .bool (gto T (nts ys) j q) ∧ wr2 = wc.drewN d) (fun _ i _ => k - (intOf i).toNat)
              case atStart => exact ⟨j + 1, 0, Nat.le_refl _, by omega, by go_num, by rw [HG0.out], rfl⟩
              case round =>
                obtain ⟨q, d, hq1, hq2, rfl, rfl, rfl⟩ := hrel
                by_cases hqk : q < k
                · have HOq := HO6.out.drewN d
                  obtain ⟨b', o', z, hb', hz, c0, c1, c2, c3, c4, c5, c6, -⟩ := (HRd.out _ HOq.2.2.2.1).at7 q hqk
                  obtain ⟨rfl, rfl⟩ : b' = b ∧ o' = o := by simp at hb'; omega
                  have HGS := Lib.hid ((show ∀ T' : Nt, T' = ⟨tk, te, ts, tu, td, tf, to_⟩ → gto T' (nts ys) j (q + 1) = (gto T' (nts ys) j q || decide (z.n.k = 3 ∧ z.n.e = te ∧ z.n.u = tu)) from fun T' h => by subst h; exact gto_step hq1 (nts_at hz)) T HTT.out)
                  obtain ⟨⟨zk, ze, zs, zu, zd, zf, zo⟩, za, zA, zm, zc⟩ := z
                  have e1 : (wc.drewN d).cell? ⟨p9, 1, none⟩ = some (.int .u32 (te : Nat)) := cell_at (w := wc.drewN d) HN6.out 1 _ rfl
                  have e3 : (wc.drewN d).cell? ⟨p9, 3, none⟩ = some (.int .u32 (tu : Nat)) := cell_at (w := wc.drewN d) HN6.out 3 _ rfl
                  simp only [] at c0 c1 c2 c3 c4 c5 c6 HGS
                  obtain ⟨gv, hgv⟩ : ∃ gv, gv = gto T (nts ys) j q := ⟨_, rfl⟩
                  rw [← hgv] at HGS ⊢
                  have hq' : (q : Int) < (k : Int) := by omega
                  generalize hWq : wc.drewN d = Wq at *
                  have HWq := Lib.hid hWq
                  clear hz hb' HOq hgv hWq hqk e0
                  cases gv with
                  | true =>
                    have HG1 : Hid (gto T (nts ys) j (q + 1) = true) := by rw [HGS.out]; exact Lib.hid (Bool.true_or _)
                    clear HGS
                    go_wp2_with fail
                    go_quiet (fail)
                    have HQ : Hid (Wq.drewN nq = wc.drewN (d + nq)) := by
                      show _ = _
                      rw [← HWq.out, World.drewN_drewN]
                    clear c0 c1 c2 c3 c4 c5 c6 e1 e3 HWq
                    generalize Wq.drewN nq = W2 at *
                    go_wp2_with fail
                    go_roundw
                    case rel => first | exact ⟨q + 1, d + nq, by omega, by omega, by go_num, by rw [HG1.out], HQ.out⟩ | ((repeat apply Exists.intro); exact ⟨⟨q + 1, d + nq, by omega, by omega, by go_num, by rw [HG1.out], HQ.out⟩, rfl⟩)
                    case measure => (show k - ((q : Int) + 1).toNat < k - q; omega)
                  | false =>
                    by_cases h3 : zk = 3
                    · subst h3
                      by_cases h4 : ze = te
                      · have h4' : ((ze : Int) == (te : Int)) = true := by rw [beq_iff_eq]; omega
                        by_cases h5 : zu = tu
                        · have h5' : ((zu : Int) == (tu : Int)) = true := by rw [beq_iff_eq]; omega
                          have HG1 : Hid (gto T (nts ys) j (q + 1) = true) := by rw [HGS.out]; exact Lib.hid (by rw [Bool.false_or, decide_eq_true_iff]; exact ⟨rfl, h4, h5⟩)
                          clear HGS h4 h5
                          go_wp2_with fail
                          go_quiet (fail)
                          have HQ : Hid (Wq.drewN nq = wc.drewN (d + nq)) := by
                            show _ = _
                            rw [← HWq.out, World.drewN_drewN]
                          clear c0 c1 c2 c3 c4 c5 c6 e1 e3 HWq
                          generalize Wq.drewN nq = W2 at *
                          go_wp2_with fail
                          go_roundw
                          case rel => first | exact ⟨q + 1, d + nq, by omega, by omega, by go_num, by rw [HG1.out], HQ.out⟩ | ((repeat apply Exists.intro); exact ⟨⟨q + 1, d + nq, by omega, by omega, by go_num, by rw [HG1.out], HQ.out⟩, rfl⟩)
                          case measure => (show k - ((q : Int) + 1).toNat < k - q; omega)
                        · have h5' : ((zu : Int) == (tu : Int)) = false := by rw [beq_eq_false_iff_ne]; omega
                          have HG1 : Hid (gto T (nts ys) j (q + 1) = false) := by rw [HGS.out]; exact Lib.hid (by rw [Bool.false_or, decide_eq_false_iff_not]; exact fun h => h5 h.2.2)
                          clear HGS h4 h5
                          go_wp2_with fail
                          go_quiet (fail)
                          have HQ : Hid (Wq.drewN nq = wc.drewN (d + nq)) := by
                            show _ = _
                            rw [← HWq.out, World.drewN_drewN]
                          clear c0 c1 c2 c3 c4 c5 c6 e1 e3 HWq
                          generalize Wq.drewN nq = W2 at *
                          go_wp2_with fail
                          go_roundw
                          case rel => first | exact ⟨q + 1, d + nq, by omega, by omega, by go_num, by rw [HG1.out], HQ.out⟩ | ((repeat apply Exists.intro); exact ⟨⟨q + 1, d + nq, by omega, by omega, by go_num, by rw [HG1.out], HQ.out⟩, rfl⟩)
                          case measure => (show k - ((q : Int) + 1).toNat < k - q; omega)
                      · have h4' : ((ze : Int) == (te : Int)) = false := by rw [beq_eq_false_iff_ne]; omega
                        have HG1 : Hid (gto T (nts ys) j (q + 1) = false) := by rw [HGS.out]; exact Lib.hid (by rw [Bool.false_or, decide_eq_false_iff_not]; exact fun h => h4 h.2.1)
                        clear HGS h4
                        go_wp2_with fail
                        go_quiet (fail)
                        have HQ : Hid (Wq.drewN nq = wc.drewN (d + nq)) := by
                          show _ = _
                          rw [← HWq.out, World.drewN_drewN]
                        clear c0 c1 c2 c3 c4 c5 c6 e1 e3 HWq
                        generalize Wq.drewN nq = W2 at *
                        go_wp2_with fail
                        go_roundw
                        case rel => first | exact ⟨q + 1, d + nq, by omega, by omega, by go_num, by rw [HG1.out], HQ.out⟩ | ((repeat apply Exists.intro); exact ⟨⟨q + 1, d + nq, by omega, by omega, by go_num, by rw [HG1.out], HQ.out⟩, rfl⟩)
                        case measure => (show k - ((q : Int) + 1).toNat < k - q; omega)
                    · have h3' : ((zk : Int) == 3) = false := by rw [beq_eq_false_iff_ne]; omega
                      have HG1 : Hid (gto T (nts ys) j (q + 1) = false) := by rw [HGS.out]; exact Lib.hid (by rw [Bool.false_or, decide_eq_false_iff_not]; exact fun h => h3 h.1)
                      clear HGS h3
                      go_wp2_with fail
                      go_quiet (fail)
                      have HQ : Hid (Wq.drewN nq = wc.drewN (d + nq)) := by
                        show _ = _
                        rw [← HWq.out, World.drewN_drewN]
                      clear c0 c1 c2 c3 c4 c5 c6 e1 e3 HWq
                      generalize Wq.drewN nq = W2 at *
                      go_wp2_with fail
                      go_roundw
                      case rel => first | exact ⟨q + 1, d + nq, by omega, by omega, by go_num, by rw [HG1.out], HQ.out⟩ | ((repeat apply Exists.intro); exact ⟨⟨q + 1, d + nq, by omega, by omega, by go_num, by rw [HG1.out], HQ.out⟩, rfl⟩)
                      case measure => (show k - ((q : Int) + 1).toNat < k - q; omega)
                · obtain rfl : q = k := by omega
                  have HLV : Hid (livB (nts ys) j = !gto T (nts ys) j q) := by
                    have h := gto_end (nts_at HX.out)
                    rw [HL.out, ← HTT.out] at h
                    exact Lib.hid h
                  obtain ⟨gv, hgv⟩ : ∃ gv, gv = gto T (nts ys) j q := ⟨_, rfl⟩
                  rw [← hgv] at HLV ⊢
                  clear hgv e0 hqk
                  cases gv with
                  | true =>
                    have HPY : Hid (pick ys (livB (nts ys)) (j + 1) = pick ys (livB (nts ys)) j) := Lib.hid (pick_no HLV.out)
                    have HPN : Hid (pick (nts ys) (livB (nts ys)) (j + 1) = pick (nts ys) (livB (nts ys)) j) := Lib.hid (pick_no HLV.out)
                    go_wp2_with fail
                    go_roundw
                    case rel => first | exact ⟨j + 1, by omega, by go_num, by rw [HPN.out], by rw [HPN.out], Lib.hid ⟨v, by rw [HPY.out]; exact HO6.out.drewN d⟩⟩ | ((repeat apply Exists.intro); exact ⟨⟨j + 1, by omega, by go_num, by rw [HPN.out], by rw [HPN.out], Lib.hid ⟨v, by rw [HPY.out]; exact HO6.out.drewN d⟩⟩, rfl⟩)
                    case measure => (show q - ((j : Int) + 1).toNat < q - j; omega)
                  | false =>
                    have HPY : Hid (pick ys (livB (nts ys)) (j + 1) = pick ys (livB (nts ys)) j ++ [⟨⟨tk, te, ts, tu, td, tf, to_⟩, a, A', m', c'⟩]) := Lib.hid (pick_yes HX.out HLV.out)
                    have HCL : Hid (cl (epo (nts ys)) (pick (nts ys) (livB (nts ys)) (j + 1)) = stp (epo (nts ys)) (cl (epo (nts ys)) (pick (nts ys) (livB (nts ys)) j)) ⟨tk, te, ts, tu, td, tf, to_⟩) := Lib.hid (by rw [pick_yes (nts_at HX.out) HLV.out, cl_snoc])
                    have HOQ := Lib.hid (HO6.out.drewN d)
                    have hNQ : (wc.drewN d).heap[p9]? = some (.cells #[.int .i64 (tk : Nat), .int .u32 (te : Nat), .string ts, .int .u32 (tu : Nat), .int .i64 td, .int .i64 tf, .slice A' m' c'] 51 (0, 0)) := HN6.out
                    have n0 := cell_at hNQ 0 _ rfl
                    have n1 := cell_at hNQ 1 _ rfl
                    have n2 := cell_at hNQ 2 _ rfl
                    have n3 := cell_at hNQ 3 _ rfl
                    have n4 := cell_at hNQ 4 _ rfl
                    have n5 := cell_at hNQ 5 _ rfl
                    have n6 := cell_at hNQ 6 _ rfl
                    have c3 := cell_at HOQ.out.1 3 _ rfl
                    have c1 := cell_at HOQ.out.1 1 _ rfl
                    have HNQ := Lib.hid hNQ
                    have HPW := Lib.hid (show p9 < (wc.drewN d).heap.size from hp9)
                    have HNE := Lib.hid (show some p9 ≠ v.ownBlock from fun e => Nat.lt_irrefl _ (HVP.out _ e.symm))
                    have HOLD := Lib.hid (show ∀ ad, A' = some ad → 0 < m' → ad.block < r from fun ad e h0 => HOld.out j _ HX.out ad e h0)
                    have HOA := Lib.hid (show ∀ ad, A' = some ad → 0 < m' → v.ownBlock ≠ some ad.block from fun ad e h0 e' => by
                      have h1 := HOLD.out ad e h0
                      have h2 := (HOQ.out.2.1.lt e').1
                      omega)
                    obtain ⟨b', o', z', hb', hz', -, hoct'⟩ := (HRd.out _ HOQ.out.2.2.2.1).2 j (by omega)
                    have HOCT : Hid (Oct (wc.drewN d) ⟨⟨tk, te, ts, tu, td, tf, to_⟩, a, A', m', c'⟩) := by
                      rw [HX.out] at hz'
                      cases hz'
                      exact Lib.hid hoct'
                    obtain ⟨L, hL⟩ : ∃ L, L = (cl (epo (nts ys)) (pick (nts ys) (livB (nts ys)) j)).1 := ⟨_, rfl⟩
                    obtain ⟨C, hC⟩ : ∃ C, C = (cl (epo (nts ys)) (pick (nts ys) (livB (nts ys)) j)).2 := ⟨_, rfl⟩
                    have hLC : cl (epo (nts ys)) (pick (nts ys) (livB (nts ys)) j) = (L, C) := by rw [hL, hC]
                    rw [hLC] at HCL ⊢
                    simp only [stp] at HCL
                    simp only []
                    have hlt2 : (j : Int) < (q : Int) := by omega
                    clear hL hC hLC hz' hoct' hb' hNQ
                    have hU := HYO.out.2.2.2.2.2.2
                    by_cases k1 : te = epo (nts ys)
                    · have k1' : ((te : Int) != ((epo (nts ys) : Nat) : Int)) = false := by rw [bne_eq_false_iff_eq]; omega
                      by_cases k2 : L < tu
                      · have k2' : decide (tu ≤ L) = false := by rw [decide_eq_false_iff_not]; omega
                        by_cases k3 : tu < 4294967295
                        · have k3' : ((tu : Int) == 4294967295) = false := by rw [beq_eq_false_iff_ne]; omega
                          have HC : Hid (cl (epo (nts ys)) (pick (nts ys) (livB (nts ys)) (j + 1)) = (tu, C)) := by rw [HCL.out]; exact Lib.hid (by rw [decide_eq_true ⟨k1, k2, k3⟩, Bool.and_true])
                          clear k1 k2 k3 HCL hU
                          go_wp2_with (at_builtin; refine wpList_append_own fM (by decide) (by decide) (by decide) rfl rfl (.tmp 117) (.tmp 120) 33 47 rfl Tryz.underlying33 infoM (r + 2) v _ rfl HOQ.out.2.1 HOQ.out.2.2.2.2 (by have := pick_len ys (livB (nts ys)) j; omega) ⟨⟨tk, te, ts, tu, td, tf, to_⟩, a, A', m', c'⟩ (0, 0) _ rfl rfl _ rfl HOCT.out HOA.out ?_; intro v' w2 ho hgr hat; obtain ⟨A2, c2, hv2, -⟩ := ho.rd fM; generalize (pick ys (livB (nts ys)) j ++ [(⟨⟨tk, te, ts, tu, td, tf, to_⟩, a, A', m', c'⟩ : Y)]).length = m2 at hv2; subst hv2; obtain ⟨hos2, hb2⟩ := OS.push HOQ.out ho hgr HOLD.out; have HS2 := Lib.hid hos2; have HPB := Lib.hid ((hgr.block p9 HPW.out HNE.out).trans HNQ.out); have x1 := cell_at hb2 1 _ rfl; have x3 := cell_at hb2 3 _ rfl; have y3 := frozen_of_row _ _ 3 _ _ hb2; have z1 := cell_at HPB.out 1 _ rfl; have z3 := cell_at HPB.out 3 _ rfl; clear ho hgr hat hos2 hb2 c1 c3 n0 n1 n2 n3 n4 n5 n6)
                          go_roundw
                          case rel => first | exact ⟨j + 1, by omega, by go_num, by rw [HC.out], by rw [HC.out], Lib.hid ⟨_, by rw [HPY.out]; exact HS2.out⟩⟩ | ((repeat apply Exists.intro); exact ⟨⟨j + 1, by omega, by go_num, by rw [HC.out], by rw [HC.out], Lib.hid ⟨_, by rw [HPY.out]; exact HS2.out⟩⟩, rfl⟩)
                          case measure => (show q - ((j : Int) + 1).toNat < q - j; omega)
                        · have k3' : ((tu : Int) == 4294967295) = true := by rw [beq_iff_eq]; omega
                          have HC : Hid (cl (epo (nts ys)) (pick (nts ys) (livB (nts ys)) (j + 1)) = (tu, false)) := by rw [HCL.out]; exact Lib.hid (by rw [decide_eq_false (fun h => k3 h.2.2), Bool.and_false])
                          clear k1 k2 k3 HCL hU
                          go_wp2_with (at_builtin; refine wpList_append_own fM (by decide) (by decide) (by decide) rfl rfl (.tmp 117) (.tmp 120) 33 47 rfl Tryz.underlying33 infoM (r + 2) v _ rfl HOQ.out.2.1 HOQ.out.2.2.2.2 (by have := pick_len ys (livB (nts ys)) j; omega) ⟨⟨tk, te, ts, tu, td, tf, to_⟩, a, A', m', c'⟩ (0, 0) _ rfl rfl _ rfl HOCT.out HOA.out ?_; intro v' w2 ho hgr hat; obtain ⟨A2, c2, hv2, -⟩ := ho.rd fM; generalize (pick ys (livB (nts ys)) j ++ [(⟨⟨tk, te, ts, tu, td, tf, to_⟩, a, A', m', c'⟩ : Y)]).length = m2 at hv2; subst hv2; obtain ⟨hos2, hb2⟩ := OS.push HOQ.out ho hgr HOLD.out; have HS2 := Lib.hid hos2; have HPB := Lib.hid ((hgr.block p9 HPW.out HNE.out).trans HNQ.out); have x1 := cell_at hb2 1 _ rfl; have x3 := cell_at hb2 3 _ rfl; have y3 := frozen_of_row _ _ 3 _ _ hb2; have z1 := cell_at HPB.out 1 _ rfl; have z3 := cell_at HPB.out 3 _ rfl; clear ho hgr hat hos2 hb2 c1 c3 n0 n1 n2 n3 n4 n5 n6)
                          go_roundw
                          case rel => first | exact ⟨j + 1, by omega, by go_num, by rw [HC.out], by rw [HC.out], Lib.hid ⟨_, by rw [HPY.out]; exact HS2.out⟩⟩ | ((repeat apply Exists.intro); exact ⟨⟨j + 1, by omega, by go_num, by rw [HC.out], by rw [HC.out], Lib.hid ⟨_, by rw [HPY.out]; exact HS2.out⟩⟩, rfl⟩)
                          case measure => (show q - ((j : Int) + 1).toNat < q - j; omega)
                      · have k2' : decide (tu ≤ L) = true := by rw [decide_eq_true_iff]; omega
                        have HC : Hid (cl (epo (nts ys)) (pick (nts ys) (livB (nts ys)) (j + 1)) = (tu, false)) := by rw [HCL.out]; exact Lib.hid (by rw [decide_eq_false (fun h => k2 h.2.1), Bool.and_false])
                        clear k1 k2 HCL hU
                        go_wp2_with (at_builtin; refine wpList_append_own fM (by decide) (by decide) (by decide) rfl rfl (.tmp 117) (.tmp 120) 33 47 rfl Tryz.underlying33 infoM (r + 2) v _ rfl HOQ.out.2.1 HOQ.out.2.2.2.2 (by have := pick_len ys (livB (nts ys)) j; omega) ⟨⟨tk, te, ts, tu, td, tf, to_⟩, a, A', m', c'⟩ (0, 0) _ rfl rfl _ rfl HOCT.out HOA.out ?_; intro v' w2 ho hgr hat; obtain ⟨A2, c2, hv2, -⟩ := ho.rd fM; generalize (pick ys (livB (nts ys)) j ++ [(⟨⟨tk, te, ts, tu, td, tf, to_⟩, a, A', m', c'⟩ : Y)]).length = m2 at hv2; subst hv2; obtain ⟨hos2, hb2⟩ := OS.push HOQ.out ho hgr HOLD.out; have HS2 := Lib.hid hos2; have HPB := Lib.hid ((hgr.block p9 HPW.out HNE.out).trans HNQ.out); have x1 := cell_at hb2 1 _ rfl; have x3 := cell_at hb2 3 _ rfl; have y3 := frozen_of_row _ _ 3 _ _ hb2; have z1 := cell_at HPB.out 1 _ rfl; have z3 := cell_at HPB.out 3 _ rfl; clear ho hgr hat hos2 hb2 c1 c3 n0 n1 n2 n3 n4 n5 n6)
                        go_roundw
                        case rel => first | exact ⟨j + 1, by omega, by go_num, by rw [HC.out], by rw [HC.out], Lib.hid ⟨_, by rw [HPY.out]; exact HS2.out⟩⟩ | ((repeat apply Exists.intro); exact ⟨⟨j + 1, by omega, by go_num, by rw [HC.out], by rw [HC.out], Lib.hid ⟨_, by rw [HPY.out]; exact HS2.out⟩⟩, rfl⟩)
                        case measure => (show q - ((j : Int) + 1).toNat < q - j; omega)
                    · have k1' : ((te : Int) != ((epo (nts ys) : Nat) : Int)) = true := by rw [bne_iff_ne]; omega
                      have HC : Hid (cl (epo (nts ys)) (pick (nts ys) (livB (nts ys)) (j + 1)) = (tu, false)) := by rw [HCL.out]; exact Lib.hid (by rw [decide_eq_false (fun h => k1 h.1), Bool.and_false])
                      clear k1 HCL hU
                      go_wp2_with (at_builtin; refine wpList_append_own fM (by decide) (by decide) (by decide) rfl rfl (.tmp 117) (.tmp 120) 33 47 rfl Tryz.underlying33 infoM (r + 2) v _ rfl HOQ.out.2.1 HOQ.out.2.2.2.2 (by have := pick_len ys (livB (nts ys)) j; omega) ⟨⟨tk, te, ts, tu, td, tf, to_⟩, a, A', m', c'⟩ (0, 0) _ rfl rfl _ rfl HOCT.out HOA.out ?_; intro v' w2 ho hgr hat; obtain ⟨A2, c2, hv2, -⟩ := ho.rd fM; generalize (pick ys (livB (nts ys)) j ++ [(⟨⟨tk, te, ts, tu, td, tf, to_⟩, a, A', m', c'⟩ : Y)]).length = m2 at hv2; subst hv2; obtain ⟨hos2, hb2⟩ := OS.push HOQ.out ho hgr HOLD.out; have HS2 := Lib.hid hos2; have HPB := Lib.hid ((hgr.block p9 HPW.out HNE.out).trans HNQ.out); have x1 := cell_at hb2 1 _ rfl; have x3 := cell_at hb2 3 _ rfl; have y3 := frozen_of_row _ _ 3 _ _ hb2; have z1 := cell_at HPB.out 1 _ rfl; have z3 := cell_at HPB.out 3 _ rfl; clear ho hgr hat hos2 hb2 c1 c3 n0 n1 n2 n3 n4 n5 n6)
                      go_roundw
                      case rel => first | exact ⟨j + 1, by omega, by go_num, by rw [HC.out], by rw [HC.out], Lib.hid ⟨_, by rw [HPY.out]; exact HS2.out⟩⟩ | ((repeat apply Exists.intro); exact ⟨⟨j + 1, by omega, by go_num, by rw [HC.out], by rw [HC.out], Lib.hid ⟨_, by rw [HPY.out]; exact HS2.out⟩⟩, rfl⟩)
                      case measure => (show q - ((j : Int) + 1).toNat < q - j; omega)
        · obtain rfl : j = k := by omega
          have HLIV : Hid (pick (nts ys) (livB (nts ys)) j = lives (nts ys)) := Lib.hid (by unfold lives; rw [HL.out])
          have HZN : Hid (nts (pick ys (livB (nts ys)) j) = lives (nts ys)) := Lib.hid (by unfold nts; rw [pick_map]; exact HLIV.out)
          have htk : (nts ys).take j = nts ys := List.take_of_length_le (by rw [HL.out]; omega)
          rw [htk, rnx_eq (fun t ht => by
            obtain ⟨y, hy, rfl⟩ := List.mem_map.1 ht
            exact HO.out y hy)] at hos
          obtain ⟨A2, c2, hv2, -⟩ := hos.2.1.rd fM
          obtain ⟨m2, hm2⟩ : ∃ m2, m2 = (pick ys (livB (nts ys)) j).length := ⟨_, rfl⟩
          rw [← hm2] at hv2
          subst hv2
          have HML : Hid (m2 = (lives (nts ys)).length) := Lib.hid (by rw [hm2, ← HZN.out, nts_len])
          have hmj : m2 ≤ j := by rw [hm2]; exact pick_len _ _ _
          clear hm2 htk
          rw [HLIV.out]
          obtain ⟨S, hS⟩ : ∃ S, S = nmL (nts ys) := ⟨_, rfl⟩
          obtain ⟨E, hE⟩ : ∃ E, E = epo (nts ys) := ⟨_, rfl⟩
          have hEl : E < 4294967296 := by
            rw [hE]
            exact epo_lt (fun t ht => by
              obtain ⟨y, hy, rfl⟩ := List.mem_map.1 ht
              exact HO.out y hy)
          rw [← hS, ← hE] at hos
          rw [← hE]
          obtain ⟨X2, hX2⟩ : ∃ X2, X2 = nxt (top E (nts ys)) := ⟨_, rfl⟩
          rw [← hX2] at hos
          obtain ⟨CC, hCC⟩ : ∃ CC, CC = (cl E (lives (nts ys))).2 := ⟨_, rfl⟩
          rw [← hCC]
          have HSS := Lib.hid hS
          have HEE := Lib.hid hE
          have HX2 := Lib.hid hX2
          have HCC : Hid ((cl (epo (nts ys)) (lives (nts ys))).2 = CC) := Lib.hid (by rw [hCC, hE])
          have HOS := Lib.hid hos
          have a0 := cell_at hos.1 0 _ rfl
          have a1 := cell_at hos.1 1 _ rfl
          have a2 := cell_at hos.1 2 _ rfl
          have a3 := cell_at hos.1 3 _ rfl
          have f1 := frozen_of_row _ _ 1 _ _ hos.1
          have hXR := HRC.out _ hos.2.2.2.1
          have r0 := cell_at hXR 0 _ rfl
          have s0 := frozen_of_row _ _ 0 _ _ hXR
          have r1 := cell_at hXR 1 _ rfl
          have s1 := frozen_of_row _ _ 1 _ _ hXR
          have r2 := cell_at hXR 2 _ rfl
          have s2 := frozen_of_row _ _ 2 _ _ hXR
          have r3 := cell_at hXR 3 _ rfl
          have s3 := frozen_of_row _ _ 3 _ _ hXR
          clear hos hXR hS hE hX2 hCC HS
          cases CC with
          | true =>
            go_wp2_with fail
            obtain ⟨k1, k2, k3, k4⟩ := HOS.out.done HBW.out HR0.out HRC.out
            have k5 := HOS.out.frsh HR0.out
            refine bodyPost_ret (frm.results_cell_tmp Tryz.results9 _ _ r _ _ _ _ rfl k1 Tryz.underlying35 rfl (boxSize _ rfl)) rfl ⟨A2, m2, c2, _, ?_, k2, k3, ?_, k4, k5, fun y hy => ⟨y, pick_mem _ hy, rfl, rfl⟩⟩
            · rw [HCC.out]
              unfold boxE boxX
              rw [HCC.out, if_pos rfl, if_pos rfl, ← HEE.out, ← HX2.out, ← HSS.out]
              rfl
            · unfold lg.boxed
              rw [HCC.out, if_pos rfl, HZN.out]
          | false =>
            by_cases hmx : E < 4294967295
            · have hmx' : decide ((E : Int) < 4294967295) = true := by rw [decide_eq_true_iff]; omega
              obtain ⟨E2, hE2⟩ : ∃ E2, E2 = E + 1 := ⟨_, rfl⟩
              have HE2 : Hid (E2 = min (epo (nts ys)) 4294967294 + 1) := Lib.hid (by rw [← HEE.out]; omega)
              have HST : Hid (OS W1 r S E2 X2 (.slice A2 m2 c2) (ruY (pick ys (livB (nts ys)) j) 0) (wr.setCell ⟨r + 1, 1, none⟩ (.int .u32 ((E : Int) + 1)))) := by
                rw [show ((E : Int) + 1) = ((E2 : Nat) : Int) by omega]
                exact Lib.hid HOS.out.setE
              clear hE2
              go_wp2_with fail
              go_loopw [157] (fun i wr => ∃ q : Nat, q ≤ m2 ∧ i = .int .i64 q ∧ Hid (OS W1 r S E2 X2 (.slice A2 m2 c2) (ruY (pick ys (livB (nts ys)) j) q) wr)) (fun i _ => m2 - (intOf i).toNat)
              case atStart => exact ⟨0, Nat.zero_le _, rfl, HST⟩
              case round =>
                obtain ⟨q, hq, rfl, HS⟩ := hrel
                obtain ⟨l1, l2, l3, l4, l5⟩ := HS.out
                have a3 := cell_at l1 3 _ rfl
                by_cases hlt : q < m2
                · have hlen : (ruY (pick ys (livB (nts ys)) j) q).length = m2 := l2.len'
                  obtain ⟨g, rfl, hg⟩ := l2.form' (by omega)
                  have hkl : q < (ruY (pick ys (livB (nts ys)) j) q).length := by omega
                  have hyk : (ruY (pick ys (livB (nts ys)) j) q)[q]? = some (ruY (pick ys (livB (nts ys)) j) q)[q] := List.getElem?_eq_getElem hkl
                  have hcl := (hlen ▸ l2.1 : World.ownsRow wr (r + 2) 47 4 (.slice (some ⟨g, 0, none⟩) m2 c2) m2 (fl cM (ruY (pick ys (livB (nts ys)) j) q))).cellAt (q * 4) (by omega)
                  have hfz := (hlen ▸ l2.1 : World.ownsRow wr (r + 2) 47 4 (.slice (some ⟨g, 0, none⟩) m2 c2) m2 (fl cM (ruY (pick ys (livB (nts ys)) j) q))).frozenAt (q * 4)
                  have hca : (fl cM (ruY (pick ys (livB (nts ys)) j) q))[q * 4]? = some (.int .u32 ((ruY (pick ys (livB (nts ys)) j) q)[q].n.u : Nat)) := fl_at fM _ q _ hyk 0 _ rfl
                  rw [hca] at hcl
                  obtain ⟨uu, huu⟩ : ∃ uu, uu = (ruY (pick ys (livB (nts ys)) j) q)[q].n.u := ⟨_, rfl⟩
                  rw [← huu] at hcl
                  have HN2 := Lib.hid (HS.out.step hkl)
                  have hlt' : (q : Int) < (m2 : Int) := by omega
                  have hgp : ¬ g = r + 1 := by omega
                  have e32 := IntWalk.u32_in ((q : Int) + 1) (by omega)
                  clear l1 l2 l3 l4 l5 hca huu hyk hlen hkl
                  go_wp2_with fail
                  go_roundw
                  case rel => first | exact ⟨q + 1, by omega, by go_num, by simpa using HN2⟩ | ((repeat apply Exists.intro); exact ⟨⟨q + 1, by omega, by go_num, by simpa using HN2⟩, rfl⟩)
                  case measure => (show m2 - ((q : Int) + 1).toNat < m2 - q; omega)
                · obtain rfl : q = m2 := by omega
                  have a0 := cell_at l1 0 _ rfl
                  have a1 := cell_at l1 1 _ rfl
                  have a2 := cell_at l1 2 _ rfl
                  have g2 := frozen_of_row _ _ 2 _ _ l1
                  have hX2 := HRC.out _ l4
                  have r0 := cell_at hX2 0 _ rfl
                  have s0 := frozen_of_row _ _ 0 _ _ hX2
                  have r1 := cell_at hX2 1 _ rfl
                  have s1 := frozen_of_row _ _ 1 _ _ hX2
                  have r2 := cell_at hX2 2 _ rfl
                  have s2 := frozen_of_row _ _ 2 _ _ hX2
                  have r3 := cell_at hX2 3 _ rfl
                  have s3 := frozen_of_row _ _ 3 _ _ hX2
                  have e32 := IntWalk.u32_in ((q : Int) + 1) (by omega)
                  clear l1 l2 l3 l4 l5 hX2
                  go_wp2_with fail
                  obtain ⟨k1, k2, k3, k4⟩ := (HS.out.setX (X' := q + 1)).done HBW.out HR0.out HRC.out
                  have k5 := HS.out.frsh HR0.out
                  refine bodyPost_ret (frm.results_cell_tmp Tryz.results9 _ _ r _ _ _ _ rfl (by simpa using k1) Tryz.underlying35 rfl (boxSize _ rfl)) rfl ⟨A2, q, c2, _, ?_, by simpa using k2, k3, ?_, by simpa using k4, k5, fun y hy => by
                    obtain ⟨y2, hy2, e1, e2⟩ := ruY_mem hy
                    exact ⟨y2, pick_mem _ hy2, e1, e2⟩⟩
                  · rw [HCC.out]
                    unfold boxE boxX
                    rw [HCC.out, if_neg (by simp), if_neg (by simp), ← HE2.out, ← HML.out, Int.natCast_add, ← HSS.out]
                    rfl
                  · unfold lg.boxed
                    rw [HCC.out, if_neg (by simp), ruY_nts, HZN.out, HML.out]
            · have hmx' : decide ((E : Int) < 4294967295) = false := by rw [decide_eq_false_iff_not]; omega
              obtain ⟨E2, hE2⟩ : ∃ E2, E2 = E := ⟨_, rfl⟩
              have HE2 : Hid (E2 = min (epo (nts ys)) 4294967294 + 1) := Lib.hid (by rw [← HEE.out]; omega)
              have HST : Hid (OS W1 r S E2 X2 (.slice A2 m2 c2) (ruY (pick ys (livB (nts ys)) j) 0) wr) := by
                rw [hE2]
                exact Lib.hid HOS.out
              clear hmx hE2
              go_wp2_with fail
              go_loopw [157] (fun i wr => ∃ q : Nat, q ≤ m2 ∧ i = .int .i64 q ∧ Hid (OS W1 r S E2 X2 (.slice A2 m2 c2) (ruY (pick ys (livB (nts ys)) j) q) wr)) (fun i _ => m2 - (intOf i).toNat)
              case atStart => exact ⟨0, Nat.zero_le _, rfl, HST⟩
              case round =>
                obtain ⟨q, hq, rfl, HS⟩ := hrel
                obtain ⟨l1, l2, l3, l4, l5⟩ := HS.out
                have a3 := cell_at l1 3 _ rfl
                by_cases hlt : q < m2
                · have hlen : (ruY (pick ys (livB (nts ys)) j) q).length = m2 := l2.len'
                  obtain ⟨g, rfl, hg⟩ := l2.form' (by omega)
                  have hkl : q < (ruY (pick ys (livB (nts ys)) j) q).length := by omega
                  have hyk : (ruY (pick ys (livB (nts ys)) j) q)[q]? = some (ruY (pick ys (livB (nts ys)) j) q)[q] := List.getElem?_eq_getElem hkl
                  have hcl := (hlen ▸ l2.1 : World.ownsRow wr (r + 2) 47 4 (.slice (some ⟨g, 0, none⟩) m2 c2) m2 (fl cM (ruY (pick ys (livB (nts ys)) j) q))).cellAt (q * 4) (by omega)
                  have hfz := (hlen ▸ l2.1 : World.ownsRow wr (r + 2) 47 4 (.slice (some ⟨g, 0, none⟩) m2 c2) m2 (fl cM (ruY (pick ys (livB (nts ys)) j) q))).frozenAt (q * 4)
                  have hca : (fl cM (ruY (pick ys (livB (nts ys)) j) q))[q * 4]? = some (.int .u32 ((ruY (pick ys (livB (nts ys)) j) q)[q].n.u : Nat)) := fl_at fM _ q _ hyk 0 _ rfl
                  rw [hca] at hcl
                  obtain ⟨uu, huu⟩ : ∃ uu, uu = (ruY (pick ys (livB (nts ys)) j) q)[q].n.u := ⟨_, rfl⟩
                  rw [← huu] at hcl
                  have HN2 := Lib.hid (HS.out.step hkl)
                  have hlt' : (q : Int) < (m2 : Int) := by omega
                  have hgp : ¬ g = r + 1 := by omega
                  have e32 := IntWalk.u32_in ((q : Int) + 1) (by omega)
                  clear l1 l2 l3 l4 l5 hca huu hyk hlen hkl
                  go_wp2_with fail
                  go_roundw
                  case rel => first | exact ⟨q + 1, by omega, by go_num, by simpa using HN2⟩ | ((repeat apply Exists.intro); exact ⟨⟨q + 1, by omega, by go_num, by simpa using HN2⟩, rfl⟩)
                  case measure => (show m2 - ((q : Int) + 1).toNat < m2 - q; omega)
                · obtain rfl : q = m2 := by omega
                  have a0 := cell_at l1 0 _ rfl
                  have a1 := cell_at l1 1 _ rfl
                  have a2 := cell_at l1 2 _ rfl
                  have g2 := frozen_of_row _ _ 2 _ _ l1
                  have hX2 := HRC.out _ l4
                  have r0 := cell_at hX2 0 _ rfl
                  have s0 := frozen_of_row _ _ 0 _ _ hX2
                  have r1 := cell_at hX2 1 _ rfl
                  have s1 := frozen_of_row _ _ 1 _ _ hX2
                  have r2 := cell_at hX2 2 _ rfl
                  have s2 := frozen_of_row _ _ 2 _ _ hX2
                  have r3 := cell_at hX2 3 _ rfl
                  have s3 := frozen_of_row _ _ 3 _ _ hX2
                  have e32 := IntWalk.u32_in ((q : Int) + 1) (by omega)
                  clear l1 l2 l3 l4 l5 hX2
                  go_wp2_with fail
                  obtain ⟨k1, k2, k3, k4⟩ := (HS.out.setX (X' := q + 1)).done HBW.out HR0.out HRC.out
                  have k5 := HS.out.frsh HR0.out
                  refine bodyPost_ret (frm.results_cell_tmp Tryz.results9 _ _ r _ _ _ _ rfl (by simpa using k1) Tryz.underlying35 rfl (boxSize _ rfl)) rfl ⟨A2, q, c2, _, ?_, by simpa using k2, k3, ?_, by simpa using k4, k5, fun y hy => by
                    obtain ⟨y2, hy2, e1, e2⟩ := ruY_mem hy
                    exact ⟨y2, pick_mem _ hy2, e1, e2⟩⟩
                  · rw [HCC.out]
                    unfold boxE boxX
                    rw [HCC.out, if_neg (by simp), if_neg (by simp), ← HE2.out, ← HML.out, Int.natCast_add, ← HSS.out]
                    rfl
                  · unfold lg.boxed
                    rw [HCC.out, if_neg (by simp), ruY_nts, HZN.out, HML.out]
end Go.Proofs.YtfmdhcjniikfdaaGreatDoor.lg
/- The law on a log that grows. -/
namespace Go.Proofs.YtfmdhcjniikfdaaGreatDoor.lg
open Go.ChangeShapes Go.WideShapes Go.ChangeAt Go.RowKit
open Go.Proofs.YtfmdhcjniikfdaaGreatDoor.codec (Bytes vals)
open Go.Proofs.YtfmdhcjniikfdaaGreatDoor.bod (cell_at Fit formedB payL)
open Go.Proofs.YtfmdhcjniikfdaaGreatDoor.frm (allF frameL frameL_length scan)
set_option linter.unusedVariables false
set_option maxRecDepth 100000
set_option linter.unusedSimpArgs false

theorem sum621 (l : List Nt) (h : ∀ n ∈ l, n.o.length ≤ 500) : (l.map fun n => 121 + n.o.length).sum ≤ 621 * l.length := by
  induction l with
  | nil => simp
  | cons n r ih =>
    have h1 := ih (fun m hm => h m (by simp [hm]))
    have h2 := h n (by simp)
    rw [List.map_cons, List.sum_cons, List.length_cons]
    omega
theorem zn_mem {w : World} {A : Option Addr} {n : Nat} {zs : List (Int × Y)} {k : Nat} (hZ : RdZ w A n zs) {t : Nt} (ht : t ∈ (zn zs).take k) : ∃ z ∈ zs.take k, t = (toY z).n ∧ Oct w z.2 ∧ z ∈ zs := by
  rw [zn_take] at ht
  obtain ⟨y, hy, rfl⟩ := List.mem_map.1 ht
  obtain ⟨z, hz, rfl⟩ := List.mem_map.1 hy
  have hz' := List.mem_of_mem_take hz
  obtain ⟨i, hi, he⟩ := List.getElem_of_mem hz'
  obtain ⟨b, o, z2, h1, h2, h3, h4⟩ := hZ.2 i (by rw [← hZ.1]; exact hi)
  rw [List.getElem?_eq_getElem hi, he] at h2
  cases h2
  exact ⟨_, hz, rfl, h4, hz'⟩
def Lim (zs : List (Int × Y)) : Prop := ∀ z ∈ zs, z.2.n.e < 4294967296 ∧ z.2.n.u < 4294967296 ∧ z.2.n.s.size ≤ 140737488355328
def Fz (zs : List (Int × Y)) (k : Nat) : Prop := ∀ z ∈ zs.take k, fZ z = true ∧ z.2.m ≤ 500
theorem Fz.all {w : World} {A : Option Addr} {n : Nat} {zs : List (Int × Y)} {k : Nat} (h : Fz zs k) (hZ : RdZ w A n zs) (hl : Lim zs) : AllOk ((zn zs).take k) := fun t ht => by
  obtain ⟨z, hz, rfl, hO, hm⟩ := zn_mem hZ ht
  exact toY_ok (h z hz).1 (hl z hm).1 (hl z hm).2.1 hO
theorem Fz.len {w : World} {A : Option Addr} {n : Nat} {zs : List (Int × Y)} {k : Nat} (h : Fz zs k) (hZ : RdZ w A n zs) (hl : Lim zs) (hk : k ≤ 30) : (allF (frs ((zn zs).take k))).length ≤ 18630 := by
  have h1 := allF_len (ns := (zn zs).take k) (fun t ht => (h.all hZ hl t ht).1)
  have h2 := sum621 ((zn zs).take k) (fun t ht => by
    obtain ⟨z, hz, rfl, hO, hm⟩ := zn_mem hZ ht
    have h4 := (h z hz).2
    have h3 : z.2.n.o.length = z.2.m := hO.1.1
    show z.2.n.o.length ≤ 500
    omega)
  have h3 : ((zn zs).take k).length ≤ k := by rw [List.length_take]; omega
  have h4 : 621 * ((zn zs).take k).length ≤ 621 * 30 := Nat.mul_le_mul_left _ (by omega)
  omega
theorem Fz.step {zs : List (Int × Y)} {k : Nat} {z : Int × Y} (h : Fz zs k) (hz : zs[k]? = some z) (h1 : fZ z = true) (h2 : z.2.m ≤ 500) : Fz zs (k + 1) := by
  intro q hq
  rw [take_next hz] at hq
  rcases List.mem_append.1 hq with hq | hq
  · exact h q hq
  · simp at hq
    subst hq
    exact ⟨h1, h2⟩
def GS (W2 : World) (zs : List (Int × Y)) (k : Nat) (v : Value) (w : World) : Prop := (w.ownsRow W2.heap.size 5 1 v (allF (frs ((zn zs).take k))).length (vals (allF (frs ((zn zs).take k)))) ∧ Below W2.heap.size W2 w) ∧ Fz zs k
theorem GS.start (W2 : World) (zs : List (Int × Y)) : GS W2 zs 0 (.slice none 0 0) W2 := ⟨⟨⟨rfl, .inl ⟨rfl, rfl⟩⟩, Below.refl _ _⟩, fun z hz => by simp at hz⟩
theorem GS.below {W2 w w' : World} {zs : List (Int × Y)} {k : Nat} {v : Value} (h : GS W2 zs k v w) (hb : Below w.heap.size w w') : GS W2 zs k v w' := ⟨⟨own_below h.1.1 hb, h.1.2.trans (hb.mono h.1.2.size)⟩, h.2⟩
theorem own_slice_n {w : World} {B N : Nat} {v : Value} {M : List Nat} (h : w.ownsRow B 5 1 v M.length (vals M)) (hb : ∀ x ∈ M, x < 256) (hN : M.length = N) : ∃ A c, v = .slice A N c ∧ Bytes w A N M ∧ N ≤ c ∧ (A = none → c = 0) := by
  subst hN
  exact own_slice h hb
theorem Rd.grown {F : Y → List Value} {K : Nat} {w w' : World} {A : Option Addr} {n : Nat} {ys : List Y} (h : Rd F K w A n ys) {row : Option Nat} (hg : w.grownBy w' row) (hA : ∀ ad, A = some ad → some ad.block ≠ row) (hO : ∀ y ∈ ys, ∀ ad, y.A = some ad → 0 < y.m → some ad.block ≠ row) : Rd F K w' A n ys := by
  refine ⟨h.1, fun k hk => ?_⟩
  obtain ⟨b, o, y, h1, h2, h3, h4⟩ := h.2 k hk
  refine ⟨b, o, y, h1, h2, fun j v hv => ?_, h4.grown hg (hO y (List.mem_of_getElem? h2))⟩
  have h5 := h3 j v hv
  rw [World.cell?_of_block (w := w) (hg.block b (block_lt_of_cell h5) (hA _ h1))]
  exact h5
theorem zoct {w : World} {A : Option Addr} {n : Nat} {zs : List (Int × Y)} (hZ : RdZ w A n zs) : ∀ z ∈ zs, ∀ ad, z.2.A = some ad → 0 < z.2.m → ad.block < w.heap.size := by
  intro z hz ad e h0
  obtain ⟨i, hi, he⟩ := List.getElem_of_mem hz
  obtain ⟨b, o, z2, h1, h2, h3, h4⟩ := hZ.2 i (by rw [← hZ.1]; exact hi)
  rw [List.getElem?_eq_getElem hi, he] at h2
  cases h2
  exact h4.1.lt ad e h0
/-- What the three calls say of the same notes, in letters. -/
theorem grow_pack (ns : List Nt) (hok : AllOk ns) : ∃ (S : ByteArray) (E X EB XB : Nat) (CL : Bool) (bl : List Nt), bl.length = (lives ns).length ∧
    (∀ (w : World) (A : Option Addr) (n c : Nat) (ys : List Y), Rd cN 7 w A n ys → n ≤ 16000000 → nts ys = ns → Calls Tryz.prog 9 #[.slice A n c] w fun e w' => ∃ A3 n3 c3 qs, e = .returned (.tuple #[.agg #[.string S, .int .u32 (EB : Nat), .int .u32 (XB : Nat), .slice A3 n3 c3], .bool CL]) ∧ Rd cM 4 w' A3 n3 qs ∧ nts qs = bl ∧ Below w.heap.size w w' ∧ (∀ ad, A3 = some ad → w.heap.size ≤ ad.block) ∧ ∀ y ∈ qs, ∃ y2 ∈ ys, y.A = y2.A ∧ y.m = y2.m) ∧
    (∀ (w : World) (A : Option Addr) (n c : Nat) (l : List Nat) (T : Nat), Bytes w A n l → n ≤ c → n ≤ 16000000 → sumDoor.Laid w → Fit w → ntsL l = ns → (scan l 0 0).2 = T → Calls Tryz.prog 7 #[.slice A n c] w fun e w' => ∃ A1 n1 c1 zs, e = .returned (.agg #[.string S, .int .u32 (E : Nat), .int .u32 (X : Nat), .slice A1 n1 c1, .int .i64 (T : Nat), .bool CL]) ∧ Rd cL 6 w' A1 n1 zs ∧ n1 ≤ 16000000 ∧ nts zs = lives ns ∧ Below w.heap.size w w') ∧
    (∀ (w : World) (A1 : Option Addr) (n1 c1 : Nat) (zs : List Y) (T : Nat), Rd cL 6 w A1 n1 zs → n1 ≤ 16000000 → nts zs = lives ns → Calls Tryz.prog 10 #[.agg #[.string S, .int .u32 (E : Nat), .int .u32 (X : Nat), .slice A1 n1 c1, .int .i64 (T : Nat), .bool CL]] w fun e w' => BoxAns w S EB XB bl e w') := by
  refine ⟨nmL ns, epo ns, nxt (top (epo ns) ns), boxE ns, boxX ns, (cl (epo ns) (lives ns)).2, lg.boxed ns, box_len ns, ?_, ?_, ?_⟩
  · intro w A n c ys hR hn hy
    refine (of_fresh w A n c ys hR hn (fun y hy' => (hok y.n (by rw [← hy]; exact List.mem_map.2 ⟨y, hy', rfl⟩)).1)).mono ?_
    rintro e w' ⟨A3, n3, c3, qs, he, h1, h2, h3, h4, h5, h6⟩
    rw [hy] at he h3
    exact ⟨A3, n3, c3, qs, he, h1, h3, h4, h5, h6⟩
  · intro w A n c l T hB hc hn hL hr hl hT
    refine (read_any w A n c l hB hc hn hL hr).mono ?_
    rintro e w' ⟨A1, n1, c1, zs, he, h1, h2, h3, h4, h5, h6⟩
    rw [hl, hT] at he
    rw [hl] at h5
    exact ⟨A1, n1, c1, zs, he, h1, by have := hB.1; omega, h5, h6⟩
  · intro w A1 n1 c1 zs T hR hn hz
    exact box_of w A1 n1 c1 T ns zs hR hn (fun t ht => (hok t ht).1) hz
/-- A note that goes with a message of no mailbox. -/
def gg : Nt := ⟨3, 4294967295, ⟨#[]⟩, 1, 0, 0, []⟩
theorem gg_ok : gg.ok := ⟨by decide, by decide, by decide⟩
theorem gg_pay : gg.pay.length = 8 := by decide
set_option maxHeartbeats 4000000 in
theorem grows_many (W : World) (A : Option Addr) (n c t : Nat) (hn : 30 < n) (hL : sumDoor.Laid W) (hr : Fit W) :
    Calls Tryz.prog 5 #[.slice A n c, .int .u8 (t : Nat)] W fun x w' => x = .returned (.bool true) ∧ Below W.heap.size W w' := by
  have HW := Lib.hid (awake_any W hL hr)
  have HL := Lib.hid hL
  have HR := Lib.hid hr
  have hn' : decide ((30 : Int) < (n : Int)) = true := by rw [decide_eq_true_iff]; omega
  clear hL hr hn
  go_enter Tryz.func5, Tryz.ntmps5
  go_wp2_with fail
  refine HW.out.mono ?_
  rintro e w1 ⟨rfl, hb⟩
  have HB1 := Lib.hid hb
  have HW1 := Lib.hid (awake_any w1 (HL.out.below HL.out.lt hb) (HR.out.below hb))
  clear hb
  go_wp2_with fail
  refine HW1.out.mono ?_
  rintro e w2 ⟨rfl, hb⟩
  have HB2 := Lib.hid hb
  clear hb
  go_wp2_with fail
  go_ret
  exact ⟨rfl, HB1.out.trans (HB2.out.mono HB1.out.size)⟩
end Go.Proofs.YtfmdhcjniikfdaaGreatDoor.lg
/- The law on a log that grows: its walk. -/
namespace Go.Proofs.YtfmdhcjniikfdaaGreatDoor.lg
open Go.ChangeShapes Go.WideShapes Go.ChangeAt Go.RowKit
open Go.Proofs.YtfmdhcjniikfdaaGreatDoor.codec (Bytes vals)
open Go.Proofs.YtfmdhcjniikfdaaGreatDoor.bod (cell_at Fit formedB payL)
open Go.Proofs.YtfmdhcjniikfdaaGreatDoor.frm (allF frameL frameL_length scan)
set_option linter.unusedVariables false
set_option maxRecDepth 100000
set_option linter.unusedSimpArgs false

set_option maxHeartbeats 16000000 in
theorem grows_few (W : World) (A : Option Addr) (n c t : Nat) (zs : List (Int × Y)) (hZ : RdZ W A n zs) (hc : n ≤ c) (hlim : Lim zs) (ht : t < 256) (hn : n ≤ 30) (hL : sumDoor.Laid W) (hr : Fit W) :
    Calls Tryz.prog 5 #[.slice A n c, .int .u8 (t : Nat)] W fun x w' => x = .returned (.bool true) ∧ Below W.heap.size W w' := by
  have HAW := Lib.hid (awake_any W hL hr)
  have HRZ := Lib.hid (fun (w1 : World) (h : Below W.heap.size W w1) => hZ.below h)
  have HFit := Lib.hid (fun (w1 : World) (h : Below W.heap.size W w1) => hr.below h)
  have HLaid := Lib.hid (fun (w1 : World) (h : Below W.heap.size W w1) => hL.below hL.lt h)
  have HLIM := Lib.hid hlim
  have HC := Lib.hid hc
  have HT := Lib.hid ht
  have HN := Lib.hid hn
  have HZL := Lib.hid (show (zn zs).take n = zn zs from List.take_of_length_le (by unfold zn; rw [List.length_map, hZ.1]; omega))
  have HOCT := Lib.hid (zoct hZ)
  have hn' : decide ((30 : Int) < (n : Int)) = false := by rw [decide_eq_false_iff_not]; omega
  clear hL hr hn hZ hlim hc ht
  go_enter Tryz.func5, Tryz.ntmps5
  go_wp2_with fail
  refine HAW.out.mono ?_
  rintro x w2 ⟨rfl, hb⟩
  have HB2 := Lib.hid hb
  have HSt := Lib.hid (GS.start w2 zs)
  clear hb HAW
  go_wp2_with fail
  go_loopw [5, 24] (fun v i wr => ∃ k : Nat, k ≤ n ∧ i = .int .i64 k ∧ Hid (GS w2 zs k v wr)) (fun _ i _ => n - (intOf i).toNat)
  case atStart => exact ⟨0, Nat.zero_le _, rfl, HSt⟩
  case round =>
    obtain ⟨k, hk, rfl, HS⟩ := hrel
    have HBR := Lib.hid (HB2.out.trans (HS.out.1.2.mono HB2.out.size))
    by_cases hlt : k < n
    · obtain ⟨b, o, z, rfl, hz, c0, c1, c2, c3, c4, c5, c6, hoc⟩ := (HRZ.out wr HBR.out).at k hlt
      have hlz := HLIM.out z (List.mem_of_getElem? hz)
      have HHZ := Lib.hid hz
      obtain ⟨zk, ⟨⟨tk, te, ts, tu, td, tf, to_⟩, a, A', m', c'⟩⟩ := z
      simp only [] at c0 c1 c2 c3 c4 c5 c6 hlz hoc
      have lt1 := block_lt_of_cell c0
      have HCX := Lib.hid (fun (w' : World) (hw : Below wr.heap.size wr w') => And.intro ((hw.cell (p := ⟨b, o + k * 7, none⟩) lt1).trans c0) (And.intro ((hw.cell (p := ⟨b, o + k * 7 + 1, none⟩) lt1).trans c1) (And.intro ((hw.cell (p := ⟨b, o + k * 7 + 2, none⟩) lt1).trans c2) (And.intro ((hw.cell (p := ⟨b, o + k * 7 + 3, none⟩) lt1).trans c3) (And.intro ((hw.cell (p := ⟨b, o + k * 7 + 4, none⟩) lt1).trans c4) (And.intro ((hw.cell (p := ⟨b, o + k * 7 + 5, none⟩) lt1).trans c5) ((hw.cell (p := ⟨b, o + k * 7 + 6, none⟩) lt1).trans c6)))))))
      have HOC := Lib.hid hoc
      have hlt' : (k : Int) < (n : Int) := by omega
      cases hf : fZ (zk, ⟨⟨tk, te, ts, tu, td, tf, to_⟩, a, A', m', c'⟩) with
      | false =>
        have HD : Hid (Calls Tryz.prog 16 #[.agg #[.int .i64 zk, .int .u32 (te : Nat), .string ts, .int .u32 (tu : Nat), .int .i64 td, .int .i64 tf, .slice A' m' c']] wr fun x w' => x = .returned (.bool false) ∧ Below wr.heap.size wr w') := Lib.hid (by rw [← hf]; exact bod.rFormedW_any wr zk te tu ts td tf A' m' c' hlz.2.2)
        clear hlz hoc lt1 hf hz
        go_wp2_with fail
        refine HD.out.mono ?_
        rintro x w3 ⟨rfl, hb3⟩
        have HB3 := Lib.hid (HBR.out.trans (hb3.mono HBR.out.size))
        clear hb3 HD c0 c1 c2 c3 c4 c5 c6
        go_wp2_with fail
        go_ret
        exact ⟨rfl, HB3.out⟩
      | true =>
        have hk1 := formed_kind hf
        simp only [] at hk1
        obtain ⟨kn, rfl⟩ := Int.eq_ofNat_of_zero_le (show 0 ≤ zk by omega)
        have HD : Hid (Calls Tryz.prog 16 #[.agg #[.int .i64 (kn : Nat), .int .u32 (te : Nat), .string ts, .int .u32 (tu : Nat), .int .i64 td, .int .i64 tf, .slice A' m' c']] wr fun x w' => x = .returned (.bool true) ∧ Below wr.heap.size wr w') := Lib.hid (by rw [← hf]; exact bod.rFormedW_any wr (kn : Nat) te tu ts td tf A' m' c' hlz.2.2)
        have HF := Lib.hid hf
        have HLZ := Lib.hid hlz
        clear hlz hoc lt1 hf hz hk1
        by_cases hm : 500 < m'
        · have hm' : decide ((500 : Int) < (m' : Int)) = true := by rw [decide_eq_true_iff]; omega
          clear hm
          go_wp2_with fail
          refine HD.out.mono ?_
          rintro x w3 ⟨rfl, hb3⟩
          have HB3 := Lib.hid (HBR.out.trans (hb3.mono HBR.out.size))
          clear c0 c1 c2 c3 c4 c5 c6
          obtain ⟨c0, c1, c2, c3, c4, c5, c6⟩ := HCX.out _ hb3
          clear hb3 HD c0 c1 c2 c3 c4 c5
          go_wp2_with fail
          go_ret
          exact ⟨rfl, HB3.out⟩
        · have hm' : decide ((500 : Int) < (m' : Int)) = false := by rw [decide_eq_false_iff_not]; omega
          have HM5 := Lib.hid (show m' ≤ 500 by omega)
          clear hm
          go_wp2_with fail
          refine HD.out.mono ?_
          rintro x w3 ⟨rfl, hb3⟩
          have HB3 := Lib.hid hb3
          clear c0 c1 c2 c3 c4 c5 c6
          obtain ⟨c0, c1, c2, c3, c4, c5, c6⟩ := HCX.out _ hb3
          clear hb3 HD
          obtain ⟨F, hF⟩ : ∃ F, frameL kn (payL (kn : Nat) te ts tu td tf to_) = F := ⟨_, rfl⟩
          obtain ⟨M, hM⟩ : ∃ M, F.length = M := ⟨_, rfl⟩
          have HFR := Lib.hid (noteFrame_any w3 kn te tu ts td tf A' m' c' to_ F M HF.out HLZ.out.1 HLZ.out.2.1 (HOC.out.1.below HOC.out.1.lt HB3.out) HOC.out.2 hF hM)
          have HFF := Lib.hid (And.intro hF hM)
          clear hF hM
          go_wp2_with fail
          refine HFR.out.mono ?_
          rintro x w4 ⟨g, cap, rfl, hcap, hB4, hb4⟩
          have HB4 := Lib.hid (HB3.out.trans (hb4.mono HB3.out.size))
          have HG4 := Lib.hid (HS.out.below HB4.out)
          have HBY := Lib.hid hB4
          have HNX : Hid (allF (frs ((zn zs).take (k + 1))) = allF (frs ((zn zs).take k)) ++ F) := Lib.hid (by
            have h1 : (zn zs)[k]? = some (toY ((kn : Int), ⟨⟨tk, te, ts, tu, td, tf, to_⟩, a, A', m', c'⟩)).n := by unfold zn; rw [List.getElem?_map, HHZ.out]; rfl
            rw [allF_next h1, ← HFF.out.1]
            rfl)
          have HFZ : Hid (Fz zs (k + 1)) := Lib.hid (HS.out.2.step HHZ.out HF.out HM5.out)
          obtain ⟨N5, hN5⟩ : ∃ N5, (allF (frs ((zn zs).take (k + 1)))).length = N5 := ⟨_, rfl⟩
          have HLL := Lib.hid hN5
          clear hN5
          have HBR4 := Lib.hid (HBR.out.trans (HB4.out.mono HBR.out.size))
          have HLN := Lib.hid (HFZ.out.len (HRZ.out w4 HBR4.out) HLIM.out (by have := HN.out; omega))
          have HAO := Lib.hid (HFZ.out.all (HRZ.out w4 HBR4.out) HLIM.out)
          have HLE := Lib.hid (show (allF (frs ((zn zs).take k))).length + M ≤ 18630 by have h1 := HLN.out; rw [HNX.out, List.length_append, HFF.out.2] at h1; exact h1)
          clear hcap hB4 hb4 HFR c0 c1 c2 c3 c4 c5 c6
          have hn30 := HN.out
          have hcn := HC.out
          have hkc : (k : Int) + 1 ≤ (c : Int) := by omega
          have hkw : wrap64 ((k : Int) + 1) = (k : Int) + 1 := by unfold wrap64; omega
          go_wp2_with (at_builtin; refine codec.wpList_append_bytes rfl (.tmp 43) (.tmp 48) rfl w2.heap.size u5 (allF (frs ((zn zs).take k))) rfl HG4.out.1.1 HG4.out.1.2.size (some ⟨g, 0, none⟩) _ _ _ rfl HBY.out (fun e => by cases e) (by have := HLE.out; omega) ?_; intro v5 w5 ho hg hnn _; have HW5 : Hid (GS w2 zs (k + 1) v5 w5) := Lib.hid ⟨⟨by rw [HNX.out]; exact ho, HG4.out.1.2.trans ⟨hg.os, hg.tape, hg.output, hg.size, fun i hi => hg.block i (Nat.lt_of_lt_of_le hi HG4.out.1.2.size) (fun e => by have := (HG4.out.1.1.lt _ e.symm).1; omega)⟩⟩, HFZ.out⟩; clear ho hg hnn; obtain ⟨A5, c5, rfl, hB5, hc5, hn5⟩ := own_slice_n HW5.out.1.1 (allF_bytes HAO.out) HLL.out; have HB5 := Lib.hid (And.intro hB5 hc5); clear hB5 hc5 hn5)
          obtain ⟨S, E, X, EB, XB, CL, bl, hbl, hOF, hRD, hBX⟩ := grow_pack _ HAO.out
          have HRD := Lib.hid hRD
          have HBX := Lib.hid hBX
          have HBL := Lib.hid hbl
          have HBW5 := Lib.hid (HB2.out.trans (HW5.out.1.2.mono HB2.out.size))
          have HOF := Lib.hid (hOF w5 (some ⟨b, o, none⟩) (k + 1) c _ ((HRZ.out w5 HBW5.out).rd (k + 1) (by omega) (fun z hz => (HFZ.out z hz).1)) (by have := HN.out; omega) (zn_take zs (k + 1)).symm)
          clear hbl hOF hRD hBX
          refine HOF.out.mono ?_
          rintro x w6 ⟨A3, n3, c3, q3, rfl, hR3, hq3, hb6, -, -⟩
          obtain ⟨w7, hw7⟩ : ∃ w7, w7 = w6.alloc (.cells #[.string S, .int .u32 (EB : Nat), .int .u32 (XB : Nat), .slice A3 n3 c3] 35) := ⟨_, rfl⟩
          have hb67 : Below w6.heap.size w6 w7 := by rw [hw7]; exact (Below.refl _ _).alloc (Nat.le_refl _) _
          have hb57 : Below w5.heap.size w5 w7 := hb6.trans (hb67.mono hb6.size)
          have HBC := Lib.hid (fun (w' : World) (h : Below w7.heap.size w7 w') => (bod.boxed (w := w6) (o := (.cells #[.string S, .int .u32 (EB : Nat), .int .u32 (XB : Nat), .slice A3 n3 c3] 35)) (w1 := w') (by rw [← hw7]; exact h)).1)
          have HB7 := Lib.hid (HBW5.out.trans (hb57.mono HBW5.out.size))
          have HG7 := Lib.hid (HW5.out.below hb57)
          have HR3 := Lib.hid (hR3.below hb67)
          have HQ3 := Lib.hid hq3
          have HRR := Lib.hid (HRD.out w7 A5 N5 c5 _ N5 (HB5.out.1.below HB5.out.1.lt hb57) HB5.out.2 (by have h1 := HLN.out; have h2 := HLL.out; omega) (HLaid.out w7 HB7.out) (HFit.out w7 HB7.out) (ntsL_whole HAO.out) (by rw [scan_whole HAO.out]; exact HLL.out))
          have HW7 := Lib.hid hw7
          have HP7 := Lib.hid (show w6.heap.size < w7.heap.size by rw [hw7]; simp)
          clear hR3 hq3 hb6 hw7 hb67 hb57 HOF HRD HW5 HB5
          go_wp2_with fail
          rw [← HW7.out]
          generalize w6.heap.size = p6 at *
          refine HRR.out.mono ?_
          rintro x w8 ⟨A1, n1, c1, z1, rfl, hR1, hn1, hz1, hb8⟩
          obtain ⟨w9, hw9⟩ : ∃ w9, w9 = w8.alloc (.cells #[.string S, .int .u32 (E : Nat), .int .u32 (X : Nat), .slice A1 n1 c1, .int .i64 (N5 : Nat), .bool CL] 27) := ⟨_, rfl⟩
          have hb89 : Below w8.heap.size w8 w9 := by rw [hw9]; exact (Below.refl _ _).alloc (Nat.le_refl _) _
          have hb79 : Below w7.heap.size w7 w9 := hb8.trans (hb89.mono hb8.size)
          have HLC := Lib.hid (fun (w' : World) (h : Below w9.heap.size w9 w') => (bod.boxed (w := w8) (o := (.cells #[.string S, .int .u32 (E : Nat), .int .u32 (X : Nat), .slice A1 n1 c1, .int .i64 (N5 : Nat), .bool CL] 27)) (w1 := w') (by rw [← hw9]; exact h)).1)
          have HBC9 := Lib.hid (fun (w' : World) (h : Below w9.heap.size w9 w') => HBC.out w' (hb79.trans (h.mono hb79.size)))
          have HR39 := Lib.hid (fun (w' : World) (h : Below w9.heap.size w9 w') => HR3.out.below (hb79.trans (h.mono hb79.size)))
          have HBX9 := Lib.hid (fun (w' : World) (h : Below w9.heap.size w9 w') => HBX.out w' A1 n1 c1 z1 N5 ((hR1.below hb89).below h) hn1 hz1)
          have HG9 := Lib.hid (HG7.out.below hb79)
          have HN1 := Lib.hid (show n1 = bl.length ∧ n1 ≤ 16000000 from ⟨by rw [HBL.out, ← hz1, nts_len, hR1.1], hn1⟩)
          have HN3 := Lib.hid (show n3 = bl.length by rw [← HQ3.out, nts_len, HR3.out.1])
          have HST := Lib.hid (show Below w9.heap.size w9 w9.drew from codec.below_draws (Below.refl _ _) 1)
          have HW9 := Lib.hid hw9
          have HP9 := Lib.hid (show w8.heap.size < w9.heap.size by rw [hw9]; simp)
          clear hR1 hn1 hz1 hb8 hw9 hb89 hb79 HRR HBX HBC HR3
          go_wp2_with fail
          rw [← HW9.out]
          generalize w8.heap.size = p8 at *
          refine wp_region_noPanic ?_
          refine wp_region_held_drew (S := fun w' => Below w9.heap.size w9 w') (by kernel_rfl) HST.out (fun hHeld => ?_)
          refine wpAnyH_take (i := 0) (v := ?_) rfl (by kernel_rfl) (by kernel_rfl) (by kernel_rfl) (fun _ _ _ h => h) (Or.inl ⟨by kernel_rfl, ?_⟩) hHeld ?_
          rotate_left
          · (intro w' hw'; go_simp; first | done | with_reducible rfl)
          refine wpAnyH_take (i := 1) (v := ?_) rfl (by kernel_rfl) (by kernel_rfl) (by kernel_rfl) (fun _ _ _ h => h) (Or.inl ⟨by kernel_rfl, ?_⟩) hHeld ?_
          rotate_left
          · (intro w' hw'; have l0 := cell_at (HLC.out _ hw') 0 _ rfl; have l1 := cell_at (HLC.out _ hw') 1 _ rfl; have l2 := cell_at (HLC.out _ hw') 2 _ rfl; have l3 := cell_at (HLC.out _ hw') 3 _ rfl; have l4 := cell_at (HLC.out _ hw') 4 _ rfl; have l5 := cell_at (HLC.out _ hw') 5 _ rfl; go_simp; first | done | with_reducible rfl)
          refine wpAnyH_take (i := 2) (v := ?_) rfl (by kernel_rfl) (by kernel_rfl) (by kernel_rfl) (fun _ _ _ h => h) (Or.inl ⟨by kernel_rfl, ?_⟩) hHeld ?_
          rotate_left
          · (intro w' hw'; go_simp; first | done | with_reducible rfl)
          refine wpAnyH_take (i := 3) (v := ?_) rfl (by kernel_rfl) (by kernel_rfl) (by kernel_rfl) (fun _ _ _ h => h) (Or.inl ⟨by kernel_rfl, ?_⟩) hHeld ?_
          rotate_left
          · (intro w' hw'; go_simp; first | done | with_reducible rfl)
          refine wpAnyH_take (i := 4) (v := ?_) rfl (by kernel_rfl) (by kernel_rfl) (by kernel_rfl) (fun _ _ _ h => h) (Or.inl ⟨by kernel_rfl, ?_⟩) hHeld ?_
          rotate_left
          · (intro w' hw'; go_simp; first | done | with_reducible rfl)
          refine wpAnyH_take (i := 5) (v := ?_) rfl (by kernel_rfl) (by kernel_rfl) (by kernel_rfl) (fun _ _ _ h => h) (Or.inl ⟨by kernel_rfl, ?_⟩) hHeld ?_
          rotate_left
          · (intro w' hw'; have l0 := cell_at (HLC.out _ hw') 0 _ rfl; have l1 := cell_at (HLC.out _ hw') 1 _ rfl; have l2 := cell_at (HLC.out _ hw') 2 _ rfl; have l3 := cell_at (HLC.out _ hw') 3 _ rfl; have l4 := cell_at (HLC.out _ hw') 4 _ rfl; have l5 := cell_at (HLC.out _ hw') 5 _ rfl; go_simp; first | done | with_reducible rfl)
          refine wpAnyH_take (i := 7) (v := ?_) rfl (by kernel_rfl) (by kernel_rfl) (by kernel_rfl) (fun _ _ _ h => h) (Or.inl ⟨by kernel_rfl, ?_⟩) hHeld ?_
          rotate_left
          · (intro w' hw'; have b0 := cell_at (HBC9.out _ hw') 0 _ rfl; have b1 := cell_at (HBC9.out _ hw') 1 _ rfl; have b2 := cell_at (HBC9.out _ hw') 2 _ rfl; have b3 := cell_at (HBC9.out _ hw') 3 _ rfl; go_simp; first | done | with_reducible rfl)
          refine wpAnyH_ready (rs := [6]) (by kernel_rfl) (by simp) ?_
          refine AllReadyH.cons rfl (fun K hK => ?_) AllReadyH.nil
          go_simp
          refine (HBX9.out _ hHeld).mono ?_
          rintro x w10 ⟨A7, n7, c7, q7, rfl, hR7, hc7, hq7, hb10⟩
          have hS10 := hHeld.trans (hb10.mono hHeld.size)
          have hn37 : n3 = n7 := by rw [HN3.out, ← hq7, nts_len, hR7.1]
          have hsm := sameBox_true w10 S EB XB A7 A3 n7 c7 c3 q7 q3 hR7 (hn37 ▸ HR39.out _ hS10) (hq7.trans HQ3.out.symm) (by have h1 := HN1.out; have h2 := HN3.out; omega)
          rw [← hn37] at hsm ⊢
          have HSM := Lib.hid hsm
          clear hR7 hc7 hq7 hb10 hn37 hsm
          go_wp2_with fail
          refine hK.out _ _ hS10 (fun hH1 => ?_)
          clear hK K hHeld
          refine wpAnyH_ready (rs := [8]) (by kernel_rfl) (by simp) ?_
          refine AllReadyH.cons rfl (fun K hK => ?_) AllReadyH.nil
          go_simp
          refine HSM.out.mono ?_
          rintro x w11 ⟨rfl, hb11⟩
          have hS11 := hS10.trans (hb11.mono hS10.size)
          go_wp2_with fail
          refine hK.out _ _ hS11 (fun hH2 => ?_)
          clear hK K hH1
          refine wpAnyH_take (i := 9) (v := ?_) rfl (by kernel_rfl) (by kernel_rfl) (by kernel_rfl) (fun _ _ _ h => h) (Or.inl ⟨by kernel_rfl, ?_⟩) hH2 ?_
          rotate_left
          · (intro w' hw'; go_simp; first | done | with_reducible rfl)
          refine wpAnyH_take (i := 10) (v := ?_) rfl (by kernel_rfl) (by kernel_rfl) (by kernel_rfl) (fun _ _ _ h => h) (Or.inl ⟨by kernel_rfl, ?_⟩) hH2 ?_
          rotate_left
          · (intro w' hw'; go_simp; first | done | with_reducible rfl)
          refine wpAnyH_done (by kernel_rfl) ?_ _
          refine NoPanic.normal ?_
          have HG11 := Lib.hid (HG9.out.below hS11)
          go_simp
          go_wp2_with fail
          go_roundw
          case rel => first | exact ⟨k + 1, by omega, by go_num, HG11⟩ | ((repeat apply Exists.intro); exact ⟨⟨k + 1, by omega, by go_num, HG11⟩, rfl⟩)
          case measure => (show n - ((k : Int) + 1).toNat < n - k; omega)
    · have HE : Hid (GS w2 zs n u5 wr) := Lib.hid (by have := HS.out; rwa [show k = n by omega] at this)
      have hlt' : decide ((k : Int) < (n : Int)) = false := by rw [decide_eq_false_iff_not]; omega
      obtain ⟨⟨ho, hbw⟩, hfz⟩ := HE.out
      have hao := hfz.all (HRZ.out wr HBR.out) HLIM.out
      have hln := hfz.len (HRZ.out wr HBR.out) HLIM.out HN.out
      rw [HZL.out] at ho hao hln
      obtain ⟨L, hL⟩ : ∃ L, L = allF (frs (zn zs)) := ⟨_, rfl⟩
      have hLb : ∀ b ∈ L, b < 256 := by rw [hL]; exact allF_bytes hao
      rw [← hL] at ho hln
      obtain ⟨N5, hN5⟩ : ∃ N5, L.length = N5 := ⟨_, rfl⟩
      obtain ⟨A5, c5, rfl, hB5, hc5, hn5⟩ := own_slice_n ho hLb hN5
      obtain ⟨S, E, X, EB, XB, CL, bl, hbl, hOF, hRD, hBX⟩ := grow_pack (zn zs) hao
      obtain ⟨FG, hFG⟩ : ∃ FG, frameL gg.k gg.pay = FG := ⟨_, rfl⟩
      have hFGl : FG.length = 52 := by rw [← hFG, frameL_length, gg_pay]
      have HGF := Lib.hid (fun (w1 : World) => show Calls Tryz.prog 17 #[.agg #[.int .i64 3, .int .u32 4294967295, .string ⟨#[]⟩, .int .u32 1, .int .i64 0, .int .i64 0, .slice none 0 0]] w1 fun x w' => ∃ g cap, x = .returned (.slice (some ⟨g, 0, none⟩) 52 cap) ∧ 52 ≤ cap ∧ Bytes w' (some ⟨g, 0, none⟩) 52 FG ∧ Below w1.heap.size w1 w' from noteFrame_any w1 3 4294967295 1 ⟨#[]⟩ 0 0 none 0 0 [] FG 52 (by decide) (by decide) (by decide) (codec.empty_bytes w1) (fun _ => rfl) hFG hFGl)
      have HHO := Lib.hid ho
      have HOW := Lib.hid hbw
      have HLN := Lib.hid (show N5 ≤ 18630 by omega)
      have HL := Lib.hid hL
      have HL5 := Lib.hid hN5
      have HLB := Lib.hid hLb
      have HFZ := Lib.hid hfz
      have HAO := Lib.hid hao
      have HOF := Lib.hid hOF
      have HRD := Lib.hid hRD
      have HBX := Lib.hid hBX
      have HBL := Lib.hid hbl
      have HFG := Lib.hid hFG
      clear ho hbw hfz hao hln hL hLb hN5 hB5 hc5 hn5 hbl hOF hRD hBX hFG hFGl HS HE
      go_wp2_with fail
      refine (HGF.out wr).mono ?_
      rintro x w3 ⟨g, cap, rfl, hcap, hB3, hb3⟩
      have HB3 := Lib.hid (HBR.out.trans (hb3.mono HBR.out.size))
      have HHO3 := Lib.hid (own_below HHO.out hb3)
      have HW3 := Lib.hid (HOW.out.trans (hb3.mono HOW.out.size))
      have HY3 := Lib.hid hB3
      have HCAP := Lib.hid hcap
      have HS3 := Lib.hid hb3.size
      have HO3 := Lib.hid (HOF.out w3 A n c _ ((HRZ.out w3 HB3.out).rd n (Nat.le_refl _) (fun z hz => (HFZ.out z hz).1)) (by have := HN.out; omega) ((zn_take zs n).symm.trans HZL.out))
      clear hcap hB3 hb3 HGF HOF
      go_wp2_with fail
      refine HO3.out.mono ?_
      rintro x w4 ⟨A3, n3, c3, q3, rfl, hR3, hq3, hb4, hf4, ho4⟩
      obtain ⟨w5, hw5⟩ : ∃ w5, w5 = w4.alloc (.cells #[.string S, .int .u32 (EB : Nat), .int .u32 (XB : Nat), .slice A3 n3 c3] 35) := ⟨_, rfl⟩
      have hb45 : Below w4.heap.size w4 w5 := by rw [hw5]; exact (Below.refl _ _).alloc (Nat.le_refl _) _
      have hb35 : Below w3.heap.size w3 w5 := hb4.trans (hb45.mono hb4.size)
      have h5 : w5.heap[w4.heap.size]? = some (.cells #[.string S, .int .u32 (EB : Nat), .int .u32 (XB : Nat), .slice A3 n3 c3] 35 (0, 0)) := by rw [hw5]; exact heap_alloc_new _ _
      have HB5 := Lib.hid (HB3.out.trans (hb35.mono HB3.out.size))
      have HHO5 := Lib.hid (own_below HHO3.out hb35)
      have HW25 := Lib.hid (HW3.out.trans (hb35.mono HW3.out.size))
      have HY5 := Lib.hid (HY3.out.below HY3.out.lt hb35)
      have HR3 := Lib.hid (hR3.below hb45)
      have HQ3 := Lib.hid hq3
      have HH5 := Lib.hid h5
      have HP5 := Lib.hid (show w4.heap.size < w5.heap.size ∧ wr.heap.size ≤ w4.heap.size by rw [hw5]; exact ⟨by simp, Nat.le_trans HS3.out hb4.size⟩)
      have HF4 := Lib.hid (show ∀ ad, A3 = some ad → some ad.block ≠ (Value.slice A5 N5 c5).ownBlock from fun ad e e' => by
        have h1 := hf4 ad e
        have h2 := (HHO.out.lt _ e'.symm).2
        have h3 := HS3.out
        omega)
      have HO4 := Lib.hid (show ∀ y ∈ q3, ∀ ad, y.A = some ad → 0 < y.m → some ad.block ≠ (Value.slice A5 N5 c5).ownBlock from fun y hy ad e h0 e' => by
        obtain ⟨y2, hy2, e1, e2⟩ := ho4 y hy
        obtain ⟨z, hz, rfl⟩ := List.mem_map.1 hy2
        have h1 := HOCT.out z (List.mem_of_mem_take hz) ad (e1 ▸ e) (show 0 < (toY z).m from e2 ▸ h0)
        have h2 := (HHO.out.lt _ e'.symm).1
        have h3 := HB2.out.size
        omega)
      have HW5 := Lib.hid hw5
      obtain ⟨j, hj⟩ : ∃ j, j = t % 52 := ⟨_, rfl⟩
      have hrm : Int.tmod (t : Int) 52 = (j : Int) := by rw [hj]; rfl
      have hj52 : j < 52 := by omega
      have hjc : (j : Int) ≤ (cap : Int) := by have := HCAP.out; omega
      have ht256 := HT.out
      obtain ⟨N6, hN6⟩ : ∃ N6, (L ++ FG.take j).length = N6 := ⟨_, rfl⟩
      have HN6 := Lib.hid hN6
      have HJJ := Lib.hid hj52
      have hpb : ∀ b ∈ L ++ FG.take j, b < 256 := codec.all_lt HLB.out (fun b hb => HY3.out.2.1 b (List.mem_of_mem_take hb))
      have HPB := Lib.hid hpb
      clear hR3 hq3 hb4 hf4 ho4 hw5 hb45 hb35 h5 HO3 hN6 hpb hj
      go_wp2_with (first
        | (at_builtin; refine codec.wpList_append_bytes rfl (.tmp 80) (.tmp 87) rfl w2.heap.size (.slice A5 N5 c5) L rfl (HW5.out ▸ HHO5.out) (HW5.out ▸ HW25.out.size) (some ⟨g, 0, none⟩) j cap (FG.take j) rfl (HW5.out ▸ bytes_take HY5.out j (by have := HJJ.out; omega)) (fun e => by cases e) (by have h1 := HLN.out; have h2 := HL5.out; have h3 := HJJ.out; omega) ?_; intro v6 w6 ho hg hnn _; rw [← HW5.out] at hg; have HHH := Lib.hid (And.intro ho hg); clear ho hg hnn; obtain ⟨A6, c6, rfl, hB6, hc6, hn6⟩ := own_slice_n HHH.out.1 HPB.out HN6.out; have HB6 := Lib.hid (And.intro hB6 hc6); clear hB6 hc6 hn6))
      have hrow : ∀ ad : Addr, some w4.heap.size ≠ (Value.slice A5 N5 c5).ownBlock := fun _ e => by
        have h1 := (HHO.out.lt _ e.symm).2
        have h2 := HP5.out.2
        omega
      have h6 : w6.heap[w4.heap.size]? = some (.cells #[.string S, .int .u32 (EB : Nat), .int .u32 (XB : Nat), .slice A3 n3 c3] 35 (0, 0)) := by rw [HHH.out.2.block _ HP5.out.1 (hrow ⟨0, 0, none⟩)]; exact HH5.out
      have HB6W := Lib.hid (HB5.out.trans (show Below W.heap.size w5 w6 from ⟨HHH.out.2.os, HHH.out.2.tape, HHH.out.2.output, HHH.out.2.size, fun i hi => HHH.out.2.block i (Nat.lt_of_lt_of_le hi HB5.out.size) (fun e => by
        have h1 := (HHO.out.lt _ e.symm).1
        have h2 := HB2.out.size
        omega)⟩))
      have HR6 := Lib.hid (HR3.out.grown HHH.out.2 HF4.out HO4.out)
      have HP6 := Lib.hid (show w4.heap.size < w6.heap.size from Nat.lt_of_lt_of_le HP5.out.1 HHH.out.2.size)
      have HBC6 := Lib.hid (fun (w' : World) (h : Below w6.heap.size w6 w') => (h.block _ HP6.out).trans h6)
      have HRR := Lib.hid (HRD.out w6 A6 N6 c6 (L ++ FG.take j) N5 HB6.out.1 HB6.out.2 (by
        have h1 := HN6.out
        have h2 := HL5.out
        have h3 := HLN.out
        rw [List.length_append, List.length_take] at h1
        omega) (HLaid.out w6 HB6W.out) (HFit.out w6 HB6W.out) (by rw [HL.out, ← HFG.out]; exact ntsL_torn HAO.out gg_ok j (by rw [gg_pay]; have := HJJ.out; omega)) (by rw [HL.out, ← HFG.out, scan_torn HAO.out gg_ok j (by rw [gg_pay]; have := HJJ.out; omega)]; rw [← HL.out]; exact HL5.out))
      clear hrow h6 hrm hj52 hjc ht256 HRD
      refine HRR.out.mono ?_
      rintro x w8 ⟨A1, n1, c1, z1, rfl, hR1, hn1, hz1, hb8⟩
      obtain ⟨w9, hw9⟩ : ∃ w9, w9 = w8.alloc (.cells #[.string S, .int .u32 (E : Nat), .int .u32 (X : Nat), .slice A1 n1 c1, .int .i64 (N5 : Nat), .bool CL] 27) := ⟨_, rfl⟩
      have hb89 : Below w8.heap.size w8 w9 := by rw [hw9]; exact (Below.refl _ _).alloc (Nat.le_refl _) _
      have hb79 : Below w6.heap.size w6 w9 := hb8.trans (hb89.mono hb8.size)
      have HLC := Lib.hid (fun (w' : World) (h : Below w9.heap.size w9 w') => (bod.boxed (w := w8) (o := (.cells #[.string S, .int .u32 (E : Nat), .int .u32 (X : Nat), .slice A1 n1 c1, .int .i64 (N5 : Nat), .bool CL] 27)) (w1 := w') (by rw [← hw9]; exact h)).1)
      have HBC9 := Lib.hid (fun (w' : World) (h : Below w9.heap.size w9 w') => HBC6.out w' (hb79.trans (h.mono hb79.size)))
      have HR39 := Lib.hid (fun (w' : World) (h : Below w9.heap.size w9 w') => HR6.out.below (hb79.trans (h.mono hb79.size)))
      have HBX9 := Lib.hid (fun (w' : World) (h : Below w9.heap.size w9 w') => HBX.out w' A1 n1 c1 z1 N5 ((hR1.below hb89).below h) hn1 hz1)
      have HB9 := Lib.hid (HB6W.out.trans (hb79.mono HB6W.out.size))
      have HN1 := Lib.hid (show n1 = bl.length ∧ n1 ≤ 16000000 from ⟨by rw [HBL.out, ← hz1, nts_len, hR1.1], hn1⟩)
      have HN3 := Lib.hid (show n3 = bl.length by rw [← HQ3.out, nts_len, HR6.out.1])
      have HST := Lib.hid (show Below w9.heap.size w9 w9.drew from codec.below_draws (Below.refl _ _) 1)
      have HW9 := Lib.hid hw9
      have HP9 := Lib.hid (show w8.heap.size < w9.heap.size by rw [hw9]; simp)
      clear hR1 hn1 hz1 hb8 hw9 hb89 hb79 HRR HBX
      go_wp2_with fail
      rw [← HW9.out]
      generalize w8.heap.size = p8 at *
      generalize w4.heap.size = p4 at *
      refine wp_region_noPanic ?_
      refine wp_region_held_drew (S := fun w' => Below w9.heap.size w9 w') (by kernel_rfl) HST.out (fun hHeld => ?_)
      refine wpAnyH_take (i := 0) (v := ?_) rfl (by kernel_rfl) (by kernel_rfl) (by kernel_rfl) (fun _ _ _ h => h) (Or.inl ⟨by kernel_rfl, ?_⟩) hHeld ?_
      rotate_left
      · (intro w' hw'; have l0 := cell_at (HLC.out _ hw') 0 _ rfl; have l1 := cell_at (HLC.out _ hw') 1 _ rfl; have l2 := cell_at (HLC.out _ hw') 2 _ rfl; have l3 := cell_at (HLC.out _ hw') 3 _ rfl; have l4 := cell_at (HLC.out _ hw') 4 _ rfl; have l5 := cell_at (HLC.out _ hw') 5 _ rfl; go_simp; first | done | with_reducible rfl)
      refine wpAnyH_take (i := 2) (v := ?_) rfl (by kernel_rfl) (by kernel_rfl) (by kernel_rfl) (fun _ _ _ h => h) (Or.inl ⟨by kernel_rfl, ?_⟩) hHeld ?_
      rotate_left
      · (intro w' hw'; have b0 := cell_at (HBC9.out _ hw') 0 _ rfl; have b1 := cell_at (HBC9.out _ hw') 1 _ rfl; have b2 := cell_at (HBC9.out _ hw') 2 _ rfl; have b3 := cell_at (HBC9.out _ hw') 3 _ rfl; go_simp; first | done | with_reducible rfl)
      refine wpAnyH_ready (rs := [1]) (by kernel_rfl) (by simp) ?_
      refine AllReadyH.cons rfl (fun K hK => ?_) AllReadyH.nil
      go_simp
      refine (HBX9.out _ hHeld).mono ?_
      rintro x w10 ⟨A7, n7, c7, q7, rfl, hR7, hc7, hq7, hb10⟩
      have hS10 := hHeld.trans (hb10.mono hHeld.size)
      have hn37 : n3 = n7 := by rw [HN3.out, ← hq7, nts_len, hR7.1]
      have hsm := sameBox_true w10 S EB XB A7 A3 n7 c7 c3 q7 q3 hR7 (hn37 ▸ HR39.out _ hS10) (hq7.trans HQ3.out.symm) (by have h1 := HN1.out; have h2 := HN3.out; omega)
      rw [← hn37] at hsm ⊢
      have HSM := Lib.hid hsm
      clear hR7 hc7 hq7 hb10 hn37 hsm
      go_wp2_with fail
      refine hK.out _ _ hS10 (fun hH1 => ?_)
      clear hK K hHeld
      refine wpAnyH_ready (rs := [3]) (by kernel_rfl) (by simp) ?_
      refine AllReadyH.cons rfl (fun K hK => ?_) AllReadyH.nil
      go_simp
      refine HSM.out.mono ?_
      rintro x w11 ⟨rfl, hb11⟩
      have hS11 := hS10.trans (hb11.mono hS10.size)
      go_wp2_with fail
      refine hK.out _ _ hS11 (fun hH2 => ?_)
      clear hK K hH1
      refine wpAnyH_take (i := 4) (v := ?_) rfl (by kernel_rfl) (by kernel_rfl) (by kernel_rfl) (fun _ _ _ h => h) (Or.inl ⟨by kernel_rfl, ?_⟩) hH2 ?_
      rotate_left
      · (intro w' hw'; go_simp; first | done | with_reducible rfl)
      refine wpAnyH_take (i := 5) (v := ?_) rfl (by kernel_rfl) (by kernel_rfl) (by kernel_rfl) (fun _ _ _ h => h) (Or.inl ⟨by kernel_rfl, ?_⟩) hH2 ?_
      rotate_left
      · (intro w' hw'; go_simp; first | done | with_reducible rfl)
      refine wpAnyH_take (i := 6) (v := ?_) rfl (by kernel_rfl) (by kernel_rfl) (by kernel_rfl) (fun _ _ _ h => h) (Or.inl ⟨by kernel_rfl, ?_⟩) hH2 ?_
      rotate_left
      · (intro w' hw'; have l0 := cell_at (HLC.out _ hw') 0 _ rfl; have l1 := cell_at (HLC.out _ hw') 1 _ rfl; have l2 := cell_at (HLC.out _ hw') 2 _ rfl; have l3 := cell_at (HLC.out _ hw') 3 _ rfl; have l4 := cell_at (HLC.out _ hw') 4 _ rfl; have l5 := cell_at (HLC.out _ hw') 5 _ rfl; go_simp; first | done | with_reducible rfl)
      refine wpAnyH_take (i := 7) (v := ?_) rfl (by kernel_rfl) (by kernel_rfl) (by kernel_rfl) (fun _ _ _ h => h) (Or.inl ⟨by kernel_rfl, ?_⟩) hH2 ?_
      rotate_left
      · (intro w' hw'; go_simp; first | done | with_reducible rfl)
      refine wpAnyH_take (i := 8) (v := ?_) rfl (by kernel_rfl) (by kernel_rfl) (by kernel_rfl) (fun _ _ _ h => h) (Or.inl ⟨by kernel_rfl, ?_⟩) hH2 ?_
      rotate_left
      · (intro w' hw'; go_simp; first | done | with_reducible rfl)
      refine wpAnyH_take (i := 9) (v := ?_) rfl (by kernel_rfl) (by kernel_rfl) (by kernel_rfl) (fun _ _ _ h => h) (Or.inl ⟨by kernel_rfl, ?_⟩) hH2 ?_
      rotate_left
      · (intro w' hw'; go_simp; first | done | with_reducible rfl)
      refine wpAnyH_take (i := 10) (v := ?_) rfl (by kernel_rfl) (by kernel_rfl) (by kernel_rfl) (fun _ _ _ h => h) (Or.inl ⟨by kernel_rfl, ?_⟩) hH2 ?_
      rotate_left
      · (intro w' hw'; go_simp; first | done | with_reducible rfl)
      refine wpAnyH_take (i := 11) (v := ?_) rfl (by kernel_rfl) (by kernel_rfl) (by kernel_rfl) (fun _ _ _ h => h) (Or.inl ⟨by kernel_rfl, ?_⟩) hH2 ?_
      rotate_left
      · (intro w' hw'; go_simp; first | done | with_reducible rfl)
      refine wpAnyH_done (by kernel_rfl) ?_ _
      refine NoPanic.normal ?_
      have HB11 := Lib.hid (HB9.out.trans (hS11.mono HB9.out.size))
      go_simp
      go_wp2_with fail
      go_ret
      exact ⟨rfl, HB11.out⟩
/-- The law, over whatever notes come in. -/
theorem grows_walk (W : World) (A : Option Addr) (n c t : Nat) (zs : List (Int × Y)) (hZ : RdZ W A n zs) (hc : n ≤ c) (hlim : Lim zs) (ht : t < 256) (hL : sumDoor.Laid W) (hr : Fit W) :
    Calls Tryz.prog 5 #[.slice A n c, .int .u8 (t : Nat)] W fun x w' => x = .returned (.bool true) ∧ Below W.heap.size W w' := by
  by_cases hn : 30 < n
  · exact grows_many W A n c t hn hL hr
  · exact grows_few W A n c t zs hZ hc hlim ht (by omega) hL hr
end Go.Proofs.YtfmdhcjniikfdaaGreatDoor.lg
