/- Copy, as the document says: the walk. -/
import Derived.Test.YtepngemlaiffgaaDoorMx1
namespace Go.Proofs.YtepngemlaiffgaaDoor.mal
open Go.ChangeShapes Go.WideShapes Go.ChangeAt Go.RowKit
open Go.Proofs.YtepngemlaiffgaaDoor.codec (Bytes vals)
open Go.Proofs.YtepngemlaiffgaaDoor.bod (cell_at Fit boxed named formedB fitsB)
open Go.Proofs.YtepngemlaiffgaaDoor.lg (Nt Y Rd Own Oct cM fM fl fl_at nts nts_at nts_len take_next)
set_option linter.unusedVariables false
set_option maxRecDepth 100000
set_option linter.unusedSimpArgs false

/-- What the document's Copy answers. -/
def CqAns (W : World) (S' : ByteArray) (E' : Nat) (c : CS) (x : Ending) (w' : World) : Prop :=
  (c.e ≠ 0 ∧ x = .returned (.tuple #[.agg #[.string ⟨#[]⟩, .int .u32 0, .int .u32 0, .slice none 0 0], .slice none 0 0, .int .i64 (c.e : Nat)]) ∧ Below W.heap.size W w') ∨
  (c.e = 0 ∧ ∃ A n cc vc ys, x = .returned (.tuple #[.agg #[.string S', .int .u32 (E' : Nat), .int .u32 (c.X : Nat), .slice A n cc], vc, .int .i64 0]) ∧ Rd cM 4 w' A n ys ∧ (A = none → cc = 0) ∧ nts ys = c.l ∧ row.Own cU 1 W.heap.size 22 w' vc c.g ∧ Below W.heap.size W w')
theorem rd_others {F : Y → List Value} {K : Nat} {w w' : World} {A : Option Addr} {n : Nat} {ys : List Y} (h : Rd F K w A n ys) (g : Nat) (hw : ∀ k, k ≠ g → w'.heap[k]? = w.heap[k]?) (hA : ∀ ad, A = some ad → 0 < n → ad.block ≠ g) (hO : ∀ y ∈ ys, ∀ ad, y.A = some ad → 0 < y.m → ad.block ≠ g) : Rd F K w' A n ys := by
  refine ⟨h.1, fun k hk => ?_⟩
  obtain ⟨b, o, y, h1, h2, h3, h4⟩ := h.2 k hk
  refine ⟨b, o, y, h1, h2, fun j v hv => ?_, h4.1.kept fun ad e h0 => hw _ (hO y (List.mem_of_getElem? h2) ad e h0), h4.2⟩
  rw [World.cell?_of_block (w := w) (hw b (hA _ h1 (by omega)))]
  exact h3 j v hv
theorem next2 {W : World} {FB : Array Value} {S' : ByteArray} {E' X' : Nat} {l : List Nt} {g : List Nat} {A2 : Option Addr} {n2 c2 : Nat} {vc : Value} {w w8 : World} {A6 : Option Addr} {n6 c6 B8 : Nat} {ys : List Y} {y : Y} (h : DS W FB S' E' X' l g A2 n2 c2 vc w) (h2 : nts ys = l) (h3 : ∀ z ∈ ys ++ [y], ∀ ad, z.A = some ad → 0 < z.m → ad.block < W.heap.size) (hb : Below w.heap.size w w8) (ho : Own cM 4 B8 30 w8 (.slice A6 n6 c6) (ys ++ [y])) (hB : w.heap.size ≤ B8) :
    DS W FB S' E' (X' + 1) (l ++ [y.n]) g A6 n6 c6 vc ((((w8.setCell ⟨W.heap.size + 1, 0, none⟩ (.string S')).setCell ⟨W.heap.size + 1, 1, none⟩ (.int .u32 (E' : Nat))).setCell ⟨W.heap.size + 1, 2, none⟩ (.int .u32 ((X' : Int) + 1))).setCell ⟨W.heap.size + 1, 3, none⟩ (.slice A6 n6 c6)) := by
  have h := h.next h2 h3 hb ho hB
  rw [show ((X' + 1 : Nat) : Int) = (X' : Int) + 1 by omega] at h
  exact h
set_option maxHeartbeats 8000000 in
theorem rcopy_any (W : World) (S S' : ByteArray) (E X E' X' : Nat) (A A' : Option Addr) (n c n' c' : Nat) (qs zs : List Y) (B : Option Addr) (q dd : Nat) (U : List Nat) (hR : Rd cM 4 W A n qs) (hn : n ≤ 1000000) (hR' : Rd cM 4 W A' n' zs) (hnil' : A' = none → c' = 0) (hU : Nums W B q U) (hq : q ≤ 1000000) (hX' : X' < 4294967296) (hw : right S E X (nts qs) = true) (hw' : right S' E' X' (nts zs) = true) :
    Calls Tryd.prog 24 #[.agg #[.string S, .int .u32 (E : Nat), .int .u32 (X : Nat), .slice A n c], .agg #[.string S', .int .u32 (E' : Nat), .int .u32 (X' : Nat), .slice A' n' c'], .slice B q dd] W fun x w' => CqAns W S' E' (cpA S' E' U X' (nts zs) (nts qs)) x w' := by
  obtain ⟨W1, hW1⟩ : ∃ W1, W1 = ((W.alloc (.cells #[.string S, .int .u32 (E : Nat), .int .u32 (X : Nat), .slice A n c] 25)).alloc (.cells #[.string S', .int .u32 (E' : Nat), .int .u32 (X' : Nat), .slice A' n' c'] 25)).alloc (.cells #[.string ⟨#[]⟩, .int .u32 0, .int .u32 0, .slice none 0 0] 25) := ⟨_, rfl⟩
  have HBW := Lib.hid (show Below W.heap.size W W1 by rw [hW1]; exact (((Below.refl _ _).alloc (Nat.le_refl _) _).alloc (by simp) _).alloc (by simp; omega) _)
  have h1 : W1.heap[W.heap.size]? = some (.cells #[.string S, .int .u32 (E : Nat), .int .u32 (X : Nat), .slice A n c] 25 (0, 0)) := by rw [hW1, heap_alloc_old _ _ (by simp; omega), heap_alloc_old _ _ (by simp)]; exact heap_alloc_new _ _
  have h2 : W1.heap[W.heap.size + 1]? = some (.cells #[.string S', .int .u32 (E' : Nat), .int .u32 (X' : Nat), .slice A' n' c'] 25 (0, 0)) := by rw [hW1, heap_alloc_old _ _ (by simp)]; have := heap_alloc_new (W.alloc (.cells #[.string S, .int .u32 (E : Nat), .int .u32 (X : Nat), .slice A n c] 25)) (.cells #[.string S', .int .u32 (E' : Nat), .int .u32 (X' : Nat), .slice A' n' c'] 25); simpa using this
  have h3 : W1.heap[W.heap.size + 2]? = some (.cells #[.string ⟨#[]⟩, .int .u32 0, .int .u32 0, .slice none 0 0] 25 (0, 0)) := by rw [hW1]; have := heap_alloc_new ((W.alloc (.cells #[.string S, .int .u32 (E : Nat), .int .u32 (X : Nat), .slice A n c] 25)).alloc (.cells #[.string S', .int .u32 (E' : Nat), .int .u32 (X' : Nat), .slice A' n' c'] 25)) (.cells #[.string ⟨#[]⟩, .int .u32 0, .int .u32 0, .slice none 0 0] 25); simpa using this
  have HRQ := Lib.hid (fun (w' : World) (h : Below W.heap.size W w') => hR.below h)
  have HNums := Lib.hid (fun (w' : World) (h : Below W.heap.size W w') => hU.below h)
  have HL := Lib.hid (show (nts qs).length = n by rw [nts_len, hR.1])
  have HOQ := Lib.hid (show ∀ y ∈ qs, ∀ ad, y.A = some ad → 0 < y.m → ad.block < W.heap.size from fun y hy ad e h0 => (rd_oct hR hy).1.lt ad e h0)
  have HDS := Lib.hid (show DS W #[.string S, .int .u32 (E : Nat), .int .u32 (X : Nat), .slice A n c] S' E' X' (nts zs) [] A' n' c' (.slice none 0 0) W1 from ⟨h1, h2, h3, ⟨zs, hR'.below HBW.out, rfl, fun y hy ad e h0 => (rd_oct hR' hy).1.lt ad e h0⟩, hnil', fun ad e h0 => .inl (by
    obtain ⟨b, o, y, e1, e2, e3, -⟩ := hR'.2 0 h0
    rw [e1] at e
    cases e
    exact block_lt_of_cell (e3 0 _ rfl)), row.Own.nil _ _ _ _ _, HBW.out⟩)
  have c3 := cell_at (h1) 3 _ rfl
  have HW1 := Lib.hid hW1
  rw [hW1] at c3
  have HFt0 := Lib.hid (fun (t : Nt) (h : t ∈ nts qs) => fits_of hw h)
  have HG0 := Lib.hid (show Good S' E' X' ⟨nts zs, X', [], 0⟩ from ⟨rfl, hw', hX', by simp, by simp, Nat.le_refl _⟩)
  clear hW1 h1 h2 h3 hR hR' hnil' hU hw hw' hX'
  go_enter Tryd.func24, Tryd.ntmps24
  go_wp2_with fail
  rw [← HW1.out]
  clear c3
  go_loopw [9, 17] (fun vc i wr => ∃ (k : Nat) (A2 : Option Addr) (n2 c2 : Nat) (st : CS), k ≤ n ∧ i = .int .i64 k ∧ Hid (cpA S' E' U X' (nts zs) ((nts qs).take k) = st) ∧ Hid (Good S' E' X' st) ∧ Hid (DS W #[.string S, .int .u32 (E : Nat), .int .u32 (X : Nat), .slice A n c] S' E' st.X st.l st.g A2 n2 c2 vc wr)) (fun _ i _ => n - (intOf i).toNat)
  case atStart => exact ⟨0, A', n', c', ⟨nts zs, X', [], 0⟩, Nat.zero_le _, rfl, Lib.hid rfl, HG0, HDS⟩
  case round =>
    obtain ⟨k, A2, n2, c2, ⟨l2, X2, g2, e2⟩, hk, rfl, HC, HG, HD⟩ := hrel
    obtain rfl : e2 = 0 := HG.out.e
    simp only [] at HD
    by_cases hlt : k < n
    · obtain ⟨b, o, y, rfl, hx, m0, m1, m2, m3, hoc⟩ := (HRQ.out wr HD.out.bel).at4 k hlt
      have HX := Lib.hid (nts_at hx)
      have HFt := Lib.hid (HFt0.out y.n (List.mem_of_getElem? (nts_at hx)))
      have HOc := Lib.hid hoc
      have HYO := Lib.hid (HOQ.out y (List.mem_of_getElem? hx))
      have f3 := cell_at HD.out.frm 3 _ rfl
      have hlt' : (k : Int) < (n : Int) := by omega
      have HLn := Lib.hid (show l2.length = n2 by
        obtain ⟨ys, h1, h2, -⟩ := HD.out.rd
        rw [← h2, nts_len]
        exact h1.1)
      have lt1 := block_lt_of_cell m0
      have HEl := Lib.hid (fun (w' : World) (hw : Below wr.heap.size wr w') => And.intro ((hw.cell (p := ⟨b, o + k * 4, none⟩) lt1).trans m0) (And.intro ((hw.cell (p := ⟨b, o + k * 4 + 1, none⟩) lt1).trans m1) (And.intro ((hw.cell (p := ⟨b, o + k * 4 + 2, none⟩) lt1).trans m2) ((hw.cell (p := ⟨b, o + k * 4 + 3, none⟩) lt1).trans m3))))
      have HST := Lib.hid (show Below wr.heap.size wr wr.drew from codec.below_draws (Below.refl _ _) 1)
      have HIn := Lib.hid (in_any wr B q dd U y.n.u (HNums.out _ HD.out.bel) hq)
      clear hx hoc lt1 m1 m2 m3
      have hol := HOc.out.1.1
      obtain ⟨⟨tk, te, ts, tu, td, tf, to_⟩, pp, Am, m, cm⟩ := y
      simp only [] at m0 HX HFt HOc hol HEl HIn HYO
      cases hin : inB U tu with
      | false =>
        rw [hin] at HIn
        have HC1 := Lib.hid (show cpA S' E' U X' (nts zs) ((nts qs).take (k + 1)) = ⟨l2, X2, g2, 0⟩ by rw [take_next HX.out, cpA_snoc, HC.out]; exact cp1_no rfl hin)
        clear hin
        go_wp2_with fail
        refine HIn.out.mono ?_
        rintro x w5 ⟨rfl, hw5⟩
        replace hw5 := hw5.symm
        subst hw5
        go_wp2_with fail
        go_roundw
        case rel => first | exact ⟨k + 1, A2, n2, c2, ⟨l2, X2, g2, 0⟩, by omega, by go_num, HC1, HG, HD⟩ | ((repeat apply Exists.intro); exact ⟨⟨k + 1, A2, n2, c2, ⟨l2, X2, g2, 0⟩, by omega, by go_num, HC1, HG, HD⟩, rfl⟩)
        case measure => (show n - ((k : Int) + 1).toNat < n - k; omega)
      | true =>
        rw [hin] at HIn
        by_cases h5 : 500 ≤ l2.length
        · have h5n : 500 ≤ n2 := by have := HLn.out; omega
          have HC1 := Lib.hid (show cpA S' E' U X' (nts zs) ((nts qs).take (k + 1)) = ⟨l2, X2, g2, 5⟩ by rw [take_next HX.out, cpA_snoc, HC.out]; exact cp1_many rfl hin h5)
          have HCE := Lib.hid (show cpA S' E' U X' (nts zs) (nts qs) = ⟨l2, X2, g2, 5⟩ by rw [cpA_stop (k := k + 1) (by rw [HC1.out]; show (5 : Nat) ≠ 0; decide), HC1.out])
          have HAp := Lib.hid (fun (w' : World) (h : Below wr.heap.size wr w') => rappend_many w' S' E' X2 A2 n2 c2 tu td tf Am m cm h5n)
          clear HC1 hin h5 h5n
          go_wp2_with fail
          refine HIn.out.mono ?_
          rintro x w5 ⟨rfl, hw5⟩
          replace hw5 := hw5.symm
          subst hw5
          go_wp2_with fail
          clear f3 m0 hol
          refine wp_region_noPanic ?_
          refine wp_region_held_drew (S := fun w' => Below wr.heap.size wr w') (by kernel_rfl) HST.out (fun hHeld => ?_)
          refine wpAnyH_take (i := 0) (v := ?_) rfl (by kernel_rfl) (by kernel_rfl) (by kernel_rfl) (fun _ _ _ h => h) (Or.inl ⟨by kernel_rfl, ?_⟩) hHeld ?_
          rotate_left
          · (intro w' hw'; have th := (HD.out.below hw').to_; have t0 := cell_at th 0 _ rfl; have t1 := cell_at th 1 _ rfl; have t2 := cell_at th 2 _ rfl; have t3 := cell_at th 3 _ rfl; go_simp; first | done | with_reducible rfl)
          refine wpAnyH_take (i := 1) (v := ?_) rfl (by kernel_rfl) (by kernel_rfl) (by kernel_rfl) (fun _ _ _ h => h) (Or.inl ⟨by kernel_rfl, ?_⟩) hHeld ?_
          rotate_left
          · (intro w' hw'; go_simp; first | done | with_reducible rfl)
          refine wpAnyH_take (i := 2) (v := ?_) rfl (by kernel_rfl) (by kernel_rfl) (by kernel_rfl) (fun _ _ _ h => h) (Or.inl ⟨by kernel_rfl, ?_⟩) hHeld ?_
          rotate_left
          · (intro w' hw'; have fh := (HD.out.below hw').frm; have f3 := cell_at fh 3 _ rfl; go_simp; first | done | with_reducible rfl)
          refine wpAnyH_take (i := 3) (v := ?_) rfl (by kernel_rfl) (by kernel_rfl) (by kernel_rfl) (fun _ _ _ h => h) (Or.inl ⟨by kernel_rfl, ?_⟩) hHeld ?_
          rotate_left
          · (intro w' hw'; go_simp; first | done | with_reducible rfl)
          refine wpAnyH_take (i := 4) (v := ?_) rfl (by kernel_rfl) (by kernel_rfl) (by kernel_rfl) (fun _ _ _ h => h) (Or.inl ⟨by kernel_rfl, ?_⟩) hHeld ?_
          rotate_left
          · (intro w' hw'; go_simp; first | done | with_reducible rfl)
          refine wpAnyH_take (i := 5) (v := ?_) rfl (by kernel_rfl) (by kernel_rfl) (by kernel_rfl) (fun _ _ _ h => h) (Or.inl ⟨by kernel_rfl, ?_⟩) hHeld ?_
          rotate_left
          · (intro w' hw'; obtain ⟨x0, x1, x2, x3⟩ := HEl.out w' hw'; go_simp; first | done | with_reducible rfl)
          have hHeld0 : Below wr.heap.size wr wr.drew := HST.out
          generalize wr.drew = w2 at *
          refine wpAnyH_ready (rs := [6, 11]) (by kernel_rfl) (by simp) ?_
          refine AllReadyH.cons rfl (fun K hK => ?_) (AllReadyH.cons rfl (fun K hK => ?_) AllReadyH.nil)
          · go_simp
            refine (HAp.out w2 hHeld0).mono ?_
            rintro x w6 ⟨rfl, hb6⟩
            have hS6 := hHeld0.trans (hb6.mono hHeld0.size)
            go_wp2_with fail
            refine hK.out _ _ hS6 (fun hH6 => ?_)
            clear hK K
            refine wpAnyH_take (i := 7) (v := ?_) rfl (by kernel_rfl) (by kernel_rfl) (by kernel_rfl) (fun _ _ _ h => h) (Or.inl ⟨by kernel_rfl, ?_⟩) hH6 ?_
            rotate_left
            · (intro w' hw'; go_simp; first | done | with_reducible rfl)
            refine wpAnyH_take (i := 8) (v := ?_) rfl (by kernel_rfl) (by kernel_rfl) (by kernel_rfl) (fun _ _ _ h => h) (Or.inl ⟨by kernel_rfl, ?_⟩) hH6 ?_
            rotate_left
            · (intro w' hw'; go_simp; first | done | with_reducible rfl)
            refine wpAnyH_take (i := 9) (v := ?_) rfl (by kernel_rfl) (by kernel_rfl) (by kernel_rfl) (fun _ _ _ h => h) (Or.inl ⟨by kernel_rfl, ?_⟩) hH6 ?_
            rotate_left
            · (intro w' hw'; go_simp; first | done | with_reducible rfl)
            refine wpAnyH_take (i := 10) (v := ?_) rfl (by kernel_rfl) (by kernel_rfl) (by kernel_rfl) (fun _ _ _ h => h) (Or.inl ⟨by kernel_rfl, ?_⟩) hH6 ?_
            rotate_left
            · (intro w' hw'; go_simp; first | done | with_reducible rfl)
            refine wpAnyH_ready (rs := [11]) (by kernel_rfl) (by simp) ?_
            refine AllReadyH.cons rfl (fun K hK => ?_) AllReadyH.nil
            have hbz : Below w6.heap.size w6 (w6.alloc (.cells #[.string ⟨#[]⟩, .int .u32 0, .int .u32 0, .slice none 0 0] 25)) := (Below.refl _ _).alloc (Nat.le_refl _) _
            have hSz := hS6.trans (hbz.mono hS6.size)
            have hqz : (w6.alloc (.cells #[.string ⟨#[]⟩, .int .u32 0, .int .u32 0, .slice none 0 0] 25)).heap[w6.heap.size]? = some (.cells #[.string ⟨#[]⟩, .int .u32 0, .int .u32 0, .slice none 0 0] 25 (0, 0)) := heap_alloc_new _ _
            have HGq := Lib.hid (show wr.heap.size ≤ w6.heap.size from hS6.size)
            go_simp
            refine hK _ _ hSz (fun _ => ?_)
            clear hK K hbz
            generalize w6.heap.size = qq at *
            generalize w6.alloc (.cells #[.string ⟨#[]⟩, .int .u32 0, .int .u32 0, .slice none 0 0] 25) = wz at *
            have r0 := cell_at hqz 0 _ rfl
            have r1 := cell_at hqz 1 _ rfl
            have r2 := cell_at hqz 2 _ rfl
            have r3 := cell_at hqz 3 _ rfl
            have fz0 := frozen_of_row _ _ 0 _ _ hqz
            have fz1 := frozen_of_row _ _ 1 _ _ hqz
            have fz2 := frozen_of_row _ _ 2 _ _ hqz
            have fz3 := frozen_of_row _ _ 3 _ _ hqz
            obtain ⟨k1, k2, k3⟩ := four hqz rfl (.string ⟨#[]⟩) (.int .u32 0) (.int .u32 0) (.slice none 0 0)
            have hS8 : Below wr.heap.size wr ((((wz.setCell ⟨qq, 0, none⟩ (.string ⟨#[]⟩)).setCell ⟨qq, 1, none⟩ (.int .u32 0)).setCell ⟨qq, 2, none⟩ (.int .u32 0)).setCell ⟨qq, 3, none⟩ (.slice none 0 0)) := k3 _ _ hSz HGq.out
            have HQ8 := Lib.hid k1
            refine wpAnyH_ready (rs := [12]) (by kernel_rfl) (by simp) ?_
            refine AllReadyH.cons rfl (fun K hK => ?_) AllReadyH.nil
            go_simp
            refine hK _ _ hS8 (fun _ => ?_)
            clear hK K k1 k2 k3 r0 r1 r2 r3 fz0 fz1 fz2 fz3 hqz hSz
            have HS8 := Lib.hid hS8
            clear hS8
            generalize (((wz.setCell ⟨qq, 0, none⟩ (.string ⟨#[]⟩)).setCell ⟨qq, 1, none⟩ (.int .u32 0)).setCell ⟨qq, 2, none⟩ (.int .u32 0)).setCell ⟨qq, 3, none⟩ (.slice none 0 0) = w8 at *
            refine wpAnyH_take (i := 13) (v := ?_) rfl (by kernel_rfl) (by kernel_rfl) (by kernel_rfl) (fun _ _ _ h => h) (Or.inl ⟨by kernel_rfl, ?_⟩) HS8.out ?_
            rotate_left
            · (intro w' hw'; go_simp; first | done | with_reducible rfl)
            refine wpAnyH_take (i := 14) (v := ?_) rfl (by kernel_rfl) (by kernel_rfl) (by kernel_rfl) (fun _ _ _ h => h) (Or.inl ⟨by kernel_rfl, ?_⟩) HS8.out ?_
            rotate_left
            · (intro w' hw'; go_simp; first | done | with_reducible rfl)
            refine wpAnyH_done (by kernel_rfl) ?_ _
            refine NoPanic.normal ?_
            go_simp
            have hz := (HD.out.below HS8.out).res
            have HZ := Lib.hid hz
            have r0 := cell_at (hz) 0 _ rfl
            have r1 := cell_at (hz) 1 _ rfl
            have r2 := cell_at (hz) 2 _ rfl
            have r3 := cell_at (hz) 3 _ rfl
            have g0 := frozen_of_row _ _ 0 _ _ (hz)
            have g1 := frozen_of_row _ _ 1 _ _ (hz)
            have g2 := frozen_of_row _ _ 2 _ _ (hz)
            have g3 := frozen_of_row _ _ 3 _ _ (hz)
            clear hz
            go_wp2_with fail
            obtain ⟨k1, k2, k3⟩ := four HZ.out rfl (.string ⟨#[]⟩) (.int .u32 0) (.int .u32 0) (.slice none 0 0)
            refine bodyPost_ret (results_cell_tmp_tmp Tryd.results24 _ _ (W.heap.size + 2) _ _ _ _ rfl k1 Tryd.underlying25 rfl (boxSize _ rfl)) rfl (.inl ⟨by rw [HCE.out]; show (5 : Nat) ≠ 0; decide, by rw [HCE.out]; rfl, k3 _ _ (HD.out.bel.trans (HS8.out.mono HD.out.bel.size)) (by omega)⟩)
          · have hbz : Below w2.heap.size w2 (w2.alloc (.cells #[.string ⟨#[]⟩, .int .u32 0, .int .u32 0, .slice none 0 0] 25)) := (Below.refl _ _).alloc (Nat.le_refl _) _
            have hSa := hHeld0.trans (hbz.mono hHeld0.size)
            have hqa : (w2.alloc (.cells #[.string ⟨#[]⟩, .int .u32 0, .int .u32 0, .slice none 0 0] 25)).heap[w2.heap.size]? = some (.cells #[.string ⟨#[]⟩, .int .u32 0, .int .u32 0, .slice none 0 0] 25 (0, 0)) := heap_alloc_new _ _
            have HGq := Lib.hid (show wr.heap.size ≤ w2.heap.size from hHeld0.size)
            have HGs := Lib.hid (show w2.heap.size < (w2.alloc (.cells #[.string ⟨#[]⟩, .int .u32 0, .int .u32 0, .slice none 0 0] 25)).heap.size by simp)
            go_simp
            refine hK _ _ hSa (fun _ => ?_)
            clear hK K hbz
            generalize w2.heap.size = qq at *
            generalize w2.alloc (.cells #[.string ⟨#[]⟩, .int .u32 0, .int .u32 0, .slice none 0 0] 25) = wa at *
            refine wpAnyH_ready (rs := [6]) (by kernel_rfl) (by simp) ?_
            refine AllReadyH.cons rfl (fun K hK => ?_) AllReadyH.nil
            go_simp
            refine (HAp.out wa hSa).mono ?_
            rintro x w6 ⟨rfl, hb6⟩
            have hS6 := hSa.trans (hb6.mono hSa.size)
            go_wp2_with fail
            refine hK.out _ _ hS6 (fun hH6 => ?_)
            clear hK K
            refine wpAnyH_take (i := 7) (v := ?_) rfl (by kernel_rfl) (by kernel_rfl) (by kernel_rfl) (fun _ _ _ h => h) (Or.inl ⟨by kernel_rfl, ?_⟩) hH6 ?_
            rotate_left
            · (intro w' hw'; go_simp; first | done | with_reducible rfl)
            refine wpAnyH_take (i := 8) (v := ?_) rfl (by kernel_rfl) (by kernel_rfl) (by kernel_rfl) (fun _ _ _ h => h) (Or.inl ⟨by kernel_rfl, ?_⟩) hH6 ?_
            rotate_left
            · (intro w' hw'; go_simp; first | done | with_reducible rfl)
            refine wpAnyH_take (i := 9) (v := ?_) rfl (by kernel_rfl) (by kernel_rfl) (by kernel_rfl) (fun _ _ _ h => h) (Or.inl ⟨by kernel_rfl, ?_⟩) hH6 ?_
            rotate_left
            · (intro w' hw'; go_simp; first | done | with_reducible rfl)
            refine wpAnyH_take (i := 10) (v := ?_) rfl (by kernel_rfl) (by kernel_rfl) (by kernel_rfl) (fun _ _ _ h => h) (Or.inl ⟨by kernel_rfl, ?_⟩) hH6 ?_
            rotate_left
            · (intro w' hw'; go_simp; first | done | with_reducible rfl)
            have hqz : w6.heap[qq]? = some (.cells #[.string ⟨#[]⟩, .int .u32 0, .int .u32 0, .slice none 0 0] 25 (0, 0)) := by rw [hb6.block _ HGs.out]; exact hqa
            have hSz := hS6
            clear hqa hSa
            clear hb6
            generalize w6 = wz at *
            have r0 := cell_at hqz 0 _ rfl
            have r1 := cell_at hqz 1 _ rfl
            have r2 := cell_at hqz 2 _ rfl
            have r3 := cell_at hqz 3 _ rfl
            have fz0 := frozen_of_row _ _ 0 _ _ hqz
            have fz1 := frozen_of_row _ _ 1 _ _ hqz
            have fz2 := frozen_of_row _ _ 2 _ _ hqz
            have fz3 := frozen_of_row _ _ 3 _ _ hqz
            obtain ⟨k1, k2, k3⟩ := four hqz rfl (.string ⟨#[]⟩) (.int .u32 0) (.int .u32 0) (.slice none 0 0)
            have hS8 : Below wr.heap.size wr ((((wz.setCell ⟨qq, 0, none⟩ (.string ⟨#[]⟩)).setCell ⟨qq, 1, none⟩ (.int .u32 0)).setCell ⟨qq, 2, none⟩ (.int .u32 0)).setCell ⟨qq, 3, none⟩ (.slice none 0 0)) := k3 _ _ hSz HGq.out
            have HQ8 := Lib.hid k1
            refine wpAnyH_ready (rs := [12]) (by kernel_rfl) (by simp) ?_
            refine AllReadyH.cons rfl (fun K hK => ?_) AllReadyH.nil
            go_simp
            refine hK _ _ hS8 (fun _ => ?_)
            clear hK K k1 k2 k3 r0 r1 r2 r3 fz0 fz1 fz2 fz3 hqz hSz
            have HS8 := Lib.hid hS8
            clear hS8
            generalize (((wz.setCell ⟨qq, 0, none⟩ (.string ⟨#[]⟩)).setCell ⟨qq, 1, none⟩ (.int .u32 0)).setCell ⟨qq, 2, none⟩ (.int .u32 0)).setCell ⟨qq, 3, none⟩ (.slice none 0 0) = w8 at *
            refine wpAnyH_take (i := 13) (v := ?_) rfl (by kernel_rfl) (by kernel_rfl) (by kernel_rfl) (fun _ _ _ h => h) (Or.inl ⟨by kernel_rfl, ?_⟩) HS8.out ?_
            rotate_left
            · (intro w' hw'; go_simp; first | done | with_reducible rfl)
            refine wpAnyH_take (i := 14) (v := ?_) rfl (by kernel_rfl) (by kernel_rfl) (by kernel_rfl) (fun _ _ _ h => h) (Or.inl ⟨by kernel_rfl, ?_⟩) HS8.out ?_
            rotate_left
            · (intro w' hw'; go_simp; first | done | with_reducible rfl)
            refine wpAnyH_done (by kernel_rfl) ?_ _
            refine NoPanic.normal ?_
            go_simp
            have hz := (HD.out.below HS8.out).res
            have HZ := Lib.hid hz
            have r0 := cell_at (hz) 0 _ rfl
            have r1 := cell_at (hz) 1 _ rfl
            have r2 := cell_at (hz) 2 _ rfl
            have r3 := cell_at (hz) 3 _ rfl
            have g0 := frozen_of_row _ _ 0 _ _ (hz)
            have g1 := frozen_of_row _ _ 1 _ _ (hz)
            have g2 := frozen_of_row _ _ 2 _ _ (hz)
            have g3 := frozen_of_row _ _ 3 _ _ (hz)
            clear hz
            go_wp2_with fail
            obtain ⟨k1, k2, k3⟩ := four HZ.out rfl (.string ⟨#[]⟩) (.int .u32 0) (.int .u32 0) (.slice none 0 0)
            refine bodyPost_ret (results_cell_tmp_tmp Tryd.results24 _ _ (W.heap.size + 2) _ _ _ _ rfl k1 Tryd.underlying25 rfl (boxSize _ rfl)) rfl (.inl ⟨by rw [HCE.out]; show (5 : Nat) ≠ 0; decide, by rw [HCE.out]; rfl, k3 _ _ (HD.out.bel.trans (HS8.out.mono HD.out.bel.size)) (by omega)⟩)
        have h5n : n2 < 500 := by have := HLn.out; omega
        by_cases h6 : X2 = 4294967295
        · have h6c := h6
          have HC1 := Lib.hid (show cpA S' E' U X' (nts zs) ((nts qs).take (k + 1)) = ⟨l2, X2, g2, 4⟩ by rw [take_next HX.out, cpA_snoc, HC.out]; exact cp1_full rfl hin (by simp only []; omega) h6)
          have HCE := Lib.hid (show cpA S' E' U X' (nts zs) (nts qs) = ⟨l2, X2, g2, 4⟩ by rw [cpA_stop (k := k + 1) (by rw [HC1.out]; show (4 : Nat) ≠ 0; decide), HC1.out])
          have HAp := Lib.hid (fun (w' : World) (h : Below wr.heap.size wr w') => rappend_full w' S' E' X2 A2 n2 c2 tu td tf Am m cm h5n h6c)
          clear HC1 hin h5 h5n h6 h6c
          go_wp2_with fail
          refine HIn.out.mono ?_
          rintro x w5 ⟨rfl, hw5⟩
          replace hw5 := hw5.symm
          subst hw5
          go_wp2_with fail
          clear f3 m0 hol
          refine wp_region_noPanic ?_
          refine wp_region_held_drew (S := fun w' => Below wr.heap.size wr w') (by kernel_rfl) HST.out (fun hHeld => ?_)
          refine wpAnyH_take (i := 0) (v := ?_) rfl (by kernel_rfl) (by kernel_rfl) (by kernel_rfl) (fun _ _ _ h => h) (Or.inl ⟨by kernel_rfl, ?_⟩) hHeld ?_
          rotate_left
          · (intro w' hw'; have th := (HD.out.below hw').to_; have t0 := cell_at th 0 _ rfl; have t1 := cell_at th 1 _ rfl; have t2 := cell_at th 2 _ rfl; have t3 := cell_at th 3 _ rfl; go_simp; first | done | with_reducible rfl)
          refine wpAnyH_take (i := 1) (v := ?_) rfl (by kernel_rfl) (by kernel_rfl) (by kernel_rfl) (fun _ _ _ h => h) (Or.inl ⟨by kernel_rfl, ?_⟩) hHeld ?_
          rotate_left
          · (intro w' hw'; go_simp; first | done | with_reducible rfl)
          refine wpAnyH_take (i := 2) (v := ?_) rfl (by kernel_rfl) (by kernel_rfl) (by kernel_rfl) (fun _ _ _ h => h) (Or.inl ⟨by kernel_rfl, ?_⟩) hHeld ?_
          rotate_left
          · (intro w' hw'; have fh := (HD.out.below hw').frm; have f3 := cell_at fh 3 _ rfl; go_simp; first | done | with_reducible rfl)
          refine wpAnyH_take (i := 3) (v := ?_) rfl (by kernel_rfl) (by kernel_rfl) (by kernel_rfl) (fun _ _ _ h => h) (Or.inl ⟨by kernel_rfl, ?_⟩) hHeld ?_
          rotate_left
          · (intro w' hw'; go_simp; first | done | with_reducible rfl)
          refine wpAnyH_take (i := 4) (v := ?_) rfl (by kernel_rfl) (by kernel_rfl) (by kernel_rfl) (fun _ _ _ h => h) (Or.inl ⟨by kernel_rfl, ?_⟩) hHeld ?_
          rotate_left
          · (intro w' hw'; go_simp; first | done | with_reducible rfl)
          refine wpAnyH_take (i := 5) (v := ?_) rfl (by kernel_rfl) (by kernel_rfl) (by kernel_rfl) (fun _ _ _ h => h) (Or.inl ⟨by kernel_rfl, ?_⟩) hHeld ?_
          rotate_left
          · (intro w' hw'; obtain ⟨x0, x1, x2, x3⟩ := HEl.out w' hw'; go_simp; first | done | with_reducible rfl)
          have hHeld0 : Below wr.heap.size wr wr.drew := HST.out
          generalize wr.drew = w2 at *
          refine wpAnyH_ready (rs := [6, 11]) (by kernel_rfl) (by simp) ?_
          refine AllReadyH.cons rfl (fun K hK => ?_) (AllReadyH.cons rfl (fun K hK => ?_) AllReadyH.nil)
          · go_simp
            refine (HAp.out w2 hHeld0).mono ?_
            rintro x w6 ⟨rfl, hb6⟩
            have hS6 := hHeld0.trans (hb6.mono hHeld0.size)
            go_wp2_with fail
            refine hK.out _ _ hS6 (fun hH6 => ?_)
            clear hK K
            refine wpAnyH_take (i := 7) (v := ?_) rfl (by kernel_rfl) (by kernel_rfl) (by kernel_rfl) (fun _ _ _ h => h) (Or.inl ⟨by kernel_rfl, ?_⟩) hH6 ?_
            rotate_left
            · (intro w' hw'; go_simp; first | done | with_reducible rfl)
            refine wpAnyH_take (i := 8) (v := ?_) rfl (by kernel_rfl) (by kernel_rfl) (by kernel_rfl) (fun _ _ _ h => h) (Or.inl ⟨by kernel_rfl, ?_⟩) hH6 ?_
            rotate_left
            · (intro w' hw'; go_simp; first | done | with_reducible rfl)
            refine wpAnyH_take (i := 9) (v := ?_) rfl (by kernel_rfl) (by kernel_rfl) (by kernel_rfl) (fun _ _ _ h => h) (Or.inl ⟨by kernel_rfl, ?_⟩) hH6 ?_
            rotate_left
            · (intro w' hw'; go_simp; first | done | with_reducible rfl)
            refine wpAnyH_take (i := 10) (v := ?_) rfl (by kernel_rfl) (by kernel_rfl) (by kernel_rfl) (fun _ _ _ h => h) (Or.inl ⟨by kernel_rfl, ?_⟩) hH6 ?_
            rotate_left
            · (intro w' hw'; go_simp; first | done | with_reducible rfl)
            refine wpAnyH_ready (rs := [11]) (by kernel_rfl) (by simp) ?_
            refine AllReadyH.cons rfl (fun K hK => ?_) AllReadyH.nil
            have hbz : Below w6.heap.size w6 (w6.alloc (.cells #[.string ⟨#[]⟩, .int .u32 0, .int .u32 0, .slice none 0 0] 25)) := (Below.refl _ _).alloc (Nat.le_refl _) _
            have hSz := hS6.trans (hbz.mono hS6.size)
            have hqz : (w6.alloc (.cells #[.string ⟨#[]⟩, .int .u32 0, .int .u32 0, .slice none 0 0] 25)).heap[w6.heap.size]? = some (.cells #[.string ⟨#[]⟩, .int .u32 0, .int .u32 0, .slice none 0 0] 25 (0, 0)) := heap_alloc_new _ _
            have HGq := Lib.hid (show wr.heap.size ≤ w6.heap.size from hS6.size)
            go_simp
            refine hK _ _ hSz (fun _ => ?_)
            clear hK K hbz
            generalize w6.heap.size = qq at *
            generalize w6.alloc (.cells #[.string ⟨#[]⟩, .int .u32 0, .int .u32 0, .slice none 0 0] 25) = wz at *
            have r0 := cell_at hqz 0 _ rfl
            have r1 := cell_at hqz 1 _ rfl
            have r2 := cell_at hqz 2 _ rfl
            have r3 := cell_at hqz 3 _ rfl
            have fz0 := frozen_of_row _ _ 0 _ _ hqz
            have fz1 := frozen_of_row _ _ 1 _ _ hqz
            have fz2 := frozen_of_row _ _ 2 _ _ hqz
            have fz3 := frozen_of_row _ _ 3 _ _ hqz
            obtain ⟨k1, k2, k3⟩ := four hqz rfl (.string ⟨#[]⟩) (.int .u32 0) (.int .u32 0) (.slice none 0 0)
            have hS8 : Below wr.heap.size wr ((((wz.setCell ⟨qq, 0, none⟩ (.string ⟨#[]⟩)).setCell ⟨qq, 1, none⟩ (.int .u32 0)).setCell ⟨qq, 2, none⟩ (.int .u32 0)).setCell ⟨qq, 3, none⟩ (.slice none 0 0)) := k3 _ _ hSz HGq.out
            have HQ8 := Lib.hid k1
            refine wpAnyH_ready (rs := [12]) (by kernel_rfl) (by simp) ?_
            refine AllReadyH.cons rfl (fun K hK => ?_) AllReadyH.nil
            go_simp
            refine hK _ _ hS8 (fun _ => ?_)
            clear hK K k1 k2 k3 r0 r1 r2 r3 fz0 fz1 fz2 fz3 hqz hSz
            have HS8 := Lib.hid hS8
            clear hS8
            generalize (((wz.setCell ⟨qq, 0, none⟩ (.string ⟨#[]⟩)).setCell ⟨qq, 1, none⟩ (.int .u32 0)).setCell ⟨qq, 2, none⟩ (.int .u32 0)).setCell ⟨qq, 3, none⟩ (.slice none 0 0) = w8 at *
            refine wpAnyH_take (i := 13) (v := ?_) rfl (by kernel_rfl) (by kernel_rfl) (by kernel_rfl) (fun _ _ _ h => h) (Or.inl ⟨by kernel_rfl, ?_⟩) HS8.out ?_
            rotate_left
            · (intro w' hw'; go_simp; first | done | with_reducible rfl)
            refine wpAnyH_take (i := 14) (v := ?_) rfl (by kernel_rfl) (by kernel_rfl) (by kernel_rfl) (fun _ _ _ h => h) (Or.inl ⟨by kernel_rfl, ?_⟩) HS8.out ?_
            rotate_left
            · (intro w' hw'; go_simp; first | done | with_reducible rfl)
            refine wpAnyH_done (by kernel_rfl) ?_ _
            refine NoPanic.normal ?_
            go_simp
            have hz := (HD.out.below HS8.out).res
            have HZ := Lib.hid hz
            have r0 := cell_at (hz) 0 _ rfl
            have r1 := cell_at (hz) 1 _ rfl
            have r2 := cell_at (hz) 2 _ rfl
            have r3 := cell_at (hz) 3 _ rfl
            have g0 := frozen_of_row _ _ 0 _ _ (hz)
            have g1 := frozen_of_row _ _ 1 _ _ (hz)
            have g2 := frozen_of_row _ _ 2 _ _ (hz)
            have g3 := frozen_of_row _ _ 3 _ _ (hz)
            clear hz
            go_wp2_with fail
            obtain ⟨k1, k2, k3⟩ := four HZ.out rfl (.string ⟨#[]⟩) (.int .u32 0) (.int .u32 0) (.slice none 0 0)
            refine bodyPost_ret (results_cell_tmp_tmp Tryd.results24 _ _ (W.heap.size + 2) _ _ _ _ rfl k1 Tryd.underlying25 rfl (boxSize _ rfl)) rfl (.inl ⟨by rw [HCE.out]; show (4 : Nat) ≠ 0; decide, by rw [HCE.out]; rfl, k3 _ _ (HD.out.bel.trans (HS8.out.mono HD.out.bel.size)) (by omega)⟩)
          · have hbz : Below w2.heap.size w2 (w2.alloc (.cells #[.string ⟨#[]⟩, .int .u32 0, .int .u32 0, .slice none 0 0] 25)) := (Below.refl _ _).alloc (Nat.le_refl _) _
            have hSa := hHeld0.trans (hbz.mono hHeld0.size)
            have hqa : (w2.alloc (.cells #[.string ⟨#[]⟩, .int .u32 0, .int .u32 0, .slice none 0 0] 25)).heap[w2.heap.size]? = some (.cells #[.string ⟨#[]⟩, .int .u32 0, .int .u32 0, .slice none 0 0] 25 (0, 0)) := heap_alloc_new _ _
            have HGq := Lib.hid (show wr.heap.size ≤ w2.heap.size from hHeld0.size)
            have HGs := Lib.hid (show w2.heap.size < (w2.alloc (.cells #[.string ⟨#[]⟩, .int .u32 0, .int .u32 0, .slice none 0 0] 25)).heap.size by simp)
            go_simp
            refine hK _ _ hSa (fun _ => ?_)
            clear hK K hbz
            generalize w2.heap.size = qq at *
            generalize w2.alloc (.cells #[.string ⟨#[]⟩, .int .u32 0, .int .u32 0, .slice none 0 0] 25) = wa at *
            refine wpAnyH_ready (rs := [6]) (by kernel_rfl) (by simp) ?_
            refine AllReadyH.cons rfl (fun K hK => ?_) AllReadyH.nil
            go_simp
            refine (HAp.out wa hSa).mono ?_
            rintro x w6 ⟨rfl, hb6⟩
            have hS6 := hSa.trans (hb6.mono hSa.size)
            go_wp2_with fail
            refine hK.out _ _ hS6 (fun hH6 => ?_)
            clear hK K
            refine wpAnyH_take (i := 7) (v := ?_) rfl (by kernel_rfl) (by kernel_rfl) (by kernel_rfl) (fun _ _ _ h => h) (Or.inl ⟨by kernel_rfl, ?_⟩) hH6 ?_
            rotate_left
            · (intro w' hw'; go_simp; first | done | with_reducible rfl)
            refine wpAnyH_take (i := 8) (v := ?_) rfl (by kernel_rfl) (by kernel_rfl) (by kernel_rfl) (fun _ _ _ h => h) (Or.inl ⟨by kernel_rfl, ?_⟩) hH6 ?_
            rotate_left
            · (intro w' hw'; go_simp; first | done | with_reducible rfl)
            refine wpAnyH_take (i := 9) (v := ?_) rfl (by kernel_rfl) (by kernel_rfl) (by kernel_rfl) (fun _ _ _ h => h) (Or.inl ⟨by kernel_rfl, ?_⟩) hH6 ?_
            rotate_left
            · (intro w' hw'; go_simp; first | done | with_reducible rfl)
            refine wpAnyH_take (i := 10) (v := ?_) rfl (by kernel_rfl) (by kernel_rfl) (by kernel_rfl) (fun _ _ _ h => h) (Or.inl ⟨by kernel_rfl, ?_⟩) hH6 ?_
            rotate_left
            · (intro w' hw'; go_simp; first | done | with_reducible rfl)
            have hqz : w6.heap[qq]? = some (.cells #[.string ⟨#[]⟩, .int .u32 0, .int .u32 0, .slice none 0 0] 25 (0, 0)) := by rw [hb6.block _ HGs.out]; exact hqa
            have hSz := hS6
            clear hqa hSa
            clear hb6
            generalize w6 = wz at *
            have r0 := cell_at hqz 0 _ rfl
            have r1 := cell_at hqz 1 _ rfl
            have r2 := cell_at hqz 2 _ rfl
            have r3 := cell_at hqz 3 _ rfl
            have fz0 := frozen_of_row _ _ 0 _ _ hqz
            have fz1 := frozen_of_row _ _ 1 _ _ hqz
            have fz2 := frozen_of_row _ _ 2 _ _ hqz
            have fz3 := frozen_of_row _ _ 3 _ _ hqz
            obtain ⟨k1, k2, k3⟩ := four hqz rfl (.string ⟨#[]⟩) (.int .u32 0) (.int .u32 0) (.slice none 0 0)
            have hS8 : Below wr.heap.size wr ((((wz.setCell ⟨qq, 0, none⟩ (.string ⟨#[]⟩)).setCell ⟨qq, 1, none⟩ (.int .u32 0)).setCell ⟨qq, 2, none⟩ (.int .u32 0)).setCell ⟨qq, 3, none⟩ (.slice none 0 0)) := k3 _ _ hSz HGq.out
            have HQ8 := Lib.hid k1
            refine wpAnyH_ready (rs := [12]) (by kernel_rfl) (by simp) ?_
            refine AllReadyH.cons rfl (fun K hK => ?_) AllReadyH.nil
            go_simp
            refine hK _ _ hS8 (fun _ => ?_)
            clear hK K k1 k2 k3 r0 r1 r2 r3 fz0 fz1 fz2 fz3 hqz hSz
            have HS8 := Lib.hid hS8
            clear hS8
            generalize (((wz.setCell ⟨qq, 0, none⟩ (.string ⟨#[]⟩)).setCell ⟨qq, 1, none⟩ (.int .u32 0)).setCell ⟨qq, 2, none⟩ (.int .u32 0)).setCell ⟨qq, 3, none⟩ (.slice none 0 0) = w8 at *
            refine wpAnyH_take (i := 13) (v := ?_) rfl (by kernel_rfl) (by kernel_rfl) (by kernel_rfl) (fun _ _ _ h => h) (Or.inl ⟨by kernel_rfl, ?_⟩) HS8.out ?_
            rotate_left
            · (intro w' hw'; go_simp; first | done | with_reducible rfl)
            refine wpAnyH_take (i := 14) (v := ?_) rfl (by kernel_rfl) (by kernel_rfl) (by kernel_rfl) (fun _ _ _ h => h) (Or.inl ⟨by kernel_rfl, ?_⟩) HS8.out ?_
            rotate_left
            · (intro w' hw'; go_simp; first | done | with_reducible rfl)
            refine wpAnyH_done (by kernel_rfl) ?_ _
            refine NoPanic.normal ?_
            go_simp
            have hz := (HD.out.below HS8.out).res
            have HZ := Lib.hid hz
            have r0 := cell_at (hz) 0 _ rfl
            have r1 := cell_at (hz) 1 _ rfl
            have r2 := cell_at (hz) 2 _ rfl
            have r3 := cell_at (hz) 3 _ rfl
            have g0 := frozen_of_row _ _ 0 _ _ (hz)
            have g1 := frozen_of_row _ _ 1 _ _ (hz)
            have g2 := frozen_of_row _ _ 2 _ _ (hz)
            have g3 := frozen_of_row _ _ 3 _ _ (hz)
            clear hz
            go_wp2_with fail
            obtain ⟨k1, k2, k3⟩ := four HZ.out rfl (.string ⟨#[]⟩) (.int .u32 0) (.int .u32 0) (.slice none 0 0)
            refine bodyPost_ret (results_cell_tmp_tmp Tryd.results24 _ _ (W.heap.size + 2) _ _ _ _ rfl k1 Tryd.underlying25 rfl (boxSize _ rfl)) rfl (.inl ⟨by rw [HCE.out]; show (4 : Nat) ≠ 0; decide, by rw [HCE.out]; rfl, k3 _ _ (HD.out.bel.trans (HS8.out.mono HD.out.bel.size)) (by omega)⟩)
        have hc1 := cp1_yes (S := S') (E := E') (U := U) (c := ⟨l2, X2, g2, 0⟩) (t := ⟨tk, te, ts, tu, td, tf, to_⟩) rfl hin (by simp only []; omega) h6
        have HC1 := Lib.hid (show cpA S' E' U X' (nts zs) ((nts qs).take (k + 1)) = ⟨l2 ++ [⟨2, E', S', X2, td, tf, to_⟩], X2 + 1, g2 ++ [X2], 0⟩ by rw [take_next HX.out, cpA_snoc, HC.out]; exact hc1)
        have HG1 := Lib.hid (show Good S' E' X' ⟨l2 ++ [⟨2, E', S', X2, td, tf, to_⟩], X2 + 1, g2 ++ [X2], 0⟩ from hc1 ▸ HG.out.yes hin (by simp only []; omega) h6 HFt.out)
        obtain ⟨ys, hy1, hy2, hy3⟩ := HD.out.rd
        have hb2 := HG.out.b
        simp only [] at hb2
        have HYN := Lib.hid hy2
        have HYB := Lib.hid (show ∀ z ∈ ys ++ [(⟨⟨2, E', S', X2, td, tf, to_⟩, 0, Am, m, cm⟩ : Y)], ∀ ad, z.A = some ad → 0 < z.m → ad.block < W.heap.size from fun z hz ad e h0 => by
          rcases List.mem_append.1 hz with hz | hz
          · exact hy3 z hz ad e h0
          · simp at hz
            subst hz
            exact HYO.out ad e h0)
        have HAp := Lib.hid (fun (w' : World) (h : Below wr.heap.size wr w') => rappend_at w' S' E' X2 A2 n2 c2 tu td tf Am m cm ys (hy1.below h) HD.out.nil h5n (by omega) to_ ((HOc.out.below h).1) HOc.out.2)
        have HGL := Lib.hid (show g2.length ≤ 1000000 by have := HG.out.g; simp only [] at this; omega)
        clear hin hc1 hy1 hy2 hy3 hb2 h5 h6 h5n
        go_wp2_with fail
        refine HIn.out.mono ?_
        rintro x w5 ⟨rfl, hw5⟩
        replace hw5 := hw5.symm
        subst hw5
        go_wp2_with fail
        clear f3 m0 hol
        refine wp_region_noPanic ?_
        refine wp_region_held_drew (S := fun w' => Below wr.heap.size wr w') (by kernel_rfl) HST.out (fun hHeld => ?_)
        refine wpAnyH_take (i := 0) (v := ?_) rfl (by kernel_rfl) (by kernel_rfl) (by kernel_rfl) (fun _ _ _ h => h) (Or.inl ⟨by kernel_rfl, ?_⟩) hHeld ?_
        rotate_left
        · (intro w' hw'; have th := (HD.out.below hw').to_; have t0 := cell_at th 0 _ rfl; have t1 := cell_at th 1 _ rfl; have t2 := cell_at th 2 _ rfl; have t3 := cell_at th 3 _ rfl; go_simp; first | done | with_reducible rfl)
        refine wpAnyH_take (i := 1) (v := ?_) rfl (by kernel_rfl) (by kernel_rfl) (by kernel_rfl) (fun _ _ _ h => h) (Or.inl ⟨by kernel_rfl, ?_⟩) hHeld ?_
        rotate_left
        · (intro w' hw'; go_simp; first | done | with_reducible rfl)
        refine wpAnyH_take (i := 2) (v := ?_) rfl (by kernel_rfl) (by kernel_rfl) (by kernel_rfl) (fun _ _ _ h => h) (Or.inl ⟨by kernel_rfl, ?_⟩) hHeld ?_
        rotate_left
        · (intro w' hw'; have fh := (HD.out.below hw').frm; have f3 := cell_at fh 3 _ rfl; go_simp; first | done | with_reducible rfl)
        refine wpAnyH_take (i := 3) (v := ?_) rfl (by kernel_rfl) (by kernel_rfl) (by kernel_rfl) (fun _ _ _ h => h) (Or.inl ⟨by kernel_rfl, ?_⟩) hHeld ?_
        rotate_left
        · (intro w' hw'; go_simp; first | done | with_reducible rfl)
        refine wpAnyH_take (i := 4) (v := ?_) rfl (by kernel_rfl) (by kernel_rfl) (by kernel_rfl) (fun _ _ _ h => h) (Or.inl ⟨by kernel_rfl, ?_⟩) hHeld ?_
        rotate_left
        · (intro w' hw'; go_simp; first | done | with_reducible rfl)
        refine wpAnyH_take (i := 5) (v := ?_) rfl (by kernel_rfl) (by kernel_rfl) (by kernel_rfl) (fun _ _ _ h => h) (Or.inl ⟨by kernel_rfl, ?_⟩) hHeld ?_
        rotate_left
        · (intro w' hw'; obtain ⟨x0, x1, x2, x3⟩ := HEl.out w' hw'; go_simp; first | done | with_reducible rfl)
        have hHeld0 : Below wr.heap.size wr wr.drew := HST.out
        generalize wr.drew = w2 at *
        refine wpAnyH_ready (rs := [6, 11]) (by kernel_rfl) (by simp) ?_
        refine AllReadyH.cons rfl (fun K hK => ?_) (AllReadyH.cons rfl (fun K hK => ?_) AllReadyH.nil)
        · go_simp
          refine (HAp.out w2 hHeld0).mono ?_
          rintro x w6 ⟨A6, c6, rfl, ho6, hb6⟩
          have hS6 := hHeld0.trans (hb6.mono hHeld0.size)
          have HO6 := Lib.hid ho6
          go_wp2_with fail
          refine hK.out _ _ hS6 (fun hH6 => ?_)
          clear hK K
          refine wpAnyH_take (i := 7) (v := ?_) rfl (by kernel_rfl) (by kernel_rfl) (by kernel_rfl) (fun _ _ _ h => h) (Or.inl ⟨by kernel_rfl, ?_⟩) hH6 ?_
          rotate_left
          · (intro w' hw'; go_simp; first | done | with_reducible rfl)
          refine wpAnyH_take (i := 8) (v := ?_) rfl (by kernel_rfl) (by kernel_rfl) (by kernel_rfl) (fun _ _ _ h => h) (Or.inl ⟨by kernel_rfl, ?_⟩) hH6 ?_
          rotate_left
          · (intro w' hw'; go_simp; first | done | with_reducible rfl)
          refine wpAnyH_take (i := 9) (v := ?_) rfl (by kernel_rfl) (by kernel_rfl) (by kernel_rfl) (fun _ _ _ h => h) (Or.inl ⟨by kernel_rfl, ?_⟩) hH6 ?_
          rotate_left
          · (intro w' hw'; go_simp; first | done | with_reducible rfl)
          refine wpAnyH_take (i := 10) (v := ?_) rfl (by kernel_rfl) (by kernel_rfl) (by kernel_rfl) (fun _ _ _ h => h) (Or.inl ⟨by kernel_rfl, ?_⟩) hH6 ?_
          rotate_left
          · (intro w' hw'; go_simp; first | done | with_reducible rfl)
          refine wpAnyH_ready (rs := [11]) (by kernel_rfl) (by simp) ?_
          refine AllReadyH.cons rfl (fun K hK => ?_) AllReadyH.nil
          have hbz : Below w6.heap.size w6 (w6.alloc (.cells #[.string ⟨#[]⟩, .int .u32 0, .int .u32 0, .slice none 0 0] 25)) := (Below.refl _ _).alloc (Nat.le_refl _) _
          have hSz := hS6.trans (hbz.mono hS6.size)
          have hqz : (w6.alloc (.cells #[.string ⟨#[]⟩, .int .u32 0, .int .u32 0, .slice none 0 0] 25)).heap[w6.heap.size]? = some (.cells #[.string ⟨#[]⟩, .int .u32 0, .int .u32 0, .slice none 0 0] 25 (0, 0)) := heap_alloc_new _ _
          have HGq := Lib.hid (show wr.heap.size ≤ w6.heap.size from hS6.size)
          have HOz := Lib.hid (HO6.out.below hbz)
          have HNq := Lib.hid (show (Value.slice A6 (n2 + 1) c6).ownBlock ≠ some w6.heap.size from fun e => by have := (HO6.out.lt e).2; omega)
          have HBq := Lib.hid (show wr.heap.size ≤ w2.heap.size from hHeld0.size)
          have HYq := Lib.hid (show ∀ z ∈ ys ++ [(⟨⟨2, E', S', X2, td, tf, to_⟩, 0, Am, m, cm⟩ : Y)], ∀ ad, z.A = some ad → 0 < z.m → ad.block ≠ w6.heap.size from fun z hz ad e h0 => by have h7 := HYB.out z hz ad e h0; have h8 := HD.out.lt; have h9 := hS6.size; omega)
          go_simp
          refine hK _ _ hSz (fun _ => ?_)
          clear hK K hbz
          generalize w6.heap.size = qq at *
          generalize w6.alloc (.cells #[.string ⟨#[]⟩, .int .u32 0, .int .u32 0, .slice none 0 0] 25) = wz at *
          have r0 := cell_at hqz 0 _ rfl
          have r1 := cell_at hqz 1 _ rfl
          have r2 := cell_at hqz 2 _ rfl
          have r3 := cell_at hqz 3 _ rfl
          have fz0 := frozen_of_row _ _ 0 _ _ hqz
          have fz1 := frozen_of_row _ _ 1 _ _ hqz
          have fz2 := frozen_of_row _ _ 2 _ _ hqz
          have fz3 := frozen_of_row _ _ 3 _ _ hqz
          obtain ⟨k1, k2, k3⟩ := four hqz rfl (.string S') (.int .u32 (E' : Nat)) (.int .u32 ((X2 : Int) + 1)) (.slice A6 (n2 + 1) c6)
          have hS8 : Below wr.heap.size wr ((((wz.setCell ⟨qq, 0, none⟩ (.string S')).setCell ⟨qq, 1, none⟩ (.int .u32 (E' : Nat))).setCell ⟨qq, 2, none⟩ (.int .u32 ((X2 : Int) + 1))).setCell ⟨qq, 3, none⟩ (.slice A6 (n2 + 1) c6)) := k3 _ _ hSz HGq.out
          have HQ8 := Lib.hid k1
          have HO8 := Lib.hid (own_other (u := (.slice A6 (n2 + 1) c6)) (j := 3) (own_other (u := (.int .u32 ((X2 : Int) + 1))) (j := 2) (own_other (u := (.int .u32 (E' : Nat))) (j := 1) (own_other (u := (.string S')) (j := 0) HOz.out HNq.out HYq.out) HNq.out HYq.out) HNq.out HYq.out) HNq.out HYq.out)
          refine wpAnyH_ready (rs := [12]) (by kernel_rfl) (by simp) ?_
          refine AllReadyH.cons rfl (fun K hK => ?_) AllReadyH.nil
          go_simp
          refine hK _ _ hS8 (fun _ => ?_)
          clear hK K k1 k2 k3 r0 r1 r2 r3 fz0 fz1 fz2 fz3 hqz hSz
          have HS8 := Lib.hid hS8
          clear hS8
          generalize (((wz.setCell ⟨qq, 0, none⟩ (.string S')).setCell ⟨qq, 1, none⟩ (.int .u32 (E' : Nat))).setCell ⟨qq, 2, none⟩ (.int .u32 ((X2 : Int) + 1))).setCell ⟨qq, 3, none⟩ (.slice A6 (n2 + 1) c6) = w8 at *
          refine wpAnyH_take (i := 13) (v := ?_) rfl (by kernel_rfl) (by kernel_rfl) (by kernel_rfl) (fun _ _ _ h => h) (Or.inl ⟨by kernel_rfl, ?_⟩) HS8.out ?_
          rotate_left
          · (intro w' hw'; go_simp; first | done | with_reducible rfl)
          refine wpAnyH_take (i := 14) (v := ?_) rfl (by kernel_rfl) (by kernel_rfl) (by kernel_rfl) (fun _ _ _ h => h) (Or.inl ⟨by kernel_rfl, ?_⟩) HS8.out ?_
          rotate_left
          · (intro w' hw'; go_simp; first | done | with_reducible rfl)
          refine wpAnyH_done (by kernel_rfl) ?_ _
          refine NoPanic.normal ?_
          go_simp
          have HN := Lib.hid (next2 HD.out HYN.out HYB.out HS8.out HO8.out HBq.out)
          have th := (HD.out.below HS8.out).to_
          have r0 := cell_at (th) 0 _ rfl
          have r1 := cell_at (th) 1 _ rfl
          have r2 := cell_at (th) 2 _ rfl
          have r3 := cell_at (th) 3 _ rfl
          have fz0 := frozen_of_row _ _ 0 _ _ (th)
          have fz1 := frozen_of_row _ _ 1 _ _ (th)
          have fz2 := frozen_of_row _ _ 2 _ _ (th)
          have fz3 := frozen_of_row _ _ 3 _ _ (th)
          have x0 := cell_at (HQ8.out) 0 _ rfl
          have x1 := cell_at (HQ8.out) 1 _ rfl
          have x2 := cell_at (HQ8.out) 2 _ rfl
          have x3 := cell_at (HQ8.out) 3 _ rfl
          clear th
          go_wp2_with (at_builtin; refine row.wpList_append_own fU (by decide) (by decide) (by_ := 4) (by decide) (z := .int .u32 0) rfl rfl (.tmp 45) (.tmp 47) 42 22 rfl Tryd.underlying42 infoU (W.heap.size + 3) u9 g2 rfl HN.out.came (by have := HN.out.lt; omega) (by have := HGL.out; omega) X2 (0, 0) _ (by simp) rfl _ rfl ?_; intro v' w10 ho hgr hat; have HS10 := Lib.hid (HN.out.cames ho hgr hat); clear ho hgr hat)
          go_roundw
          case rel => first | exact ⟨k + 1, A6, n2 + 1, c6, _, by omega, by go_num, HC1, HG1, HS10⟩ | ((repeat apply Exists.intro); exact ⟨⟨k + 1, A6, n2 + 1, c6, _, by omega, by go_num, HC1, HG1, HS10⟩, rfl⟩)
          case measure => (show n - ((k : Int) + 1).toNat < n - k; omega)
        · have hbz : Below w2.heap.size w2 (w2.alloc (.cells #[.string ⟨#[]⟩, .int .u32 0, .int .u32 0, .slice none 0 0] 25)) := (Below.refl _ _).alloc (Nat.le_refl _) _
          have hSa := hHeld0.trans (hbz.mono hHeld0.size)
          have hqa : (w2.alloc (.cells #[.string ⟨#[]⟩, .int .u32 0, .int .u32 0, .slice none 0 0] 25)).heap[w2.heap.size]? = some (.cells #[.string ⟨#[]⟩, .int .u32 0, .int .u32 0, .slice none 0 0] 25 (0, 0)) := heap_alloc_new _ _
          have HGq := Lib.hid (show wr.heap.size ≤ w2.heap.size from hHeld0.size)
          have HGs := Lib.hid (show w2.heap.size < (w2.alloc (.cells #[.string ⟨#[]⟩, .int .u32 0, .int .u32 0, .slice none 0 0] 25)).heap.size by simp)
          go_simp
          refine hK _ _ hSa (fun _ => ?_)
          clear hK K hbz
          generalize w2.heap.size = qq at *
          generalize w2.alloc (.cells #[.string ⟨#[]⟩, .int .u32 0, .int .u32 0, .slice none 0 0] 25) = wa at *
          refine wpAnyH_ready (rs := [6]) (by kernel_rfl) (by simp) ?_
          refine AllReadyH.cons rfl (fun K hK => ?_) AllReadyH.nil
          go_simp
          refine (HAp.out wa hSa).mono ?_
          rintro x w6 ⟨A6, c6, rfl, ho6, hb6⟩
          have hS6 := hSa.trans (hb6.mono hSa.size)
          have HO6 := Lib.hid ho6
          go_wp2_with fail
          refine hK.out _ _ hS6 (fun hH6 => ?_)
          clear hK K
          refine wpAnyH_take (i := 7) (v := ?_) rfl (by kernel_rfl) (by kernel_rfl) (by kernel_rfl) (fun _ _ _ h => h) (Or.inl ⟨by kernel_rfl, ?_⟩) hH6 ?_
          rotate_left
          · (intro w' hw'; go_simp; first | done | with_reducible rfl)
          refine wpAnyH_take (i := 8) (v := ?_) rfl (by kernel_rfl) (by kernel_rfl) (by kernel_rfl) (fun _ _ _ h => h) (Or.inl ⟨by kernel_rfl, ?_⟩) hH6 ?_
          rotate_left
          · (intro w' hw'; go_simp; first | done | with_reducible rfl)
          refine wpAnyH_take (i := 9) (v := ?_) rfl (by kernel_rfl) (by kernel_rfl) (by kernel_rfl) (fun _ _ _ h => h) (Or.inl ⟨by kernel_rfl, ?_⟩) hH6 ?_
          rotate_left
          · (intro w' hw'; go_simp; first | done | with_reducible rfl)
          refine wpAnyH_take (i := 10) (v := ?_) rfl (by kernel_rfl) (by kernel_rfl) (by kernel_rfl) (fun _ _ _ h => h) (Or.inl ⟨by kernel_rfl, ?_⟩) hH6 ?_
          rotate_left
          · (intro w' hw'; go_simp; first | done | with_reducible rfl)
          have hqz : w6.heap[qq]? = some (.cells #[.string ⟨#[]⟩, .int .u32 0, .int .u32 0, .slice none 0 0] 25 (0, 0)) := by rw [hb6.block _ HGs.out]; exact hqa
          have hSz := hS6
          have HOz := HO6
          have HNq := Lib.hid (show (Value.slice A6 (n2 + 1) c6).ownBlock ≠ some qq from fun e => by have h7 := (HO6.out.lt e).1; have h8 := HGs.out; omega)
          have HBq := Lib.hid (show wr.heap.size ≤ wa.heap.size from hSa.size)
          have HYq := Lib.hid (show ∀ z ∈ ys ++ [(⟨⟨2, E', S', X2, td, tf, to_⟩, 0, Am, m, cm⟩ : Y)], ∀ ad, z.A = some ad → 0 < z.m → ad.block ≠ qq from fun z hz ad e h0 => by have h7 := HYB.out z hz ad e h0; have h8 := HD.out.lt; have h9 := HGq.out; omega)
          clear hqa hSa
          clear hb6
          generalize w6 = wz at *
          have r0 := cell_at hqz 0 _ rfl
          have r1 := cell_at hqz 1 _ rfl
          have r2 := cell_at hqz 2 _ rfl
          have r3 := cell_at hqz 3 _ rfl
          have fz0 := frozen_of_row _ _ 0 _ _ hqz
          have fz1 := frozen_of_row _ _ 1 _ _ hqz
          have fz2 := frozen_of_row _ _ 2 _ _ hqz
          have fz3 := frozen_of_row _ _ 3 _ _ hqz
          obtain ⟨k1, k2, k3⟩ := four hqz rfl (.string S') (.int .u32 (E' : Nat)) (.int .u32 ((X2 : Int) + 1)) (.slice A6 (n2 + 1) c6)
          have hS8 : Below wr.heap.size wr ((((wz.setCell ⟨qq, 0, none⟩ (.string S')).setCell ⟨qq, 1, none⟩ (.int .u32 (E' : Nat))).setCell ⟨qq, 2, none⟩ (.int .u32 ((X2 : Int) + 1))).setCell ⟨qq, 3, none⟩ (.slice A6 (n2 + 1) c6)) := k3 _ _ hSz HGq.out
          have HQ8 := Lib.hid k1
          have HO8 := Lib.hid (own_other (u := (.slice A6 (n2 + 1) c6)) (j := 3) (own_other (u := (.int .u32 ((X2 : Int) + 1))) (j := 2) (own_other (u := (.int .u32 (E' : Nat))) (j := 1) (own_other (u := (.string S')) (j := 0) HOz.out HNq.out HYq.out) HNq.out HYq.out) HNq.out HYq.out) HNq.out HYq.out)
          refine wpAnyH_ready (rs := [12]) (by kernel_rfl) (by simp) ?_
          refine AllReadyH.cons rfl (fun K hK => ?_) AllReadyH.nil
          go_simp
          refine hK _ _ hS8 (fun _ => ?_)
          clear hK K k1 k2 k3 r0 r1 r2 r3 fz0 fz1 fz2 fz3 hqz hSz
          have HS8 := Lib.hid hS8
          clear hS8
          generalize (((wz.setCell ⟨qq, 0, none⟩ (.string S')).setCell ⟨qq, 1, none⟩ (.int .u32 (E' : Nat))).setCell ⟨qq, 2, none⟩ (.int .u32 ((X2 : Int) + 1))).setCell ⟨qq, 3, none⟩ (.slice A6 (n2 + 1) c6) = w8 at *
          refine wpAnyH_take (i := 13) (v := ?_) rfl (by kernel_rfl) (by kernel_rfl) (by kernel_rfl) (fun _ _ _ h => h) (Or.inl ⟨by kernel_rfl, ?_⟩) HS8.out ?_
          rotate_left
          · (intro w' hw'; go_simp; first | done | with_reducible rfl)
          refine wpAnyH_take (i := 14) (v := ?_) rfl (by kernel_rfl) (by kernel_rfl) (by kernel_rfl) (fun _ _ _ h => h) (Or.inl ⟨by kernel_rfl, ?_⟩) HS8.out ?_
          rotate_left
          · (intro w' hw'; go_simp; first | done | with_reducible rfl)
          refine wpAnyH_done (by kernel_rfl) ?_ _
          refine NoPanic.normal ?_
          go_simp
          have HN := Lib.hid (next2 HD.out HYN.out HYB.out HS8.out HO8.out HBq.out)
          have th := (HD.out.below HS8.out).to_
          have r0 := cell_at (th) 0 _ rfl
          have r1 := cell_at (th) 1 _ rfl
          have r2 := cell_at (th) 2 _ rfl
          have r3 := cell_at (th) 3 _ rfl
          have fz0 := frozen_of_row _ _ 0 _ _ (th)
          have fz1 := frozen_of_row _ _ 1 _ _ (th)
          have fz2 := frozen_of_row _ _ 2 _ _ (th)
          have fz3 := frozen_of_row _ _ 3 _ _ (th)
          have x0 := cell_at (HQ8.out) 0 _ rfl
          have x1 := cell_at (HQ8.out) 1 _ rfl
          have x2 := cell_at (HQ8.out) 2 _ rfl
          have x3 := cell_at (HQ8.out) 3 _ rfl
          clear th
          go_wp2_with (at_builtin; refine row.wpList_append_own fU (by decide) (by decide) (by_ := 4) (by decide) (z := .int .u32 0) rfl rfl (.tmp 45) (.tmp 47) 42 22 rfl Tryd.underlying42 infoU (W.heap.size + 3) u9 g2 rfl HN.out.came (by have := HN.out.lt; omega) (by have := HGL.out; omega) X2 (0, 0) _ (by simp) rfl _ rfl ?_; intro v' w10 ho hgr hat; have HS10 := Lib.hid (HN.out.cames ho hgr hat); clear ho hgr hat)
          go_roundw
          case rel => first | exact ⟨k + 1, A6, n2 + 1, c6, _, by omega, by go_num, HC1, HG1, HS10⟩ | ((repeat apply Exists.intro); exact ⟨⟨k + 1, A6, n2 + 1, c6, _, by omega, by go_num, HC1, HG1, HS10⟩, rfl⟩)
          case measure => (show n - ((k : Int) + 1).toNat < n - k; omega)
    · obtain rfl : k = n := by omega
      have hP := HD.out
      have hC := HC.out
      rw [List.take_of_length_le (Nat.le_of_eq HL.out)] at hC
      have HCC := Lib.hid hC
      have d0 := cell_at (hP.to_) 0 _ rfl
      have d1 := cell_at (hP.to_) 1 _ rfl
      have d2 := cell_at (hP.to_) 2 _ rfl
      have d3 := cell_at (hP.to_) 3 _ rfl
      have g0 := frozen_of_row _ _ 0 _ _ (hP.res)
      have g1 := frozen_of_row _ _ 1 _ _ (hP.res)
      have g2 := frozen_of_row _ _ 2 _ _ (hP.res)
      have g3 := frozen_of_row _ _ 3 _ _ (hP.res)
      have r0 := cell_at (hP.res) 0 _ rfl
      have r1 := cell_at (hP.res) 1 _ rfl
      have r2 := cell_at (hP.res) 2 _ rfl
      have r3 := cell_at (hP.res) 3 _ rfl
      clear hP hC
      go_wp2_with fail
      have hP := HD.out
      obtain ⟨ys, hy1, hy2, hy3⟩ := hP.rd
      obtain ⟨k1, k2, k3⟩ := four hP.res rfl (.string S') (.int .u32 (E' : Nat)) (.int .u32 (X2 : Nat)) (.slice A2 n2 c2)
      have hvg : u9.ownBlock ≠ some (W.heap.size + 2) := fun e => by have := (hP.came.lt e).1; omega
      have hg9 := row_other (u := .slice A2 n2 c2) (j := 3) (row_other (u := .int .u32 (X2 : Nat)) (j := 2) (row_other (u := .int .u32 (E' : Nat)) (j := 1) (row_other (u := .string S') (j := 0) hP.came hvg) hvg) hvg) hvg
      have hrd := rd_others hy1 (W.heap.size + 2) k2 (fun ad e h0 => by have := hP.sep ad e h0; omega) (fun y hy ad e h0 => by have := hy3 y hy ad e h0; omega)
      refine bodyPost_ret (results_cell_tmp_tmp Tryd.results24 _ _ (W.heap.size + 2) _ _ _ _ rfl k1 Tryd.underlying25 rfl (boxSize _ rfl)) rfl (.inr ⟨by rw [HCC.out], A2, n2, c2, u9, ys, by rw [HCC.out]; rfl, hrd, hP.nil, by rw [HCC.out]; exact hy2, by rw [HCC.out]; exact ⟨hg9.1, hg9.2.imp id fun ⟨g, cap, cur, h1, h2, h3⟩ => ⟨g, cap, cur, h1, by omega, h3⟩⟩, k3 _ _ hP.bel (by omega)⟩)
end Go.Proofs.YtepngemlaiffgaaDoor.mal
