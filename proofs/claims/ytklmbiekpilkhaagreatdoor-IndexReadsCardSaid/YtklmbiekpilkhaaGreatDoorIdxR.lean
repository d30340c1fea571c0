/- The law on bytes that are read as an index, flags, a tree, walked. -/
import Derived.Test.YtklmbiekpilkhaaGreatDoorIdxO
namespace Go.Proofs.YtklmbiekpilkhaaGreatDoor.idx
open Go.ChangeShapes Go.WideShapes Go.ChangeAt Go.RowKit
open Go.Proofs.YtklmbiekpilkhaaGreatDoor.row
open Go.Proofs.YtklmbiekpilkhaaGreatDoor.codec (Bytes OutIs More bytesOf bytesOf_length strOf numOf)
open Go.Proofs.YtklmbiekpilkhaaGreatDoor.rd (got rest)
open Go.Proofs.YtklmbiekpilkhaaGreatDoor.pg (IsPage payL)
set_option linter.unusedVariables false
set_option maxRecDepth 100000
set_option linter.unusedSimpArgs false

theorem page_third {k : Int} {l : List Nat} (h : IsPage k l) : ∃ m : Nat, k = m ∧ l[3]? = some m := by
  obtain ⟨m, p, rfl, -, -, rfl⟩ := h
  exact ⟨m, rfl, rfl⟩
theorem page_other {k j : Int} {l : List Nat} (h : IsPage k l) (h' : IsPage j l) : k = j := by
  obtain ⟨m, rfl, e⟩ := page_third h
  obtain ⟨m', rfl, e'⟩ := page_third h'
  rw [e] at e'
  cases e'
  rfl
theorem pay_oc {k : Int} {l : List Nat} (hl : ∀ b ∈ l, b < 256) (hn : l.length ≤ 1000000) (h : IsPage k l) : Oc (some (payL l)) := by
  intro m hm b hb
  cases hm
  obtain ⟨m, -, -, -, hp⟩ := pg.isPage_pay hl (by omega) h
  refine hl b ?_
  rw [hp]
  simp [pg.pageL, pg.body, hb]
theorem pay_page {k : Nat} {l : List Nat} (hl : ∀ b ∈ l, b < 256) (hn : l.length ≤ 1000000) (h : IsPage (k : Int) l) : pg.pageL k (payL l) = l := by
  obtain ⟨m, e, -, -, hp⟩ := pg.isPage_pay hl (by omega) h
  obtain rfl : k = m := by omega
  exact hp.symm
theorem zero_index : indexB ⟨#[]⟩ 0 0 0 [] = false := by
  unfold indexB
  rw [show decide ((0 : Nat) ≠ 0) = false from rfl, Bool.false_and, Bool.and_false]
theorem zero_flags : flsB 0 [] = false := rfl
theorem zero_tree : treeB [] = false := by decide
set_option maxHeartbeats 8000000 in
theorem reads_mid (W : World) (n c : Nat) (A : Option Addr) (l : List Nat) (hB : Bytes W A n l) (hn : n ≤ 20000) (hc : n ≤ c) (hr : nam.Room W) :
    Calls Tryz.prog 3 #[.slice A n c] W fun e w' => e = .returned (.bool true) ∧ Below W.heap.size W w' := by
  have HW := Lib.hid (awake_any W hr)
  have HB := Lib.hid hB
  have Hr := Lib.hid hr
  obtain ⟨T, hT⟩ : ∃ T, T = strOf l := ⟨_, rfl⟩
  have HTq := Lib.hid hT
  have hd := decide_eq_false (show ¬ (20000 : Int) < (n : Int) by omega)
  clear hB hr hT
  go_enter Tryz.func3, Tryz.ntmps3
  go_wp2_with fail
  refine HW.out.mono ?_
  rintro e w1 ⟨rfl, hb⟩
  have HB1 := Lib.hid hb
  have HG1 := Lib.hid (getIndex_any w1 n c A l (HB.out.below HB.out.lt hb) (by omega) hc (Hr.out.below hb))
  clear hb
  go_wp2_with fail
  refine HG1.out.mono ?_
  rintro e w2 ⟨(⟨v, es, hip, hrd, hfm, hok, hes, rfl, ho⟩ | rfl), hb2⟩
  · obtain ⟨A1, q1, rfl, -, -, hRd⟩ := ho.rd fE
    have hlen : es.length ≤ 70000 := hes
    have hsay := index_says (pay_oc HB.out.2.1 (by have := HB.out.1; omega) hip _ rfl) hrd
    have hoc := pay_oc HB.out.2.1 (by have := HB.out.1; omega) hip
    have hpp := pay_page (k := 1) HB.out.2.1 (by have := HB.out.1; omega) hip
    have hb1 : numOf (got 4 (iN (payL l))) < 4294967296 := hoc.lt.num 4
    have hb2' : numOf (got 4 (iE (payL l))) < 4294967296 := (hoc.lt.rest 4).num 4
    generalize tx (some (payL l)) = tv at *
    generalize numOf (got 4 (iN (payL l))) = ep at *
    generalize numOf (got 4 (iE (payL l))) = nx at *
    generalize numOf (got 4 (iX (payL l))) = up at *
    generalize hn1 : es.length = n1 at *
    have HPG : Hid (pg.pageL 1 (indexL tv ep nx (Int.toNat (up : Int)) es) = l) := Lib.hid (by rw [Int.toNat_natCast, hsay]; exact hpp)
    have HFM := Lib.hid hfm
    have HOK := Lib.hid hok
    have HES := Lib.hid hlen
    have HBnd := Lib.hid (And.intro hb1 hb2')
    have HIP := Lib.hid hip
    have HRd2 := Lib.hid hRd
    have HB2 := Lib.hid (HB1.out.trans (hb2.mono HB1.out.size))
    clear hlen hsay hoc hpp hb1 hb2' hfm hok hes hip hRd ho hrd hb2 HG1 hn1
    have HG2 := Lib.hid (fun (w : World) (hb : Below W.heap.size W w) => getFlags_any w n c A l (HB.out.below HB.out.lt hb) (by omega) hc (Hr.out.below hb))
    go_wp2_with fail
    have hq : Below w2.heap.size w2 (w2.alloc (.cells #[.string tv, .int .u32 (ep : Nat), .int .u32 (nx : Nat), .int .i64 (up : Nat), .slice A1 n1 q1] 27)) := (Below.refl _ _).alloc (Nat.le_refl _) _
    have hx2 : (w2.alloc (.cells #[.string tv, .int .u32 (ep : Nat), .int .u32 (nx : Nat), .int .i64 (up : Nat), .slice A1 n1 q1] 27)).heap[w2.heap.size]? = some (.cells #[.string tv, .int .u32 (ep : Nat), .int .u32 (nx : Nat), .int .i64 (up : Nat), .slice A1 n1 q1] 27 (0, 0)) := heap_alloc_new w2 _
    have HRd3 := Lib.hid (HRd2.out.below hq)
    have HB2b := Lib.hid (HB2.out.trans (hq.mono HB2.out.size))
    generalize hp3 : w2.heap.size = p3 at *
    generalize w2.alloc (.cells #[.string tv, .int .u32 (ep : Nat), .int .u32 (nx : Nat), .int .i64 (up : Nat), .slice A1 n1 q1] 27) = w2b at *
    have HX2 := Lib.hid hx2
    clear hq hx2 hp3
    refine (HG2.out w2b HB2b.out).mono ?_
    rintro e w3 ⟨(⟨v, es2, hip, hrd, hfm, hok, hes, rfl, ho⟩ | rfl), hb3⟩
    · exact absurd (page_other HIP.out hip) (by decide)
    · have HB3 := Lib.hid (HB2b.out.trans (hb3.mono HB2b.out.size))
      have HX3 := Lib.hid ((hb3.block _ (Array.getElem?_eq_some_iff.1 HX2.out).1).trans HX2.out)
      have HRd4 := Lib.hid (HRd3.out.below hb3)
      clear hb3 HG2
      have HG3 := Lib.hid (fun (w : World) (hb : Below W.heap.size W w) => getTree_any w n c A l (HB.out.below HB.out.lt hb) (by omega) hc (Hr.out.below hb))
      go_wp2_with fail
      have hq : Below w3.heap.size w3 (w3.alloc (.cells #[.int .u32 0, .slice none 0 0] 33)) := (Below.refl _ _).alloc (Nat.le_refl _) _
      have hf3 : (w3.alloc (.cells #[.int .u32 0, .slice none 0 0] 33)).heap[w3.heap.size]? = some (.cells #[.int .u32 0, .slice none 0 0] 33 (0, 0)) := heap_alloc_new w3 _
      have HX3b := Lib.hid ((hq.block _ (Array.getElem?_eq_some_iff.1 HX3.out).1).trans HX3.out)
      have HRd5 := Lib.hid (HRd4.out.below hq)
      have HB3b := Lib.hid (HB3.out.trans (hq.mono HB3.out.size))
      generalize hp5 : w3.heap.size = p5 at *
      generalize w3.alloc (.cells #[.int .u32 0, .slice none 0 0] 33) = w3b at *
      have HF3 := Lib.hid hf3
      clear hq hf3 hp5
      refine (HG3.out w3b HB3b.out).mono ?_
      rintro e w4 ⟨(⟨v, ps, hip, hrd, hfm, hps, rfl, ho⟩ | ⟨hno, rfl⟩), hb4⟩
      · exact absurd (page_other HIP.out hip) (by decide)
      · skip
        have HBW4 := Lib.hid (HB3b.out.trans (hb4.mono HB3b.out.size))
        have HX4 := Lib.hid ((hb4.block _ (Array.getElem?_eq_some_iff.1 HX3b.out).1).trans HX3b.out)
        have HF4 := Lib.hid ((hb4.block _ (Array.getElem?_eq_some_iff.1 HF3.out).1).trans HF3.out)
        have HRdW := Lib.hid (HRd5.out.below hb4)
        clear hb4 HG3 hno
        have hx4 := HX4.out
        have c0 := cell_at hx4 0 (.string tv) rfl
        have c1 := cell_at hx4 1 (.int .u32 (ep : Nat)) rfl
        have c2 := cell_at hx4 2 (.int .u32 (nx : Nat)) rfl
        have c3 := cell_at hx4 3 (.int .i64 (up : Nat)) rfl
        have c4 := cell_at hx4 4 (.slice A1 n1 q1) rfl
        have hf4 := HF4.out
        have d0 := cell_at hf4 0 (.int .u32 0) rfl
        have d1 := cell_at hf4 1 (.slice none 0 0) rfl
        clear hx4 hf4
        have HPI := Lib.hid (putIndex_good w4 tv ep nx (up : Nat) A1 n1 q1 es HRdW.out (by have := HES.out; omega) HOK.out HBnd.out.1 HBnd.out.2 (Hr.out.below HBW4.out) HFM.out)
        go_wp2_with fail
        refine HPI.out.mono ?_
        rintro e w5 ⟨g, m, rfl, hm, hg, hBp, hb5⟩
        have HB5 := Lib.hid hb5
        have HBp5 := Lib.hid hBp
        have HM := Lib.hid hm
        clear hBp hm hg
        have HF5 := Lib.hid ((hb5.block _ (Array.getElem?_eq_some_iff.1 HF4.out).1).trans HF4.out)
        clear c0 c1 c2 c3 c4 d0 d1 hb5
        have d0 := cell_at HF5.out 0 (.int .u32 0) rfl
        have d1 := cell_at HF5.out 1 (.slice none 0 0) rfl
        have HBW5 := Lib.hid (HBW4.out.trans (HB5.out.mono HBW4.out.size))
        go_wp2_with fail
        refine (putFlags_none w5 0 none 0 0 [] (Rd.empty w5) (by omega) (fun e he => by cases he) (by omega) zero_flags).mono ?_
        rintro e w6 ⟨rfl, hb6⟩
        have HB6 := Lib.hid hb6
        have HBW6 := Lib.hid (HBW5.out.trans (hb6.mono HBW5.out.size))
        have HBp6 := Lib.hid (HBp5.out.below HBp5.out.lt hb6)
        clear d0 d1 hb6
        go_wp2_with fail
        refine (putTree_none w6 none 0 0 [] (Rd.empty w6) (by omega) (Hr.out.below HBW6.out) zero_tree).mono ?_
        rintro e w7 ⟨rfl, hb7⟩
        have HBW7 := Lib.hid (HBW6.out.trans (hb7.mono HBW6.out.size))
        have HBp7 := Lib.hid (HBp6.out.below HBp6.out.lt hb7)
        clear hb7
        have ct := HBp7.out.text m
        rw [HPG.out, ← HTq.out] at ct
        have cb := (HB.out.below HB.out.lt HBW7.out).text c
        rw [← HTq.out] at cb
        go_wp2_with fail
        go_ret
        exact ⟨rfl, HBW7.out⟩
  · have HB2 := Lib.hid (HB1.out.trans (hb2.mono HB1.out.size))
    clear hb2 HG1
    have HG2 := Lib.hid (fun (w : World) (hb : Below W.heap.size W w) => getFlags_any w n c A l (HB.out.below HB.out.lt hb) (by omega) hc (Hr.out.below hb))
    go_wp2_with fail
    have hq : Below w2.heap.size w2 (w2.alloc (.cells #[.string ⟨#[]⟩, .int .u32 0, .int .u32 0, .int .i64 0, .slice none 0 0] 27)) := (Below.refl _ _).alloc (Nat.le_refl _) _
    have hx2 : (w2.alloc (.cells #[.string ⟨#[]⟩, .int .u32 0, .int .u32 0, .int .i64 0, .slice none 0 0] 27)).heap[w2.heap.size]? = some (.cells #[.string ⟨#[]⟩, .int .u32 0, .int .u32 0, .int .i64 0, .slice none 0 0] 27 (0, 0)) := heap_alloc_new w2 _
    have HB2b := Lib.hid (HB2.out.trans (hq.mono HB2.out.size))
    generalize hp3 : w2.heap.size = p3 at *
    generalize w2.alloc (.cells #[.string ⟨#[]⟩, .int .u32 0, .int .u32 0, .int .i64 0, .slice none 0 0] 27) = w2b at *
    have HX2 := Lib.hid hx2
    clear hq hx2 hp3
    refine (HG2.out w2b HB2b.out).mono ?_
    rintro e w3 ⟨(⟨v, es2, hip, hrd, hfm, hok, hes, rfl, ho⟩ | rfl), hb3⟩
    · obtain ⟨A1, q1, rfl, -, -, hRd⟩ := ho.rd fE
      have hlen : es2.length ≤ 70000 := hes
      have hsay := fls_says (pay_oc HB.out.2.1 (by have := HB.out.1; omega) hip _ rfl) hrd
      have hoc := pay_oc HB.out.2.1 (by have := HB.out.1; omega) hip
      have hpp := pay_page (k := 2) HB.out.2.1 (by have := HB.out.1; omega) hip
      have hb1 : numOf (got 4 (some (payL l))) < 4294967296 := hoc.num 4
      generalize numOf (got 4 (some (payL l))) = ep at *
      generalize hn1 : es2.length = n1 at *
      generalize es2 = es at *
      have HPG : Hid (pg.pageL 2 (flsL ep es) = l) := Lib.hid (by rw [hsay]; exact hpp)
      have HFM := Lib.hid hfm
      have HOK := Lib.hid hok
      have HES := Lib.hid hlen
      have HBnd := Lib.hid hb1
      have HIP := Lib.hid hip
      have HRd4 := Lib.hid hRd
      have HX3 := Lib.hid ((hb3.block _ (Array.getElem?_eq_some_iff.1 HX2.out).1).trans HX2.out)
      have HB3 := Lib.hid (HB2b.out.trans (hb3.mono HB2b.out.size))
      clear hlen hsay hoc hpp hb1 hfm hok hes hip hRd ho hrd hb3 HG2 hn1
      have HG3 := Lib.hid (fun (w : World) (hb : Below W.heap.size W w) => getTree_any w n c A l (HB.out.below HB.out.lt hb) (by omega) hc (Hr.out.below hb))
      go_wp2_with fail
      have hq : Below w3.heap.size w3 (w3.alloc (.cells #[.int .u32 (ep : Nat), .slice A1 n1 q1] 33)) := (Below.refl _ _).alloc (Nat.le_refl _) _
      have hf3 : (w3.alloc (.cells #[.int .u32 (ep : Nat), .slice A1 n1 q1] 33)).heap[w3.heap.size]? = some (.cells #[.int .u32 (ep : Nat), .slice A1 n1 q1] 33 (0, 0)) := heap_alloc_new w3 _
      have HX3b := Lib.hid ((hq.block _ (Array.getElem?_eq_some_iff.1 HX3.out).1).trans HX3.out)
      have HRd5 := Lib.hid (HRd4.out.below hq)
      have HB3b := Lib.hid (HB3.out.trans (hq.mono HB3.out.size))
      generalize hp5 : w3.heap.size = p5 at *
      generalize w3.alloc (.cells #[.int .u32 (ep : Nat), .slice A1 n1 q1] 33) = w3b at *
      have HF3 := Lib.hid hf3
      clear hq hf3 hp5
      refine (HG3.out w3b HB3b.out).mono ?_
      rintro e w4 ⟨(⟨v, ps, hip, hrd, hfm, hps, rfl, ho⟩ | ⟨hno, rfl⟩), hb4⟩
      · exact absurd (page_other HIP.out hip) (by decide)
      · skip
        have HBW4 := Lib.hid (HB3b.out.trans (hb4.mono HB3b.out.size))
        have HX4 := Lib.hid ((hb4.block _ (Array.getElem?_eq_some_iff.1 HX3b.out).1).trans HX3b.out)
        have HF4 := Lib.hid ((hb4.block _ (Array.getElem?_eq_some_iff.1 HF3.out).1).trans HF3.out)
        have HRdW := Lib.hid (HRd5.out.below hb4)
        clear hb4 HG3 hno
        have hx4 := HX4.out
        have c0 := cell_at hx4 0 (.string ⟨#[]⟩) rfl
        have c1 := cell_at hx4 1 (.int .u32 0) rfl
        have c2 := cell_at hx4 2 (.int .u32 0) rfl
        have c3 := cell_at hx4 3 (.int .i64 0) rfl
        have c4 := cell_at hx4 4 (.slice none 0 0) rfl
        have hf4 := HF4.out
        have d0 := cell_at hf4 0 (.int .u32 (ep : Nat)) rfl
        have d1 := cell_at hf4 1 (.slice A1 n1 q1) rfl
        clear hx4 hf4
        have HPI := Lib.hid (putIndex_none w4 ⟨#[]⟩ 0 0 0 none 0 0 [] (Rd.empty w4) (by omega) (fun e he => by cases he) (by omega) (by omega) (Hr.out.below HBW4.out) zero_index)
        go_wp2_with fail
        refine HPI.out.mono ?_
        rintro e w5 ⟨rfl, hb5⟩
        have HB5 := Lib.hid hb5
        have HF5 := Lib.hid ((hb5.block _ (Array.getElem?_eq_some_iff.1 HF4.out).1).trans HF4.out)
        clear c0 c1 c2 c3 c4 d0 d1 hb5
        have d0 := cell_at HF5.out 0 (.int .u32 (ep : Nat)) rfl
        have d1 := cell_at HF5.out 1 (.slice A1 n1 q1) rfl
        have HBW5 := Lib.hid (HBW4.out.trans (HB5.out.mono HBW4.out.size))
        go_wp2_with fail
        refine (putFlags_good w5 ep A1 n1 q1 es (HRdW.out.below HB5.out) (by have := HES.out; omega) HOK.out HBnd.out HFM.out).mono ?_
        rintro e w6 ⟨g, m, rfl, hm, hg, hBp, hb6⟩
        have HBp6 := Lib.hid hBp
        have HM := Lib.hid hm
        clear hBp hm hg
        have HB6 := Lib.hid hb6
        have HBW6 := Lib.hid (HBW5.out.trans (hb6.mono HBW5.out.size))
        clear d0 d1 hb6
        go_wp2_with fail
        refine (putTree_none w6 none 0 0 [] (Rd.empty w6) (by omega) (Hr.out.below HBW6.out) zero_tree).mono ?_
        rintro e w7 ⟨rfl, hb7⟩
        have HBW7 := Lib.hid (HBW6.out.trans (hb7.mono HBW6.out.size))
        have HBp7 := Lib.hid (HBp6.out.below HBp6.out.lt hb7)
        clear hb7
        have ct := HBp7.out.text m
        rw [HPG.out, ← HTq.out] at ct
        have cb := (HB.out.below HB.out.lt HBW7.out).text c
        rw [← HTq.out] at cb
        go_wp2_with fail
        go_ret
        exact ⟨rfl, HBW7.out⟩
    · have HB3 := Lib.hid (HB2b.out.trans (hb3.mono HB2b.out.size))
      have HX3 := Lib.hid ((hb3.block _ (Array.getElem?_eq_some_iff.1 HX2.out).1).trans HX2.out)
      clear hb3 HG2
      have HG3 := Lib.hid (fun (w : World) (hb : Below W.heap.size W w) => getTree_any w n c A l (HB.out.below HB.out.lt hb) (by omega) hc (Hr.out.below hb))
      go_wp2_with fail
      have hq : Below w3.heap.size w3 (w3.alloc (.cells #[.int .u32 0, .slice none 0 0] 33)) := (Below.refl _ _).alloc (Nat.le_refl _) _
      have hf3 : (w3.alloc (.cells #[.int .u32 0, .slice none 0 0] 33)).heap[w3.heap.size]? = some (.cells #[.int .u32 0, .slice none 0 0] 33 (0, 0)) := heap_alloc_new w3 _
      have HX3b := Lib.hid ((hq.block _ (Array.getElem?_eq_some_iff.1 HX3.out).1).trans HX3.out)
      have HB3b := Lib.hid (HB3.out.trans (hq.mono HB3.out.size))
      generalize hp5 : w3.heap.size = p5 at *
      generalize w3.alloc (.cells #[.int .u32 0, .slice none 0 0] 33) = w3b at *
      have HF3 := Lib.hid hf3
      clear hq hf3 hp5
      refine (HG3.out w3b HB3b.out).mono ?_
      rintro e w4 ⟨(⟨v, ps, hip, hrd, hfm, hps, rfl, ho⟩ | ⟨hno, rfl⟩), hb4⟩
      · obtain ⟨A1, q1, rfl, -, -, hRd⟩ := ho.rd fP
        have hsay := tree_says (pay_oc HB.out.2.1 (by have := HB.out.1; omega) hip _ rfl) hrd
        have hpp := pay_page (k := 3) HB.out.2.1 (by have := HB.out.1; omega) hip
        generalize hn1 : ps.length = n1 at *
        have HPG : Hid (pg.pageL 3 (treeL ps) = l) := Lib.hid (by rw [hsay]; exact hpp)
        have HFM := Lib.hid hfm
        have HES := Lib.hid hps
        have HRdW := Lib.hid hRd
        skip
        have HBW4 := Lib.hid (HB3b.out.trans (hb4.mono HB3b.out.size))
        have HX4 := Lib.hid ((hb4.block _ (Array.getElem?_eq_some_iff.1 HX3b.out).1).trans HX3b.out)
        have HF4 := Lib.hid ((hb4.block _ (Array.getElem?_eq_some_iff.1 HF3.out).1).trans HF3.out)
        clear hsay hpp hfm hps hip hRd ho hrd hb4 HG3 hn1
        have hx4 := HX4.out
        have c0 := cell_at hx4 0 (.string ⟨#[]⟩) rfl
        have c1 := cell_at hx4 1 (.int .u32 0) rfl
        have c2 := cell_at hx4 2 (.int .u32 0) rfl
        have c3 := cell_at hx4 3 (.int .i64 0) rfl
        have c4 := cell_at hx4 4 (.slice none 0 0) rfl
        have hf4 := HF4.out
        have d0 := cell_at hf4 0 (.int .u32 0) rfl
        have d1 := cell_at hf4 1 (.slice none 0 0) rfl
        clear hx4 hf4
        have HPI := Lib.hid (putIndex_none w4 ⟨#[]⟩ 0 0 0 none 0 0 [] (Rd.empty w4) (by omega) (fun e he => by cases he) (by omega) (by omega) (Hr.out.below HBW4.out) zero_index)
        go_wp2_with fail
        refine HPI.out.mono ?_
        rintro e w5 ⟨rfl, hb5⟩
        have HB5 := Lib.hid hb5
        have HF5 := Lib.hid ((hb5.block _ (Array.getElem?_eq_some_iff.1 HF4.out).1).trans HF4.out)
        clear c0 c1 c2 c3 c4 d0 d1 hb5
        have d0 := cell_at HF5.out 0 (.int .u32 0) rfl
        have d1 := cell_at HF5.out 1 (.slice none 0 0) rfl
        have HBW5 := Lib.hid (HBW4.out.trans (HB5.out.mono HBW4.out.size))
        go_wp2_with fail
        refine (putFlags_none w5 0 none 0 0 [] (Rd.empty w5) (by omega) (fun e he => by cases he) (by omega) zero_flags).mono ?_
        rintro e w6 ⟨rfl, hb6⟩
        have HB6 := Lib.hid hb6
        have HBW6 := Lib.hid (HBW5.out.trans (hb6.mono HBW5.out.size))
        clear d0 d1 hb6
        go_wp2_with fail
        refine (putTree_good w6 A1 n1 q1 ps ((HRdW.out.below HB5.out).below HB6.out) (by have := HES.out; omega) (Hr.out.below HBW6.out) HFM.out).mono ?_
        rintro e w7 ⟨g, m, rfl, hm, hg, hBp, hb7⟩
        have HBp7 := Lib.hid hBp
        have HM := Lib.hid hm
        clear hBp hm hg
        have HBW7 := Lib.hid (HBW6.out.trans (hb7.mono HBW6.out.size))
        clear hb7
        have ct := HBp7.out.text m
        rw [HPG.out, ← HTq.out] at ct
        have cb := (HB.out.below HB.out.lt HBW7.out).text c
        rw [← HTq.out] at cb
        go_wp2_with fail
        go_ret
        exact ⟨rfl, HBW7.out⟩
      · skip
        have HBW4 := Lib.hid (HB3b.out.trans (hb4.mono HB3b.out.size))
        have HX4 := Lib.hid ((hb4.block _ (Array.getElem?_eq_some_iff.1 HX3b.out).1).trans HX3b.out)
        have HF4 := Lib.hid ((hb4.block _ (Array.getElem?_eq_some_iff.1 HF3.out).1).trans HF3.out)
        clear hb4 HG3 hno
        have hx4 := HX4.out
        have c0 := cell_at hx4 0 (.string ⟨#[]⟩) rfl
        have c1 := cell_at hx4 1 (.int .u32 0) rfl
        have c2 := cell_at hx4 2 (.int .u32 0) rfl
        have c3 := cell_at hx4 3 (.int .i64 0) rfl
        have c4 := cell_at hx4 4 (.slice none 0 0) rfl
        have hf4 := HF4.out
        have d0 := cell_at hf4 0 (.int .u32 0) rfl
        have d1 := cell_at hf4 1 (.slice none 0 0) rfl
        clear hx4 hf4
        have HPI := Lib.hid (putIndex_none w4 ⟨#[]⟩ 0 0 0 none 0 0 [] (Rd.empty w4) (by omega) (fun e he => by cases he) (by omega) (by omega) (Hr.out.below HBW4.out) zero_index)
        go_wp2_with fail
        refine HPI.out.mono ?_
        rintro e w5 ⟨rfl, hb5⟩
        have HB5 := Lib.hid hb5
        have HF5 := Lib.hid ((hb5.block _ (Array.getElem?_eq_some_iff.1 HF4.out).1).trans HF4.out)
        clear c0 c1 c2 c3 c4 d0 d1 hb5
        have d0 := cell_at HF5.out 0 (.int .u32 0) rfl
        have d1 := cell_at HF5.out 1 (.slice none 0 0) rfl
        have HBW5 := Lib.hid (HBW4.out.trans (HB5.out.mono HBW4.out.size))
        go_wp2_with fail
        refine (putFlags_none w5 0 none 0 0 [] (Rd.empty w5) (by omega) (fun e he => by cases he) (by omega) zero_flags).mono ?_
        rintro e w6 ⟨rfl, hb6⟩
        have HB6 := Lib.hid hb6
        have HBW6 := Lib.hid (HBW5.out.trans (hb6.mono HBW5.out.size))
        clear d0 d1 hb6
        go_wp2_with fail
        refine (putTree_none w6 none 0 0 [] (Rd.empty w6) (by omega) (Hr.out.below HBW6.out) zero_tree).mono ?_
        rintro e w7 ⟨rfl, hb7⟩
        have HBW7 := Lib.hid (HBW6.out.trans (hb7.mono HBW6.out.size))
        clear hb7
        go_wp2_with fail
        go_ret
        exact ⟨rfl, HBW7.out⟩
theorem reads_walk (W : World) (n c : Nat) (A : Option Addr) (l : List Nat) (hB : Bytes W A n l) (hc : n ≤ c) (hr : nam.Room W) :
    Calls Tryz.prog 3 #[.slice A n c] W fun e w' => e = .returned (.bool true) ∧ Below W.heap.size W w' := by
  by_cases hn : n ≤ 20000
  · exact reads_mid W n c A l hB hn hc hr
  · have HW := Lib.hid (awake_any W hr)
    have Hr := Lib.hid hr
    have hd := decide_eq_true (show (20000 : Int) < (n : Int) by omega)
    clear hB hr hn
    go_enter Tryz.func3, Tryz.ntmps3
    go_wp2_with fail
    refine HW.out.mono ?_
    rintro e w1 ⟨rfl, hb⟩
    have HB1 := Lib.hid hb
    have HW1 := Lib.hid (awake_any w1 (Hr.out.below hb))
    clear hb
    go_wp2_with fail
    refine HW1.out.mono ?_
    rintro e w2 ⟨rfl, hb⟩
    have HB2 := Lib.hid hb
    clear hb
    go_wp2_with fail
    go_ret
    exact ⟨rfl, HB1.out.trans (HB2.out.mono HB1.out.size)⟩
end Go.Proofs.YtklmbiekpilkhaaGreatDoor.idx
