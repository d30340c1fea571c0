/- Which messages of notes are live. -/
import Derived.Test.YthhflkgngencdaaGreatDoorMa12
import Derived.Test.YthhflkgngencdaaGreatDoorMa07
import Derived.Deep.RegionHeld3
import Derived.Deep.DeepCutAuto
namespace Go.Proofs.YthhflkgngencdaaGreatDoor.lg
open Go.ChangeShapes Go.WideShapes Go.ChangeAt Go.RowKit
open Go.Proofs.YthhflkgngencdaaGreatDoor.codec (Bytes)
set_option linter.unusedVariables false
set_option maxRecDepth 100000
set_option linter.unusedSimpArgs false

theorem Own.mono {F : Y → List Value} {K B B' : Nat} {E : TypeId} {w : World} {v : Value} {ys : List Y} (h : Own F K B E w v ys) (hb : B' ≤ B) : Own F K B' E w v ys := ⟨⟨h.1.1, h.1.2.imp id fun ⟨g, cap, cur, h1, h2, h3⟩ => ⟨g, cap, cur, h1, Nat.le_trans hb h2, h3⟩⟩, h.2⟩
def LSt (W : World) (ys : List Y) (k : Nat) (v : Value) (w : World) : Prop := Own cL 6 W.heap.size 259 w v (pick ys (livB (nts ys)) k) ∧ Below W.heap.size W w
theorem LSt.start (W : World) (ys : List Y) : LSt W ys 0 (.slice none 0 0) W := ⟨Own.nil _ _ _ _ _, Below.refl _ _⟩
theorem LSt.alloc {W : World} {ys : List Y} {k : Nat} {v : Value} {w : World} (h : LSt W ys k v w) (o : Obj) : LSt W ys k v (w.alloc o) := ⟨h.1.alloc o, h.2.alloc h.2.size o⟩
theorem LSt.skip {W : World} {ys : List Y} {k : Nat} {v : Value} {w : World} (h : LSt W ys k v w) (hb : livB (nts ys) k = false) : LSt W ys (k + 1) v w := ⟨by rw [pick_no hb]; exact h.1, h.2⟩
theorem LSt.more {W : World} {ys : List Y} {k : Nat} {v v' : Value} {w w' : World} {y : Y} (h : LSt W ys k v w) (hx : ys[k]? = some y) (hb : livB (nts ys) k = true) (ho : Own cL 6 W.heap.size 259 w' v' (pick ys (livB (nts ys)) k ++ [y])) (hg : w.grownBy w' v.ownBlock) : LSt W ys (k + 1) v' w' :=
  ⟨by rw [pick_yes hx hb]; exact ho, grown_below h.2 h.1 hg⟩
theorem oct_apart {W w : World} {F : Y → List Value} {K : Nat} {E : TypeId} {v : Value} {zs : List Y} {y : Y} (hy : Oct W y) (ho : Own F K W.heap.size E w v zs) : ∀ ad, y.A = some ad → 0 < y.m → v.ownBlock ≠ some ad.block := by
  intro ad e h0 e'
  have h1 := hy.1.lt ad e h0
  have h2 := (ho.lt e').1
  omega
set_option maxHeartbeats 2000000 in
theorem liveOf_any (W : World) (A : Option Addr) (n c : Nat) (ys : List Y) (hR : Rd cA 8 W A n ys) (hn : n ≤ 16000000) (hok : ∀ y ∈ ys, y.n.ok ∧ y.p ≤ 16000000) (hp : (ys.map Y.np).Pairwise (fun a b => a.2 < b.2)) :
    Calls Tryz.prog 178 #[.slice A n c] W fun x w' => ∃ v, x = .returned v ∧ Own cL 6 W.heap.size 259 w' v (pick ys (livB (nts ys)) n) ∧ Below W.heap.size W w' := by
  have HR := Lib.hid hR
  have HO := Lib.hid hok
  have HPW := Lib.hid hp
  have HG := Lib.hid (lastGone_any W A n c ys hR hn hok)
  clear hR hok hp
  go_enter Tryz.func178, Tryz.ntmps178
  go_wp2_with fail
  refine HG.out.mono ?_
  rintro x W1 ⟨mb, rfl, D, g1, g2, g3, g4⟩
  have G1 := Lib.hid g1
  have G2 : Hid (GM D (ys.map Y.np)) := Lib.hid (by rw [List.take_of_length_le (by simp [HR.out.1])] at g2; exact g2)
  have G3 := Lib.hid g3
  have HR1 := Lib.hid (HR.out.below g3)
  have HS0 := Lib.hid (LSt.start W1 ys)
  clear g1 g2 g3 g4 HG
  go_wp2_with fail
  go_loopw [4, 13] (fun v i wr => ∃ k : Nat, k ≤ n ∧ i = .int .i64 k ∧ Hid (LSt W1 ys k v wr)) (fun _ i _ => n - (intOf i).toNat)
  case atStart => exact ⟨0, Nat.zero_le _, rfl, HS0⟩
  case round =>
    obtain ⟨k, hk, rfl, HS⟩ := hrel
    by_cases hlt : k < n
    · obtain ⟨b1, o1, y1, hA1, hx1, -, hoct⟩ := HR1.out.2 k hlt
      obtain ⟨b, o, y, rfl, hx, c0, c1, c2, c3, c4, c5, c6, c7, hoc⟩ := (HR1.out.below HS.out.2).at8 k hlt
      obtain rfl : y1 = y := by rw [hx] at hx1; exact (Option.some.inj hx1).symm
      have HOA := Lib.hid (oct_apart hoct HS.out.1)
      have HOC := Lib.hid hoc
      have hyo := HO.out _ (List.mem_of_getElem? hx)
      have hLV := fun h2 => live_at HPW.out (nps_at hx) h2
      have hLN := fun h2 => live_not (nts_at hx) h2
      have hEQ : (ys.map Y.np).map Prod.fst = nts ys := by rw [List.map_map]; rfl
      rw [hEQ] at hLV
      have HX := Lib.hid hx
      obtain ⟨⟨tk, te, ts, tu, td, tf, to_⟩, a, A', m', c'⟩ := y1
      simp only [] at c0 c1 c2 c3 c4 c5 c6 c7 hyo hLV hLN
      have hlt' : (k : Int) < (n : Int) := by omega
      clear hx hx1 hoct hoc hA1 hEQ
      by_cases h2 : tk = 2
      · subst h2
        have hE : te < 4294967296 := hyo.1.2.1
        have hU : tu < 4294967296 := hyo.1.2.2
        have HKY := Lib.hid (keyOf_id hE hU)
        obtain ⟨hhas, hat0⟩ := G2.out.2 te tu hE hU
        have hlv := hLV rfl
        have OM := Lib.hid (G1.out.kept (w' := wr) (row := none) ⟨HS.out.2.os, HS.out.2.tape, HS.out.2.output, HS.out.2.size, fun i hi _ => HS.out.2.block i hi⟩ (by simp))
        clear hLV hLN hyo hE hU
        cases hg : lastG (ys.map Y.np) te tu with
        | none =>
          rw [hg] at hhas hlv hat0
          have HLV := Lib.hid hlv
          simp only [Option.isSome_none] at hhas
          clear hlv hg hat0
          go_wp2_with (first
            | (at_lookup; refine wpList_lookup_own_ok_int (H := Unit) _ rfl _ _ 287 rfl 290 3 .i64 law Tryz.underlying287 Tryz.underlying3 (zero3 _) mb n D rfl (OM.out.alloc _) _ _ rfl HKY.out ?_; intro cc hat hwc; clear hat hwc)
            | (at_builtin; refine wpList_append_own fL (by decide) (by decide) (by decide) rfl rfl (.tmp 42) (.tmp 52) 193 259 rfl Tryz.underlying193 infoL W1.heap.size u4 _ rfl (HS.out.alloc _).1 (Nat.le_trans HS.out.2.size (by simp)) (by have := pick_len ys (livB (nts ys)) k; omega) ⟨⟨2, te, ts, tu, td, tf, to_⟩, a, A', m', c'⟩ (0, 0) _ (by simp) rfl _ rfl ⟨HOC.out.1.alloc _, HOC.out.2⟩ HOA.out ?_; intro v' w2 ho hgr hat; have HS2 := Lib.hid (LSt.more (HS.out.alloc _) HX.out HLV.out ho hgr); clear ho hgr hat))
          go_roundw
          case rel => first | exact ⟨k + 1, by omega, by go_num, HS2⟩ | ((repeat apply Exists.intro); exact ⟨⟨k + 1, by omega, by go_num, HS2⟩, rfl⟩)
          case measure => (show n - ((k : Int) + 1).toNat < n - k; omega)
        | some p =>
          rw [hg] at hhas hlv hat0
          have HAT := Lib.hid (hat0 p rfl)
          simp only [Option.isSome_some] at hhas hlv
          clear hg hat0
          by_cases hpa : p < a
          · have HLV : Hid (livB (nts ys) k = true) := Lib.hid (by rw [hlv]; exact decide_eq_true hpa)
            clear hlv
            go_wp2_with (first
              | (at_lookup; refine wpList_lookup_own_ok_int (H := Unit) _ rfl _ _ 287 rfl 290 3 .i64 law Tryz.underlying287 Tryz.underlying3 (zero3 _) mb n D rfl (OM.out.alloc _) _ _ rfl HKY.out ?_; intro cc hat hwc; have hcc : decide (cc < (a : Int)) = true := (by rw [HAT.out] at hat; simp at hat; simp; omega); clear hat hwc)
              | (at_builtin; refine wpList_append_own fL (by decide) (by decide) (by decide) rfl rfl (.tmp 42) (.tmp 52) 193 259 rfl Tryz.underlying193 infoL W1.heap.size u4 _ rfl (HS.out.alloc _).1 (Nat.le_trans HS.out.2.size (by simp)) (by have := pick_len ys (livB (nts ys)) k; omega) ⟨⟨2, te, ts, tu, td, tf, to_⟩, a, A', m', c'⟩ (0, 0) _ (by simp) rfl _ rfl ⟨HOC.out.1.alloc _, HOC.out.2⟩ HOA.out ?_; intro v' w2 ho hgr hat; have HS2 := Lib.hid (LSt.more (HS.out.alloc _) HX.out HLV.out ho hgr); clear ho hgr hat))
            go_roundw
            case rel => first | exact ⟨k + 1, by omega, by go_num, HS2⟩ | ((repeat apply Exists.intro); exact ⟨⟨k + 1, by omega, by go_num, HS2⟩, rfl⟩)
            case measure => (show n - ((k : Int) + 1).toNat < n - k; omega)
          · have HSk := Lib.hid (HS.out.skip (by rw [hlv]; exact decide_eq_false hpa))
            clear hlv
            go_wp2_with (at_lookup; refine wpList_lookup_own_ok_int (H := Unit) _ rfl _ _ 287 rfl 290 3 .i64 law Tryz.underlying287 Tryz.underlying3 (zero3 _) mb n D rfl (OM.out.alloc _) _ _ rfl HKY.out ?_; intro cc hat hwc; have hcc : decide (cc < (a : Int)) = false := (by rw [HAT.out] at hat; simp at hat; simp; omega); clear hat hwc)
            go_roundw
            case rel => first | exact ⟨k + 1, by omega, by go_num, Lib.hid (HSk.out.alloc _)⟩ | ((repeat apply Exists.intro); exact ⟨⟨k + 1, by omega, by go_num, Lib.hid (HSk.out.alloc _)⟩, rfl⟩)
            case measure => (show n - ((k : Int) + 1).toNat < n - k; omega)
      · have h2' : ((tk : Int) != 2) = true := by rw [bne_iff_ne]; omega
        have HSk := Lib.hid (HS.out.skip (hLN h2))
        clear h2 hLV hLN hyo
        go_wp2
        go_roundw
        case rel => first | exact ⟨k + 1, by omega, by go_num, Lib.hid (HSk.out.alloc _)⟩ | ((repeat apply Exists.intro); exact ⟨⟨k + 1, by omega, by go_num, Lib.hid (HSk.out.alloc _)⟩, rfl⟩)
        case measure => (show n - ((k : Int) + 1).toNat < n - k; omega)
    · obtain rfl : k = n := by omega
      go_wp2
      go_ret
      exact ⟨_, rfl, HS.out.1.mono G3.out.size, G3.out.trans (HS.out.2.mono G3.out.size)⟩
end Go.Proofs.YthhflkgngencdaaGreatDoor.lg
namespace Go.Proofs.YthhflkgngencdaaGreatDoor.lg
open Go.Proofs.YthhflkgngencdaaGreatDoor.frm (R scanF scan recOf payOf rightB numOf4 right_long)
set_option linter.unusedVariables false
set_option linter.unusedSimpArgs false

structure GoodR (l : List Nat) (i : Nat) (r : R) : Prop where
  ge : i ≤ r.at_
  lt : r.at_ < l.length
  short : r.pay.length ≤ 30000
  mem : ∀ b ∈ r.pay, b ∈ l
theorem scanF_good (l : List Nat) : ∀ f i t, (∀ r ∈ (scanF l f i t).1, GoodR l i r) ∧ (scanF l f i t).1.Pairwise (fun a b => a.at_ < b.at_) := by
  intro f
  induction f with
  | zero => intro i t; rw [scanF]; exact ⟨by simp, List.Pairwise.nil⟩
  | succ f ih =>
    intro i t
    rw [scanF]
    by_cases hi : i < l.length
    · rw [if_pos hi]
      by_cases hr : rightB (l.drop i) = true
      · rw [if_pos hr]
        by_cases ht : l.length < i + 44 + numOf4 (l.drop i)
        · rw [if_pos ht]
          exact ⟨by simp, List.Pairwise.nil⟩
        · rw [if_neg ht]
          obtain ⟨h1, h2⟩ := ih (i + 44 + numOf4 (l.drop i)) (i + 44 + numOf4 (l.drop i))
          have h1' : ∀ r ∈ (scanF l f (i + 44 + numOf4 (l.drop i)) (i + 44 + numOf4 (l.drop i))).1, GoodR l i r := fun r hr => ⟨by have := (h1 r hr).ge; omega, (h1 r hr).lt, (h1 r hr).short, (h1 r hr).mem⟩
          have h30 := (right_long hr).2
          simp only []
          split
          · refine ⟨fun r hr => ?_, List.pairwise_cons.2 ⟨fun r hr => ?_, h2⟩⟩
            · rcases List.mem_cons.1 hr with rfl | hr
              · refine ⟨Nat.le_refl _, hi, ?_, fun b hb => ?_⟩
                · show (payOf l i).length ≤ 30000
                  unfold payOf
                  rw [List.length_take]
                  omega
                · have hb' : b ∈ payOf l i := hb
                  unfold payOf at hb'
                  exact List.mem_of_mem_drop (List.mem_of_mem_take hb')
              · exact h1' r hr
            · have := (h1 r hr).ge
              show i < r.at_
              omega
          · exact ⟨h1', h2⟩
      · rw [if_neg hr]
        obtain ⟨h1, h2⟩ := ih (i + 1) t
        exact ⟨fun r hr => ⟨by have := (h1 r hr).ge; omega, (h1 r hr).lt, (h1 r hr).short, (h1 r hr).mem⟩, h2⟩
    · rw [if_neg hi]
      exact ⟨by simp, List.Pairwise.nil⟩
theorem scan_good (l : List Nat) : (∀ r ∈ (scan l 0 0).1, GoodR l 0 r) ∧ (scan l 0 0).1.Pairwise (fun a b => a.at_ < b.at_) := scanF_good l _ 0 0
theorem noteOf_at {r : R} {x : Nt × Nat} (h : noteOf r = some x) : x.2 = r.at_ ∧ dec r.kind r.pay = some x.1 := by
  unfold noteOf at h
  cases hd : dec r.kind r.pay with
  | none => rw [hd] at h; cases h
  | some t => rw [hd] at h; cases h; exact ⟨rfl, rfl⟩
theorem notes_rise : ∀ {rs : List R}, rs.Pairwise (fun a b => a.at_ < b.at_) → (notesR rs).Pairwise (fun a b => a.2 < b.2)
  | [], _ => List.Pairwise.nil
  | r :: rs, h => by
    obtain ⟨h1, h2⟩ := List.pairwise_cons.1 h
    have ih := notes_rise h2
    unfold notesR at *
    rw [List.filterMap_cons]
    cases hn : noteOf r with
    | none => exact ih
    | some x =>
      refine List.pairwise_cons.2 ⟨fun y hy => ?_, ih⟩
      obtain ⟨q, hq, hy⟩ := List.mem_filterMap.1 hy
      have := h1 q hq
      rw [(noteOf_at hn).1, (noteOf_at hy).1]
      exact this
/-- The notes of bytes. -/
def notesL (l : List Nat) : List (Nt × Nat) := notesR (scan l 0 0).1
def ntsL (l : List Nat) : List Nt := (notesL l).map Prod.fst
theorem notesL_good {l : List Nat} (hl : ∀ b ∈ l, b < 256) : (∀ x ∈ notesL l, x.1.ok ∧ x.2 < l.length) ∧ (notesL l).Pairwise (fun a b => a.2 < b.2) := by
  obtain ⟨h1, h2⟩ := scan_good l
  refine ⟨fun x hx => ?_, notes_rise h2⟩
  obtain ⟨r, hr, hx⟩ := List.mem_filterMap.1 hx
  obtain ⟨e1, e2⟩ := noteOf_at hx
  have hg := h1 r hr
  exact ⟨(dec_ok (fun b hb => hl b (hg.mem b hb)) e2).1, by rw [e1]; exact hg.lt⟩
end Go.Proofs.YthhflkgngencdaaGreatDoor.lg
namespace Go.Proofs.YthhflkgngencdaaGreatDoor.lg
open Go.ChangeShapes Go.WideShapes Go.ChangeAt Go.RowKit
open Go.Proofs.YthhflkgngencdaaGreatDoor.codec (Bytes)
open Go.Proofs.YthhflkgngencdaaGreatDoor.frm (R X Reads Recs scan)
open Go.Proofs.YthhflkgngencdaaGreatDoor.bod (Fit cell_at)
set_option linter.unusedVariables false
set_option maxRecDepth 100000
set_option linter.unusedSimpArgs false

theorem six {w : World} {g : Nat} {t : TypeId} {cs : Array Value} (h : w.heap[g]? = some (.cells cs t (0, 0))) (hs : cs.size = 6) (v0 v1 v2 v3 v4 v5 : Value) :
    ((((((w.setCell ⟨g, 0, none⟩ v0).setCell ⟨g, 1, none⟩ v1).setCell ⟨g, 2, none⟩ v2).setCell ⟨g, 3, none⟩ v3).setCell ⟨g, 4, none⟩ v4).setCell ⟨g, 5, none⟩ v5).heap[g]? = some (.cells #[v0, v1, v2, v3, v4, v5] t (0, 0)) ∧
    (∀ k, k ≠ g → ((((((w.setCell ⟨g, 0, none⟩ v0).setCell ⟨g, 1, none⟩ v1).setCell ⟨g, 2, none⟩ v2).setCell ⟨g, 3, none⟩ v3).setCell ⟨g, 4, none⟩ v4).setCell ⟨g, 5, none⟩ v5).heap[k]? = w.heap[k]?) ∧
    ∀ (B : Nat) (a : World), Below B a w → B ≤ g → Below B a ((((((w.setCell ⟨g, 0, none⟩ v0).setCell ⟨g, 1, none⟩ v1).setCell ⟨g, 2, none⟩ v2).setCell ⟨g, 3, none⟩ v3).setCell ⟨g, 4, none⟩ v4).setCell ⟨g, 5, none⟩ v5) := by
  refine ⟨?_, fun k hk => by rw [heap_setCell_other _ _ _ _ hk, heap_setCell_other _ _ _ _ hk, heap_setCell_other _ _ _ _ hk, heap_setCell_other _ _ _ _ hk, heap_setCell_other _ _ _ _ hk, heap_setCell_other _ _ _ _ hk], fun B a hb hg => (((((hb.setCell (p := ⟨g, 0, none⟩) hg _).setCell (p := ⟨g, 1, none⟩) hg _).setCell (p := ⟨g, 2, none⟩) hg _).setCell (p := ⟨g, 3, none⟩) hg _).setCell (p := ⟨g, 4, none⟩) hg _).setCell (p := ⟨g, 5, none⟩) hg _⟩
  rw [heap_setCell_same _ g 5 _ t _ (heap_setCell_same _ g 4 _ t _ (heap_setCell_same _ g 3 _ t _ (heap_setCell_same _ g 2 _ t _ (heap_setCell_same _ g 1 _ t _ (heap_setCell_same _ g 0 _ t _ h)))))]
  obtain ⟨l⟩ := cs
  have hl : l.length = 6 := hs
  match l, hl with
  | [a0, a1, a2, a3, a4, a5], _ => rfl
theorem four {w : World} {g : Nat} {t : TypeId} {cs : Array Value} (h : w.heap[g]? = some (.cells cs t (0, 0))) (hs : cs.size = 4) (v0 v1 v2 v3 : Value) :
    ((((w.setCell ⟨g, 0, none⟩ v0).setCell ⟨g, 1, none⟩ v1).setCell ⟨g, 2, none⟩ v2).setCell ⟨g, 3, none⟩ v3).heap[g]? = some (.cells #[v0, v1, v2, v3] t (0, 0)) ∧
    (∀ k, k ≠ g → ((((w.setCell ⟨g, 0, none⟩ v0).setCell ⟨g, 1, none⟩ v1).setCell ⟨g, 2, none⟩ v2).setCell ⟨g, 3, none⟩ v3).heap[k]? = w.heap[k]?) ∧
    ∀ (B : Nat) (a : World), Below B a w → B ≤ g → Below B a ((((w.setCell ⟨g, 0, none⟩ v0).setCell ⟨g, 1, none⟩ v1).setCell ⟨g, 2, none⟩ v2).setCell ⟨g, 3, none⟩ v3) := by
  refine ⟨?_, fun k hk => by rw [heap_setCell_other _ _ _ _ hk, heap_setCell_other _ _ _ _ hk, heap_setCell_other _ _ _ _ hk, heap_setCell_other _ _ _ _ hk], fun B a hb hg => (((hb.setCell (p := ⟨g, 0, none⟩) hg _).setCell (p := ⟨g, 1, none⟩) hg _).setCell (p := ⟨g, 2, none⟩) hg _).setCell (p := ⟨g, 3, none⟩) hg _⟩
  rw [heap_setCell_same _ g 3 _ t _ (heap_setCell_same _ g 2 _ t _ (heap_setCell_same _ g 1 _ t _ (heap_setCell_same _ g 0 _ t _ h)))]
  obtain ⟨l⟩ := cs
  have hl : l.length = 4 := hs
  match l, hl with
  | [a0, a1, a2, a3], _ => rfl
theorem logSize (cs : Array Value) (h : cs.size = 6) : (Tryz.prog.info? 195).map (·.size) = some cs.size := by
  rw [h]
  kernel_rfl
end Go.Proofs.YthhflkgngencdaaGreatDoor.lg
namespace Go.Proofs.YthhflkgngencdaaGreatDoor.lg
open Go.ChangeShapes Go.WideShapes Go.ChangeAt Go.RowKit
open Go.Proofs.YthhflkgngencdaaGreatDoor.codec (Bytes)
open Go.Proofs.YthhflkgngencdaaGreatDoor.frm (R X Reads Recs scan)
open Go.Proofs.YthhflkgngencdaaGreatDoor.bod (Fit cell_at)
set_option linter.unusedVariables false
set_option maxRecDepth 100000
set_option linter.unusedSimpArgs false

/-- What Read answers. -/
def ReadPos (W : World) (l : List Nat) (e : Ending) (w' : World) : Prop := ∃ A n c zs, e = .returned (.agg #[.string (nmL (ntsL l)), .int .u32 (epo (ntsL l) : Nat), .int .u32 (nxt (top (epo (ntsL l)) (ntsL l)) : Nat), .slice A n c, .int .i64 ((scan l 0 0).2 : Nat), .bool (cl (epo (ntsL l)) (lives (ntsL l))).2]) ∧ Rd cL 6 w' A n zs ∧ n ≤ c ∧ n ≤ l.length ∧ (A = none → c = 0) ∧ nts zs = lives (ntsL l) ∧ zs.map Y.np = pick (notesL l) (livB (ntsL l)) (notesL l).length ∧ Below W.heap.size W w'
set_option maxHeartbeats 2000000 in
theorem read_pos (W : World) (A : Option Addr) (n c : Nat) (l : List Nat) (hB : Bytes W A n l) (hc : n ≤ c) (hn : n ≤ 16000000) (hL : sumDoor.Laid W) (hr : Fit W) :
    Calls Tryz.prog 130 #[.slice A n c] W fun e w' => ReadPos W l e w' := by
  obtain ⟨W1, hW1⟩ : ∃ W1, W1 = W.alloc (.cells #[.string ⟨#[]⟩, .int .u32 0, .int .u32 0, .slice none 0 0, .int .i64 0, .bool false] 195) := ⟨_, rfl⟩
  have HBW := Lib.hid (show Below W.heap.size W W1 by rw [hW1]; exact (Below.refl _ _).alloc (Nat.le_refl _) _)
  have HWS := Lib.hid (show W.heap.size < W1.heap.size by rw [hW1]; simp)
  have HRC := Lib.hid (fun (w1 : World) (h : Below W1.heap.size W1 w1) => (bod.boxed (w := W) (o := .cells #[.string ⟨#[]⟩, .int .u32 0, .int .u32 0, .slice none 0 0, .int .i64 0, .bool false] 195) (w1 := w1) (by rw [← hW1]; exact h)).1)
  have HFit := Lib.hid (fun (w1 : World) (h : Below W1.heap.size W1 w1) => hr.below (HBW.out.trans (h.mono HBW.out.size)))
  have HSC := Lib.hid (frm.scan_any W1 A n c l (hB.below hB.lt HBW.out) hc hn (hL.below hL.lt HBW.out))
  have HLN := Lib.hid hB
  have HW1 := Lib.hid hW1
  have HN := Lib.hid hn
  have hgl := notesL_good hB.2.1
  have HGL := Lib.hid hgl
  have HSG := Lib.hid (scan_good l)
  have HSL := Lib.hid (frm.scan_length l)
  clear hW1 hB hL hr hn hgl
  go_enter Tryz.func130, Tryz.ntmps130
  go_wp2_with fail
  rw [← HW1.out]
  refine HSC.out.mono ?_
  rintro e w1 ⟨v, torn, rfl, xs, hr, hb1, hs⟩
  obtain ⟨A1, c1, rfl, hc1, hR1⟩ := hr.reads
  have hxl : xs.length ≤ 16000000 := by
    have h1 := HSL.out
    rw [hs] at h1
    have h2 := HLN.out.1
    have h3 := HN.out
    simp at h1
    omega
  have HXS := Lib.hid hs
  have HB1 := Lib.hid hb1
  have HN1 := Lib.hid (notesOf_any w1 A1 xs.length c1 xs hR1 (fun x hx => by
    have h1 := HSG.out.1 x.r (by rw [hs]; exact List.mem_map.2 ⟨x, hx, rfl⟩)
    exact h1.short) hxl (HFit.out _ hb1))
  clear hr hb1 hs hR1 HSC hc1
  go_wp2_with fail
  refine HN1.out.mono ?_
  rintro e w2 ⟨v2, rfl, ys, o1, o2, o3, o4, o5⟩
  have HFR := Lib.hid (fun y hy ad e => Nat.le_trans HB1.out.size (o5 y hy ad e))
  have hys : ys.map Y.np = notesL l := by
    rw [o3, List.take_of_length_le (by simp)]
    unfold notesL
    rw [HXS.out]
  have hyn : nts ys = ntsL l := by
    unfold ntsL
    rw [← hys, List.map_map]
    rfl
  have HYS := Lib.hid hys
  have hok : ∀ y ∈ ys, y.n.ok ∧ y.p ≤ 16000000 := by
    intro y hy
    have h1 := HGL.out.1 y.np (by rw [← hys]; exact List.mem_map.2 ⟨y, hy, rfl⟩)
    have h2 := HLN.out.1
    have h3 := HN.out
    exact ⟨h1.1, by have := h1.2; show y.np.2 ≤ _; omega⟩
  have hrise : (ys.map Y.np).Pairwise (fun a b => a.2 < b.2) := by rw [hys]; exact HGL.out.2
  obtain ⟨A2, c2, rfl, hc2, -, hR2⟩ := o1.rd fA
  have HB2 := Lib.hid (HB1.out.trans (o2.mono HB1.out.size))
  have HR2 := Lib.hid hR2
  have HYN := Lib.hid hyn
  have HOK := Lib.hid hok
  have HRI := Lib.hid hrise
  have hyl : ys.length ≤ 16000000 := by omega
  have HYL := Lib.hid (show ys.length ≤ l.length by
    have h1 := HSL.out
    rw [HXS.out] at h1
    simp at h1
    omega)
  have HYL2 := Lib.hid hyl
  clear hys hyn hok hrise o1 o2 o3 o4 o5 hR2 HN1 hc2 hyl hxl
  have HY0 : Hid ((nts ys).length = ys.length) := Lib.hid (nts_len ys)
  generalize hNN : ys.length = N at *
  have HNN := Lib.hid hNN
  clear hNN
  go_wp2_with fail
  refine (lastName_any w2 A2 N c2 ys HR2.out HYL2.out).mono ?_
  rintro e w3 ⟨rfl, hb3⟩
  have HB3 := Lib.hid (HB2.out.trans (hb3.mono HB2.out.size))
  have HR3 := Lib.hid (HR2.out.below hb3)
  clear hb3
  go_wp2_with fail
  refine (greatestEpoch_any w3 A2 N c2 ys HR3.out HYL2.out).mono ?_
  rintro e w4 ⟨rfl, hb4⟩
  have HB4 := Lib.hid (HB3.out.trans (hb4.mono HB3.out.size))
  have HR4 := Lib.hid (HR3.out.below hb4)
  clear hb4 HR2 HR3
  go_wp2_with fail
  refine (liveOf_any w4 A2 N c2 ys HR4.out HYL2.out HOK.out HRI.out).mono ?_
  rintro e w5 ⟨v5, rfl, o5, hb5⟩
  have hlv : nts (pick ys (livB (nts ys)) N) = lives (ntsL l) := by
    unfold nts lives
    rw [pick_map, ← HYN.out, HY0.out]
    rfl
  have hpo : (pick ys (livB (nts ys)) N).map Y.np = pick (notesL l) (livB (ntsL l)) (notesL l).length := by
    rw [pick_map, HYS.out, HYN.out, ← HNN.out, ← HYS.out, List.length_map]
  have HPO := Lib.hid hpo
  have hll : (pick ys (livB (nts ys)) N).length ≤ N := pick_len _ _ _
  obtain ⟨A5, c5, rfl, hc5, hA5, hR5⟩ := o5.rd fL
  have HOB := Lib.hid (show ∀ ad, A5 = some ad → W1.heap.size ≤ ad.block from fun ad e => by
    subst e
    exact Nat.le_trans HB4.out.size (o5.lt rfl).1)
  have HOZ := Lib.hid (show ∀ y ∈ pick ys (livB (nts ys)) N, ∀ ad, y.A = some ad → W1.heap.size ≤ ad.block from fun y hy => HFR.out y (pick_mem _ hy))
  have HLV := Lib.hid hlv
  have HLL := Lib.hid hll
  have HC5 := Lib.hid hc5
  have HA5 := Lib.hid hA5
  have HR5 := Lib.hid hR5
  have HB5 := Lib.hid (HB4.out.trans (hb5.mono HB4.out.size))
  have HR4' := Lib.hid (HR4.out.below hb5)
  clear hpo hlv hll hc5 hA5 hR5 o5 hb5 HR4
  generalize hzs : pick ys (livB (nts ys)) N = zs at *
  generalize hM : zs.length = M at *
  have HM := Lib.hid hM
  clear hM hzs
  go_wp2_with fail
  rw [HYN.out]
  obtain ⟨S, hS⟩ : ∃ S, S = nmL (ntsL l) := ⟨_, rfl⟩
  obtain ⟨E, hE⟩ : ∃ E, E = epo (ntsL l) := ⟨_, rfl⟩
  rw [← hS, ← hE]
  obtain ⟨w6, hw6⟩ : ∃ w6, w6 = w5.alloc (.cells #[.string S, .int .u32 (E : Nat), .int .u32 0, .slice A5 M c5, .int .i64 (torn : Nat), .bool false] 195) := ⟨_, rfl⟩
  have HSS := Lib.hid hS
  have HEE := Lib.hid hE
  have HW6 := Lib.hid hw6
  have HB56 := Lib.hid (show Below w5.heap.size w5 w6 by rw [hw6]; exact (Below.refl _ _).alloc (Nat.le_refl _) _)
  have HLC := Lib.hid (fun (w1 : World) (h : Below w6.heap.size w6 w1) => (bod.boxed (w := w5) (o := .cells #[.string S, .int .u32 (E : Nat), .int .u32 0, .slice A5 M c5, .int .i64 (torn : Nat), .bool false] 195) (w1 := w1) (by rw [← hw6]; exact h)).1)
  have HL5 := Lib.hid (show w5.heap.size < w6.heap.size by rw [hw6]; simp)
  rw [← hw6]
  clear hS hE hw6
  refine (nextUID_any w6 A2 N c2 E ys (HR4'.out.below HB56.out) HYL2.out (fun y hy => (HOK.out y hy).1)).mono ?_
  rintro e w7 ⟨rfl, hb7⟩
  rw [HYN.out]
  obtain ⟨X7, hX7⟩ : ∃ X7, X7 = nxt (top E (ntsL l)) := ⟨_, rfl⟩
  rw [← hX7]
  have HX7 := Lib.hid hX7
  have HB7 := Lib.hid hb7
  have HL7 := Lib.hid (HLC.out w7 hb7)
  have c2' := cell_at (HLC.out w7 hb7) 2 _ rfl
  have f2' := frozen_of_row _ _ 2 _ _ (HLC.out w7 hb7)
  have c1' := cell_at (HLC.out w7 hb7) 1 _ rfl
  have c3' := cell_at (HLC.out w7 hb7) 3 _ rfl
  clear hX7 hb7
  have HWL := Lib.hid (Nat.lt_of_lt_of_le HL5.out HB7.out.size)
  generalize hLL : w5.heap.size = L5 at *
  have HLL5 := Lib.hid hLL
  clear hLL
  go_wp2_with fail
  obtain ⟨w8, hw8⟩ : ∃ w8, w8 = w7.setCell ⟨L5, 2, none⟩ (.int .u32 (X7 : Nat)) := ⟨_, rfl⟩
  rw [← hw8]
  have HL8 := Lib.hid (show w8.heap[L5]? = some (.cells #[.string S, .int .u32 (E : Nat), .int .u32 (X7 : Nat), .slice A5 M c5, .int .i64 (torn : Nat), .bool false] 195 (0, 0)) by rw [hw8, heap_setCell_same _ _ _ _ _ _ HL7.out]; rfl)
  have HB58 := Lib.hid (show Below L5 w5 w8 by rw [hw8]; exact ((HLL5.out ▸ HB56.out : Below L5 w5 w6).trans (HB7.out.mono (HLL5.out ▸ HB56.out.size))).setCell (Nat.le_refl _) _)
  have HL58 := Lib.hid (show L5 < w8.heap.size by rw [hw8]; simpa using HWL.out)
  clear hw8 c1' c2' c3' f2' HL7 HLC HB7 HB56
  refine (isClean_any w8 A5 M c5 E zs (HR5.out.below (by rw [HLL5.out]; exact HB58.out)) (by have h1 := HLL.out; have h2 := HYL2.out; omega)).mono ?_
  rintro e w9 ⟨rfl, hb9⟩
  rw [HLV.out]
  obtain ⟨CL, hCL⟩ : ∃ CL, CL = (cl E (lives (ntsL l))).2 := ⟨_, rfl⟩
  rw [← hCL]
  have HCL := Lib.hid hCL
  have h9 : w9.heap[L5]? = some (.cells #[.string S, .int .u32 (E : Nat), .int .u32 (X7 : Nat), .slice A5 M c5, .int .i64 (torn : Nat), .bool false] 195 (0, 0)) := by rw [hb9.block _ HL58.out]; exact HL8.out
  have hb59 : Below L5 w5 w9 := HB58.out.trans (hb9.mono (Nat.le_of_lt HL58.out))
  have hb19 : Below W1.heap.size W1 w9 := HB5.out.trans (hb59.mono (by rw [← HLL5.out]; exact HB5.out.size))
  have hLW : W.heap.size < L5 := Nat.lt_of_lt_of_le HWS.out (by rw [← HLL5.out]; exact HB5.out.size)
  have H9 := Lib.hid h9
  have HB59 := Lib.hid hb59
  have HB19 := Lib.hid hb19
  have e0 := cell_at h9 0 _ rfl
  have e1 := cell_at h9 1 _ rfl
  have e2 := cell_at h9 2 _ rfl
  have e3 := cell_at h9 3 _ rfl
  have e4 := cell_at h9 4 _ rfl
  have e5 := cell_at h9 5 _ rfl
  have g5 := frozen_of_row _ _ 5 _ _ h9
  have r0 := cell_at (HRC.out _ hb19) 0 _ rfl
  have s0 := frozen_of_row _ _ 0 _ _ (HRC.out _ hb19)
  have r1 := cell_at (HRC.out _ hb19) 1 _ rfl
  have s1 := frozen_of_row _ _ 1 _ _ (HRC.out _ hb19)
  have r2 := cell_at (HRC.out _ hb19) 2 _ rfl
  have s2 := frozen_of_row _ _ 2 _ _ (HRC.out _ hb19)
  have r3 := cell_at (HRC.out _ hb19) 3 _ rfl
  have s3 := frozen_of_row _ _ 3 _ _ (HRC.out _ hb19)
  have r4 := cell_at (HRC.out _ hb19) 4 _ rfl
  have s4 := frozen_of_row _ _ 4 _ _ (HRC.out _ hb19)
  have r5 := cell_at (HRC.out _ hb19) 5 _ rfl
  have s5 := frozen_of_row _ _ 5 _ _ (HRC.out _ hb19)
  clear hCL h9 hb59 hb19 hb9
  go_wp2_with fail
  have hW := HRC.out _ HB19.out
  have h10 : (w9.setCell ⟨L5, 5, none⟩ (.bool CL)).heap[W.heap.size]? = some (.cells #[.string ⟨#[]⟩, .int .u32 0, .int .u32 0, .slice none 0 0, .int .i64 0, .bool false] 195 (0, 0)) := by
    rw [heap_setCell_other _ _ _ _ (by show W.heap.size ≠ L5; omega)]
    exact hW
  obtain ⟨k1, k2, k3⟩ := six h10 rfl (.string S) (.int .u32 (E : Nat)) (.int .u32 (X7 : Nat)) (.slice A5 M c5) (.int .i64 (torn : Nat)) (.bool CL)
  have hb10 : Below L5 w5 (w9.setCell ⟨L5, 5, none⟩ (.bool CL)) := HB59.out.setCell (Nat.le_refl _) _
  refine bodyPost_ret (results_cell_row Tryz.results130 _ _ W.heap.size _ _ _ _ rfl k1 Tryz.underlying195 rfl (logSize _ rfl)) rfl ⟨A5, M, c5, zs, ?_, ?_, HC5.out, ?_, HA5.out, HLV.out, HPO.out, ?_⟩
  · rw [HXS.out, HSS.out, HX7.out, HCL.out, HEE.out]
  · exact ((HR5.out.below (by rw [HLL5.out]; exact hb10)).other _ k2 (fun ad e => by
      have h1 := HOB.out ad e
      have h2 := HWS.out
      omega) (fun y hy ad e _ => by
      have h1 := HOZ.out y hy ad e
      have h2 := HWS.out
      omega))
  · have h1 := HLL.out
    have h2 := HYL.out
    omega
  · exact k3 _ _ (HBW.out.trans ((HB19.out.setCell (p := ⟨L5, 5, none⟩) (by show W1.heap.size ≤ L5; rw [← HLL5.out]; exact HB5.out.size) _).mono HBW.out.size)) (Nat.le_refl _)
end Go.Proofs.YthhflkgngencdaaGreatDoor.lg
namespace Go.Proofs.YthhflkgngencdaaGreatDoor.idx
open Go.ChangeShapes Go.WideShapes Go.ChangeAt Go.RowKit
open Go.Proofs.YthhflkgngencdaaGreatDoor.row (Own Fm Fm.len boxed grown_below)
open Go.Proofs.YthhflkgngencdaaGreatDoor.lg (Y Nt cL nts)
set_option linter.unusedVariables false
set_option maxRecDepth 100000
set_option linter.unusedSimpArgs false

def eI (y : Y) : E := ⟨y.n.u, (y.p : Int)⟩
def fI (y : Y) : E := ⟨y.n.u, y.n.f⟩
theorem results_two {P : Program} {fn : Func} {p q : Tmp} {ty ty' : TypeId} (h : fn.results = #[.cell p ty, .cell q ty']) (tmps : Array Value) (w : World) (g g' : Nat) (t t' : TypeId) (cs cs' : Array Value) (fr fr' : Nat × Nat) (d d' : TypeDesc)
    (hp : tmps.getD p undef = .pointer (some ⟨g, 0, none⟩)) (hg : w.heap[g]? = some (.cells cs t fr))
    (hu : P.underlying ty = some d) (hd : (match d with | .struct _ | .array _ _ => true | _ => false) = true) (hi : (P.info? ty).map (·.size) = some cs.size)
    (hq : tmps.getD q undef = .pointer (some ⟨g', 0, none⟩)) (hg' : w.heap[g']? = some (.cells cs' t' fr'))
    (hu' : P.underlying ty' = some d') (hd' : (match d' with | .struct _ | .array _ _ => true | _ => false) = true) (hi' : (P.info? ty').map (·.size) = some cs'.size) :
    (results fn tmps).run P w = .ok (.tuple #[.agg cs, .agg cs']) w := by
  have hp' : tmps[p]?.getD undef = .pointer (some ⟨g, 0, none⟩) := by simpa using hp
  have hq' : tmps[q]?.getD undef = .pointer (some ⟨g', 0, none⟩) := by simpa using hq
  simp [results, h, hp', hq', asAddr, run_loadVar_row w g t ty cs fr d hg hu hd hi, run_loadVar_row w g' t' ty' cs' fr' d' hg' hu' hd' hi']
theorem three (W : World) (a b c : Obj) : (((W.alloc a).alloc b).alloc c).heap[W.heap.size + 1]? = some b ∧ (((W.alloc a).alloc b).alloc c).heap[W.heap.size + 1 + 1]? = some c ∧ Below W.heap.size W (((W.alloc a).alloc b).alloc c) := by
  have s1 : (W.alloc a).heap.size = W.heap.size + 1 := by simp
  have s2 : ((W.alloc a).alloc b).heap.size = W.heap.size + 1 + 1 := by simp
  refine ⟨?_, ?_, (((Below.refl _ _).alloc (Nat.le_refl _) _).alloc (by simp) _).alloc (by simp; omega) _⟩
  · rw [← s1]
    exact (Below.heap_alloc _ _ _ (by simp)).trans (heap_alloc_new (W.alloc a) b)
  · rw [← s2]
    exact heap_alloc_new ((W.alloc a).alloc b) c
/-- The index at p4 and the flags at p5, whose rows are the call's own and apart. -/
structure FS (W1 : World) (B p4 p5 : Nat) (nm : ByteArray) (e0 x0 t0 : Nat) (l1 l2 : List E) (v1 v2 : Value) (w : World) : Prop where
  hx : w.heap[p4]? = some (.cells #[.string nm, .int .u32 (e0 : Nat), .int .u32 (x0 : Nat), .int .i64 (t0 : Nat), v1] 208 (0, 0))
  hf : w.heap[p5]? = some (.cells #[.int .u32 (e0 : Nat), v2] 210 (0, 0))
  o1 : Own cE 2 B 261 w v1 l1
  o2 : Own cE 2 B 218 w v2 l2
  ap : ∀ g, v1.ownBlock = some g → v2.ownBlock ≠ some g
  be : Below W1.heap.size W1 w
  ne : p4 ≠ p5
  b4 : p4 < B
  b5 : p5 < B
  w4 : W1.heap.size ≤ p4
  w5 : W1.heap.size ≤ p5
  sz : B ≤ w.heap.size
theorem FS.below {W1 : World} {B p4 p5 : Nat} {nm : ByteArray} {e0 x0 t0 : Nat} {l1 l2 : List E} {v1 v2 : Value} {w w' : World} (h : FS W1 B p4 p5 nm e0 x0 t0 l1 l2 v1 v2 w) (hb : Below w.heap.size w w') : FS W1 B p4 p5 nm e0 x0 t0 l1 l2 v1 v2 w' :=
  ⟨(hb.block _ (Nat.lt_of_lt_of_le h.b4 h.sz)).trans h.hx, (hb.block _ (Nat.lt_of_lt_of_le h.b5 h.sz)).trans h.hf, h.o1.below hb, h.o2.below hb, h.ap, h.be.trans (hb.mono h.be.size), h.ne, h.b4, h.b5, h.w4, h.w5, Nat.le_trans h.sz hb.size⟩
theorem own_set {B b j : Nat} {E0 : TypeId} {w : World} {v u : Value} {l : List E} (h : Own cE 2 B E0 w v l) (hb : b < B) : Own cE 2 B E0 (w.setCell ⟨b, j, none⟩ u) v l :=
  h.touch ((codec.Touch.refl (fun i => i = b) w).setCell ⟨b, j, none⟩ (.inr rfl) u) (fun g e hg => by have := (h.lt e).1; omega)
theorem below_grown {W1 w w' : World} {B : Nat} {E0 : TypeId} {v : Value} {l : List E} (hb : Below W1.heap.size W1 w) (ho : Own cE 2 B E0 w v l) (hB : W1.heap.size ≤ B) (hg : w.grownBy w' v.ownBlock) : Below W1.heap.size W1 w' :=
  hb.trans ⟨hg.os, hg.tape, hg.output, hg.size, fun k hk => hg.block k (Nat.lt_of_lt_of_le hk hb.size) (fun e => by have := (ho.lt e.symm).1; omega)⟩
theorem FS.first {W1 : World} {B p4 p5 : Nat} {nm : ByteArray} {e0 x0 t0 : Nat} {l1 l1' l2 : List E} {v1 v1' v2 : Value} {w w' : World} (h : FS W1 B p4 p5 nm e0 x0 t0 l1 l2 v1 v2 w) (ho : Own cE 2 B 261 w' v1' l1') (hg : w.grownBy w' v1.ownBlock) (hat : v1'.ownBlock = v1.ownBlock ∨ ∃ g, v1'.ownBlock = some g ∧ w.heap.size ≤ g) :
    w'.heap[p4]? = some (.cells #[.string nm, .int .u32 (e0 : Nat), .int .u32 (x0 : Nat), .int .i64 (t0 : Nat), v1] 208 (0, 0)) ∧ FS W1 B p4 p5 nm e0 x0 t0 l1' l2 v1' v2 (w'.setCell ⟨p4, 4, none⟩ v1') := by
  have hne : ∀ b, b < B → w'.heap[b]? = w.heap[b]? := fun b hb => hg.block b (Nat.lt_of_lt_of_le hb h.sz) (fun e => by have := (h.o1.lt e.symm).1; omega)
  have e4 := (hne p4 h.b4).trans h.hx
  refine ⟨e4, ⟨by rw [heap_setCell_same _ _ _ _ _ _ e4]; rfl, by rw [heap_setCell_other _ _ _ _ (Ne.symm h.ne)]; exact (hne p5 h.b5).trans h.hf, own_set ho h.b4, own_set (h.o2.grown hg fun b e => h.ap b e) h.b4, fun g e => ?_, (below_grown h.be h.o1 (by have := h.w4; have := h.b4; omega) hg).setCell (p := ⟨p4, 4, none⟩) h.w4 _, h.ne, h.b4, h.b5, h.w4, h.w5, by have := h.sz; have := hg.size; simp; omega⟩⟩
  rcases hat with ha | ⟨g', ha, hg'⟩
  · exact h.ap g (ha ▸ e)
  · rw [ha] at e
    cases e
    intro e2
    have := (h.o2.lt e2).2
    omega
theorem FS.second {W1 : World} {B p4 p5 : Nat} {nm : ByteArray} {e0 x0 t0 : Nat} {l1 l2 l2' : List E} {v1 v2 v2' : Value} {w w' : World} (h : FS W1 B p4 p5 nm e0 x0 t0 l1 l2 v1 v2 w) (ho : Own cE 2 B 218 w' v2' l2') (hg : w.grownBy w' v2.ownBlock) (hat : v2'.ownBlock = v2.ownBlock ∨ ∃ g, v2'.ownBlock = some g ∧ w.heap.size ≤ g) :
    w'.heap[p5]? = some (.cells #[.int .u32 (e0 : Nat), v2] 210 (0, 0)) ∧ FS W1 B p4 p5 nm e0 x0 t0 l1 l2' v1 v2' (w'.setCell ⟨p5, 1, none⟩ v2') := by
  have hne : ∀ b, b < B → w'.heap[b]? = w.heap[b]? := fun b hb => hg.block b (Nat.lt_of_lt_of_le hb h.sz) (fun e => by have := (h.o2.lt e.symm).1; omega)
  have e5 := (hne p5 h.b5).trans h.hf
  refine ⟨e5, ⟨by rw [heap_setCell_other _ _ _ _ h.ne]; exact (hne p4 h.b4).trans h.hx, by rw [heap_setCell_same _ _ _ _ _ _ e5]; rfl, own_set (h.o1.grown hg fun b e e2 => h.ap b e2 e) h.b5, own_set ho h.b5, fun g e e2 => ?_, (below_grown h.be h.o2 (by have := h.w4; have := h.b4; omega) hg).setCell (p := ⟨p5, 1, none⟩) h.w5 _, h.ne, h.b4, h.b5, h.w4, h.w5, by have := h.sz; have := hg.size; simp; omega⟩⟩
  rcases hat with ha | ⟨g', ha, hg'⟩
  · exact h.ap g e (ha ▸ e2)
  · rw [ha] at e2
    cases e2
    have := (h.o1.lt e).2
    omega
set_option maxHeartbeats 4000000 in
theorem of_some (W : World) (nm : ByteArray) (e0 x0 : Nat) (A : Option Addr) (n c : Nat) (t0 : Nat) (zs : List Y) (hR : lg.Rd cL 6 W A n zs) (hn : n ≤ 1000000) (hnm : nm.size ≤ 100000) (hne : nm ≠ ⟨#[]⟩) :
    Calls Tryz.prog 144 #[.agg #[.string nm, .int .u32 e0, .int .u32 x0, .slice A n c, .int .i64 t0, .bool true]] W fun e w' => ∃ v1 v2, e = .returned (.tuple #[.agg #[.string nm, .int .u32 e0, .int .u32 x0, .int .i64 t0, v1], .agg #[.int .u32 e0, v2]]) ∧ Own cE 2 W.heap.size 261 w' v1 (zs.map eI) ∧ Own cE 2 W.heap.size 218 w' v2 (zs.map fI) ∧ Below W.heap.size W w' := by
  have HR := Lib.hid hR
  have hbe : (nm.toList == ([] : List UInt8)) = false := by
    have := rd.str_ne hne
    rw [ByteArray.toList_eq] at this ⊢
    exact this
  clear hR hne
  --OFSOME
  obtain ⟨W1, hW1⟩ : ∃ W1, W1 = ((W.alloc (.cells #[.string nm, .int .u32 (e0 : Nat), .int .u32 (x0 : Nat), .slice A n c, .int .i64 (t0 : Nat), .bool true] 195)).alloc (.cells #[.string ⟨#[]⟩, .int .u32 0, .int .u32 0, .int .i64 0, .slice none 0 0] 208)).alloc (.cells #[.int .u32 0, .slice none 0 0] 210) := ⟨_, rfl⟩
  obtain ⟨g1, g2, g3⟩ := three W (.cells #[.string nm, .int .u32 (e0 : Nat), .int .u32 (x0 : Nat), .slice A n c, .int .i64 (t0 : Nat), .bool true] 195 (0, 0)) (.cells #[.string ⟨#[]⟩, .int .u32 0, .int .u32 0, .int .i64 0, .slice none 0 0] 208 (0, 0)) (.cells #[.int .u32 0, .slice none 0 0] 210 (0, 0))
  have g0 : W1.heap[W.heap.size]? = some (.cells #[.string nm, .int .u32 (e0 : Nat), .int .u32 (x0 : Nat), .slice A n c, .int .i64 (t0 : Nat), .bool true] 195 (0, 0)) := by
    rw [hW1]
    exact (Below.heap_alloc _ _ _ (by simp; omega)).trans ((Below.heap_alloc _ _ _ (by simp)).trans (heap_alloc_new W _))
  rw [← hW1] at g1 g2 g3
  have HG0 := Lib.hid g0
  have HG1 := Lib.hid g1
  have HG2 := Lib.hid g2
  have HBW := Lib.hid g3
  have HB0 := Lib.hid (show W.heap.size + 1 + 1 < W1.heap.size by rw [hW1]; simp)
  have HW1 := Lib.hid hW1
  clear g0 g1 g2 g3 hW1
  go_enter Tryz.func144, Tryz.ntmps144
  go_upto_region 3 with (fail)
  rw [← HW1.out]
  generalize hr1 : W.heap.size + 1 = r1 at *
  have Hr1 := Lib.hid hr1
  clear hr1
  go_cut [4] (fun s4 wx => ∃ p, s4 = .pointer (some ⟨p, 0, none⟩) ∧ Hid (wx.heap[p]? = some (.cells #[.string nm, .int .u32 (e0 : Nat), .int .u32 (x0 : Nat), .int .i64 (t0 : Nat), .slice none 0 0] 208 (0, 0)) ∧ Below W1.heap.size W1 wx ∧ W1.heap.size ≤ p))
  case first =>
    have HD := Lib.hid (show W1.drew.heap[W.heap.size]? = some (.cells #[.string nm, .int .u32 (e0 : Nat), .int .u32 (x0 : Nat), .slice A n c, .int .i64 (t0 : Nat), .bool true] 195 (0, 0)) from HG0.out)
    have HB4 := Lib.hid (show Below W1.heap.size W1 W1.drew from codec.below_draws (Below.refl _ _) 1)
    go_wp2_with fail
    refine wp_region_noPanic ?_
    refine wp_region_held_drew (S := fun w' => w'.heap[W.heap.size]? = some (.cells #[.string nm, .int .u32 (e0 : Nat), .int .u32 (x0 : Nat), .slice A n c, .int .i64 (t0 : Nat), .bool true] 195 (0, 0))) (by kernel_rfl) HD.out (fun hHeld => ?_)
    clear HD
    generalize W1.drew = w4 at *
    refine wpAnyH_take (i := 0) (v := ?_) rfl (by kernel_rfl) (by kernel_rfl) (by kernel_rfl) (fun _ _ _ h => h) (Or.inl ⟨by kernel_rfl, ?_⟩) hHeld ?_
    rotate_left
    · (intro w' hw'; go_simp; first | done | with_reducible rfl)
    refine wpAnyH_take (i := 1) (v := ?_) rfl (by kernel_rfl) (by kernel_rfl) (by kernel_rfl) (fun _ _ _ h => h) (Or.inl ⟨by kernel_rfl, ?_⟩) hHeld ?_
    rotate_left
    · (intro w' hw'; have a0 := cell_at hw' 0 _ rfl; have a1 := cell_at hw' 1 _ rfl; have a2 := cell_at hw' 2 _ rfl; have a4 := cell_at hw' 4 _ rfl; go_simp; first | done | with_reducible rfl)
    refine wpAnyH_take (i := 3) (v := ?_) rfl (by kernel_rfl) (by kernel_rfl) (by kernel_rfl) (fun _ _ _ h => h) (Or.inl ⟨by kernel_rfl, ?_⟩) hHeld ?_
    rotate_left
    · (intro w' hw'; go_simp; first | done | with_reducible rfl)
    refine wpAnyH_take (i := 4) (v := ?_) rfl (by kernel_rfl) (by kernel_rfl) (by kernel_rfl) (fun _ _ _ h => h) (Or.inl ⟨by kernel_rfl, ?_⟩) hHeld ?_
    rotate_left
    · (intro w' hw'; have a0 := cell_at hw' 0 _ rfl; have a1 := cell_at hw' 1 _ rfl; have a2 := cell_at hw' 2 _ rfl; have a4 := cell_at hw' 4 _ rfl; go_simp; first | done | with_reducible rfl)
    refine wpAnyH_take (i := 5) (v := ?_) rfl (by kernel_rfl) (by kernel_rfl) (by kernel_rfl) (fun _ _ _ h => h) (Or.inl ⟨by kernel_rfl, ?_⟩) hHeld ?_
    rotate_left
    · (intro w' hw'; go_simp; first | done | with_reducible rfl)
    refine wpAnyH_take (i := 6) (v := ?_) rfl (by kernel_rfl) (by kernel_rfl) (by kernel_rfl) (fun _ _ _ h => h) (Or.inl ⟨by kernel_rfl, ?_⟩) hHeld ?_
    rotate_left
    · (intro w' hw'; have a0 := cell_at hw' 0 _ rfl; have a1 := cell_at hw' 1 _ rfl; have a2 := cell_at hw' 2 _ rfl; have a4 := cell_at hw' 4 _ rfl; go_simp; first | done | with_reducible rfl)
    refine wpAnyH_take (i := 7) (v := ?_) rfl (by kernel_rfl) (by kernel_rfl) (by kernel_rfl) (fun _ _ _ h => h) (Or.inl ⟨by kernel_rfl, ?_⟩) hHeld ?_
    rotate_left
    · (intro w' hw'; go_simp; first | done | with_reducible rfl)
    refine wpAnyH_take (i := 8) (v := ?_) rfl (by kernel_rfl) (by kernel_rfl) (by kernel_rfl) (fun _ _ _ h => h) (Or.inl ⟨by kernel_rfl, ?_⟩) hHeld ?_
    rotate_left
    · (intro w' hw'; have a0 := cell_at hw' 0 _ rfl; have a1 := cell_at hw' 1 _ rfl; have a2 := cell_at hw' 2 _ rfl; have a4 := cell_at hw' 4 _ rfl; go_simp; first | done | with_reducible rfl)
    refine wpAnyH_ready (rs := [2, 10]) (by kernel_rfl) (by simp) ?_
    refine AllReadyH.cons rfl (fun K hK => ?_) (AllReadyH.cons rfl (fun K hK => ?_) AllReadyH.nil)
    · go_simp
      refine (nam.clone_any w4 nm hnm).mono ?_
      rintro e w5 ⟨rfl, hb5⟩
      have hH5 := (hb5.block _ (Array.getElem?_eq_some_iff.1 hHeld).1).trans hHeld
      have HB5 := Lib.hid (HB4.out.trans (hb5.mono HB4.out.size))
      clear hb5
      go_wp2_with fail
      refine hK.out _ _ hH5 (fun _ => ?_)
      clear hK K
      refine wpAnyH_take (i := 9) (v := ?_) rfl (by kernel_rfl) (by kernel_rfl) (by kernel_rfl) (fun _ _ _ h => h) (Or.inl ⟨by kernel_rfl, ?_⟩) hH5 ?_
      rotate_left
      · (intro w' hw'; go_simp; first | done | with_reducible rfl)
      refine wpAnyH_ready (rs := [10]) (by kernel_rfl) (by simp) ?_
      refine AllReadyH.cons rfl (fun K hK => ?_) AllReadyH.nil
      go_simp
      refine hK.out _ _ ((Below.heap_alloc _ _ _ (Array.getElem?_eq_some_iff.1 hH5).1).trans hH5) (fun hH6 => ?_)
      clear hK K
      refine wpAnyH_ready (rs := [11]) (by kernel_rfl) (by simp) ?_
      refine AllReadyH.cons rfl (fun K hK => ?_) AllReadyH.nil
      go_simp
      refine hK.out _ _ ((Below.heap_alloc _ _ _ (Array.getElem?_eq_some_iff.1 hH5).1).trans hH5) (fun hH7 => ?_)
      clear hK K
      refine wpAnyH_done (by kernel_rfl) ?_ _
      refine NoPanic.normal ?_
      go_simp
      go_wp2_with fail
      go_meet
      exact ⟨w5.heap.size, rfl, Lib.hid ⟨heap_alloc_new w5 _, HB5.out.alloc HB5.out.size _, HB5.out.size⟩⟩
    · go_simp
      have hb5 : Below w4.heap.size w4 (w4.alloc (.cells #[.string ⟨#[]⟩, .int .u32 0, .int .u32 0, .int .i64 0, .slice none 0 0] 208)) := (Below.refl _ _).alloc (Nat.le_refl _) _
      have hH5 := (hb5.block _ (Array.getElem?_eq_some_iff.1 hHeld).1).trans hHeld
      have h5 := heap_alloc_new w4 (.cells #[.string ⟨#[]⟩, .int .u32 0, .int .u32 0, .int .i64 0, .slice none 0 0] 208 (0, 0))
      have HB5 := Lib.hid (HB4.out.trans (hb5.mono HB4.out.size))
      have HP5 := Lib.hid HB4.out.size
      refine hK.out _ _ hH5 (fun _ => ?_)
      clear hK K hb5
      generalize w4.alloc (.cells #[.string ⟨#[]⟩, .int .u32 0, .int .u32 0, .int .i64 0, .slice none 0 0] 208) = w5 at *
      generalize w4.heap.size = p5 at *
      refine wpAnyH_ready (rs := [2]) (by kernel_rfl) (by simp) ?_
      refine AllReadyH.cons rfl (fun K hK => ?_) AllReadyH.nil
      go_simp
      refine (nam.clone_any w5 nm hnm).mono ?_
      rintro e w6 ⟨rfl, hb6⟩
      have hH6 := (hb6.block _ (Array.getElem?_eq_some_iff.1 hH5).1).trans hH5
      have h6 := (hb6.block _ (Array.getElem?_eq_some_iff.1 h5).1).trans h5
      have HB6 := Lib.hid (HB5.out.trans (hb6.mono HB5.out.size))
      clear hb6
      go_wp2_with fail
      refine hK.out _ _ hH6 (fun _ => ?_)
      clear hK K
      refine wpAnyH_take (i := 9) (v := ?_) rfl (by kernel_rfl) (by kernel_rfl) (by kernel_rfl) (fun _ _ _ h => h) (Or.inl ⟨by kernel_rfl, ?_⟩) hH6 ?_
      rotate_left
      · (intro w' hw'; go_simp; first | done | with_reducible rfl)
      have k0 := cell_at h6 0 _ rfl
      have f0 := frozen_of_row _ _ 0 _ _ h6
      have k1 := cell_at h6 1 _ rfl
      have f1 := frozen_of_row _ _ 1 _ _ h6
      have k2 := cell_at h6 2 _ rfl
      have f2 := frozen_of_row _ _ 2 _ _ h6
      have k3 := cell_at h6 3 _ rfl
      have f3 := frozen_of_row _ _ 3 _ _ h6
      have k4 := cell_at h6 4 _ rfl
      have f4 := frozen_of_row _ _ 4 _ _ h6
      have h7 := five h6 rfl (.string nm) (.int .u32 (e0 : Nat)) (.int .u32 (x0 : Nat)) (.int .i64 (t0 : Nat)) (.slice none 0 0)
      refine wpAnyH_ready (rs := [11]) (by kernel_rfl) (by simp) ?_
      refine AllReadyH.cons rfl (fun K hK => ?_) AllReadyH.nil
      go_simp
      refine hK.out _ _ ((h7.2.1 _ (by have := HP5.out; have := HB0.out; have := Hr1.out; omega)).trans hH6) (fun hH7 => ?_)
      clear hK K
      refine wpAnyH_done (by kernel_rfl) ?_ _
      refine NoPanic.normal ?_
      go_simp
      clear k0 k1 k2 k3 k4 f0 f1 f2 f3 f4
      go_wp2_with fail
      go_meet
      exact ⟨p5, rfl, Lib.hid ⟨h7.1, h7.2.2 _ _ HB6.out HP5.out, HP5.out⟩⟩
  case rest =>
    obtain ⟨p4, rfl, HX⟩ := hcut
    have hlog := (HX.out.2.1.block _ (Array.getElem?_eq_some_iff.1 HG0.out).1).trans HG0.out
    have l1 := cell_at hlog 1 _ rfl
    have l3 : (wc.alloc (.cells #[.int .u32 (e0 : Nat), .slice none 0 0] 210)).cell? ⟨W.heap.size, 3, none⟩ = some (.slice A n c) := Lib.cell?_alloc_some _ (cell_at hlog 3 _ rfl)
    have hxp : p4 < wc.heap.size := (Array.getElem?_eq_some_iff.1 HX.out.1).1
    have HFS0 : Hid (FS W1 (wc.heap.size + 1) p4 wc.heap.size nm e0 x0 t0 [] [] (.slice none 0 0) (.slice none 0 0) (wc.alloc (.cells #[.int .u32 (e0 : Nat), .slice none 0 0] 210))) := Lib.hid
      ⟨(Below.heap_alloc _ _ _ hxp).trans HX.out.1, heap_alloc_new wc _, Own.nil _ _ _ _ _, Own.nil _ _ _ _ _, (fun g e => by cases e), HX.out.2.1.alloc HX.out.2.1.size _, by omega, by omega, by omega, HX.out.2.2, HX.out.2.1.size, by simp⟩
    clear hlog hxp
    go_wp2_with fail
    generalize wc.alloc (.cells #[.int .u32 (e0 : Nat), .slice none 0 0] 210) = wd at *
    have Hwc := Lib.hid (show W1.heap.size ≤ wc.heap.size from HX.out.2.1.size)
    clear l1 l3
    generalize wc.heap.size = p5 at *
    clear HX
    go_loopw [34] (fun i wr => ∃ k : Nat, k ≤ n ∧ i = .int .i64 k ∧ Hid (∃ v1 v2, FS W1 (p5 + 1) p4 p5 nm e0 x0 t0 ((zs.take k).map eI) ((zs.take k).map fI) v1 v2 wr)) (fun i _ => n - (intOf i).toNat)
    case atStart => exact ⟨0, Nat.zero_le _, rfl, Lib.hid ⟨_, _, HFS0.out⟩⟩
    case round =>
      obtain ⟨k, hk, rfl, HS⟩ := hrel
      obtain ⟨v1, v2, hs⟩ := HS.out
      by_cases hlt : k < n
      · obtain ⟨b, o, ⟨⟨tk, te, ts, tu, td, tf, to_⟩, a, A', m', c'⟩, rfl, hy, c0, c1, c2, c3, c4, c5, -⟩ := (HR.out.below (HBW.out.trans (hs.be.mono HBW.out.size))).at6 k hlt
        simp only at c0 c1 c2 c3 c4 c5
        have hlt' : (k : Int) < (n : Int) := by omega
        have HT1 := Lib.hid (take_next (map_at eI hy))
        have HT2 := Lib.hid (take_next (map_at fI hy))
        simp only [eI, fI] at HT1 HT2
        obtain ⟨cs, hcs⟩ : ∃ cs : Array Value, cs = #[.int .u32 (tu : Nat), .int .i64 td, .int .i64 tf, .slice A' m' c', .int .u32 (te : Nat), .int .i64 (a : Nat)] := ⟨_, rfl⟩
        have HSa := Lib.hid (hs.below ((Below.refl _ wr).alloc (Nat.le_refl _) (.cells cs 259)))
        have hcx := cell_at HSa.out.hx 4 _ rfl
        have HLV := Lib.hid (heap_alloc_new wr (.cells cs 259 (0, 0)))
        have HLt := Lib.hid (show ∀ g, v1.ownBlock = some g → g < wr.heap.size from fun g e => (hs.o1.lt e).2)
        have HP4 := Lib.hid (show p4 < wr.heap.size from Nat.lt_of_lt_of_le hs.b4 hs.sz)
        have HL1 : Hid (((zs.take k).map eI).length ≤ 20000000) := Lib.hid (by rw [List.length_map, List.length_take]; omega)
        have HL2 : Hid (((zs.take k).map fI).length ≤ 20000000) := Lib.hid (by rw [List.length_map, List.length_take]; omega)
        have HCS := Lib.hid hcs
        rw [hcs] at hcx
        clear hy hs HS hcs
        go_wp2_with (first
          | (at_builtin; rw [← HCS.out]; refine row.wpList_append_own fE (by decide) (by decide) (by_ := 16) (by decide) (z := .agg #[.int .u32 0, .int .i64 0]) rfl rfl (.tmp 39) (.tmp 46) 206 261 rfl Tryz.underlying206 infoE (p5 + 1) v1 _ rfl HSa.out.o1 HSa.out.sz HL1.out ⟨tu, (a : Int)⟩ (0, 0) _ (by simp) rfl _ rfl ?_; intro v1n w7 ho7 hg7 hat7; obtain ⟨A7, m7, k7, hv7⟩ : ∃ A7 m7 k7, v1n = .slice A7 m7 k7 := (by obtain ⟨A7, k7, hv7, -⟩ := ho7.rd fE; exact ⟨_, _, _, hv7⟩); subst hv7; obtain ⟨e4, fs7⟩ := HSa.out.first ho7 hg7 hat7; have s4 := cell_at e4 4 v1 rfl; have t4 := frozen_of_row _ _ 4 _ _ e4; have HF7 := Lib.hid fs7; have y1 := cell_at fs7.hf 1 _ rfl; have hl7 : (w7.setCell ⟨p4, 4, none⟩ (.slice A7 m7 k7)).heap[wr.heap.size]? = some (.cells cs 259 (0, 0)) := (by rw [heap_setCell_other _ _ _ _ (by have := HP4.out; show wr.heap.size ≠ p4; omega), hg7.block _ (by simp) (fun e => by have := HLt.out _ e.symm; omega)]; exact HLV.out); rw [HCS.out] at hl7; have z0 := cell_at hl7 0 _ rfl; have z2 := cell_at hl7 2 _ rfl; clear ho7 hg7 hat7 e4 fs7 hl7 hcx)
          | (at_builtin; refine row.wpList_append_own fE (by decide) (by decide) (by_ := 16) (by decide) (z := .agg #[.int .u32 0, .int .i64 0]) rfl rfl (.tmp 50) (.tmp 58) 170 218 rfl Tryz.underlying170 infoK (p5 + 1) v2 _ rfl HF7.out.o2 HF7.out.sz HL2.out ⟨tu, tf⟩ (0, 0) _ (by simp) rfl _ rfl ?_; intro v2n w9 ho9 hg9 hat9; obtain ⟨A9, m9, k9, hv9⟩ : ∃ A9 m9 k9, v2n = .slice A9 m9 k9 := (by obtain ⟨A9, k9, hv9, -⟩ := ho9.rd fE; exact ⟨_, _, _, hv9⟩); subst hv9; obtain ⟨e5, fs9⟩ := HF7.out.second ho9 hg9 hat9; have s5 := cell_at e5 1 v2 rfl; have t5 := frozen_of_row _ _ 1 _ _ e5; have HF9 := Lib.hid (show ∃ v1 v2, FS W1 (p5 + 1) p4 p5 nm e0 x0 t0 ((zs.take (k + 1)).map eI) ((zs.take (k + 1)).map fI) v1 v2 _ from ⟨_, _, by rw [List.map_take, List.map_take, HT1.out, HT2.out, ← List.map_take, ← List.map_take]; exact fs9⟩); clear ho9 hg9 hat9 e5 fs9 s4 t4 y1 z0 z2))
        go_roundw
        case rel => first | exact ⟨k + 1, by omega, by go_num, HF9⟩ | ((repeat apply Exists.intro); exact ⟨⟨k + 1, by omega, by go_num, HF9⟩, rfl⟩)
        case measure => (show n - ((k : Int) + 1).toNat < n - k; omega)
      · obtain rfl : k = n := by omega
        obtain ⟨A1, k1, hv1, -, -, -⟩ := hs.o1.rd fE
        obtain ⟨A2, k2, hv2, -, -, -⟩ := hs.o2.rd fE
        generalize ((zs.take k).map eI).length = m1 at hv1
        generalize ((zs.take k).map fI).length = m2 at hv2
        subst hv1 hv2
        have hz : zs.take k = zs := List.take_of_length_le (by rw [HR.out.1]; omega)
        rw [hz] at hs
        have HF := Lib.hid hs
        have h9 := (hs.be.block _ (show r1 < W1.heap.size by have := HB0.out; omega)).trans HG1.out
        have h10 := (hs.be.block _ HB0.out).trans HG2.out
        have HNE := Lib.hid (show r1 < p4 ∧ r1 + 1 < p4 ∧ r1 < p5 ∧ r1 + 1 < p5 from by have := HB0.out; have := hs.w4; have := hs.w5; omega)
        have q0 := cell_at h9 0 _ rfl
        have u0 := frozen_of_row _ _ 0 _ _ h9
        have q1 := cell_at h9 1 _ rfl
        have u1 := frozen_of_row _ _ 1 _ _ h9
        have q2 := cell_at h9 2 _ rfl
        have u2 := frozen_of_row _ _ 2 _ _ h9
        have q3 := cell_at h9 3 _ rfl
        have u3 := frozen_of_row _ _ 3 _ _ h9
        have q4 := cell_at h9 4 _ rfl
        have u4 := frozen_of_row _ _ 4 _ _ h9
        have q5 := cell_at h10 0 _ rfl
        have u5 := frozen_of_row _ _ 0 _ _ h10
        have q6 := cell_at h10 1 _ rfl
        have u6 := frozen_of_row _ _ 1 _ _ h10
        have HD := Lib.hid (show wr.drew.heap[p4]? = some (.cells #[.string nm, .int .u32 (e0 : Nat), .int .u32 (x0 : Nat), .int .i64 (t0 : Nat), .slice A1 m1 k1] 208 (0, 0)) ∧ wr.drew.heap[p5]? = some (.cells #[.int .u32 (e0 : Nat), .slice A2 m2 k2] 210 (0, 0)) ∧ wr.drew.heap[r1]? = some (.cells #[.string ⟨#[]⟩, .int .u32 0, .int .u32 0, .int .i64 0, .slice none 0 0] 208 (0, 0)) ∧ wr.drew.heap[r1 + 1]? = some (.cells #[.int .u32 0, .slice none 0 0] 210 (0, 0)) from ⟨hs.hx, hs.hf, h9, h10⟩)
        have HFd := Lib.hid (hs.below (codec.below_draws (Below.refl _ _) 1))
        change Hid (FS W1 (p5 + 1) p4 p5 nm e0 x0 t0 (zs.map eI) (zs.map fI) (.slice A1 m1 k1) (.slice A2 m2 k2) wr.drew) at HFd
        clear hs HS hz h9 h10 HF q0 q1 q2 q3 q4 q5 q6 u0 u1 u2 u3 u4 u5 u6
        go_wp2_with fail
        refine wp_region_noPanic ?_
        refine wp_region_held_drew (S := fun w' => w'.heap[p4]? = some (.cells #[.string nm, .int .u32 (e0 : Nat), .int .u32 (x0 : Nat), .int .i64 (t0 : Nat), .slice A1 m1 k1] 208 (0, 0)) ∧ w'.heap[p5]? = some (.cells #[.int .u32 (e0 : Nat), .slice A2 m2 k2] 210 (0, 0))) (by kernel_rfl) ⟨HD.out.1, HD.out.2.1⟩ (fun hHeld => ?_)
        generalize wr.drew = wq at *
        refine wpAnyH_take (i := 0) (v := ?_) rfl (by kernel_rfl) (by kernel_rfl) (by kernel_rfl) (fun _ _ _ h => h) (Or.inl ⟨by kernel_rfl, ?_⟩) hHeld ?_
        rotate_left
        · (intro w' hw'; have a0 := cell_at hw'.1 0 _ rfl; have a1 := cell_at hw'.1 1 _ rfl; have a2 := cell_at hw'.1 2 _ rfl; have a3 := cell_at hw'.1 3 _ rfl; have a4 := cell_at hw'.1 4 _ rfl; go_simp; first | done | with_reducible rfl)
        refine wpAnyH_take (i := 1) (v := ?_) rfl (by kernel_rfl) (by kernel_rfl) (by kernel_rfl) (fun _ _ _ h => h) (Or.inl ⟨by kernel_rfl, ?_⟩) hHeld ?_
        rotate_left
        · (intro w' hw'; have a5 := cell_at hw'.2 0 _ rfl; have a6 := cell_at hw'.2 1 _ rfl; go_simp; first | done | with_reducible rfl)
        obtain ⟨-, -, h9, h10⟩ := HD.out
        have q0 := cell_at h9 0 _ rfl
        have u0 := frozen_of_row _ _ 0 _ _ h9
        have q1 := cell_at h9 1 _ rfl
        have u1 := frozen_of_row _ _ 1 _ _ h9
        have q2 := cell_at h9 2 _ rfl
        have u2 := frozen_of_row _ _ 2 _ _ h9
        have q3 := cell_at h9 3 _ rfl
        have u3 := frozen_of_row _ _ 3 _ _ h9
        have q4 := cell_at h9 4 _ rfl
        have u4 := frozen_of_row _ _ 4 _ _ h9
        have h7 := five h9 rfl (.string nm) (.int .u32 (e0 : Nat)) (.int .u32 (x0 : Nat)) (.int .i64 (t0 : Nat)) (.slice A1 m1 k1)
        refine wpAnyH_ready (rs := [2]) (by kernel_rfl) (by simp) ?_
        refine AllReadyH.cons rfl (fun K hK => ?_) AllReadyH.nil
        go_simp
        refine hK.out _ _ ⟨(h7.2.1 _ (by have := HNE.out; omega)).trans hHeld.1, (h7.2.1 _ (by have := HNE.out; omega)).trans hHeld.2⟩ (fun hH1 => ?_)
        clear hK K q0 q1 q2 q3 q4 u0 u1 u2 u3 u4
        have h11 := (h7.2.1 (r1 + 1) (by omega)).trans h10
        obtain ⟨wz, hwz⟩ : ∃ wz, wz = ((((wq.setCell ⟨r1, 0, none⟩ (.string nm)).setCell ⟨r1, 1, none⟩ (.int .u32 (e0 : Nat))).setCell ⟨r1, 2, none⟩ (.int .u32 (x0 : Nat))).setCell ⟨r1, 3, none⟩ (.int .i64 (t0 : Nat))).setCell ⟨r1, 4, none⟩ (.slice A1 m1 k1) := ⟨_, rfl⟩
        rw [← hwz] at h7 h11 hH1 ⊢
        clear hwz
        have q5 := cell_at h11 0 _ rfl
        have u5 := frozen_of_row _ _ 0 _ _ h11
        have q6 := cell_at h11 1 _ rfl
        have u6 := frozen_of_row _ _ 1 _ _ h11
        have h8 := twoC h11 rfl (.int .u32 (e0 : Nat)) (.slice A2 m2 k2)
        refine wpAnyH_ready (rs := [3]) (by kernel_rfl) (by simp) ?_
        refine AllReadyH.cons rfl (fun K hK => ?_) AllReadyH.nil
        go_simp
        refine hK.out _ _ ⟨(h8.2.1 _ (by have := HNE.out; omega)).trans hH1.1, (h8.2.1 _ (by have := HNE.out; omega)).trans hH1.2⟩ (fun hH2 => ?_)
        clear hK K q5 q6 u5 u6
        refine wpAnyH_done (by kernel_rfl) ?_ _
        refine NoPanic.normal ?_
        go_simp
        go_wp2_with fail
        have hbase : W.heap.size ≤ p5 + 1 := by have := HBW.out.size; have := HFd.out.w5; omega
        have hr1 : r1 ≥ W.heap.size := by have := Hr1.out; omega
        have hpp : ∀ g, p5 + 1 ≤ g → ¬ g = r1 ∧ ¬ g = r1 + 1 := fun g hg => by have := HNE.out; omega
        have o1 := own_other (own_other (own_mono HFd.out.o1 (Nat.le_refl _)) h7.2.1 (fun g e => (hpp g (HFd.out.o1.lt e).1).1)) h8.2.1 (fun g e => (hpp g (HFd.out.o1.lt e).1).2)
        have o2 := own_other (own_other (own_mono HFd.out.o2 (Nat.le_refl _)) h7.2.1 (fun g e => (hpp g (HFd.out.o2.lt e).1).1)) h8.2.1 (fun g e => (hpp g (HFd.out.o2.lt e).1).2)
        have hbel := h8.2.2 _ _ (h7.2.2 _ _ (HBW.out.trans (HFd.out.be.mono HBW.out.size)) hr1) (by omega)
        exact bodyPost_ret (results_two Tryz.results144 _ _ r1 (r1 + 1) _ _ _ _ _ _ _ _ rfl ((h8.2.1 r1 (by omega)).trans h7.1) Tryz.underlying208 rfl (sizeX _ rfl) rfl h8.1 Tryz.underlying210 rfl (sizeF _ rfl)) rfl ⟨.slice A1 m1 k1, .slice A2 m2 k2, rfl, own_mono o1 hbase, own_mono o2 hbase, hbel⟩
end Go.Proofs.YthhflkgngencdaaGreatDoor.idx
