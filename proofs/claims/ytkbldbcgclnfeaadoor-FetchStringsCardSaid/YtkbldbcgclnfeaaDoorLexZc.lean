/- Tokens, as the program reads them. -/
import Derived.Test.YtkbldbcgclnfeaaDoorLexZb
namespace Go.Proofs.YtkbldbcgclnfeaaDoor.lx
open Go.ChangeShapes Go.WideShapes Go.ChangeAt Go.RowKit
open Go.Proofs.YtkbldbcgclnfeaaDoor.codec (Bytes vals)
open Go.Proofs.YtkbldbcgclnfeaaDoor.row
set_option linter.unusedVariables false
set_option maxRecDepth 100000
set_option linter.unusedSimpArgs false

/-- What reading tokens answers. -/
def TokAns (W : World) (o : Option (List Tk)) (e : Ending) (w' : World) : Prop :=
  Below W.heap.size W w' ∧ ((o = none ∧ e = .returned (.tuple #[.slice none 0 0, .bool false])) ∨ ∃ l v, o = some l ∧ e = .returned (.tuple #[v, .bool true]) ∧ Own cT 2 W.heap.size 29 w' v l)
/-- What has been read, and what is left. -/
def TS (W : World) (b : List Nat) (acc : List Tk) (o : Int) (r : List Nat) (R : Option Addr) (m d : Nat) (v : Value) (w : World) : Prop :=
  Own cT 2 W.heap.size 29 w v acc ∧ Below W.heap.size W w ∧ Sl W R m d r ∧ m ≤ 1000000 ∧ (∃ f, m ≤ f ∧ tokF f acc o r = toks b) ∧ 0 ≤ o ∧ o ≤ acc.length ∧ acc.length ≤ 200
theorem tokF_next {f : Nat} {acc : List Tk} {o : Int} {r : List Nat} (hf : r.length ≤ f) (hr : 0 < r.length) : tokF f acc o r = match gap acc r with
    | none => none
    | some b => if acc.length = 200 then none else match cutTok b with
      | none => none
      | some (t, c) => if o + opens t.k < 0 then none else tokF (f - 1) (acc ++ [t]) (o + opens t.k) c := by
  cases r with
  | nil => simp at hr
  | cons x c =>
    cases f with
    | zero => simp at hf
    | succ g => rw [tokF]; rfl
theorem opens_le (k : Int) : -1 ≤ opens k ∧ opens k ≤ 1 := by
  unfold opens
  split
  · omega
  · split <;> omega
set_option maxHeartbeats 8000000 in
theorem tokens_any (W : World) (A : Option Addr) (n c : Nat) (b : List Nat) (hS : Sl W A n c b) (hn : n ≤ 1000000) (hr : Room W) :
    Calls Tryd.prog 6 #[.slice A n c] W fun e w' => TokAns W (toks b) e w' := by
  have H0 := Lib.hid (show TS W b [] 0 b A n c (.slice none 0 0) W from ⟨Own.nil _ _ _ _ _, Below.refl _ _, hS, hn, ⟨b.length, by rw [hS.1.1]; exact Nat.le_refl _, rfl⟩, Int.le_refl _, by simp, by simp⟩)
  have HRm := Lib.hid hr
  clear hS hr
  go_enter Tryd.func6, Tryd.ntmps6
  go_wp2
  go_loopw [0, 4, 5] (fun x v y wr => ∃ (acc : List Tk) (o : Int) (r : List Nat) (R : Option Addr) (m d : Nat), x = .slice R m d ∧ y = .int .i64 o ∧ Hid (TS W b acc o r R m d v wr)) (fun x _ _ _ => sliceLen x)
  case atStart => exact ⟨[], 0, b, A, n, c, rfl, rfl, H0⟩
  case round =>
    obtain ⟨acc, o, r, R, m, d, rfl, rfl, HT⟩ := hrel
    obtain ⟨hO, hB, hSW, hm, ⟨f, hf, hfu⟩, ho0, ho1, hacc⟩ := HT.out
    have hSr := hSW.below hB
    have HSW := Lib.hid hSW
    clear hSW
    have hlen := hSr.1.1
    by_cases hm0 : m = 0
    · obtain rfl : r = [] := List.eq_nil_of_length_eq_zero (by omega)
      have q0 : decide (0 < m) = false := decide_eq_false (by omega)
      have hz : toks b = if 0 < o then none else some acc := by
        rw [← hfu]
        cases f <;> rw [tokF]
      by_cases hop : 0 < o
      · rw [if_pos hop] at hz
        have q1 : decide (0 < o) = true := decide_eq_true hop
        have HZ := Lib.hid (show TokAns W (toks b) (.returned (.tuple #[.slice none 0 0, .bool false])) wr from ⟨hB, .inl ⟨hz, rfl⟩⟩)
        clear hO hB hSr hm hf hfu ho0 ho1 hacc hlen hm0 hz hop
        go_wp2_with fail
        go_ret2
        exact HZ.out
      · rw [if_neg hop] at hz
        have q1 : decide (0 < o) = false := decide_eq_false hop
        have HZ := Lib.hid (show TokAns W (toks b) (.returned (.tuple #[u4, .bool true])) wr from ⟨hB, .inr ⟨acc, u4, hz, rfl, hO⟩⟩)
        clear hO hB hSr hm hf hfu ho0 ho1 hacc hlen hm0 hz hop
        go_wp2_with fail
        go_ret2
        exact HZ.out
    · have q0 : decide (0 < m) = true := decide_eq_true (by omega)
      obtain ⟨AV, cv, rfl, hncv, hAV, hRd⟩ := hO.rd fT
      obtain ⟨nv, hnv⟩ : ∃ nv, nv = acc.length := ⟨_, rfl⟩
      rw [← hnv] at hO hRd hncv ⊢
      have HGap := Lib.hid (cutGap_any wr AV nv cv acc (hnv ▸ hRd) (by omega) R m d r hSr (by omega))
      unfold GapAns at HGap
      have hnx := tokF_next (acc := acc) (o := o) (by rw [hlen]; exact hf) (by omega : 0 < r.length)
      rw [hfu] at hnx
      have HNx := Lib.hid hnx
      have HO := Lib.hid hO
      have HB := Lib.hid hB
      have HSr := Lib.hid hSr
      have HX := Lib.hid (And.intro hm (And.intro hf (And.intro ho0 (And.intro ho1 (And.intro hacc (And.intro hlen hnv))))))
      have hnv2 : nv ≤ 200 := by omega
      clear hO hB hSr hm hf hfu ho0 ho1 hacc hlen hncv hAV hRd hnv hnx
      cases hgap : gap acc r with
      | none =>
        have hz : toks b = none := by rw [HNx.out, hgap]
        rw [hgap] at HGap
        simp only [Option.isSome_none] at HGap
        have HZ := Lib.hid hz
        clear hz hgap hm0
        go_wp2_with fail
        refine HGap.out.mono ?_
        rintro e w2 ⟨hb2, R2, m2, d2, rfl, -⟩
        have HB2 := Lib.hid (HB.out.trans (hb2.mono HB.out.size))
        clear hb2
        go_wp2_with fail
        go_ret2
        exact ⟨HB2.out, .inl ⟨HZ.out, rfl⟩⟩
      | some b' =>
        have hz := HNx.out
        rw [hgap] at hz HGap
        simp only [Option.isSome_some] at hz HGap
        have hgl := gap_len hgap
        have HGl := Lib.hid hgl
        by_cases h200 : nv = 200
        · rw [if_pos (by rw [← HX.out.2.2.2.2.2.2]; exact h200)] at hz
          have q2 : ((nv : Int) == 200) = true := by rw [beq_iff_eq]; omega
          have HZ := Lib.hid hz
          clear hz hgap hm0 h200 hgl
          go_wp2_with fail
          refine HGap.out.mono ?_
          rintro e w2 ⟨hb2, R2, m2, d2, rfl, -⟩
          have HB2 := Lib.hid (HB.out.trans (hb2.mono HB.out.size))
          clear hb2
          go_wp2_with fail
          go_ret2
          exact ⟨HB2.out, .inl ⟨HZ.out, rfl⟩⟩
        · rw [if_neg (by rw [← HX.out.2.2.2.2.2.2]; exact h200)] at hz
          have q2 : ((nv : Int) == 200) = false := by rw [beq_eq_false_iff_ne]; omega
          have HZ := Lib.hid hz
          have H2 := Lib.hid h200
          clear hz hgap hm0 h200 hgl
          go_wp2_with fail
          refine HGap.out.mono ?_
          rintro e w2 ⟨hb2, R2, m2, d2, rfl, hans⟩
          have hS2 := hans b' rfl w2 (HSr.out.below hb2)
          have HB2 := Lib.hid (HB.out.trans (hb2.mono HB.out.size))
          have HO2 := Lib.hid (HO.out.below hb2)
          obtain ⟨tb, htb⟩ : ∃ tb, tb = w2.heap.size := ⟨_, rfl⟩
          obtain ⟨W3, hW3⟩ : ∃ W3, W3 = w2.alloc (.cells #[.int .i64 0, .string ⟨#[]⟩] 29) := ⟨_, rfl⟩
          have hb3 : Below w2.heap.size w2 W3 := by rw [hW3]; exact (Below.refl _ _).alloc (Nat.le_refl _) _
          have ht3 : W3.heap[tb]? = some (.cells #[.int .i64 0, .string ⟨#[]⟩] 29 (0, 0)) := by rw [hW3, htb]; exact heap_alloc_new _ _
          have hm2 : m2 ≤ m := by
            have h1 := hS2.1.1
            have h2 := HGl.out.1
            have h3 := HX.out.2.2.2.2.2.1
            omega
          have HM2 := Lib.hid hm2
          have hS3 : Sl W3 R2 m2 d2 b' := hS2.below hb3
          have HCT := Lib.hid (cutToken_any W3 R2 m2 d2 b' hS3 (by have := HX.out.1; omega) ((HRm.out.below HB2.out).below hb3))
          unfold CutAns at HCT
          have HAn2 := Lib.hid (hans b' rfl)
          have HS3 := Lib.hid hS3
          have HB3 := Lib.hid (HB2.out.trans (hb3.mono HB2.out.size))
          have HO3 := Lib.hid (HO2.out.below hb3)
          have HT3 := Lib.hid ht3
          have HTb := Lib.hid htb
          have HW3 := Lib.hid hW3
          clear hb2 hans hS2 htb hW3 hb3 ht3 hm2 hS3
          go_wp2_with fail
          rw [← HW3.out, ← HTb.out]
          refine HCT.out.mono ?_
          rintro e w4 ⟨hb4, k, s, R4, m4, d4, rfl, hans4⟩
          have ht4 := (hb4.block tb (Array.getElem?_eq_some_iff.1 HT3.out).1).trans HT3.out
          have f0 := cell_at ht4 0 (.int .i64 0) rfl
          have f1 := cell_at ht4 1 (.string ⟨#[]⟩) rfl
          have g0 := frozen_of_row _ _ 0 _ _ ht4
          have g1 := frozen_of_row _ _ 1 _ _ ht4
          have lt4 := (Array.getElem?_eq_some_iff.1 ht4).1
          obtain ⟨W5, hW5⟩ : ∃ W5, W5 = (w4.setCell ⟨tb, 0, none⟩ (.int .i64 k)).setCell ⟨tb, 1, none⟩ (.string s) := ⟨_, rfl⟩
          obtain ⟨k1, k2, k3⟩ := two ht4 rfl (.int .i64 k) (.string s)
          rw [← hW5] at k1 k2 k3
          have hb4' := HB3.out.trans (hb4.mono HB3.out.size)
          have htbW : W.heap.size ≤ tb := by rw [HTb.out]; exact HB2.out.size
          have hb5 : Below W.heap.size W W5 := k3 _ _ hb4' htbW
          have hb5' : Below tb w2 W5 := by
            have h1 : Below tb w2 W3 := by
              rw [HW3.out, HTb.out]
              exact (Below.refl _ _).alloc (Nat.le_refl _) _
            have h2 : Below tb W3 w4 := hb4.mono (Nat.le_of_lt (Array.getElem?_eq_some_iff.1 HT3.out).1)
            exact k3 _ _ (h1.trans h2) (Nat.le_refl _)
          have hO5 : Own cT 2 W.heap.size 29 W5 (.slice AV nv cv) acc := HO2.out.below (by rw [HTb.out] at hb5'; exact hb5')
          have HB5 := Lib.hid hb5
          have HO5 := Lib.hid hO5
          have HT5 := Lib.hid k1
          have HW5 := Lib.hid hW5
          have HAns := Lib.hid hans4
          have HRm5 := Lib.hid (HRm.out.below (hb5.mono (Nat.le_refl _)))
          clear hb4 ht4 k1 k2 k3 hb4' htbW hb5 hb5' hO5 hW5 hans4
          cases hcut : cutTok b' with
          | none =>
            have hz := HZ.out
            rw [hcut] at hz
            have HZ2 := Lib.hid hz
            rw [Option.isSome_none]
            clear hz hcut
            go_wp2_with fail
            rw [← HW5.out]
            go_ret2
            exact ⟨HB5.out, .inl ⟨HZ2.out, rfl⟩⟩
          | some pr =>
            obtain ⟨tk, cr⟩ := pr
            have hz := HZ.out
            rw [hcut] at hz
            simp only at hz
            obtain ⟨hk, hs, hR4⟩ := HAns.out tk cr hcut
            have hcl := cutTok_len b' tk cr hcut
            have hS4 := hR4 _ (HS3.out.below (show Below W3.heap.size W3 W3 from Below.refl _ _))
            rw [Option.isSome_some]
            rw [← hk] at hz
            obtain ⟨pk, hpk⟩ : ∃ pk, pk = opens k := ⟨_, rfl⟩
            have HOp := Lib.hid (opens_any W5 k s)
            rw [← hpk] at HOp hz
            have hpb := opens_le k
            rw [← hpk] at hpb
            obtain ⟨o2, ho2⟩ : ∃ o2, o2 = o + pk := ⟨_, rfl⟩
            rw [← ho2] at hz
            have e1 : IntKind.i64.wrap (o + pk) = o2 := (IntWalk.i64_in _ (by have := HX.out.2.2.1; have := HX.out.2.2.2.1; have := HX.out.2.2.2.2.1; omega)).trans ho2.symm
            have HK := Lib.hid (And.intro hk (And.intro hs (And.intro hR4 (And.intro hcl (And.intro hpb ho2)))))
            clear hk hs hR4 hcl hS4 hpk hpb ho2 hcut
            by_cases hneg : o2 < 0
            · rw [if_pos hneg] at hz
              have HZ2 := Lib.hid hz
              have q3 : decide (o2 < 0) = true := decide_eq_true hneg
              clear hz hneg
              go_wp2_with fail
              rw [← HW5.out]
              refine HOp.out.mono ?_
              rintro e w6 ⟨rfl, hb6⟩
              have HB6 := Lib.hid (HB5.out.trans (hb6.mono HB5.out.size))
              clear hb6
              go_wp2_with fail
              go_ret2
              exact ⟨HB6.out, .inl ⟨HZ2.out, rfl⟩⟩
            · rw [if_neg hneg] at hz
              have HZ2 := Lib.hid hz
              have q3 : decide (o2 < 0) = false := decide_eq_false hneg
              have HNeg := Lib.hid hneg
              clear hz hneg
              go_wp2_with fail
              rw [← HW5.out]
              refine HOp.out.mono ?_
              rintro e w6 ⟨rfl, hb6⟩
              have ht6 := (hb6.block tb (Array.getElem?_eq_some_iff.1 HT5.out).1).trans HT5.out
              have i0 := cell_at ht6 0 (.int .i64 k) rfl
              have i1 := cell_at ht6 1 (.string s) rfl
              have lt6 := (Array.getElem?_eq_some_iff.1 ht6).1
              have HB6 := Lib.hid (HB5.out.trans (hb6.mono HB5.out.size))
              have HO6 := Lib.hid (HO5.out.below hb6)
              have HN := Lib.hid (show acc.length ≤ 20000000 by have := HX.out.2.2.2.2.1; omega)
              have HLc := Lib.hid (show (#[.int .i64 k, .string s] : Array Value) = (cT tk).toArray from by
                rw [HK.out.1, HK.out.2.1]
                rfl)
              have HEnd := Lib.hid (fun (v1 : Value) (w7 : World) (ho : Own cT 2 W.heap.size 29 w7 v1 (acc ++ [tk])) (hg : w6.grownBy w7 (Value.slice AV nv cv).ownBlock) => (show TS W b (acc ++ [tk]) o2 cr R4 m4 d4 v1 w7 ∧ m4 < m from by
                have hbW := grown_below HB6.out HO6.out hg
                obtain ⟨hk, hs, hR4, hcl, hpb, ho2⟩ := HK.out
                obtain ⟨x1, x2, x3, x4, x5, x6, x7⟩ := HX.out
                have hS4 := hR4 W (HAn2.out W HSW.out)
                have hm4 := hS4.1.1
                have hgl := HGl.out.1
                have hnv200 := H2.out
                have hz := HZ2.out
                refine ⟨⟨ho, hbW, hS4, by omega, ⟨f - 1, by omega, hz.symm⟩, by have := HNeg.out; omega, ?_, ?_⟩, by omega⟩
                · rw [List.length_append, List.length_singleton]
                  omega
                · rw [List.length_append, List.length_singleton]
                  omega))
              clear hb6 ht6 f0 f1 g0 g1 lt4
              go_wp2_with (at_builtin; refine row.wpList_append_own fT (by decide) (by decide) (by_ := 24) (by decide) (z := .agg #[.int .i64 0, .string ⟨#[]⟩]) rfl rfl (.tmp 39) (.tmp 41) 24 29 rfl Tryd.underlying24 infoT W.heap.size (.slice AV nv cv) acc rfl HO6.out HB6.out.size HN.out tk (0, 0) _ (by simp) rfl _ HLc.out ?_; intro v1 w7 ho hg h3; have HS1 := Lib.hid (HEnd.out v1 w7 ho hg); clear ho hg h3)
              go_roundw
              case rel => first | exact ⟨_, o2, cr, R4, m4, d4, rfl, rfl, Lib.hid HS1.out.1⟩ | ((repeat apply Exists.intro); exact ⟨⟨_, o2, cr, R4, m4, d4, rfl, rfl, Lib.hid HS1.out.1⟩, rfl⟩)
              case measure => (show m4 < m; exact HS1.out.2)
end Go.Proofs.YtkbldbcgclnfeaaDoor.lx
