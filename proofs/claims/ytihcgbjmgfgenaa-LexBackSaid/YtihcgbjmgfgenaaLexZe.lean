/- What the document writes of tokens. -/
import Derived.Test.YtihcgbjmgfgenaaLexZd
import Derived.Deep.CutBlock
namespace Go.Proofs.Ytihcgbjmgfgenaa.lx
open Go.ChangeShapes Go.WideShapes Go.ChangeAt Go.RowKit
open Go.Proofs.Ytihcgbjmgfgenaa.codec (Bytes vals)
open Go.Proofs.Ytihcgbjmgfgenaa.row
set_option linter.unusedVariables false
set_option maxRecDepth 100000
set_option linter.unusedSimpArgs false

theorem cat_run (a b : List Nat) (hl : a.length + b.length ≤ 9000000) (X Y Z : ByteArray) (hX : X = strOf a) (hY : Y = strOf b) (hZ : Z = strOf (a ++ b)) : ∀ w, (Op.stringOp .add X Y).run Try.prog w = .ok (.string Z) w := fun w => by
  rw [hX, hY, hZ, ← strOf_append]
  exact run_string_add_sum w _ _ (by rw [strOf_size, strOf_size]; omega)
theorem esc_snoc (x : Nat) : ∀ t : List Nat, esc (t ++ [x]) = esc t ++ (if x = 34 ∨ x = 92 then [92, x] else [x])
  | [] => by simp [esc]
  | y :: r => by
    have ih := esc_snoc x r
    rw [List.cons_append, esc, esc, ih]
    split <;> simp
theorem strOf_one {T : List Nat} {j x : Nat} (h : T[j]? = some x) : (strOf T).extract j (j + 1) = strOf [x] := by
  apply ByteArray.ext
  rw [ByteArray.data_extract]
  apply Array.toList_inj.1
  rw [Array.toList_extract, List.extract_eq_take_drop]
  show ((T.map UInt8.ofNat).drop j).take (j + 1 - j) = [UInt8.ofNat x]
  obtain ⟨h1, h2⟩ := List.getElem?_eq_some_iff.1 h
  rw [← List.map_drop, List.drop_eq_getElem_cons h1, h2, Nat.add_sub_cancel_left]
  rfl
theorem take_all {P : Nat → Prop} {T : List Nat} {j x : Nat} (h : ∀ y ∈ T.take j, P y) (hx : T[j]? = some x) (hp : P x) : ∀ y ∈ T.take (j + 1), P y := by
  intro y hy
  rw [List.take_add_one, hx] at hy
  rcases List.mem_append.1 hy with hy | hy
  · exact h y hy
  · simp at hy
    rw [hy]
    exact hp
/-- The state behind k tokens. -/
def WS (W : World) (lits : Bool) (l : List Tk) (k : Nat) (s : List Nat) (S : ByteArray) (o : Int) (w : World) : Prop :=
  S = strOf s ∧ WI lits l k s o ∧ s.length ≤ k * 10020 ∧ Below W.heap.size W w
theorem WS.next {W : World} {lits : Bool} {l : List Tk} {k : Nat} {s : List Nat} {S : ByteArray} {o : Int} {w : World} (h : WS W lits l k s S o w) {K : Int} {T : List Nat} (hk : l[k]? = some ⟨K, T⟩) (hT : T.length ≤ 5000)
    {w' : World} (hb : Below W.heap.size W w') {s1 u : List Nat} {S' : ByteArray} {o' : Int} (h1 : s1 = s ++ gapB (lastK (l.take k)) ⟨K, T⟩) (hu : u = txt lits ⟨K, T⟩) (hS : S' = strOf (s1 ++ u)) (hg : Good lits ⟨K, T⟩) (ho : o' = o + opens K) (h0 : 0 ≤ o') : WS W lits l (k + 1) (s1 ++ u) S' o' w' := by
  have hn := h.2.1.next hk hg (by rw [← ho]; exact h0)
  have e : s1 ++ u = s ++ (gapB (lastK (l.take k)) ⟨K, T⟩ ++ txt lits ⟨K, T⟩) := by rw [h1, hu, List.append_assoc]
  refine ⟨hS, ?_, ?_, hb⟩
  · rw [e, ho]
    exact hn
  · have h2 := txt_len (lits := lits) (p := lastK (l.take k)) (t := ⟨K, T⟩) (show T.length ≤ 999999 by omega)
    have h3 := h.2.2.1
    rw [e, List.length_append]
    have h4 : (Tk.mk K T).t.length = T.length := rfl
    rw [h4] at h2
    omega
theorem bad_atom {T : List Nat} {j x : Nat} {lits : Bool} (hx : T[j]? = some x) (h : isAt x = false) : ¬ Good lits ⟨1, T⟩ := by
  rintro (⟨-, -, h3⟩ | ⟨h1, -⟩ | ⟨h1, -⟩)
  · have := h3 x (List.mem_of_getElem? hx)
    rw [h] at this
    cases this
  · exact absurd (show (1 : Int) = 2 from h1) (by decide)
  · rcases h1 with h1 | h1 <;> (simp at h1)
theorem bad_empty {lits : Bool} : ¬ Good lits ⟨1, []⟩ := by
  rintro (⟨-, h2, -⟩ | ⟨h1, -⟩ | ⟨h1, -⟩)
  · exact h2 rfl
  · exact absurd (show (1 : Int) = 2 from h1) (by decide)
  · rcases h1 with h1 | h1 <;> (simp at h1)
theorem bad_quote {T : List Nat} {j x : Nat} (hx : T[j]? = some x) (h : x = 13 ∨ x = 10) : ¬ Good false ⟨2, T⟩ := by
  rintro (⟨h1, -⟩ | ⟨-, h2⟩ | ⟨h1, -⟩)
  · exact absurd (show (2 : Int) = 1 from h1) (by decide)
  · have := h2 rfl x (List.mem_of_getElem? hx)
    omega
  · rcases h1 with h1 | h1 <;> (simp at h1)
theorem bad_kind {lits : Bool} {K : Int} {T : List Nat} (h1 : K ≠ 1) (h2 : K ≠ 2) (h : ¬ ((K = 3 ∨ K = 4) ∧ T = [])) : ¬ Good lits ⟨K, T⟩ := by
  rintro (⟨g, -⟩ | ⟨g, -⟩ | g)
  · exact h1 g
  · exact h2 g
  · exact h g
theorem gap_is (l : List Tk) (k : Nat) (t : Tk) (g : Bool) (hg : g = decide (lastK (l.take k) ≠ 3 ∧ t.k ≠ 4)) : gapB (lastK (l.take k)) t = if g = true then [32] else [] := by
  unfold gapB
  rw [hg]
  by_cases h : lastK (l.take k) ≠ 3 ∧ t.k ≠ 4
  · rw [if_pos h, decide_eq_true h]; rfl
  · rw [if_neg h, decide_eq_false h]; rfl
theorem lastK_take {l : List Tk} {j : Nat} {t : Tk} (h : l[j]? = some t) : lastK (l.take (j + 1)) = t.k := by
  rw [List.take_add_one, h]
  exact lastK_snoc _ _
theorem end_ok {W w : World} {lits : Bool} {l : List Tk} {k : Nat} {s : List Nat} {S : ByteArray} {o : Int} (h : WS W lits l k s S o w) (hk : k = l.length) : WrAns W lits l (.returned (.tuple #[.string S, .bool (decide (o = 0) && decide (k ≤ 200))])) w := by
  obtain ⟨h1, ⟨g1, g2, g3, g4, g5, g6⟩, h3, h4⟩ := h
  rw [List.take_of_length_le (by omega)] at g1 g3 g4
  refine ⟨h4, S, _, rfl, ?_, fun _ => by rw [h1, g4]⟩
  rw [Bool.and_eq_true, decide_eq_true_eq, decide_eq_true_eq]
  constructor
  · rintro ⟨e1, e2⟩
    refine ⟨g1, fun j => ?_, by rw [← g3, e1], by omega⟩
    by_cases hj : j ≤ k
    · exact g2 j hj
    · rw [List.take_of_length_le (by omega), ← g3]
      exact g5
  · rintro ⟨e1, e2, e3, e4⟩
    exact ⟨by rw [g3, e3], by omega⟩
theorem ws_zero (W : World) (lits : Bool) (l : List Tk) : WS W lits l 0 [] ⟨#[]⟩ 0 W := by
  refine ⟨rfl, ⟨by simp, fun j hj => ?_, by simp [depth], by simp [wrF], Int.le_refl _, Int.le_refl _⟩, by simp, Below.refl _ _⟩
  obtain rfl : j = 0 := by omega
  simp [depth]
set_option maxHeartbeats 8000000 in
theorem written_any (W : World) (lits : Bool) (A : Option Addr) (n c : Nat) (l : List Tk) (hR : Rd cT 2 W A n l) (hn : n ≤ 250) (ht : ∀ t ∈ l, t.t.length ≤ 5000 ∧ ∀ x ∈ t.t, x < 256) :
    Calls Try.prog 9 #[.slice A n c, .bool lits] W fun e w' => WrAns W lits l e w' := by
  have H0 := Lib.hid (ws_zero W lits l)
  have HR := Lib.hid hR
  have HT := Lib.hid ht
  clear hR ht
  go_enter Try.func9, Try.ntmps9
  go_wp2_with fail
  go_loopw [6, 7, 16] (fun x y z wr => ∃ (k : Nat) (s : List Nat) (S : ByteArray) (o : Int), x = .string S ∧ y = .int .i64 o ∧ z = .int .i64 k ∧ k ≤ n ∧ Hid (WS W lits l k s S o wr)) (fun _ _ z _ => n - (intOf z).toNat)
  case atStart => exact ⟨0, [], ⟨#[]⟩, 0, rfl, rfl, rfl, Nat.zero_le _, H0⟩
  case round =>
    obtain ⟨k, s, S, o, rfl, rfl, rfl, hkn, HS⟩ := hrel
    have ho0 : 0 ≤ o := HS.out.2.1.2.2.2.2.1
    have ho1 : o ≤ 250 := by have := HS.out.2.1.2.2.2.2.2; omega
    by_cases hlt : k < n
    · have hlt' : (k : Int) < (n : Int) := by omega
      have e0 : IntKind.i64.wrap ((k : Int) + 1) = (k : Int) + 1 := IntWalk.i64_in _ (by omega)
      obtain ⟨b0, o0, ⟨K, T⟩, rfl, hy, c0, c1⟩ := tok_at HR.out k hlt
      simp only at c0 c1
      have hbl := HS.out.2.2.2
      have d0 := (hbl.cell (block_lt_of_cell c0)).trans c0
      have d1 := (hbl.cell (block_lt_of_cell c1)).trans c1
      obtain ⟨SX, hSX⟩ : ∃ SX, SX = strOf T := ⟨_, rfl⟩
      rw [← hSX] at d1
      have HSX := Lib.hid hSX
      have HY := Lib.hid hy
      have HTT := Lib.hid (HT.out _ (List.mem_of_getElem? hy))
      obtain ⟨tb, htb⟩ : ∃ tb, tb = wr.heap.size := ⟨_, rfl⟩
      obtain ⟨W2, hW2⟩ : ∃ W2, W2 = wr.alloc (.cells #[.int .i64 K, .string SX] 33) := ⟨_, rfl⟩
      have hb2 : Below W.heap.size W W2 := by rw [hW2]; exact hbl.alloc hbl.size _
      have hh2 : W2.heap[tb]? = some (.cells #[.int .i64 K, .string SX] 33 (0, 0)) := by rw [hW2, htb]; exact heap_alloc_new _ _
      have f0 := cell_at hh2 0 (.int .i64 K) rfl
      have f1 := cell_at hh2 1 (.string SX) rfl
      have lt2 := (Array.getElem?_eq_some_iff.1 hh2).1
      have HW2 := Lib.hid hW2
      have HTb := Lib.hid htb
      have HB2 := Lib.hid hb2
      have HH2 := Lib.hid hh2
      have lb0 : b0 < wr.heap.size := block_lt_of_cell d0
      obtain ⟨g, hg⟩ : ∃ g, g = decide (lastK (l.take k) ≠ 3 ∧ K ≠ 4) := ⟨_, rfl⟩
      have HG := Lib.hid hg
      obtain ⟨s1, hs1⟩ : ∃ s1, s1 = s ++ gapB (lastK (l.take k)) ⟨K, T⟩ := ⟨_, rfl⟩
      have HS1 := Lib.hid hs1
      have hgi := gap_is l k ⟨K, T⟩ g hg
      obtain ⟨S1, hS1⟩ : ∃ S1, S1 = strOf s1 := ⟨_, rfl⟩
      have HSS := Lib.hid hS1
      have HN1 := Lib.hid (show s1.length ≤ 250 * 10020 + 1 from by
        have h1 := HS.out.2.2.1
        rw [hs1, List.length_append, hgi]
        have h2 : (if g = true then [32] else ([] : List Nat)).length ≤ 1 := by split <;> simp
        omega)
      have HSg := Lib.hid (show (g = true → ∀ w, (Op.stringOp .add S ⟨#[32]⟩).run Try.prog w = .ok (.string S1) w) ∧ (g = false → S1 = S) from by
        refine ⟨fun e => ?_, fun e => ?_⟩
        · have h1 := HS.out.2.2.1
          refine cat_run s [32] (by simp; omega) S _ S1 HS.out.1 rfl ?_
          rw [hS1, hs1, hgi, if_pos e]
        · rw [hS1, hs1, hgi, if_neg (by rw [e]; decide), List.append_nil, HS.out.1])
      have HNext := Lib.hid (fun (w' : World) (hb : Below W.heap.size W w') (u : List Nat) (S' : ByteArray) (o' : Int) hu hS hg ho h0 => HS.out.next (w' := w') HY.out HTT.out.1 hb (u := u) (S' := S') (o' := o') HS1.out hu hS hg ho h0)
      have HBad := Lib.hid (fun (h : ¬ Good lits ⟨K, T⟩) => not_ok_good HY.out h)
      have HDeep := Lib.hid (fun (h : o + opens K < 0) => not_ok_deep HS.out.2.1 HY.out h)
      have d2 : W2.cell? ⟨b0, o0 + k * 2, none⟩ = some (.int .i64 K) := (hb2.cell (block_lt_of_cell c0)).trans c0
      have HC0 := Lib.hid c0
      clear hbl hSX hy htb hW2 hb2 hh2 hg hs1 hgi hS1 c0 c1 ho0 ho1
      go_upto_region 7 with fail
      rw [← HW2.out, ← HTb.out]
      clear d0 d1 lb0
      go_cut [38] from 17 to 160 (fun s wx => s = .bool g ∧ wx = W2)
      case first =>
        by_cases hk0 : k = 0
        · have HGf := Lib.hid (show g = false by rw [HG.out, hk0]; simp [lastK])
          have q1 : decide ((0 : Int) < (k : Int)) = false := decide_eq_false (by omega)
          have q1b : decide (0 < k) = false := decide_eq_false (by omega)
          clear hk0
          go_wp2_with fail
          go_meet
          exact ⟨by rw [HGf.out], rfl⟩
        · have q1 : decide ((0 : Int) < (k : Int)) = true := decide_eq_true (by omega)
          have q1b : decide (0 < k) = true := decide_eq_true (by omega)
          obtain ⟨j, hj⟩ : ∃ j, k = j + 1 := ⟨k - 1, by omega⟩
          obtain ⟨b1, o1, ⟨K1, T1⟩, e9, hy1, p0, -⟩ := tok_at HR.out j (by omega)
          cases e9
          simp only at p0
          have hgd : g = decide (K1 ≠ 3 ∧ K ≠ 4) := by rw [HG.out, hj, lastK_take hy1]
          have p1 := (HB2.out.cell (block_lt_of_cell p0)).trans p0
          have e1 : IntKind.i64.wrap ((k : Int) - 1) = (j : Int) := (IntWalk.i64_in _ (by omega)).trans (by omega)
          have l1 : (j : Int) < (n : Int) := by omega
          have l2 : b0 < W2.heap.size := block_lt_of_cell p1
          clear hj hk0 hy1 p0
          by_cases h4 : K = 4
          · have HGf := Lib.hid (show g = false by rw [hgd]; simp [h4])
            have q2 : (K != 4) = false := by rw [bne_eq_false_iff_eq]; exact h4
            clear h4 hgd
            go_wp2_with fail
            go_meet
            exact ⟨by rw [HGf.out], rfl⟩
          · have q2 : (K != 4) = true := by rw [bne_iff_ne]; exact h4
            by_cases h3 : K1 = 3
            · have HGf := Lib.hid (show g = false by rw [hgd]; simp [h3])
              have q3 : (K1 != 3) = false := by rw [bne_eq_false_iff_eq]; exact h3
              clear h3 h4 hgd
              go_wp2_with fail
              go_meet
              exact ⟨by rw [HGf.out], rfl⟩
            · have HGf := Lib.hid (show g = true by rw [hgd]; simp [h3, h4])
              have q3 : (K1 != 3) = true := by rw [bne_iff_ne]; exact h3
              clear h3 h4 hgd
              go_wp2_with fail
              go_meet
              exact ⟨by rw [HGf.out], rfl⟩
      case rest =>
        obtain ⟨rfl, hw⟩ := hcut
        replace hw := hw.symm
        subst hw
        go_upto_if 38 with fail
        go_cut [6] from 17 to 160 (fun s wx => s = .string S1 ∧ wx = W2)
        case first =>
          cases g with
          | true =>
            have hcat := HSg.out.1 rfl
            go_wp2_with fail
            go_meet
            exact ⟨rfl, rfl⟩
          | false =>
            have HE := Lib.hid (HSg.out.2 rfl)
            go_wp2_with fail
            go_meet
            exact ⟨by rw [HE.out], rfl⟩
        case rest =>
          obtain ⟨rfl, hw⟩ := hcut
          replace hw := hw.symm
          subst hw
          have ho0 : 0 ≤ o := HS.out.2.1.2.2.2.2.1
          have ho1 : o ≤ 250 := by have := HS.out.2.1.2.2.2.2.2; omega
          have hsz : SX.size = T.length := by rw [HSX.out, strOf_size]
          have hem : SX.toList.isEmpty = T.isEmpty := by rw [HSX.out]; exact strOf_isEmpty T
          by_cases h1 : K = 1
          · have q1 : (K == 1) = true := by rw [beq_iff_eq]; exact h1
            have q9 : decide ((2 : Int) < K) = false := decide_eq_false (by omega)
            by_cases hT0 : T = []
            · have hem2 : SX.toList.isEmpty = true := by rw [hem, hT0]; rfl
              have HZ := Lib.hid (HBad.out (by rw [h1, hT0]; exact bad_empty))
              clear h1 hT0 hsz hem
              go_wp2_with fail
              go_ret2
              exact wr_no HB2.out HZ.out
            · have hem2 : SX.toList.isEmpty = false := by
                rw [hem]
                cases T with
                | nil => exact absurd rfl hT0
                | cons a b => rfl
              have HK1 := Lib.hid h1
              have HT0 := Lib.hid hT0
              have HSz := Lib.hid hsz
              have HAt := Lib.hid (show ∀ (i y : Nat) (h : i < SX.size), T[i]? = some y → (SX[i]'h).toNat = y from fun i y h hy => by
                have h1 : byt SX i = y := by
                  rw [HSX.out]
                  exact byt_strOf HTT.out.2 hy
                rw [byt_at, h1])
              clear h1 hT0 hsz hem
              go_wp2_with fail
              go_loop [51] (fun i => ∃ j : Nat, j ≤ SX.size ∧ i = .int .i64 j ∧ Hid (∀ x ∈ T.take j, isAt x = true)) (fun i => SX.size - (intOf i).toNat)
              case atStart => exact ⟨0, Nat.zero_le _, rfl, Lib.hid (by simp)⟩
              case round =>
                obtain ⟨j, hjs, rfl, HJ⟩ := hrel
                have hs5 : SX.size ≤ 5000 := by rw [HSz.out]; exact HTT.out.1
                by_cases hin : j < SX.size
                · obtain ⟨x, hx⟩ : ∃ x, T[j]? = some x := ⟨_, List.getElem?_eq_getElem (by rw [← HSz.out]; exact hin)⟩
                  have x0 := HAt.out j x hin hx
                  have e1 : IntKind.i64.wrap ((j : Int) + 1) = (j : Int) + 1 := IntWalk.i64_in _ (by omega)
                  have hin' : (j : Int) < (SX.size : Int) := by omega
                  have HX := Lib.hid hx
                  clear hx
                  by_cases hbad : x < 33 ∨ 126 < x ∨ x = 40 ∨ x = 41 ∨ x = 123 ∨ x = 34
                  · have HA := Lib.hid (show isAt x = false by
                      cases hq : isAt x with
                      | false => rfl
                      | true =>
                        simp only [isAt, Bool.and_eq_true, decide_eq_true_eq] at hq
                        omega)
                    have HZ := Lib.hid (HBad.out (by rw [HK1.out]; exact bad_atom HX.out HA.out))
                    clear HX
                    by_cases n0 : x < 33
                    · have u0 : decide ((x : Int) < 33) = true := decide_eq_true (by omega)
                      have v0 : decide (x < 33) = true := decide_eq_true (by omega)
                      clear hbad n0
                      go_wp2_with fail
                      go_ret2
                      exact wr_no HB2.out HZ.out
                    · by_cases n1 : 126 < x
                      · have u0 : decide ((x : Int) < 33) = false := decide_eq_false (by omega)
                        have v0 : decide (x < 33) = false := decide_eq_false (by omega)
                        have u1 : decide ((126 : Int) < (x : Int)) = true := decide_eq_true (by omega)
                        have v1 : decide (126 < x) = true := decide_eq_true (by omega)
                        clear hbad n0 n1
                        go_wp2_with fail
                        go_ret2
                        exact wr_no HB2.out HZ.out
                      · by_cases n2 : x = 40
                        · have u0 : decide ((x : Int) < 33) = false := decide_eq_false (by omega)
                          have v0 : decide (x < 33) = false := decide_eq_false (by omega)
                          have u1 : decide ((126 : Int) < (x : Int)) = false := decide_eq_false (by omega)
                          have v1 : decide (126 < x) = false := decide_eq_false (by omega)
                          have u2 : ((x : Int) == 40) = true := by rw [beq_iff_eq]; omega
                          clear hbad n0 n1 n2
                          go_wp2_with fail
                          go_ret2
                          exact wr_no HB2.out HZ.out
                        · by_cases n3 : x = 41
                          · have u0 : decide ((x : Int) < 33) = false := decide_eq_false (by omega)
                            have v0 : decide (x < 33) = false := decide_eq_false (by omega)
                            have u1 : decide ((126 : Int) < (x : Int)) = false := decide_eq_false (by omega)
                            have v1 : decide (126 < x) = false := decide_eq_false (by omega)
                            have u2 : ((x : Int) == 40) = false := by rw [beq_eq_false_iff_ne]; omega
                            have u3 : ((x : Int) == 41) = true := by rw [beq_iff_eq]; omega
                            clear hbad n0 n1 n2 n3
                            go_wp2_with fail
                            go_ret2
                            exact wr_no HB2.out HZ.out
                          · by_cases n4 : x = 123
                            · have u0 : decide ((x : Int) < 33) = false := decide_eq_false (by omega)
                              have v0 : decide (x < 33) = false := decide_eq_false (by omega)
                              have u1 : decide ((126 : Int) < (x : Int)) = false := decide_eq_false (by omega)
                              have v1 : decide (126 < x) = false := decide_eq_false (by omega)
                              have u2 : ((x : Int) == 40) = false := by rw [beq_eq_false_iff_ne]; omega
                              have u3 : ((x : Int) == 41) = false := by rw [beq_eq_false_iff_ne]; omega
                              have u4 : ((x : Int) == 123) = true := by rw [beq_iff_eq]; omega
                              clear hbad n0 n1 n2 n3 n4
                              go_wp2_with fail
                              go_ret2
                              exact wr_no HB2.out HZ.out
                            · have u0 : decide ((x : Int) < 33) = false := decide_eq_false (by omega)
                              have v0 : decide (x < 33) = false := decide_eq_false (by omega)
                              have u1 : decide ((126 : Int) < (x : Int)) = false := decide_eq_false (by omega)
                              have v1 : decide (126 < x) = false := decide_eq_false (by omega)
                              have u2 : ((x : Int) == 40) = false := by rw [beq_eq_false_iff_ne]; omega
                              have u3 : ((x : Int) == 41) = false := by rw [beq_eq_false_iff_ne]; omega
                              have u4 : ((x : Int) == 123) = false := by rw [beq_eq_false_iff_ne]; omega
                              have u5 : ((x : Int) == 34) = true := by rw [beq_iff_eq]; omega
                              clear hbad n0 n1 n2 n3 n4
                              go_wp2_with fail
                              go_ret2
                              exact wr_no HB2.out HZ.out
                  · have HA := Lib.hid (take_all (P := fun x => isAt x = true) HJ.out HX.out (show isAt x = true by
                      simp only [isAt, Bool.and_eq_true, decide_eq_true_eq]
                      omega))
                    have u0 : decide ((x : Int) < 33) = false := decide_eq_false (by omega)
                    have v0 : decide (x < 33) = false := decide_eq_false (by omega)
                    have u1 : decide ((126 : Int) < (x : Int)) = false := decide_eq_false (by omega)
                    have v1 : decide (126 < x) = false := decide_eq_false (by omega)
                    have u2 : ((x : Int) == 40) = false := by rw [beq_eq_false_iff_ne]; omega
                    have u3 : ((x : Int) == 41) = false := by rw [beq_eq_false_iff_ne]; omega
                    have u4 : ((x : Int) == 123) = false := by rw [beq_eq_false_iff_ne]; omega
                    have u5 : ((x : Int) == 34) = false := by rw [beq_eq_false_iff_ne]; omega
                    clear hbad
                    go_wp2_with fail
                    go_round
                    case rel => first | exact ⟨j + 1, by omega, by go_num, HA⟩ | ((repeat apply Exists.intro); exact ⟨⟨j + 1, by omega, by go_num, HA⟩, rfl⟩)
                    case measure => (show SX.size - ((j : Int) + 1).toNat < SX.size - j; omega)
                · have HA := Lib.hid (show ∀ x ∈ T, isAt x = true from by
                    have h1 := HJ.out
                    rw [List.take_of_length_le (by rw [← HSz.out]; omega)] at h1
                    exact h1)
                  have hin' : ¬ (j : Int) < (SX.size : Int) := by omega
                  have q8 : decide (o < 0) = false := decide_eq_false (by omega)
                  obtain ⟨S2, hS2⟩ : ∃ S2, S2 = strOf (s1 ++ T) := ⟨_, rfl⟩
                  have hcat := cat_run s1 T (by have := HN1.out; have := HTT.out.1; omega) S1 SX S2 HSS.out HSX.out hS2
                  have HEnd := Lib.hid (HNext.out W2 HB2.out T S2 o (by unfold txt; rw [if_pos HK1.out]) hS2 (.inl ⟨HK1.out, HT0.out, HA.out⟩) (by rw [HK1.out]; simp [opens]) ho0)
                  clear hS2
                  go_wp2_with fail
                  go_roundw
                  case rel => first | exact ⟨k + 1, _, _, _, rfl, rfl, by go_num, by omega, HEnd⟩ | ((repeat apply Exists.intro); exact ⟨⟨k + 1, _, _, _, rfl, rfl, by go_num, by omega, HEnd⟩, rfl⟩)
                  case measure => (show n - ((k : Int) + 1).toNat < n - k; omega)
          · have q1 : (K == 1) = false := by rw [beq_eq_false_iff_ne]; exact h1
            by_cases h2 : K = 2
            · have q2 : (K == 2) = true := by rw [beq_iff_eq]; exact h2
              have q9 : decide ((2 : Int) < K) = false := decide_eq_false (by omega)
              cases lits with
              | true =>
                have HK2 := Lib.hid h2
                have hs5 : SX.size ≤ 5000 := by rw [hsz]; exact HTT.out.1
                obtain ⟨D, hD⟩ : ∃ D, D = strOf (digs SX.size) := ⟨_, rfl⟩
                have hdl : (digs SX.size).length ≤ 6 := (digF_len 5 19 SX.size (by omega)).2
                obtain ⟨X1, hX1⟩ : ∃ S2, S2 = strOf (s1 ++ [123]) := ⟨_, rfl⟩
                obtain ⟨X2, hX2⟩ : ∃ S2, S2 = strOf ((s1 ++ [123]) ++ digs SX.size) := ⟨_, rfl⟩
                obtain ⟨X3, hX3⟩ : ∃ S2, S2 = strOf (((s1 ++ [123]) ++ digs SX.size) ++ [125, 13, 10]) := ⟨_, rfl⟩
                obtain ⟨X4, hX4⟩ : ∃ S2, S2 = strOf ((((s1 ++ [123]) ++ digs SX.size) ++ [125, 13, 10]) ++ T) := ⟨_, rfl⟩
                have hcat1 := cat_run s1 [123] (by have := HN1.out; simp; omega) S1 ⟨#[123]⟩ X1 HSS.out rfl hX1
                have hcat2 := cat_run (s1 ++ [123]) (digs SX.size) (by have := HN1.out; simp; omega) X1 D X2 hX1 hD hX2
                have hcat3 := cat_run ((s1 ++ [123]) ++ digs SX.size) [125, 13, 10] (by have := HN1.out; simp; omega) X2 ⟨#[125, 13, 10]⟩ X3 hX2 rfl hX3
                have hcat4 := cat_run (((s1 ++ [123]) ++ digs SX.size) ++ [125, 13, 10]) T (by have := HN1.out; simp; omega) X3 SX X4 hX3 HSX.out hX4
                have HD := Lib.hid hD
                have HCnt := Lib.hid (fun (w : World) (hW : ∃ q, w = W2.drewN q) => (show Calls Try.prog 15 #[.int .i64 (SX.size : Nat)] w fun e w' => e = .returned (.string D) ∧ Below W2.heap.size W2 w' by
                  obtain ⟨q, rfl⟩ := hW
                  refine (count_any (W2.drewN q) SX.size (by omega)).mono ?_
                  rintro e w' ⟨rfl, hb⟩
                  exact ⟨by rw [HD.out], ⟨hb.os, hb.tape, hb.output, hb.size, hb.block⟩⟩))
                have HEnd0 := Lib.hid (fun (w' : World) (hb : Below W.heap.size W w') => HNext.out w' hb (123 :: (digs SX.size ++ [125, 13, 10] ++ T)) X4 o (by unfold txt; simp [HK2.out, ← hsz]) (by rw [hX4]; simp) (.inr (.inl ⟨HK2.out, fun e => by cases e⟩)) (by rw [HK2.out]; simp [opens]) ho0)
                clear h1 h2 hsz hem hD hdl hX1 hX2 hX3 hX4 hs5
                go_wp2_with fail
                go_region_with (go_at_call 15; refine (HCnt.out _ (by first | exact ⟨1, rfl⟩ | exact ⟨0, rfl⟩ | exact ⟨2, rfl⟩ | exact ⟨3, rfl⟩ | exact ⟨_, rfl⟩)).mono ?_; rintro e w3 ⟨rfl, hb3⟩; have hh3 := (hb3.block tb (Array.getElem?_eq_some_iff.1 HH2.out).1).trans HH2.out; have g0 := cell_at hh3 0 (.int .i64 K) rfl; have g1 := cell_at hh3 1 (.string SX) rfl; have lt3 := (Array.getElem?_eq_some_iff.1 hh3).1; have HEnd := Lib.hid (HEnd0.out w3 (HB2.out.trans (hb3.mono HB2.out.size))); clear hb3 hh3)
                all_goals go_wp2_with fail
                all_goals go_roundw
                all_goals first | (show n - ((k : Int) + 1).toNat < n - k; omega) | exact ⟨k + 1, _, _, _, rfl, rfl, by go_num, by omega, HEnd⟩ | ((repeat apply Exists.intro); exact ⟨⟨k + 1, _, _, _, rfl, rfl, by go_num, by omega, HEnd⟩, rfl⟩)
              | false =>
                have HK2 := Lib.hid h2
                have HSz := Lib.hid hsz
                have HAt := Lib.hid (show ∀ (i y : Nat) (h : i < SX.size), T[i]? = some y → (SX[i]'h).toNat = y from fun i y h hy => by
                  have h1 : byt SX i = y := by
                    rw [HSX.out]
                    exact byt_strOf HTT.out.2 hy
                  rw [byt_at, h1])
                obtain ⟨S2, hS2⟩ : ∃ S2, S2 = strOf (s1 ++ [34]) := ⟨_, rfl⟩
                have hcat := cat_run s1 [34] (by have := HN1.out; simp; omega) S1 ⟨#[34]⟩ S2 HSS.out rfl hS2
                have HS2 := Lib.hid hS2
                clear h1 h2 hsz hem hS2
                go_wp2_with fail
                clear hcat
                go_loop [6, 104] (fun y i => ∃ (j : Nat) (Y : ByteArray), y = .string Y ∧ i = .int .i64 j ∧ j ≤ SX.size ∧ Hid (Y = strOf (s1 ++ [34] ++ esc (T.take j)) ∧ ∀ x ∈ T.take j, x ≠ 13 ∧ x ≠ 10)) (fun _ i => SX.size - (intOf i).toNat)
                case atStart => exact ⟨0, S2, rfl, rfl, Nat.zero_le _, Lib.hid ⟨by rw [HS2.out]; simp [esc], by simp⟩⟩
                case round =>
                  obtain ⟨j, Y, rfl, rfl, hjs, HJ⟩ := hrel
                  have hs5 : SX.size ≤ 5000 := by rw [HSz.out]; exact HTT.out.1
                  have hel : (s1 ++ [34] ++ esc (T.take j)).length ≤ 250 * 10020 + 1 + 1 + 2 * 5000 := by
                    have h1 := esc_len (T.take j)
                    rw [List.length_take] at h1
                    have h2 := HN1.out
                    have h3 := HTT.out.1
                    simp only [List.length_append, List.length_singleton]
                    omega
                  have HEl := Lib.hid hel
                  clear hel
                  by_cases hin : j < SX.size
                  · obtain ⟨x, hx⟩ : ∃ x, T[j]? = some x := ⟨_, List.getElem?_eq_getElem (by rw [← HSz.out]; exact hin)⟩
                    have x0 := HAt.out j x hin hx
                    have e1 : IntKind.i64.wrap ((j : Int) + 1) = (j : Int) + 1 := IntWalk.i64_in _ (by omega)
                    have t1 : ((j : Int) + 1).toNat = j + 1 := by omega
                    have hin' : (j : Int) < (SX.size : Int) := by omega
                    have hin2 : (j : Int) + 1 ≤ (SX.size : Int) := by omega
                    have hin3 : j + 1 ≤ SX.size := hin
                    have htk : T.take (j + 1) = T.take j ++ [x] := by rw [List.take_add_one, hx]; rfl
                    obtain ⟨D, hD⟩ : ∃ D, D = strOf [x] := ⟨_, rfl⟩
                    have hsl : SX.extract j (j + 1) = D := by rw [HSX.out, hD]; exact strOf_one hx
                    have HX := Lib.hid hx
                    have HTk := Lib.hid htk
                    have HD := Lib.hid hD
                    clear hx htk hD
                    by_cases h13 : x = 13
                    · have u1 : ((x : Int) == 13) = true := by rw [beq_iff_eq]; omega
                      have HZ := Lib.hid (HBad.out (by rw [HK2.out]; exact bad_quote HX.out (.inl h13)))
                      clear h13
                      go_wp2_with fail
                      go_ret2
                      exact wr_no HB2.out HZ.out
                    · have u1 : ((x : Int) == 13) = false := by rw [beq_eq_false_iff_ne]; omega
                      by_cases h10 : x = 10
                      · have u2 : ((x : Int) == 10) = true := by rw [beq_iff_eq]; omega
                        have HZ := Lib.hid (HBad.out (by rw [HK2.out]; exact bad_quote HX.out (.inr h10)))
                        clear h13 h10
                        go_wp2_with fail
                        go_ret2
                        exact wr_no HB2.out HZ.out
                      · have u2 : ((x : Int) == 10) = false := by rw [beq_eq_false_iff_ne]; omega
                        have HA := Lib.hid (take_all (P := fun x => x ≠ 13 ∧ x ≠ 10) HJ.out.2 HX.out ⟨h13, h10⟩)
                        clear h13 h10
                        by_cases hq : x = 34 ∨ x = 92
                        · obtain ⟨Y1, hY1⟩ : ∃ Y1, Y1 = strOf ((s1 ++ [34] ++ esc (T.take j)) ++ [92]) := ⟨_, rfl⟩
                          obtain ⟨Y2, hY2⟩ : ∃ Y2, Y2 = strOf (((s1 ++ [34] ++ esc (T.take j)) ++ [92]) ++ [x]) := ⟨_, rfl⟩
                          have hcat1 := cat_run (s1 ++ [34] ++ esc (T.take j)) [92] (by have := HEl.out; rw [List.length_singleton]; omega) Y ⟨#[92]⟩ Y1 HJ.out.1 rfl hY1
                          have hcat2 := cat_run ((s1 ++ [34] ++ esc (T.take j)) ++ [92]) [x] (by have := HEl.out; rw [List.length_append, List.length_singleton, List.length_singleton]; omega) Y1 D Y2 hY1 HD.out hY2
                          have HJ2 := Lib.hid (show Y2 = strOf (s1 ++ [34] ++ esc (T.take (j + 1))) ∧ ∀ x ∈ T.take (j + 1), x ≠ 13 ∧ x ≠ 10 from ⟨by rw [hY2, HTk.out, esc_snoc, if_pos hq]; simp, HA.out⟩)
                          by_cases h34 : x = 34
                          · have u3 : ((x : Int) == 34) = true := by rw [beq_iff_eq]; omega
                            clear hq h34 hY1 hY2
                            go_wp2_with fail
                            go_round
                            case rel => first | exact ⟨j + 1, Y2, rfl, by go_num, by omega, HJ2⟩ | ((repeat apply Exists.intro); exact ⟨⟨j + 1, Y2, rfl, by go_num, by omega, HJ2⟩, rfl⟩)
                            case measure => (show SX.size - ((j : Int) + 1).toNat < SX.size - j; omega)
                          · have u3 : ((x : Int) == 34) = false := by rw [beq_eq_false_iff_ne]; omega
                            have u4 : ((x : Int) == 92) = true := by rw [beq_iff_eq]; omega
                            clear hq h34 hY1 hY2
                            go_wp2_with fail
                            go_round
                            case rel => first | exact ⟨j + 1, Y2, rfl, by go_num, by omega, HJ2⟩ | ((repeat apply Exists.intro); exact ⟨⟨j + 1, Y2, rfl, by go_num, by omega, HJ2⟩, rfl⟩)
                            case measure => (show SX.size - ((j : Int) + 1).toNat < SX.size - j; omega)
                        · obtain ⟨Y2, hY2⟩ : ∃ Y2, Y2 = strOf ((s1 ++ [34] ++ esc (T.take j)) ++ [x]) := ⟨_, rfl⟩
                          have hcat2 := cat_run (s1 ++ [34] ++ esc (T.take j)) [x] (by have := HEl.out; rw [List.length_singleton]; omega) Y D Y2 HJ.out.1 HD.out hY2
                          have HJ2 := Lib.hid (show Y2 = strOf (s1 ++ [34] ++ esc (T.take (j + 1))) ∧ ∀ x ∈ T.take (j + 1), x ≠ 13 ∧ x ≠ 10 from ⟨by rw [hY2, HTk.out, esc_snoc, if_neg hq]; simp, HA.out⟩)
                          have u3 : ((x : Int) == 34) = false := by rw [beq_eq_false_iff_ne]; omega
                          have u4 : ((x : Int) == 92) = false := by rw [beq_eq_false_iff_ne]; omega
                          clear hq hY2
                          go_wp2_with fail
                          go_round
                          case rel => first | exact ⟨j + 1, Y2, rfl, by go_num, by omega, HJ2⟩ | ((repeat apply Exists.intro); exact ⟨⟨j + 1, Y2, rfl, by go_num, by omega, HJ2⟩, rfl⟩)
                          case measure => (show SX.size - ((j : Int) + 1).toNat < SX.size - j; omega)
                  · have HA := Lib.hid (show Y = strOf (s1 ++ [34] ++ esc T) ∧ ∀ x ∈ T, x ≠ 13 ∧ x ≠ 10 from by
                      have h1 := HJ.out
                      rw [List.take_of_length_le (by rw [← HSz.out]; omega)] at h1
                      exact h1)
                    have hin' : ¬ (j : Int) < (SX.size : Int) := by omega
                    have q8 : decide (o < 0) = false := decide_eq_false (by omega)
                    obtain ⟨S3, hS3⟩ : ∃ S3, S3 = strOf ((s1 ++ [34] ++ esc T) ++ [34]) := ⟨_, rfl⟩
                    have hcat := cat_run (s1 ++ [34] ++ esc T) [34] (by
                      have h1 := esc_len T
                      have h2 := HN1.out
                      have h3 := HTT.out.1
                      simp only [List.length_append, List.length_singleton]
                      omega) Y ⟨#[34]⟩ S3 HA.out.1 rfl hS3
                    have HEnd := Lib.hid (HNext.out W2 HB2.out (34 :: (esc T ++ [34])) S3 o (by unfold txt; simp [HK2.out]) (by rw [hS3]; simp) (.inr (.inl ⟨HK2.out, fun _ => HA.out.2⟩)) (by rw [HK2.out]; simp [opens]) ho0)
                    clear hS3
                    go_wp2_with fail
                    go_roundw
                    case rel => first | exact ⟨k + 1, _, _, _, rfl, rfl, by go_num, by omega, HEnd⟩ | ((repeat apply Exists.intro); exact ⟨⟨k + 1, _, _, _, rfl, rfl, by go_num, by omega, HEnd⟩, rfl⟩)
                    case measure => (show n - ((k : Int) + 1).toNat < n - k; omega)
            · have q2 : (K == 2) = false := by rw [beq_eq_false_iff_ne]; exact h2
              by_cases h3 : K = 3
              · have q3 : (K == 3) = true := by rw [beq_iff_eq]; exact h3
                have q9 : decide ((2 : Int) < K) = true := decide_eq_true (by omega)
                have q8 : decide (o + 1 < 0) = false := decide_eq_false (by omega)
                have e5 : IntKind.i64.wrap (o + 1) = o + 1 := IntWalk.i64_in _ (by omega)
                obtain ⟨S2, hS2⟩ : ∃ S2, S2 = strOf (s1 ++ [40]) := ⟨_, rfl⟩
                have hcat := cat_run s1 [40] (by have := HN1.out; simp; omega) S1 ⟨#[40]⟩ S2 HSS.out rfl hS2
                have HS2 := Lib.hid hS2
                have HK3 := Lib.hid h3
                clear hS2
                by_cases hT0 : T = []
                · have hem2 : SX.toList.isEmpty = true := by rw [hem, hT0]; rfl
                  have HEnd := Lib.hid (HNext.out W2 HB2.out [40] S2 (o + 1) (by unfold txt; simp [HK3.out]) HS2.out (.inr (.inr ⟨.inl HK3.out, hT0⟩)) (by simp [opens, HK3.out]) (by omega))
                  clear h1 h2 h3 hT0 hsz hem
                  go_wp2_with fail
                  go_roundw
                  case rel => first | exact ⟨k + 1, _, _, _, rfl, rfl, by go_num, by omega, HEnd⟩ | ((repeat apply Exists.intro); exact ⟨⟨k + 1, _, _, _, rfl, rfl, by go_num, by omega, HEnd⟩, rfl⟩)
                  case measure => (show n - ((k : Int) + 1).toNat < n - k; omega)
                · have hem2 : SX.toList.isEmpty = false := by
                    rw [hem]
                    cases T with
                    | nil => exact absurd rfl hT0
                    | cons a b => rfl
                  have HZ := Lib.hid (HBad.out (bad_kind h1 h2 (fun h => hT0 h.2)))
                  clear h1 h2 h3 hT0 hsz hem
                  go_wp2_with fail
                  go_ret2
                  exact wr_no HB2.out HZ.out
              · have q3 : (K == 3) = false := by rw [beq_eq_false_iff_ne]; exact h3
                by_cases h4 : K = 4
                · have q4 : (K == 4) = true := by rw [beq_iff_eq]; exact h4
                  have q9 : decide ((2 : Int) < K) = true := decide_eq_true (by omega)
                  have e5 : IntKind.i64.wrap (o - 1) = o - 1 := IntWalk.i64_in _ (by omega)
                  obtain ⟨S2, hS2⟩ : ∃ S2, S2 = strOf (s1 ++ [41]) := ⟨_, rfl⟩
                  have hcat := cat_run s1 [41] (by have := HN1.out; simp; omega) S1 ⟨#[41]⟩ S2 HSS.out rfl hS2
                  have HS2 := Lib.hid hS2
                  have HK4 := Lib.hid h4
                  clear hS2
                  by_cases hT0 : T = []
                  · have hem2 : SX.toList.isEmpty = true := by rw [hem, hT0]; rfl
                    by_cases hneg : o - 1 < 0
                    · have q8 : decide (o - 1 < 0) = true := decide_eq_true hneg
                      have HZ := Lib.hid (HDeep.out (by rw [HK4.out]; simp [opens]; omega))
                      clear h1 h2 h3 h4 hT0 hsz hem hneg
                      go_wp2_with fail
                      go_ret2
                      exact wr_no HB2.out HZ.out
                    · have q8 : decide (o - 1 < 0) = false := decide_eq_false hneg
                      have HEnd := Lib.hid (HNext.out W2 HB2.out [41] S2 (o - 1) (by unfold txt; simp [HK4.out]) HS2.out (.inr (.inr ⟨.inr HK4.out, hT0⟩)) (by simp [opens, HK4.out]; omega) (by omega))
                      clear h1 h2 h3 h4 hT0 hsz hem hneg
                      go_wp2_with fail
                      go_roundw
                      case rel => first | exact ⟨k + 1, _, _, _, rfl, rfl, by go_num, by omega, HEnd⟩ | ((repeat apply Exists.intro); exact ⟨⟨k + 1, _, _, _, rfl, rfl, by go_num, by omega, HEnd⟩, rfl⟩)
                      case measure => (show n - ((k : Int) + 1).toNat < n - k; omega)
                  · have hem2 : SX.toList.isEmpty = false := by
                      rw [hem]
                      cases T with
                      | nil => exact absurd rfl hT0
                      | cons a b => rfl
                    have HZ := Lib.hid (HBad.out (bad_kind h1 h2 (fun h => hT0 h.2)))
                    clear h1 h2 h3 h4 hT0 hsz hem
                    go_wp2_with fail
                    go_ret2
                    exact wr_no HB2.out HZ.out
                · have q4 : (K == 4) = false := by rw [beq_eq_false_iff_ne]; exact h4
                  have HZ := Lib.hid (HBad.out (bad_kind h1 h2 (fun h => by rcases h.1 with h | h; exact h3 h; exact h4 h)))
                  clear h1 h2 h3 h4 hsz hem
                  go_wp2_with fail
                  go_ret2
                  exact wr_no HB2.out HZ.out
    · obtain rfl : k = n := by omega
      have hl : k = l.length := HR.out.1.symm
      have HE := Lib.hid (end_ok HS.out hl)
      clear hl hkn
      by_cases h0 : o = 0
      · subst h0
        by_cases h2 : k ≤ 200
        · rw [decide_eq_true h2] at HE
          have q1 : decide ((k : Int) ≤ 200) = true := decide_eq_true (by omega)
          clear h2
          go_wp2_with fail
          go_ret2
          exact HE.out
        · rw [decide_eq_false h2] at HE
          have q1 : decide ((k : Int) ≤ 200) = false := decide_eq_false (by omega)
          clear h2
          go_wp2_with fail
          go_ret2
          exact HE.out
      · rw [decide_eq_false h0] at HE
        have q1 : (o == 0) = false := by rw [beq_eq_false_iff_ne]; exact h0
        clear h0
        go_wp2_with fail
        go_ret2
        exact HE.out
end Go.Proofs.Ytihcgbjmgfgenaa.lx
