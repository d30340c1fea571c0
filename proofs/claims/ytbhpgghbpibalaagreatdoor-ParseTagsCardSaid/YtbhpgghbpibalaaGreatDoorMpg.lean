/- Keys; several items. -/
import Derived.Test.YtbhpgghbpibalaaGreatDoorMpf
namespace Go.Proofs.YtbhpgghbpibalaaGreatDoor.par
open Go.ChangeShapes Go.WideShapes Go.ChangeAt Go.RowKit
open Go.Proofs.YtbhpgghbpibalaaGreatDoor.codec (Bytes vals)
open Go.Proofs.YtbhpgghbpibalaaGreatDoor.row
open Go.Proofs.YtbhpgghbpibalaaGreatDoor.lx (Tk cT fT Fit tok_at octs Sl Room own_slice)
set_option linter.unusedVariables false
set_option maxRecDepth 100000
set_option linter.unusedSimpArgs false

theorem run_append_rows (w : World) (ty : TypeId) (B : Nat) (v : Value) (ys : List Tk) (h : Own cT 2 B 44 w v ys) (hB : B ≤ w.heap.size) (A : Option Addr) (n c : Nat) (zs : List Tk) (hR : Rd cT 2 w A n zs) (hnil : A = none → c = 0) (hn : ys.length + n ≤ 2000000) :
    ∃ v' w', (Builtin.append_ #[27, 27] ty #[v, .slice A n c]).run Tryz.prog w = .ok v' w' ∧ Own cT 2 B 44 w' v' (ys ++ zs) ∧ w.grownBy w' v.ownBlock ∧ (v'.ownBlock = v.ownBlock ∨ ∃ g, v'.ownBlock = some g ∧ w.heap.size ≤ g) := by
  obtain ⟨i0, hi, hz0, hz1, hz2⟩ := info_parts lx.infoT
  cases A with
  | none =>
    have hn0 : n = 0 := by
      rcases Nat.eq_zero_or_pos n with h0 | h0
      · exact h0
      · obtain ⟨b, o, y, e, _⟩ := hR.2 0 h0
        cases e
    have hc := hnil rfl
    subst hn0 hc
    obtain rfl : zs = [] := List.eq_nil_of_length_eq_zero hR.1
    refine ⟨v, w, ?_, by simpa using h, World.grownBy.refl w _, .inl rfl⟩
    rcases h.2 with ⟨rfl, h0⟩ | ⟨g, cap, cur, rfl, _, hg, hnc, _⟩
    · simp [Builtin.append_, run_underlying Tryz.underlying27, sizeOf, typeInfo, hi, Builtin.lenOf, Builtin.firstCells, loadCells, loadCellsFrom]
    · simp [Builtin.append_, run_underlying Tryz.underlying27, sizeOf, typeInfo, hi, Builtin.lenOf, Builtin.firstCells, hnc, storeCells, loadCells, loadCellsFrom]
  | some ad =>
    have hfl : (fl cT zs).length = n * 2 := by rw [lx.fl_length fT, hR.1]
    obtain ⟨v', w', hr, h1, h2, h3, h4⟩ := run_append_own_at (P := Tryz.prog) w B 27 ty 44 i0 _ 2 24 Tryz.underlying27 hi hz0 hz1 hz2 rfl (by decide) v ys.length (fl cT ys) h ad n c (fl cT zs) hfl (fun j u hu => by
      have hj : j < n * 2 := by have := (List.getElem?_eq_some_iff.1 hu).1; omega
      obtain ⟨b, o, y, e, hy, hc⟩ := hR.2 (j / 2) (by omega)
      cases e
      have hl4 : j % 2 < (cT y).length := by rw [fT.len]; exact Nat.mod_lt _ (by decide)
      have h5 := fl_at fT zs (j / 2) y hy (j % 2) _ (List.getElem?_eq_getElem hl4)
      rw [show j / 2 * 2 + j % 2 = j by omega] at h5
      rw [h5] at hu
      cases hu
      rw [codec.add_none]
      have := hc (j % 2) _ (List.getElem?_eq_getElem hl4)
      rw [Nat.add_assoc, show j / 2 * 2 + j % 2 = j by omega] at this
      exact this) (lx.fl_one fT zs) (by unfold maxLen; omega) (by omega) hB
    refine ⟨v', w', hr, ?_, h2, h4.imp id fun h => ⟨_, h, Nat.le_refl _⟩⟩
    have e : fl cT (ys ++ zs) = fl cT ys ++ fl cT zs := List.flatMap_append
    unfold Own
    rw [e, List.length_append, hR.1]
    exact h1
theorem wpList_append_rows {ops : Array Oper} {rest : List Oper} {o : Oper} {a : Act} {w : World} {Q : Exit → Act → World → Prop} (hgd : o.guard = none) (s x : Operand)
    (ho : o.op = .call { callee := .builtin .append, args := #[s, x], argTypes := #[27, 27] })
    (B : Nat) (v : Value) (ys : List Tk) (hs : a.eval s = v) (h : Own cT 2 B 44 w v ys) (hB : B ≤ w.heap.size) (A : Option Addr) (n c : Nat) (zs : List Tk) (hx : a.eval x = .slice A n c) (hR : Rd cT 2 w A n zs) (hnil : A = none → c = 0) (hn : ys.length + n ≤ 2000000)
    (hK : ∀ v' w', Own cT 2 B 44 w' v' (ys ++ zs) → w.grownBy w' v.ownBlock → (v'.ownBlock = v.ownBlock ∨ ∃ g, v'.ownBlock = some g ∧ w.heap.size ≤ g) → wpList Tryz.prog ops Q rest (a.put o.dst v') w') : wpList Tryz.prog ops Q (o :: rest) a w := by
  obtain ⟨v', w', hr, h1, h2, h3⟩ := run_append_rows w o.type B v ys h hB A n c zs hR hnil hn
  refine wpList_plain hgd fun _ hK' => ?_
  unfold Oper.wp execOp
  simp only [ho, resolve, invoke, builtin, Sem.run_bind, Sem.run_pure, Result.andThen_ok, List.map_toArray, List.map_cons, List.map_nil, hs, hx, hr]
  exact hK' _ _ (hK v' w' h1 h2 h3)
theorem eq_nilT (w : World) (A : Option Addr) (n c : Nat) : (binOp .eql 27 (.slice A n c) (.slice none 0 0)).run Tryz.prog w = .ok (.bool A.isNone) w := by
  cases A with
  | none => exact Lib.run_eql_slice_nil w _ _ none n c 0 0 Tryz.underlying27
  | some ad => exact Lib.run_eql_slice_nil w _ _ (some ad) n c 0 0 Tryz.underlying27
theorem own_made {α : Type} {F : α → List Value} {K : Nat} (W : World) (E : TypeId) : Own F K W.heap.size E (W.alloc (.cells #[] E)) (.slice (some ⟨W.heap.size, 0, none⟩) 0 0) [] :=
  ⟨by simp [fl], .inr ⟨_, 0, #[], rfl, Nat.le_refl _, heap_alloc_new W _, Nat.le_refl _, Nat.zero_le _, by simp, by simp [fl]⟩⟩
set_option maxHeartbeats 1600000 in
theorem cloneT_any (W : World) (A : Option Addr) (n c : Nat) (zs : List Tk) (hR : Rd cT 2 W A n zs) (hn : n ≤ 1000000) (hA : A = none → c = 0) :
    Calls Tryz.prog 59 #[.slice A n c] W fun e w' => ∃ A' n' c', e = .returned (.slice A' n' c') ∧ Below W.heap.size W w' := by
  have HR := Lib.hid hR
  cases A with
  | none =>
    obtain rfl := hA rfl
    clear hR hA
    have hen := fun w => eq_nilT w none n 0
    go_enter Tryz.func59, Tryz.ntmps59
    go_wp2
    go_ret
    exact ⟨_, _, _, rfl, Below.refl _ _⟩
  | some ad =>
    clear hR
    have hen := fun w => eq_nilT w (some ad) n c
    have HO := Lib.hid (own_made (F := cT) (K := 2) W 44)
    have HW := Lib.hid (show W.heap.size ≤ (W.alloc (.cells #[] 44)).heap.size by simp)
    go_enter Tryz.func59, Tryz.ntmps59
    go_wp2_with (at_builtin; refine wpList_append_rows rfl (.tmp 5) (.tmp 6) rfl W.heap.size _ [] rfl HO.out HW.out (some ad) n c zs rfl (HR.out.below ((Below.refl _ _).alloc (Nat.le_refl _) _)) (fun e => by cases e) (by simp; omega) ?_; intro v5 w5 ho hg _; have HX5 := Lib.hid (And.intro ho hg); clear ho hg)
    go_ret
    obtain ⟨h1, h2⟩ := HX5.out
    obtain ⟨A', c', rfl⟩ := own_slice h1
    exact ⟨_, _, _, rfl, ((Below.refl _ _).alloc (Nat.le_refl _) _).trans ⟨h2.os, h2.tape, h2.output, h2.size, fun k hk => h2.block k (by simp; omega) (fun e => by have := Option.some.inj e; simp at this; omega)⟩⟩
theorem RS.none {w : World} {p : Nat} {l : List Tk} {b : Bool} (h : RS w p l b) : RS (w.setCell ⟨p, 0, none⟩ (.slice none 0 0)) p [] b := by
  obtain ⟨R, m, d, h1, h2, h3, h4, h5, h6, h7⟩ := h
  exact ⟨.none, 0, 0, Nat.le_refl _, fun _ => rfl, by decide, Rd.empty _, (fun a e => by cases e), by simp, set0 h7⟩
set_option maxHeartbeats 1600000 in
theorem keys_any (w : World) (p : Nat) (l : List Tk) (bad : Bool) (h : ST w p l bad) :
    Calls Tryz.prog 38 #[.pointer (some ⟨p, 0, none⟩)] w fun e w' => ∃ A n c, e = .returned (.slice A n c) ∧ Did w p w' := by
  obtain ⟨R, m, d, g1, g2, g3, g4, g5, g6, g7⟩ := h.1
  obtain ⟨c0, c1, f0, f1, hlt⟩ := facts g7
  have HS := Lib.hid h
  have HNX := Lib.hid (fun w1 (b' : Bool) (h1 : RS w1 p l b') => show ∃ R m d, w1.cell? ⟨p, 0, none⟩ = some (.slice R m d) ∧ Rd cT 2 w1 R m l ∧ m ≤ 200 ∧ w1.frozen? ⟨p, 0, none⟩ = false ∧ p < w1.heap.size ∧ (R = none → d = 0) from by
    obtain ⟨R, m, d, g1, g2, g3, g4, g5, g6, g7⟩ := h1
    exact ⟨R, m, d, (facts g7).1, g4, g3, (facts g7).2.2.1, (facts g7).2.2.2.2, g2⟩)
  clear h g1 g2 g3 g4 g5 g6 g7
  go_enter Tryz.func38, Tryz.ntmps38
  go_wp2_with (first
    | (go_at_call 28; refine (must_any _ p _ _ _ HS.out.1).mono ?_; rintro e w1 ⟨rfl, hr, ht⟩; obtain ⟨R1, m1, d1, k0, kR, km, kf, kl, kn⟩ := HNX.out _ _ hr; have HR1 := Lib.hid kR; have HKM := Lib.hid (And.intro km kn); have HS1 := Lib.hid (HS.out.move hr ht); have HT1 := Lib.hid ht; clear hr ht kR km kn c0 c1 f0 f1 hlt)
    | (go_at_call 59; refine (cloneT_any _ R1 m1 d1 _ HR1.out (Nat.le_trans HKM.out.1 (by decide)) HKM.out.2).mono ?_; rintro e w2 ⟨A2, n2, c2, rfl, hb⟩; have HS2 := Lib.hid (HS1.out.below hb); have HT2 := Lib.hid (HT1.out.below hb); obtain ⟨R3, m3, d3, k3, -, -, kf3, kl3, -⟩ := HNX.out _ _ HS2.out.1; clear hb k0 kf kl))
  go_ret
  exact ⟨_, _, _, rfl, Did.mk (HS2.out.move HS2.out.1.none (touch_set _ _ _ _)) (touch_trans HT2.out (touch_set _ _ _ _))⟩
end Go.Proofs.YtbhpgghbpibalaaGreatDoor.par
namespace Go.Proofs.YtbhpgghbpibalaaGreatDoor.par
open Go.ChangeShapes Go.WideShapes Go.ChangeAt Go.RowKit
open Go.Proofs.YtbhpgghbpibalaaGreatDoor.codec (Bytes vals)
open Go.Proofs.YtbhpgghbpibalaaGreatDoor.row
open Go.Proofs.YtbhpgghbpibalaaGreatDoor.lx (Tk cT fT Fit tok_at octs Sl Room own_slice)
set_option linter.unusedVariables false
set_option maxRecDepth 100000
set_option linter.unusedSimpArgs false

theorem own_one (W w : World) (y : Int × Bool) (h : W.heap.size ≤ w.heap.size) : Own cI 2 W.heap.size 87 (w.alloc (.cells #[.int .i64 y.1, .bool y.2] 87)) (.slice (some ⟨w.heap.size, 0, none⟩) 1 1) [y] :=
  ⟨by simp [fl, cI], .inr ⟨_, 1, _, rfl, h, heap_alloc_new w _, Nat.le_refl _, by decide, rfl, rfl⟩⟩
def IL (W : World) (p : Nat) (l : List Tk) (bad : Bool) (acc : List (Int × Bool)) (v : Value) (w : World) : Prop := Gat cI 2 87 W p l bad acc v w ∧ acc.length + l.length ≤ 400
set_option maxHeartbeats 6400000 in
theorem items_any (w : World) (p : Nat) (l : List Tk) (bad : Bool) (h : ST w p l bad) :
    Calls Tryz.prog 35 #[.pointer (some ⟨p, 0, none⟩)] w fun e w' => ∃ A n c, e = .returned (.slice A n c) ∧ Did w p w' := by
  have HC := Lib.hid (comes_any w p l bad 3 (by decide) h.1)
  have HP := Lib.hid h.1.lt
  have HS := Lib.hid h
  cases hc : comesB l bad 3
  · rw [hc] at HC
    have HI := Lib.hid (item_any w p l bad h)
    clear h hc
    go_enter Tryz.func35, Tryz.ntmps35
    go_wp2_with (first
      | (go_at_call 48; refine HC.out.mono ?_; rintro e w2 ⟨rfl, hw⟩; replace hw := hw.symm; subst hw)
      | (go_at_call 56; refine HI.out.mono ?_; rintro e w2 ⟨z, q, b, rfl, hr, ht⟩; have HR := Lib.hid hr; have HT := Lib.hid ht; clear hr ht))
    go_ret
    have hb := (Below.refl w2.heap.size w2).alloc (Nat.le_refl _) (.cells #[.int .i64 z, .bool q] 87)
    exact ⟨_, _, _, rfl, Did.mk (HR.out.below hb) (HT.out.below hb)⟩
  · rw [hc] at HC
    have HT0 := Lib.hid (take_any w p l bad 3 (by decide) h.1)
    have HLN := Lib.hid (show (takeL l bad 3).length ≤ 200 from Nat.le_trans (takeL_le l bad 3) h.1.short)
    clear h hc
    go_enter Tryz.func35, Tryz.ntmps35
    go_wp2_with (first
      | (go_at_call 48; refine HC.out.mono ?_; rintro e w2 ⟨rfl, hw⟩; replace hw := hw.symm; subst hw)
      | (go_at_call 27; refine HT0.out.mono ?_; rintro e w1 ⟨rfl, hr, ht⟩; have HS1 := Lib.hid (HS.out.move hr ht); have HT1 := Lib.hid ht; clear hr ht)
      | (go_at_call 56; refine (item_any _ p _ _ HS1.out).mono ?_; rintro e w2 ⟨z, q, b, rfl, hr, ht⟩; have HF := Lib.hid (show IL w p (takeL (takeL l bad 3) (!comesB l bad 3) 1) b [(z, q)] (.slice (some ⟨w2.heap.size, 0, none⟩) 1 1) (w2.alloc (.cells #[.int .i64 z, .bool q] 87)) from by
          have hb := (Below.refl w2.heap.size w2).alloc (Nat.le_refl _) (.cells #[.int .i64 z, .bool q] 87)
          exact ⟨⟨HP.out, hr.below hb, (touch_trans HT1.out ht).below hb, own_one w w2 (z, q) (touch_trans HT1.out ht).2.2.2.1, by simp⟩, by have := HLN.out; have := takeL_le (takeL l bad 3) (!comesB l bad 3) 1; simp; omega⟩); clear hr ht))
    generalize hv : Value.slice (some ⟨w2.heap.size, 0, none⟩) 1 1 = v0 at *
    generalize w2.alloc (.cells #[.int .i64 z, .bool q] 87) = w3 at *
    clear hv
    go_loopw [3] (fun v wr => ∃ (l : List Tk) (b : Bool) (acc : List (Int × Bool)), Hid (IL w p l b acc v wr)) (fun _ wr => restLen wr p)
    case atStart => exact ⟨_, _, _, HF⟩
    case round =>
      obtain ⟨l1, b1, acc, HF1⟩ := hrel
      have HS2 := Lib.hid HF1.out.1.2.1
      obtain ⟨A3, c3, hv3⟩ := own_slice HF1.out.1.2.2.2.1
      have HA5 := Lib.hid HF1.out.1.2.2.2.2
      obtain ⟨ln, hln⟩ : ∃ ln, ln = acc.length := ⟨_, rfl⟩
      have hl5 : ln ≤ 500 := by rw [hln]; exact HA5.out
      rw [← hln] at hv3
      subst hv3
      cases hc : comesB l1 b1 1
      · have HC2 := Lib.hid (comes_any _ p l1 b1 1 (by decide) HS2.out.1)
        rw [hc] at HC2
        clear hc hln
        have HT4 := Lib.hid (take_any _ p l1 b1 4 (by decide) HS2.out.1)
        go_wp2_with (first
          | (go_at_call 48; refine HC2.out.mono ?_; rintro e w4 ⟨rfl, hw⟩; replace hw := hw.symm; subst hw)
          | (go_at_call 27; refine HT4.out.mono ?_; rintro e w4 ⟨rfl, hr, ht⟩; have HF2 := Lib.hid (HF1.out.1.step (HS2.out.move hr ht) ht); clear hr ht)
          | (go_at_call 28; refine (must_any _ p _ _ _ HF2.out.2.1.1).mono ?_; rintro e w5 ⟨rfl, hr3, ht3⟩; have HD := Lib.hid (Did.must HF2.out.2.1 HF2.out.2.2.1 hr3 ht3); clear hr3 ht3))
        go_ret
        exact ⟨_, _, _, rfl, HD.out⟩
      · have HC2 := Lib.hid (comes_any _ p l1 b1 1 (by decide) HS2.out.1)
        have HLess := Lib.hid (takeL_less hc)
        have HRest := Lib.hid HS2.out.1.rest
        rw [hc] at HC2
        have HLn := Lib.hid hln
        clear hc hln
        have HI4 := Lib.hid (item_any _ p l1 b1 HS2.out)
        have HL := Lib.hid (show acc.length ≤ 20000000 from Nat.le_trans HA5.out (by decide))
        go_wp2_with (first
          | (go_at_call 48; refine HC2.out.mono ?_; rintro e w4 ⟨rfl, hw⟩; replace hw := hw.symm; subst hw)
          | (go_at_call 56; refine HI4.out.mono ?_; rintro e w4 ⟨z1, q1, b4, rfl, hr, ht⟩; have HF2 := Lib.hid (HF1.out.1.step hr ht); clear hr ht)
          | (at_builtin; refine row.wpList_append_own fI (by decide) (by decide) (by_ := 16) (by decide) (z := .agg #[.int .i64 0, .bool false]) rfl rfl (.tmp 17) (.tmp 20) 26 87 rfl Tryz.underlying26 infoI w.heap.size (.slice A3 ln c3) acc rfl HF2.out.2.2.2.1 HF2.out.2.2.1.2.2.2.1 HL.out (z1, q1) (0, 0) _ (by simp) rfl _ rfl ?_; intro v1 w5 ho hg h3; have HF3 := Lib.hid (show IL w p (takeL l1 b1 1) b4 (acc ++ [(z1, q1)]) v1 w5 from ⟨HF2.out.grown ho hg (by have := HF1.out.2; have := HLess.out; rw [List.length_append]; simp; omega), by have := HF1.out.2; have := HLess.out; rw [List.length_append]; simp; omega⟩); clear ho hg h3))
        go_roundw
        case rel => first | exact ⟨_, _, _, HF3⟩ | ((repeat apply Exists.intro); exact ⟨⟨_, _, _, HF3⟩, rfl⟩)
        case measure => (show restLen _ p < restLen wr p; rw [HRest.out, HF3.out.1.2.1.1.rest]; have := HLess.out; omega)
end Go.Proofs.YtbhpgghbpibalaaGreatDoor.par
