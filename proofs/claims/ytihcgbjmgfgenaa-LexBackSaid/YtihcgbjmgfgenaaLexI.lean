/- What a line's end completes. -/
import Derived.Test.YtihcgbjmgfgenaaLexH
namespace Go.Proofs.Ytihcgbjmgfgenaa.lx
open Go.ChangeShapes Go.WideShapes Go.ChangeAt Go.RowKit
open Go.Proofs.Ytihcgbjmgfgenaa.codec (Bytes vals)
open Go.Proofs.Ytihcgbjmgfgenaa.row
set_option linter.unusedVariables false
set_option maxRecDepth 100000
set_option linter.unusedSimpArgs false

/-- What a line's end answers. -/
def LineAns (w : World) (p : Nat) (F : List Nat) (s : St) (u : U) (e : Ending) (w' : World) : Prop :=
  ∃ A n c F', e = .returned (unit u.1 A n c) ∧ Sl w' A n c u.2 ∧ Ck w' p F' s.done s.cur s.left false ∧ (∀ i ∈ F', i ∈ F ∨ w.heap.size ≤ i) ∧ (∀ i ∈ blk A, w.heap.size ≤ i ∧ i < w'.heap.size ∧ i ∉ F') ∧ codec.Touch (fun i => i = p ∨ i ∈ F) w w'
theorem line_end {w w2 w3 : World} {p u0 k : Nat} {F l : List Nat} {A : Option Addr} {n c : Nat} (hb : Below w.heap.size w w2) (hu : u0 = w.heap.size) (hp : p < w.heap.size) (hu2 : w2.heap[u0]? = some (.cells #[.int .i64 0, .slice none 0 0] 29 (0, 0)))
    (hS : Sl w3 A n c l) (hA : ∀ i ∈ blk A, w2.heap.size ≤ i ∧ i < w3.heap.size) (hC : Ck w3 p [] [] [] 0 false) (hT : codec.Touch (fun i => i = p) w2 w3) :
    w3.heap[u0]? = some (.cells #[.int .i64 0, .slice none 0 0] 29 (0, 0)) ∧
    LineAns w p F s0 (k, l) (.returned (unit k A n c)) ((w3.setCell ⟨u0, 0, none⟩ (.int .i64 (k : Nat))).setCell ⟨u0, 1, none⟩ (.slice A n c)) := by
  have hl2 := (Array.getElem?_eq_some_iff.1 hu2).1
  have hup : u0 ≠ p := by omega
  have hu3 := (hT.2.2.2.2 u0 hl2 hup).trans hu2
  obtain ⟨k1, k2, k3⟩ := two hu3 rfl (.int .i64 (k : Nat)) (.slice A n c)
  have hs := hb.size
  have hT3 : codec.Touch (fun i => i = p ∨ i ∈ F) w w3 := codec.Touch.trans (⟨hb.os, hb.tape, hb.output, hb.size, fun i hi _ => hb.block i hi⟩ : codec.Touch (fun i => i = p ∨ i ∈ F) w w2) (hT.mono fun i _ h => .inl (.inl h))
  refine ⟨hu3, A, n, c, [], rfl, ⟨hS.1.kept fun ad e h0 => k2 _ ?_, hS.2⟩, hC.kept fun i hi => k2 _ ?_, by simp, fun i hi => ⟨by have := (hA i hi).1; omega, by have := (hA i hi).2; simp; omega, by simp⟩, ?_⟩
  · have := (hA ad.block (by rw [e]; simp [blk])).1
    omega
  · rcases hi with rfl | hi
    · exact Ne.symm hup
    · simp at hi
  · exact (hT3.setCell ⟨u0, 0, none⟩ (.inl (by rw [hu]; exact Nat.le_refl _)) _).setCell ⟨u0, 1, none⟩ (.inl (by rw [hu]; exact Nat.le_refl _)) _
theorem Ck.all {w : World} {p : Nat} {F done cur : List Nat} {left : Nat} {ret : Bool} (h : Ck w p F done cur left ret) : ∃ came, (cur.length ≤ 2002 → came = done ++ cur) ∧ (2002 < cur.length → came = (done ++ cur).take 100) ∧ came.length ≤ done.length + cur.length + 100 ∧
    Calls Try.prog 33 #[.pointer (some ⟨p, 0, none⟩)] w fun e w' => ∃ A c, e = .returned (.slice A came.length c) ∧ Sl w A came.length c came ∧ (∀ i ∈ blk A, i ∈ F) ∧ Below w.heap.size w w' := by
  obtain ⟨P, line, came, h1, h2, h3, h4⟩ := h
  refine ⟨came, fun h => (h4.1 h).1, fun h => (h4.2 h).2.2, ?_, all_any w p P came F h2 (cell_at h1 0 _ rfl) (cell_at h1 1 _ rfl)⟩
  by_cases h : cur.length ≤ 2002
  · rw [(h4.1 h).1, List.length_append]; omega
  · rw [(h4.2 (by omega)).2.2, List.length_take]; omega
theorem Ck.line {w : World} {p : Nat} {F done cur : List Nat} {left : Nat} {ret : Bool} (h : Ck w p F done cur left ret) : ∃ line, w.cell? ⟨p, 0 + 2, none⟩ = some (.int .i64 (line : Nat)) ∧ decide (2002 < line) = decide (2002 < cur.length) ∧ (cur.length ≤ 2002 → line = cur.length) ∧ p ∉ F := by
  obtain ⟨P, line, came, h1, h2, h3, h4⟩ := h
  exact ⟨line, cell_at h1 2 _ rfl, rel_long h4, fun h => (h4.1 h).2, h3⟩
set_option maxHeartbeats 1000000 in
theorem endLong_any (w : World) (p : Nat) (F done line : List Nat) (hC : Ck w p F done (line ++ [13, 10]) 0 false) (hl : 2000 < line.length) (hb : done.length + line.length ≤ 1000000) :
    Calls Try.prog 22 #[.pointer (some ⟨p, 0, none⟩)] w fun e w' => LineAns w p F (close done line).1 (close done line).2 e w' := by
  have hcl : close done line = (s0, (2, (done ++ line).take 100)) := by unfold close; rw [if_pos hl]
  rw [hcl]
  obtain ⟨u, hu⟩ : ∃ u, u = w.heap.size := ⟨_, rfl⟩
  have hp := hC.facts.2.2.2
  obtain ⟨W1, hW1⟩ : ∃ W1, W1 = w.alloc (.cells #[.int .i64 0, .slice none 0 0] 29) := ⟨_, rfl⟩
  have hb1 : Below w.heap.size w W1 := by rw [hW1]; exact (Below.refl _ _).alloc (Nat.le_refl _) _
  have hu1 : W1.heap[u]? = some (.cells #[.int .i64 0, .slice none 0 0] 29 (0, 0)) := by rw [hW1, hu]; exact heap_alloc_new _ _
  have hC1 := hC.below hb1
  obtain ⟨line', f2, hlong, -, hpF⟩ := hC1.line
  have hLg := long_any W1 p line' f2
  have hdd : decide (2002 < (line ++ [13, 10]).length) = true := decide_eq_true (by rw [List.length_append]; simp; omega)
  rw [hlong, hdd] at hLg
  clear hdd
  obtain ⟨came, -, hcame, hcl, hAll⟩ := hC1.all
  replace hcame := hcame (by rw [List.length_append]; simp; omega)
  replace hcl : came.length ≤ 2000000 := by rw [List.length_append] at hcl; simp at hcl; omega
  have hcame2 : came = (done ++ line).take 100 := by
    rw [hcame, ← List.append_assoc, List.take_append_of_le_length (by rw [List.length_append]; omega)]
  have HLg := Lib.hid hLg
  have HAll := Lib.hid hAll
  have HW1 := Lib.hid hW1
  have HU := Lib.hid hu
  have H1 := Lib.hid (And.intro hb1 (And.intro hu1 (And.intro hC1 (And.intro hp (And.intro hpF hcl)))))
  rw [← hcame2]
  clear hLg hAll hW1 hu hb1 hu1 hC1 hp f2 hlong hcame hcame2 hC hl hpF hcl
  go_enter Try.func22, Try.ntmps22
  go_wp2_with fail
  rw [← HW1.out, ← HU.out]
  refine HLg.out.mono ?_
  rintro e w9 ⟨rfl, hw⟩
  replace hw := hw.symm
  subst hw
  go_wp2_with fail
  refine HAll.out.mono ?_
  rintro e w2 ⟨A, c, rfl, hS2, hA2, hb2⟩
  obtain ⟨hb1, hu1, hC1, hp, hpF, hcl⟩ := H1.out
  have hC2 := hC1.below hb2
  have hS2' : Sl w2 A came.length c came := ⟨hS2.1.below hS2.1.lt hb2, hS2.2⟩
  have hu2 : w2.heap[u]? = some (.cells #[.int .i64 0, .slice none 0 0] 29 (0, 0)) := (hb2.block _ (Array.getElem?_eq_some_iff.1 hu1).1).trans hu1
  have HEnd := Lib.hid (end_any w2 p 2 F _ _ _ _ A came.length c came hC2 hS2' (fun ad e h0 e' => hpF (by rw [← e']; exact hA2 _ (by rw [e]; simp [blk]))) (by omega))
  have H2 := Lib.hid (And.intro (hb1.trans (hb2.mono hb1.size)) (And.intro hu2 hp))
  clear hb1 hu1 hC1 hp hpF hcl hC2 hS2' hu2 hS2 hA2 hb2
  go_wp2_with fail
  refine HEnd.out.mono ?_
  rintro e w3 ⟨G, n, d, rfl, hS3, hG3, hC3, hT3⟩
  obtain ⟨hu3, hans⟩ := line_end (k := 2) (F := F) H2.out.1 HU.out H2.out.2.2 H2.out.2.1 hS3 hG3 hC3 hT3
  have HAns := Lib.hid hans
  have HU3 := Lib.hid hu3
  have d0 := cell_at hu3 0 (.int .i64 0) rfl
  have d1 := cell_at hu3 1 (.slice none 0 0) rfl
  have y0 := frozen_of_row _ _ 0 _ _ hu3
  have y1 := frozen_of_row _ _ 1 _ _ hu3
  have lu := (Array.getElem?_eq_some_iff.1 hu3).1
  clear hS3 hG3 hC3 hT3 hu3 hans
  unfold unit
  go_wp2_with fail
  obtain ⟨k1, -, -⟩ := two HU3.out rfl (.int .i64 2) (.slice G n d)
  refine bodyPost_ret (results_cell_row Try.results22 _ _ u _ _ _ _ rfl k1 Try.underlying29 rfl (unitSize _ rfl)) rfl ?_
  exact HAns.out
/-- What a literal that is asked for leaves. -/
theorem ask_end {w w2 : World} {p u0 n : Nat} {F done line : List Nat} (hb : Below w.heap.size w w2) (hu : u0 = w.heap.size) (hp : p < w.heap.size) (hu2 : w2.heap[u0]? = some (.cells #[.int .i64 0, .slice none 0 0] 29 (0, 0)))
    (hC : Ck w2 p F done (line ++ [13, 10]) 0 false) (hFw : ∀ i ∈ F, i < w.heap.size) (hl : line.length ≤ 2000) :
    ((w2.setCell ⟨p, 2, none⟩ (.int .i64 0)).setCell ⟨p, 4, none⟩ (.int .i64 (n : Nat))).heap[u0]? = some (.cells #[.int .i64 0, .slice none 0 0] 29 (0, 0)) ∧
    LineAns w p F ⟨done ++ line ++ [13, 10], [], n⟩ (4, []) (.returned (unit 4 none 0 0)) (((((w2.setCell ⟨p, 2, none⟩ (.int .i64 0)).setCell ⟨p, 4, none⟩ (.int .i64 (n : Nat))).setCell ⟨u0, 0, none⟩ (.int .i64 4)).setCell ⟨u0, 1, none⟩ (.slice none 0 0))) := by
  obtain ⟨P, ln, came, h1, h2, h3, h4⟩ := hC
  obtain ⟨rfl, -⟩ := h4.1 (by rw [List.length_append]; simp; omega)
  have hup : u0 ≠ p := by omega
  have g1 := heap_setCell_same _ p 4 _ _ (.int .i64 (n : Nat)) (heap_setCell_same w2 p 2 _ _ (.int .i64 0) h1)
  have g2 : ∀ k, k ≠ p → ((w2.setCell ⟨p, 2, none⟩ (.int .i64 0)).setCell ⟨p, 4, none⟩ (.int .i64 (n : Nat))).heap[k]? = w2.heap[k]? := fun k hk => by
    rw [heap_setCell_other _ _ _ _ hk, heap_setCell_other _ _ _ _ hk]
  have hT0 : codec.Touch (fun i => i = p ∨ i ∈ F) w w2 := ⟨hb.os, hb.tape, hb.output, hb.size, fun i hi _ => hb.block i hi⟩
  have hT : codec.Touch (fun i => i = p ∨ i ∈ F) w ((w2.setCell ⟨p, 2, none⟩ (.int .i64 0)).setCell ⟨p, 4, none⟩ (.int .i64 (n : Nat))) :=
    (hT0.setCell ⟨p, 2, none⟩ (.inr (.inl rfl)) _).setCell ⟨p, 4, none⟩ (.inr (.inl rfl)) _
  generalize (w2.setCell ⟨p, 2, none⟩ (.int .i64 0)).setCell ⟨p, 4, none⟩ (.int .i64 (n : Nat)) = w3 at *
  have hu3 := (g2 u0 hup).trans hu2
  obtain ⟨k1, k2, k3⟩ := two hu3 rfl (.int .i64 4) (.slice none 0 0)
  refine ⟨hu3, none, 0, 0, F, rfl, Sl.none _, ⟨P, 0, done ++ (line ++ [13, 10]), (k2 _ (Ne.symm hup)).trans g1, h2.kept fun i hi => ?_, h3, ⟨fun _ => ⟨by simp, rfl⟩, fun h => by simp at h⟩⟩, fun i hi => .inl hi, by simp [blk], ?_⟩
  · have h5 := hFw i hi
    rw [k2 i (by omega), g2 i (fun e => h3 (e ▸ hi))]
  · exact (hT.setCell ⟨u0, 0, none⟩ (.inl (by rw [hu]; exact Nat.le_refl _)) _).setCell ⟨u0, 1, none⟩ (.inl (by rw [hu]; exact Nat.le_refl _)) _
set_option maxHeartbeats 2000000 in
theorem endShort_any (w : World) (p : Nat) (F done line : List Nat) (hC : Ck w p F done (line ++ [13, 10]) 0 false) (hl : ¬ 2000 < line.length) (hb : done.length + line.length ≤ 1000000) :
    Calls Try.prog 22 #[.pointer (some ⟨p, 0, none⟩)] w fun e w' => LineAns w p F (close done line).1 (close done line).2 e w' := by
  obtain ⟨u, hu⟩ : ∃ u, u = w.heap.size := ⟨_, rfl⟩
  have hp := hC.facts.2.2.2
  have hFw : ∀ i ∈ F, i < w.heap.size := fun i hi => hC.lt i (.inr hi)
  obtain ⟨W1, hW1⟩ : ∃ W1, W1 = w.alloc (.cells #[.int .i64 0, .slice none 0 0] 29) := ⟨_, rfl⟩
  have hb1 : Below w.heap.size w W1 := by rw [hW1]; exact (Below.refl _ _).alloc (Nat.le_refl _) _
  have hu1 : W1.heap[u]? = some (.cells #[.int .i64 0, .slice none 0 0] 29 (0, 0)) := by rw [hW1, hu]; exact heap_alloc_new _ _
  have hC1 := hC.below hb1
  obtain ⟨line', f2, hlong, hline, hpF⟩ := hC1.line
  have hLg := long_any W1 p line' f2
  have hdd : decide (2002 < (line ++ [13, 10]).length) = false := decide_eq_false (by rw [List.length_append]; simp; omega)
  rw [hlong, hdd] at hLg
  clear hdd
  obtain ⟨came, hcame, -, hcl, hAll⟩ := hC1.all
  obtain rfl := hcame (by rw [List.length_append]; simp; omega)
  replace hline := hline (by rw [List.length_append]; simp; omega)
  obtain ⟨L, hL⟩ : ∃ L, L = (done ++ (line ++ [13, 10])).length := ⟨_, rfl⟩
  obtain ⟨j, hj⟩ : ∃ j, j = done.length := ⟨_, rfl⟩
  obtain ⟨ln, hln⟩ : ∃ ln, ln = line.length := ⟨_, rfl⟩
  rw [← hL] at hAll
  have hLj : L = j + (ln + 2) := by rw [hL, hj, hln]; simp
  have hline2 : line' = ln + 2 := by rw [hline, hln]; simp
  have HLg := Lib.hid hLg
  have HAll := Lib.hid hAll
  have HW1 := Lib.hid hW1
  have HU := Lib.hid hu
  have H1 := Lib.hid (And.intro hb1 (And.intro hu1 (And.intro hC1 (And.intro hp (And.intro hpF hFw)))))
  have HL := Lib.hid (And.intro hLj (And.intro hline2 (And.intro hj (And.intro hln hL))))
  have HF2 := Lib.hid f2
  have hlp1 := hC1.facts.2.2.2
  have Hl := Lib.hid hl
  clear hLg hAll hW1 hu hb1 hu1 hC1 hp hlong hline hcame hC hl hpF hcl f2 hFw hLj hline2 hj hln hL
  go_enter Try.func22, Try.ntmps22
  go_wp2_with fail
  rw [← HW1.out, ← HU.out]
  refine HLg.out.mono ?_
  rintro e w9 ⟨rfl, hw⟩
  replace hw := hw.symm
  subst hw
  go_wp2_with fail
  refine HAll.out.mono ?_
  rintro e w2 ⟨A, c, rfl, hS2, hA2, hb2⟩
  obtain ⟨hb1, hu1, hC1, hp, hpF, hFw⟩ := H1.out
  have hC2 := hC1.below hb2
  have hS2' : Sl w2 A L c (done ++ (line ++ [13, 10])) := ⟨hS2.1.below hS2.1.lt hb2, hS2.2⟩
  have hu2 : w2.heap[u]? = some (.cells #[.int .i64 0, .slice none 0 0] 29 (0, 0)) := (hb2.block _ (Array.getElem?_eq_some_iff.1 hu1).1).trans hu1
  have f2 : w2.cell? ⟨p, 0 + 2, none⟩ = some (.int .i64 (line' : Nat)) := (hb2.cell (p := ⟨p, 0 + 2, none⟩) hlp1).trans HF2.out
  obtain ⟨hLj, hline2, hj, hln, hL⟩ := HL.out
  have hnc := hS2.2.1
  have e1 : IntKind.i64.wrap ((L : Int) - (line' : Int)) = (j : Int) := (IntWalk.i64_in _ (by omega)).trans (by omega)
  have e2 : ¬ c - j = 0 := by omega
  obtain ⟨k, hk⟩ : ∃ k, k = L - j := ⟨_, rfl⟩
  have l1 : j ≤ L := by omega
  have l2 : L ≤ c := hnc
  have e4 : IntKind.i64.wrap (((L - j : Nat) : Int) - 2) = (ln : Int) := (IntWalk.i64_in _ (by omega)).trans (by omega)
  obtain ⟨L2, hL2⟩ : ∃ L2, L2 = L - 2 := ⟨_, rfl⟩
  have e5 : IntKind.i64.wrap ((L : Int) - 2) = (L2 : Int) := (IntWalk.i64_in _ (by omega)).trans (by omega)
  have l3 : ln ≤ c - j := by omega
  have l4 : L2 ≤ c := by omega
  have HL2 := Lib.hid hL2
  have hlast : (done ++ (line ++ [13, 10])).drop j = line ++ [13, 10] := by rw [hj]; simp
  have hrest := hS2'.rest j l1
  rw [if_neg (by omega), hlast] at hrest
  have hln2 := hrest.part ln (by omega)
  have ht1 : (line ++ [13, 10]).take ln = line := by rw [hln]; simp
  rw [ht1] at hln2
  have hall2 := hS2'.part L2 (by omega)
  have ht2 : (done ++ (line ++ [13, 10])).take L2 = done ++ line := by rw [← List.append_assoc, List.take_append_of_le_length (by rw [List.length_append]; omega), List.take_of_length_le (by rw [List.length_append]; omega)]
  rw [ht2] at hall2
  obtain ⟨ad, rfl⟩ : ∃ ad, A = some ad := by
    cases A with
    | none => have := hS2.2.2.2 rfl; omega
    | some ad => exact ⟨ad, rfl⟩
  have HLit := Lib.hid (lastLit_any w2 _ ln (c - j) line hln2 (by omega))
  have HS2 := Lib.hid hall2
  have HA2 := Lib.hid hA2
  have H2 := Lib.hid (And.intro (hb1.trans (hb2.mono hb1.size)) (And.intro hu2 (And.intro hp (And.intro hpF hFw))))
  have HC2 := Lib.hid hC2
  clear hb1 hu1 hC1 hp hpF hFw hC2 hS2' hu2 hS2 hA2 hb2 hLj hline2 hj hln hL hnc hk hL2 hlast hrest hln2 hall2 ht1 ht2
  go_wp2_with fail
  refine HLit.out.mono ?_
  rintro e w9 ⟨rfl, hw⟩
  replace hw := hw.symm
  subst hw
  clear e1 e2 e4 e5 l1 l2 l3 l4 f2
  have HEnd := Lib.hid (fun (k m : Nat) (hm : m ≤ L2) => end_any w2 p k F _ _ _ _ (some ad) m c _ HC2.out (HS2.out.part m hm) (fun ad' e h0 e' => H2.out.2.2.2.1 (by rw [← e']; exact HA2.out _ (by rw [e]; simp [blk]))) (by have := HL2.out; have := HL.out.1; have := HL.out.2.2.1; have := HL.out.2.2.2.1; omega))
  unfold litV
  cases hlit : litL line with
  | none =>
    have hcl : close done line = (s0, (1, done ++ line)) := by unfold close; rw [if_neg Hl.out, hlit]
    have HCl := Lib.hid hcl
    have HE := Lib.hid (HEnd.out 1 L2 (Nat.le_refl _))
    have hdl : (done ++ line).take L2 = done ++ line := List.take_of_length_le (by rw [HS2.out.1.1]; exact Nat.le_refl _)
    rw [hdl] at HE
    clear hlit hcl hdl
    simp only [Option.isSome_none, Option.getD_none]
    go_wp2_with fail
    refine HE.out.mono ?_
    rintro e w3 ⟨G, n, d, rfl, hS3, hG3, hC3, hT3⟩
    obtain ⟨hu3, hans⟩ := line_end (k := 1) (F := F) H2.out.1 HU.out H2.out.2.2.1 H2.out.2.1 hS3 hG3 hC3 hT3
    have HAns := Lib.hid hans
    have HU3 := Lib.hid hu3
    have d0 := cell_at hu3 0 (.int .i64 0) rfl
    have d1 := cell_at hu3 1 (.slice none 0 0) rfl
    have y0 := frozen_of_row _ _ 0 _ _ hu3
    have y1 := frozen_of_row _ _ 1 _ _ hu3
    have lu := (Array.getElem?_eq_some_iff.1 hu3).1
    clear hS3 hG3 hC3 hT3 hu3 hans
    unfold unit
    go_wp2_with fail
    obtain ⟨k1, -, -⟩ := two HU3.out rfl (.int .i64 1) (.slice G n d)
    refine bodyPost_ret (results_cell_row Try.results22 _ _ u _ _ _ _ rfl k1 Try.underlying29 rfl (unitSize _ rfl)) rfl ?_
    rw [HCl.out]
    exact HAns.out
  | some n =>
    by_cases hgr : 20000 < n
    · have hcl : close done line = (s0, (3, (done ++ line).take 100)) := by unfold close; rw [if_neg Hl.out, hlit]; simp only; rw [if_pos hgr]
      have HCl := Lib.hid hcl
      have q1 : decide ((20000 : Int) < (n : Int)) = true := decide_eq_true (by omega)
      obtain ⟨x, hx⟩ : ∃ x, x = min 100 L2 := ⟨_, rfl⟩
      have HF := Lib.hid (first_any w2 (some ad) L2 c 100 HS2.out.2.1 (by decide))
      rw [← hx] at HF
      have HE := Lib.hid (HEnd.out 3 x (by omega))
      have hdl : (done ++ line).take x = (done ++ line).take 100 := by rw [List.take_eq_take_iff, HS2.out.1.1]; omega
      rw [hdl] at HE
      clear hlit hcl hdl hgr hx
      simp only [Option.isSome_some, Option.getD_some]
      go_wp2_with fail
      refine HF.out.mono ?_
      rintro e w9 ⟨rfl, hw⟩
      replace hw := hw.symm
      subst hw
      clear q1
      go_wp2_with fail
      refine HE.out.mono ?_
      rintro e w3 ⟨G, n', d, rfl, hS3, hG3, hC3, hT3⟩
      obtain ⟨hu3, hans⟩ := line_end (k := 3) (F := F) H2.out.1 HU.out H2.out.2.2.1 H2.out.2.1 hS3 hG3 hC3 hT3
      have HAns := Lib.hid hans
      have HU3 := Lib.hid hu3
      have d0 := cell_at hu3 0 (.int .i64 0) rfl
      have d1 := cell_at hu3 1 (.slice none 0 0) rfl
      have y0 := frozen_of_row _ _ 0 _ _ hu3
      have y1 := frozen_of_row _ _ 1 _ _ hu3
      have lu := (Array.getElem?_eq_some_iff.1 hu3).1
      clear hS3 hG3 hC3 hT3 hu3 hans
      unfold unit
      go_wp2_with fail
      obtain ⟨k1, -, -⟩ := two HU3.out rfl (.int .i64 3) (.slice G n' d)
      refine bodyPost_ret (results_cell_row Try.results22 _ _ u _ _ _ _ rfl k1 Try.underlying29 rfl (unitSize _ rfl)) rfl ?_
      rw [HCl.out]
      exact HAns.out
    · have hcl : close done line = (⟨done ++ line ++ [13, 10], [], n⟩, (4, [])) := by unfold close; rw [if_neg Hl.out, hlit]; simp only; rw [if_neg hgr]
      have HCl := Lib.hid hcl
      have q1 : decide ((20000 : Int) < (n : Int)) = false := decide_eq_false (by omega)
      obtain ⟨hu3, hans⟩ := ask_end (n := n) H2.out.1 HU.out H2.out.2.2.1 H2.out.2.1 HC2.out H2.out.2.2.2.2 (by have := Hl.out; omega)
      have HAns := Lib.hid hans
      have HU3 := Lib.hid hu3
      obtain ⟨P, l9, came, h1, h2, h3, h4⟩ := HC2.out
      have b2 := cell_at h1 2 (.int .i64 (l9 : Nat)) rfl
      have b4 := cell_at h1 4 (.int .i64 0) rfl
      have x2 := frozen_of_row _ _ 2 _ _ h1
      have x4 := frozen_of_row _ _ 4 _ _ h1
      have lp := (Array.getElem?_eq_some_iff.1 h1).1
      have hu2 := H2.out.2.1
      have d0 := cell_at hu2 0 (.int .i64 0) rfl
      have d1 := cell_at hu2 1 (.slice none 0 0) rfl
      have y0 := frozen_of_row _ _ 0 _ _ hu2
      have y1 := frozen_of_row _ _ 1 _ _ hu2
      have lu := (Array.getElem?_eq_some_iff.1 hu2).1
      have hup : u ≠ p := by have := HU.out; have := H2.out.2.2.1; omega
      have hpu : p ≠ u := Ne.symm hup
      clear hlit hcl hgr hu3 hans h1 h2 h3 h4 hu2
      simp only [Option.isSome_some, Option.getD_some]
      go_wp2_with fail
      obtain ⟨k1, -, -⟩ := two HU3.out rfl (.int .i64 4) (.slice none 0 0)
      refine bodyPost_ret (results_cell_row Try.results22 _ _ u _ _ _ _ rfl k1 Try.underlying29 rfl (unitSize _ rfl)) rfl ?_
      rw [HCl.out]
      exact HAns.out
theorem endLine_any (w : World) (p : Nat) (F done line : List Nat) (hC : Ck w p F done (line ++ [13, 10]) 0 false) (hb : done.length + line.length ≤ 1000000) :
    Calls Try.prog 22 #[.pointer (some ⟨p, 0, none⟩)] w fun e w' => LineAns w p F (close done line).1 (close done line).2 e w' := by
  by_cases hl : 2000 < line.length
  · exact endLong_any w p F done line hC hl hb
  · exact endShort_any w p F done line hC hl hb
end Go.Proofs.Ytihcgbjmgfgenaa.lx
