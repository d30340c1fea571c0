/- What the document's own Like answers. -/
import Derived.Test.YtcdfaikbmidkeaaDoorNamD
namespace Go.Proofs.YtcdfaikbmidkeaaDoor.nam
open Go.ChangeShapes Go.WideShapes Go.ChangeAt Go.RowKit
set_option linter.unusedVariables false
set_option linter.unusedSimpArgs false

theorem info4 : (Tryd.prog.info? 4).map (fun i => (i.zero, i.size, i.bytes)) = some (some (.bool false), 1, 1) := by kernel_rfl
/-- A row of bools. -/
def brow (N : Nat) (F : Nat → Bool) : List Value := (List.range N).map fun x => Value.bool (F x)
theorem brow_length (N : Nat) (F : Nat → Bool) : (brow N F).length = N := by simp [brow]
theorem brow_at (N : Nat) (F : Nat → Bool) (k : Nat) (h : k < N) : (brow N F)[k]? = some (.bool (F k)) := by simp [brow, h]
theorem brow_set (N : Nat) (F G : Nat → Bool) (k : Nat) (h : k < N) (hk : ∀ x, x < N → x ≠ k → F x = G x) : (brow N F).set k (.bool (G k)) = brow N G := by
  apply List.ext_getElem?
  intro j
  by_cases hj : j < N
  · rw [brow_at N G j hj]
    by_cases hjk : j = k
    · subst hjk
      rw [List.getElem?_set_self (by rw [brow_length]; exact h)]
    · rw [List.getElem?_set_ne (Ne.symm hjk), brow_at N F j hj, hk j hj hjk]
  · rw [List.getElem?_eq_none (by rw [List.length_set, brow_length]; omega), List.getElem?_eq_none (by rw [brow_length]; omega)]
theorem brow_congr (N : Nat) (F G : Nat → Bool) (hk : ∀ x, x < N → F x = G x) : brow N F = brow N G := by
  unfold brow
  apply List.map_congr_left
  intro x hx
  rw [hk x (List.mem_range.1 hx)]
theorem brow_false (N : Nat) : (madeCells #[Value.bool false] N).toList = brow N fun _ => false := by
  rw [toList_madeCells_one (.bool false) N]
  unfold brow
  rw [List.map_const']
  simp
def Bo (w : World) (B g N : Nat) (F : Nat → Bool) : Prop := w.ownsRow B 4 1 (.slice (some ⟨g, 0, none⟩) N N) N (brow N F)
theorem Bo.at {w : World} {B g N : Nat} {F : Nat → Bool} (h : Bo w B g N F) (k : Nat) (hk : k < N) : w.cell? ⟨g, k, none⟩ = some (.bool (F k)) := by
  rw [World.ownsRow.cellAt h k (by omega), brow_at N F k hk]
theorem Bo.frozen {w : World} {B g N : Nat} {F : Nat → Bool} (h : Bo w B g N F) (k : Nat) : w.frozen? ⟨g, k, none⟩ = false := World.ownsRow.frozenAt h k
theorem Bo.lt {w : World} {B g N : Nat} {F : Nat → Bool} (h : Bo w B g N F) : B ≤ g ∧ g < w.heap.size := World.ownsRow.lt h g rfl
theorem Bo.set {w : World} {B g N : Nat} {F : Nat → Bool} (h : Bo w B g N F) (k : Nat) (hk : k < N) (G : Nat → Bool) (hG : ∀ x, x < N → x ≠ k → F x = G x) : Bo (w.setCell ⟨g, k, none⟩ (.bool (G k))) B g N G := by
  have := (World.ownsRow.stored h k (.bool (G k))).1
  rw [brow_set N F G k hk hG] at this
  exact this
theorem Bo.other {w : World} {B g N : Nat} {F : Nat → Bool} (h : Bo w B g N F) (a : Addr) (v : Value) (ha : a.block ≠ g) : Bo (w.setCell a v) B g N F := by
  refine World.ownsRow.kept h (row := some a.block) ⟨rfl, rfl, rfl, by simp, fun k _ hk => Below.heap_setCell _ _ _ _ (fun e => hk (by rw [e]))⟩ (.inr ?_)
  intro e
  simp [Value.ownBlock] at e
  exact ha e.symm
theorem Bo.grown {w w' : World} {B g N : Nat} {F : Nat → Bool} (h : Bo w B g N F) (hg : w.grownBy w' none) : Bo w' B g N F := World.ownsRow.kept h hg (.inr (by simp [Value.ownBlock]))
theorem Bo.drewN {w : World} {B g N : Nat} {F : Nat → Bool} (h : Bo w B g N F) (q : Nat) : Bo (w.drewN q) B g N F := h
theorem below_drewN {B : Nat} {a w : World} (h : Below B a w) (n : Nat) : Below B a (w.drewN n) := ⟨h.os, h.tape, h.output, h.size, h.block⟩

theorem prevA_star (c : Nat) (hc : c = 42 ∨ c = 37) (s : ByteArray) (n : Nat) (a : Nat → Bool) (k : Nat) (hk : k < n) : prevA c s n a k = (a k || (prevA c s n a (k + 1) && open_ (c == 42) s k)) := by
  obtain ⟨d, hd⟩ : ∃ d, n - (k + 1) = d := ⟨_, rfl⟩
  have e1 : n - k = d + 1 := by omega
  have e2 : n - (d + 1) = k := by omega
  unfold prevA
  rcases hc with rfl | rfl
  · simp [e1, hd, aS, e2]
  · simp [e1, hd, aS, e2]
theorem prevA_star_end (c : Nat) (hc : c = 42 ∨ c = 37) (s : ByteArray) (n : Nat) (a : Nat → Bool) : prevA c s n a n = a n := by
  unfold prevA
  rcases hc with rfl | rfl <;> simp [aS]
theorem A_step (p s : ByteArray) (i : Nat) (h : i < p.size) : A p s (p.size - i) = prevA (byt p i) s s.size (A p s (p.size - (i + 1))) := by
  obtain ⟨d, hd⟩ : ∃ d, p.size - (i + 1) = d := ⟨_, rfl⟩
  have e1 : p.size - i = d + 1 := by omega
  rw [e1, hd]
  show prevA (byt p (p.size - (d + 1))) s s.size (A p s d) = _
  rw [show p.size - (d + 1) = i by omega]

/-- A goal that nobody unfolds. -/
structure Box (p : Prop) : Prop where
  out : p
theorem box_step {P : Program} {ops : Array Oper} {w : World} {Q : Act → Prop} {a : Act} {o : Oper} {rest : List Oper}
    (h : ∀ K : Act → Prop, (∀ a, Box (wpStill P ops w Q rest a) → K a) → if Region.wanted o (yielded ops a.tmps) then o.still P a w K else K (a.put o.dst undef)) : Box (wpStill P ops w Q (o :: rest) a) :=
  ⟨wpStill_step fun K hK => h K fun a hb => hK a hb.out⟩
theorem box_skip {P : Program} {ops : Array Oper} {w : World} {Q : Act → Prop} {a : Act} {o : Oper} {rest : List Oper} (hg : Region.wanted o (yielded ops a.tmps) = false) (h : Box (wpStill P ops w Q rest (a.put o.dst undef))) : Box (wpStill P ops w Q (o :: rest) a) := by
  refine ⟨?_⟩
  unfold wpStill
  rw [hg]
  exact h.out
theorem box_nil {P : Program} {ops : Array Oper} {w : World} {Q : Act → Prop} {a : Act} (h : Q a) : Box (wpStill P ops w Q [] a) := ⟨h⟩

set_option maxRecDepth 50000 in
set_option maxHeartbeats 4000000 in
theorem rLike_any (w : World) (p s : ByteArray) (hp : p.size ≤ 900) (hs : s.size ≤ 900) :
    Calls Tryd.prog 12 #[.string p, .string s] w fun e w' => e = .returned (.bool (LK p s)) ∧ Below w.heap.size w w' := by
  obtain ⟨i0, hi, hz0, hz1, hz2⟩ := info_parts info4
  go_enter Tryd.func12, Tryd.ntmps12
  go_wp2_with (at_make; refine wpList_make_full w rfl _ _ 33 rfl w.heap.size 4 i0 (.bool false) 1 Tryd.underlying33 hi hz0 hz1 _ _ _ _ (s.size + 1) rfl rfl ?c1 ?c2 ?c3 ?c4 ?c5 ?_)
  case c1 => simp
  case c2 => simp
  case c3 => rw [hz2]; omega
  case c4 => unfold maxLen; omega
  case c5 => exact Nat.le_refl _
  intro w1 hown hgrow
  have hBo : Bo w1 w.heap.size w.heap.size (s.size + 1) (fun _ => false) := by unfold Bo; rw [← brow_false]; exact hown
  have hb1 : Below w.heap.size w w1 := (Below.refl _ _).grown hgrow (Nat.le_refl _) (fun k hk => by cases hk)
  have hc := hBo.at s.size (by omega)
  have hf := hBo.frozen s.size
  have hBo2 := hBo.set s.size (by omega) (A p s 0) (fun x hx hne => by simp [A]; omega)
  rw [show A p s 0 s.size = true by simp [A]] at hBo2
  have HBo2 := Lib.hid hBo2
  have HB2 := Lib.hid (hb1.setCell (p := ⟨w.heap.size, s.size, none⟩) (Nat.le_refl _) (.bool true))
  clear hown hgrow hBo hBo2 hb1
  go_wp2
  go_loopw [5, 6] (fun x y wr => ∃ (d : Nat) (z : Int) (g : Nat), d ≤ p.size ∧ y = .int .i64 z ∧ z = (d : Int) - 1 ∧ x = .slice (some ⟨g, 0, none⟩) (s.size + 1) (s.size + 1) ∧ Hid (Bo wr w.heap.size g (s.size + 1) (A p s (p.size - d))) ∧ Hid (Below w.heap.size w wr)) (fun _ y _ => (intOf y + 1).toNat)
  case atStart => exact ⟨p.size, _, w.heap.size, Nat.le_refl _, rfl, rfl, rfl, by rw [Nat.sub_self]; exact HBo2, HB2⟩
  case round =>
    clear HBo2 HB2 hc hf
    obtain ⟨d, z, g, hd, rfl, hz, rfl, hN, hb⟩ := hrel
    cases d with
    | zero =>
      obtain rfl : z = -1 := by omega
      clear hz
      have hc := hN.out.at 0 (by omega)
      rw [Nat.sub_zero] at hc
      obtain ⟨x, hx⟩ : ∃ x, A p s p.size 0 = x := ⟨_, rfl⟩
      rw [hx] at hc
      have HX : Hid (LK p s = x) := hx
      clear hx hN
      go_wp2
      go_ret
      exact ⟨by rw [HX.out]; rfl, hb.out⟩
    | succ i =>
      obtain rfl : z = (i : Int) := by omega
      have hip : i < p.size := by omega
      have hBr : w.heap.size ≤ wr.heap.size := hb.out.size
      have hgl := hN.out.lt.2
      clear hd hz
      go_wp2_with (at_make; refine wpList_make_full wr rfl _ _ 33 rfl w.heap.size 4 i0 (.bool false) 1 Tryd.underlying33 hi hz0 hz1 _ _ _ _ (s.size + 1) rfl rfl ?c1 ?c2 ?c3 ?c4 ?c5 ?_)
      case c1 => simp
      case c2 => simp
      case c3 => rw [hz2]; omega
      case c4 => unfold maxLen; omega
      case c5 => exact hBr
      intro w1 hown hgrow
      obtain ⟨h, hh⟩ : ∃ h, wr.heap.size = h := ⟨_, rfl⟩
      have hNo : Hid (Bo w1 w.heap.size h (s.size + 1) (fun _ => false)) := by show Bo _ _ _ _ _; unfold Bo; rw [← brow_false, ← hh]; exact hown
      have hN1 := Lib.hid (hN.out.grown hgrow)
      have hb1 := Lib.hid (hb.out.grown hgrow hBr (fun k hk => by cases hk))
      rw [hh] at hgl ⊢
      have hBh : w.heap.size ≤ h := hh ▸ hBr
      clear hown hgrow hh hN hb hBr
      go_wp2
      obtain ⟨c, hc⟩ : ∃ c, byt p i = c := ⟨_, rfl⟩
      have hc256 : c < 256 := hc ▸ byt_lt p i
      have e1 : (p[i]).toNat = c := by rw [byt_at]; exact hc
      have hA := A_step p s i hip
      rw [hc] at hA
      obtain ⟨a, ha⟩ : ∃ a, A p s (p.size - (i + 1)) = a := ⟨_, rfl⟩
      rw [ha] at hA hN1
      obtain ⟨b, hb0⟩ : ∃ b, prevA c s s.size a = b := ⟨_, rfl⟩
      rw [hb0] at hA
      have HA := Lib.hid hA
      have HB0 := Lib.hid hb0
      clear ha hA hb0 hc
      go_loopw [8] (fun y wr => ∃ (q : Nat) (z : Int), q ≤ s.size + 1 ∧ y = .int .i64 z ∧ z = (q : Int) - 1 ∧ Hid (Bo wr w.heap.size h (s.size + 1) (fun x => decide (q ≤ x) && b x)) ∧ Hid (Bo wr w.heap.size g (s.size + 1) a) ∧ Hid (Below w.heap.size w wr)) (fun y _ => (intOf y + 1).toNat)
      case atStart =>
        refine ⟨s.size + 1, _, Nat.le_refl _, rfl, by omega, ?_, hN1, hb1⟩
        have := hNo.out
        unfold Bo at this ⊢
        rw [brow_congr _ (fun x => decide (s.size + 1 ≤ x) && b x) (fun _ => false) (fun x hx => by simp; omega)]
        exact this
      case round =>
        clear hNo hN1 hb1
        obtain ⟨q, z, hq, rfl, hz, hH, hG, hb⟩ := hrel
        cases q with
        | zero =>
          obtain rfl : z = -1 := by omega
          clear hz
          go_wp2
          refine ⟨⟨i, _, h, by omega, rfl, by omega, rfl, ?_, hb⟩, by simp [intOf] <;> omega⟩
          have := hH.out
          rw [HA.out]
          unfold Bo at this ⊢
          rw [← brow_congr _ (fun x => decide (0 ≤ x) && b x) b (fun x hx => by simp)]
          exact this
        | succ k =>
          obtain rfl : z = (k : Int) := by omega
          have hne : g ≠ h := by omega
          have hk1 := hH.out.at k (by omega)
          have hfz := hH.out.frozen k
          have ha1 := hG.out.at k (by omega)
          have hset := fun wr' => fun (H : Bo wr' w.heap.size h (s.size + 1) (fun x => decide (k + 1 ≤ x) && b x)) => H.set k (by omega) (fun x => decide (k ≤ x) && b x) (fun x hx hx2 => by rw [show decide (k + 1 ≤ x) = decide (k ≤ x) from by (rw [decide_eq_decide]; omega)])
          simp only [show decide (k + 1 ≤ k) = false by simp, show decide (k ≤ k) = true by simp, Bool.false_and, Bool.true_and] at hk1 hset
          have hfin : ∀ (v : Value) (q : Nat), v = .bool (b k) → Hid (Bo ((wr.setCell ⟨h, k, none⟩ v).drewN q) w.heap.size h (s.size + 1) (fun x => decide (k ≤ x) && b x)) ∧ Hid (Bo ((wr.setCell ⟨h, k, none⟩ v).drewN q) w.heap.size g (s.size + 1) a) ∧ Hid (Below w.heap.size w ((wr.setCell ⟨h, k, none⟩ v).drewN q)) := by
            rintro v q rfl
            exact ⟨(hset wr hH.out).drewN q, (hG.out.other _ _ (Ne.symm hne)).drewN q, below_drewN (hb.out.setCell hBh _) q⟩
          have HF : Hid (∀ (v : Value), v = .bool (b k) → Hid (Bo (wr.setCell ⟨h, k, none⟩ v).drew w.heap.size h (s.size + 1) (fun x => decide (k ≤ x) && b x)) ∧ Hid (Bo (wr.setCell ⟨h, k, none⟩ v).drew w.heap.size g (s.size + 1) a) ∧ Hid (Below w.heap.size w (wr.setCell ⟨h, k, none⟩ v).drew)) := fun v e => ⟨World.ownsRow.drew (hfin v 0 e).1, World.ownsRow.drew (hfin v 0 e).2.1, Below.drew (hfin v 0 e).2.2⟩
          have HF0 : Hid (∀ (v : Value), v = .bool (b k) → Hid (Bo (wr.setCell ⟨h, k, none⟩ v) w.heap.size h (s.size + 1) (fun x => decide (k ≤ x) && b x)) ∧ Hid (Bo (wr.setCell ⟨h, k, none⟩ v) w.heap.size g (s.size + 1) a) ∧ Hid (Below w.heap.size w (wr.setCell ⟨h, k, none⟩ v))) := fun v e => hfin v 0 e
          clear hset hfin hz
          by_cases hstar : c = 42 ∨ c = 37
          · by_cases hkn : k < s.size
            · have hk2 := hH.out.at (k + 1) (by omega)
              simp only [show decide (k + 1 ≤ k + 1) = true by simp, Bool.true_and] at hk2
              obtain ⟨d, hd⟩ : ∃ d, byt s k = d := ⟨_, rfl⟩
              have e2 : (s[k]).toNat = d := by rw [byt_at]; exact hd
              have hb2 := prevA_star c hstar s s.size a k hkn
              rw [HB0.out] at hb2
              unfold open_ at hb2
              rw [hd] at hb2
              obtain ⟨x, hx⟩ : ∃ x, a k = x := ⟨_, rfl⟩
              obtain ⟨y, hy⟩ : ∃ y, b (k + 1) = y := ⟨_, rfl⟩
              rw [hx, hy] at hb2
              rw [hx] at ha1
              rw [hy] at hk2
              have HB2 := Lib.hid hb2
              clear hb2 hd hx hy hH hG hb
              rcases hstar with rfl | rfl
              · go_wp2
                all_goals
                  refine ⟨⟨k, _, by omega, rfl, rfl, (HF0.out _ ?_).1, (HF0.out _ ?_).2.1, (HF0.out _ ?_).2.2⟩, by simp [intOf] <;> omega⟩
                all_goals (congr 1; rw [HB2.out, Bool.eq_iff_iff]; simp [*])
              · go_wp2
                all_goals
                  refine ⟨⟨k, _, by omega, rfl, rfl, (HF0.out _ ?_).1, (HF0.out _ ?_).2.1, (HF0.out _ ?_).2.2⟩, by simp [intOf] <;> omega⟩
                all_goals (congr 1; rw [HB2.out, Bool.eq_iff_iff]; simp [*] <;> omega)
            · obtain rfl : k = s.size := by omega
              have hb2 := prevA_star_end c hstar s s.size a
              rw [HB0.out] at hb2
              obtain ⟨x, hx⟩ : ∃ x, a s.size = x := ⟨_, rfl⟩
              rw [hx] at hb2 ha1
              have HB2 := Lib.hid hb2
              clear hb2 hx hH hG hb
              rcases hstar with rfl | rfl
              · go_wp2
                all_goals
                  refine ⟨⟨s.size, _, by omega, rfl, rfl, (HF0.out _ ?_).1, (HF0.out _ ?_).2.1, (HF0.out _ ?_).2.2⟩, by simp [intOf] <;> omega⟩
                all_goals (congr 1; rw [HB2.out, Bool.eq_iff_iff]; simp [*])
              · go_wp2
                all_goals
                  refine ⟨⟨s.size, _, by omega, rfl, rfl, (HF0.out _ ?_).1, (HF0.out _ ?_).2.1, (HF0.out _ ?_).2.2⟩, by simp [intOf] <;> omega⟩
                all_goals (congr 1; rw [HB2.out, Bool.eq_iff_iff]; simp [*])
          · have g1 : ((c : Int) == 42) = false := by simp; omega
            have g2 : ((c : Int) == 37) = false := by simp; omega
            have hb2 : b k = (decide (k < s.size) && byt s k == c && a (k + 1)) := by
              rw [← HB0.out]
              unfold prevA
              rw [if_neg (fun e => hstar (.inl e)), if_neg (fun e => hstar (.inr e))]
            by_cases hkn : k < s.size
            · obtain ⟨d, hd⟩ : ∃ d, byt s k = d := ⟨_, rfl⟩
              have e2 : (s[k]).toNat = d := by rw [byt_at]; exact hd
              rw [hd] at hb2
              by_cases hdc : d = c
              · subst hdc
                have ha2 := hG.out.at (k + 1) (by omega)
                obtain ⟨x, hx⟩ : ∃ x, a (k + 1) = x := ⟨_, rfl⟩
                rw [hx] at hb2 ha2
                have HB2 : Hid (b k = x) := by show _ = _; rw [hb2]; simp [hkn]
                clear hb2 hd hx hH hG hb hstar
                go_wp2
                have k1 : (0 : Int) ≤ (k : Int) := by omega
                have k2 : (k : Int) < (s.size : Int) := by omega
                have k3 : (0 : Int) ≤ (i : Int) := by omega
                have k4 : (i : Int) < (p.size : Int) := by omega
                have k5 : (k : Int) + 1 < (s.size : Int) + 1 := by omega
                have k6 : (k : Int) < (s.size : Int) + 1 := by omega
                have k7 : (0 : Int) ≤ (k : Int) + 1 := by omega
                have w1 : IntKind.i64.wrap ((k : Int) + 1) = (k : Int) + 1 := IntWalk.i64_in _ (by omega)
                have t1 : ((k : Int) + 1).toNat = k + 1 := by omega
                go_still_tail 23, (by kernel_rfl)
                go_wp2
                refine ⟨⟨k, _, by omega, rfl, rfl, (HF.out _ ?_).1, (HF.out _ ?_).2.1, (HF.out _ ?_).2.2⟩, by simp [intOf] <;> omega⟩
                all_goals (congr 1; exact HB2.out.symm)
              · have hdc' : ((d : Int) == (c : Int)) = false := by simp; omega
                have HB2 : Hid (b k = false) := by show _ = _; rw [hb2]; simp [hdc]
                clear hb2 hd hH hG hb hstar hdc
                go_wp2
                have k1 : (0 : Int) ≤ (k : Int) := by omega
                have k2 : (k : Int) < (s.size : Int) := by omega
                have k3 : (0 : Int) ≤ (i : Int) := by omega
                have k4 : (i : Int) < (p.size : Int) := by omega
                have k6 : (k : Int) < (s.size : Int) + 1 := by omega
                refine wp_region_still_tail 23 (by kernel_rfl) (by kernel_rfl) ?_
                simp only [List.take_succ_cons, List.take_zero, List.drop_succ_cons, List.drop_zero]
                refine Box.out ?_
                iterate 16 (refine box_step (fun K hK => ?_); go_simp; refine hK _ ?_; clear hK K)
                iterate 5 (refine box_skip (by kernel_rfl) ?_)
                iterate 2 (refine box_step (fun K hK => ?_); go_simp; refine hK _ ?_; clear hK K)
                refine box_nil ?_
                go_wp2
                refine ⟨⟨k, _, by omega, rfl, rfl, (HF.out _ ?_).1, (HF.out _ ?_).2.1, (HF.out _ ?_).2.2⟩, by simp [intOf] <;> omega⟩
                all_goals (congr 1; exact HB2.out.symm)
            · obtain rfl : k = s.size := by omega
              have HB2 : Hid (b s.size = false) := by show _ = _; rw [hb2]; simp
              clear hb2 hH hG hb hstar
              go_wp2
              have k1 : (0 : Int) ≤ (s.size : Int) := by omega
              have k6 : (s.size : Int) < (s.size : Int) + 1 := by omega
              have k7 : decide ((s.size : Int) < (s.size : Int)) = false := by simp
              refine wp_region_still_tail 23 (by kernel_rfl) (by kernel_rfl) ?_
              simp only [List.take_succ_cons, List.take_zero, List.drop_succ_cons, List.drop_zero]
              refine Box.out ?_
              iterate 7 (refine box_step (fun K hK => ?_); go_simp; refine hK _ ?_; clear hK K)
              iterate 7 (refine box_skip (by kernel_rfl) ?_)
              iterate 2 (refine box_step (fun K hK => ?_); go_simp; refine hK _ ?_; clear hK K)
              iterate 5 (refine box_skip (by kernel_rfl) ?_)
              iterate 2 (refine box_step (fun K hK => ?_); go_simp; refine hK _ ?_; clear hK K)
              refine box_nil ?_
              go_wp2
              refine ⟨⟨s.size, _, by omega, rfl, rfl, (HF.out _ ?_).1, (HF.out _ ?_).2.1, (HF.out _ ?_).2.2⟩, by simp [intOf] <;> omega⟩
              all_goals (congr 1; exact HB2.out.symm)
end Go.Proofs.YtcdfaikbmidkeaaDoor.nam
