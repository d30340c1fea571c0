/- The document's Restart. -/
import Derived.Test.YtedhbcaakdfcbaaFf
import Derived.Test.YtedhbcaakdfcbaaO
namespace Go.Proofs.Ytedhbcaakdfcbaa.disk
open Go.ChangeShapes Go.WideShapes Go.ChangeAt Go.RowKit Go.Maps Go.WideMaps
set_option linter.unusedVariables false
set_option linter.unusedSimpArgs false

theorem wpList_append_files {ops : Array Oper} {rest : List Oper} {o : Oper} {a : Act} {w : World} {Q : Exit → Act → World → Prop} (hgd : o.guard = none) (s x : Operand)
    (ho : o.op = .call { callee := .builtin .append, args := #[s, x], argTypes := #[30, 30] })
    (base : Nat) (v : Value) (xs : List RF) (hs : a.eval s = v) (hown : w.ownsRow base 60 4 v xs.length (cellsF xs)) (hbase : base ≤ w.heap.size)
    (A : Option Addr) (m c : Nat) (ys : List RF) (hx : a.eval x = .slice A m c) (hS : Src w A m c ys) (hbound : xs.length + m ≤ 1000000)
    (h : ∀ v' w', w'.ownsRow base 60 4 v' (xs ++ ys).length (cellsF (xs ++ ys)) → w.grownBy w' v.ownBlock → (v'.ownBlock = v.ownBlock ∨ v'.ownBlock = some w.heap.size) → wpList Try.prog ops Q rest (a.put o.dst v') w') : wpList Try.prog ops Q (o :: rest) a w := by
  refine wpList_plain hgd fun K hK => ?_
  obtain ⟨v', w', hr, h1, h2, h4⟩ := run_append_files w o.type base v xs hown hbase A m c ys hS hbound
  unfold Oper.wp execOp
  simp only [ho, resolve, invoke, builtin, Sem.run_bind, Sem.run_pure, Result.andThen_ok, List.map_toArray, List.map_cons, List.map_nil, hs, hx, hr]
  exact hK _ _ (h v' w' h1 h2 h4)
theorem wpList_build_one {ops : Array Oper} {rest : List Oper} {o : Oper} {a : Act} {w : World} {Q : Exit → Act → World → Prop} (hgd : o.guard = none) (e : Operand) (ho : o.op = .buildSlice 30 1 #[(0, e)]) (x : RF) (he : a.eval e = .agg x.cells.toArray)
    (h : wpList Try.prog ops Q rest (a.put o.dst (.slice (some ⟨w.heap.size, 0, none⟩) 1 1)) (w.alloc (.cells x.cells.toArray 60))) : wpList Try.prog ops Q (o :: rest) a w := by
  refine wpList_plain hgd fun K hK => ?_
  obtain ⟨i0, hi, hz0, hz1, hz2⟩ := info_parts info60
  refine wp_buildSlice 30 60 1 #[(0, e)] ho x.cells.toArray i0 _ Try.underlying30 hi hz0 (by rw [hz1]; decide) (by rw [hz1]; decide) ?_ (hK _ _ h)
  rw [hz1]
  have hm : (#[((0 : Nat), e)].map fun (i, x) => (i, a.eval x)).toList = [(0, a.eval e)] := by simp
  rw [hm, he]
  have hr : Array.range (1 * 4) = #[0, 1, 2, 3] := by kernel_rfl
  rw [hr]
  simp [Instr.fill, RF.cells, Value.cells, List.zipIdx]
/-- The row that a restart makes. -/
structure Kept (w : World) (base p : Nat) (v : Value) (xs : List RF) (keep : List Int) (k nth : Nat) (vz : Value) (zs : List RF) (wr : World) : Prop where
  fresh : Fresh w base vz zs wr
  lies : ∀ x ∈ zs, Lies wr p wr.heap.size x ∧ ∀ ad, x.A = some ad → 0 < x.n → vz.ownBlock ≠ some ad.block
  foot : ∀ x ∈ zs, ∀ ad, x.A = some ad → 0 < x.n → RFoot p v xs ad.block ∨ w.heap.size ≤ ad.block
  eq : absF zs ++ rLeft keep (absF (xs.drop k)) nth = rLeft keep (absF xs) 0
  nth : nth ≤ k
  len : zs.length ≤ k
theorem kept_start {w : World} {base p : Nat} {v : Value} {xs : List RF} {keep : List Int} : Kept w base p v xs keep 0 0 (.slice none 0 0) [] w :=
  ⟨⟨⟨rfl, .inl ⟨rfl, rfl⟩⟩, fun g e => by simp [Value.ownBlock] at e, Below.refl _ _⟩, fun x hx => by simp at hx, fun x hx => by simp at hx, by simp [absF], Nat.le_refl _, Nat.le_refl _⟩
theorem below_touch {a b : World} (h : Touch (fun _ => False) a b) : Below a.heap.size a b := h.toBelow _ (Nat.le_refl _) (fun _ _ e => e)
theorem Lies.later {w w' : World} {p : Nat} {x : RF} (h : Lies w p w.heap.size x) (hb : Below w.heap.size w w') : Lies w' p w'.heap.size x :=
  ⟨h.bytes.belowS hb, fun ad e h0 => ⟨(h.apart ad e h0).1, Nat.lt_of_lt_of_le (h.apart ad e h0).2 hb.size⟩, h.nil_, h.le⟩
theorem Kept.skip {w : World} {base p : Nat} {v : Value} {xs : List RF} {keep : List Int} {k nth m : Nat} {vz : Value} {zs : List RF} {wr w1 : World} (h : Kept w base p v xs keep k nth vz zs wr) (ht : Touch (fun _ => False) wr w1) (hm : m ≤ k + 1) (he : rLeft keep (absF (xs.drop k)) nth = rLeft keep (absF (xs.drop (k + 1))) m) : Kept w base p v xs keep (k + 1) m vz zs w1 :=
  ⟨h.fresh.later (below_touch ht), fun x hx => ⟨(h.lies x hx).1.later (below_touch ht), (h.lies x hx).2⟩, h.foot, by rw [← he]; exact h.eq, hm, Nat.le_succ_of_le h.len⟩
theorem Kept.add {w : World} {base p : Nat} {v : Value} {xs : List RF} {keep : List Int} {k nth m : Nat} {vz v' : Value} {zs : List RF} {wr w1 w2 : World} (h : Kept w base p v xs keep k nth vz zs wr) (ht : Touch (fun _ => False) wr w1) (y : RF) (hB : Bytes w1 y.A y.n y.f.l) (hA : ∀ ad, y.A = some ad → 0 < y.n → ad.block ≠ p ∧ vz.ownBlock ≠ some ad.block ∧ (RFoot p v xs ad.block ∨ w.heap.size ≤ ad.block)) (hnil : y.A = none → y.c = 0) (hle : y.n ≤ y.c)
    (ho : w2.ownsRow base 60 4 v' (zs ++ [y]).length (cellsF (zs ++ [y]))) (hg : w1.grownBy w2 vz.ownBlock) (ha : v'.ownBlock = vz.ownBlock ∨ v'.ownBlock = some w1.heap.size) (hm : m ≤ k + 1) (he : rLeft keep (absF (xs.drop k)) nth = (keyF y, y.f) :: rLeft keep (absF (xs.drop (k + 1))) m) : Kept w base p v xs keep (k + 1) m v' (zs ++ [y]) w2 := by
  have hF := h.fresh.later (below_touch ht)
  have hkeep : ∀ x : RF, Lies w1 p w1.heap.size x → (∀ ad, x.A = some ad → 0 < x.n → vz.ownBlock ≠ some ad.block) → Lies w2 p w2.heap.size x ∧ ∀ ad, x.A = some ad → 0 < x.n → v'.ownBlock ≠ some ad.block := fun x hl hn => by
    refine ⟨⟨hl.bytes.kept fun ad e h0 => hg.block _ (hl.apart ad e h0).2 (fun e2 => hn ad e h0 e2.symm), fun ad e h0 => ⟨(hl.apart ad e h0).1, Nat.lt_of_lt_of_le (hl.apart ad e h0).2 hg.size⟩, hl.nil_, hl.le⟩, fun ad e h0 e2 => ?_⟩
    rcases ha with ha | ha
    · exact hn ad e h0 (by rw [← ha]; exact e2)
    · rw [ha] at e2
      have := Option.some.inj e2
      have := (hl.apart ad e h0).2
      omega
  refine ⟨hF.more ho hg ha, fun x hx => ?_, fun x hx => ?_, ?_, hm, ?_⟩
  · rcases List.mem_append.1 hx with hx | hx
    · exact hkeep x ((h.lies x hx).1.later (below_touch ht)) (h.lies x hx).2
    · obtain rfl : x = y := by simpa using hx
      exact hkeep x ⟨hB, fun ad e h0 => ⟨(hA ad e h0).1, hB.lt ad e h0⟩, hnil, hle⟩ (fun ad e h0 => (hA ad e h0).2.1)
  · rcases List.mem_append.1 hx with hx | hx
    · exact h.foot x hx
    · obtain rfl : x = y := by simpa using hx
      exact fun ad e h0 => (hA ad e h0).2.2
  · rw [← h.eq, he]
    simp [absF]
  · have := h.len
    simp
    omega
theorem left_step {keep : List Int} {xs : List RF} {k nth : Nat} (hk : k < xs.length) : rLeft keep (absF (xs.drop k)) nth = rLeft keep ((keyF xs[k], xs[k].f) :: absF (xs.drop (k + 1))) nth := by
  rw [List.drop_eq_getElem_cons hk]
  rfl
theorem left_whole {keep : List Int} {key : Nm} {f : File} {L : FL} {nth : Nat} (h : f.ever = true ∧ f.safe = f.l.length) : rLeft keep ((key, f) :: L) nth = (key, f) :: rLeft keep L nth := by
  rw [rLeft, if_pos h]
theorem left_gone {keep : List Int} {key : Nm} {f : File} {L : FL} {nth left : Nat} (h : ¬ (f.ever = true ∧ f.safe = f.l.length)) (hl : left = f.safe + (keptOf keep nth (f.l.length - f.safe)).toNat) (h0 : left = 0) (he : f.ever = false) : rLeft keep ((key, f) :: L) nth = rLeft keep L (nth + 1) := by
  rw [rLeft, if_neg h, if_pos ⟨by rw [← hl]; exact h0, he⟩]
theorem left_cut {keep : List Int} {key : Nm} {f : File} {L : FL} {nth left : Nat} (h : ¬ (f.ever = true ∧ f.safe = f.l.length)) (hl : left = f.safe + (keptOf keep nth (f.l.length - f.safe)).toNat) (h0 : ¬ (left = 0 ∧ f.ever = false)) : rLeft keep ((key, f) :: L) nth = (key, ⟨f.l.take left, left, true⟩) :: rLeft keep L (nth + 1) := by
  rw [rLeft, if_neg h, if_neg (by rw [← hl]; exact h0), ← hl]
/-- The end of a restart. -/
theorem kept_end {w wr : World} {base p : Nat} {v vz : Value} {cap fuse : Int} {lost : Bool} {xs zs : List RF} {keep : List Int} {nth : Nat} (h : Ref w base p v cap fuse lost xs) (hK : Kept w base p v xs keep xs.length nth vz zs wr) :
    ∃ v' xs', Ref (((wr.setCell ⟨p, 0 + 1, none⟩ vz).setCell ⟨p, 3, none⟩ (.bool false)).setCell ⟨p, 2, none⟩ (.int .i64 (-1))) base p v' cap (-1) false xs' ∧ absF xs' = rLeft keep (absF xs) 0 ∧ Touch (RFoot p v xs) w (((wr.setCell ⟨p, 0 + 1, none⟩ vz).setCell ⟨p, 3, none⟩ (.bool false)).setCell ⟨p, 2, none⟩ (.int .i64 (-1))) ∧ ∀ j, RFoot p v' xs' j → RFoot p v xs j ∨ w.heap.size ≤ j := by
  obtain ⟨r1, r2⟩ := ref_files h hK.fresh hK.lies (Nat.le_trans hK.len h.few)
  refine ⟨vz, zs, ref_own (ref_own (lost' := false) r1 rfl) rfl, by have := hK.eq; simpa [absF, rLeft] using this, ?_, fun j hj => ?_⟩
  · have := r2.mono (G := RFoot p v xs) fun _ _ e => .inl e
    exact (this.setCell ⟨p, 3, none⟩ (.inr (.inl rfl)) _).setCell ⟨p, 2, none⟩ (.inr (.inl rfl)) _
  · rcases hj with hj | hj | ⟨x, hx, ad, h1, h2, h3⟩
    · exact .inl (.inl hj)
    · exact .inr (hK.fresh.new j hj)
    · rw [← h3]
      exact hK.foot x hx ad h1 h2
end Go.Proofs.Ytedhbcaakdfcbaa.disk
