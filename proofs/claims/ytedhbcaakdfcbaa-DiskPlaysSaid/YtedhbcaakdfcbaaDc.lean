/- Files put behind each other; drop, put. -/
import Derived.Test.YtedhbcaakdfcbaaDb
import Derived.Test.YtedhbcaakdfcbaaCa
namespace Go.Proofs.Ytedhbcaakdfcbaa.disk
open Go.ChangeShapes Go.WideShapes Go.ChangeAt Go.RowKit Go.Maps Go.WideMaps
set_option linter.unusedVariables false
set_option linter.unusedSimpArgs false

theorem info60 : (Try.prog.info? 60).map (fun i => (i.zero, i.size, i.bytes)) = some (some (.agg #[.string ⟨#[]⟩, .slice none 0 0, .int .i64 0, .bool false]), 4, 56) := by kernel_rfl
theorem cellsF_one (xs : List RF) : ∀ u ∈ cellsF xs, u.oneCell' = true := by
  intro u hu
  obtain ⟨x, _, hx⟩ := List.mem_flatMap.1 hu
  simp [RF.cells] at hx
  rcases hx with rfl | rfl | rfl | rfl <;> rfl
/-- Files that lie somewhere. -/
def Src (w : World) (A : Option Addr) (m c : Nat) (ys : List RF) : Prop := ys.length = m ∧ (A = none → m = 0 ∧ c = 0) ∧ ∀ ad, A = some ad → ∀ j u, (cellsF ys)[j]? = some u → w.cell? (ad.add j) = some u
theorem Src.below {w w' : World} {A : Option Addr} {m c : Nat} {ys : List RF} (h : Src w A m c ys) (hb : Below w.heap.size w w') : Src w' A m c ys := by
  refine ⟨h.1, h.2.1, fun ad e j u hu => ?_⟩
  have := h.2.2 ad e j u hu
  have hl := World.block_lt_of_cell? w _ this
  exact (hb.cell hl).trans this
theorem run_append_files (w : World) (ty : TypeId) (base : Nat) (v : Value) (xs : List RF) (hown : w.ownsRow base 60 4 v xs.length (cellsF xs)) (hbase : base ≤ w.heap.size)
    (A : Option Addr) (m c : Nat) (ys : List RF) (hS : Src w A m c ys) (hbound : xs.length + m ≤ 1000000) :
    ∃ v' w', (Builtin.append_ #[30, 30] ty #[v, .slice A m c]).run Try.prog w = .ok v' w' ∧ w'.ownsRow base 60 4 v' (xs ++ ys).length (cellsF (xs ++ ys)) ∧ w.grownBy w' v.ownBlock ∧ (v'.ownBlock = v.ownBlock ∨ v'.ownBlock = some w.heap.size) := by
  obtain ⟨i0, hi, hz0, hz1, hz2⟩ := info_parts info60
  obtain ⟨hl, hn, hc⟩ := hS
  cases A with
  | none =>
    obtain ⟨rfl, rfl⟩ := hn rfl
    obtain rfl : ys = [] := List.eq_nil_of_length_eq_zero hl
    refine ⟨v, w, ?_, by simpa using hown, World.grownBy.refl w _, .inl rfl⟩
    rcases hown.2 with ⟨rfl, h0⟩ | ⟨g, cap, cur, rfl, _, hg, hnc, _⟩
    · simp [Builtin.append_, run_underlying Try.underlying30, sizeOf, typeInfo, hi, Builtin.lenOf, Builtin.firstCells, loadCells, loadCellsFrom]
    · simp [Builtin.append_, run_underlying Try.underlying30, sizeOf, typeInfo, hi, Builtin.lenOf, Builtin.firstCells, hnc, storeCells, loadCells, loadCellsFrom]
  | some ad =>
    obtain ⟨v', w', hr, h1, h2, h3, h4⟩ := run_append_own_at (P := Try.prog) w base 30 ty 60 i0 _ 4 56 Try.underlying30 hi hz0 hz1 hz2 rfl (by decide) v xs.length (cellsF xs) hown ad m c (cellsF ys) (by rw [cellsF_length, hl]) (hc ad rfl) (cellsF_one ys) (by unfold maxLen; omega) (by omega) hbase
    refine ⟨v', w', hr, ?_, h2, h4⟩
    rw [List.length_append, hl, cellsF_append]
    exact h1
theorem step_append_files {ops : Array Oper} {o : Oper} {a : Act} {w : World} {K : Act → World → Prop} {Q : Exit → Act → World → Prop} {E : Prop} (hgd : o.guard = none) (s x : Operand)
    (ho : o.op = .call { callee := .builtin .append, args := #[s, x], argTypes := #[30, 30] })
    (base : Nat) (v : Value) (xs : List RF) (hs : a.eval s = v) (hown : w.ownsRow base 60 4 v xs.length (cellsF xs)) (hbase : base ≤ w.heap.size)
    (A : Option Addr) (m c : Nat) (ys : List RF) (hx : a.eval x = .slice A m c) (hS : Src w A m c ys) (hbound : xs.length + m ≤ 1000000)
    (h : ∀ v' w', w'.ownsRow base 60 4 v' (xs ++ ys).length (cellsF (xs ++ ys)) → w.grownBy w' v.ownBlock → (v'.ownBlock = v.ownBlock ∨ v'.ownBlock = some w.heap.size) → K (a.put o.dst v') w') :
    if Region.wanted o (yielded ops a.tmps) = true then Oper.wp Try.prog o a w K Q else E := by
  have hw : Region.wanted o (yielded ops a.tmps) = true := by simp [Region.wanted, hgd]
  rw [if_pos hw]
  obtain ⟨v', w', hr, h1, h2, h4⟩ := run_append_files w o.type base v xs hown hbase A m c ys hS hbound
  unfold Oper.wp execOp
  simp only [ho, resolve, invoke, builtin, Sem.run_bind, Sem.run_pure, Result.andThen_ok, List.map_toArray, List.map_cons, List.map_nil, hs, hx, hr]
  exact h v' w' h1 h2 h4
/-- A row that is being made, all of it new. -/
structure Fresh (w : World) (base : Nat) (v : Value) (zs : List RF) (w' : World) : Prop where
  rows : w'.ownsRow base 60 4 v zs.length (cellsF zs)
  new : ∀ g, v.ownBlock = some g → w.heap.size ≤ g
  below : Below w.heap.size w w'
theorem fresh_start {w : World} {base : Nat} (hB : base ≤ w.heap.size) : Fresh w base (.slice (some ⟨w.heap.size, 0, none⟩) 0 0) [] (w.drew.alloc (.cells #[] 60)) := by
  refine ⟨⟨rfl, .inr ⟨w.heap.size, 0, #[], rfl, hB, heap_alloc_new w.drew _, Nat.le_refl _, by simp, rfl, rfl⟩⟩, fun g e => Nat.le_of_eq (Option.some.inj e), (below_draws (Below.refl w.heap.size w) 1).alloc (Nat.le_refl _) _⟩
theorem Fresh.more {w w1 w2 : World} {base : Nat} {v v' : Value} {zs ys : List RF} (h : Fresh w base v zs w1) (ho : w2.ownsRow base 60 4 v' (zs ++ ys).length (cellsF (zs ++ ys))) (hg : w1.grownBy w2 v.ownBlock) (ha : v'.ownBlock = v.ownBlock ∨ v'.ownBlock = some w1.heap.size) : Fresh w base v' (zs ++ ys) w2 := by
  refine ⟨ho, fun g e => ?_, h.below.trans ⟨hg.os, hg.tape, hg.output, hg.size, fun k hk => hg.block k (Nat.lt_of_lt_of_le hk h.below.size) (fun e => by have := h.new k e.symm; omega)⟩⟩
  rcases ha with ha | ha
  · exact h.new g (by rw [← ha]; exact e)
  · rw [ha] at e
    have := Option.some.inj e
    have := h.below.size
    omega
theorem Fresh.later {w w1 w2 : World} {base : Nat} {v : Value} {zs : List RF} (h : Fresh w base v zs w1) (hb : Below w1.heap.size w1 w2) : Fresh w base v zs w2 :=
  ⟨h.rows.kept (row := none) ⟨hb.os, hb.tape, hb.output, hb.size, fun i hi _ => hb.block i hi⟩ (by cases hv : v.ownBlock <;> simp), h.new, h.below.trans (hb.mono h.below.size)⟩
theorem Fresh.form {w w' : World} {base : Nat} {v : Value} {zs : List RF} (h : Fresh w base v zs w') : ∃ A n cp, v = .slice A n cp := by
  rcases h.rows.2 with ⟨e, _⟩ | ⟨g, cap, cur, e, _⟩
  · exact ⟨_, _, _, e⟩
  · exact ⟨_, _, _, e⟩
/-- What holds of a file, beside a row that is all new. -/
structure Lies (w : World) (p B : Nat) (x : RF) : Prop where
  bytes : Bytes w x.A x.n x.f.l
  apart : ∀ ad, x.A = some ad → 0 < x.n → ad.block ≠ p ∧ ad.block < B
  nil_ : x.A = none → x.c = 0
  le : x.n ≤ x.c
/-- A new row is laid as the disk's files. -/
theorem ref_files {w w3 : World} {base p : Nat} {v v' : Value} {cap fuse : Int} {lost : Bool} {xs zs : List RF} (h : Ref w base p v cap fuse lost xs) (hF : Fresh w base v' zs w3) (hz : ∀ x ∈ zs, Lies w3 p w3.heap.size x ∧ ∀ ad, x.A = some ad → 0 < x.n → v'.ownBlock ≠ some ad.block) (hfew : zs.length ≤ 1000) :
    Ref (w3.setCell ⟨p, 0 + 1, none⟩ v') base p v' cap fuse lost zs ∧ Touch (fun j => j = p) w (w3.setCell ⟨p, 0 + 1, none⟩ v') := by
  have hg : w3.grownBy (w3.setCell ⟨p, 0 + 1, none⟩ v') (some p) := ⟨rfl, rfl, rfl, by simp, fun k _ hk => heap_setCell_other _ _ _ _ (by simpa using hk)⟩
  have hp : v'.ownBlock ≠ some p := fun e => by have := hF.new p e; have := h.lt; omega
  refine ⟨⟨?_, h.pb, hF.rows.kept hg (.inr hp), hp, fun x hx => (hz x hx).1.bytes.kept fun ad e h0 => heap_setCell_other _ _ _ _ ((hz x hx).1.apart ad e h0).1, fun x hx ad e h0 => ⟨((hz x hx).1.apart ad e h0).1, (hz x hx).2 ad e h0⟩, fun x hx => (hz x hx).1.nil_, fun x hx => (hz x hx).1.le, hfew⟩, (touch_below (F := fun j => j = p) hF.below).setCell ⟨p, 0 + 1, none⟩ (.inr rfl) _⟩
  rw [heap_setCell_same _ p (0 + 1) _ 32 _ ((hF.below.block p h.lt).trans h.head)]
  rfl
theorem Ref.lies {w w3 : World} {base p : Nat} {v v' : Value} {cap fuse : Int} {lost : Bool} {xs zs : List RF} (h : Ref w base p v cap fuse lost xs) (hF : Fresh w base v' zs w3) {x : RF} (hx : x ∈ xs) : Lies w3 p w3.heap.size x ∧ ∀ ad, x.A = some ad → 0 < x.n → v'.ownBlock ≠ some ad.block := by
  have hb := h.bytes x hx
  refine ⟨⟨hb.belowS hF.below, fun ad e h0 => ⟨(h.apart x hx ad e h0).1, Nat.lt_of_lt_of_le (hb.lt ad e h0) hF.below.size⟩, h.nil_ x hx, h.le x hx⟩, fun ad e h0 e2 => ?_⟩
  have h1 := hF.new _ e2
  have h2 := hb.lt ad e h0
  omega
/-- The files at the head of the row, and behind. -/
theorem Ref.src_take {w : World} {base p : Nat} {A : Option Addr} {n cp : Nat} {cap fuse : Int} {lost : Bool} {xs : List RF} (h : Ref w base p (.slice A n cp) cap fuse lost xs) (i : Nat) (hi : i ≤ xs.length) : Src w A i cp (xs.take i) := by
  rcases h.rows.2 with ⟨e, h0⟩ | ⟨g, cap', cur, e, hb, hg, hc, hm, hs, ht⟩
  · cases e
    exact ⟨by simp; omega, fun _ => ⟨by omega, rfl⟩, fun ad e => by cases e⟩
  · cases e
    refine ⟨by simp; omega, fun e => (by cases e), fun ad e j u hu => ?_⟩
    cases e
    have hj : j < i * 4 := by
      have := (List.getElem?_eq_some_iff.1 hu).1
      rw [cellsF_length, List.length_take] at this
      omega
    rw [add_none, Nat.zero_add]
    have h1 : (cellsF xs)[j]? = some u := by
      conv => lhs; rw [← List.take_append_drop i xs, cellsF_append]
      rw [List.getElem?_append_left (by rw [cellsF_length, List.length_take]; omega)]
      exact hu
    have h2 : cur[j]? = (cellsF xs)[j]? := by
      rw [← ht, List.getElem?_take, if_pos (by omega)]
      simp
    simp [World.cell?, hg, h2, h1]
theorem Ref.src_drop {w : World} {base p : Nat} {g n cp : Nat} {cap fuse : Int} {lost : Bool} {xs : List RF} (h : Ref w base p (.slice (some ⟨g, 0, none⟩) n cp) cap fuse lost xs) (i o c : Nat) (hi : i ≤ xs.length) (ho : i < xs.length → o = i * 4) : Src w (some ⟨g, o, none⟩) (xs.length - i) c (xs.drop i) := by
  rcases h.rows.2 with ⟨e, h0⟩ | ⟨g', cap', cur, e, hb, hg, hc, hm, hs, ht⟩
  · cases e
  · cases e
    refine ⟨by simp, fun e => (by cases e), fun ad e j u hu => ?_⟩
    cases e
    have hj := (List.getElem?_eq_some_iff.1 hu).1
    rw [cellsF_length, List.length_drop] at hj
    have ho := ho (by omega)
    subst ho
    rw [add_none]
    have h1 : (cellsF xs)[i * 4 + j]? = some u := by
      conv => lhs; rw [← List.take_append_drop i xs, cellsF_append]
      have hl : (cellsF (xs.take i)).length = i * 4 := by rw [cellsF_length, List.length_take]; congr 1; omega
      rw [List.getElem?_append_right (by omega), hl, Nat.add_sub_cancel_left]
      exact hu
    have h2 : cur[i * 4 + j]? = (cellsF xs)[i * 4 + j]? := by
      rw [← ht, List.getElem?_take, if_pos (by omega)]
      simp
    simp [World.cell?, hg, h2, h1]
set_option maxRecDepth 50000 in
set_option maxHeartbeats 2000000 in
theorem drop32_any {w : World} {base p : Nat} {v : Value} {cap fuse : Int} {lost : Bool} {xs : List RF} (h : Ref w base p v cap fuse lost xs) (s : ByteArray) (i : Nat) (hi : i < xs.length) (hat : atI xs s.data.toList = (i : Nat)) (hB : base ≤ w.heap.size) :
    Calls Try.prog 32 #[.pointer (some ⟨p, 0, none⟩), .string s] w fun e w' => e = .returned (.tuple #[]) ∧ ∃ v', Ref w' base p v' cap fuse lost (xs.take i ++ xs.drop (i + 1)) ∧ Touch (fun j => j = p) w w' ∧ ∀ g, v'.ownBlock = some g → w.heap.size ≤ g := by
  have H27 := Lib.hid (at_any h s)
  rw [hat] at H27
  obtain ⟨A, cp, rfl, hcp, _, _⟩ := h.form
  obtain ⟨g, rfl, hgp, _, _, _, _, _, _, _⟩ := h.at_ hi
  obtain ⟨d0, d1, d2, d3, hfz⟩ := h.facts
  have hn1 := h.few
  have hpl := h.lt
  have HR := Lib.hid h
  obtain ⟨n, hn⟩ : ∃ n, n = xs.length := ⟨_, rfl⟩
  rw [← hn] at d1 hcp hn1 hi
  have HN := Lib.hid hn
  have HD1 := Lib.hid (show ∀ w', Below w.heap.size w w' → w'.cell? ⟨p, 0 + 1, none⟩ = some (.slice (some ⟨g, 0, none⟩) n cp) from fun w' hb => (hb.cell (p := ⟨p, 0 + 1, none⟩) hpl).trans d1)
  have HFz := Lib.hid (show ∀ w', Below w.heap.size w w' → w'.frozen? ⟨p, 0 + 1, none⟩ = false from fun w' hb => by
    have := (hb.block p hpl).trans HR.out.head
    simp [World.frozen?, this])
  have hic : i ≤ cp := by omega
  obtain ⟨o, hoo, ho⟩ : ∃ o, (if cp = i + 1 then (some ⟨g, 0, none⟩ : Option Addr) else some ⟨g, (i + 1) * 4, none⟩) = some ⟨g, o, none⟩ ∧ (i + 1 < n → o = (i + 1) * 4) := by
    by_cases e : cp = i + 1
    · exact ⟨0, by rw [if_pos e], fun h => by omega⟩
    · exact ⟨_, by rw [if_neg e], fun _ => rfl⟩
  have HSt := Lib.hid (show ∀ w', Below w.heap.size w w' → Src w' (some ⟨g, 0, none⟩) i cp (xs.take i) from fun w' hb => (HR.out.src_take i (by omega)).below hb)
  have HSd := Lib.hid (show ∀ w', Below w.heap.size w w' → Src w' (some ⟨g, o, none⟩) (n - (i + 1)) (cp - (i + 1)) (xs.drop (i + 1)) from fun w' hb => by
    have := (HR.out.src_drop (i + 1) o (cp - (i + 1)) (by omega) (fun hh => ho (by omega))).below hb
    rw [← HN.out] at this
    exact this)
  have HO := Lib.hid ho
  have hw1 : IntKind.i64.wrap ((i : Int) + 1) = (i : Int) + 1 := IntWalk.i64_in _ (by omega)
  have hw2 : (0 : Int) ≤ (i : Int) + 1 := by omega
  have hw3 : ((i : Int) + 1).toNat = i + 1 := by omega
  have hw4 : ((i : Int) + 1) ≤ (n : Int) := by omega
  clear h hat hn d0 d1 d2 d3 hfz ho
  go_enter Try.func32, Try.ntmps32
  go_wp2_with fail
  refine H27.out.mono ?_
  rintro e w1 ⟨rfl, rfl⟩
  go_wp2_with fail
  refine wp_region_noPanic ?_
  refine held.wp_region_G (S := fun w' => Below w.heap.size w w') 19 (by kernel_rfl) (below_draws (Below.refl _ _) 1) (fun hHeld => ?_)
  refine held.wpAnyG_take (i := 0) (v := ?_) rfl (by kernel_rfl) (by kernel_rfl) (by kernel_rfl) (by kernel_rfl) (fun _ _ _ h => h) (Or.inl ⟨by kernel_rfl, ?_⟩) hHeld ?_
  rotate_left
  · (intro w' hw'; go_simp; first | done | with_reducible rfl)
  refine held.wpAnyG_take (i := 2) (v := ?_) rfl (by kernel_rfl) (by kernel_rfl) (by kernel_rfl) (by kernel_rfl) (fun _ _ _ h => h) (Or.inl ⟨by kernel_rfl, ?_⟩) hHeld ?_
  rotate_left
  · (intro w' hw'; go_simp; first | done | with_reducible rfl)
  refine held.wpAnyG_take (i := 3) (v := ?_) rfl (by kernel_rfl) (by kernel_rfl) (by kernel_rfl) (by kernel_rfl) (fun _ _ _ h => h) (Or.inl ⟨by kernel_rfl, ?_⟩) hHeld ?_
  rotate_left
  · (intro w' hw'; go_simp; first | done | with_reducible rfl)
  refine held.wpAnyG_take (i := 4) (v := ?_) rfl (by kernel_rfl) (by kernel_rfl) (by kernel_rfl) (by kernel_rfl) (fun _ _ _ h => h) (Or.inl ⟨by kernel_rfl, ?_⟩) hHeld ?_
  rotate_left
  · (intro w' hw'; go_simp; first | done | with_reducible rfl)
  refine held.wpAnyG_take (i := 5) (v := ?_) rfl (by kernel_rfl) (by kernel_rfl) (by kernel_rfl) (by kernel_rfl) (fun _ _ _ h => h) (Or.inl ⟨by kernel_rfl, ?_⟩) hHeld ?_
  rotate_left
  · (intro w' hw'; have hc1 := HD1.out w' hw'; go_simp; first | done | with_reducible rfl)
  refine held.wpAnyG_take (i := 6) (v := ?_) rfl (by kernel_rfl) (by kernel_rfl) (by kernel_rfl) (by kernel_rfl) (fun _ _ _ h => h) (Or.inl ⟨by kernel_rfl, ?_⟩) hHeld ?_
  rotate_left
  · (intro w' hw'; go_simp; first | done | with_reducible rfl)
  refine held.wpAnyG_take (i := 7) (v := ?_) rfl (by kernel_rfl) (by kernel_rfl) (by kernel_rfl) (by kernel_rfl) (fun _ _ _ h => h) (Or.inl ⟨by kernel_rfl, ?_⟩) hHeld ?_
  rotate_left
  · (intro w' hw'; go_simp; first | done | with_reducible rfl)
  refine held.wpAnyG_take (i := 9) (v := ?_) rfl (by kernel_rfl) (by kernel_rfl) (by kernel_rfl) (by kernel_rfl) (fun _ _ _ h => h) (Or.inl ⟨by kernel_rfl, ?_⟩) hHeld ?_
  rotate_left
  · (intro w' hw'; go_simp; first | done | with_reducible rfl)
  refine held.wpAnyG_take (i := 10) (v := ?_) rfl (by kernel_rfl) (by kernel_rfl) (by kernel_rfl) (by kernel_rfl) (fun _ _ _ h => h) (Or.inl ⟨by kernel_rfl, ?_⟩) hHeld ?_
  rotate_left
  · (intro w' hw'; go_simp; first | done | with_reducible rfl)
  refine held.wpAnyG_take (i := 11) (v := ?_) rfl (by kernel_rfl) (by kernel_rfl) (by kernel_rfl) (by kernel_rfl) (fun _ _ _ h => h) (Or.inl ⟨by kernel_rfl, ?_⟩) hHeld ?_
  rotate_left
  · (intro w' hw'; go_simp; first | done | with_reducible rfl)
  refine held.wpAnyG_take (i := 12) (v := ?_) rfl (by kernel_rfl) (by kernel_rfl) (by kernel_rfl) (by kernel_rfl) (fun _ _ _ h => h) (Or.inl ⟨by kernel_rfl, ?_⟩) hHeld ?_
  rotate_left
  · (intro w' hw'; have hc1 := HD1.out w' hw'; go_simp; first | done | with_reducible rfl)
  refine held.wpAnyG_take (i := 13) (v := ?_) rfl (by kernel_rfl) (by kernel_rfl) (by kernel_rfl) (by kernel_rfl) (fun _ _ _ h => h) (Or.inl ⟨by kernel_rfl, ?_⟩) hHeld ?_
  rotate_left
  · (intro w' hw'; go_simp; first | done | with_reducible rfl)
  refine held.wpAnyG_take (i := 14) (v := ?_) rfl (by kernel_rfl) (by kernel_rfl) (by kernel_rfl) (by kernel_rfl) (fun _ _ _ h => h) (Or.inl ⟨by kernel_rfl, ?_⟩) hHeld ?_
  rotate_left
  · (intro w' hw'; go_simp; first | done | with_reducible rfl)
  refine held.wpAnyG_take (i := 15) (v := ?_) rfl (by kernel_rfl) (by kernel_rfl) (by kernel_rfl) (by kernel_rfl) (fun _ _ _ h => h) (Or.inl ⟨by kernel_rfl, ?_⟩) hHeld ?_
  rotate_left
  · (intro w' hw'; go_simp; first | done | with_reducible rfl)
  refine held.wpAnyG_ready (rs := [1]) (by kernel_rfl) (by simp) ?_
  refine held.AllReadyG.cons rfl (fun K hK => ?_) held.AllReadyG.nil
  go_simp
  refine hK.out _ _ (fun _ => (fresh_start (w := w) (base := base) hB).below) (fun hh => ?_)
  have HF0 := Lib.hid (show Fresh w base (.slice (some ⟨w.heap.size, 0, none⟩) 0 0) [] (w.alloc (.cells #[] 60)).drew from fresh_start hB)
  generalize (w.alloc (.cells #[] 60)).drew = w1 at *
  have hH1 := hh (by decide)
  clear hK K hh hHeld
  refine held.wpAnyG_ready (rs := [8]) (by kernel_rfl) (by simp) ?_
  refine held.AllReadyG.cons rfl (fun K hK => ?_) held.AllReadyG.nil
  refine step_append_files rfl (.tmp 9) (.tmp 15) rfl base (.slice (some ⟨w.heap.size, 0, none⟩) 0 0) [] rfl HF0.out.rows (Nat.le_trans hB HF0.out.below.size) (some ⟨g, 0, none⟩) i cp (xs.take i) rfl (HSt.out _ HF0.out.below) (by simp; omega) ?_
  intro v2 w2 ho2 hg2 ha2
  have HF2 := Lib.hid (HF0.out.more ho2 hg2 ha2)
  clear ho2 hg2 ha2
  refine hK.out _ _ (fun _ => HF2.out.below) (fun hh => ?_)
  have hH2 := hh (by decide)
  clear hK K hh hH1
  refine held.wpAnyG_ready (rs := [16]) (by kernel_rfl) (by simp) ?_
  refine held.AllReadyG.cons rfl (fun K hK => ?_) held.AllReadyG.nil
  refine step_append_files rfl (.tmp 16) (.tmp 23) rfl base v2 ([] ++ xs.take i) rfl HF2.out.rows (Nat.le_trans hB HF2.out.below.size) (some ⟨g, o, none⟩) (n - (i + 1)) (cp - (i + 1)) (xs.drop (i + 1)) rfl (HSd.out _ HF2.out.below) (by simp; omega) ?_
  intro v3 w3 ho3 hg3 ha3
  have HF3 := Lib.hid (HF2.out.more ho3 hg3 ha3)
  clear ho3 hg3 ha3
  obtain ⟨A3, n3, cp3, rfl⟩ := HF3.out.form
  refine hK.out _ _ (fun _ => HF3.out.below) (fun hh => ?_)
  have hH3 := hh (by decide)
  clear hK K hh hH2
  refine held.wpAnyG_ready (rs := [17]) (by kernel_rfl) (by simp) ?_
  refine held.AllReadyG.cons rfl (fun K hK => ?_) held.AllReadyG.nil
  go_simp
  refine hK.out _ _ (fun _ => hH3) (fun hh => ?_)
  have hH4 := hh (by decide)
  clear hK K hh hH3
  refine held.wpAnyG_take (i := 18) (v := ?_) rfl (by kernel_rfl) (by kernel_rfl) (by kernel_rfl) (by kernel_rfl) (fun _ _ _ h => h) (Or.inl ⟨by kernel_rfl, ?_⟩) hH4 ?_
  rotate_left
  · (intro w' hw'; go_simp; first | done | with_reducible rfl)
  refine held.wpAnyG_ready (rs := [19]) (by kernel_rfl) (by simp) ?_
  refine held.AllReadyG.cons rfl (fun K hK => ?_) held.AllReadyG.nil
  have hc3 := HD1.out _ HF3.out.below
  have hf3 := HFz.out _ HF3.out.below
  go_simp
  refine hK.out _ _ (fun hh => absurd rfl hh) (fun _ => ?_)
  clear hK K hH4
  refine held.wpAnyG_done (by kernel_rfl) ?_ _
  refine NoPanic.normal ?_
  go_simp
  go_wp2
  go_end0
  have hz : ([] ++ xs.take i ++ xs.drop (i + 1)) = xs.take i ++ xs.drop (i + 1) := by simp
  have hF3 := HF3.out
  rw [hz] at hF3
  obtain ⟨r1, r2⟩ := ref_files HR.out hF3 (fun x hx => HR.out.lies hF3 (by
    rcases List.mem_append.1 hx with h | h
    · exact List.mem_of_mem_take h
    · exact List.mem_of_mem_drop h)) (by have := HN.out; simp; omega)
  exact ⟨rfl, _, r1, r2, hF3.new⟩
end Go.Proofs.Ytedhbcaakdfcbaa.disk
