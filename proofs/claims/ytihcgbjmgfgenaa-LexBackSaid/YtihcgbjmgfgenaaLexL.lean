/- Bytes fed in pieces. -/
import Derived.Test.YtihcgbjmgfgenaaLexK
namespace Go.Proofs.Ytihcgbjmgfgenaa.lx
open Go.ChangeShapes Go.WideShapes Go.ChangeAt Go.RowKit
open Go.Proofs.Ytihcgbjmgfgenaa.codec (Bytes vals)
open Go.Proofs.Ytihcgbjmgfgenaa.row
set_option linter.unusedVariables false
set_option maxRecDepth 100000
set_option linter.unusedSimpArgs false

theorem fl_length {α : Type} {F : α → List Value} {K : Nat} (hF : Fm F K) (l : List α) : (fl F l).length = l.length * K := by
  induction l with
  | nil => simp [fl]
  | cons z r ih => show (F z ++ fl F r).length = _; rw [List.length_append, ih, hF.len, List.length_cons, Nat.add_mul]; omega
theorem fl_one {α : Type} {F : α → List Value} {K : Nat} (hF : Fm F K) (l : List α) : ∀ u ∈ fl F l, u.oneCell' = true := fun u hu => by
  obtain ⟨y, _, hy⟩ := List.mem_flatMap.1 hu
  exact hF.one y u hy
/-- A row, nil or not, put behind a row of the call's own. -/
theorem run_append_rows (w : World) (ty : TypeId) (B : Nat) (v : Value) (ys : List Un) (h : Own cU 2 B 29 w v ys) (hB : B ≤ w.heap.size) (A : Option Addr) (n c : Nat) (zs : List Un) (hR : Rd cU 2 w A n zs) (hnil : A = none → c = 0) (hn : ys.length + n ≤ 2000000) :
    ∃ v' w', (Builtin.append_ #[24, 24] ty #[v, .slice A n c]).run Try.prog w = .ok v' w' ∧ Own cU 2 B 29 w' v' (ys ++ zs) ∧ w.grownBy w' v.ownBlock ∧ (v'.ownBlock = v.ownBlock ∨ ∃ g, v'.ownBlock = some g ∧ w.heap.size ≤ g) := by
  obtain ⟨i0, hi, hz0, hz1, hz2⟩ := info_parts infoU
  cases A with
  | none =>
    have hn0 : n = 0 := by
      rcases Nat.eq_zero_or_pos n with h0 | h0
      · exact h0
      · obtain ⟨b, o, y, e, _⟩ := hR.2 0 h0
        cases e
    have hc := hnil rfl
    subst hn0 hc
    obtain rfl : zs = [] := List.eq_nil_of_length_eq_zero hR.1
    refine ⟨v, w, ?_, by simpa using h, World.grownBy.refl w _, .inl rfl⟩
    rcases h.2 with ⟨rfl, h0⟩ | ⟨g, cap, cur, rfl, _, hg, hnc, _⟩
    · simp [Builtin.append_, run_underlying Try.underlying24, sizeOf, typeInfo, hi, Builtin.lenOf, Builtin.firstCells, loadCells, loadCellsFrom]
    · simp [Builtin.append_, run_underlying Try.underlying24, sizeOf, typeInfo, hi, Builtin.lenOf, Builtin.firstCells, hnc, storeCells, loadCells, loadCellsFrom]
  | some ad =>
    have hfl : (fl cU zs).length = n * 2 := by rw [fl_length fU, hR.1]
    obtain ⟨v', w', hr, h1, h2, h3, h4⟩ := run_append_own_at (P := Try.prog) w B 24 ty 29 i0 _ 2 32 Try.underlying24 hi hz0 hz1 hz2 rfl (by decide) v ys.length (fl cU ys) h ad n c (fl cU zs) hfl (fun j u hu => by
      have hj : j < n * 2 := by have := (List.getElem?_eq_some_iff.1 hu).1; omega
      obtain ⟨b, o, y, e, hy, hc⟩ := hR.2 (j / 2) (by omega)
      cases e
      have hl4 : j % 2 < (cU y).length := by rw [fU.len]; exact Nat.mod_lt _ (by decide)
      have h5 := fl_at fU zs (j / 2) y hy (j % 2) _ (List.getElem?_eq_getElem hl4)
      rw [show j / 2 * 2 + j % 2 = j by omega] at h5
      rw [h5] at hu
      cases hu
      rw [codec.add_none]
      have := hc (j % 2) _ (List.getElem?_eq_getElem hl4)
      rw [Nat.add_assoc, show j / 2 * 2 + j % 2 = j by omega] at this
      exact this) (fl_one fU zs) (by unfold maxLen; omega) (by omega) hB
    refine ⟨v', w', hr, ?_, h2, h4.imp id fun h => ⟨_, h, Nat.le_refl _⟩⟩
    have e : fl cU (ys ++ zs) = fl cU ys ++ fl cU zs := List.flatMap_append
    unfold Own
    rw [e, List.length_append, hR.1]
    exact h1
theorem wpList_append_rows {ops : Array Oper} {rest : List Oper} {o : Oper} {a : Act} {w : World} {Q : Exit → Act → World → Prop} (hgd : o.guard = none) (s x : Operand)
    (ho : o.op = .call { callee := .builtin .append, args := #[s, x], argTypes := #[24, 24] })
    (B : Nat) (v : Value) (ys : List Un) (hs : a.eval s = v) (h : Own cU 2 B 29 w v ys) (hB : B ≤ w.heap.size) (A : Option Addr) (n c : Nat) (zs : List Un) (hx : a.eval x = .slice A n c) (hR : Rd cU 2 w A n zs) (hnil : A = none → c = 0) (hn : ys.length + n ≤ 2000000)
    (hK : ∀ v' w', Own cU 2 B 29 w' v' (ys ++ zs) → w.grownBy w' v.ownBlock → (v'.ownBlock = v.ownBlock ∨ ∃ g, v'.ownBlock = some g ∧ w.heap.size ≤ g) → wpList Try.prog ops Q rest (a.put o.dst v') w') : wpList Try.prog ops Q (o :: rest) a w := by
  obtain ⟨v', w', hr, h1, h2, h3⟩ := run_append_rows w o.type B v ys h hB A n c zs hR hnil hn
  refine wpList_plain hgd fun _ hK' => ?_
  unfold Oper.wp execOp
  simp only [ho, resolve, invoke, builtin, Sem.run_bind, Sem.run_pure, Result.andThen_ok, List.map_toArray, List.map_cons, List.map_nil, hs, hx, hr]
  exact hK' _ _ (hK v' w' h1 h2 h3)
/-- More units behind units. -/
theorem UR.join {B : Nat} {w w' : World} {G : Nat → Prop} {v v' : Value} {us us2 : List U} {ys ys2 : List Un} (h1 : ys.length = us.length) (h3 : ∀ (k : Nat) (y : Un) (u : U), ys[k]? = some y → us[k]? = some u → y.k = u.1 ∧ Sl w y.A y.n y.c u.2 ∧ ∀ i ∈ blk y.A, B ≤ i ∧ i < w.heap.size ∧ v.ownBlock ≠ some i ∧ ¬ G i)
    (h4 : ∀ i, v.ownBlock = some i → B ≤ i ∧ i < w.heap.size ∧ ¬ G i)
    (k1 : ys2.length = us2.length) (k3 : ∀ (k : Nat) (y : Un) (u : U), ys2[k]? = some y → us2[k]? = some u → y.k = u.1 ∧ Sl w y.A y.n y.c u.2 ∧ ∀ i ∈ blk y.A, B ≤ i ∧ i < w.heap.size ∧ v.ownBlock ≠ some i ∧ ¬ G i)
    (ho : Own cU 2 B 29 w' v' (ys ++ ys2)) (hg : w.grownBy w' v.ownBlock) (hat : v'.ownBlock = v.ownBlock ∨ ∃ g, v'.ownBlock = some g ∧ w.heap.size ≤ g) (hGw : ∀ i, G i → i < w.heap.size) : UR B w' G v' (us ++ us2) := by
  have hsz := hg.size
  have hne : ∀ i, i < w.heap.size → v.ownBlock ≠ some i → v'.ownBlock ≠ some i := fun i hi hv e => by
    rcases hat with h | ⟨g, h, h2⟩
    · exact hv (h ▸ e)
    · rw [h] at e
      have := Option.some.inj e
      omega
  have key : ∀ (A : Option Addr) (n c : Nat) (l : List Nat), Sl w A n c l → (∀ i ∈ blk A, B ≤ i ∧ i < w.heap.size ∧ v.ownBlock ≠ some i ∧ ¬ G i) → Sl w' A n c l ∧ ∀ i ∈ blk A, B ≤ i ∧ i < w'.heap.size ∧ v'.ownBlock ≠ some i ∧ ¬ G i := fun A n c l hS hA =>
    ⟨hS.kept fun i hi => hg.block i (hA i hi).2.1 (fun e => (hA i hi).2.2.1 e.symm), fun i hi => ⟨(hA i hi).1, by have := (hA i hi).2.1; omega, hne i (hA i hi).2.1 (hA i hi).2.2.1, (hA i hi).2.2.2⟩⟩
  refine ⟨⟨_, ho, by simp [h1, k1], fun k y u' hy hu => ?_⟩, fun i hi => ?_⟩
  · by_cases hk : k < ys.length
    · rw [List.getElem?_append_left hk] at hy
      rw [List.getElem?_append_left (by omega)] at hu
      obtain ⟨g1, g2, g3⟩ := h3 k y u' hy hu
      obtain ⟨g4, g5⟩ := key _ _ _ _ g2 g3
      exact ⟨g1, g4, g5⟩
    · rw [List.getElem?_append_right (by omega)] at hy
      rw [List.getElem?_append_right (by omega)] at hu
      rw [h1] at hy
      obtain ⟨g1, g2, g3⟩ := k3 _ y u' hy hu
      obtain ⟨g4, g5⟩ := key _ _ _ _ g2 g3
      exact ⟨g1, g4, g5⟩
  · obtain ⟨g1, g2⟩ := ho.lt hi
    refine ⟨g1, g2, fun hG => ?_⟩
    rcases hat with h | ⟨g, h, h2⟩
    · exact (h4 i (h ▸ hi)).2.2 hG
    · rw [h] at hi
      have := Option.some.inj hi
      have := hGw i hG
      omega
/-- What has been fed, of bytes that came in. -/
def PS (W : World) (p : Nat) (b : List Nat) (k : Nat) (s : St) (us : List U) (v : Value) (w : World) : Prop :=
  (∃ F, CkS w p F s ∧ (∀ i ∈ F, W.heap.size ≤ i) ∧ UR W.heap.size w (fun i => i = p ∨ i ∈ F) v us) ∧ Below W.heap.size W w ∧ W.heap.size ≤ p ∧ run s0 (b.take k) = (s, us)
theorem run_count : ∀ (l : List Nat) (s : St), (run s l).2.length ≤ l.length
  | [], s => by simp [run]
  | x :: r, s => by
    have h := run_count r (step s x).1
    have h2 : (step s x).2.length ≤ 1 := by
      unfold step
      split
      · simp
      · split <;> simp
    rw [run, List.length_append, List.length_cons]
    omega
theorem CkS.lt {w : World} {p : Nat} {F : List Nat} {s : St} (h : CkS w p F s) : ∀ i, i = p ∨ i ∈ F → i < w.heap.size := h.1.lt
theorem fed_next {W wr w2 w3 : World} {p k T : Nat} {b : List Nat} {s s2 : St} {us us2 : List U} {v v2 v3 : Value} {F F2 : List Nat} {ys ys2 : List Un} (hC : CkS wr p F s) (hF : ∀ i ∈ F, W.heap.size ≤ i) (hU : UR W.heap.size wr (fun i => i = p ∨ i ∈ F) v us) (hB : Below W.heap.size W wr) (hp : W.heap.size ≤ p) (hr : run s0 (b.take k) = (s, us)) (hk : k ≤ T)
    (hr2 : run s ((b.drop k).take (T - k)) = (s2, us2)) (hC2 : CkS w2 p F2 s2) (hF2 : ∀ i ∈ F2, i ∈ F ∨ wr.heap.size ≤ i) (hT : codec.Touch (fun i => i = p ∨ i ∈ F) wr w2)
    (h1 : ys.length = us.length) (h3 : ∀ (k : Nat) (y : Un) (u : U), ys[k]? = some y → us[k]? = some u → y.k = u.1 ∧ Sl w2 y.A y.n y.c u.2 ∧ ∀ i ∈ blk y.A, W.heap.size ≤ i ∧ i < w2.heap.size ∧ v.ownBlock ≠ some i ∧ ¬ (i = p ∨ i ∈ F2)) (h4 : ∀ i, v.ownBlock = some i → W.heap.size ≤ i ∧ i < w2.heap.size ∧ ¬ (i = p ∨ i ∈ F2))
    (k1 : ys2.length = us2.length) (k3 : ∀ (k : Nat) (y : Un) (u : U), ys2[k]? = some y → us2[k]? = some u → y.k = u.1 ∧ Sl w2 y.A y.n y.c u.2 ∧ ∀ i ∈ blk y.A, wr.heap.size ≤ i ∧ i < w2.heap.size ∧ v2.ownBlock ≠ some i ∧ ¬ (i = p ∨ i ∈ F2))
    (ho : Own cU 2 W.heap.size 29 w3 v3 (ys ++ ys2)) (hg : w2.grownBy w3 v.ownBlock) (hat : v3.ownBlock = v.ownBlock ∨ ∃ g, v3.ownBlock = some g ∧ w2.heap.size ≤ g) : PS W p b T s2 (us ++ us2) v3 w3 := by
  have hs := hB.size
  refine ⟨⟨F2, ⟨hC2.1.kept fun i hi => hg.block i (hC2.lt i hi) (fun e => (h4 i e.symm).2.2 hi), hC2.2⟩, fun i hi => ?_, UR.join h1 h3 h4 k1 (fun k y u hy hu => ?_) ho hg hat (fun i hi => hC2.lt i hi)⟩, ?_, hp, ?_⟩
  · rcases hF2 i hi with h | h
    · exact hF i h
    · omega
  · obtain ⟨g1, g2, g3⟩ := k3 k y u hy hu
    refine ⟨g1, g2, fun i hi => ⟨by have := (g3 i hi).1; omega, (g3 i hi).2.1, fun e => ?_, (g3 i hi).2.2.2⟩⟩
    have := (hU.own i e).2.1
    have := (g3 i hi).1
    omega
  · have hb2 : Below W.heap.size W w2 := hB.trans (hT.toBelow W.heap.size hs (fun i hi h => by
      rcases h with h | h
      · omega
      · have := hF i h; omega))
    exact hb2.trans ⟨hg.os, hg.tape, hg.output, hg.size, fun i hi => hg.block i (by have := hb2.size; omega) (fun e => by have := (h4 i e.symm).1; omega)⟩
  · have e : b.take T = b.take k ++ (b.drop k).take (T - k) := by
      have h9 := List.take_add (l := b) (i := k) (j := T - k)
      rw [show k + (T - k) = T by omega] at h9
      exact h9
    rw [e, run_append, hr]
    simp only [hr2]
/-- What feeding in pieces answers. -/
def FedAns (W : World) (b : List Nat) (e : Ending) (w' : World) : Prop :=
  ∃ A n c, e = .returned (.tuple #[.slice A n c, .bool (decide (0 < (run s0 b).1.left))]) ∧ UR W.heap.size w' (fun _ => False) (.slice A n c) (run s0 b).2 ∧ Below W.heap.size W w'
set_option maxHeartbeats 4000000 in
theorem fed_any (W : World) (A : Option Addr) (n c : Nat) (b : List Nat) (hS : Sl W A n c b) (hn : n ≤ 20000) (A2 : Option Addr) (m d : Nat) (z : List Nat) (hZ : Sl W A2 m d z) (hm : m ≤ 100) :
    Calls Try.prog 7 #[.slice A n c, .slice A2 m d] W fun e w' => FedAns W b e w' := by
  have HS := Lib.hid hS
  have HZ := Lib.hid hZ
  obtain ⟨p, hp⟩ : ∃ p, p = W.heap.size := ⟨_, rfl⟩
  obtain ⟨W0, hW0⟩ : ∃ W0, W0 = W.alloc (.cells #[.pointer none, .int .i64 0, .int .i64 0, .bool false, .int .i64 0] 44) := ⟨_, rfl⟩
  have hb0 : Below W.heap.size W W0 := by rw [hW0]; exact (Below.refl _ _).alloc (Nat.le_refl _) _
  have hp0 : W0.heap[p]? = some (.cells (cells5 (.pointer none) 0 0 false 0) 44 (0, 0)) := by rw [hW0, hp]; exact heap_alloc_new _ _
  have H0 := Lib.hid (show PS W p b 0 s0 [] (.slice none 0 0) W0 from ⟨⟨[], ck_new hp0, by simp, UR.nil _ _ _⟩, hb0, by omega, rfl⟩)
  have HW0 := Lib.hid hW0
  have HP := Lib.hid hp
  have hlen := hS.1.1
  have HL := Lib.hid hlen
  clear hS hZ hb0 hp0 hW0 hp hlen
  go_enter Try.func7, Try.ntmps7
  go_wp2_with fail
  rw [← HW0.out, ← HP.out]
  go_loopw [7, 8, 9] (fun v i a wr => ∃ (k j : Nat) (s : St) (us : List U), k ≤ n ∧ j ≤ k ∧ i = .int .i64 j ∧ a = .int .i64 k ∧ Hid (PS W p b k s us v wr)) (fun _ _ a _ => n - (intOf a).toNat)
  case atStart => exact ⟨0, 0, s0, [], Nat.zero_le _, Nat.le_refl _, rfl, rfl, H0⟩
  case round =>
    obtain ⟨k, j, s, us, hk, hj, rfl, rfl, HS1⟩ := hrel
    by_cases hkn : k < n
    · have hkn' : (k : Int) < (n : Int) := by omega
      obtain ⟨N, hN⟩ : ∃ N, N = n - k := ⟨_, rfl⟩
      have e1 : IntKind.i64.wrap ((n : Int) - (k : Int)) = (N : Int) := (IntWalk.i64_in _ (by omega)).trans (by omega)
      obtain ⟨bb, o, rfl, -⟩ := HS.out.1.2.2 (by omega)
      have hnc := HS.out.2.1
      obtain ⟨⟨F, hC, hF, hU⟩, hB, hp, hr⟩ := HS1.out
      have hckn : ¬ c - k = 0 := by omega
      have hsz : s.size ≤ k := by
        have h1 := run_size (b.take k) s0
        rw [hr] at h1
        have h2 : (b.take k).length ≤ k := by rw [List.length_take]; omega
        have h3 : s0.size = 0 := rfl
        simp only at h1
        omega
      have HF := Lib.hid (fun (T : Nat) (h1 : k < T) (h2 : T ≤ n) => (show Calls Try.prog 11 #[.pointer (some ⟨p, 0, none⟩), .slice (some ⟨bb, o + k, none⟩) (T - k) (c - k)] wr fun e w' => FeedAns wr p F (run s ((b.drop k).take (T - k))).1 (run s ((b.drop k).take (T - k))).2 e w' by
        have h4 := ((HS.out.below hB).rest k (by omega)).part (T - k) (by omega)
        rw [if_neg (by omega)] at h4
        simp only [Option.map_some, codec.add_none] at h4
        exact feed_any wr p F s _ _ _ _ hC h4 (fun i hi => by
          simp [blk] at hi
          subst hi
          have h5 : i < W.heap.size := HS.out.1.lt _ rfl (by omega)
          refine ⟨by omega, fun h => ?_⟩
          have := hF i h
          omega) (by omega)))
      have HFx := Lib.hid (And.intro hC (And.intro hF (And.intro hB (And.intro hp hr))))
      have HU := Lib.hid hU
      clear hC hF hU hB hp hr hsz
      by_cases hm0 : m = 0
      · have q1 : decide (0 < m) = false := decide_eq_false (by omega)
        obtain ⟨T, hT⟩ : ∃ T, T = k + N := ⟨_, rfl⟩
        have e2 : IntKind.i64.wrap ((k : Int) + (N : Int)) = (T : Int) := (IntWalk.i64_in _ (by omega)).trans (by omega)
        have hTk : k ≤ T := by omega
        have hTc : T ≤ c := by omega
        have HT := Lib.hid (show k < T ∧ T ≤ n by omega)
        have HTT := Lib.hid hT
        clear hm0 hN hT
        go_wp2_with fail
        refine (HF.out T HT.out.1 HT.out.2).mono ?_
        rintro e w2 ⟨v2, F2, rfl, hC2, hF2, hT2, hU2⟩
        obtain ⟨hC, hF, hB, hp, hr⟩ := HFx.out
        have hU1 : UR W.heap.size w2 (fun i => i = p ∨ i ∈ F2) u7 us := HU.out.touch hT2 (fun i hi => by
          rcases hi with h | h
          · exact .inl (.inl h)
          · exact (hF2 i h).imp .inr id)
        obtain ⟨⟨ys2, hO2, k1, k3⟩, -⟩ := hU2
        obtain ⟨⟨ys, hO, g1, g3⟩, g4⟩ := hU1
        obtain ⟨A9, n9, rfl, hnc9, hA9, hR9⟩ := hO2.rd fU
        obtain ⟨AV, cv, hv⟩ := own_slice hO
        obtain ⟨nv, hnv⟩ : ∃ nv, nv = ys.length := ⟨_, rfl⟩
        obtain ⟨n2, hn2⟩ : ∃ n2, n2 = ys2.length := ⟨_, rfl⟩
        rw [← hnv] at hv
        subst hv
        have HEnd := Lib.hid (fun (v3 : Value) (w3 : World) (ho : Own cU 2 W.heap.size 29 w3 v3 (ys ++ ys2)) (hg : w2.grownBy w3 (Value.slice AV nv cv).ownBlock) (hat : v3.ownBlock = (Value.slice AV nv cv).ownBlock ∨ ∃ g, v3.ownBlock = some g ∧ w2.heap.size ≤ g) => fed_next hC hF HU.out hB hp hr (by have := HT.out.1; omega) rfl hC2 hF2 hT2 g1 g3 g4 k1 k3 ho hg hat)
        have HO := Lib.hid hO
        rw [← hn2] at hR9 ⊢
        have HR9 := Lib.hid hR9
        have HA9 := Lib.hid hA9
        have HWs := Lib.hid (show W.heap.size ≤ w2.heap.size by
          have h1 := hB.size
          have h2 := hT2.2.2.2.1
          omega)
        have HNN := Lib.hid (show ys.length + n2 ≤ 2000000 by
          have h1 := run_count (b.take k) s0
          have h2 := run_count ((b.drop k).take (T - k)) s
          have h3 : (b.take k).length ≤ n := by rw [List.length_take]; omega
          have h4 : ((b.drop k).take (T - k)).length ≤ n := by rw [List.length_take]; have := HT.out.2; omega
          rw [hr] at h1
          simp only at h1
          omega)
        clear hC hF hB hp hr hC2 hF2 hT2 hO2 k1 k3 hO g1 g3 g4 hA9 hR9 hnv hn2 e1 hTk hTc hnc9
        go_wp2_with (at_builtin; refine wpList_append_rows rfl (.tmp 35) (.tmp 42) rfl W.heap.size (.slice AV nv cv) _ rfl HO.out HWs.out A9 n2 n9 _ rfl HR9.out HA9.out HNN.out ?_; intro v3 w3 ho hg hat; have HS2 := Lib.hid (HEnd.out v3 w3 ho hg hat); clear ho hg hat)
        go_roundw
        case rel => first | exact ⟨T, j + 1, _, _, HT.out.2, by have := HT.out.1; omega, by go_num, rfl, HS2⟩ | ((repeat apply Exists.intro); exact ⟨⟨T, j + 1, _, _, HT.out.2, by have := HT.out.1; omega, by go_num, rfl, HS2⟩, rfl⟩)
        case measure => (show n - (T : Int).toNat < n - k; have := HT.out.1; omega)
      · have q1 : decide (0 < m) = true := decide_eq_true (by omega)
        obtain ⟨bz, oz, rfl, -⟩ := HZ.out.1.2.2 (by omega)
        obtain ⟨x, hx⟩ : ∃ x, x = j % m := ⟨_, rfl⟩
        have hxm0 : x < m := by rw [hx]; exact Nat.mod_lt _ (by omega)
        have e3 : ((j : Int) % (m : Int)) = (x : Int) := by rw [hx]; exact (Int.natCast_emod j m).symm
        have hxm : (x : Int) < (m : Int) := by omega
        obtain ⟨y, hy, hy2, hyc⟩ := byte_at (HZ.out.below HFx.out.2.2.1).1 hxm0
        obtain ⟨y1, hy1⟩ : ∃ y1, y1 = 1 + y := ⟨_, rfl⟩
        obtain ⟨J, hJ⟩ : ∃ J, J = min N y1 := ⟨_, rfl⟩
        obtain ⟨T, hT⟩ : ∃ T, T = k + J := ⟨_, rfl⟩
        have e4 : IntKind.i64.wrap (y : Int) = (y : Int) := IntWalk.i64_in _ (by omega)
        have e5 : IntKind.i64.wrap ((1 : Int) + (y : Int)) = (y1 : Int) := (IntWalk.i64_in _ (by omega)).trans (by omega)
        have e6 : min (N : Int) (y1 : Int) = (J : Int) := by omega
        have e2 : IntKind.i64.wrap ((k : Int) + (J : Int)) = (T : Int) := (IntWalk.i64_in _ (by omega)).trans (by omega)
        have hTk : k ≤ T := by omega
        have hTc : T ≤ c := by omega
        have HT := Lib.hid (show k < T ∧ T ≤ n by omega)
        have HTT := Lib.hid hT
        clear hm0 hN hT hJ hy1 hx hxm0 hy hy2
        go_wp2_with fail
        refine (HF.out T HT.out.1 HT.out.2).mono ?_
        rintro e w2 ⟨v2, F2, rfl, hC2, hF2, hT2, hU2⟩
        obtain ⟨hC, hF, hB, hp, hr⟩ := HFx.out
        have hU1 : UR W.heap.size w2 (fun i => i = p ∨ i ∈ F2) u7 us := HU.out.touch hT2 (fun i hi => by
          rcases hi with h | h
          · exact .inl (.inl h)
          · exact (hF2 i h).imp .inr id)
        obtain ⟨⟨ys2, hO2, k1, k3⟩, -⟩ := hU2
        obtain ⟨⟨ys, hO, g1, g3⟩, g4⟩ := hU1
        obtain ⟨A9, n9, rfl, hnc9, hA9, hR9⟩ := hO2.rd fU
        obtain ⟨AV, cv, hv⟩ := own_slice hO
        obtain ⟨nv, hnv⟩ : ∃ nv, nv = ys.length := ⟨_, rfl⟩
        obtain ⟨n2, hn2⟩ : ∃ n2, n2 = ys2.length := ⟨_, rfl⟩
        rw [← hnv] at hv
        subst hv
        have HEnd := Lib.hid (fun (v3 : Value) (w3 : World) (ho : Own cU 2 W.heap.size 29 w3 v3 (ys ++ ys2)) (hg : w2.grownBy w3 (Value.slice AV nv cv).ownBlock) (hat : v3.ownBlock = (Value.slice AV nv cv).ownBlock ∨ ∃ g, v3.ownBlock = some g ∧ w2.heap.size ≤ g) => fed_next hC hF HU.out hB hp hr (by have := HT.out.1; omega) rfl hC2 hF2 hT2 g1 g3 g4 k1 k3 ho hg hat)
        have HO := Lib.hid hO
        rw [← hn2] at hR9 ⊢
        have HR9 := Lib.hid hR9
        have HA9 := Lib.hid hA9
        have HWs := Lib.hid (show W.heap.size ≤ w2.heap.size by
          have h1 := hB.size
          have h2 := hT2.2.2.2.1
          omega)
        have HNN := Lib.hid (show ys.length + n2 ≤ 2000000 by
          have h1 := run_count (b.take k) s0
          have h2 := run_count ((b.drop k).take (T - k)) s
          have h3 : (b.take k).length ≤ n := by rw [List.length_take]; omega
          have h4 : ((b.drop k).take (T - k)).length ≤ n := by rw [List.length_take]; have := HT.out.2; omega
          rw [hr] at h1
          simp only at h1
          omega)
        clear hC hF hB hp hr hC2 hF2 hT2 hO2 k1 k3 hO g1 g3 g4 hA9 hR9 hnv hn2 e1 e3 e4 e5 e6 hyc hxm hTk hTc hnc9
        go_wp2_with (at_builtin; refine wpList_append_rows rfl (.tmp 35) (.tmp 42) rfl W.heap.size (.slice AV nv cv) _ rfl HO.out HWs.out A9 n2 n9 _ rfl HR9.out HA9.out HNN.out ?_; intro v3 w3 ho hg hat; have HS2 := Lib.hid (HEnd.out v3 w3 ho hg hat); clear ho hg hat)
        go_roundw
        case rel => first | exact ⟨T, j + 1, _, _, HT.out.2, by have := HT.out.1; omega, by go_num, rfl, HS2⟩ | ((repeat apply Exists.intro); exact ⟨⟨T, j + 1, _, _, HT.out.2, by have := HT.out.1; omega, by go_num, rfl, HS2⟩, rfl⟩)
        case measure => (show n - (T : Int).toNat < n - k; have := HT.out.1; omega)
    · obtain rfl : k = n := by omega
      obtain ⟨⟨F, hC, hF, hU⟩, hB, hp, hr⟩ := HS1.out
      have ht : b.take k = b := List.take_of_length_le (by rw [HL.out]; exact Nat.le_refl _)
      rw [ht] at hr
      obtain ⟨⟨ys, hO, hy2⟩, hy3⟩ := hU
      obtain ⟨AV, cv, rfl⟩ := own_slice hO
      have HWt := Lib.hid (waits_any wr p F _ _ _ _ hC.1)
      have HE := Lib.hid (show ∀ w', Below wr.heap.size wr w' → UR W.heap.size w' (fun _ => False) (.slice AV ys.length cv) us from fun w' hb => UR.kept ⟨⟨ys, hO, hy2⟩, hy3⟩ hb.size (fun i _ hi _ => hb.block i hi) (fun i h => h.elim))
      have HB := Lib.hid hB
      have HR := Lib.hid hr
      obtain ⟨nv, hnv⟩ : ∃ nv, nv = ys.length := ⟨_, rfl⟩
      rw [← hnv] at HE ⊢
      clear hC hF hB hp hr ht hO hy2 hy3 hkn hnv
      go_wp2_with fail
      refine HWt.out.mono ?_
      rintro e w2 ⟨rfl, hb⟩
      have HB2 := Lib.hid hb
      clear hb
      go_wp2_with fail
      go_ret2
      refine ⟨AV, nv, cv, by rw [HR.out]; rfl, by rw [HR.out]; exact HE.out _ HB2.out, HB.out.trans (HB2.out.mono HB.out.size)⟩
end Go.Proofs.Ytihcgbjmgfgenaa.lx
