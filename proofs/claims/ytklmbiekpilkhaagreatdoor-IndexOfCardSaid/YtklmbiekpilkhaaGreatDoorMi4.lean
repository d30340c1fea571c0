/- A region that draws, of which the last operation writes what the others read: what holds of the world is asked behind all but that one. -/
import Derived.Deep.RegionHeld3
import Derived.Test.YtklmbiekpilkhaaGreatDoorMi3
import Derived.Test.YtklmbiekpilkhaaGreatDoorMc3
namespace Go.Proofs.YtklmbiekpilkhaaGreatDoor.held
open Go
set_option linter.unusedVariables false

variable {P : Program} {ops : Array Oper} {Q : Exit → Act → World → Prop} {md : Region.Mode} {S : World → Prop} {last : Nat}

/-- Whatever order is picked from here on, and S holds behind every operation but the last. -/
def wpAnyG (P : Program) (md : Region.Mode) (ops : Array Oper) (Q : Exit → Act → World → Prop) (S : World → Prop) (last : Nat) : Nat → Array Bool → Act → World → Prop
  | 0, listed, a, w => Region.ready md ops listed = [] ∧ Q .normal a w
  | fuel + 1, listed, a, w =>
    (Region.ready md ops listed = [] → Q .normal a w) ∧
    ∀ i ∈ Region.ready md ops listed, wpOp P ops Q i (fun a' w' => (i ≠ last → S w') ∧ wpAnyG P md ops Q S last fuel (listed.setIfInBounds i true) a' w') a w
theorem wpAny_of_G : ∀ (fuel : Nat) (listed : Array Bool) (a : Act) (w : World), wpAnyG P md ops Q S last fuel listed a w → wpAny P md ops Q fuel listed a w
  | 0, _, _, _, h => h
  | fuel + 1, _, _, _, h => ⟨h.1, fun i hi => wpOp_mono (fun a' w' h' => wpAny_of_G fuel _ a' w' h'.2) (h.2 i hi)⟩
/-- The last one waits for number i. -/
def waits (md : Region.Mode) (ops : Array Oper) (last i : Nat) : Bool := ((ops[last]?).map (fun o => o.after.any (fun e => Region.binds md e && e.on == i))).getD false
theorem waits_spec {i : Nat} {listed : Array Bool} (h : waits md ops last i = true) (hr : last ∈ Region.ready md ops listed) : listed.getD i false = true := by
  obtain ⟨_, o, ho, hall⟩ := mem_ready.1 hr
  unfold waits at h
  rw [ho] at h
  rw [Option.map_some, Option.getD_some, Array.any_eq_true'] at h
  obtain ⟨e, he, h2⟩ := h
  rw [Bool.and_eq_true, beq_iff_eq] at h2
  obtain ⟨hb, rfl⟩ := h2
  exact hall e he hb
theorem wpAnyG_first {i : Nat} {oi : Oper} {v : Value} (hi : ops[i]? = some oi) (hsel : ∀ (j : Nat) (o : Oper) cs b, ops[j]? = some o → o.op ≠ .select cs b)
    (hQ : ∀ c a w, Q (.panic c) (a.put oi.dst v) w → Q (.panic c) a w) (hw : waits md ops last i = true) :
    ∀ (fuel : Nat) (listed : Array Bool) (a : Act) (w : World),
      (∀ j oj, ops[j]? = some oj → j ≠ i → listed.getD j true = false → (∀ e ∈ oj.after, Region.binds md e = true → e.on ≠ i) → oi.apart ops oj = true) →
      i ∈ Region.ready md ops listed → YieldsIf P ops S oi v a → S w →
      wpAnyG P md ops Q S last fuel (listed.setIfInBounds i true) (a.put oi.dst v) w → wpAnyG P md ops Q S last (fuel + 1) listed a w := by
  have hno : ∀ (listed : Array Bool) (j : Nat), i ∈ Region.ready md ops listed → j ∈ Region.ready md ops listed → j ≠ last := by
    rintro listed j hr hj rfl
    have h1 := waits_spec hw hj
    have h0 := (mem_ready.1 hr).1
    rcases Nat.lt_or_ge i listed.size with h' | h'
    · simp [h'] at h0 h1; rw [h0] at h1; cases h1
    · simp [Array.getElem?_eq_none h'] at h1
  intro fuel
  induction fuel with
  | zero =>
    intro listed a w _ hr hy hS H
    refine ⟨fun h => (by rw [h] at hr; cases hr), fun j hj => ?_⟩
    by_cases hji : j = i
    · subst hji; exact hy.wpOp hi hS ⟨fun _ => hS, H⟩
    · have := ready_mono hj hji
      rw [H.1] at this
      cases this
  | succ fuel ih =>
    intro listed a w hfree hr hy hS H
    refine ⟨fun h => (by rw [h] at hr; cases hr), fun j hj => ?_⟩
    by_cases hji : j = i
    · subst hji; exact hy.wpOp hi hS ⟨fun _ => hS, H⟩
    · have h1 := H.2 j (ready_mono hj hji)
      have hjl := hno listed j hr hj
      obtain ⟨hjun, oj, hoj, hall⟩ := mem_ready.1 hj
      have hnot : ∀ e ∈ oj.after, Region.binds md e = true → e.on ≠ i := fun e he hb heq => by
        have h1 := hall e he hb
        have h0 := (mem_ready.1 hr).1
        rw [heq] at h1
        rcases Nat.lt_or_ge i listed.size with h' | h'
        · simp [h'] at h0 h1; rw [h0] at h1; cases h1
        · simp [Array.getElem?_eq_none h'] at h1
      have h2 := wpOp_putIf hoj (hfree j oj hoj hji hjun hnot) (fun cs b => hsel i oi cs b hi) (fun cs b => hsel j oj cs b hoj) hQ hy h1
      have hfree' : ∀ k ok, ops[k]? = some ok → k ≠ i → (listed.setIfInBounds j true).getD k true = false →
          (∀ e ∈ ok.after, Region.binds md e = true → e.on ≠ i) → oi.apart ops ok = true := fun k ok hk hki hun hno => by
        refine hfree k ok hk hki ?_ hno
        by_cases hjk : j = k
        · subst hjk; exact hjun
        · rw [getD_set_ne true hjk] at hun; exact hun
      refine wpOp_mono (fun a' w' h3 => ⟨fun _ => h3.2.1 hjl, ih (listed.setIfInBounds j true) a' w' hfree' (ready_mono hr (Ne.symm hji)) h3.1 (h3.2.1 hjl) ?_⟩) h2
      rw [Array.setIfInBounds_comm _ _ hji]
      exact h3.2.2
theorem wpAnyG_take {i : Nat} {oi : Oper} {v : Value} {fuel : Nat} {listed : Array Bool} {a : Act} {w : World} (hi : ops[i]? = some oi)
    (hs : Region.noSelect ops = true) (hf : Region.free md ops listed i = true) (hr : (Region.ready md ops listed).contains i = true) (hw : waits md ops last i = true)
    (hQ : ∀ c a w, Q (.panic c) (a.put oi.dst v) w → Q (.panic c) a w) (hy : YieldsIf P ops S oi v a) (hS : S w)
    (h : wpAnyG P md ops Q S last fuel (listed.setIfInBounds i true) (a.put oi.dst v) w) : wpAnyG P md ops Q S last (fuel + 1) listed a w :=
  wpAnyG_first hi (Region.noSelect_spec hs) hQ hw fuel listed a w (Region.free_spec hi hf) (by simpa using hr) hy hS h
theorem wpAnyG_done {listed : Array Bool} {a : Act} {w : World} (hr : Region.ready md ops listed = []) (h : Q .normal a w) : ∀ fuel, wpAnyG P md ops Q S last fuel listed a w
  | 0 => ⟨hr, h⟩
  | _ + 1 => ⟨fun _ => h, by rw [hr]; simp⟩
def AllReadyG (P : Program) (md : Region.Mode) (ops : Array Oper) (Q : Exit → Act → World → Prop) (S : World → Prop) (last : Nat) (fuel : Nat) (listed : Array Bool) (a : Act) (w : World) (rs : List Nat) : Prop :=
  ∀ i ∈ rs, wpOp P ops Q i (fun a' w' => (i ≠ last → S w') ∧ wpAnyG P md ops Q S last fuel (listed.setIfInBounds i true) a' w') a w
theorem AllReadyG.nil {fuel : Nat} {listed : Array Bool} {a : Act} {w : World} : AllReadyG P md ops Q S last fuel listed a w [] := fun _ h => by cases h
theorem wpAnyG_ready {rs : List Nat} {fuel : Nat} {listed : Array Bool} {a : Act} {w : World} (hr : Region.ready md ops listed = rs) (hne : rs ≠ [])
    (h : AllReadyG P md ops Q S last fuel listed a w rs) : wpAnyG P md ops Q S last (fuel + 1) listed a w := ⟨fun h0 => absurd (hr ▸ h0) hne, hr ▸ h⟩
theorem AllReadyG.cons {fuel : Nat} {listed : Array Bool} {a : Act} {w : World} {i : Nat} {o : Oper} {rs : List Nat} (ho : ops[i]? = some o)
    (h : ∀ K' : Act → World → Prop, Shut (∀ a w, (i ≠ last → S w) → ((i ≠ last → S w) → wpAnyG P md ops Q S last fuel (listed.setIfInBounds i true) a w) → K' a w) → if Region.wanted o (yielded ops a.tmps) = true then Oper.wp P o a w K' Q else K' (a.put o.dst undef) w)
    (hs : AllReadyG P md ops Q S last fuel listed a w rs) : AllReadyG P md ops Q S last fuel listed a w (i :: rs) := fun j hj => by
  rcases List.mem_cons.1 hj with rfl | hj
  · exact wpOp_step ho (fun K' hK => h K' (fun a w hS hW => hK a w ⟨hS, hW hS⟩))
  · exact hs j hj
/-- The last one, when it alone is left. -/
theorem wpAnyG_end {fuel : Nat} {listed : Array Bool} {a : Act} {w : World} {o : Oper} (hr : Region.ready md ops listed = [last]) (ho : ops[last]? = some o) (hg : o.guard = none)
    (h : ∀ K : Act → World → Prop, Shut (∀ a w, wpAnyG P md ops Q S last fuel (listed.setIfInBounds last true) a w → K a w) → Oper.wp P o a w K Q) : wpAnyG P md ops Q S last (fuel + 1) listed a w := by
  refine ⟨fun h0 => absurd (hr.symm.trans h0) (by simp), fun j hj => ?_⟩
  rw [hr, List.mem_singleton] at hj
  subst hj
  refine wpOp_step ho fun K' hK => ?_
  have hw : Region.wanted o (yielded ops a.tmps) = true := by simp [Region.wanted, hg]
  rw [if_pos hw]
  exact h K' fun a w hW => hK a w ⟨fun h => absurd rfl h, hW⟩
/-- One that alone may come up now, and isn't the last. -/
theorem wpAnyG_one {i : Nat} {fuel : Nat} {listed : Array Bool} {a : Act} {w : World} {o : Oper} (hr : Region.ready md ops listed = [i]) (hl : i ≠ last) (ho : ops[i]? = some o) (hg : o.guard = none)
    (h : ∀ K : Act → World → Prop, Shut (∀ a w, S w → (S w → wpAnyG P md ops Q S last fuel (listed.setIfInBounds i true) a w) → K a w) → Oper.wp P o a w K Q) : wpAnyG P md ops Q S last (fuel + 1) listed a w := by
  refine ⟨fun h0 => absurd (hr.symm.trans h0) (by simp), fun j hj => ?_⟩
  rw [hr, List.mem_singleton] at hj
  subst hj
  refine wpOp_step ho fun K' hK => ?_
  have hw : Region.wanted o (yielded ops a.tmps) = true := by simp [Region.wanted, hg]
  rw [if_pos hw]
  exact h K' fun a w hS hW => hK a w ⟨fun _ => hS, hW hS⟩
theorem wp_region_G {id : Nat} {a : Act} {w : World} (last : Nat) (hm : P.follows .mixedOrders = true) (hS : S w.drew)
    (h : S w.drew → wpAnyG P .any ops Q S last ops.size (Array.replicate ops.size false) a w.drew) : (Code.region id ops true).wp P Q a w :=
  wp_region_any hm (wpAny_of_G _ _ _ _ (h hS))
end Go.Proofs.YtklmbiekpilkhaaGreatDoor.held
namespace Go.Proofs.YtklmbiekpilkhaaGreatDoor.row
open Go.ChangeShapes Go.WideShapes Go.ChangeAt Go.RowKit
set_option linter.unusedVariables false
set_option maxRecDepth 100000
set_option linter.unusedSimpArgs false
theorem step_append_own {α : Type} {F : α → List Value} {K by_ : Nat} {z : Value} (hF : Fm F K) (hK0 : 0 < K) (hK9 : K ≤ 9) (hby : by_ ≤ 1000) (hz : z.cells.size = K) {ops : Array Oper} {o : Oper} {a : Act} {w : World} {K' : Act → World → Prop} {Q : Exit → Act → World → Prop} {X : Prop} (hgd : o.guard = none) (s q : Operand) (T E : TypeId)
    (ho : o.op = .call { callee := .builtin .append, args := #[s, q], argTypes := #[T, T] }) (hT : Tryz.prog.underlying T = some (.slice E)) (hE : (Tryz.prog.info? E).map (fun i => (i.zero, i.size, i.bytes)) = some (some z, K, by_))
    (B : Nat) (v : Value) (ys : List α) (hs : a.eval s = v) (h : Own F K B E w v ys) (hB : B ≤ w.heap.size) (hn : ys.length ≤ 20000000) (y : α) (m : Nat × Nat) (g : Nat) (hg : g = w.heap.size) (hy : a.eval q = .slice (some ⟨g, 0, none⟩) 1 1) (L : Array Value) (hL : L = (F y).toArray)
    (hK : ∀ v' w', Own F K B E w' v' (ys ++ [y]) → w.grownBy w' v.ownBlock → (v'.ownBlock = v.ownBlock ∨ ∃ g, v'.ownBlock = some g ∧ w.heap.size ≤ g) → K' (a.put o.dst v') w') :
    if Region.wanted o (yielded ops a.tmps) = true then Oper.wp Tryz.prog o a (w.alloc (.cells L E m)) K' Q else X := by
  have hw : Region.wanted o (yielded ops a.tmps) = true := by simp [Region.wanted, hgd]
  rw [if_pos hw]
  subst hL
  obtain ⟨v', w', hr, h1, h2, h3⟩ := run_append_own hF hK0 hK9 hby hz T E hT hE w o.type B v ys h hB hn y m g hg
  unfold Oper.wp execOp
  simp only [ho, resolve, invoke, builtin, Sem.run_bind, Sem.run_pure, Result.andThen_ok, List.map_toArray, List.map_cons, List.map_nil, hs, hy, hr]
  exact hK v' w' h1 h2 h3
end Go.Proofs.YtklmbiekpilkhaaGreatDoor.row
namespace Go.Proofs.YtklmbiekpilkhaaGreatDoor.idx
open Go.ChangeShapes Go.WideShapes Go.ChangeAt Go.RowKit
open Go.Proofs.YtklmbiekpilkhaaGreatDoor.row
open Go.Proofs.YtklmbiekpilkhaaGreatDoor.codec (Bytes OutIs More bytesOf bytesOf_length strOf numOf)
open Go.Proofs.YtklmbiekpilkhaaGreatDoor.rd (got rest rd_N rd_Text rd_Done rest_lt)
open Go.Proofs.YtklmbiekpilkhaaGreatDoor.pg (IsPage payL)
set_option linter.unusedVariables false
set_option maxRecDepth 100000
set_option linter.unusedSimpArgs false

/-- A reader at q that has L left, and a thing at b. -/
def Dx (W : World) (q g : Nat) (L : Option (List Nat)) (b : Nat) (cs : Array Value) (t : TypeId) (w : World) : Prop :=
  rd.Rd W q g L w ∧ w.heap[b]? = some (.cells cs t (0, 0)) ∧ b ≠ q ∧ b ≠ g ∧ W.heap.size ≤ b
theorem Dx.lt {W w : World} {q g b : Nat} {L : Option (List Nat)} {cs : Array Value} {t : TypeId} (h : Dx W q g L b cs t w) : b < w.heap.size := (Array.getElem?_eq_some_iff.1 h.2.1).1
theorem Dx.touch {W w w' : World} {q g b : Nat} {L L' : Option (List Nat)} {cs : Array Value} {t : TypeId} (h : Dx W q g L b cs t w) (hR : rd.Rd W q g L' w') (ht : codec.Touch (fun i => i = q) w w') : Dx W q g L' b cs t w' :=
  ⟨hR, (ht.2.2.2.2 b h.lt h.2.2.1).trans h.2.1, h.2.2⟩
theorem Dx.below {W w w' : World} {q g b : Nat} {L : Option (List Nat)} {cs : Array Value} {t : TypeId} (h : Dx W q g L b cs t w) (hb : Below w.heap.size w w') : Dx W q g L b cs t w' :=
  ⟨h.1.below hb, (hb.block b h.lt).trans h.2.1, h.2.2⟩
theorem Dx.set {W w : World} {q g b : Nat} {L : Option (List Nat)} {cs cs' : Array Value} {t : TypeId} (h : Dx W q g L b cs t w) (i : Nat) (v : Value) (hc : cs.setIfInBounds i v = cs') : Dx W q g L b cs' t (w.setCell ⟨b, i, none⟩ v) :=
  ⟨bod.rd_other h.1 h.2.2.1 h.2.2.2.1 h.2.2.2.2 i v, by rw [heap_setCell_same _ _ _ _ _ _ h.2.1, hc], h.2.2⟩
theorem Dx.cell {W w : World} {q g b : Nat} {L : Option (List Nat)} {cs : Array Value} {t : TypeId} (h : Dx W q g L b cs t w) (i : Nat) (v : Value) (hv : cs[i]? = some v) : w.cell? ⟨b, i, none⟩ = some v := cell_at h.2.1 i v hv
theorem Dx.froz {W w : World} {q g b : Nat} {L : Option (List Nat)} {cs : Array Value} {t : TypeId} (h : Dx W q g L b cs t w) (i : Nat) : w.frozen? ⟨b, i, none⟩ = false := frozen_of_row w b i cs _ h.2.1
theorem dx_N {W w : World} {q g b : Nat} {L : Option (List Nat)} {cs : Array Value} {t : TypeId} (h : Dx W q g L b cs t w) (s : Nat) (h1 : 1 ≤ s) (h7 : s ≤ 7) :
    Calls Tryz.prog 18 #[.pointer (some ⟨q, 0, none⟩), .int .i64 s] w fun e w' => e = .returned (.int .i64 (numOf (got s L) : Nat)) ∧ Dx W q g (rest s L) b cs t w' :=
  (rd_N h.1 s h1 h7).mono fun _ _ ⟨he, hR, ht⟩ => ⟨he, h.touch hR ht⟩
theorem dx_Text {W w : World} {q g b : Nat} {L : Option (List Nat)} {cs : Array Value} {t : TypeId} (h : Dx W q g L b cs t w) :
    Calls Tryz.prog 17 #[.pointer (some ⟨q, 0, none⟩)] w fun e w' => e = .returned (.string (tx L)) ∧ Dx W q g (lt L) b cs t w' :=
  (rd_text h.1).mono fun _ _ ⟨he, hR, w1, t1, t2⟩ => ⟨he, hR, ((t2.2.2.2.2 b (Nat.lt_of_lt_of_le h.lt t1.2.2.2.1) h.2.2.1).trans (t1.2.2.2.2 b h.lt h.2.2.1)).trans h.2.1, h.2.2⟩
theorem dx_start {W w : World} {q g : Nat} {L : Option (List Nat)} (h : rd.Rd W q g L w) (cs : Array Value) (t : TypeId) : Dx W q g L w.heap.size cs t (w.alloc (.cells cs t)) :=
  ⟨h.alloc _, heap_alloc_new w _, by have := h.2.2.1; omega, by have := h.2.2.2.1; omega, h.bel.size⟩
/-- Bytes all of it. -/
def Oc (L : Option (List Nat)) : Prop := ∀ l, L = some l → ∀ b ∈ l, b < 256
theorem Oc.rest {L : Option (List Nat)} (h : Oc L) (k : Nat) : Oc (rest k L) := rest_lt k h
theorem Oc.lt {L : Option (List Nat)} (h : Oc L) : Oc (lt L) := (h.rest 2).rest _
theorem Oc.num {L : Option (List Nat)} (h : Oc L) (k : Nat) : numOf (got k L) < 256 ^ k := by
  cases L with
  | none => exact Nat.pos_of_ne_zero (by simp)
  | some l =>
    simp only [got]
    split
    · exact codec.numOf_lt l (h l rfl) k
    · exact Nat.pos_of_ne_zero (by simp)
theorem readE_ok (k : Nat) : ∀ (n : Nat) (L : Option (List Nat)), Oc L → okE (readG (oneE k) n L).1
  | 0, L, h => by intro e he; simp [readG] at he
  | n + 1, none, h => by intro e he; simp [readG] at he
  | n + 1, some l, h => by
    intro e he
    rw [readG_some] at he
    rcases List.mem_cons.1 he with rfl | he
    · have := h.num 4
      simpa [oneE] using this
    · exact readE_ok k n _ ((h.rest 4).rest k) e he
/-- A reader, a thing whose last cell is a row of what was read, while k are still to come. -/
def IS (kk : Nat) (E0 : TypeId) (W : World) (B q g b : Nat) (T : List E × Option (List Nat)) (k : Nat) (L : Option (List Nat)) (acc : List E) (hd : List Value) (t : TypeId) (w : World) (v : Value) : Prop :=
  GS cE 2 (oneE kk) W B q g E0 T k L v acc w ∧ w.heap[b]? = some (.cells (hd ++ [v]).toArray t (0, 0)) ∧ b ≠ q ∧ b ≠ g ∧ W.heap.size ≤ b ∧ b < B ∧ Oc L
theorem gs_touch {α : Type} {F : α → List Value} {K : Nat} {one : Option (List Nat) → α × Option (List Nat)} {W : World} {B q g b : Nat} {E : TypeId} {T : List α × Option (List Nat)} {k : Nat} {L : Option (List Nat)} {v : Value} {acc : List α} {w : World} (h : GS F K one W B q g E T k L v acc w) (h1 : b ≠ q) (h2 : b ≠ g) (h3 : W.heap.size ≤ b) (h4 : b < B) (i : Nat) (u : Value) :
    GS F K one W B q g E T k L v acc (w.setCell ⟨b, i, none⟩ u) :=
  ⟨bod.rd_other h.1 h1 h2 h3 i u, h.2.1.touch ((codec.Touch.refl (fun j => j = b) w).setCell ⟨b, i, none⟩ (.inr rfl) u) (fun g' e hg' => by have := (h.2.1.lt e).1; omega), h.2.2.1, h.2.2.2.1, h.2.2.2.2.1, h.2.2.2.2.2.1, h.2.2.2.2.2.2.1, by have := h.2.2.2.2.2.2.2; simpa using this⟩
theorem set_last (hd : List Value) (v v' : Value) : (hd ++ [v]).toArray.setIfInBounds hd.length v' = (hd ++ [v']).toArray := by
  simp
/-- One more was read, and its row stored anew. -/
theorem IS.more {kk : Nat} {E0 : TypeId} {W : World} {B q g b : Nat} {T : List E × Option (List Nat)} {k : Nat} {l : List Nat} {acc : List E} {hd : List Value} {t : TypeId} {w w1 w2 : World} {v v' : Value} {j : Nat} (hj : j = hd.length) (h : IS kk E0 W B q g b T (k + 1) (some l) acc hd t w v)
    (hR : rd.Rd W q g (oneE kk (some l)).2 w1) (hB : B ≤ w1.heap.size) (ho1 : Own cE 2 B E0 w1 v acc) (hb1 : w1.heap[b]? = some (.cells (hd ++ [v]).toArray t (0, 0))) (ho : Own cE 2 B E0 w2 v' (acc ++ [(oneE kk (some l)).1])) (hg : w1.grownBy w2 v.ownBlock) :
    IS kk E0 W B q g b T k (oneE kk (some l)).2 (acc ++ [(oneE kk (some l)).1]) hd t (w2.setCell ⟨b, j, none⟩ v') v' := by
  subst hj
  obtain ⟨hgs, -, h2, h3, h4, h5, h6⟩ := h
  have hm := GS.more hgs hR hB ho1 ho hg
  refine ⟨gs_touch hm h2 h3 h4 h5 _ _, ?_, h2, h3, h4, h5, ?_⟩
  · have e : w2.heap[b]? = some (.cells (hd ++ [v]).toArray t (0, 0)) := by
      rw [hg.block b (by omega) (fun e => by have := (ho1.lt e.symm).1; omega)]
      exact hb1
    rw [heap_setCell_same _ _ _ _ _ _ e, set_last]
  · exact (h6.rest 4).rest kk
theorem five {w : World} {g : Nat} {t : TypeId} {cs : Array Value} (h : w.heap[g]? = some (.cells cs t (0, 0))) (hs : cs.size = 5) (v0 v1 v2 v3 v4 : Value) :
    (((((w.setCell ⟨g, 0, none⟩ v0).setCell ⟨g, 1, none⟩ v1).setCell ⟨g, 2, none⟩ v2).setCell ⟨g, 3, none⟩ v3).setCell ⟨g, 4, none⟩ v4).heap[g]? = some (.cells #[v0, v1, v2, v3, v4] t (0, 0)) ∧
    (∀ k, k ≠ g → (((((w.setCell ⟨g, 0, none⟩ v0).setCell ⟨g, 1, none⟩ v1).setCell ⟨g, 2, none⟩ v2).setCell ⟨g, 3, none⟩ v3).setCell ⟨g, 4, none⟩ v4).heap[k]? = w.heap[k]?) ∧
    ∀ (B : Nat) (a : World), Below B a w → B ≤ g → Below B a (((((w.setCell ⟨g, 0, none⟩ v0).setCell ⟨g, 1, none⟩ v1).setCell ⟨g, 2, none⟩ v2).setCell ⟨g, 3, none⟩ v3).setCell ⟨g, 4, none⟩ v4) := by
  refine ⟨?_, fun k hk => by rw [heap_setCell_other _ _ _ _ hk, heap_setCell_other _ _ _ _ hk, heap_setCell_other _ _ _ _ hk, heap_setCell_other _ _ _ _ hk, heap_setCell_other _ _ _ _ hk], fun B a hb hg => ((((hb.setCell (p := ⟨g, 0, none⟩) hg _).setCell (p := ⟨g, 1, none⟩) hg _).setCell (p := ⟨g, 2, none⟩) hg _).setCell (p := ⟨g, 3, none⟩) hg _).setCell (p := ⟨g, 4, none⟩) hg _⟩
  rw [heap_setCell_same _ g 4 _ t _ (heap_setCell_same _ g 3 _ t _ (heap_setCell_same _ g 2 _ t _ (heap_setCell_same _ g 1 _ t _ (heap_setCell_same _ g 0 _ t _ h))))]
  obtain ⟨l⟩ := cs
  have hl : l.length = 5 := hs
  match l, hl with
  | [a0, a1, a2, a3, a4], _ => rfl
theorem twoC {w : World} {g : Nat} {t : TypeId} {cs : Array Value} (h : w.heap[g]? = some (.cells cs t (0, 0))) (hs : cs.size = 2) (v0 v1 : Value) :
    ((w.setCell ⟨g, 0, none⟩ v0).setCell ⟨g, 1, none⟩ v1).heap[g]? = some (.cells #[v0, v1] t (0, 0)) ∧
    (∀ k, k ≠ g → ((w.setCell ⟨g, 0, none⟩ v0).setCell ⟨g, 1, none⟩ v1).heap[k]? = w.heap[k]?) ∧
    ∀ (B : Nat) (a : World), Below B a w → B ≤ g → Below B a ((w.setCell ⟨g, 0, none⟩ v0).setCell ⟨g, 1, none⟩ v1) := by
  refine ⟨?_, fun k hk => by rw [heap_setCell_other _ _ _ _ hk, heap_setCell_other _ _ _ _ hk], fun B a hb hg => (hb.setCell (p := ⟨g, 0, none⟩) hg _).setCell (p := ⟨g, 1, none⟩) hg _⟩
  rw [heap_setCell_same _ g 1 _ t _ (heap_setCell_same _ g 0 _ t _ h)]
  obtain ⟨l⟩ := cs
  have hl : l.length = 2 := hs
  match l, hl with
  | [a0, a1], _ => rfl
theorem infoE : (Tryz.prog.info? 64).map (fun i => (i.zero, i.size, i.bytes)) = some (some (.agg #[.int .u32 0, .int .i64 0]), 2, 16) := by kernel_rfl
theorem infoK : (Tryz.prog.info? 66).map (fun i => (i.zero, i.size, i.bytes)) = some (some (.agg #[.int .u32 0, .int .i64 0]), 2, 16) := by kernel_rfl
theorem sizeX (cs : Array Value) (h : cs.size = 5) : (Tryz.prog.info? 27).map (·.size) = some cs.size := by
  rw [h]
  kernel_rfl
theorem sizeF (cs : Array Value) (h : cs.size = 2) : (Tryz.prog.info? 33).map (·.size) = some cs.size := by
  rw [h]
  kernel_rfl
end Go.Proofs.YtklmbiekpilkhaaGreatDoor.idx
namespace Go.Proofs.YtklmbiekpilkhaaGreatDoor.idx
open Go.ChangeShapes Go.WideShapes Go.ChangeAt Go.RowKit
open Go.Proofs.YtklmbiekpilkhaaGreatDoor.row
open Go.Proofs.YtklmbiekpilkhaaGreatDoor.codec (Bytes OutIs More bytesOf bytesOf_length strOf numOf)
open Go.Proofs.YtklmbiekpilkhaaGreatDoor.rd (got rest rd_N rd_Text rd_Done rest_lt)
open Go.Proofs.YtklmbiekpilkhaaGreatDoor.pg (IsPage payL)
set_option linter.unusedVariables false
set_option maxRecDepth 100000
set_option linter.unusedSimpArgs false

theorem own_other {α : Type} {F : α → List Value} {K B r : Nat} {E : TypeId} {w w' : World} {v : Value} {ys : List α} (h : Own F K B E w v ys) (hk : ∀ k, k ≠ r → w'.heap[k]? = w.heap[k]?) (hv : ∀ g, v.ownBlock = some g → ¬ g = r) : Own F K B E w' v ys := by
  refine ⟨h.1, h.2.imp id fun ⟨g, cap, cur, h1, h2, h3, h4⟩ => ⟨g, cap, cur, h1, h2, ?_, h4⟩⟩
  rw [hk g (hv g (by rw [h1]; rfl))]
  exact h3
/-- What GetFlags answers. -/
def FlagsAns (W : World) (l : List Nat) (e : Ending) (w' : World) : Prop :=
  ((∃ v es, IsPage 2 l ∧ readR 1 (rest 4 (some (payL l))) = (es, some []) ∧ flsB (numOf (got 4 (some (payL l)))) es = true ∧ okE es ∧ es.length ≤ 70000 ∧ e = .returned (.tuple #[.agg #[.int .u32 (numOf (got 4 (some (payL l))) : Nat), v], .int .i64 0]) ∧ Own cE 2 W.heap.size 66 w' v es) ∨
    e = .returned (.tuple #[.agg #[.int .u32 0, .slice none 0 0], .int .i64 9])) ∧ Below W.heap.size W w'
set_option maxHeartbeats 4000000 in
theorem getFlags_any (W : World) (n c : Nat) (A : Option Addr) (l : List Nat) (hB : Bytes W A n l) (hn : n ≤ 1000000) (hc : n ≤ c) (hr : nam.Room W) :
    Calls Tryz.prog 7 #[.slice A n c] W fun e w' => FlagsAns W l e w' := by
  obtain ⟨W1, hW1⟩ : ∃ W1, W1 = W.alloc (.cells #[.int .u32 0, .slice none 0 0] 33) := ⟨_, rfl⟩
  have HBW := Lib.hid (show Below W.heap.size W W1 by rw [hW1]; exact (Below.refl _ _).alloc (Nat.le_refl _) _)
  have HWS := Lib.hid (show W.heap.size < W1.heap.size by rw [hW1]; simp)
  have HRC := Lib.hid (fun (w1 : World) (h : Below W1.heap.size W1 w1) => (boxed (w := W) (o := .cells #[.int .u32 0, .slice none 0 0] 33) (w1 := w1) (by rw [← hW1]; exact h)).1)
  have HG := Lib.hid (get_any W1 2 n c A l (hB.below hB.lt HBW.out) (by omega) hc)
  have Hr := Lib.hid hr
  have HL := Lib.hid hB.2.1
  have HN := Lib.hid hB.1
  have HW1 := Lib.hid hW1
  clear hB hr hW1 hc
  go_enter Tryz.func7, Tryz.ntmps7
  go_wp2_with fail
  rw [← HW1.out]
  refine HG.out.mono ?_
  rintro e w1 (⟨hip, q, g, rfl, hr⟩ | ⟨hnp, rfl, hb⟩)
  · have hpl : Oc (some (payL l)) := by
      intro m hm b hb
      cases hm
      obtain ⟨m, -, -, -, hp⟩ := pg.isPage_pay HL.out (by have := HN.out; omega) hip
      refine HL.out b ?_
      rw [hp]
      simp [pg.pageL, pg.body, hb]
    have HI := Lib.hid hip
    have HPL := Lib.hid hpl
    have HR1 := Lib.hid hr
    clear hip hr hpl
    go_wp2_with fail
    have HD0 := Lib.hid (dx_start HR1.out #[.int .u32 0, .slice none 0 0] 33)
    generalize hb0 : w1.heap.size = b at *
    generalize w1.alloc _ = w1' at *
    clear hb0
    obtain ⟨ep, hep⟩ : ∃ ep, ep = numOf (got 4 (some (payL l))) := ⟨_, rfl⟩
    have HC0 := Lib.hid (dx_N HD0.out 4 (by decide) (by decide))
    have bep : ep < 4294967296 := by rw [hep]; exact HPL.out.num 4
    have HO0 : Hid (Oc (rest 4 (some (payL l)))) := Lib.hid (HPL.out.rest 4)
    rw [← hep] at HC0
    have HEep := Lib.hid hep
    clear hep
    refine HC0.out.mono ?_
    rintro e wa0 ⟨rfl, hD⟩
    have HDa := Lib.hid (show Dx W1 q g (rest 4 (some (payL l))) b #[.int .u32 0, .slice none 0 0] 33 wa0 from hD)
    have e2 := HDa.out.cell 0 _ rfl
    have f2 := HDa.out.froz 0
    clear hD HC0 HD0
    go_wp2_with fail
    have HDn0 := Lib.hid (HDa.out.set (cs' := #[.int .u32 (ep : Nat), .slice none 0 0]) 0 (.int .u32 (ep : Nat)) rfl)
    generalize wa0.setCell ⟨b, 0, none⟩ (.int .u32 (ep : Nat)) = wb0 at *
    clear HDa e2 f2
    obtain ⟨L0, hL0⟩ : ∃ L0, L0 = rest 4 (some (payL l)) := ⟨_, rfl⟩
    rw [← hL0] at HDn0 HO0
    have HL0 := Lib.hid hL0
    clear hL0
    obtain ⟨n0, hn0⟩ : ∃ n0, n0 = numOf (got 2 L0) := ⟨_, rfl⟩
    have HCc := Lib.hid (dx_N HDn0.out 2 (by decide) (by decide))
    have hn65 : n0 ≤ 65535 := by have := HO0.out.num 2; omega
    rw [← hn0] at HCc
    have HT : Hid (readR 1 L0 = readG (oneE 1) n0 (rest 2 L0)) := Lib.hid (by rw [hn0]; rfl)
    have HOKT : Hid (okE (readR 1 L0).1) := Lib.hid (readE_ok 1 _ _ (HO0.out.rest 2))
    clear hn0
    refine HCc.out.mono ?_
    rintro e w2 ⟨rfl, hD⟩
    have HD2 := Lib.hid hD
    clear hD HCc HDn0
    go_wp2_with fail
    go_loopw [7] (fun i wr => ∃ k : Nat, i = .int .i64 k ∧ k ≤ 65535 ∧ Hid (∃ L acc v, IS 1 66 W1 w2.heap.size q g b (readR 1 L0) k L acc [.int .u32 (ep : Nat)] 33 wr v)) (fun i _ => (intOf i).toNat)
    case atStart =>
      refine ⟨n0, rfl, hn65, Lib.hid ⟨rest 2 L0, [], .slice none 0 0, ⟨HD2.out.1, Own.nil _ _ _ _ _, by rw [HT.out]; rfl, by rw [HT.out], by simp; omega, HD2.out.1.2.2.1, HD2.out.1.2.2.2.1, Nat.le_refl _⟩, HD2.out.2.1, HD2.out.2.2.1, HD2.out.2.2.2.1, HD2.out.2.2.2.2, HD2.out.lt, HO0.out.rest 2⟩⟩
    case round =>
      obtain ⟨k, rfl, hk, HS⟩ := hrel
      obtain ⟨L, acc, v, hgs, hcell, hbq, hbg, hWb, hbB, hoc⟩ := HS.out
      have hal : acc.length ≤ 70000 := by have := hgs.2.2.2.2.1; omega
      have HBel := Lib.hid hgs.1.bel
      have HCell := Lib.hid hcell
      have HW2 := Lib.hid (show W1.heap.size ≤ w2.heap.size by have := hgs.1.2.1; have := hgs.2.2.2.2.2.1; omega)
      have HbB := Lib.hid hbB
      cases k with
      | zero =>
        obtain ⟨ea, eL⟩ := hgs.stop (Or.inl rfl)
        obtain ⟨A2, q2, hv, hc2, hA2, hRd⟩ := hgs.2.1.rd fE
        subst hv
        have hD := rd_Done hgs.1
        have HOK : Hid (okE acc) := Lib.hid (by rw [ea]; exact HOKT.out)
        have HF := Lib.hid (fun w (hb : Below wr.heap.size wr w) => formedFlags_any w ep A2 acc.length q2 acc (hRd.below hb) (by omega) HOK.out)
        have HOw := Lib.hid hgs.2.1
        have HEA := Lib.hid ea
        have HEL := Lib.hid eL
        have HAL := Lib.hid hal
        clear hgs ea eL hRd hA2 HS hcell hoc hc2 hbB hal
        by_cases hL : L = some []
        · rw [decide_eq_true hL] at hD
          have HD := Lib.hid hD
          have HT2 := Lib.hid (show readR 1 L0 = (acc, some []) from Prod.ext HEA.out.symm (by rw [← HEL.out, hL]))
          clear hD hL
          generalize hm : acc.length = m at *
          have HMm := Lib.hid hm
          clear hm
          cases htb : flsB ep acc
          · rw [htb] at HF
            clear htb
            have c0 := cell_at HCell.out 0 _ rfl
            have c1 := cell_at HCell.out 1 _ rfl
            go_wp2_with (first
              | (go_at_call 20; refine HD.out.mono ?_; rintro e w3 ⟨rfl, rfl⟩)
              | (go_at_call 22; refine (HF.out _ (Below.refl _ _)).mono ?_; rintro e w4 ⟨rfl, hb4⟩; have HB4 := Lib.hid (HBel.out.trans (hb4.mono HBel.out.size)); clear hb4 c0 c1; have r0 := cell_at (HRC.out _ HB4.out) 0 _ rfl; have s0 := frozen_of_row _ _ 0 _ _ (HRC.out _ HB4.out); have r1 := cell_at (HRC.out _ HB4.out) 1 _ rfl; have s1 := frozen_of_row _ _ 1 _ _ (HRC.out _ HB4.out)))
            have h7 := twoC (HRC.out _ HB4.out) rfl (.int .u32 0) (.slice none 0 0)
            exact bodyPost_ret (bod.results_note Tryz.results7 _ _ W.heap.size _ _ _ _ rfl h7.1 Tryz.underlying33 rfl (sizeF _ rfl)) rfl ⟨Or.inr rfl, h7.2.2 _ _ (HBW.out.trans (HB4.out.mono HBW.out.size)) (Nat.le_refl _)⟩
          · rw [htb] at HF
            have HF1 : Hid (readR 1 (rest 4 (some (payL l))) = (acc, some [])) := Lib.hid (by rw [← HL0.out]; exact HT2.out)
            have HF2 : Hid (flsB (numOf (got 4 (some (payL l)))) acc = true) := Lib.hid (by rw [← HEep.out]; exact htb)
            have HF3 : Hid (∀ v : Value, Value.agg #[.int .u32 (ep : Nat), v] = Value.agg #[.int .u32 (numOf (got 4 (some (payL l))) : Nat), v]) := Lib.hid (fun v => by rw [← HEep.out])
            have HAL2 : Hid (acc.length ≤ 70000) := Lib.hid (by rw [HMm.out]; exact HAL.out)
            clear htb
            have c0 := cell_at HCell.out 0 _ rfl
            have c1 := cell_at HCell.out 1 _ rfl
            go_wp2_with (first
              | (go_at_call 20; refine HD.out.mono ?_; rintro e w3 ⟨rfl, rfl⟩)
              | (go_at_call 22; refine (HF.out _ (Below.refl _ _)).mono ?_; rintro e w4 ⟨rfl, hb4⟩; have HB4 := Lib.hid (HBel.out.trans (hb4.mono HBel.out.size)); have hcell4 := (hb4.block _ (Array.getElem?_eq_some_iff.1 HCell.out).1).trans HCell.out; have HO4 := Lib.hid (HOw.out.below hb4); clear hb4 c0 c1; have c0 := cell_at hcell4 0 _ rfl; have c1 := cell_at hcell4 1 _ rfl; clear hcell4; have r0 := cell_at (HRC.out _ HB4.out) 0 _ rfl; have s0 := frozen_of_row _ _ 0 _ _ (HRC.out _ HB4.out); have r1 := cell_at (HRC.out _ HB4.out) 1 _ rfl; have s1 := frozen_of_row _ _ 1 _ _ (HRC.out _ HB4.out)))
            have h7 := twoC (HRC.out _ HB4.out) rfl (.int .u32 (ep : Nat)) (.slice A2 m q2)
            have k1 := Nat.le_trans HBW.out.size HW2.out
            have ho := own_other (own_mono HO4.out k1) h7.2.1 (fun g' e hg' => by have := (HO4.out.lt e).1; have := HWS.out; have := HW2.out; omega)
            have hbe := h7.2.2 _ _ (HBW.out.trans (HB4.out.mono HBW.out.size)) (Nat.le_refl _)
            refine bodyPost_ret (bod.results_note Tryz.results7 _ _ W.heap.size _ _ _ _ rfl h7.1 Tryz.underlying33 rfl (sizeF _ rfl)) rfl ⟨Or.inl ⟨.slice A2 m q2, acc, HI.out, HF1.out, HF2.out, HOK.out, HAL2.out, ?_, ho⟩, hbe⟩
            exact congrArg (fun x => Ending.returned (.tuple #[x, .int .i64 0])) (HF3.out _)
        · rw [decide_eq_false hL] at hD
          have HD := Lib.hid hD
          clear hD hL
          have r0 := cell_at (HRC.out _ HBel.out) 0 _ rfl
          have s0 := frozen_of_row _ _ 0 _ _ (HRC.out _ HBel.out)
          have r1 := cell_at (HRC.out _ HBel.out) 1 _ rfl
          have s1 := frozen_of_row _ _ 1 _ _ (HRC.out _ HBel.out)
          go_wp2_with (go_at_call 20; refine HD.out.mono ?_; rintro e w3 ⟨rfl, rfl⟩)
          have h7 := twoC (HRC.out _ HBel.out) rfl (.int .u32 0) (.slice none 0 0)
          exact bodyPost_ret (bod.results_note Tryz.results7 _ _ W.heap.size _ _ _ _ rfl h7.1 Tryz.underlying33 rfl (sizeF _ rfl)) rfl ⟨Or.inr rfl, h7.2.2 _ _ (HBW.out.trans (HBel.out.mono HBW.out.size)) (Nat.le_refl _)⟩
      | succ k =>
        have hk0 : decide ((0 : Int) < ((k + 1 : Nat) : Int)) = true := by rw [decide_eq_true_iff]; omega
        cases L with
        | none =>
          have hbad := rd_Bad hgs.1
          have hD := rd_Done hgs.1
          rw [decide_eq_true rfl] at hbad
          rw [decide_eq_false (by simp)] at hD
          have HX := Lib.hid hbad
          have HD := Lib.hid hD
          clear hgs hbad hD HS hcell hoc hbB
          have r0 := cell_at (HRC.out _ HBel.out) 0 _ rfl
          have s0 := frozen_of_row _ _ 0 _ _ (HRC.out _ HBel.out)
          have r1 := cell_at (HRC.out _ HBel.out) 1 _ rfl
          have s1 := frozen_of_row _ _ 1 _ _ (HRC.out _ HBel.out)
          go_wp2_with (first
            | (go_at_call 19; refine HX.out.mono ?_; rintro e w3 ⟨rfl, rfl⟩)
            | (go_at_call 20; refine HD.out.mono ?_; rintro e w3 ⟨rfl, rfl⟩))
          have h7 := twoC (HRC.out _ HBel.out) rfl (.int .u32 0) (.slice none 0 0)
          exact bodyPost_ret (bod.results_note Tryz.results7 _ _ W.heap.size _ _ _ _ rfl h7.1 Tryz.underlying33 rfl (sizeF _ rfl)) rfl ⟨Or.inr rfl, h7.2.2 _ _ (HBW.out.trans (HBel.out.mono HBW.out.size)) (Nat.le_refl _)⟩
        | some m =>
          have hbad := rd_Bad hgs.1
          rw [decide_eq_false (by simp)] at hbad
          have HX := Lib.hid hbad
          obtain ⟨nv, hnv⟩ : ∃ nv : Nat, nv = numOf (got 4 (some m)) := ⟨_, rfl⟩
          have HC3 := Lib.hid (rd_N hgs.1 4 (by decide) (by decide))
          have hnv32 : nv < 4294967296 := by rw [hnv]; exact hoc.num 4
          obtain ⟨av, hav⟩ : ∃ av : Nat, av = numOf (got 1 (rest 4 (some m))) := ⟨_, rfl⟩
          have HY := Lib.hid (show (⟨nv, (av : Int)⟩ : E) = (oneE 1 (some m)).1 by rw [hnv, hav]; rfl)
          have HCA := Lib.hid (fun w (h : rd.Rd W1 q g (rest 4 (some m)) w) => rd_N h 1 (by decide) (by decide))
          rw [← hnv] at HC3
          rw [← hav] at HCA
          have HS0 := Lib.hid (show IS 1 66 W1 w2.heap.size q g b (readR 1 L0) (k + 1) (some m) acc [.int .u32 (ep : Nat)] 33 wr v from ⟨hgs, hcell, hbq, hbg, hWb, hbB, hoc⟩)
          clear hgs hbad HS hnv hav hcell hoc hbB
          go_wp2_with (go_at_call 19; refine HX.out.mono ?_; rintro e w3 ⟨rfl, rfl⟩)
          refine HC3.out.mono ?_
          rintro e w4 ⟨rfl, hr4, ht4⟩
          have HR4 := Lib.hid hr4
          have HO4 := Lib.hid (own_touch HS0.out.1.2.1 HS0.out.1.2.2.2.2.2.1 ht4)
          have HB4 := Lib.hid (show w2.heap.size ≤ w4.heap.size by have := HS0.out.1.2.2.2.2.2.2.2; have := ht4.2.2.2.1; omega)
          have hc4 := (ht4.2.2.2.2 b (Array.getElem?_eq_some_iff.1 HCell.out).1 hbq).trans HCell.out
          have HC4 := Lib.hid (show w4.drew.heap[b]? = some (.cells #[.int .u32 (ep : Nat), v] 33 (0, 0)) from hc4)
          clear hr4 ht4 hc4
          go_wp2_with fail
          refine wp_region_noPanic ?_
          refine held.wp_region_G (S := fun w' => w'.heap[b]? = some (.cells #[.int .u32 (ep : Nat), v] 33 (0, 0))) 9 (by kernel_rfl) HC4.out (fun hHeld => ?_)
          refine held.wpAnyG_take (i := 0) (v := ?_) rfl (by kernel_rfl) (by kernel_rfl) (by kernel_rfl) (by kernel_rfl) (fun _ _ _ h => h) (Or.inl ⟨by kernel_rfl, ?_⟩) hHeld ?_
          rotate_left
          · (intro w' hw'; go_simp; first | done | with_reducible rfl)
          refine held.wpAnyG_take (i := 1) (v := ?_) rfl (by kernel_rfl) (by kernel_rfl) (by kernel_rfl) (by kernel_rfl) (fun _ _ _ h => h) (Or.inl ⟨by kernel_rfl, ?_⟩) hHeld ?_
          rotate_left
          · (intro w' hw'; have c4 := cell_at hw' 1 v rfl; go_simp; first | done | with_reducible rfl)
          refine held.wpAnyG_take (i := 2) (v := ?_) rfl (by kernel_rfl) (by kernel_rfl) (by kernel_rfl) (by kernel_rfl) (fun _ _ _ h => h) (Or.inl ⟨by kernel_rfl, ?_⟩) hHeld ?_
          rotate_left
          · (intro w' hw'; go_simp; first | done | with_reducible rfl)
          refine held.wpAnyG_take (i := 3) (v := ?_) rfl (by kernel_rfl) (by kernel_rfl) (by kernel_rfl) (by kernel_rfl) (fun _ _ _ h => h) (Or.inl ⟨by kernel_rfl, ?_⟩) hHeld ?_
          rotate_left
          · (intro w' hw'; go_simp; first | done | with_reducible rfl)
          have HR4d := Lib.hid (HR4.out.drewN 1)
          have HO4d := Lib.hid (HO4.out.below (codec.below_draws (Below.refl _ _) 1))
          have HB4d := Lib.hid (show w2.heap.size ≤ (w4.drewN 1).heap.size from HB4.out)
          change Hid (rd.Rd W1 q g (rest 4 (some m)) w4.drew) at HR4d
          change Hid (Own cE 2 w2.heap.size 66 w4.drew v acc) at HO4d
          change Hid (w2.heap.size ≤ w4.drew.heap.size) at HB4d
          generalize w4.drew = w5 at *
          refine held.wpAnyG_ready (rs := [4]) (by kernel_rfl) (by simp) ?_
          refine held.AllReadyG.cons rfl (fun K hK => ?_) held.AllReadyG.nil
          go_simp
          refine (HCA.out w5 HR4d.out).mono ?_
          rintro e w6 ⟨rfl, hr6, ht6⟩
          have HR6 := Lib.hid hr6
          have HO6 := Lib.hid (own_touch HO4d.out HS0.out.1.2.2.2.2.2.1 ht6)
          have HB6 := Lib.hid (show w2.heap.size ≤ w6.heap.size by have := HB4d.out; have := ht6.2.2.2.1; omega)
          have hc6 := (ht6.2.2.2.2 b (Array.getElem?_eq_some_iff.1 hHeld).1 hbq).trans hHeld
          have HC6 := Lib.hid hc6
          clear hr6 ht6 hc6
          go_wp2_with fail
          refine hK.out _ _ (fun _ => HC6.out) (fun hh => ?_)
          have hH1 := hh (by decide)
          clear hK K hh hHeld
          refine held.wpAnyG_take (i := 5) (v := ?_) rfl (by kernel_rfl) (by kernel_rfl) (by kernel_rfl) (by kernel_rfl) (fun _ _ _ h => h) (Or.inl ⟨by kernel_rfl, ?_⟩) hH1 ?_
          rotate_left
          · (intro w' hw'; go_simp; first | done | with_reducible rfl)
          refine held.wpAnyG_ready (rs := [6]) (by kernel_rfl) (by simp) ?_
          refine held.AllReadyG.cons rfl (fun K hK => ?_) held.AllReadyG.nil
          go_simp
          have hbl : Below w6.heap.size w6 (w6.alloc (.cells #[.int .u32 (nv : Nat), .int .i64 (av : Nat)] 66)) := (Below.refl _ _).alloc (Nat.le_refl _) _
          refine hK.out _ _ (fun _ => ((hbl.block _ (Array.getElem?_eq_some_iff.1 HC6.out).1).trans HC6.out)) (fun hh => ?_)
          have hH2 := hh (by decide)
          clear hK K hh hH1
          clear hbl
          refine held.wpAnyG_ready (rs := [7]) (by kernel_rfl) (by simp) ?_
          refine held.AllReadyG.cons rfl (fun K hK => ?_) held.AllReadyG.nil
          refine row.step_append_own fE (by decide) (by decide) (by_ := 16) (by decide) (z := .agg #[.int .u32 0, .int .i64 0]) rfl rfl (.tmp 37) (.tmp 42) 31 66 rfl Tryz.underlying31 infoK w2.heap.size v acc (by simp [Act.eval, Act.put]) HO6.out HB6.out (by omega) ⟨nv, (av : Int)⟩ (0, 0) w6.heap.size rfl (by simp [Act.eval, Act.put]) _ rfl ?_
          intro v7 w7 ho7 hg7 hat7
          obtain ⟨A7, m7, k7, hv7⟩ : ∃ A7 m7 k7, v7 = .slice A7 m7 k7 := (by obtain ⟨A7, k7, hv7, -⟩ := ho7.rd fE; exact ⟨_, _, _, hv7⟩)
          subst hv7
          have hc7 := (hg7.block b (Nat.lt_of_lt_of_le HbB.out HB6.out) (fun e => by have := (HO6.out.lt e.symm).1; have := HbB.out; omega)).trans HC6.out
          have c7 := cell_at hc7 1 v rfl
          have f7 := frozen_of_row _ _ 1 _ _ hc7
          have HS7 := Lib.hid (IS.more (j := 1) rfl HS0.out HR6.out HB6.out HO6.out HC6.out (by rw [← HY.out]; exact ho7) hg7)
          clear ho7 hg7 hat7
          refine hK.out _ _ (fun _ => hc7) (fun hh => ?_)
          have hH3 := hh (by decide)
          clear hK K hh hH2
          refine held.wpAnyG_take (i := 8) (v := ?_) rfl (by kernel_rfl) (by kernel_rfl) (by kernel_rfl) (by kernel_rfl) (fun _ _ _ h => h) (Or.inl ⟨by kernel_rfl, ?_⟩) hH3 ?_
          rotate_left
          · (intro w' hw'; go_simp; first | done | with_reducible rfl)
          refine held.wpAnyG_ready (rs := [9]) (by kernel_rfl) (by simp) ?_
          refine held.AllReadyG.cons rfl (fun K hK => ?_) held.AllReadyG.nil
          go_simp
          refine hK.out _ _ (fun hh => absurd rfl hh) (fun _ => ?_)
          clear hK K hH3
          refine held.wpAnyG_done (by kernel_rfl) ?_ _
          refine NoPanic.normal ?_
          go_simp
          clear c7 f7
          have HS8 := Lib.hid (show ∃ L acc v, IS 1 66 W1 w2.heap.size q g b (readR 1 L0) k L acc [.int .u32 (ep : Nat)] 33 (w7.setCell ⟨b, 1, none⟩ (.slice A7 m7 k7)) v from ⟨_, _, _, HS7.out⟩)
          clear HS7
          generalize w7.setCell ⟨b, 1, none⟩ (.slice A7 m7 k7) = w8 at *
          go_wp2_with fail
          go_roundw
          case rel => first | exact ⟨k, by go_num, by omega, HS8⟩ | ((repeat apply Exists.intro); exact ⟨⟨k, by go_num, by omega, HS8⟩, rfl⟩)
          case measure => first | (simp [intOf]; done) | (simp [intOf]; omega)
  · have HB1 := Lib.hid hb
    clear hb hnp
    have r0 := cell_at (HRC.out _ HB1.out) 0 _ rfl
    have s0 := frozen_of_row _ _ 0 _ _ (HRC.out _ HB1.out)
    have r1 := cell_at (HRC.out _ HB1.out) 1 _ rfl
    have s1 := frozen_of_row _ _ 1 _ _ (HRC.out _ HB1.out)
    go_wp2_with fail
    have h7 := twoC (HRC.out _ HB1.out) rfl (.int .u32 0) (.slice none 0 0)
    exact bodyPost_ret (bod.results_note Tryz.results7 _ _ W.heap.size _ _ _ _ rfl h7.1 Tryz.underlying33 rfl (sizeF _ rfl)) rfl ⟨Or.inr rfl, h7.2.2 _ _ (HBW.out.trans (HB1.out.mono HBW.out.size)) (Nat.le_refl _)⟩
end Go.Proofs.YtklmbiekpilkhaaGreatDoor.idx
namespace Go.Proofs.YtklmbiekpilkhaaGreatDoor.idx
open Go.ChangeShapes Go.WideShapes Go.ChangeAt Go.RowKit
open Go.Proofs.YtklmbiekpilkhaaGreatDoor.row
open Go.Proofs.YtklmbiekpilkhaaGreatDoor.codec (Bytes OutIs More bytesOf bytesOf_length strOf numOf)
open Go.Proofs.YtklmbiekpilkhaaGreatDoor.rd (got rest rd_N rd_Text rd_Done rest_lt)
open Go.Proofs.YtklmbiekpilkhaaGreatDoor.pg (IsPage payL)
set_option linter.unusedVariables false
set_option maxRecDepth 100000
set_option linter.unusedSimpArgs false

/-- What GetIndex answers. -/
def IndexAns (W : World) (l : List Nat) (e : Ending) (w' : World) : Prop :=
  ((∃ v es, IsPage 1 l ∧ readR 4 (iT (payL l)) = (es, some []) ∧ indexB (tx (some (payL l))) (numOf (got 4 (iN (payL l)))) (numOf (got 4 (iE (payL l)))) ((numOf (got 4 (iX (payL l))) : Nat) : Int) es = true ∧ okE es ∧ es.length ≤ 70000 ∧ e = .returned (.tuple #[.agg #[.string (tx (some (payL l))), .int .u32 (numOf (got 4 (iN (payL l))) : Nat), .int .u32 (numOf (got 4 (iE (payL l))) : Nat), .int .i64 (numOf (got 4 (iX (payL l))) : Nat), v], .int .i64 0]) ∧ Own cE 2 W.heap.size 64 w' v es) ∨
    e = .returned (.tuple #[.agg #[.string ⟨#[]⟩, .int .u32 0, .int .u32 0, .int .i64 0, .slice none 0 0], .int .i64 9])) ∧ Below W.heap.size W w'
set_option maxHeartbeats 4000000 in
theorem getIndex_any (W : World) (n c : Nat) (A : Option Addr) (l : List Nat) (hB : Bytes W A n l) (hn : n ≤ 1000000) (hc : n ≤ c) (hr : nam.Room W) :
    Calls Tryz.prog 6 #[.slice A n c] W fun e w' => IndexAns W l e w' := by
  obtain ⟨W1, hW1⟩ : ∃ W1, W1 = W.alloc (.cells #[.string ⟨#[]⟩, .int .u32 0, .int .u32 0, .int .i64 0, .slice none 0 0] 27) := ⟨_, rfl⟩
  have HBW := Lib.hid (show Below W.heap.size W W1 by rw [hW1]; exact (Below.refl _ _).alloc (Nat.le_refl _) _)
  have HWS := Lib.hid (show W.heap.size < W1.heap.size by rw [hW1]; simp)
  have HRC := Lib.hid (fun (w1 : World) (h : Below W1.heap.size W1 w1) => (boxed (w := W) (o := .cells #[.string ⟨#[]⟩, .int .u32 0, .int .u32 0, .int .i64 0, .slice none 0 0] 27) (w1 := w1) (by rw [← hW1]; exact h)).1)
  have HG := Lib.hid (get_any W1 1 n c A l (hB.below hB.lt HBW.out) (by omega) hc)
  have Hr := Lib.hid hr
  have HL := Lib.hid hB.2.1
  have HN := Lib.hid hB.1
  have HW1 := Lib.hid hW1
  clear hB hr hW1 hc
  go_enter Tryz.func6, Tryz.ntmps6
  go_wp2_with fail
  rw [← HW1.out]
  refine HG.out.mono ?_
  rintro e w1 (⟨hip, q, g, rfl, hr⟩ | ⟨hnp, rfl, hb⟩)
  · have hpl : Oc (some (payL l)) := by
      intro m hm b hb
      cases hm
      obtain ⟨m, -, -, -, hp⟩ := pg.isPage_pay HL.out (by have := HN.out; omega) hip
      refine HL.out b ?_
      rw [hp]
      simp [pg.pageL, pg.body, hb]
    have HI := Lib.hid hip
    have HPL := Lib.hid hpl
    have HR1 := Lib.hid hr
    clear hip hr hpl
    go_wp2_with fail
    have HD0 := Lib.hid (dx_start HR1.out #[.string ⟨#[]⟩, .int .u32 0, .int .u32 0, .int .i64 0, .slice none 0 0] 27)
    generalize hb0 : w1.heap.size = b at *
    generalize w1.alloc _ = w1' at *
    clear hb0
    obtain ⟨tv, htv⟩ : ∃ tv, tv = tx (some (payL l)) := ⟨_, rfl⟩
    have HC0 := Lib.hid (dx_Text HD0.out)
    have HO0 : Hid (Oc (iN (payL l))) := Lib.hid (HPL.out.lt)
    rw [← htv] at HC0
    have HEtv := Lib.hid htv
    clear htv
    refine HC0.out.mono ?_
    rintro e wa0 ⟨rfl, hD⟩
    have HDa := Lib.hid (show Dx W1 q g (iN (payL l)) b #[.string ⟨#[]⟩, .int .u32 0, .int .u32 0, .int .i64 0, .slice none 0 0] 27 wa0 from hD)
    have e2 := HDa.out.cell 0 _ rfl
    have f2 := HDa.out.froz 0
    clear hD HC0 HD0
    go_wp2_with fail
    have HDn0 := Lib.hid (HDa.out.set (cs' := #[.string tv, .int .u32 0, .int .u32 0, .int .i64 0, .slice none 0 0]) 0 (.string tv) rfl)
    generalize wa0.setCell ⟨b, 0, none⟩ (.string tv) = wb0 at *
    clear HDa e2 f2
    obtain ⟨ep, hep⟩ : ∃ ep, ep = numOf (got 4 (iN (payL l))) := ⟨_, rfl⟩
    have HC1 := Lib.hid (dx_N HDn0.out 4 (by decide) (by decide))
    have bep : ep < 4294967296 := by rw [hep]; exact HO0.out.num 4
    have HO1 : Hid (Oc (iE (payL l))) := Lib.hid (HO0.out.rest 4)
    rw [← hep] at HC1
    have HEep := Lib.hid hep
    clear hep
    refine HC1.out.mono ?_
    rintro e wa1 ⟨rfl, hD⟩
    have HDa := Lib.hid (show Dx W1 q g (iE (payL l)) b #[.string tv, .int .u32 0, .int .u32 0, .int .i64 0, .slice none 0 0] 27 wa1 from hD)
    have e2 := HDa.out.cell 1 _ rfl
    have f2 := HDa.out.froz 1
    clear hD HC1 HDn0
    go_wp2_with fail
    have HDn1 := Lib.hid (HDa.out.set (cs' := #[.string tv, .int .u32 (ep : Nat), .int .u32 0, .int .i64 0, .slice none 0 0]) 1 (.int .u32 (ep : Nat)) rfl)
    generalize wa1.setCell ⟨b, 1, none⟩ (.int .u32 (ep : Nat)) = wb1 at *
    clear HDa e2 f2
    obtain ⟨nx, hnx⟩ : ∃ nx, nx = numOf (got 4 (iE (payL l))) := ⟨_, rfl⟩
    have HC2 := Lib.hid (dx_N HDn1.out 4 (by decide) (by decide))
    have bnx : nx < 4294967296 := by rw [hnx]; exact HO1.out.num 4
    have HO2 : Hid (Oc (iX (payL l))) := Lib.hid (HO1.out.rest 4)
    rw [← hnx] at HC2
    have HEnx := Lib.hid hnx
    clear hnx
    refine HC2.out.mono ?_
    rintro e wa2 ⟨rfl, hD⟩
    have HDa := Lib.hid (show Dx W1 q g (iX (payL l)) b #[.string tv, .int .u32 (ep : Nat), .int .u32 0, .int .i64 0, .slice none 0 0] 27 wa2 from hD)
    have e2 := HDa.out.cell 2 _ rfl
    have f2 := HDa.out.froz 2
    clear hD HC2 HDn1
    go_wp2_with fail
    have HDn2 := Lib.hid (HDa.out.set (cs' := #[.string tv, .int .u32 (ep : Nat), .int .u32 (nx : Nat), .int .i64 0, .slice none 0 0]) 2 (.int .u32 (nx : Nat)) rfl)
    generalize wa2.setCell ⟨b, 2, none⟩ (.int .u32 (nx : Nat)) = wb2 at *
    clear HDa e2 f2
    obtain ⟨up, hup⟩ : ∃ up, up = numOf (got 4 (iX (payL l))) := ⟨_, rfl⟩
    have HC3 := Lib.hid (dx_N HDn2.out 4 (by decide) (by decide))
    have bup : up < 4294967296 := by rw [hup]; exact HO2.out.num 4
    have HO3 : Hid (Oc (iT (payL l))) := Lib.hid (HO2.out.rest 4)
    rw [← hup] at HC3
    have HEup := Lib.hid hup
    clear hup
    refine HC3.out.mono ?_
    rintro e wa3 ⟨rfl, hD⟩
    have HDa := Lib.hid (show Dx W1 q g (iT (payL l)) b #[.string tv, .int .u32 (ep : Nat), .int .u32 (nx : Nat), .int .i64 0, .slice none 0 0] 27 wa3 from hD)
    have e2 := HDa.out.cell 3 _ rfl
    have f2 := HDa.out.froz 3
    clear hD HC3 HDn2
    go_wp2_with fail
    have HDn3 := Lib.hid (HDa.out.set (cs' := #[.string tv, .int .u32 (ep : Nat), .int .u32 (nx : Nat), .int .i64 (up : Nat), .slice none 0 0]) 3 (.int .i64 (up : Nat)) rfl)
    generalize wa3.setCell ⟨b, 3, none⟩ (.int .i64 (up : Nat)) = wb3 at *
    clear HDa e2 f2
    obtain ⟨L0, hL0⟩ : ∃ L0, L0 = iT (payL l) := ⟨_, rfl⟩
    rw [← hL0] at HDn3 HO3
    have HL0 := Lib.hid hL0
    clear hL0
    obtain ⟨n0, hn0⟩ : ∃ n0, n0 = numOf (got 2 L0) := ⟨_, rfl⟩
    have HCc := Lib.hid (dx_N HDn3.out 2 (by decide) (by decide))
    have hn65 : n0 ≤ 65535 := by have := HO3.out.num 2; omega
    rw [← hn0] at HCc
    have HT : Hid (readR 4 L0 = readG (oneE 4) n0 (rest 2 L0)) := Lib.hid (by rw [hn0]; rfl)
    have HOKT : Hid (okE (readR 4 L0).1) := Lib.hid (readE_ok 4 _ _ (HO3.out.rest 2))
    clear hn0
    refine HCc.out.mono ?_
    rintro e w2 ⟨rfl, hD⟩
    have HD2 := Lib.hid hD
    clear hD HCc HDn3
    go_wp2_with fail
    go_loopw [7] (fun i wr => ∃ k : Nat, i = .int .i64 k ∧ k ≤ 65535 ∧ Hid (∃ L acc v, IS 4 64 W1 w2.heap.size q g b (readR 4 L0) k L acc [.string tv, .int .u32 (ep : Nat), .int .u32 (nx : Nat), .int .i64 (up : Nat)] 27 wr v)) (fun i _ => (intOf i).toNat)
    case atStart =>
      refine ⟨n0, rfl, hn65, Lib.hid ⟨rest 2 L0, [], .slice none 0 0, ⟨HD2.out.1, Own.nil _ _ _ _ _, by rw [HT.out]; rfl, by rw [HT.out], by simp; omega, HD2.out.1.2.2.1, HD2.out.1.2.2.2.1, Nat.le_refl _⟩, HD2.out.2.1, HD2.out.2.2.1, HD2.out.2.2.2.1, HD2.out.2.2.2.2, HD2.out.lt, HO3.out.rest 2⟩⟩
    case round =>
      obtain ⟨k, rfl, hk, HS⟩ := hrel
      obtain ⟨L, acc, v, hgs, hcell, hbq, hbg, hWb, hbB, hoc⟩ := HS.out
      have hal : acc.length ≤ 70000 := by have := hgs.2.2.2.2.1; omega
      have HBel := Lib.hid hgs.1.bel
      have HCell := Lib.hid hcell
      have HW2 := Lib.hid (show W1.heap.size ≤ w2.heap.size by have := hgs.1.2.1; have := hgs.2.2.2.2.2.1; omega)
      have HbB := Lib.hid hbB
      cases k with
      | zero =>
        obtain ⟨ea, eL⟩ := hgs.stop (Or.inl rfl)
        obtain ⟨A2, q2, hv, hc2, hA2, hRd⟩ := hgs.2.1.rd fE
        subst hv
        have hD := rd_Done hgs.1
        have HOK : Hid (okE acc) := Lib.hid (by rw [ea]; exact HOKT.out)
        have HF := Lib.hid (fun w (hb : Below wr.heap.size wr w) => formedIndex_any w tv ep nx (up : Nat) A2 acc.length q2 acc (hRd.below hb) (by omega) HOK.out (by omega) (Hr.out.below (HBW.out.trans ((HBel.out.trans (hb.mono HBel.out.size)).mono HBW.out.size))))
        have HOw := Lib.hid hgs.2.1
        have HEA := Lib.hid ea
        have HEL := Lib.hid eL
        have HAL := Lib.hid hal
        clear hgs ea eL hRd hA2 HS hcell hoc hc2 hbB hal
        by_cases hL : L = some []
        · rw [decide_eq_true hL] at hD
          have HD := Lib.hid hD
          have HT2 := Lib.hid (show readR 4 L0 = (acc, some []) from Prod.ext HEA.out.symm (by rw [← HEL.out, hL]))
          clear hD hL
          generalize hm : acc.length = m at *
          have HMm := Lib.hid hm
          clear hm
          cases htb : indexB tv ep nx (up : Nat) acc
          · rw [htb] at HF
            clear htb
            have c0 := cell_at HCell.out 0 _ rfl
            have c1 := cell_at HCell.out 1 _ rfl
            have c2 := cell_at HCell.out 2 _ rfl
            have c3 := cell_at HCell.out 3 _ rfl
            have c4 := cell_at HCell.out 4 _ rfl
            go_wp2_with (first
              | (go_at_call 20; refine HD.out.mono ?_; rintro e w3 ⟨rfl, rfl⟩)
              | (go_at_call 21; refine (HF.out _ (Below.refl _ _)).mono ?_; rintro e w4 ⟨rfl, hb4⟩; have HB4 := Lib.hid (HBel.out.trans (hb4.mono HBel.out.size)); clear hb4 c0 c1 c2 c3 c4; have r0 := cell_at (HRC.out _ HB4.out) 0 _ rfl; have s0 := frozen_of_row _ _ 0 _ _ (HRC.out _ HB4.out); have r1 := cell_at (HRC.out _ HB4.out) 1 _ rfl; have s1 := frozen_of_row _ _ 1 _ _ (HRC.out _ HB4.out); have r2 := cell_at (HRC.out _ HB4.out) 2 _ rfl; have s2 := frozen_of_row _ _ 2 _ _ (HRC.out _ HB4.out); have r3 := cell_at (HRC.out _ HB4.out) 3 _ rfl; have s3 := frozen_of_row _ _ 3 _ _ (HRC.out _ HB4.out); have r4 := cell_at (HRC.out _ HB4.out) 4 _ rfl; have s4 := frozen_of_row _ _ 4 _ _ (HRC.out _ HB4.out)))
            have h7 := five (HRC.out _ HB4.out) rfl (.string ⟨#[]⟩) (.int .u32 0) (.int .u32 0) (.int .i64 0) (.slice none 0 0)
            exact bodyPost_ret (bod.results_note Tryz.results6 _ _ W.heap.size _ _ _ _ rfl h7.1 Tryz.underlying27 rfl (sizeX _ rfl)) rfl ⟨Or.inr rfl, h7.2.2 _ _ (HBW.out.trans (HB4.out.mono HBW.out.size)) (Nat.le_refl _)⟩
          · rw [htb] at HF
            have HF1 : Hid (readR 4 (iT (payL l)) = (acc, some [])) := Lib.hid (by rw [← HL0.out]; exact HT2.out)
            have HF2 : Hid (indexB (tx (some (payL l))) (numOf (got 4 (iN (payL l)))) (numOf (got 4 (iE (payL l)))) ((numOf (got 4 (iX (payL l))) : Nat) : Int) acc = true) := Lib.hid (by rw [← HEtv.out, ← HEep.out, ← HEnx.out, ← HEup.out]; exact htb)
            have HF3 : Hid (∀ v : Value, Value.agg #[.string tv, .int .u32 (ep : Nat), .int .u32 (nx : Nat), .int .i64 (up : Nat), v] = Value.agg #[.string (tx (some (payL l))), .int .u32 (numOf (got 4 (iN (payL l))) : Nat), .int .u32 (numOf (got 4 (iE (payL l))) : Nat), .int .i64 (numOf (got 4 (iX (payL l))) : Nat), v]) := Lib.hid (fun v => by rw [← HEtv.out, ← HEep.out, ← HEnx.out, ← HEup.out])
            have HAL2 : Hid (acc.length ≤ 70000) := Lib.hid (by rw [HMm.out]; exact HAL.out)
            clear htb
            have c0 := cell_at HCell.out 0 _ rfl
            have c1 := cell_at HCell.out 1 _ rfl
            have c2 := cell_at HCell.out 2 _ rfl
            have c3 := cell_at HCell.out 3 _ rfl
            have c4 := cell_at HCell.out 4 _ rfl
            go_wp2_with (first
              | (go_at_call 20; refine HD.out.mono ?_; rintro e w3 ⟨rfl, rfl⟩)
              | (go_at_call 21; refine (HF.out _ (Below.refl _ _)).mono ?_; rintro e w4 ⟨rfl, hb4⟩; have HB4 := Lib.hid (HBel.out.trans (hb4.mono HBel.out.size)); have hcell4 := (hb4.block _ (Array.getElem?_eq_some_iff.1 HCell.out).1).trans HCell.out; have HO4 := Lib.hid (HOw.out.below hb4); clear hb4 c0 c1 c2 c3 c4; have c0 := cell_at hcell4 0 _ rfl; have c1 := cell_at hcell4 1 _ rfl; have c2 := cell_at hcell4 2 _ rfl; have c3 := cell_at hcell4 3 _ rfl; have c4 := cell_at hcell4 4 _ rfl; clear hcell4; have r0 := cell_at (HRC.out _ HB4.out) 0 _ rfl; have s0 := frozen_of_row _ _ 0 _ _ (HRC.out _ HB4.out); have r1 := cell_at (HRC.out _ HB4.out) 1 _ rfl; have s1 := frozen_of_row _ _ 1 _ _ (HRC.out _ HB4.out); have r2 := cell_at (HRC.out _ HB4.out) 2 _ rfl; have s2 := frozen_of_row _ _ 2 _ _ (HRC.out _ HB4.out); have r3 := cell_at (HRC.out _ HB4.out) 3 _ rfl; have s3 := frozen_of_row _ _ 3 _ _ (HRC.out _ HB4.out); have r4 := cell_at (HRC.out _ HB4.out) 4 _ rfl; have s4 := frozen_of_row _ _ 4 _ _ (HRC.out _ HB4.out)))
            have h7 := five (HRC.out _ HB4.out) rfl (.string tv) (.int .u32 (ep : Nat)) (.int .u32 (nx : Nat)) (.int .i64 (up : Nat)) (.slice A2 m q2)
            have k1 := Nat.le_trans HBW.out.size HW2.out
            have ho := own_other (own_mono HO4.out k1) h7.2.1 (fun g' e hg' => by have := (HO4.out.lt e).1; have := HWS.out; have := HW2.out; omega)
            have hbe := h7.2.2 _ _ (HBW.out.trans (HB4.out.mono HBW.out.size)) (Nat.le_refl _)
            refine bodyPost_ret (bod.results_note Tryz.results6 _ _ W.heap.size _ _ _ _ rfl h7.1 Tryz.underlying27 rfl (sizeX _ rfl)) rfl ⟨Or.inl ⟨.slice A2 m q2, acc, HI.out, HF1.out, HF2.out, HOK.out, HAL2.out, ?_, ho⟩, hbe⟩
            exact congrArg (fun x => Ending.returned (.tuple #[x, .int .i64 0])) (HF3.out _)
        · rw [decide_eq_false hL] at hD
          have HD := Lib.hid hD
          clear hD hL
          have r0 := cell_at (HRC.out _ HBel.out) 0 _ rfl
          have s0 := frozen_of_row _ _ 0 _ _ (HRC.out _ HBel.out)
          have r1 := cell_at (HRC.out _ HBel.out) 1 _ rfl
          have s1 := frozen_of_row _ _ 1 _ _ (HRC.out _ HBel.out)
          have r2 := cell_at (HRC.out _ HBel.out) 2 _ rfl
          have s2 := frozen_of_row _ _ 2 _ _ (HRC.out _ HBel.out)
          have r3 := cell_at (HRC.out _ HBel.out) 3 _ rfl
          have s3 := frozen_of_row _ _ 3 _ _ (HRC.out _ HBel.out)
          have r4 := cell_at (HRC.out _ HBel.out) 4 _ rfl
          have s4 := frozen_of_row _ _ 4 _ _ (HRC.out _ HBel.out)
          go_wp2_with (go_at_call 20; refine HD.out.mono ?_; rintro e w3 ⟨rfl, rfl⟩)
          have h7 := five (HRC.out _ HBel.out) rfl (.string ⟨#[]⟩) (.int .u32 0) (.int .u32 0) (.int .i64 0) (.slice none 0 0)
          exact bodyPost_ret (bod.results_note Tryz.results6 _ _ W.heap.size _ _ _ _ rfl h7.1 Tryz.underlying27 rfl (sizeX _ rfl)) rfl ⟨Or.inr rfl, h7.2.2 _ _ (HBW.out.trans (HBel.out.mono HBW.out.size)) (Nat.le_refl _)⟩
      | succ k =>
        have hk0 : decide ((0 : Int) < ((k + 1 : Nat) : Int)) = true := by rw [decide_eq_true_iff]; omega
        cases L with
        | none =>
          have hbad := rd_Bad hgs.1
          have hD := rd_Done hgs.1
          rw [decide_eq_true rfl] at hbad
          rw [decide_eq_false (by simp)] at hD
          have HX := Lib.hid hbad
          have HD := Lib.hid hD
          clear hgs hbad hD HS hcell hoc hbB
          have r0 := cell_at (HRC.out _ HBel.out) 0 _ rfl
          have s0 := frozen_of_row _ _ 0 _ _ (HRC.out _ HBel.out)
          have r1 := cell_at (HRC.out _ HBel.out) 1 _ rfl
          have s1 := frozen_of_row _ _ 1 _ _ (HRC.out _ HBel.out)
          have r2 := cell_at (HRC.out _ HBel.out) 2 _ rfl
          have s2 := frozen_of_row _ _ 2 _ _ (HRC.out _ HBel.out)
          have r3 := cell_at (HRC.out _ HBel.out) 3 _ rfl
          have s3 := frozen_of_row _ _ 3 _ _ (HRC.out _ HBel.out)
          have r4 := cell_at (HRC.out _ HBel.out) 4 _ rfl
          have s4 := frozen_of_row _ _ 4 _ _ (HRC.out _ HBel.out)
          go_wp2_with (first
            | (go_at_call 19; refine HX.out.mono ?_; rintro e w3 ⟨rfl, rfl⟩)
            | (go_at_call 20; refine HD.out.mono ?_; rintro e w3 ⟨rfl, rfl⟩))
          have h7 := five (HRC.out _ HBel.out) rfl (.string ⟨#[]⟩) (.int .u32 0) (.int .u32 0) (.int .i64 0) (.slice none 0 0)
          exact bodyPost_ret (bod.results_note Tryz.results6 _ _ W.heap.size _ _ _ _ rfl h7.1 Tryz.underlying27 rfl (sizeX _ rfl)) rfl ⟨Or.inr rfl, h7.2.2 _ _ (HBW.out.trans (HBel.out.mono HBW.out.size)) (Nat.le_refl _)⟩
        | some m =>
          have hbad := rd_Bad hgs.1
          rw [decide_eq_false (by simp)] at hbad
          have HX := Lib.hid hbad
          obtain ⟨nv, hnv⟩ : ∃ nv : Nat, nv = numOf (got 4 (some m)) := ⟨_, rfl⟩
          have HC3 := Lib.hid (rd_N hgs.1 4 (by decide) (by decide))
          have hnv32 : nv < 4294967296 := by rw [hnv]; exact hoc.num 4
          obtain ⟨av, hav⟩ : ∃ av : Nat, av = numOf (got 4 (rest 4 (some m))) := ⟨_, rfl⟩
          have HY := Lib.hid (show (⟨nv, (av : Int)⟩ : E) = (oneE 4 (some m)).1 by rw [hnv, hav]; rfl)
          have HCA := Lib.hid (fun w (h : rd.Rd W1 q g (rest 4 (some m)) w) => rd_N h 4 (by decide) (by decide))
          rw [← hnv] at HC3
          rw [← hav] at HCA
          have HS0 := Lib.hid (show IS 4 64 W1 w2.heap.size q g b (readR 4 L0) (k + 1) (some m) acc [.string tv, .int .u32 (ep : Nat), .int .u32 (nx : Nat), .int .i64 (up : Nat)] 27 wr v from ⟨hgs, hcell, hbq, hbg, hWb, hbB, hoc⟩)
          clear hgs hbad HS hnv hav hcell hoc hbB
          go_wp2_with (go_at_call 19; refine HX.out.mono ?_; rintro e w3 ⟨rfl, rfl⟩)
          refine HC3.out.mono ?_
          rintro e w4 ⟨rfl, hr4, ht4⟩
          have HR4 := Lib.hid hr4
          have HO4 := Lib.hid (own_touch HS0.out.1.2.1 HS0.out.1.2.2.2.2.2.1 ht4)
          have HB4 := Lib.hid (show w2.heap.size ≤ w4.heap.size by have := HS0.out.1.2.2.2.2.2.2.2; have := ht4.2.2.2.1; omega)
          have hc4 := (ht4.2.2.2.2 b (Array.getElem?_eq_some_iff.1 HCell.out).1 hbq).trans HCell.out
          have HC4 := Lib.hid (show w4.drew.heap[b]? = some (.cells #[.string tv, .int .u32 (ep : Nat), .int .u32 (nx : Nat), .int .i64 (up : Nat), v] 27 (0, 0)) from hc4)
          clear hr4 ht4 hc4
          go_wp2_with fail
          refine wp_region_noPanic ?_
          refine held.wp_region_G (S := fun w' => w'.heap[b]? = some (.cells #[.string tv, .int .u32 (ep : Nat), .int .u32 (nx : Nat), .int .i64 (up : Nat), v] 27 (0, 0))) 9 (by kernel_rfl) HC4.out (fun hHeld => ?_)
          refine held.wpAnyG_take (i := 0) (v := ?_) rfl (by kernel_rfl) (by kernel_rfl) (by kernel_rfl) (by kernel_rfl) (fun _ _ _ h => h) (Or.inl ⟨by kernel_rfl, ?_⟩) hHeld ?_
          rotate_left
          · (intro w' hw'; go_simp; first | done | with_reducible rfl)
          refine held.wpAnyG_take (i := 1) (v := ?_) rfl (by kernel_rfl) (by kernel_rfl) (by kernel_rfl) (by kernel_rfl) (fun _ _ _ h => h) (Or.inl ⟨by kernel_rfl, ?_⟩) hHeld ?_
          rotate_left
          · (intro w' hw'; have c4 := cell_at hw' 4 v rfl; go_simp; first | done | with_reducible rfl)
          refine held.wpAnyG_take (i := 2) (v := ?_) rfl (by kernel_rfl) (by kernel_rfl) (by kernel_rfl) (by kernel_rfl) (fun _ _ _ h => h) (Or.inl ⟨by kernel_rfl, ?_⟩) hHeld ?_
          rotate_left
          · (intro w' hw'; go_simp; first | done | with_reducible rfl)
          refine held.wpAnyG_take (i := 3) (v := ?_) rfl (by kernel_rfl) (by kernel_rfl) (by kernel_rfl) (by kernel_rfl) (fun _ _ _ h => h) (Or.inl ⟨by kernel_rfl, ?_⟩) hHeld ?_
          rotate_left
          · (intro w' hw'; go_simp; first | done | with_reducible rfl)
          have HR4d := Lib.hid (HR4.out.drewN 1)
          have HO4d := Lib.hid (HO4.out.below (codec.below_draws (Below.refl _ _) 1))
          have HB4d := Lib.hid (show w2.heap.size ≤ (w4.drewN 1).heap.size from HB4.out)
          change Hid (rd.Rd W1 q g (rest 4 (some m)) w4.drew) at HR4d
          change Hid (Own cE 2 w2.heap.size 64 w4.drew v acc) at HO4d
          change Hid (w2.heap.size ≤ w4.drew.heap.size) at HB4d
          generalize w4.drew = w5 at *
          refine held.wpAnyG_ready (rs := [4]) (by kernel_rfl) (by simp) ?_
          refine held.AllReadyG.cons rfl (fun K hK => ?_) held.AllReadyG.nil
          go_simp
          refine (HCA.out w5 HR4d.out).mono ?_
          rintro e w6 ⟨rfl, hr6, ht6⟩
          have HR6 := Lib.hid hr6
          have HO6 := Lib.hid (own_touch HO4d.out HS0.out.1.2.2.2.2.2.1 ht6)
          have HB6 := Lib.hid (show w2.heap.size ≤ w6.heap.size by have := HB4d.out; have := ht6.2.2.2.1; omega)
          have hc6 := (ht6.2.2.2.2 b (Array.getElem?_eq_some_iff.1 hHeld).1 hbq).trans hHeld
          have HC6 := Lib.hid hc6
          clear hr6 ht6 hc6
          go_wp2_with fail
          refine hK.out _ _ (fun _ => HC6.out) (fun hh => ?_)
          have hH1 := hh (by decide)
          clear hK K hh hHeld
          refine held.wpAnyG_take (i := 5) (v := ?_) rfl (by kernel_rfl) (by kernel_rfl) (by kernel_rfl) (by kernel_rfl) (fun _ _ _ h => h) (Or.inl ⟨by kernel_rfl, ?_⟩) hH1 ?_
          rotate_left
          · (intro w' hw'; go_simp; first | done | with_reducible rfl)
          refine held.wpAnyG_ready (rs := [6]) (by kernel_rfl) (by simp) ?_
          refine held.AllReadyG.cons rfl (fun K hK => ?_) held.AllReadyG.nil
          go_simp
          have hbl : Below w6.heap.size w6 (w6.alloc (.cells #[.int .u32 (nv : Nat), .int .i64 (av : Nat)] 64)) := (Below.refl _ _).alloc (Nat.le_refl _) _
          refine hK.out _ _ (fun _ => ((hbl.block _ (Array.getElem?_eq_some_iff.1 HC6.out).1).trans HC6.out)) (fun hh => ?_)
          have hH2 := hh (by decide)
          clear hK K hh hH1
          clear hbl
          refine held.wpAnyG_ready (rs := [7]) (by kernel_rfl) (by simp) ?_
          refine held.AllReadyG.cons rfl (fun K hK => ?_) held.AllReadyG.nil
          refine row.step_append_own fE (by decide) (by decide) (by_ := 16) (by decide) (z := .agg #[.int .u32 0, .int .i64 0]) rfl rfl (.tmp 47) (.tmp 52) 25 64 rfl Tryz.underlying25 infoE w2.heap.size v acc (by simp [Act.eval, Act.put]) HO6.out HB6.out (by omega) ⟨nv, (av : Int)⟩ (0, 0) w6.heap.size rfl (by simp [Act.eval, Act.put]) _ rfl ?_
          intro v7 w7 ho7 hg7 hat7
          obtain ⟨A7, m7, k7, hv7⟩ : ∃ A7 m7 k7, v7 = .slice A7 m7 k7 := (by obtain ⟨A7, k7, hv7, -⟩ := ho7.rd fE; exact ⟨_, _, _, hv7⟩)
          subst hv7
          have hc7 := (hg7.block b (Nat.lt_of_lt_of_le HbB.out HB6.out) (fun e => by have := (HO6.out.lt e.symm).1; have := HbB.out; omega)).trans HC6.out
          have c7 := cell_at hc7 4 v rfl
          have f7 := frozen_of_row _ _ 4 _ _ hc7
          have HS7 := Lib.hid (IS.more (j := 4) rfl HS0.out HR6.out HB6.out HO6.out HC6.out (by rw [← HY.out]; exact ho7) hg7)
          clear ho7 hg7 hat7
          refine hK.out _ _ (fun _ => hc7) (fun hh => ?_)
          have hH3 := hh (by decide)
          clear hK K hh hH2
          refine held.wpAnyG_take (i := 8) (v := ?_) rfl (by kernel_rfl) (by kernel_rfl) (by kernel_rfl) (by kernel_rfl) (fun _ _ _ h => h) (Or.inl ⟨by kernel_rfl, ?_⟩) hH3 ?_
          rotate_left
          · (intro w' hw'; go_simp; first | done | with_reducible rfl)
          refine held.wpAnyG_ready (rs := [9]) (by kernel_rfl) (by simp) ?_
          refine held.AllReadyG.cons rfl (fun K hK => ?_) held.AllReadyG.nil
          go_simp
          refine hK.out _ _ (fun hh => absurd rfl hh) (fun _ => ?_)
          clear hK K hH3
          refine held.wpAnyG_done (by kernel_rfl) ?_ _
          refine NoPanic.normal ?_
          go_simp
          clear c7 f7
          have HS8 := Lib.hid (show ∃ L acc v, IS 4 64 W1 w2.heap.size q g b (readR 4 L0) k L acc [.string tv, .int .u32 (ep : Nat), .int .u32 (nx : Nat), .int .i64 (up : Nat)] 27 (w7.setCell ⟨b, 4, none⟩ (.slice A7 m7 k7)) v from ⟨_, _, _, HS7.out⟩)
          clear HS7
          generalize w7.setCell ⟨b, 4, none⟩ (.slice A7 m7 k7) = w8 at *
          go_wp2_with fail
          go_roundw
          case rel => first | exact ⟨k, by go_num, by omega, HS8⟩ | ((repeat apply Exists.intro); exact ⟨⟨k, by go_num, by omega, HS8⟩, rfl⟩)
          case measure => first | (simp [intOf]; done) | (simp [intOf]; omega)
  · have HB1 := Lib.hid hb
    clear hb hnp
    have r0 := cell_at (HRC.out _ HB1.out) 0 _ rfl
    have s0 := frozen_of_row _ _ 0 _ _ (HRC.out _ HB1.out)
    have r1 := cell_at (HRC.out _ HB1.out) 1 _ rfl
    have s1 := frozen_of_row _ _ 1 _ _ (HRC.out _ HB1.out)
    have r2 := cell_at (HRC.out _ HB1.out) 2 _ rfl
    have s2 := frozen_of_row _ _ 2 _ _ (HRC.out _ HB1.out)
    have r3 := cell_at (HRC.out _ HB1.out) 3 _ rfl
    have s3 := frozen_of_row _ _ 3 _ _ (HRC.out _ HB1.out)
    have r4 := cell_at (HRC.out _ HB1.out) 4 _ rfl
    have s4 := frozen_of_row _ _ 4 _ _ (HRC.out _ HB1.out)
    go_wp2_with fail
    have h7 := five (HRC.out _ HB1.out) rfl (.string ⟨#[]⟩) (.int .u32 0) (.int .u32 0) (.int .i64 0) (.slice none 0 0)
    exact bodyPost_ret (bod.results_note Tryz.results6 _ _ W.heap.size _ _ _ _ rfl h7.1 Tryz.underlying27 rfl (sizeX _ rfl)) rfl ⟨Or.inr rfl, h7.2.2 _ _ (HBW.out.trans (HB1.out.mono HBW.out.size)) (Nat.le_refl _)⟩
end Go.Proofs.YtklmbiekpilkhaaGreatDoor.idx
