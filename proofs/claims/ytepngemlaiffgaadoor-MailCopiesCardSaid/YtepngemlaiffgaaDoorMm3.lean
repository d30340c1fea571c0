/- A region that draws, of which the last operation writes what the others read: what holds of the world is asked behind all but that one. -/
import Derived.Deep.RegionHeld3
import Derived.Test.YtepngemlaiffgaaDoorMm2
import Derived.Test.YtepngemlaiffgaaDoorMc0
import Derived.Lib.SliceRun
namespace Go.Proofs.YtepngemlaiffgaaDoor.held
open Go
set_option linter.unusedVariables false

variable {P : Program} {ops : Array Oper} {Q : Exit → Act → World → Prop} {md : Region.Mode} {S : World → Prop} {last : Nat}

/-- Whatever order is picked from here on, and S holds behind every operation but the last. -/
def wpAnyG (P : Program) (md : Region.Mode) (ops : Array Oper) (Q : Exit → Act → World → Prop) (S : World → Prop) (last : Nat) : Nat → Array Bool → Act → World → Prop
  | 0, listed, a, w => Region.ready md ops listed = [] ∧ Q .normal a w
  | fuel + 1, listed, a, w =>
    (Region.ready md ops listed = [] → Q .normal a w) ∧
    ∀ i ∈ Region.ready md ops listed, wpOp P ops Q i (fun a' w' => (i ≠ last → S w') ∧ wpAnyG P md ops Q S last fuel (listed.setIfInBounds i true) a' w') a w
theorem wpAny_of_G : ∀ (fuel : Nat) (listed : Array Bool) (a : Act) (w : World), wpAnyG P md ops Q S last fuel listed a w → wpAny P md ops Q fuel listed a w
  | 0, _, _, _, h => h
  | fuel + 1, _, _, _, h => ⟨h.1, fun i hi => wpOp_mono (fun a' w' h' => wpAny_of_G fuel _ a' w' h'.2) (h.2 i hi)⟩
/-- The last one waits for number i. -/
def waits (md : Region.Mode) (ops : Array Oper) (last i : Nat) : Bool := ((ops[last]?).map (fun o => o.after.any (fun e => Region.binds md e && e.on == i))).getD false
theorem waits_spec {i : Nat} {listed : Array Bool} (h : waits md ops last i = true) (hr : last ∈ Region.ready md ops listed) : listed.getD i false = true := by
  obtain ⟨_, o, ho, hall⟩ := mem_ready.1 hr
  unfold waits at h
  rw [ho] at h
  rw [Option.map_some, Option.getD_some, Array.any_eq_true'] at h
  obtain ⟨e, he, h2⟩ := h
  rw [Bool.and_eq_true, beq_iff_eq] at h2
  obtain ⟨hb, rfl⟩ := h2
  exact hall e he hb
theorem wpAnyG_first {i : Nat} {oi : Oper} {v : Value} (hi : ops[i]? = some oi) (hsel : ∀ (j : Nat) (o : Oper) cs b, ops[j]? = some o → o.op ≠ .select cs b)
    (hQ : ∀ c a w, Q (.panic c) (a.put oi.dst v) w → Q (.panic c) a w) (hw : waits md ops last i = true) :
    ∀ (fuel : Nat) (listed : Array Bool) (a : Act) (w : World),
      (∀ j oj, ops[j]? = some oj → j ≠ i → listed.getD j true = false → (∀ e ∈ oj.after, Region.binds md e = true → e.on ≠ i) → oi.apart ops oj = true) →
      i ∈ Region.ready md ops listed → YieldsIf P ops S oi v a → S w →
      wpAnyG P md ops Q S last fuel (listed.setIfInBounds i true) (a.put oi.dst v) w → wpAnyG P md ops Q S last (fuel + 1) listed a w := by
  have hno : ∀ (listed : Array Bool) (j : Nat), i ∈ Region.ready md ops listed → j ∈ Region.ready md ops listed → j ≠ last := by
    rintro listed j hr hj rfl
    have h1 := waits_spec hw hj
    have h0 := (mem_ready.1 hr).1
    rcases Nat.lt_or_ge i listed.size with h' | h'
    · simp [h'] at h0 h1; rw [h0] at h1; cases h1
    · simp [Array.getElem?_eq_none h'] at h1
  intro fuel
  induction fuel with
  | zero =>
    intro listed a w _ hr hy hS H
    refine ⟨fun h => (by rw [h] at hr; cases hr), fun j hj => ?_⟩
    by_cases hji : j = i
    · subst hji; exact hy.wpOp hi hS ⟨fun _ => hS, H⟩
    · have := ready_mono hj hji
      rw [H.1] at this
      cases this
  | succ fuel ih =>
    intro listed a w hfree hr hy hS H
    refine ⟨fun h => (by rw [h] at hr; cases hr), fun j hj => ?_⟩
    by_cases hji : j = i
    · subst hji; exact hy.wpOp hi hS ⟨fun _ => hS, H⟩
    · have h1 := H.2 j (ready_mono hj hji)
      have hjl := hno listed j hr hj
      obtain ⟨hjun, oj, hoj, hall⟩ := mem_ready.1 hj
      have hnot : ∀ e ∈ oj.after, Region.binds md e = true → e.on ≠ i := fun e he hb heq => by
        have h1 := hall e he hb
        have h0 := (mem_ready.1 hr).1
        rw [heq] at h1
        rcases Nat.lt_or_ge i listed.size with h' | h'
        · simp [h'] at h0 h1; rw [h0] at h1; cases h1
        · simp [Array.getElem?_eq_none h'] at h1
      have h2 := wpOp_putIf hoj (hfree j oj hoj hji hjun hnot) (fun cs b => hsel i oi cs b hi) (fun cs b => hsel j oj cs b hoj) hQ hy h1
      have hfree' : ∀ k ok, ops[k]? = some ok → k ≠ i → (listed.setIfInBounds j true).getD k true = false →
          (∀ e ∈ ok.after, Region.binds md e = true → e.on ≠ i) → oi.apart ops ok = true := fun k ok hk hki hun hno => by
        refine hfree k ok hk hki ?_ hno
        by_cases hjk : j = k
        · subst hjk; exact hjun
        · rw [getD_set_ne true hjk] at hun; exact hun
      refine wpOp_mono (fun a' w' h3 => ⟨fun _ => h3.2.1 hjl, ih (listed.setIfInBounds j true) a' w' hfree' (ready_mono hr (Ne.symm hji)) h3.1 (h3.2.1 hjl) ?_⟩) h2
      rw [Array.setIfInBounds_comm _ _ hji]
      exact h3.2.2
theorem wpAnyG_take {i : Nat} {oi : Oper} {v : Value} {fuel : Nat} {listed : Array Bool} {a : Act} {w : World} (hi : ops[i]? = some oi)
    (hs : Region.noSelect ops = true) (hf : Region.free md ops listed i = true) (hr : (Region.ready md ops listed).contains i = true) (hw : waits md ops last i = true)
    (hQ : ∀ c a w, Q (.panic c) (a.put oi.dst v) w → Q (.panic c) a w) (hy : YieldsIf P ops S oi v a) (hS : S w)
    (h : wpAnyG P md ops Q S last fuel (listed.setIfInBounds i true) (a.put oi.dst v) w) : wpAnyG P md ops Q S last (fuel + 1) listed a w :=
  wpAnyG_first hi (Region.noSelect_spec hs) hQ hw fuel listed a w (Region.free_spec hi hf) (by simpa using hr) hy hS h
theorem wpAnyG_done {listed : Array Bool} {a : Act} {w : World} (hr : Region.ready md ops listed = []) (h : Q .normal a w) : ∀ fuel, wpAnyG P md ops Q S last fuel listed a w
  | 0 => ⟨hr, h⟩
  | _ + 1 => ⟨fun _ => h, by rw [hr]; simp⟩
def AllReadyG (P : Program) (md : Region.Mode) (ops : Array Oper) (Q : Exit → Act → World → Prop) (S : World → Prop) (last : Nat) (fuel : Nat) (listed : Array Bool) (a : Act) (w : World) (rs : List Nat) : Prop :=
  ∀ i ∈ rs, wpOp P ops Q i (fun a' w' => (i ≠ last → S w') ∧ wpAnyG P md ops Q S last fuel (listed.setIfInBounds i true) a' w') a w
theorem AllReadyG.nil {fuel : Nat} {listed : Array Bool} {a : Act} {w : World} : AllReadyG P md ops Q S last fuel listed a w [] := fun _ h => by cases h
theorem wpAnyG_ready {rs : List Nat} {fuel : Nat} {listed : Array Bool} {a : Act} {w : World} (hr : Region.ready md ops listed = rs) (hne : rs ≠ [])
    (h : AllReadyG P md ops Q S last fuel listed a w rs) : wpAnyG P md ops Q S last (fuel + 1) listed a w := ⟨fun h0 => absurd (hr ▸ h0) hne, hr ▸ h⟩
theorem AllReadyG.cons {fuel : Nat} {listed : Array Bool} {a : Act} {w : World} {i : Nat} {o : Oper} {rs : List Nat} (ho : ops[i]? = some o)
    (h : ∀ K' : Act → World → Prop, Shut (∀ a w, (i ≠ last → S w) → ((i ≠ last → S w) → wpAnyG P md ops Q S last fuel (listed.setIfInBounds i true) a w) → K' a w) → if Region.wanted o (yielded ops a.tmps) = true then Oper.wp P o a w K' Q else K' (a.put o.dst undef) w)
    (hs : AllReadyG P md ops Q S last fuel listed a w rs) : AllReadyG P md ops Q S last fuel listed a w (i :: rs) := fun j hj => by
  rcases List.mem_cons.1 hj with rfl | hj
  · exact wpOp_step ho (fun K' hK => h K' (fun a w hS hW => hK a w ⟨hS, hW hS⟩))
  · exact hs j hj
/-- The last one, when it alone is left. -/
theorem wpAnyG_end {fuel : Nat} {listed : Array Bool} {a : Act} {w : World} {o : Oper} (hr : Region.ready md ops listed = [last]) (ho : ops[last]? = some o) (hg : o.guard = none)
    (h : ∀ K : Act → World → Prop, Shut (∀ a w, wpAnyG P md ops Q S last fuel (listed.setIfInBounds last true) a w → K a w) → Oper.wp P o a w K Q) : wpAnyG P md ops Q S last (fuel + 1) listed a w := by
  refine ⟨fun h0 => absurd (hr.symm.trans h0) (by simp), fun j hj => ?_⟩
  rw [hr, List.mem_singleton] at hj
  subst hj
  refine wpOp_step ho fun K' hK => ?_
  have hw : Region.wanted o (yielded ops a.tmps) = true := by simp [Region.wanted, hg]
  rw [if_pos hw]
  exact h K' fun a w hW => hK a w ⟨fun h => absurd rfl h, hW⟩
/-- One that alone may come up now, and isn't the last. -/
theorem wpAnyG_one {i : Nat} {fuel : Nat} {listed : Array Bool} {a : Act} {w : World} {o : Oper} (hr : Region.ready md ops listed = [i]) (hl : i ≠ last) (ho : ops[i]? = some o) (hg : o.guard = none)
    (h : ∀ K : Act → World → Prop, Shut (∀ a w, S w → (S w → wpAnyG P md ops Q S last fuel (listed.setIfInBounds i true) a w) → K a w) → Oper.wp P o a w K Q) : wpAnyG P md ops Q S last (fuel + 1) listed a w := by
  refine ⟨fun h0 => absurd (hr.symm.trans h0) (by simp), fun j hj => ?_⟩
  rw [hr, List.mem_singleton] at hj
  subst hj
  refine wpOp_step ho fun K' hK => ?_
  have hw : Region.wanted o (yielded ops a.tmps) = true := by simp [Region.wanted, hg]
  rw [if_pos hw]
  exact h K' fun a w hS hW => hK a w ⟨fun _ => hS, hW hS⟩
theorem wp_region_G {id : Nat} {a : Act} {w : World} (last : Nat) (hm : P.follows .mixedOrders = true) (hS : S w.drew)
    (h : S w.drew → wpAnyG P .any ops Q S last ops.size (Array.replicate ops.size false) a w.drew) : (Code.region id ops true).wp P Q a w :=
  wp_region_any hm (wpAny_of_G _ _ _ _ (h hS))
end Go.Proofs.YtepngemlaiffgaaDoor.held
namespace Go.Proofs.YtepngemlaiffgaaDoor.mal
open Go.ChangeShapes Go.WideShapes Go.ChangeAt Go.RowKit
open Go.Proofs.YtepngemlaiffgaaDoor.codec (Bytes vals)
open Go.Proofs.YtepngemlaiffgaaDoor.bod (cell_at Fit)
open Go.Proofs.YtepngemlaiffgaaDoor.lg (Nt Y Rd Own Oct cM fM fl fl_at nts nts_at nts_len take_next)
set_option linter.unusedVariables false
set_option maxRecDepth 100000
set_option linter.unusedSimpArgs false

theorem boxSize (cs : Array Value) (h : cs.size = 4) : (Tryd.prog.info? 25).map (·.size) = some cs.size := by
  rw [h]
  kernel_rfl
theorem results_cell_tmp {P : Program} {fn : Func} {p q : Tmp} {ty : TypeId} (h : fn.results = #[.cell p ty, .tmp q]) (tmps : Array Value) (w : World) (g : Nat) (t : TypeId) (cs : Array Value) (fr : Nat × Nat) (d : TypeDesc)
    (hp : tmps.getD p undef = .pointer (some ⟨g, 0, none⟩)) (hg : w.heap[g]? = some (.cells cs t fr))
    (hu : P.underlying ty = some d) (hd : (match d with | .struct _ | .array _ _ => true | _ => false) = true) (hi : (P.info? ty).map (·.size) = some cs.size) :
    (results fn tmps).run P w = .ok (.tuple #[.agg cs, tmps.getD q undef]) w := by
  have hp' : tmps[p]?.getD undef = .pointer (some ⟨g, 0, none⟩) := by simpa using hp
  simp [results, h, hp', asAddr, run_loadVar_row w g t ty cs fr d hg hu hd hi]
theorem results_cell_tmp_tmp {P : Program} {fn : Func} {p q r : Tmp} {ty : TypeId} (h : fn.results = #[.cell p ty, .tmp q, .tmp r]) (tmps : Array Value) (w : World) (g : Nat) (t : TypeId) (cs : Array Value) (fr : Nat × Nat) (d : TypeDesc)
    (hp : tmps.getD p undef = .pointer (some ⟨g, 0, none⟩)) (hg : w.heap[g]? = some (.cells cs t fr))
    (hu : P.underlying ty = some d) (hd : (match d with | .struct _ | .array _ _ => true | _ => false) = true) (hi : (P.info? ty).map (·.size) = some cs.size) :
    (results fn tmps).run P w = .ok (.tuple #[.agg cs, tmps.getD q undef, tmps.getD r undef]) w := by
  have hp' : tmps[p]?.getD undef = .pointer (some ⟨g, 0, none⟩) := by simpa using hp
  simp [results, h, hp', asAddr, run_loadVar_row w g t ty cs fr d hg hu hd hi]
/-- What then lies in a mailbox that is stored whole. -/
theorem four {w : World} {g : Nat} {t : TypeId} {cs : Array Value} (h : w.heap[g]? = some (.cells cs t (0, 0))) (hs : cs.size = 4) (v0 v1 v2 v3 : Value) :
    ((((w.setCell ⟨g, 0, none⟩ v0).setCell ⟨g, 1, none⟩ v1).setCell ⟨g, 2, none⟩ v2).setCell ⟨g, 3, none⟩ v3).heap[g]? = some (.cells #[v0, v1, v2, v3] t (0, 0)) ∧
    (∀ k, k ≠ g → ((((w.setCell ⟨g, 0, none⟩ v0).setCell ⟨g, 1, none⟩ v1).setCell ⟨g, 2, none⟩ v2).setCell ⟨g, 3, none⟩ v3).heap[k]? = w.heap[k]?) ∧
    ∀ (B : Nat) (a : World), Below B a w → B ≤ g → Below B a ((((w.setCell ⟨g, 0, none⟩ v0).setCell ⟨g, 1, none⟩ v1).setCell ⟨g, 2, none⟩ v2).setCell ⟨g, 3, none⟩ v3) := by
  refine ⟨?_, fun k hk => by rw [heap_setCell_other _ _ _ _ hk, heap_setCell_other _ _ _ _ hk, heap_setCell_other _ _ _ _ hk, heap_setCell_other _ _ _ _ hk], fun B a hb hg => (((hb.setCell (p := ⟨g, 0, none⟩) hg _).setCell (p := ⟨g, 1, none⟩) hg _).setCell (p := ⟨g, 2, none⟩) hg _).setCell (p := ⟨g, 3, none⟩) hg _⟩
  rw [heap_setCell_same _ g 3 _ t _ (heap_setCell_same _ g 2 _ t _ (heap_setCell_same _ g 1 _ t _ (heap_setCell_same _ g 0 _ t _ h)))]
  obtain ⟨l⟩ := cs
  have hl : l.length = 4 := hs
  match l, hl with
  | [a0, a1, a2, a3], _ => rfl
theorem own_len {F : Y → List Value} {K B : Nat} {E : TypeId} {w : World} {A : Option Addr} {m c : Nat} {ys : List Y} (h : Own F K B E w (.slice A m c) ys) : ys.length = m := by
  rcases h.1.2 with ⟨e, h0⟩ | ⟨g, cap, cur, e, hB, _⟩
  · simp at e
    omega
  · simp at e
    omega
theorem own_form {F : Y → List Value} {K B : Nat} {E : TypeId} {w : World} {A : Option Addr} {m c : Nat} {ys : List Y} (h : Own F K B E w (.slice A m c) ys) (hm : 0 < m) : ∃ g, A = some ⟨g, 0, none⟩ ∧ B ≤ g := by
  rcases h.1.2 with ⟨e, h0⟩ | ⟨g, cap, cur, e, hB, _⟩
  · simp at e
    omega
  · simp at e
    exact ⟨g, e.1, hB⟩
theorem own_other {F : Y → List Value} {K B : Nat} {E : TypeId} {w : World} {v u : Value} {ys : List Y} {p j : Nat} (h : Own F K B E w v ys) (hv : v.ownBlock ≠ some p) (ho : ∀ y ∈ ys, ∀ ad, y.A = some ad → 0 < y.m → ad.block ≠ p) : Own F K B E (w.setCell ⟨p, j, none⟩ u) v ys :=
  h.grown (row := some p) ⟨rfl, rfl, rfl, by simp, fun k _ hne => heap_setCell_other _ _ _ _ (fun e => hne (by rw [e]))⟩ (fun b e => by cases e; exact hv) (fun y hy ad e h0 e' => ho y hy ad e h0 (Option.some.inj e'))
theorem own_touch {F : Y → List Value} {K B : Nat} {E : TypeId} {G : Nat → Prop} {w w' : World} {v : Value} {ys : List Y} (h : Own F K B E w v ys) (ht : codec.Touch G w w') (hv : ∀ g, v.ownBlock = some g → ¬ G g) (ho : ∀ y ∈ ys, ∀ ad, y.A = some ad → 0 < y.m → ¬ G ad.block) : Own F K B E w' v ys := by
  refine ⟨⟨h.1.1, h.1.2.imp id fun ⟨g, cap, cur, h1, h2, h3, h4⟩ => ⟨g, cap, cur, h1, h2, ?_, h4⟩⟩, fun y hy => ⟨⟨(h.2 y hy).1.1.kept fun ad e h0 => ht.2.2.2.2 _ ((h.2 y hy).1.1.lt ad e h0) (ho y hy ad e h0), (h.2 y hy).1.2⟩, (h.2 y hy).2⟩⟩
  have hlt := (h.lt (g := g) (by rw [h1]; rfl)).2
  rw [ht.2.2.2.2 g hlt (hv g (by rw [h1]; rfl))]
  exact h3
/-- A field of a message is another one. -/
theorem fl_put : ∀ (L : List Y) (k i : Nat) (u : Value) (y y' : Y), L[k]? = some y → i < 4 → (cM y).set i u = cM y' → (fl cM L).set (k * 4 + i) u = fl cM (L.set k y')
  | [], k, i, u, y, y', h, _, _ => by simp at h
  | z :: r, 0, i, u, y, y', h, hi, e => by
    simp at h
    subst h
    rw [Nat.zero_mul, Nat.zero_add]
    show (cM z ++ fl cM r).set i u = cM y' ++ fl cM r
    rw [List.set_append_left _ _ (by rw [fM.len]; exact hi), e]
  | z :: r, k + 1, i, u, y, y', h, hi, e => by
    have ih := fl_put r k i u y y' (by simpa using h) hi e
    rw [show (k + 1) * 4 + i = k * 4 + i + 4 by omega]
    show _ :: _ :: _ :: _ :: (fl cM r).set (k * 4 + i) _ = _
    rw [ih]
    rfl
theorem own_put {B g m c k i : Nat} {w : World} {ys : List Y} {y y' : Y} {u : Value} (h : Own cM 4 B 30 w (.slice (some ⟨g, 0, none⟩) m c) ys) (hk : ys[k]? = some y) (hi : i < 4) (he : (cM y).set i u = cM y')
    (ho : Oct w y') (hA : ∀ ad, y'.A = some ad → 0 < y'.m → g ≠ ad.block) : Own cM 4 B 30 (w.setCell ⟨g, k * 4 + i, none⟩ u) (.slice (some ⟨g, 0, none⟩) m c) (ys.set k y') := by
  have hlen := own_len h
  obtain ⟨s1, s2⟩ := World.ownsRow.stored (hlen ▸ h.1) (k * 4 + i) u
  refine ⟨?_, fun z hz => ?_⟩
  · rw [← fl_put ys k i u y y' hk hi he, List.length_set, hlen]
    exact s1
  · have key : ∀ z : Y, Oct w z → (∀ ad, z.A = some ad → 0 < z.m → some g ≠ some ad.block) → Oct (w.setCell ⟨g, k * 4 + i, none⟩ u) z := fun z o1 o2 => o1.grown s2 (fun ad e h0 e' => o2 ad e h0 e'.symm)
    rcases List.mem_or_eq_of_mem_set hz with hz | rfl
    · exact ⟨key z (h.2 z hz).1 (h.2 z hz).2, (h.2 z hz).2⟩
    · exact ⟨key z ho (fun ad e h0 e' => hA ad e h0 (Option.some.inj e')), fun ad e h0 e' => hA ad e h0 (Option.some.inj e')⟩
/-- The cell of a field, and that it may be written. -/
theorem own_cell {B g m c k i : Nat} {w : World} {ys : List Y} {y : Y} {u : Value} (h : Own cM 4 B 30 w (.slice (some ⟨g, 0, none⟩) m c) ys) (hk : ys[k]? = some y) (hi : (cM y)[i]? = some u) :
    w.cell? ⟨g, k * 4 + i, none⟩ = some u ∧ w.frozen? ⟨g, k * 4 + i, none⟩ = false := by
  have hlen := own_len h
  have hi4 : i < 4 := by have := (List.getElem?_eq_some_iff.1 hi).1; rw [fM.len] at this; exact this
  have hk2 := (List.getElem?_eq_some_iff.1 hk).1
  have hcl := (hlen ▸ h.1 : World.ownsRow w B 30 4 (.slice (some ⟨g, 0, none⟩) m c) m (fl cM ys)).cellAt (k * 4 + i) (by omega)
  have hfz := (hlen ▸ h.1 : World.ownsRow w B 30 4 (.slice (some ⟨g, 0, none⟩) m c) m (fl cM ys)).frozenAt (k * 4 + i)
  rw [fl_at fM ys k y hk i u hi] at hcl
  exact ⟨hcl, hfz⟩
/-- Messages put behind those of the call's own. -/
theorem run_append_rows (w : World) (ty : TypeId) (B : Nat) (v : Value) (ys : List Y) (h : Own cM 4 B 30 w v ys) (hB : B ≤ w.heap.size) (A : Option Addr) (n c : Nat) (zs : List Y) (hR : Rd cM 4 w A n zs) (hnil : A = none → c = 0)
    (hA : ∀ y ∈ zs, ∀ ad, y.A = some ad → 0 < y.m → v.ownBlock ≠ some ad.block) (hn : ys.length + n ≤ 2000000) :
    ∃ v' w', (Builtin.append_ #[23, 23] ty #[v, .slice A n c]).run Tryd.prog w = .ok v' w' ∧ Own cM 4 B 30 w' v' (ys ++ zs) ∧ w.grownBy w' v.ownBlock ∧ (v' = .slice none 0 0 ↔ v = .slice none 0 0 ∧ n = 0) ∧ (v'.ownBlock = v.ownBlock ∨ v'.ownBlock = some w.heap.size) := by
  obtain ⟨i0, hi, hz0, hz1, hz2⟩ := info_parts lg.infoM
  cases A with
  | none =>
    have hn0 : n = 0 := by
      rcases Nat.eq_zero_or_pos n with h0 | h0
      · exact h0
      · obtain ⟨b, o, y, e, _⟩ := hR.2 0 h0
        cases e
    have hc := hnil rfl
    subst hn0 hc
    obtain rfl : zs = [] := List.eq_nil_of_length_eq_zero hR.1
    refine ⟨v, w, ?_, by simpa using h, World.grownBy.refl w _, by simp, .inl rfl⟩
    rcases h.1.2 with ⟨rfl, h0⟩ | ⟨g, cap, cur, rfl, _, hg, hnc, _⟩
    · simp [Builtin.append_, run_underlying Tryd.underlying23, sizeOf, typeInfo, hi, Builtin.lenOf, Builtin.firstCells, loadCells, loadCellsFrom]
    · simp [Builtin.append_, run_underlying Tryd.underlying23, sizeOf, typeInfo, hi, Builtin.lenOf, Builtin.firstCells, hnc, storeCells, loadCells, loadCellsFrom]
  | some ad =>
    have hfl : (fl cM zs).length = n * 4 := by
      rw [← hR.1]
      have : ∀ l : List Y, (fl cM l).length = l.length * 4 := fun l => by
        induction l with
        | nil => rfl
        | cons z r ih => show (cM z ++ fl cM r).length = _; rw [List.length_append, ih, fM.len, List.length_cons]; omega
      exact this zs
    have hone : ∀ u ∈ fl cM zs, u.oneCell' = true := fun u hu => by
      obtain ⟨y, _, hy⟩ := List.mem_flatMap.1 hu
      exact fM.one y u hy
    obtain ⟨v', w', hr, h1, h2, h3, h4⟩ := run_append_own_at (P := Tryd.prog) w B 23 ty 30 i0 _ 4 48 Tryd.underlying23 hi hz0 hz1 hz2 rfl (by decide) v ys.length (fl cM ys) h.1 ad n c (fl cM zs) hfl (fun j u hu => by
      have hj : j < n * 4 := by have := (List.getElem?_eq_some_iff.1 hu).1; omega
      obtain ⟨b, o, y, e, hy, hc, _⟩ := hR.2 (j / 4) (by omega)
      cases e
      have hjj : j % 4 < 4 := Nat.mod_lt _ (by decide)
      have hl4 : j % 4 < (cM y).length := by rw [fM.len]; exact hjj
      have h5 := fl_at fM zs (j / 4) y hy (j % 4) _ (List.getElem?_eq_getElem hl4)
      rw [show j / 4 * 4 + j % 4 = j by omega] at h5
      rw [h5] at hu
      cases hu
      rw [codec.add_none]
      have := hc (j % 4) _ (List.getElem?_eq_getElem hl4)
      rw [Nat.add_assoc, show j / 4 * 4 + j % 4 = j by omega] at this
      exact this) hone (by unfold maxLen; omega) (by omega) hB
    have key : ∀ q : Y, Oct w q → (∀ ad, q.A = some ad → 0 < q.m → v.ownBlock ≠ some ad.block) → Oct w' q ∧ ∀ ad, q.A = some ad → 0 < q.m → v'.ownBlock ≠ some ad.block := by
      intro q hq hne
      refine ⟨hq.grown h2 fun ad e h0 e' => hne ad e h0 e'.symm, fun ad e h0 e' => ?_⟩
      rcases h4 with ha | ha
      · exact hne ad e h0 (ha ▸ e')
      · rw [ha] at e'
        have h1 := hq.1.lt ad e h0
        have h2 := Option.some.inj e'
        omega
    refine ⟨v', w', hr, ⟨?_, fun q hq => ?_⟩, h2, h3, h4⟩
    · have e : fl cM (ys ++ zs) = fl cM ys ++ fl cM zs := List.flatMap_append
      rw [e, List.length_append, hR.1]
      exact h1
    · rcases List.mem_append.1 hq with hq | hq
      · exact key q (h.2 q hq).1 (h.2 q hq).2
      · obtain ⟨k, hk⟩ := List.mem_iff_getElem?.1 hq
        have hk2 := (List.getElem?_eq_some_iff.1 hk).1
        obtain ⟨b, o, y, e, hy, hc, ho⟩ := hR.2 k (by have := hR.1; omega)
        rw [hk] at hy
        cases hy
        exact key q ho (hA q hq)
theorem wp_append_rows {o : Oper} {a : Act} {w : World} {K : Act → World → Prop} {Q : Exit → Act → World → Prop} (s x : Operand)
    (ho : o.op = .call { callee := .builtin .append, args := #[s, x], argTypes := #[23, 23] })
    (B : Nat) (v : Value) (ys : List Y) (hs : a.eval s = v) (h : Own cM 4 B 30 w v ys) (hB : B ≤ w.heap.size) (A : Option Addr) (n c : Nat) (zs : List Y) (hx : a.eval x = .slice A n c) (hR : Rd cM 4 w A n zs) (hnil : A = none → c = 0)
    (hA : ∀ y ∈ zs, ∀ ad, y.A = some ad → 0 < y.m → v.ownBlock ≠ some ad.block) (hn : ys.length + n ≤ 2000000)
    (hK : ∀ v' w', Own cM 4 B 30 w' v' (ys ++ zs) → w.grownBy w' v.ownBlock → (v' = .slice none 0 0 ↔ v = .slice none 0 0 ∧ n = 0) → (v'.ownBlock = v.ownBlock ∨ v'.ownBlock = some w.heap.size) → K (a.put o.dst v') w') : o.wp Tryd.prog a w K Q := by
  obtain ⟨v', w', hr, h1, h2, h3, h4⟩ := run_append_rows w o.type B v ys h hB A n c zs hR hnil hA hn
  unfold Oper.wp execOp
  simp only [ho, resolve, invoke, builtin, Sem.run_bind, Sem.run_pure, Result.andThen_ok, List.map_toArray, List.map_cons, List.map_nil, hs, hx, hr]
  exact hK v' w' h1 h2 h3 h4
theorem wpList_append_rows {ops : Array Oper} {rest : List Oper} {o : Oper} {a : Act} {w : World} {Q : Exit → Act → World → Prop} (hgd : o.guard = none) (s x : Operand)
    (ho : o.op = .call { callee := .builtin .append, args := #[s, x], argTypes := #[23, 23] })
    (B : Nat) (v : Value) (ys : List Y) (hs : a.eval s = v) (h : Own cM 4 B 30 w v ys) (hB : B ≤ w.heap.size) (A : Option Addr) (n c : Nat) (zs : List Y) (hx : a.eval x = .slice A n c) (hR : Rd cM 4 w A n zs) (hnil : A = none → c = 0)
    (hA : ∀ y ∈ zs, ∀ ad, y.A = some ad → 0 < y.m → v.ownBlock ≠ some ad.block) (hn : ys.length + n ≤ 2000000)
    (hK : ∀ v' w', Own cM 4 B 30 w' v' (ys ++ zs) → w.grownBy w' v.ownBlock → (v' = .slice none 0 0 ↔ v = .slice none 0 0 ∧ n = 0) → (v'.ownBlock = v.ownBlock ∨ v'.ownBlock = some w.heap.size) → wpList Tryd.prog ops Q rest (a.put o.dst v') w') : wpList Tryd.prog ops Q (o :: rest) a w :=
  wpList_plain hgd fun _ hK' => wp_append_rows s x ho B v ys hs h hB A n c zs hx hR hnil hA hn fun v' w' h1 h2 h3 h4 => hK' _ _ (hK v' w' h1 h2 h3 h4)
theorem step_append_rows {ops : Array Oper} {o : Oper} {a : Act} {w : World} {K : Act → World → Prop} {Q : Exit → Act → World → Prop} {E : Prop} (hgd : o.guard = none) (s x : Operand)
    (ho : o.op = .call { callee := .builtin .append, args := #[s, x], argTypes := #[23, 23] })
    (B : Nat) (v : Value) (ys : List Y) (hs : a.eval s = v) (h : Own cM 4 B 30 w v ys) (hB : B ≤ w.heap.size) (A : Option Addr) (n c : Nat) (zs : List Y) (hx : a.eval x = .slice A n c) (hR : Rd cM 4 w A n zs) (hnil : A = none → c = 0)
    (hA : ∀ y ∈ zs, ∀ ad, y.A = some ad → 0 < y.m → v.ownBlock ≠ some ad.block) (hn : ys.length + n ≤ 2000000)
    (hK : ∀ v' w', Own cM 4 B 30 w' v' (ys ++ zs) → w.grownBy w' v.ownBlock → (v' = .slice none 0 0 ↔ v = .slice none 0 0 ∧ n = 0) → (v'.ownBlock = v.ownBlock ∨ v'.ownBlock = some w.heap.size) → K (a.put o.dst v') w') :
    if Region.wanted o (yielded ops a.tmps) = true then Oper.wp Tryd.prog o a w K Q else E := by
  have hw : Region.wanted o (yielded ops a.tmps) = true := by simp [Region.wanted, hgd]
  rw [if_pos hw]
  exact wp_append_rows s x ho B v ys hs h hB A n c zs hx hR hnil hA hn hK
/-- Octets that a call made. -/
def Made (W : World) (l : List Nat) (A : Option Addr) (m c : Nat) (w' : World) : Prop := Bytes w' A m l ∧ (A = none → c = 0) ∧ (∀ ad, A = some ad → W.heap.size ≤ ad.block) ∧ Below W.heap.size W w'
theorem eq_nil (w : World) (A : Option Addr) (n c : Nat) : (binOp .eql 28 (.slice A n c) (.slice none 0 0)).run Tryd.prog w = .ok (.bool A.isNone) w := by
  cases A with
  | none => exact Lib.run_eql_slice_nil w _ _ none n c 0 0 Tryd.underlying28
  | some ad => exact Lib.run_eql_slice_nil w _ _ (some ad) n c 0 0 Tryd.underlying28
theorem eq_nilM (w : World) (A : Option Addr) (n c : Nat) : (binOp .eql 23 (.slice A n c) (.slice none 0 0)).run Tryd.prog w = .ok (.bool A.isNone) w := by
  cases A with
  | none => exact Lib.run_eql_slice_nil w _ _ none n c 0 0 Tryd.underlying23
  | some ad => exact Lib.run_eql_slice_nil w _ _ (some ad) n c 0 0 Tryd.underlying23
theorem bytes_form {w : World} {B N : Nat} {v : Value} {M : List Nat} (h : w.ownsRow B 5 1 v M.length (vals M)) (hne : v ≠ .slice none 0 0) (hb : ∀ x ∈ M, x < 256) (hN : M.length = N) :
    ∃ g cap, v = .slice (some ⟨g, 0, none⟩) N cap ∧ B ≤ g ∧ Bytes w (some ⟨g, 0, none⟩) N M := by
  subst hN
  rcases h.2 with ⟨e, _⟩ | ⟨g, cap, cur, e, hB, hg, hc, _⟩
  · exact absurd e hne
  · refine ⟨g, cap, e, hB, rfl, hb, fun _ => ⟨g, 0, rfl, fun i hi => ?_⟩⟩
    have := World.ownsRow.cells h (g := g) (by rw [e]; rfl) i (.int .u8 (M.getD i 0)) (by simp [vals, List.getD, hi])
    rw [codec.add_none] at this
    exact this
set_option maxHeartbeats 1000000 in
theorem clone_any (W : World) (A : Option Addr) (n c : Nat) (l : List Nat) (hB : Bytes W A n l) (hA : A = none → c = 0) (hn : n ≤ 9000000) :
    Calls Tryd.prog 46 #[.slice A n c] W fun e w' => ∃ A' c', e = .returned (.slice A' n c') ∧ Made W l A' n c' w' := by
  have HB := Lib.hid hB
  cases A with
  | none =>
    have h0 : n = 0 := by
      by_cases h : 0 < n
      · obtain ⟨b, o, e, _⟩ := hB.2.2 h
        cases e
      · omega
    subst h0
    obtain rfl := hA rfl
    obtain rfl : l = [] := List.eq_nil_of_length_eq_zero hB.1
    clear hB hA
    have hen := fun w => eq_nil w none 0 0
    go_enter Tryd.func46, Tryd.ntmps46
    go_wp2
    go_ret
    exact ⟨none, 0, rfl, HB.out, fun _ => rfl, (fun ad e => by cases e), Below.refl _ _⟩
  | some ad =>
    clear hB hA
    have hen := fun w => eq_nil w (some ad) n c
    go_enter Tryd.func46, Tryd.ntmps46
    go_wp2_with (at_builtin; refine codec.wpList_append_bytes rfl (.tmp 5) (.tmp 6) rfl W.heap.size _ [] rfl (World.ownsRow_made W #[] 0 (Nat.le_refl _) (Nat.zero_le _) rfl) (by simp) (some ad) n c l rfl (HB.out.alloc _) (fun e => by cases e) (by simp; omega) ?_; intro v5 w5 ho hg hnn _; have HX5 := Lib.hid (And.intro ho (And.intro hg hnn)); clear ho hg hnn)
    go_ret
    obtain ⟨h1, h2, h3⟩ := HX5.out
    obtain ⟨g, cap, rfl, hg, hB5⟩ := bytes_form h1 (fun e => by have := (h3.1 e).1; cases this) (by simpa using HB.out.2.1) (N := n) (by simpa using HB.out.1)
    exact ⟨some ⟨g, 0, none⟩, cap, rfl, by simpa using hB5, (fun e => by cases e), (fun ad e => by cases e; exact hg), ((Below.refl _ _).alloc (Nat.le_refl _) _).trans ⟨h2.os, h2.tape, h2.output, h2.size, fun k hk => h2.block k (by simp; omega) (fun e => by have := Option.some.inj e; simp at this; omega)⟩⟩
set_option maxHeartbeats 1000000 in
theorem cloneM_any (W : World) (A : Option Addr) (n c : Nat) (zs : List Y) (hR : Rd cM 4 W A n zs) (hn : n ≤ 1000000) :
    Calls Tryd.prog 45 #[.slice A n c] W fun e w' => ∃ A' c', e = .returned (.slice A' n c') ∧ Own cM 4 W.heap.size 30 w' (.slice A' n c') zs ∧ Below W.heap.size W w' := by
  have HR := Lib.hid hR
  cases A with
  | none =>
    have h0 : n = 0 := by
      by_cases h : 0 < n
      · obtain ⟨b, o, y, e, _⟩ := hR.2 0 h
        cases e
      · omega
    subst h0
    obtain rfl : zs = [] := List.eq_nil_of_length_eq_zero hR.1
    clear hR
    have hen := fun w => eq_nilM w none 0 c
    go_enter Tryd.func45, Tryd.ntmps45
    go_wp2
    go_ret
    exact ⟨none, 0, rfl, Own.nil _ _ _ _ _, Below.refl _ _⟩
  | some ad =>
    clear hR
    have hen := fun w => eq_nilM w (some ad) n c
    have hO : Own cM 4 W.heap.size 30 (W.alloc (.cells #[] 30)) (.slice (some ⟨W.heap.size, 0, none⟩) 0 0) [] := ⟨World.ownsRow_made W #[] 0 (Nat.le_refl _) (Nat.zero_le _) rfl, by simp⟩
    have HO := Lib.hid hO
    have HD := Lib.hid (show ∀ y ∈ zs, ∀ ad, y.A = some ad → 0 < y.m → (Value.slice (some ⟨W.heap.size, 0, none⟩) 0 0).ownBlock ≠ some ad.block from fun y hy ad' e h0 e' => by
      obtain ⟨k, hk⟩ := List.mem_iff_getElem?.1 hy
      have hk2 := (List.getElem?_eq_some_iff.1 hk).1
      obtain ⟨b, o, y', e2, hy', hc, ho⟩ := HR.out.2 k (by have := HR.out.1; omega)
      rw [hk] at hy'
      cases hy'
      have h6 := ho.1.lt ad' e h0
      have h7 : W.heap.size = ad'.block := Option.some.inj e'
      omega)
    clear hO
    go_enter Tryd.func45, Tryd.ntmps45
    go_wp2_with (at_builtin; refine wpList_append_rows rfl (.tmp 5) (.tmp 6) rfl W.heap.size _ [] rfl HO.out (by simp) (some ad) n c zs rfl (HR.out.below ((Below.refl _ _).alloc (Nat.le_refl _) _)) (fun e => by cases e) HD.out (by simp; omega) ?_; intro v5 w5 ho hg hnn _; have HX5 := Lib.hid (And.intro ho (And.intro hg hnn)); clear ho hg hnn)
    go_ret
    obtain ⟨h1, h2, h3⟩ := HX5.out
    rw [List.nil_append] at h1
    obtain ⟨A5, c5, rfl, -, -, -⟩ := h1.rd fM
    have hl := HR.out.1
    rw [hl] at h1 ⊢
    exact ⟨A5, c5, rfl, h1, ((Below.refl _ _).alloc (Nat.le_refl _) _).trans ⟨h2.os, h2.tape, h2.output, h2.size, fun k hk => h2.block k (by simp; omega) (fun e => by have := Option.some.inj e; simp at this; omega)⟩⟩
end Go.Proofs.YtepngemlaiffgaaDoor.mal
namespace Go.Proofs.YtepngemlaiffgaaDoor.mal
open Go.ChangeShapes Go.WideShapes Go.ChangeAt Go.RowKit
open Go.Proofs.YtepngemlaiffgaaDoor.codec (Bytes vals)
open Go.Proofs.YtepngemlaiffgaaDoor.bod (cell_at Fit boxed named formedB)
open Go.Proofs.YtepngemlaiffgaaDoor.lg (Nt Y Rd Own Oct cM fM fl fl_at nts nts_at nts_len take_next)
set_option linter.unusedVariables false
set_option maxRecDepth 100000
set_option linter.unusedSimpArgs false

/-- A mailbox in a local variable, a result's variable beside it, and its messages in a row of the call's own, the octets of the first j of which are new. -/
structure OS (W : World) (S : ByteArray) (E X : Nat) (v : Value) (zs ys : List Y) (j : Nat) (w : World) : Prop where
  box : w.heap[W.heap.size]? = some (.cells #[.string S, .int .u32 E, .int .u32 X, v] 25 (0, 0))
  res : w.heap[W.heap.size + 1]? = some (.cells #[.string ⟨#[]⟩, .int .u32 0, .int .u32 0, .slice none 0 0] 25 (0, 0))
  own : Own cM 4 (W.heap.size + 2) 30 w v ys
  same : nts ys = nts zs
  off : ∀ y ∈ ys, ∀ ad, y.A = some ad → 0 < y.m → ad.block < W.heap.size ∨ W.heap.size + 2 ≤ ad.block
  new : ∀ i y, i < j → ys[i]? = some y → ∀ ad, y.A = some ad → W.heap.size + 2 ≤ ad.block
  bel : Below W.heap.size W w
theorem OS.lt {W : World} {S : ByteArray} {E X : Nat} {v : Value} {zs ys : List Y} {j : Nat} {w : World} (h : OS W S E X v zs ys j w) : W.heap.size + 1 < w.heap.size := (Array.getElem?_eq_some_iff.1 h.res).1
theorem OS.below {W : World} {S : ByteArray} {E X : Nat} {v : Value} {zs ys : List Y} {j : Nat} {w w' : World} (h : OS W S E X v zs ys j w) (hb : Below w.heap.size w w') : OS W S E X v zs ys j w' := by
  have := h.lt
  exact ⟨by rw [hb.block _ (by omega)]; exact h.box, by rw [hb.block _ (by omega)]; exact h.res, h.own.below hb, h.same, h.off, h.new, h.bel.trans (hb.mono (by omega))⟩
theorem OS.step {W : World} {S : ByteArray} {E X g n c5 j : Nat} {zs ys : List Y} {w w5 : World} {y : Y} {A' : Option Addr} {c' : Nat} (h : OS W S E X (.slice (some ⟨g, 0, none⟩) n c5) zs ys j w) (hy : ys[j]? = some y) (hm : Made w y.n.o A' y.m c' w5) :
    OS W S E X (.slice (some ⟨g, 0, none⟩) n c5) zs (ys.set j { y with A := A', c := c' }) (j + 1) (w5.setCell ⟨g, j * 4 + 3, none⟩ (.slice A' y.m c')) := by
  have h5 := h.below hm.2.2.2
  have hlt := h.lt
  have hg := (h.own.lt (g := g) rfl)
  have hAw : ∀ ad, A' = some ad → w.heap.size ≤ ad.block := hm.2.2.1
  refine ⟨by rw [heap_setCell_other _ _ _ _ (by show _ ≠ g; omega)]; exact h5.box, by rw [heap_setCell_other _ _ _ _ (by show _ ≠ g; omega)]; exact h5.res, own_put h5.own hy (by decide) rfl ⟨hm.1, hm.2.1⟩ (fun ad e h0 e' => by have := hAw ad e; omega), ?_, ?_, ?_, h5.bel.setCell (p := ⟨g, j * 4 + 3, none⟩) (by show W.heap.size ≤ g; omega) _⟩
  · rw [← h.same]
    apply List.ext_getElem?
    intro i
    rw [nts, nts, List.getElem?_map, List.getElem?_map, List.getElem?_set]
    by_cases hi : j = i
    · subst hi
      have h1 := (List.getElem?_eq_some_iff.1 hy).1
      rw [if_pos rfl, if_pos h1, hy]
      rfl
    · rw [if_neg hi]
  · intro z hz ad e h0
    rcases List.mem_or_eq_of_mem_set hz with hz | rfl
    · exact h.off z hz ad e h0
    · exact .inr (by have := hAw ad e; omega)
  · intro i z hi hz ad e
    rw [List.getElem?_set] at hz
    by_cases hij : j = i
    · subst hij
      have h1 := (List.getElem?_eq_some_iff.1 hy).1
      rw [if_pos rfl, if_pos h1] at hz
      cases hz
      have := hAw ad e
      omega
    · rw [if_neg hij] at hz
      exact h.new i z (by omega) hz ad e
/-- What own answers. -/
def OwnAns (W : World) (S : ByteArray) (E X : Nat) (zs : List Y) (e : Ending) (w' : World) : Prop :=
  ∃ A n c ys, e = .returned (.agg #[.string S, .int .u32 E, .int .u32 X, .slice A n c]) ∧ Own cM 4 W.heap.size 30 w' (.slice A n c) ys ∧ nts ys = nts zs ∧ (∀ y ∈ ys, ∀ ad, y.A = some ad → W.heap.size ≤ ad.block) ∧ Below W.heap.size W w'
theorem OS.start {W w w1 : World} {S : ByteArray} {E X : Nat} {A A' : Option Addr} {n c c' : Nat} {zs : List Y} (hR : Rd cM 4 W A n zs) (hb : w.heap[W.heap.size]? = some (.cells #[.string S, .int .u32 E, .int .u32 X, .slice A n c] 25 (0, 0))) (hr : w.heap[W.heap.size + 1]? = some (.cells #[.string ⟨#[]⟩, .int .u32 0, .int .u32 0, .slice none 0 0] 25 (0, 0))) (hbel : Below W.heap.size W w)
    (ho : Own cM 4 w.heap.size 30 w1 (.slice A' n c') zs) (hb1 : Below w.heap.size w w1) : OS W S E X (.slice A' n c') zs zs 0 (w1.setCell ⟨W.heap.size, 3, none⟩ (.slice A' n c')) := by
  have hlt : W.heap.size + 1 < w.heap.size := (Array.getElem?_eq_some_iff.1 hr).1
  have hoff : ∀ y ∈ zs, ∀ ad, y.A = some ad → 0 < y.m → ad.block < W.heap.size := by
    intro y hy ad e h0
    obtain ⟨k, hk⟩ := List.mem_iff_getElem?.1 hy
    have hk2 := (List.getElem?_eq_some_iff.1 hk).1
    obtain ⟨b, o, y', e2, hy', hc, ho⟩ := hR.2 k (by have := hR.1; omega)
    rw [hk] at hy'
    cases hy'
    exact ho.1.lt ad e h0
  have hb2 : w1.heap[W.heap.size]? = some (.cells #[.string S, .int .u32 E, .int .u32 X, .slice A n c] 25 (0, 0)) := by rw [hb1.block _ (by omega)]; exact hb
  have ho2 : Own cM 4 (W.heap.size + 2) 30 w1 (.slice A' n c') zs := ⟨⟨ho.1.1, ho.1.2.imp id fun ⟨g, cap, cur, h1, h2, h3⟩ => ⟨g, cap, cur, h1, by omega, h3⟩⟩, ho.2⟩
  refine ⟨by rw [heap_setCell_same _ _ _ _ _ _ hb2]; rfl, by rw [heap_setCell_other _ _ _ _ (by show _ ≠ W.heap.size; omega), hb1.block _ hlt]; exact hr, own_other ho2 (fun e => by have := (ho2.lt e).1; omega) (fun y hy ad e h0 => by have := hoff y hy ad e h0; omega), rfl, fun y hy ad e h0 => .inl (hoff y hy ad e h0), fun i y hi => absurd hi (Nat.not_lt_zero _), (hbel.trans (hb1.mono (by omega))).setCell (p := ⟨W.heap.size, 3, none⟩) (Nat.le_refl _) _⟩
theorem OS.done {W w : World} {S : ByteArray} {E X : Nat} {A : Option Addr} {n c : Nat} {zs ys : List Y} (h : OS W S E X (.slice A n c) zs ys n w) :
    let w' := (((w.setCell ⟨W.heap.size + 1, 0, none⟩ (.string S)).setCell ⟨W.heap.size + 1, 1, none⟩ (.int .u32 (E : Nat))).setCell ⟨W.heap.size + 1, 2, none⟩ (.int .u32 (X : Nat))).setCell ⟨W.heap.size + 1, 3, none⟩ (.slice A n c)
    w'.heap[W.heap.size + 1]? = some (.cells #[.string S, .int .u32 E, .int .u32 X, .slice A n c] 25 (0, 0)) ∧ OwnAns W S E X zs (.returned (.agg #[.string S, .int .u32 E, .int .u32 X, .slice A n c])) w' := by
  obtain ⟨k1, k2, k3⟩ := four h.res rfl (.string S) (.int .u32 (E : Nat)) (.int .u32 (X : Nat)) (.slice A n c)
  have hv : (Value.slice A n c).ownBlock ≠ some (W.heap.size + 1) := fun e => by have := (h.own.lt e).1; omega
  have hy : ∀ y ∈ ys, ∀ ad, y.A = some ad → 0 < y.m → ad.block ≠ W.heap.size + 1 := fun y hy ad e h0 => by have := h.off y hy ad e h0; omega
  have ho := own_other (u := .slice A n c) (j := 3) (own_other (u := .int .u32 (X : Nat)) (j := 2) (own_other (u := .int .u32 (E : Nat)) (j := 1) (own_other (u := .string S) (j := 0) h.own hv hy) hv hy) hv hy) hv hy
  refine ⟨k1, A, n, c, ys, rfl, ⟨⟨ho.1.1, ho.1.2.imp id fun ⟨g, cap, cur, h1, h2, h3⟩ => ⟨g, cap, cur, h1, by omega, h3⟩⟩, ho.2⟩, h.same, fun y hy ad e => ?_, k3 _ _ h.bel (by omega)⟩
  obtain ⟨i, hi⟩ := List.mem_iff_getElem?.1 hy
  have hi2 := (List.getElem?_eq_some_iff.1 hi).1
  have := h.new i y (by have := own_len h.own; omega) hi ad e
  omega
set_option maxHeartbeats 4000000 in
theorem own_any (W : World) (S : ByteArray) (E X : Nat) (A : Option Addr) (n c : Nat) (zs : List Y) (hR : Rd cM 4 W A n zs) (hn : n ≤ 1000000) (hs : S.size ≤ 100000) (hm : ∀ y ∈ zs, y.m ≤ 1000000) :
    Calls Tryd.prog 26 #[.agg #[.string S, .int .u32 E, .int .u32 X, .slice A n c]] W fun e w' => OwnAns W S E X zs e w' := by
  obtain ⟨W1, hW1⟩ : ∃ W1, W1 = (W.alloc (.cells #[.string S, .int .u32 E, .int .u32 X, .slice A n c] 25)).alloc (.cells #[.string ⟨#[]⟩, .int .u32 0, .int .u32 0, .slice none 0 0] 25) := ⟨_, rfl⟩
  have HBW := Lib.hid (show Below W.heap.size W W1 by rw [hW1]; exact ((Below.refl _ _).alloc (Nat.le_refl _) _).alloc (by simp) _)
  have HP1 := Lib.hid (fun (w' : World) (h : Below W1.heap.size W1 w') => show w'.heap[W.heap.size]? = some (.cells #[.string S, .int .u32 E, .int .u32 X, .slice A n c] 25 (0, 0)) from (h.block _ (by rw [hW1]; simp; omega)).trans (by rw [hW1, heap_alloc_old _ _ (by simp)]; exact heap_alloc_new _ _))
  have HP2 := Lib.hid (fun (w' : World) (h : Below W1.heap.size W1 w') => show w'.heap[W.heap.size + 1]? = some (.cells #[.string ⟨#[]⟩, .int .u32 0, .int .u32 0, .slice none 0 0] 25 (0, 0)) from (h.block _ (by rw [hW1]; simp)).trans (by rw [hW1]; have := heap_alloc_new (W.alloc (.cells #[.string S, .int .u32 E, .int .u32 X, .slice A n c] 25)) (.cells #[.string ⟨#[]⟩, .int .u32 0, .int .u32 0, .slice none 0 0] 25); simpa using this))
  have HS1 := Lib.hid (nam.clone_any W1 S hs)
  have HR := Lib.hid hR
  have HM := Lib.hid (fun (nt : Nt) (h : nt ∈ nts zs) => show nt.o.length ≤ 1000000 by
    obtain ⟨y, hy, rfl⟩ := List.mem_map.1 h
    obtain ⟨k, hk⟩ := List.mem_iff_getElem?.1 hy
    have hk2 := (List.getElem?_eq_some_iff.1 hk).1
    obtain ⟨b, o, y', e2, hy', hc, ho⟩ := hR.2 k (by have := hR.1; omega)
    rw [hk] at hy'
    cases hy'
    have := hm y hy
    have := ho.1.1
    omega)
  have HCl := Lib.hid (fun (w : World) (h : Below W.heap.size W w) => cloneM_any w A n c zs ((HR.out.below h)) hn)
  have c0 := cell_at (HP1.out W1 (Below.refl _ _)) 0 _ rfl
  have HW1 := Lib.hid hW1
  rw [hW1] at c0
  clear hW1 hR hs hm
  go_enter Tryd.func26, Tryd.ntmps26
  go_wp2_with fail
  rw [← HW1.out]
  clear c0
  refine HS1.out.mono ?_
  rintro e w1 ⟨rfl, hb1⟩
  have HB1 := Lib.hid hb1
  have hp1 := HP1.out _ hb1
  have f0 := frozen_of_row _ _ 0 _ _ hp1
  have c0 := cell_at hp1 0 _ rfl
  have hp2 : (w1.setCell ⟨W.heap.size, 0, none⟩ (.string S)).heap[W.heap.size]? = some (.cells #[.string S, .int .u32 E, .int .u32 X, .slice A n c] 25 (0, 0)) := by rw [heap_setCell_same _ _ _ _ _ _ hp1]; rfl
  have hq2 : (w1.setCell ⟨W.heap.size, 0, none⟩ (.string S)).heap[W.heap.size + 1]? = some (.cells #[.string ⟨#[]⟩, .int .u32 0, .int .u32 0, .slice none 0 0] 25 (0, 0)) := by rw [heap_setCell_other _ _ _ _ (by show _ ≠ W.heap.size; omega)]; exact HP2.out _ hb1
  have hbl2 : Below W.heap.size W (w1.setCell ⟨W.heap.size, 0, none⟩ (.string S)) := (HBW.out.trans (hb1.mono HBW.out.size)).setCell (Nat.le_refl _) _
  clear hb1 hp1
  have HP3 := Lib.hid hp2
  have HQ3 := Lib.hid hq2
  have HB3 := Lib.hid hbl2
  have d3 := cell_at hp2 3 _ rfl
  clear hp2 hq2 hbl2
  go_wp2_with fail
  clear c0 f0 d3
  generalize w1.setCell ⟨W.heap.size, 0, none⟩ (.string S) = w2 at *
  refine (HCl.out w2 HB3.out).mono ?_
  rintro e w3 ⟨A5, c5, rfl, ho3, hb3⟩
  have hp3 : w3.heap[W.heap.size]? = some (.cells #[.string S, .int .u32 E, .int .u32 X, .slice A n c] 25 (0, 0)) := by rw [hb3.block _ (by have := (Array.getElem?_eq_some_iff.1 HP3.out).1; omega)]; exact HP3.out
  have hOS := OS.start HR.out HP3.out HQ3.out HB3.out ho3 hb3
  have HOS := Lib.hid hOS
  have f3 := frozen_of_row _ _ 3 _ _ hp3
  have c3 := cell_at hp3 3 _ rfl
  have e3 := cell_at hOS.box 3 _ rfl
  clear hOS hp3 ho3 hb3
  go_wp2_with fail
  clear f3 c3 e3
  generalize w3.setCell ⟨W.heap.size, 3, none⟩ (.slice A5 n c5) = w4 at *
  go_loopw [15] (fun i wr => ∃ k : Nat, k ≤ n ∧ i = .int .i64 k ∧ Hid (∃ ys, OS W S E X (.slice A5 n c5) zs ys k wr)) (fun i _ => n - (intOf i).toNat)
  case atStart => exact ⟨0, Nat.zero_le _, rfl, Lib.hid ⟨zs, HOS.out⟩⟩
  case round =>
    obtain ⟨k, hk, rfl, HY⟩ := hrel
    obtain ⟨ys, hY⟩ := HY.out
    have hlen := own_len hY.own
    by_cases hlt : k < n
    · obtain ⟨g, rfl, hg⟩ := own_form hY.own (by omega)
      obtain ⟨y, hy⟩ : ∃ y, ys[k]? = some y := ⟨_, List.getElem?_eq_getElem (by omega)⟩
      obtain ⟨q1, q2⟩ := own_cell (i := 3) hY.own hy rfl
      have lt1 := block_lt_of_cell q1
      have hYd := hY.below (codec.below_draws (Below.refl _ _) 1)
      have HYD := Lib.hid (show OS W S E X (.slice (some ⟨g, 0, none⟩) n c5) zs ys k wr.drew from hYd)
      have HY1 := Lib.hid hy
      have HCB := Lib.hid (fun (w' : World) (h : Below wr.heap.size wr w') => cell_at (hY.below h).box 3 _ rfl)
      have HCO := Lib.hid (fun (w' : World) (h : Below wr.heap.size wr w') => own_cell (i := 3) (hY.below h).own hy rfl)
      have hoc := (hYd.own.2 y (List.mem_of_getElem? hy)).1
      have HCA := Lib.hid (show Calls Tryd.prog 46 #[.slice y.A y.m y.c] wr.drew _ from clone_any wr.drew y.A y.m y.c y.n.o hoc.1 hoc.2 (by
        have h1 := HM.out y.n (by rw [← hY.same]; exact List.mem_of_getElem? (nts_at hy))
        have h2 : y.n.o.length = y.m := hoc.1.1
        omega))
      have HST := Lib.hid (show Below wr.heap.size wr wr.drew from codec.below_draws (Below.refl _ _) 1)
      have hlt' : (k : Int) < (n : Int) := by omega
      clear hY HY hlen q1 q2 lt1 hYd hoc
      obtain ⟨nt, p, Ay, my, cy⟩ := y
      simp only [] at HCA
      have c3 := HCB.out wr (Below.refl _ _)
      go_wp2_with fail
      clear c3
      refine wp_region_noPanic ?_
      refine held.wp_region_G (S := fun w' => Below wr.heap.size wr w') 12 (by kernel_rfl) HST.out (fun hHeld => ?_)
      refine held.wpAnyG_take (i := 0) (v := ?_) rfl (by kernel_rfl) (by kernel_rfl) (by kernel_rfl) (by kernel_rfl) (fun _ _ _ h => h) (Or.inl ⟨by kernel_rfl, ?_⟩) hHeld ?_
      rotate_left
      · (intro w' hw'; go_simp; first | done | with_reducible rfl)
      refine held.wpAnyG_take (i := 1) (v := ?_) rfl (by kernel_rfl) (by kernel_rfl) (by kernel_rfl) (by kernel_rfl) (fun _ _ _ h => h) (Or.inl ⟨by kernel_rfl, ?_⟩) hHeld ?_
      rotate_left
      · (intro w' hw'; have c3 := HCB.out w' hw'; go_simp; first | done | with_reducible rfl)
      refine held.wpAnyG_take (i := 2) (v := ?_) rfl (by kernel_rfl) (by kernel_rfl) (by kernel_rfl) (by kernel_rfl) (fun _ _ _ h => h) (Or.inl ⟨by kernel_rfl, ?_⟩) hHeld ?_
      rotate_left
      · (intro w' hw'; go_simp; first | done | with_reducible rfl)
      refine held.wpAnyG_take (i := 3) (v := ?_) rfl (by kernel_rfl) (by kernel_rfl) (by kernel_rfl) (by kernel_rfl) (fun _ _ _ h => h) (Or.inl ⟨by kernel_rfl, ?_⟩) hHeld ?_
      rotate_left
      · (intro w' hw'; go_simp; first | done | with_reducible rfl)
      refine held.wpAnyG_take (i := 4) (v := ?_) rfl (by kernel_rfl) (by kernel_rfl) (by kernel_rfl) (by kernel_rfl) (fun _ _ _ h => h) (Or.inl ⟨by kernel_rfl, ?_⟩) hHeld ?_
      rotate_left
      · (intro w' hw'; have c3 := HCB.out w' hw'; go_simp; first | done | with_reducible rfl)
      refine held.wpAnyG_take (i := 5) (v := ?_) rfl (by kernel_rfl) (by kernel_rfl) (by kernel_rfl) (by kernel_rfl) (fun _ _ _ h => h) (Or.inl ⟨by kernel_rfl, ?_⟩) hHeld ?_
      rotate_left
      · (intro w' hw'; go_simp; first | done | with_reducible rfl)
      refine held.wpAnyG_take (i := 6) (v := ?_) rfl (by kernel_rfl) (by kernel_rfl) (by kernel_rfl) (by kernel_rfl) (fun _ _ _ h => h) (Or.inl ⟨by kernel_rfl, ?_⟩) hHeld ?_
      rotate_left
      · (intro w' hw'; go_simp; first | done | with_reducible rfl)
      refine held.wpAnyG_take (i := 7) (v := ?_) rfl (by kernel_rfl) (by kernel_rfl) (by kernel_rfl) (by kernel_rfl) (fun _ _ _ h => h) (Or.inl ⟨by kernel_rfl, ?_⟩) hHeld ?_
      rotate_left
      · (intro w' hw'; go_simp; first | done | with_reducible rfl)
      refine held.wpAnyG_take (i := 8) (v := ?_) rfl (by kernel_rfl) (by kernel_rfl) (by kernel_rfl) (by kernel_rfl) (fun _ _ _ h => h) (Or.inl ⟨by kernel_rfl, ?_⟩) hHeld ?_
      rotate_left
      · (intro w' hw'; obtain ⟨q1, q2⟩ := HCO.out w' hw'; go_simp; first | done | with_reducible rfl)
      refine held.wpAnyG_ready (rs := [9]) (by kernel_rfl) (by simp) ?_
      refine held.AllReadyG.cons rfl (fun K hK => ?_) held.AllReadyG.nil
      go_simp
      refine HCA.out.mono ?_
      rintro x w5 ⟨A', c', rfl, hm5⟩
      have hS5 := hHeld.trans (hm5.2.2.2.mono hHeld.size)
      obtain ⟨q1, q2⟩ := HCO.out w5 hS5
      have HN := Lib.hid (HYD.out.step HY1.out hm5)
      clear hm5
      go_wp2_with fail
      refine hK.out _ _ (fun _ => hS5) (fun hh => ?_)
      have hH1 := hh (by decide)
      clear hK K hh hHeld
      refine held.wpAnyG_ready (rs := [10]) (by kernel_rfl) (by simp) ?_
      refine held.AllReadyG.cons rfl (fun K hK => ?_) held.AllReadyG.nil
      go_simp
      refine hK.out _ _ (fun _ => hS5) (fun hh => ?_)
      have hH2 := hh (by decide)
      clear hK K hh hH1
      refine held.wpAnyG_take (i := 11) (v := ?_) rfl (by kernel_rfl) (by kernel_rfl) (by kernel_rfl) (by kernel_rfl) (fun _ _ _ h => h) (Or.inl ⟨by kernel_rfl, ?_⟩) hH2 ?_
      rotate_left
      · (intro w' hw'; go_simp; first | done | with_reducible rfl)
      refine held.wpAnyG_ready (rs := [12]) (by kernel_rfl) (by simp) ?_
      refine held.AllReadyG.cons rfl (fun K hK => ?_) held.AllReadyG.nil
      go_simp
      refine hK.out _ _ (fun hh => absurd rfl hh) (fun _ => ?_)
      clear hK K hH2
      refine held.wpAnyG_done (by kernel_rfl) ?_ _
      refine NoPanic.normal ?_
      go_simp
      clear q1 q2
      have HN2 := Lib.hid (show ∃ ys, OS W S E X (.slice (some ⟨g, 0, none⟩) n c5) zs ys (k + 1) (w5.setCell ⟨g, k * 4 + 3, none⟩ (.slice A' my c')) from ⟨_, HN.out⟩)
      clear HN
      go_wp2_with fail
      go_roundw
      case rel => first | exact ⟨k + 1, by omega, by go_num, HN2⟩ | ((repeat apply Exists.intro); exact ⟨⟨k + 1, by omega, by go_num, HN2⟩, rfl⟩)
      case measure => (show n - ((k : Int) + 1).toNat < n - k; omega)
    · obtain rfl : k = n := by omega
      have HY2 := Lib.hid hY
      have d0 := cell_at hY.box 0 _ rfl
      have d1 := cell_at hY.box 1 _ rfl
      have d2 := cell_at hY.box 2 _ rfl
      have d3 := cell_at hY.box 3 _ rfl
      have g0 := frozen_of_row _ _ 0 _ _ hY.res
      have g1 := frozen_of_row _ _ 1 _ _ hY.res
      have g2 := frozen_of_row _ _ 2 _ _ hY.res
      have g3 := frozen_of_row _ _ 3 _ _ hY.res
      have r0 := cell_at hY.res 0 _ rfl
      have r1 := cell_at hY.res 1 _ rfl
      have r2 := cell_at hY.res 2 _ rfl
      have r3 := cell_at hY.res 3 _ rfl
      clear hY HY
      go_wp2_with fail
      obtain ⟨k1, k2⟩ := HY2.out.done
      refine bodyPost_ret (results_cell_row Tryd.results26 _ _ (W.heap.size + 1) _ _ _ _ rfl k1 Tryd.underlying25 rfl (boxSize _ rfl)) rfl k2
end Go.Proofs.YtepngemlaiffgaaDoor.mal
namespace Go.Proofs.YtepngemlaiffgaaDoor.mal
open Go.ChangeShapes Go.WideShapes Go.ChangeAt Go.RowKit
open Go.Proofs.YtepngemlaiffgaaDoor.codec (Bytes vals)
open Go.Proofs.YtepngemlaiffgaaDoor.bod (cell_at Fit boxed named formedB)
open Go.Proofs.YtepngemlaiffgaaDoor.lg (Nt Y Rd Own Oct cM fM fl fl_at nts nts_at nts_len take_next)
set_option linter.unusedVariables false
set_option maxRecDepth 100000
set_option linter.unusedSimpArgs false

theorem own_empty {w : World} {B : Nat} {A : Option Addr} {n c : Nat} {ys : List Y} {l : List Nt} (h : Own cM 4 B 30 w (.slice A n c) ys) (hl : nts ys = []) : n = 0 := by
  have h1 := own_len h
  have h2 : ys = [] := by
    cases ys with
    | nil => rfl
    | cons y r => simp [nts] at hl
  rw [h2] at h1
  exact h1.symm
theorem right_new (S : ByteArray) (E : Nat) : right S E 1 [] = (named S && decide (E ≠ 0)) := by
  unfold right
  simp [rise]
/-- The place of a UID, as the closure asks it. -/
theorem isUID_any (w : World) (g v : Nat) (u : Nat) (d f : Int) (A' : Option Addr) (n' c' : Nat) (hg : w.heap[g]? = some (.cells #[.int .u32 (v : Nat)] 22 (0, 0))) :
    Calls Tryd.prog 38 #[.agg #[.int .u32 u, .int .i64 d, .int .i64 f, .slice A' n' c'], .pointer (some ⟨g, 0, none⟩)] w fun e w' => e = .returned (.bool (decide (u = v))) ∧ Below w.heap.size w w' := by
  have h0 : Below w.heap.size w (w.alloc (.cells #[.int .u32 u, .int .i64 d, .int .i64 f, .slice A' n' c'] 30)) := (Below.refl _ _).alloc (Nat.le_refl _) _
  have hlt : g < w.heap.size := (Array.getElem?_eq_some_iff.1 hg).1
  have hg1 : (w.alloc (.cells #[.int .u32 u, .int .i64 d, .int .i64 f, .slice A' n' c'] 30)).heap[g]? = some (.cells #[.int .u32 (v : Nat)] 22 (0, 0)) := by rw [heap_alloc_old _ _ hlt]; exact hg
  have c0 := cell_at hg1 0 _ rfl
  have H0 := Lib.hid h0
  by_cases huv : u = v
  · have q : ((u : Int) == (v : Int)) = true := by rw [beq_iff_eq]; omega
    rw [decide_eq_true huv]
    clear hg hg1 hlt huv h0
    go_enter Tryd.func38, Tryd.ntmps38
    go_wp2
    go_ret
    exact ⟨by simp, H0.out⟩
  · have q : ((u : Int) == (v : Int)) = false := by rw [beq_eq_false_iff_ne]; omega
    rw [decide_eq_false huv]
    clear hg hg1 hlt huv h0
    go_enter Tryd.func38, Tryd.ntmps38
    go_wp2
    go_ret
    exact ⟨by simp, H0.out⟩
theorem at_any (W : World) (S : ByteArray) (E X v : Nat) (A : Option Addr) (n c : Nat) (qs : List Y) (hR : Rd cM 4 W A n qs) (hn : n ≤ 1000000) :
    Calls Tryd.prog 16 #[.agg #[.string S, .int .u32 E, .int .u32 X, .slice A n c], .int .u32 (v : Nat)] W fun e w' => e = .returned (.int .i64 (fr (fun n : Nt => decide (n.u = v)) (nts qs) 0)) ∧ Below W.heap.size W w' := by
  obtain ⟨W1, hW1⟩ : ∃ W1, W1 = (W.alloc (.cells #[.string S, .int .u32 E, .int .u32 X, .slice A n c] 25)).alloc (.cells #[.int .u32 (v : Nat)] 22) := ⟨_, rfl⟩
  have HBW := Lib.hid (show Below W.heap.size W W1 by rw [hW1]; exact ((Below.refl _ _).alloc (Nat.le_refl _) _).alloc (by simp) _)
  have hg : W1.heap[W.heap.size + 1]? = some (.cells #[.int .u32 (v : Nat)] 22 (0, 0)) := by rw [hW1]; have := heap_alloc_new (W.alloc (.cells #[.string S, .int .u32 E, .int .u32 X, .slice A n c] 25)) (.cells #[.int .u32 (v : Nat)] 22); simpa using this
  have HI := Lib.hid (indexA_any W1 A n c (W.heap.size + 1) qs (fun n => decide (n.u = v)) (hR.below HBW.out) hn (fun w' u d' f A' n' c' nt hb hh => by
    obtain ⟨rfl, rfl, rfl, rfl⟩ := hh
    exact isUID_any w' (W.heap.size + 1) v nt.u nt.d nt.f A' nt.o.length c' (by rw [hb.block _ (Array.getElem?_eq_some_iff.1 hg).1]; exact hg)))
  have hmf : ∀ (fn : Fn) (first cap : Array Value) (w : World), (Instr.makeFunc fn first cap).run Tryd.prog w = .ok (.func fn first cap) w := fun _ _ _ _ => rfl
  have HW1 := Lib.hid hW1
  clear hW1 hR hg
  go_enter Tryd.func16, Tryd.ntmps16
  go_wp2_with fail
  rw [← HW1.out]
  refine HI.out.mono ?_
  rintro e w1 ⟨rfl, hb⟩
  have HB1 := Lib.hid hb
  clear hb
  go_wp2_with fail
  go_ret
  exact ⟨rfl, HBW.out.trans (HB1.out.mono HBW.out.size)⟩
set_option maxHeartbeats 2000000 in
theorem new_no (W : World) (S : ByteArray) (E : Nat) (hs : S.size ≤ 100000) (hr : Fit W) (hq : (named S && decide (E ≠ 0)) = false) :
    Calls Tryd.prog 10 #[.string S, .int .u32 (E : Nat)] W fun e w' => e = .returned (.tuple #[.agg #[.string ⟨#[]⟩, .int .u32 0, .int .u32 0, .slice none 0 0], .int .i64 1]) ∧ Below W.heap.size W w' := by
  obtain ⟨W1, hW1⟩ : ∃ W1, W1 = (W.alloc (.cells #[.string ⟨#[]⟩, .int .u32 0, .int .u32 0, .slice none 0 0] 25)).alloc (.cells #[.string S, .int .u32 E, .int .u32 1, .slice none 0 0] 25) := ⟨_, rfl⟩
  have HBW := Lib.hid (show Below W.heap.size W W1 by rw [hW1]; exact ((Below.refl _ _).alloc (Nat.le_refl _) _).alloc (by simp) _)
  have HP1 := Lib.hid (fun (w' : World) (h : Below W1.heap.size W1 w') => show w'.heap[W.heap.size]? = some (.cells #[.string ⟨#[]⟩, .int .u32 0, .int .u32 0, .slice none 0 0] 25 (0, 0)) from (h.block _ (by rw [hW1]; simp; omega)).trans (by rw [hW1, heap_alloc_old _ _ (by simp)]; exact heap_alloc_new _ _))
  have HP2 := Lib.hid (fun (w' : World) (h : Below W1.heap.size W1 w') => show w'.heap[W.heap.size + 1]? = some (.cells #[.string S, .int .u32 E, .int .u32 1, .slice none 0 0] 25 (0, 0)) from (h.block _ (by rw [hW1]; simp)).trans (by rw [hW1]; have := heap_alloc_new (W.alloc (.cells #[.string ⟨#[]⟩, .int .u32 0, .int .u32 0, .slice none 0 0] 25)) (.cells #[.string S, .int .u32 E, .int .u32 1, .slice none 0 0] 25); simpa using this))
  have HR := Lib.hid (right_any W1 S E 1 none 0 0 [] (lg.Rd.empty _) (by decide) hs (hr.below HBW.out))
  have HO := Lib.hid (fun (w : World) => own_any w S E 1 none 0 0 [] (lg.Rd.empty _) (by decide) hs (by simp))
  have c0 := cell_at (HP2.out _ (Below.refl _ _)) 0 _ rfl
  have c1 := cell_at (HP2.out _ (Below.refl _ _)) 1 _ rfl
  have c2 := cell_at (HP2.out _ (Below.refl _ _)) 2 _ rfl
  have c3 := cell_at (HP2.out _ (Below.refl _ _)) 3 _ rfl
  have HW1 := Lib.hid hW1
  rw [hW1] at c0 c1 c2 c3
  clear hW1 hr hs
  rw [show nts [] = [] from rfl, right_new] at HR
  rw [hq] at HR
  go_enter Tryd.func10, Tryd.ntmps10
  go_wp2_with fail
  rw [← HW1.out]
  clear c0 c1 c2 c3
  refine HR.out.mono ?_
  rintro e w1 ⟨rfl, hb1⟩
  have hz := HP1.out _ hb1
  have HZ := Lib.hid hz
  have HB1 := Lib.hid (HBW.out.trans (hb1.mono HBW.out.size))
  have g0 := frozen_of_row _ _ 0 _ _ hz
  have g1 := frozen_of_row _ _ 1 _ _ hz
  have g2 := frozen_of_row _ _ 2 _ _ hz
  have g3 := frozen_of_row _ _ 3 _ _ hz
  have r0 := cell_at hz 0 _ rfl
  have r1 := cell_at hz 1 _ rfl
  have r2 := cell_at hz 2 _ rfl
  have r3 := cell_at hz 3 _ rfl
  clear hb1 hz
  go_wp2_with fail
  obtain ⟨k1, k2, k3⟩ := four HZ.out rfl (.string ⟨#[]⟩) (.int .u32 0) (.int .u32 0) (.slice none 0 0)
  refine bodyPost_ret (results_cell_tmp Tryd.results10 _ _ W.heap.size _ _ _ _ rfl k1 Tryd.underlying25 rfl (boxSize _ rfl)) rfl ⟨rfl, k3 _ _ HB1.out (Nat.le_refl _)⟩
set_option maxHeartbeats 2000000 in
theorem new_yes (W : World) (S : ByteArray) (E : Nat) (hs : S.size ≤ 100000) (hr : Fit W) (hq : (named S && decide (E ≠ 0)) = true) :
    Calls Tryd.prog 10 #[.string S, .int .u32 (E : Nat)] W fun e w' => ∃ A c, e = .returned (.tuple #[.agg #[.string S, .int .u32 E, .int .u32 1, .slice A 0 c], .int .i64 0]) ∧ Below W.heap.size W w' := by
  obtain ⟨W1, hW1⟩ : ∃ W1, W1 = (W.alloc (.cells #[.string ⟨#[]⟩, .int .u32 0, .int .u32 0, .slice none 0 0] 25)).alloc (.cells #[.string S, .int .u32 E, .int .u32 1, .slice none 0 0] 25) := ⟨_, rfl⟩
  have HBW := Lib.hid (show Below W.heap.size W W1 by rw [hW1]; exact ((Below.refl _ _).alloc (Nat.le_refl _) _).alloc (by simp) _)
  have HP1 := Lib.hid (fun (w' : World) (h : Below W1.heap.size W1 w') => show w'.heap[W.heap.size]? = some (.cells #[.string ⟨#[]⟩, .int .u32 0, .int .u32 0, .slice none 0 0] 25 (0, 0)) from (h.block _ (by rw [hW1]; simp; omega)).trans (by rw [hW1, heap_alloc_old _ _ (by simp)]; exact heap_alloc_new _ _))
  have HP2 := Lib.hid (fun (w' : World) (h : Below W1.heap.size W1 w') => show w'.heap[W.heap.size + 1]? = some (.cells #[.string S, .int .u32 E, .int .u32 1, .slice none 0 0] 25 (0, 0)) from (h.block _ (by rw [hW1]; simp)).trans (by rw [hW1]; have := heap_alloc_new (W.alloc (.cells #[.string ⟨#[]⟩, .int .u32 0, .int .u32 0, .slice none 0 0] 25)) (.cells #[.string S, .int .u32 E, .int .u32 1, .slice none 0 0] 25); simpa using this))
  have HR := Lib.hid (right_any W1 S E 1 none 0 0 [] (lg.Rd.empty _) (by decide) hs (hr.below HBW.out))
  have HO := Lib.hid (fun (w : World) => own_any w S E 1 none 0 0 [] (lg.Rd.empty _) (by decide) hs (by simp))
  have c0 := cell_at (HP2.out _ (Below.refl _ _)) 0 _ rfl
  have c1 := cell_at (HP2.out _ (Below.refl _ _)) 1 _ rfl
  have c2 := cell_at (HP2.out _ (Below.refl _ _)) 2 _ rfl
  have c3 := cell_at (HP2.out _ (Below.refl _ _)) 3 _ rfl
  have HW1 := Lib.hid hW1
  rw [hW1] at c0 c1 c2 c3
  clear hW1 hr hs
  rw [show nts [] = [] from rfl, right_new] at HR
  rw [hq] at HR
  go_enter Tryd.func10, Tryd.ntmps10
  go_wp2_with fail
  rw [← HW1.out]
  clear c0 c1 c2 c3
  refine HR.out.mono ?_
  rintro e w1 ⟨rfl, hb1⟩
  have c0 := cell_at (HP2.out _ hb1) 0 _ rfl
  have c1 := cell_at (HP2.out _ hb1) 1 _ rfl
  have c2 := cell_at (HP2.out _ hb1) 2 _ rfl
  have c3 := cell_at (HP2.out _ hb1) 3 _ rfl
  have HB1 := Lib.hid hb1
  clear hb1
  go_wp2_with fail
  clear c0 c1 c2 c3
  refine (HO.out w1).mono ?_
  rintro e w2 ⟨A, n, c, ys, rfl, ho, hl, -, hb2⟩
  obtain rfl := own_empty (l := []) ho hl
  have hb3 := HB1.out.trans (hb2.mono HB1.out.size)
  have hz := HP1.out _ hb3
  have HZ := Lib.hid hz
  have HB2 := Lib.hid (HBW.out.trans (hb3.mono HBW.out.size))
  have g0 := frozen_of_row _ _ 0 _ _ hz
  have g1 := frozen_of_row _ _ 1 _ _ hz
  have g2 := frozen_of_row _ _ 2 _ _ hz
  have g3 := frozen_of_row _ _ 3 _ _ hz
  have r0 := cell_at hz 0 _ rfl
  have r1 := cell_at hz 1 _ rfl
  have r2 := cell_at hz 2 _ rfl
  have r3 := cell_at hz 3 _ rfl
  clear hb2 hb3 ho hl hz
  go_wp2_with fail
  obtain ⟨k1, k2, k3⟩ := four HZ.out rfl (.string S) (.int .u32 (E : Nat)) (.int .u32 1) (.slice A 0 c)
  refine bodyPost_ret (results_cell_tmp Tryd.results10 _ _ W.heap.size _ _ _ _ rfl k1 Tryd.underlying25 rfl (boxSize _ rfl)) rfl ⟨A, c, rfl, k3 _ _ HB2.out (Nat.le_refl _)⟩
theorem named_a : named ⟨#[97]⟩ = true := by decide +kernel
set_option maxHeartbeats 1000000 in
theorem awake_any (W : World) (hr : Fit W) :
    Calls Tryd.prog 8 #[] W fun e w' => e = .returned (.bool true) ∧ Below W.heap.size W w' := by
  have hN := new_yes W ⟨#[97]⟩ 1 (by decide) hr (by rw [named_a]; rfl)
  have HN := Lib.hid hN
  have HA := Lib.hid (fun (w : World) (A : Option Addr) (c : Nat) => at_any w ⟨#[97]⟩ 1 1 1 A 0 c [] ⟨rfl, fun k hk => by omega⟩ (by decide))
  rw [show fr (fun n : Nt => decide (n.u = 1)) (nts []) 0 = -1 from rfl] at HA
  clear hN hr
  go_enter Tryd.func8, Tryd.ntmps8
  go_wp2_with (first
    | (go_at_call 10; refine HN.out.mono ?_; rintro e w1 ⟨A, c, rfl, hb1⟩; have HB1 := Lib.hid hb1; clear hb1)
    | (go_at_call 16; refine (HA.out _ A c).mono ?_; rintro e w2 ⟨rfl, hb2⟩; have HB2 := Lib.hid hb2; clear hb2))
  go_ret
  exact ⟨rfl, HB1.out.trans ((boxed HB2.out).2.mono HB1.out.size)⟩
end Go.Proofs.YtepngemlaiffgaaDoor.mal
