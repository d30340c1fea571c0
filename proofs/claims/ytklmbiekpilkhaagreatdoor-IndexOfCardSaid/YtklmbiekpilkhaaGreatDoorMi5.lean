/- The index of a log: plain mathematics. -/
import Derived.Test.YtklmbiekpilkhaaGreatDoorMl1
import Derived.Test.YtklmbiekpilkhaaGreatDoorMi1
import Derived.Test.YtklmbiekpilkhaaGreatDoorMi4
import Derived.Test.YtklmbiekpilkhaaGreatDoorMl2
import Derived.Deep.RegionHeld3
import Derived.Deep.DeepCutAuto
namespace Go.Proofs.YtklmbiekpilkhaaGreatDoor.idx
open Go.Proofs.YtklmbiekpilkhaaGreatDoor.lg (Nt pick livB pick_yes pick_no cl stp epo lives cl_snoc cl_false)
set_option linter.unusedVariables false
set_option linter.unusedSimpArgs false

/-- Where the last record begins that says such a message. -/
def hits (E u : Nat) (x : Nt × Nat) : Prop := x.1.k = 2 ∧ x.1.e = E ∧ x.1.u = u
instance (E u : Nat) (x : Nt × Nat) : Decidable (hits E u x) := by unfold hits; infer_instance
def plc (E u : Nat) (l : List (Nt × Nat)) : Int := l.foldl (fun a x => if hits E u x then (x.2 : Int) else a) (-1)
theorem plc_snoc (E u : Nat) (l : List (Nt × Nat)) (x : Nt × Nat) : plc E u (l ++ [x]) = if hits E u x then (x.2 : Int) else plc E u l := by simp [plc]
theorem plc_skip {E u : Nat} : ∀ (l : List (Nt × Nat)) (a : Int), (∀ x ∈ l, ¬ hits E u x) → l.foldl (fun a x => if hits E u x then (x.2 : Int) else a) a = a
  | [], a, h => rfl
  | x :: r, a, h => by
    rw [List.foldl_cons, if_neg (h x (by simp))]
    exact plc_skip r a fun y hy => h y (by simp [hy])
theorem plc_at {E u : Nat} {l : List (Nt × Nat)} {j : Nat} {x : Nt × Nat} (hx : l[j]? = some x) (hh : hits E u x) (hn : ∀ (i : Nat) (y : Nt × Nat), j < i → l[i]? = some y → ¬ hits E u y) : plc E u l = x.2 := by
  have e : l = l.take j ++ (x :: l.drop (j + 1)) := by
    conv => lhs; rw [← List.take_append_drop (j + 1) l, take_next hx, List.append_assoc]
    rfl
  rw [e]
  unfold plc
  rw [List.foldl_append, List.foldl_cons, if_pos hh]
  refine plc_skip _ _ fun y hy => ?_
  obtain ⟨i, hi⟩ := List.mem_iff_getElem?.1 hy
  rw [List.getElem?_drop] at hi
  exact hn (j + 1 + i) y (by omega) hi
theorem pick_has {α : Type} {l : List α} {b : Nat → Bool} {x : α} : ∀ (n j : Nat), j < n → l[j]? = some x → b j = true → x ∈ pick l b n
  | n + 1, j, hj, hx, hb => by
    rcases Nat.lt_succ_iff_lt_or_eq.1 hj with h | rfl
    · have := pick_has n j h hx hb
      cases hbn : b n with
      | false => rw [pick_no hbn]; exact this
      | true =>
        cases hl : l[n]? with
        | none =>
          have h1 := (List.getElem?_eq_some_iff.1 hx).1
          unfold pick
          rw [hl]
          first | exact this | (split <;> first | exact this | simp_all)
        | some y => rw [pick_yes hl hbn]; simp [this]
    · rw [pick_yes hx hb]
      simp
theorem pick_from {α : Type} {l : List α} {b : Nat → Bool} {x : α} : ∀ (n : Nat), n ≤ l.length → x ∈ pick l b n → ∃ j, j < n ∧ l[j]? = some x ∧ b j = true
  | 0, _, h => by simp [pick] at h
  | n + 1, hn, h => by
    have hl : l[n]? = some l[n] := List.getElem?_eq_getElem (by omega)
    cases hb : b n with
    | false =>
      rw [pick_no hb] at h
      obtain ⟨j, h1, h2⟩ := pick_from n (by omega) h
      exact ⟨j, by omega, h2⟩
    | true =>
      rw [pick_yes hl hb, List.mem_append] at h
      rcases h with h | h
      · obtain ⟨j, h1, h2⟩ := pick_from n (by omega) h
        exact ⟨j, by omega, h2⟩
      · simp at h
        subst h
        exact ⟨n, by omega, hl, hb⟩
theorem pick_pair {α : Type} {R : α → α → Prop} {l : List α} {b : Nat → Bool} {x y : α} : ∀ (n i j : Nat), n ≤ l.length → (pick l b n).Pairwise R → i < j → j < n → l[i]? = some x → l[j]? = some y → b i = true → b j = true → R x y
  | 0, i, j, _, _, _, hj, _, _, _, _ => by omega
  | n + 1, i, j, hn, hp, hij, hj, hx, hy, hbi, hbj => by
    have hl : l[n]? = some l[n] := List.getElem?_eq_getElem (by omega)
    rcases Nat.lt_succ_iff_lt_or_eq.1 hj with h | rfl
    · cases hb : b n with
      | false =>
        rw [pick_no hb] at hp
        exact pick_pair n i j (by omega) hp hij h hx hy hbi hbj
      | true =>
        rw [pick_yes hl hb, List.pairwise_append] at hp
        exact pick_pair n i j (by omega) hp.1 hij h hx hy hbi hbj
    · rw [pick_yes hy hbj, List.pairwise_append] at hp
      exact hp.2.2 x (pick_has j i hij hx hbi) y (by simp)
/-- Live messages of a clean log: their epoch, and that their UIDs rise. -/
theorem clean_at : ∀ (L : List Nt) (E : Nat) (st : Nat × Bool), (L.foldl (stp E) st).2 = true → st.2 = true ∧ (∀ t ∈ L, t.e = E ∧ st.1 < t.u) ∧ L.Pairwise (fun a b => a.u < b.u)
  | [], E, st, h => ⟨h, by simp, List.Pairwise.nil⟩
  | t :: r, E, st, h => by
    obtain ⟨h1, h2, h3⟩ := clean_at r E _ h
    simp only [stp, Bool.and_eq_true, decide_eq_true_eq] at h1
    refine ⟨h1.1, ?_, List.pairwise_cons.2 ⟨fun y hy => (h2 y hy).2, h3⟩⟩
    intro y hy
    rcases List.mem_cons.1 hy with rfl | hy
    · exact ⟨h1.2.1, h1.2.2.1⟩
    · have := (h2 y hy).2
      have h4 := h1.2.2.1
      exact ⟨(h2 y hy).1, Nat.lt_trans h4 this⟩
theorem live_kind {l : List Nt} {i : Nat} {t : Nt} (ht : l[i]? = some t) (h : livB l i = true) : t.k = 2 ∧ ∀ (j : Nat) (q : Nt), i < j → l[j]? = some q → ¬ (q.k = 3 ∧ q.e = t.e ∧ q.u = t.u) := by
  unfold livB at h
  rw [ht] at h
  simp only [lg.gone, Bool.not_eq_true', Bool.or_eq_false_iff, decide_eq_false_iff_not, List.any_eq_false, decide_eq_true_eq] at h
  refine ⟨Classical.not_not.1 h.1, fun j q hj hq hh => ?_⟩
  refine h.2 q ?_ hh
  rw [List.mem_iff_getElem?]
  exact ⟨j - (i + 1), by rw [List.getElem?_drop, show i + 1 + (j - (i + 1)) = j by omega]; exact hq⟩
theorem kind_live {l : List Nt} {i : Nat} {t : Nt} (ht : l[i]? = some t) (h2 : t.k = 2) (hn : ∀ (j : Nat) (q : Nt), i < j → l[j]? = some q → ¬ (q.k = 3 ∧ q.e = t.e ∧ q.u = t.u)) : livB l i = true := by
  unfold livB
  rw [ht]
  simp only [lg.gone, Bool.not_eq_true', Bool.or_eq_false_iff, decide_eq_false_iff_not, List.any_eq_false, decide_eq_true_eq]
  refine ⟨fun h => h h2, fun q hq => ?_⟩
  obtain ⟨j, hj⟩ := List.mem_iff_getElem?.1 hq
  rw [List.getElem?_drop] at hj
  exact hn _ q (by omega) hj
/-- The place of a live message of a clean log is where its record begins. -/
theorem live_place {nps : List (Nt × Nat)} {ns : List Nt} (hns : ns = nps.map Prod.fst) (hcl : (cl (epo ns) (lives ns)).2 = true) {x : Nt × Nat} (hx : x ∈ pick nps (livB ns) nps.length) : plc (epo ns) x.1.u nps = x.2 := by
  obtain ⟨j, hj, hxj, hb⟩ := pick_from _ (Nat.le_refl _) hx
  have hnj : ns[j]? = some x.1 := by rw [hns, List.getElem?_map, hxj]; rfl
  have hlen : ns.length = nps.length := by rw [hns, List.length_map]
  obtain ⟨-, he, hp⟩ := clean_at _ _ _ hcl
  obtain ⟨h2, h3⟩ := live_kind hnj hb
  have hmem : x.1 ∈ lives ns := pick_has _ j (by omega) hnj hb
  have hE := (he _ hmem).1
  refine plc_at hxj ⟨h2, hE, rfl⟩ fun i y hij hy hh => ?_
  have hni : ns[i]? = some y.1 := by rw [hns, List.getElem?_map, hy]; rfl
  have hi := (List.getElem?_eq_some_iff.1 hni).1
  have hbi : livB ns i = true := kind_live hni hh.1 fun k q hk hq hc => h3 k q (by omega) hq ⟨hc.1, by rw [hc.2.1, hh.2.1, hE], by rw [hc.2.2, hh.2.2]⟩
  have := pick_pair ns.length j i (Nat.le_refl _) hp hij hi hnj hni hb hbi
  rw [hh.2.2] at this
  exact Nat.lt_irrefl _ this
end Go.Proofs.YtklmbiekpilkhaaGreatDoor.idx
namespace Go.Proofs.YtklmbiekpilkhaaGreatDoor.idx
open Go.ChangeShapes Go.WideShapes Go.ChangeAt Go.RowKit
open Go.Proofs.YtklmbiekpilkhaaGreatDoor.row (Own Fm Fm.len boxed grown_below step_append_own)
open Go.Proofs.YtklmbiekpilkhaaGreatDoor.lg (Y Nt cL nts)
set_option linter.unusedVariables false
set_option maxRecDepth 100000
set_option linter.unusedSimpArgs false

def eI (y : Y) : E := ⟨y.n.u, (y.p : Int)⟩
def fI (y : Y) : E := ⟨y.n.u, y.n.f⟩
theorem results_two {P : Program} {fn : Func} {p q : Tmp} {ty ty' : TypeId} (h : fn.results = #[.cell p ty, .cell q ty']) (tmps : Array Value) (w : World) (g g' : Nat) (t t' : TypeId) (cs cs' : Array Value) (fr fr' : Nat × Nat) (d d' : TypeDesc)
    (hp : tmps.getD p undef = .pointer (some ⟨g, 0, none⟩)) (hg : w.heap[g]? = some (.cells cs t fr))
    (hu : P.underlying ty = some d) (hd : (match d with | .struct _ | .array _ _ => true | _ => false) = true) (hi : (P.info? ty).map (·.size) = some cs.size)
    (hq : tmps.getD q undef = .pointer (some ⟨g', 0, none⟩)) (hg' : w.heap[g']? = some (.cells cs' t' fr'))
    (hu' : P.underlying ty' = some d') (hd' : (match d' with | .struct _ | .array _ _ => true | _ => false) = true) (hi' : (P.info? ty').map (·.size) = some cs'.size) :
    (results fn tmps).run P w = .ok (.tuple #[.agg cs, .agg cs']) w := by
  have hp' : tmps[p]?.getD undef = .pointer (some ⟨g, 0, none⟩) := by simpa using hp
  have hq' : tmps[q]?.getD undef = .pointer (some ⟨g', 0, none⟩) := by simpa using hq
  simp [results, h, hp', hq', asAddr, run_loadVar_row w g t ty cs fr d hg hu hd hi, run_loadVar_row w g' t' ty' cs' fr' d' hg' hu' hd' hi']
def zX : Array Value := #[.string ⟨#[]⟩, .int .u32 0, .int .u32 0, .int .i64 0, .slice none 0 0]
def zF : Array Value := #[.int .u32 0, .slice none 0 0]
def cLog (nm : ByteArray) (e x : Nat) (A : Option Addr) (n c : Nat) (t : Nat) (b : Bool) : Array Value := #[.string nm, .int .u32 (e : Nat), .int .u32 (x : Nat), .slice A n c, .int .i64 (t : Nat), .bool b]
theorem three (W : World) (a b c : Obj) : (((W.alloc a).alloc b).alloc c).heap[W.heap.size + 1]? = some b ∧ (((W.alloc a).alloc b).alloc c).heap[W.heap.size + 1 + 1]? = some c ∧ Below W.heap.size W (((W.alloc a).alloc b).alloc c) := by
  have s1 : (W.alloc a).heap.size = W.heap.size + 1 := by simp
  have s2 : ((W.alloc a).alloc b).heap.size = W.heap.size + 1 + 1 := by simp
  refine ⟨?_, ?_, (((Below.refl _ _).alloc (Nat.le_refl _) _).alloc (by simp) _).alloc (by simp; omega) _⟩
  · rw [← s1]
    exact (Below.heap_alloc _ _ _ (by simp)).trans (heap_alloc_new (W.alloc a) b)
  · rw [← s2]
    exact heap_alloc_new ((W.alloc a).alloc b) c
set_option maxHeartbeats 2000000 in
theorem of_none (W : World) (nm : ByteArray) (e0 x0 : Nat) (A : Option Addr) (n c : Nat) (t0 : Nat) (cl : Bool) (h : cl = false ∨ nm = ⟨#[]⟩) :
    Calls Tryz.prog 12 #[.agg #[.string nm, .int .u32 e0, .int .u32 x0, .slice A n c, .int .i64 t0, .bool cl]] W fun e w' => e = .returned (.tuple #[.agg zX, .agg zF]) ∧ Below W.heap.size W w' := by
  cases cl
  · clear h
    go_enter Tryz.func12, Tryz.ntmps12
    go_wp2_with fail
    refine bodyPost_ret (results_two Tryz.results12 _ _ (W.heap.size + 1) (W.heap.size + 1 + 1) _ _ _ _ _ _ _ _ rfl (three W _ _ _).1 Tryz.underlying27 rfl (sizeX _ rfl) rfl (three W _ _ _).2.1 Tryz.underlying33 rfl (sizeF _ rfl)) rfl ⟨rfl, (three W _ _ _).2.2⟩
  · obtain rfl : nm = ⟨#[]⟩ := by rcases h with h | h; cases h; exact h
    clear h
    go_enter Tryz.func12, Tryz.ntmps12
    go_wp2_with fail
    refine bodyPost_ret (results_two Tryz.results12 _ _ (W.heap.size + 1) (W.heap.size + 1 + 1) _ _ _ _ _ _ _ _ rfl (three W _ _ _).1 Tryz.underlying27 rfl (sizeX _ rfl) rfl (three W _ _ _).2.1 Tryz.underlying33 rfl (sizeF _ rfl)) rfl ⟨rfl, (three W _ _ _).2.2⟩
/-- The index at p4 and the flags at p5, whose rows are the call's own and apart. -/
structure FS (W1 : World) (B p4 p5 : Nat) (nm : ByteArray) (e0 x0 t0 : Nat) (l1 l2 : List E) (v1 v2 : Value) (w : World) : Prop where
  hx : w.heap[p4]? = some (.cells #[.string nm, .int .u32 (e0 : Nat), .int .u32 (x0 : Nat), .int .i64 (t0 : Nat), v1] 27 (0, 0))
  hf : w.heap[p5]? = some (.cells #[.int .u32 (e0 : Nat), v2] 33 (0, 0))
  o1 : Own cE 2 B 64 w v1 l1
  o2 : Own cE 2 B 66 w v2 l2
  ap : ∀ g, v1.ownBlock = some g → v2.ownBlock ≠ some g
  be : Below W1.heap.size W1 w
  ne : p4 ≠ p5
  b4 : p4 < B
  b5 : p5 < B
  w4 : W1.heap.size ≤ p4
  w5 : W1.heap.size ≤ p5
  sz : B ≤ w.heap.size
theorem FS.below {W1 : World} {B p4 p5 : Nat} {nm : ByteArray} {e0 x0 t0 : Nat} {l1 l2 : List E} {v1 v2 : Value} {w w' : World} (h : FS W1 B p4 p5 nm e0 x0 t0 l1 l2 v1 v2 w) (hb : Below w.heap.size w w') : FS W1 B p4 p5 nm e0 x0 t0 l1 l2 v1 v2 w' :=
  ⟨(hb.block _ (Nat.lt_of_lt_of_le h.b4 h.sz)).trans h.hx, (hb.block _ (Nat.lt_of_lt_of_le h.b5 h.sz)).trans h.hf, h.o1.below hb, h.o2.below hb, h.ap, h.be.trans (hb.mono h.be.size), h.ne, h.b4, h.b5, h.w4, h.w5, Nat.le_trans h.sz hb.size⟩
theorem own_set {B b j : Nat} {E0 : TypeId} {w : World} {v u : Value} {l : List E} (h : Own cE 2 B E0 w v l) (hb : b < B) : Own cE 2 B E0 (w.setCell ⟨b, j, none⟩ u) v l :=
  h.touch ((codec.Touch.refl (fun i => i = b) w).setCell ⟨b, j, none⟩ (.inr rfl) u) (fun g e hg => by have := (h.lt e).1; omega)
theorem below_grown {W1 w w' : World} {B : Nat} {E0 : TypeId} {v : Value} {l : List E} (hb : Below W1.heap.size W1 w) (ho : Own cE 2 B E0 w v l) (hB : W1.heap.size ≤ B) (hg : w.grownBy w' v.ownBlock) : Below W1.heap.size W1 w' :=
  hb.trans ⟨hg.os, hg.tape, hg.output, hg.size, fun k hk => hg.block k (Nat.lt_of_lt_of_le hk hb.size) (fun e => by have := (ho.lt e.symm).1; omega)⟩
theorem FS.first {W1 : World} {B p4 p5 : Nat} {nm : ByteArray} {e0 x0 t0 : Nat} {l1 l1' l2 : List E} {v1 v1' v2 : Value} {w w' : World} (h : FS W1 B p4 p5 nm e0 x0 t0 l1 l2 v1 v2 w) (ho : Own cE 2 B 64 w' v1' l1') (hg : w.grownBy w' v1.ownBlock) (hat : v1'.ownBlock = v1.ownBlock ∨ ∃ g, v1'.ownBlock = some g ∧ w.heap.size ≤ g) :
    w'.heap[p4]? = some (.cells #[.string nm, .int .u32 (e0 : Nat), .int .u32 (x0 : Nat), .int .i64 (t0 : Nat), v1] 27 (0, 0)) ∧ FS W1 B p4 p5 nm e0 x0 t0 l1' l2 v1' v2 (w'.setCell ⟨p4, 4, none⟩ v1') := by
  have hne : ∀ b, b < B → w'.heap[b]? = w.heap[b]? := fun b hb => hg.block b (Nat.lt_of_lt_of_le hb h.sz) (fun e => by have := (h.o1.lt e.symm).1; omega)
  have e4 := (hne p4 h.b4).trans h.hx
  refine ⟨e4, ⟨by rw [heap_setCell_same _ _ _ _ _ _ e4]; rfl, by rw [heap_setCell_other _ _ _ _ (Ne.symm h.ne)]; exact (hne p5 h.b5).trans h.hf, own_set ho h.b4, own_set (h.o2.grown hg fun b e => h.ap b e) h.b4, fun g e => ?_, (below_grown h.be h.o1 (by have := h.w4; have := h.b4; omega) hg).setCell (p := ⟨p4, 4, none⟩) h.w4 _, h.ne, h.b4, h.b5, h.w4, h.w5, by have := h.sz; have := hg.size; simp; omega⟩⟩
  rcases hat with ha | ⟨g', ha, hg'⟩
  · exact h.ap g (ha ▸ e)
  · rw [ha] at e
    cases e
    intro e2
    have := (h.o2.lt e2).2
    omega
theorem FS.second {W1 : World} {B p4 p5 : Nat} {nm : ByteArray} {e0 x0 t0 : Nat} {l1 l2 l2' : List E} {v1 v2 v2' : Value} {w w' : World} (h : FS W1 B p4 p5 nm e0 x0 t0 l1 l2 v1 v2 w) (ho : Own cE 2 B 66 w' v2' l2') (hg : w.grownBy w' v2.ownBlock) (hat : v2'.ownBlock = v2.ownBlock ∨ ∃ g, v2'.ownBlock = some g ∧ w.heap.size ≤ g) :
    w'.heap[p5]? = some (.cells #[.int .u32 (e0 : Nat), v2] 33 (0, 0)) ∧ FS W1 B p4 p5 nm e0 x0 t0 l1 l2' v1 v2' (w'.setCell ⟨p5, 1, none⟩ v2') := by
  have hne : ∀ b, b < B → w'.heap[b]? = w.heap[b]? := fun b hb => hg.block b (Nat.lt_of_lt_of_le hb h.sz) (fun e => by have := (h.o2.lt e.symm).1; omega)
  have e5 := (hne p5 h.b5).trans h.hf
  refine ⟨e5, ⟨by rw [heap_setCell_other _ _ _ _ h.ne]; exact (hne p4 h.b4).trans h.hx, by rw [heap_setCell_same _ _ _ _ _ _ e5]; rfl, own_set (h.o1.grown hg fun b e e2 => h.ap b e2 e) h.b5, own_set ho h.b5, fun g e e2 => ?_, (below_grown h.be h.o2 (by have := h.w4; have := h.b4; omega) hg).setCell (p := ⟨p5, 1, none⟩) h.w5 _, h.ne, h.b4, h.b5, h.w4, h.w5, by have := h.sz; have := hg.size; simp; omega⟩⟩
  rcases hat with ha | ⟨g', ha, hg'⟩
  · exact h.ap g e (ha ▸ e2)
  · rw [ha] at e2
    cases e2
    have := (h.o1.lt e).2
    omega
set_option maxHeartbeats 4000000 in
theorem of_some (W : World) (nm : ByteArray) (e0 x0 : Nat) (A : Option Addr) (n c : Nat) (t0 : Nat) (zs : List Y) (hR : lg.Rd cL 6 W A n zs) (hn : n ≤ 1000000) (hnm : nm.size ≤ 100000) (hne : nm ≠ ⟨#[]⟩) :
    Calls Tryz.prog 12 #[.agg #[.string nm, .int .u32 e0, .int .u32 x0, .slice A n c, .int .i64 t0, .bool true]] W fun e w' => ∃ v1 v2, e = .returned (.tuple #[.agg #[.string nm, .int .u32 e0, .int .u32 x0, .int .i64 t0, v1], .agg #[.int .u32 e0, v2]]) ∧ Own cE 2 W.heap.size 64 w' v1 (zs.map eI) ∧ Own cE 2 W.heap.size 66 w' v2 (zs.map fI) ∧ Below W.heap.size W w' := by
  have HR := Lib.hid hR
  have hbe : (nm.toList == ([] : List UInt8)) = false := by
    have := rd.str_ne hne
    rw [ByteArray.toList_eq] at this ⊢
    exact this
  clear hR hne
  --OFSOME
  obtain ⟨W1, hW1⟩ : ∃ W1, W1 = ((W.alloc (.cells #[.string nm, .int .u32 (e0 : Nat), .int .u32 (x0 : Nat), .slice A n c, .int .i64 (t0 : Nat), .bool true] 48)).alloc (.cells #[.string ⟨#[]⟩, .int .u32 0, .int .u32 0, .int .i64 0, .slice none 0 0] 27)).alloc (.cells #[.int .u32 0, .slice none 0 0] 33) := ⟨_, rfl⟩
  obtain ⟨g1, g2, g3⟩ := three W (.cells #[.string nm, .int .u32 (e0 : Nat), .int .u32 (x0 : Nat), .slice A n c, .int .i64 (t0 : Nat), .bool true] 48 (0, 0)) (.cells #[.string ⟨#[]⟩, .int .u32 0, .int .u32 0, .int .i64 0, .slice none 0 0] 27 (0, 0)) (.cells #[.int .u32 0, .slice none 0 0] 33 (0, 0))
  have g0 : W1.heap[W.heap.size]? = some (.cells #[.string nm, .int .u32 (e0 : Nat), .int .u32 (x0 : Nat), .slice A n c, .int .i64 (t0 : Nat), .bool true] 48 (0, 0)) := by
    rw [hW1]
    exact (Below.heap_alloc _ _ _ (by simp; omega)).trans ((Below.heap_alloc _ _ _ (by simp)).trans (heap_alloc_new W _))
  rw [← hW1] at g1 g2 g3
  have HG0 := Lib.hid g0
  have HG1 := Lib.hid g1
  have HG2 := Lib.hid g2
  have HBW := Lib.hid g3
  have HB0 := Lib.hid (show W.heap.size + 1 + 1 < W1.heap.size by rw [hW1]; simp)
  have HW1 := Lib.hid hW1
  clear g0 g1 g2 g3 hW1
  go_enter Tryz.func12, Tryz.ntmps12
  go_upto_region 3 with (fail)
  rw [← HW1.out]
  generalize hr1 : W.heap.size + 1 = r1 at *
  have Hr1 := Lib.hid hr1
  clear hr1
  go_cut [4] (fun s4 wx => ∃ p, s4 = .pointer (some ⟨p, 0, none⟩) ∧ Hid (wx.heap[p]? = some (.cells #[.string nm, .int .u32 (e0 : Nat), .int .u32 (x0 : Nat), .int .i64 (t0 : Nat), .slice none 0 0] 27 (0, 0)) ∧ Below W1.heap.size W1 wx ∧ W1.heap.size ≤ p))
  case first =>
    have HD := Lib.hid (show W1.drew.heap[W.heap.size]? = some (.cells #[.string nm, .int .u32 (e0 : Nat), .int .u32 (x0 : Nat), .slice A n c, .int .i64 (t0 : Nat), .bool true] 48 (0, 0)) from HG0.out)
    have HB4 := Lib.hid (show Below W1.heap.size W1 W1.drew from codec.below_draws (Below.refl _ _) 1)
    go_wp2_with fail
    refine wp_region_noPanic ?_
    refine wp_region_held_drew (S := fun w' => w'.heap[W.heap.size]? = some (.cells #[.string nm, .int .u32 (e0 : Nat), .int .u32 (x0 : Nat), .slice A n c, .int .i64 (t0 : Nat), .bool true] 48 (0, 0))) (by kernel_rfl) HD.out (fun hHeld => ?_)
    clear HD
    generalize W1.drew = w4 at *
    refine wpAnyH_take (i := 0) (v := ?_) rfl (by kernel_rfl) (by kernel_rfl) (by kernel_rfl) (fun _ _ _ h => h) (Or.inl ⟨by kernel_rfl, ?_⟩) hHeld ?_
    rotate_left
    · (intro w' hw'; go_simp; first | done | with_reducible rfl)
    refine wpAnyH_take (i := 1) (v := ?_) rfl (by kernel_rfl) (by kernel_rfl) (by kernel_rfl) (fun _ _ _ h => h) (Or.inl ⟨by kernel_rfl, ?_⟩) hHeld ?_
    rotate_left
    · (intro w' hw'; have a0 := cell_at hw' 0 _ rfl; have a1 := cell_at hw' 1 _ rfl; have a2 := cell_at hw' 2 _ rfl; have a4 := cell_at hw' 4 _ rfl; go_simp; first | done | with_reducible rfl)
    refine wpAnyH_take (i := 3) (v := ?_) rfl (by kernel_rfl) (by kernel_rfl) (by kernel_rfl) (fun _ _ _ h => h) (Or.inl ⟨by kernel_rfl, ?_⟩) hHeld ?_
    rotate_left
    · (intro w' hw'; go_simp; first | done | with_reducible rfl)
    refine wpAnyH_take (i := 4) (v := ?_) rfl (by kernel_rfl) (by kernel_rfl) (by kernel_rfl) (fun _ _ _ h => h) (Or.inl ⟨by kernel_rfl, ?_⟩) hHeld ?_
    rotate_left
    · (intro w' hw'; have a0 := cell_at hw' 0 _ rfl; have a1 := cell_at hw' 1 _ rfl; have a2 := cell_at hw' 2 _ rfl; have a4 := cell_at hw' 4 _ rfl; go_simp; first | done | with_reducible rfl)
    refine wpAnyH_take (i := 5) (v := ?_) rfl (by kernel_rfl) (by kernel_rfl) (by kernel_rfl) (fun _ _ _ h => h) (Or.inl ⟨by kernel_rfl, ?_⟩) hHeld ?_
    rotate_left
    · (intro w' hw'; go_simp; first | done | with_reducible rfl)
    refine wpAnyH_take (i := 6) (v := ?_) rfl (by kernel_rfl) (by kernel_rfl) (by kernel_rfl) (fun _ _ _ h => h) (Or.inl ⟨by kernel_rfl, ?_⟩) hHeld ?_
    rotate_left
    · (intro w' hw'; have a0 := cell_at hw' 0 _ rfl; have a1 := cell_at hw' 1 _ rfl; have a2 := cell_at hw' 2 _ rfl; have a4 := cell_at hw' 4 _ rfl; go_simp; first | done | with_reducible rfl)
    refine wpAnyH_take (i := 7) (v := ?_) rfl (by kernel_rfl) (by kernel_rfl) (by kernel_rfl) (fun _ _ _ h => h) (Or.inl ⟨by kernel_rfl, ?_⟩) hHeld ?_
    rotate_left
    · (intro w' hw'; go_simp; first | done | with_reducible rfl)
    refine wpAnyH_take (i := 8) (v := ?_) rfl (by kernel_rfl) (by kernel_rfl) (by kernel_rfl) (fun _ _ _ h => h) (Or.inl ⟨by kernel_rfl, ?_⟩) hHeld ?_
    rotate_left
    · (intro w' hw'; have a0 := cell_at hw' 0 _ rfl; have a1 := cell_at hw' 1 _ rfl; have a2 := cell_at hw' 2 _ rfl; have a4 := cell_at hw' 4 _ rfl; go_simp; first | done | with_reducible rfl)
    refine wpAnyH_ready (rs := [2, 10]) (by kernel_rfl) (by simp) ?_
    refine AllReadyH.cons rfl (fun K hK => ?_) (AllReadyH.cons rfl (fun K hK => ?_) AllReadyH.nil)
    · go_simp
      refine (nam.clone_any w4 nm hnm).mono ?_
      rintro e w5 ⟨rfl, hb5⟩
      have hH5 := (hb5.block _ (Array.getElem?_eq_some_iff.1 hHeld).1).trans hHeld
      have HB5 := Lib.hid (HB4.out.trans (hb5.mono HB4.out.size))
      clear hb5
      go_wp2_with fail
      refine hK.out _ _ hH5 (fun _ => ?_)
      clear hK K
      refine wpAnyH_take (i := 9) (v := ?_) rfl (by kernel_rfl) (by kernel_rfl) (by kernel_rfl) (fun _ _ _ h => h) (Or.inl ⟨by kernel_rfl, ?_⟩) hH5 ?_
      rotate_left
      · (intro w' hw'; go_simp; first | done | with_reducible rfl)
      refine wpAnyH_ready (rs := [10]) (by kernel_rfl) (by simp) ?_
      refine AllReadyH.cons rfl (fun K hK => ?_) AllReadyH.nil
      go_simp
      refine hK.out _ _ ((Below.heap_alloc _ _ _ (Array.getElem?_eq_some_iff.1 hH5).1).trans hH5) (fun hH6 => ?_)
      clear hK K
      refine wpAnyH_ready (rs := [11]) (by kernel_rfl) (by simp) ?_
      refine AllReadyH.cons rfl (fun K hK => ?_) AllReadyH.nil
      go_simp
      refine hK.out _ _ ((Below.heap_alloc _ _ _ (Array.getElem?_eq_some_iff.1 hH5).1).trans hH5) (fun hH7 => ?_)
      clear hK K
      refine wpAnyH_done (by kernel_rfl) ?_ _
      refine NoPanic.normal ?_
      go_simp
      go_wp2_with fail
      go_meet
      exact ⟨w5.heap.size, rfl, Lib.hid ⟨heap_alloc_new w5 _, HB5.out.alloc HB5.out.size _, HB5.out.size⟩⟩
    · go_simp
      have hb5 : Below w4.heap.size w4 (w4.alloc (.cells #[.string ⟨#[]⟩, .int .u32 0, .int .u32 0, .int .i64 0, .slice none 0 0] 27)) := (Below.refl _ _).alloc (Nat.le_refl _) _
      have hH5 := (hb5.block _ (Array.getElem?_eq_some_iff.1 hHeld).1).trans hHeld
      have h5 := heap_alloc_new w4 (.cells #[.string ⟨#[]⟩, .int .u32 0, .int .u32 0, .int .i64 0, .slice none 0 0] 27 (0, 0))
      have HB5 := Lib.hid (HB4.out.trans (hb5.mono HB4.out.size))
      have HP5 := Lib.hid HB4.out.size
      refine hK.out _ _ hH5 (fun _ => ?_)
      clear hK K hb5
      generalize w4.alloc (.cells #[.string ⟨#[]⟩, .int .u32 0, .int .u32 0, .int .i64 0, .slice none 0 0] 27) = w5 at *
      generalize w4.heap.size = p5 at *
      refine wpAnyH_ready (rs := [2]) (by kernel_rfl) (by simp) ?_
      refine AllReadyH.cons rfl (fun K hK => ?_) AllReadyH.nil
      go_simp
      refine (nam.clone_any w5 nm hnm).mono ?_
      rintro e w6 ⟨rfl, hb6⟩
      have hH6 := (hb6.block _ (Array.getElem?_eq_some_iff.1 hH5).1).trans hH5
      have h6 := (hb6.block _ (Array.getElem?_eq_some_iff.1 h5).1).trans h5
      have HB6 := Lib.hid (HB5.out.trans (hb6.mono HB5.out.size))
      clear hb6
      go_wp2_with fail
      refine hK.out _ _ hH6 (fun _ => ?_)
      clear hK K
      refine wpAnyH_take (i := 9) (v := ?_) rfl (by kernel_rfl) (by kernel_rfl) (by kernel_rfl) (fun _ _ _ h => h) (Or.inl ⟨by kernel_rfl, ?_⟩) hH6 ?_
      rotate_left
      · (intro w' hw'; go_simp; first | done | with_reducible rfl)
      have k0 := cell_at h6 0 _ rfl
      have f0 := frozen_of_row _ _ 0 _ _ h6
      have k1 := cell_at h6 1 _ rfl
      have f1 := frozen_of_row _ _ 1 _ _ h6
      have k2 := cell_at h6 2 _ rfl
      have f2 := frozen_of_row _ _ 2 _ _ h6
      have k3 := cell_at h6 3 _ rfl
      have f3 := frozen_of_row _ _ 3 _ _ h6
      have k4 := cell_at h6 4 _ rfl
      have f4 := frozen_of_row _ _ 4 _ _ h6
      have h7 := five h6 rfl (.string nm) (.int .u32 (e0 : Nat)) (.int .u32 (x0 : Nat)) (.int .i64 (t0 : Nat)) (.slice none 0 0)
      refine wpAnyH_ready (rs := [11]) (by kernel_rfl) (by simp) ?_
      refine AllReadyH.cons rfl (fun K hK => ?_) AllReadyH.nil
      go_simp
      refine hK.out _ _ ((h7.2.1 _ (by have := HP5.out; have := HB0.out; have := Hr1.out; omega)).trans hH6) (fun hH7 => ?_)
      clear hK K
      refine wpAnyH_done (by kernel_rfl) ?_ _
      refine NoPanic.normal ?_
      go_simp
      clear k0 k1 k2 k3 k4 f0 f1 f2 f3 f4
      go_wp2_with fail
      go_meet
      exact ⟨p5, rfl, Lib.hid ⟨h7.1, h7.2.2 _ _ HB6.out HP5.out, HP5.out⟩⟩
  case rest =>
    obtain ⟨p4, rfl, HX⟩ := hcut
    have hlog := (HX.out.2.1.block _ (Array.getElem?_eq_some_iff.1 HG0.out).1).trans HG0.out
    have l1 := cell_at hlog 1 _ rfl
    have l3 : (wc.alloc (.cells #[.int .u32 (e0 : Nat), .slice none 0 0] 33)).cell? ⟨W.heap.size, 3, none⟩ = some (.slice A n c) := Lib.cell?_alloc_some _ (cell_at hlog 3 _ rfl)
    have hxp : p4 < wc.heap.size := (Array.getElem?_eq_some_iff.1 HX.out.1).1
    have HFS0 : Hid (FS W1 (wc.heap.size + 1) p4 wc.heap.size nm e0 x0 t0 [] [] (.slice none 0 0) (.slice none 0 0) (wc.alloc (.cells #[.int .u32 (e0 : Nat), .slice none 0 0] 33))) := Lib.hid
      ⟨(Below.heap_alloc _ _ _ hxp).trans HX.out.1, heap_alloc_new wc _, Own.nil _ _ _ _ _, Own.nil _ _ _ _ _, (fun g e => by cases e), HX.out.2.1.alloc HX.out.2.1.size _, by omega, by omega, by omega, HX.out.2.2, HX.out.2.1.size, by simp⟩
    clear hlog hxp
    go_wp2_with fail
    generalize wc.alloc (.cells #[.int .u32 (e0 : Nat), .slice none 0 0] 33) = wd at *
    have Hwc := Lib.hid (show W1.heap.size ≤ wc.heap.size from HX.out.2.1.size)
    clear l1 l3
    generalize wc.heap.size = p5 at *
    clear HX
    go_loopw [34] (fun i wr => ∃ k : Nat, k ≤ n ∧ i = .int .i64 k ∧ Hid (∃ v1 v2, FS W1 (p5 + 1) p4 p5 nm e0 x0 t0 ((zs.take k).map eI) ((zs.take k).map fI) v1 v2 wr)) (fun i _ => n - (intOf i).toNat)
    case atStart => exact ⟨0, Nat.zero_le _, rfl, Lib.hid ⟨_, _, HFS0.out⟩⟩
    case round =>
      obtain ⟨k, hk, rfl, HS⟩ := hrel
      obtain ⟨v1, v2, hs⟩ := HS.out
      by_cases hlt : k < n
      · obtain ⟨b, o, ⟨⟨tk, te, ts, tu, td, tf, to_⟩, a, A', m', c'⟩, rfl, hy, c0, c1, c2, c3, c4, c5, -⟩ := (HR.out.below (HBW.out.trans (hs.be.mono HBW.out.size))).at6 k hlt
        simp only at c0 c1 c2 c3 c4 c5
        have hlt' : (k : Int) < (n : Int) := by omega
        have HT1 := Lib.hid (take_next (map_at eI hy))
        have HT2 := Lib.hid (take_next (map_at fI hy))
        simp only [eI, fI] at HT1 HT2
        obtain ⟨cs, hcs⟩ : ∃ cs : Array Value, cs = #[.int .u32 (tu : Nat), .int .i64 td, .int .i64 tf, .slice A' m' c', .int .u32 (te : Nat), .int .i64 (a : Nat)] := ⟨_, rfl⟩
        have HSa := Lib.hid (hs.below ((Below.refl _ wr).alloc (Nat.le_refl _) (.cells cs 86)))
        have hcx := cell_at HSa.out.hx 4 _ rfl
        have HLV := Lib.hid (heap_alloc_new wr (.cells cs 86 (0, 0)))
        have HLt := Lib.hid (show ∀ g, v1.ownBlock = some g → g < wr.heap.size from fun g e => (hs.o1.lt e).2)
        have HP4 := Lib.hid (show p4 < wr.heap.size from Nat.lt_of_lt_of_le hs.b4 hs.sz)
        have HL1 : Hid (((zs.take k).map eI).length ≤ 20000000) := Lib.hid (by rw [List.length_map, List.length_take]; omega)
        have HL2 : Hid (((zs.take k).map fI).length ≤ 20000000) := Lib.hid (by rw [List.length_map, List.length_take]; omega)
        have HCS := Lib.hid hcs
        rw [hcs] at hcx
        clear hy hs HS hcs
        go_wp2_with (first
          | (at_builtin; rw [← HCS.out]; refine row.wpList_append_own fE (by decide) (by decide) (by_ := 16) (by decide) (z := .agg #[.int .u32 0, .int .i64 0]) rfl rfl (.tmp 39) (.tmp 46) 25 64 rfl Tryz.underlying25 infoE (p5 + 1) v1 _ rfl HSa.out.o1 HSa.out.sz HL1.out ⟨tu, (a : Int)⟩ (0, 0) _ (by simp) rfl _ rfl ?_; intro v1n w7 ho7 hg7 hat7; obtain ⟨A7, m7, k7, hv7⟩ : ∃ A7 m7 k7, v1n = .slice A7 m7 k7 := (by obtain ⟨A7, k7, hv7, -⟩ := ho7.rd fE; exact ⟨_, _, _, hv7⟩); subst hv7; obtain ⟨e4, fs7⟩ := HSa.out.first ho7 hg7 hat7; have s4 := cell_at e4 4 v1 rfl; have t4 := frozen_of_row _ _ 4 _ _ e4; have HF7 := Lib.hid fs7; have y1 := cell_at fs7.hf 1 _ rfl; have hl7 : (w7.setCell ⟨p4, 4, none⟩ (.slice A7 m7 k7)).heap[wr.heap.size]? = some (.cells cs 86 (0, 0)) := (by rw [heap_setCell_other _ _ _ _ (by have := HP4.out; show wr.heap.size ≠ p4; omega), hg7.block _ (by simp) (fun e => by have := HLt.out _ e.symm; omega)]; exact HLV.out); rw [HCS.out] at hl7; have z0 := cell_at hl7 0 _ rfl; have z2 := cell_at hl7 2 _ rfl; clear ho7 hg7 hat7 e4 fs7 hl7 hcx)
          | (at_builtin; refine row.wpList_append_own fE (by decide) (by decide) (by_ := 16) (by decide) (z := .agg #[.int .u32 0, .int .i64 0]) rfl rfl (.tmp 50) (.tmp 58) 31 66 rfl Tryz.underlying31 infoK (p5 + 1) v2 _ rfl HF7.out.o2 HF7.out.sz HL2.out ⟨tu, tf⟩ (0, 0) _ (by simp) rfl _ rfl ?_; intro v2n w9 ho9 hg9 hat9; obtain ⟨A9, m9, k9, hv9⟩ : ∃ A9 m9 k9, v2n = .slice A9 m9 k9 := (by obtain ⟨A9, k9, hv9, -⟩ := ho9.rd fE; exact ⟨_, _, _, hv9⟩); subst hv9; obtain ⟨e5, fs9⟩ := HF7.out.second ho9 hg9 hat9; have s5 := cell_at e5 1 v2 rfl; have t5 := frozen_of_row _ _ 1 _ _ e5; have HF9 := Lib.hid (show ∃ v1 v2, FS W1 (p5 + 1) p4 p5 nm e0 x0 t0 ((zs.take (k + 1)).map eI) ((zs.take (k + 1)).map fI) v1 v2 _ from ⟨_, _, by rw [List.map_take, List.map_take, HT1.out, HT2.out, ← List.map_take, ← List.map_take]; exact fs9⟩); clear ho9 hg9 hat9 e5 fs9 s4 t4 y1 z0 z2))
        go_roundw
        case rel => first | exact ⟨k + 1, by omega, by go_num, HF9⟩ | ((repeat apply Exists.intro); exact ⟨⟨k + 1, by omega, by go_num, HF9⟩, rfl⟩)
        case measure => (show n - ((k : Int) + 1).toNat < n - k; omega)
      · obtain rfl : k = n := by omega
        obtain ⟨A1, k1, hv1, -, -, -⟩ := hs.o1.rd fE
        obtain ⟨A2, k2, hv2, -, -, -⟩ := hs.o2.rd fE
        generalize ((zs.take k).map eI).length = m1 at hv1
        generalize ((zs.take k).map fI).length = m2 at hv2
        subst hv1 hv2
        have hz : zs.take k = zs := List.take_of_length_le (by rw [HR.out.1]; omega)
        rw [hz] at hs
        have HF := Lib.hid hs
        have h9 := (hs.be.block _ (show r1 < W1.heap.size by have := HB0.out; omega)).trans HG1.out
        have h10 := (hs.be.block _ HB0.out).trans HG2.out
        have HNE := Lib.hid (show r1 < p4 ∧ r1 + 1 < p4 ∧ r1 < p5 ∧ r1 + 1 < p5 from by have := HB0.out; have := hs.w4; have := hs.w5; omega)
        have q0 := cell_at h9 0 _ rfl
        have u0 := frozen_of_row _ _ 0 _ _ h9
        have q1 := cell_at h9 1 _ rfl
        have u1 := frozen_of_row _ _ 1 _ _ h9
        have q2 := cell_at h9 2 _ rfl
        have u2 := frozen_of_row _ _ 2 _ _ h9
        have q3 := cell_at h9 3 _ rfl
        have u3 := frozen_of_row _ _ 3 _ _ h9
        have q4 := cell_at h9 4 _ rfl
        have u4 := frozen_of_row _ _ 4 _ _ h9
        have q5 := cell_at h10 0 _ rfl
        have u5 := frozen_of_row _ _ 0 _ _ h10
        have q6 := cell_at h10 1 _ rfl
        have u6 := frozen_of_row _ _ 1 _ _ h10
        have HD := Lib.hid (show wr.drew.heap[p4]? = some (.cells #[.string nm, .int .u32 (e0 : Nat), .int .u32 (x0 : Nat), .int .i64 (t0 : Nat), .slice A1 m1 k1] 27 (0, 0)) ∧ wr.drew.heap[p5]? = some (.cells #[.int .u32 (e0 : Nat), .slice A2 m2 k2] 33 (0, 0)) ∧ wr.drew.heap[r1]? = some (.cells #[.string ⟨#[]⟩, .int .u32 0, .int .u32 0, .int .i64 0, .slice none 0 0] 27 (0, 0)) ∧ wr.drew.heap[r1 + 1]? = some (.cells #[.int .u32 0, .slice none 0 0] 33 (0, 0)) from ⟨hs.hx, hs.hf, h9, h10⟩)
        have HFd := Lib.hid (hs.below (codec.below_draws (Below.refl _ _) 1))
        change Hid (FS W1 (p5 + 1) p4 p5 nm e0 x0 t0 (zs.map eI) (zs.map fI) (.slice A1 m1 k1) (.slice A2 m2 k2) wr.drew) at HFd
        clear hs HS hz h9 h10 HF q0 q1 q2 q3 q4 q5 q6 u0 u1 u2 u3 u4 u5 u6
        go_wp2_with fail
        refine wp_region_noPanic ?_
        refine wp_region_held_drew (S := fun w' => w'.heap[p4]? = some (.cells #[.string nm, .int .u32 (e0 : Nat), .int .u32 (x0 : Nat), .int .i64 (t0 : Nat), .slice A1 m1 k1] 27 (0, 0)) ∧ w'.heap[p5]? = some (.cells #[.int .u32 (e0 : Nat), .slice A2 m2 k2] 33 (0, 0))) (by kernel_rfl) ⟨HD.out.1, HD.out.2.1⟩ (fun hHeld => ?_)
        generalize wr.drew = wq at *
        refine wpAnyH_take (i := 0) (v := ?_) rfl (by kernel_rfl) (by kernel_rfl) (by kernel_rfl) (fun _ _ _ h => h) (Or.inl ⟨by kernel_rfl, ?_⟩) hHeld ?_
        rotate_left
        · (intro w' hw'; have a0 := cell_at hw'.1 0 _ rfl; have a1 := cell_at hw'.1 1 _ rfl; have a2 := cell_at hw'.1 2 _ rfl; have a3 := cell_at hw'.1 3 _ rfl; have a4 := cell_at hw'.1 4 _ rfl; go_simp; first | done | with_reducible rfl)
        refine wpAnyH_take (i := 1) (v := ?_) rfl (by kernel_rfl) (by kernel_rfl) (by kernel_rfl) (fun _ _ _ h => h) (Or.inl ⟨by kernel_rfl, ?_⟩) hHeld ?_
        rotate_left
        · (intro w' hw'; have a5 := cell_at hw'.2 0 _ rfl; have a6 := cell_at hw'.2 1 _ rfl; go_simp; first | done | with_reducible rfl)
        obtain ⟨-, -, h9, h10⟩ := HD.out
        have q0 := cell_at h9 0 _ rfl
        have u0 := frozen_of_row _ _ 0 _ _ h9
        have q1 := cell_at h9 1 _ rfl
        have u1 := frozen_of_row _ _ 1 _ _ h9
        have q2 := cell_at h9 2 _ rfl
        have u2 := frozen_of_row _ _ 2 _ _ h9
        have q3 := cell_at h9 3 _ rfl
        have u3 := frozen_of_row _ _ 3 _ _ h9
        have q4 := cell_at h9 4 _ rfl
        have u4 := frozen_of_row _ _ 4 _ _ h9
        have h7 := five h9 rfl (.string nm) (.int .u32 (e0 : Nat)) (.int .u32 (x0 : Nat)) (.int .i64 (t0 : Nat)) (.slice A1 m1 k1)
        refine wpAnyH_ready (rs := [2]) (by kernel_rfl) (by simp) ?_
        refine AllReadyH.cons rfl (fun K hK => ?_) AllReadyH.nil
        go_simp
        refine hK.out _ _ ⟨(h7.2.1 _ (by have := HNE.out; omega)).trans hHeld.1, (h7.2.1 _ (by have := HNE.out; omega)).trans hHeld.2⟩ (fun hH1 => ?_)
        clear hK K q0 q1 q2 q3 q4 u0 u1 u2 u3 u4
        have h11 := (h7.2.1 (r1 + 1) (by omega)).trans h10
        obtain ⟨wz, hwz⟩ : ∃ wz, wz = ((((wq.setCell ⟨r1, 0, none⟩ (.string nm)).setCell ⟨r1, 1, none⟩ (.int .u32 (e0 : Nat))).setCell ⟨r1, 2, none⟩ (.int .u32 (x0 : Nat))).setCell ⟨r1, 3, none⟩ (.int .i64 (t0 : Nat))).setCell ⟨r1, 4, none⟩ (.slice A1 m1 k1) := ⟨_, rfl⟩
        rw [← hwz] at h7 h11 hH1 ⊢
        clear hwz
        have q5 := cell_at h11 0 _ rfl
        have u5 := frozen_of_row _ _ 0 _ _ h11
        have q6 := cell_at h11 1 _ rfl
        have u6 := frozen_of_row _ _ 1 _ _ h11
        have h8 := twoC h11 rfl (.int .u32 (e0 : Nat)) (.slice A2 m2 k2)
        refine wpAnyH_ready (rs := [3]) (by kernel_rfl) (by simp) ?_
        refine AllReadyH.cons rfl (fun K hK => ?_) AllReadyH.nil
        go_simp
        refine hK.out _ _ ⟨(h8.2.1 _ (by have := HNE.out; omega)).trans hH1.1, (h8.2.1 _ (by have := HNE.out; omega)).trans hH1.2⟩ (fun hH2 => ?_)
        clear hK K q5 q6 u5 u6
        refine wpAnyH_done (by kernel_rfl) ?_ _
        refine NoPanic.normal ?_
        go_simp
        go_wp2_with fail
        have hbase : W.heap.size ≤ p5 + 1 := by have := HBW.out.size; have := HFd.out.w5; omega
        have hr1 : r1 ≥ W.heap.size := by have := Hr1.out; omega
        have hpp : ∀ g, p5 + 1 ≤ g → ¬ g = r1 ∧ ¬ g = r1 + 1 := fun g hg => by have := HNE.out; omega
        have o1 := own_other (own_other (own_mono HFd.out.o1 (Nat.le_refl _)) h7.2.1 (fun g e => (hpp g (HFd.out.o1.lt e).1).1)) h8.2.1 (fun g e => (hpp g (HFd.out.o1.lt e).1).2)
        have o2 := own_other (own_other (own_mono HFd.out.o2 (Nat.le_refl _)) h7.2.1 (fun g e => (hpp g (HFd.out.o2.lt e).1).1)) h8.2.1 (fun g e => (hpp g (HFd.out.o2.lt e).1).2)
        have hbel := h8.2.2 _ _ (h7.2.2 _ _ (HBW.out.trans (HFd.out.be.mono HBW.out.size)) hr1) (by omega)
        exact bodyPost_ret (results_two Tryz.results12 _ _ r1 (r1 + 1) _ _ _ _ _ _ _ _ rfl ((h8.2.1 r1 (by omega)).trans h7.1) Tryz.underlying27 rfl (sizeX _ rfl) rfl h8.1 Tryz.underlying33 rfl (sizeF _ rfl)) rfl ⟨.slice A1 m1 k1, .slice A2 m2 k2, rfl, own_mono o1 hbase, own_mono o2 hbase, hbel⟩
end Go.Proofs.YtklmbiekpilkhaaGreatDoor.idx
