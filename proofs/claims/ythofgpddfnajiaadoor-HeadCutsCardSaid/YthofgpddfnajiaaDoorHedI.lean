/- The value of a head's field. -/
import Derived.Test.YthofgpddfnajiaaDoorHedH
import Derived.Test.YthofgpddfnajiaaDoorHedT
namespace Go.Proofs.YthofgpddfnajiaaDoor.hd
open Go.ChangeShapes Go.WideShapes Go.ChangeAt Go.RowKit Go.Shelf
open Go.Proofs.YthofgpddfnajiaaDoor.codec (Bytes vals run_append_bytes)
set_option linter.unusedVariables false
set_option maxRecDepth 100000
set_option linter.unusedSimpArgs false

attribute [local go_sem] Oper.semAt_some
/-- What a line does to what has been found. -/
def stepF (nm : ByteArray) (s : Bool × List Nat) (x : List Nat) : Bool × List Nat :=
  if s.1 then (true, s.2 ++ x) else match parseL x with
  | some (a, b) => if sameB a nm then (true, s.2 ++ b) else s
  | none => s
def stopB (s : Bool × List Nat) (x : List Nat) : Bool := s.1 && !goB x
def goF (nm : ByteArray) (pre : List (List Nat)) : Option (Bool × List Nat) := pre.foldl (fun o x => o.bind fun s => if stopB s x then none else some (stepF nm s x)) (some (false, []))
theorem goF_snoc (nm : ByteArray) (pre : List (List Nat)) (x : List Nat) : goF nm (pre ++ [x]) = (goF nm pre).bind fun s => if stopB s x then none else some (stepF nm s x) := by
  unfold goF
  rw [List.foldl_append]
  rfl
def runF (nm : ByteArray) : Bool × List Nat → List (List Nat) → Bool × List Nat
  | s, [] => s
  | s, x :: r => if stopB s x then s else runF nm (stepF nm s x) r
theorem run_none (nm : ByteArray) : ∀ pre : List (List Nat), pre.foldl (fun o x => o.bind fun s => if stopB s x then none else some (stepF nm s x)) none = none
  | [] => rfl
  | x :: r => run_none nm r
theorem run_go (nm : ByteArray) : ∀ (pre r : List (List Nat)) (s0 s : Bool × List Nat), pre.foldl (fun o x => o.bind fun s => if stopB s x then none else some (stepF nm s x)) (some s0) = some s → runF nm s0 (pre ++ r) = runF nm s r
  | [], r, s0, s, h => by cases h; rfl
  | x :: p, r, s0, s, h => by
    rw [List.foldl_cons, Option.bind_some] at h
    rw [List.cons_append, runF]
    by_cases hs : stopB s0 x = true
    · rw [if_pos hs, run_none] at h
      cases h
    · rw [if_neg hs] at h ⊢
      exact run_go nm p r _ s h
theorem goF_run {nm : ByteArray} {pre r : List (List Nat)} {s : Bool × List Nat} (h : goF nm pre = some s) : runF nm (false, []) (pre ++ r) = runF nm s r := run_go nm pre r _ s h
/-- Between two lines. -/
def FS (W0 : World) (nm : ByteArray) (s : Bool × List Nat) (W : World) : Prop :=
  ∃ v, W.heap[W0.heap.size]? = some (.cells #[.string nm] 9 (0, 0)) ∧ W.heap[W0.heap.size + 1]? = some (.cells #[v] 22 (0, 0)) ∧ W.heap[W0.heap.size + 2]? = some (.cells #[.bool s.1] 4 (0, 0)) ∧ W.ownsRow (W0.heap.size + 3) 5 1 v s.2.length (vals s.2) ∧ (∀ b ∈ s.2, b < 256) ∧ Below W0.heap.size W0 W ∧ W0.heap.size + 3 ≤ W.heap.size
theorem row_stays {W W' : World} {B : Nat} {e : TypeId} {k n : Nat} {v : Value} {xs : List Value} {r : Option Nat} (h : W.ownsRow B e k v n xs) (hg : W.grownBy W' r) (hr : ∀ j, r = some j → ∃ o : Obj, W.heap[j]? = some o ∧ o.isCells = false) : W'.ownsRow B e k v n xs := by
  refine World.ownsRow.kept h hg ?_
  cases hr' : r with
  | none => cases hb : v.ownBlock <;> simp
  | some b =>
    right
    intro e'
    obtain ⟨o, ho, hc⟩ := hr b hr'
    rcases h.2 with ⟨rfl, _⟩ | ⟨g, cap, cur, rfl, _, hgc, _⟩
    · cases e'
    · have : g = b := by simpa [Value.ownBlock] using e'
      subst this
      rw [hgc] at ho
      cases ho
      simp [Obj.isCells] at hc
theorem cells_stay {W W' : World} {b : Nat} {cs : Array Value} {t : TypeId} {m : Nat × Nat} {r : Option Nat} (h : W.heap[b]? = some (.cells cs t m)) (hg : W.grownBy W' r) (hr : ∀ j, r = some j → ∃ o : Obj, W.heap[j]? = some o ∧ o.isCells = false) : W'.heap[b]? = some (.cells cs t m) := by
  rw [hg.block b (Array.getElem?_eq_some_iff.1 h).1 (fun e => by
    obtain ⟨o, ho, hc⟩ := hr b e.symm
    rw [h] at ho
    cases ho
    simp [Obj.isCells] at hc)]
  exact h
theorem FS.stays {W0 : World} {nm : ByteArray} {s : Bool × List Nat} {W W' : World} {r : Option Nat} (h : FS W0 nm s W) (hg : W.grownBy W' r) (hr : ∀ j, r = some j → W0.heap.size + 3 ≤ j ∧ ∃ o : Obj, W.heap[j]? = some o ∧ o.isCells = false) : FS W0 nm s W' := by
  obtain ⟨v, h1, h2, h3, h4, h5, h6, h7⟩ := h
  have hr' : ∀ j, r = some j → ∃ o : Obj, W.heap[j]? = some o ∧ o.isCells = false := fun j e => (hr j e).2
  exact ⟨v, cells_stay h1 hg hr', cells_stay h2 hg hr', cells_stay h3 hg hr', row_stays h4 hg hr', h5, h6.grown hg (by omega) (fun k e => by have := (hr k e).1; omega), Nat.le_trans h7 hg.size⟩
theorem FS.own (W0 : World) (nm : ByteArray) {β : Type} (R : β → Bool × List Nat → Prop) (B : Nat) (hB : W0.heap.size + 3 ≤ B) : OwnFrom B (fun (x : β) W => ∃ s, R x s ∧ FS W0 nm s W) := by
  rintro x W W' row ⟨s, hs, hF⟩ hg hr
  exact ⟨s, hs, hF.stays hg (fun j e => ⟨Nat.le_trans hB (hr j e).1, (hr j e).2⟩)⟩
theorem FS.below {W0 : World} {nm : ByteArray} {s : Bool × List Nat} {W W' : World} (h : FS W0 nm s W) (hb : Below W.heap.size W W') : FS W0 nm s W' :=
  h.stays (r := none) (grown_of hb) (fun j e => by cases e)
theorem keeps_of {W W' : World} (hb : Below W.heap.size W W') : KeepsOthers W W' := KeepsOthers.of_grownBy (row := none) (grown_of hb) (fun j o e => by cases e)
theorem FS.find {W0 : World} {nm : ByteArray} {v : List Nat} {W : World} {s : Bool} (h : FS W0 nm (s, v) W) : FS W0 nm (true, v) (W.setCell ⟨W0.heap.size + 2, 0, none⟩ (.bool true)) := by
  obtain ⟨u, h1, h2, h3, h4, h5, h6, h7⟩ := h
  have hg : W.grownBy (W.setCell ⟨W0.heap.size + 2, 0, none⟩ (.bool true)) (some (W0.heap.size + 2)) := ⟨rfl, rfl, rfl, by simp, fun k _ hne => heap_setCell_other _ _ _ _ (fun e => hne (by rw [e]))⟩
  refine ⟨u, by rw [heap_setCell_other _ _ _ _ (by simp)]; exact h1, by rw [heap_setCell_other _ _ _ _ (by simp)]; exact h2, by rw [heap_setCell_same _ _ _ _ _ _ h3]; rfl, World.ownsRow.kept h4 hg ?_, h5, h6.setCell (p := ⟨W0.heap.size + 2, 0, none⟩) (by show W0.heap.size ≤ W0.heap.size + 2; omega) _, by simpa using h7⟩
  right
  intro e
  have := (World.ownsRow.lt h4 _ e).1
  omega
theorem FS.put {W0 : World} {nm : ByteArray} {v x : List Nat} {W w' : World} {s : Bool} {u u' : Value} (h : FS W0 nm (s, v) W) (hu : W.heap[W0.heap.size + 1]? = some (.cells #[u] 22 (0, 0))) (hx : ∀ b ∈ x, b < 256)
    (ho : w'.ownsRow (W0.heap.size + 3) 5 1 u' (v ++ x).length (vals (v ++ x))) (hg : W.grownBy w' u.ownBlock) :
    FS W0 nm (s, v ++ x) (w'.setCell ⟨W0.heap.size + 1, 0, none⟩ u') ∧ KeepsOthers W (w'.setCell ⟨W0.heap.size + 1, 0, none⟩ u') ∧ Below W0.heap.size W (w'.setCell ⟨W0.heap.size + 1, 0, none⟩ u') ∧ w'.heap[W0.heap.size + 1]? = some (.cells #[u] 22 (0, 0)) := by
  obtain ⟨u2, h1, h2, h3, h4, h5, h6, h7⟩ := h
  rw [hu] at h2
  obtain rfl : u = u2 := by simpa using h2
  have hlt : ∀ j, u.ownBlock = some j → W0.heap.size + 3 ≤ j := fun j e => (World.ownsRow.lt h4 _ e).1
  have hk : ∀ (k : Nat) (o : Obj), W.heap[k]? = some o → k < W0.heap.size + 3 → w'.heap[k]? = some o := fun k o hk hl => by
    rw [hg.block k (Array.getElem?_eq_some_iff.1 hk).1 (fun e => by have := hlt k e.symm; omega)]
    exact hk
  have hg2 : w'.grownBy (w'.setCell ⟨W0.heap.size + 1, 0, none⟩ u') (some (W0.heap.size + 1)) := ⟨rfl, rfl, rfl, by simp, fun k _ hne => heap_setCell_other _ _ _ _ (fun e => hne (by rw [e]))⟩
  have hb : Below W0.heap.size W w' := ⟨hg.os, hg.tape, hg.output, hg.size, fun k hk => hg.block k (by omega) (fun e => by have := hlt k e.symm; omega)⟩
  refine ⟨⟨u', by rw [heap_setCell_other _ _ _ _ (by simp)]; exact hk _ _ h1 (by omega), by rw [heap_setCell_same _ _ _ _ _ _ (hk _ _ hu (by omega))]; rfl, by rw [heap_setCell_other _ _ _ _ (by simp)]; exact hk _ _ h3 (by omega), World.ownsRow.kept ho hg2 ?_, fun b hb => ?_, (h6.trans hb).setCell (p := ⟨W0.heap.size + 1, 0, none⟩) (by show W0.heap.size ≤ W0.heap.size + 1; omega) _, ?_⟩, ?_, hb.setCell (p := ⟨W0.heap.size + 1, 0, none⟩) (by show W0.heap.size ≤ W0.heap.size + 1; omega) _, hk _ _ hu (by omega)⟩
  · right
    intro e
    have := (World.ownsRow.lt ho _ e).1
    omega
  · rcases List.mem_append.1 hb with h | h
    · exact h5 b h
    · exact hx b h
  · have := hg.size
    simp
    omega
  · refine (KeepsOthers.of_grownBy hg (fun j o e ho' => ?_)).trans (KeepsOthers.setCell _ _ _)
    rcases h4.2 with ⟨rfl, _⟩ | ⟨g, cap, cur, rfl, _, hgc, _⟩
    · cases e
    · have : g = j := by simpa [Value.ownBlock] using e
      subst this
      rw [hgc] at ho'
      cases ho'
      rfl
theorem wpListIn_append_bytes {F : Fence} {n : Nat} {ops : Array Oper} {rest : List Oper} {o : Oper} {a : Act} {w : World} {Q : Exit → Act → World → Prop} (hgd : o.guard = none) (s x : Operand)
    (ho : o.op = .call { callee := .builtin .append, args := #[s, x], argTypes := #[22, 22] })
    (base : Nat) (v : Value) (M : List Nat) (hs : a.eval s = v) (hown : w.ownsRow base 5 1 v M.length (vals M)) (hbase : base ≤ w.heap.size)
    (A : Option Addr) (m c : Nat) (L : List Nat) (hx : a.eval x = .slice A m c) (hB : Bytes w A m L) (hnil : A = none → c = 0) (hbound : M.length + m ≤ 1000000000)
    (hK : ∀ v' w', w'.ownsRow base 5 1 v' (M ++ L).length (vals (M ++ L)) → w.grownBy w' v.ownBlock → (v' = .slice none 0 0 ↔ v = .slice none 0 0 ∧ m = 0) → wpListIn F n Tryd.prog ops Q rest (a.put o.dst v') w') : wpListIn F n Tryd.prog ops Q (o :: rest) a w := by
  refine wpListIn_plain hgd fun K hK' => ?_
  obtain ⟨v', w', hrun, r1, r2, r3, r4⟩ := run_append_bytes w o.type base v M hown hbase A m c L hB hnil hbound
  unfold Oper.wpIn
  refine ⟨?_, ?_⟩
  · simp [Oper.about, ho, resolve, Target.leads, Sem.run_pure]
  · rw [Oper.semAt_plain F _ _ (by rw [ho]; intro c hc'; cases hc')]
    simp [execOp, ho, resolve, invoke, builtin, hs, hx, hrun, Result.andThen]
    exact hK' _ _ (hK v' w' r1 r2 r3)
theorem lines_in (n : Nat) (A : Option Addr) (N c : Nat) (w : World) :
    CallsIn Fence.wide n Tryd.prog 11 #[.slice A N c] w fun e w' => e = .returned (.func (.func 18) #[] #[.pointer (some ⟨w.heap.size, 0, none⟩)]) ∧ w' = w.alloc (.cells #[.slice A N c] 22) := by
  refine callsIn_of_wp Tryd.func11 rfl trivial ?_ rfl
  simp only [Tryd.ntmps11, List.size_toArray, List.length_cons, List.length_nil, Nat.reduceAdd, Nat.reduceSub, Array.replicate_succ, Array.replicate_zero, List.push_toArray, List.append_toArray, List.nil_append, List.cons_append]
  gi_wp2
  go_ret
  exact ⟨rfl, rfl⟩
end Go.Proofs.YthofgpddfnajiaaDoor.hd
