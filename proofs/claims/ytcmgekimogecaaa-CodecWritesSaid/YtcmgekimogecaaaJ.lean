/- Items as bytes; the state of what is put, item by item. -/
import Derived.Test.YtcmgekimogecaaaF
import Derived.Test.YtcmgekimogecaaaI
namespace Go.Proofs.Ytcmgekimogecaaa.codec
open Go.ChangeShapes Go.WideShapes Go.ChangeAt Go.RowKit
set_option linter.unusedVariables false
set_option linter.unusedSimpArgs false

/-- The bytes of an item. -/
def encItem (x : Item) : List Nat := if x.kind < 3 then bytesOf x.v.toNat x.size.toNat else if x.kind = 3 then bytesOf x.len 2 ++ x.b else x.b
def FitsItem (x : Item) : Prop := (x.kind < 3 → Fits x.v x.size) ∧ (x.kind = 3 → x.len ≤ 65535)
def encAll (L : List Item) : List Nat := L.flatMap encItem
theorem encAll_take (L : List Item) (k : Nat) (hk : k < L.length) : encAll (L.take (k + 1)) = encAll (L.take k) ++ encItem (L.getD k default) := by
  have : L.take (k + 1) = L.take k ++ [L.getD k default] := by
    rw [List.take_add_one]
    simp [List.getD, hk]
  rw [this]
  simp [encAll]
theorem encAll_drop (L : List Item) (k : Nat) (hk : k < L.length) : encAll (L.drop k) = encItem (L.getD k default) ++ encAll (L.drop (k + 1)) := by
  have : L.drop k = L[k] :: L.drop (k + 1) := List.drop_eq_getElem_cons hk
  unfold encAll
  rw [this, List.flatMap_cons]
  simp [List.getD, hk]
theorem fits_take (L : List Item) (k : Nat) (hk : k < L.length) (h : ∀ x ∈ L.take k, FitsItem x) (hx : FitsItem (L.getD k default)) : ∀ x ∈ L.take (k + 1), FitsItem x := by
  have : L.take (k + 1) = L.take k ++ [L.getD k default] := by
    rw [List.take_add_one]
    simp [List.getD, hk]
  rw [this]
  intro x hxm
  rcases List.mem_append.1 hxm with h1 | h1
  · exact h x h1
  · rw [List.mem_singleton.1 h1]
    exact hx

/-- What is put (MO), and what is wanted (MW, in the value v), and the block of an item (X). -/
structure Mid (w : World) (p : Nat) (v : Value) (MW MO F : List Nat) (sp : Bool) (X : Nat) (xs : Array Value) (wr : World) : Prop where
  bel : Below w.heap.size w wr
  pl : w.heap.size ≤ p
  own : wr.ownsRow w.heap.size 5 1 v MW.length (vals MW)
  small : ∀ x ∈ MW, x < 256
  apart : ∀ g, v.ownBlock = some g → g ∉ F
  high : ∀ j ∈ F, w.heap.size ≤ j
  flt : ∀ j ∈ F, j < wr.heap.size
  pF : p ∈ F
  item : wr.heap[X]? = some (.cells xs 30 (0, 0))
  xF : X ∉ F
  xv : v.ownBlock ≠ some X
  out : (sp = true ∧ Spoilt wr p) ∨ (sp = false ∧ OutIs wr p MO F)
theorem Mid.below {w : World} {p : Nat} {v : Value} {MW MO F : List Nat} {sp : Bool} {X : Nat} {xs : Array Value} {wr wr' : World} (h : Mid w p v MW MO F sp X xs wr) (hp : p < wr.heap.size) (hb : Below wr.heap.size wr wr') : Mid w p v MW MO F sp X xs wr' := by
  have hX : X < wr.heap.size := (Array.getElem?_eq_some_iff.1 h.item).1
  have hg : wr.grownBy wr' none := ⟨hb.os, hb.tape, hb.output, hb.size, fun k hk _ => hb.block k hk⟩
  refine ⟨h.bel.trans (hb.mono h.bel.size), h.pl, h.own.kept hg (by cases hv : v.ownBlock <;> simp), h.small, h.apart, h.high, fun j hj => Nat.lt_of_lt_of_le (h.flt j hj) hb.size, h.pF, (hb.block X hX).trans h.item, h.xF, h.xv, ?_⟩
  rcases h.out with ⟨e, hs⟩ | ⟨e, ho⟩
  · exact .inl ⟨e, (hb.block p hp).trans hs⟩
  · exact .inr ⟨e, ho.below hb⟩
theorem Mid.plt {w : World} {p : Nat} {v : Value} {MW MO F : List Nat} {sp : Bool} {X : Nat} {xs : Array Value} {wr : World} (h : Mid w p v MW MO F sp X xs wr) : p < wr.heap.size := by
  rcases h.out with ⟨e, hs⟩ | ⟨e, ho⟩
  · exact (Array.getElem?_eq_some_iff.1 hs).1
  · exact ho.lt p h.pF
theorem Mid.more {w : World} {p : Nat} {v : Value} {MW MO MO' F : List Nat} {X : Nat} {xs : Array Value} {wr wr' : World} (h : Mid w p v MW MO F false X xs wr) (hm : More wr p MO' F wr') : ∃ F', Mid w p v MW MO' F' false X xs wr' := by
  obtain ⟨F', o1, t1, s1⟩ := hm
  have hX : X < wr.heap.size := (Array.getElem?_eq_some_iff.1 h.item).1
  have hlt : ∀ g, v.ownBlock = some g → g < wr.heap.size := fun g e => (h.own.lt g e).2
  refine ⟨F', h.bel.trans (t1.toBelow _ h.bel.size (fun i hi hF => by have := h.high i hF; omega)), h.pl, ?_, h.small, fun g e hF => ?_, fun j hj => ?_, o1.lt, o1.own, (t1.2.2.2.2 X hX h.xF).trans h.item, fun hF => ?_, h.xv, .inr ⟨rfl, o1⟩⟩
  · refine ⟨h.own.1, ?_⟩
    rcases h.own.2 with e | ⟨g, cap, cur, e, hb, hg, rest⟩
    · exact .inl e
    · refine .inr ⟨g, cap, cur, e, hb, ?_, rest⟩
      have hv : v.ownBlock = some g := by rw [e]; rfl
      exact (t1.2.2.2.2 g (hlt g hv) (h.apart g hv)).trans hg
  · rcases s1 g hF with h1 | h1
    · exact h.apart g e h1
    · have := hlt g e
      omega
  · rcases s1 j hj with h1 | h1
    · exact h.high j h1
    · exact Nat.le_trans h.bel.size h1
  · rcases s1 X hF with h1 | h1
    · exact h.xF h1
    · omega
theorem Mid.lost {w : World} {p : Nat} {v : Value} {MW MO F : List Nat} {X : Nat} {xs : Array Value} {wr wr' : World} (MO' : List Nat) (h : Mid w p v MW MO F false X xs wr) (hm : Lost wr p wr') : Mid w p v MW MO' F true X xs wr' := by
  obtain ⟨o1, t1⟩ := hm
  have hX : X < wr.heap.size := (Array.getElem?_eq_some_iff.1 h.item).1
  have hlt : ∀ g, v.ownBlock = some g → g < wr.heap.size := fun g e => (h.own.lt g e).2
  refine ⟨h.bel.trans (t1.toBelow _ h.bel.size (fun i hi hF => by have := h.pl; omega)), h.pl, ?_, h.small, h.apart, h.high, fun j hj => Nat.lt_of_lt_of_le (h.flt j hj) t1.2.2.2.1, h.pF, (t1.2.2.2.2 X hX (fun e => h.xF (e ▸ h.pF))).trans h.item, h.xF, h.xv, .inl ⟨rfl, o1⟩⟩
  refine ⟨h.own.1, ?_⟩
  rcases h.own.2 with e | ⟨g, cap, cur, e, hb, hg, rest⟩
  · exact .inl e
  · refine .inr ⟨g, cap, cur, e, hb, ?_, rest⟩
    have hv : v.ownBlock = some g := by rw [e]; rfl
    exact (t1.2.2.2.2 g (hlt g hv) (fun e2 => h.apart g hv (e2 ▸ h.pF))).trans hg
theorem Mid.grow {w : World} {p : Nat} {v v' : Value} {MW MO F m : List Nat} {sp : Bool} {X : Nat} {xs : Array Value} {wr wr' : World} (h : Mid w p v MW MO F sp X xs wr) (hm : ∀ x ∈ m, x < 256)
    (ho : wr'.ownsRow w.heap.size 5 1 v' (MW ++ m).length (vals (MW ++ m))) (hg : wr.grownBy wr' v.ownBlock) (hat : v'.ownBlock = v.ownBlock ∨ v'.ownBlock = some wr.heap.size) : Mid w p v' (MW ++ m) MO F sp X xs wr' := by
  have hX : X < wr.heap.size := (Array.getElem?_eq_some_iff.1 h.item).1
  have hF : ∀ k ∈ F, wr'.heap[k]? = wr.heap[k]? ∨ ¬ k < wr.heap.size := fun k hk => by
    by_cases hlt : k < wr.heap.size
    · exact .inl (hg.block k hlt (fun e => h.apart k e.symm hk))
    · exact .inr hlt
  refine ⟨⟨hg.os.trans h.bel.os, hg.tape.trans h.bel.tape, hg.output.trans h.bel.output, Nat.le_trans h.bel.size hg.size, fun k hk => ?_⟩, h.pl, ho, all_lt h.small hm, fun g e => ?_, h.high, fun j hj => Nat.lt_of_lt_of_le (h.flt j hj) hg.size, h.pF, ?_, h.xF, fun e => ?_, ?_⟩
  · refine (hg.block k (Nat.lt_of_lt_of_le hk h.bel.size) (fun e => ?_)).trans (h.bel.block k hk)
    have := (h.own.lt k e.symm).1
    omega
  · rcases hat with h1 | h1
    · exact h.apart g (h1 ▸ e)
    · rw [h1] at e
      cases e
      intro hk
      exact absurd (h.flt _ hk) (Nat.lt_irrefl _)
  · exact (hg.block X hX (fun e => h.xv e.symm)).trans h.item
  · rcases hat with h1 | h1
    · exact h.xv (h1 ▸ e)
    · rw [h1] at e
      cases e
      exact absurd hX (Nat.lt_irrefl _)
  · rcases h.out with ⟨e, hs⟩ | ⟨e, ho⟩
    · refine .inl ⟨e, ?_⟩
      exact (hg.block p h.plt (fun e => h.apart p e.symm h.pF)).trans hs
    · exact .inr ⟨e, ho.kept fun k hk => hg.block k (ho.lt k hk) (fun e => h.apart k e.symm hk)⟩

theorem step_N {w : World} {p : Nat} {v : Value} {MW MO F : List Nat} {sp : Bool} {X : Nat} {xs : Array Value} {wr : World} (h : Mid w p v MW MO F sp X xs wr) (hl : MO.length ≤ 9000000) (V S : Int) :
    Calls Try.prog 8 #[.pointer (some ⟨p, 0, none⟩), .int .i64 V, .int .i64 S] wr fun e w1 => e = .returned (.tuple #[]) ∧ (Fits V S → ∃ F', Mid w p v MW (MO ++ bytesOf V.toNat S.toNat) F' sp X xs w1) ∧ (¬ Fits V S → ∃ F', Mid w p v MW MO F' true X xs w1) := by
  rcases h.out with ⟨rfl, hs⟩ | ⟨rfl, ho⟩
  · refine (outN_spoilt wr p V S hs).mono ?_
    rintro e w1 ⟨rfl, rfl⟩
    have hx : ∀ MO', Mid w p v MW MO' F true X xs wr := fun MO' => ⟨h.bel, h.pl, h.own, h.small, h.apart, h.high, h.flt, h.pF, h.item, h.xF, h.xv, .inl ⟨rfl, hs⟩⟩
    exact ⟨rfl, fun _ => ⟨F, hx _⟩, fun _ => ⟨F, hx _⟩⟩
  · by_cases hf : Fits V S
    · refine (outN_good wr p MO F V S ho hl hf).mono ?_
      rintro e w1 ⟨rfl, hm⟩
      exact ⟨rfl, fun _ => h.more hm, fun hn => absurd hf hn⟩
    · refine (outN_spoils wr p MO F V S ho hf).mono ?_
      rintro e w1 ⟨rfl, hm⟩
      exact ⟨rfl, fun h => absurd h hf, fun _ => ⟨F, h.lost _ hm⟩⟩
theorem step_Text {w : World} {p : Nat} {v : Value} {MW MO F : List Nat} {sp : Bool} {X : Nat} {xs : Array Value} {wr : World} (h : Mid w p v MW MO F sp X xs wr) (hl : MO.length ≤ 5000000) (l : List Nat) (hb : ∀ x ∈ l, x < 256) :
    Calls Try.prog 10 #[.pointer (some ⟨p, 0, none⟩), .string (strOf l)] wr fun e w1 => e = .returned (.tuple #[]) ∧ ∃ F', Mid w p v MW (MO ++ (bytesOf l.length 2 ++ l)) F' (sp || decide (65535 < l.length)) X xs w1 := by
  have hx : ∀ MO', Spoilt wr p → Mid w p v MW MO' F true X xs wr := fun MO' hs => ⟨h.bel, h.pl, h.own, h.small, h.apart, h.high, h.flt, h.pF, h.item, h.xF, h.xv, .inl ⟨rfl, hs⟩⟩
  rcases h.out with ⟨rfl, hs⟩ | ⟨rfl, ho⟩
  · refine (outText_spoilt wr p _ hs).mono ?_
    rintro e w1 ⟨rfl, rfl⟩
    exact ⟨rfl, F, hx _ hs⟩
  · by_cases hf : 65535 < l.length
    · have hd : (false || decide (65535 < l.length)) = true := by simp [hf]
      rw [hd]
      refine (outText_spoils wr p MO F l ho hf).mono ?_
      rintro e w1 ⟨rfl, hm⟩
      exact ⟨rfl, F, h.lost _ hm⟩
    · have hd : (false || decide (65535 < l.length)) = false := by simp; omega
      rw [hd]
      refine (outText_good wr p MO F l ho hl hb (by omega)).mono ?_
      rintro e w1 ⟨rfl, hm⟩
      exact ⟨rfl, h.more hm⟩
theorem step_Raw {w : World} {p : Nat} {v : Value} {MW MO F : List Nat} {sp : Bool} {X : Nat} {xs : Array Value} {wr : World} (h : Mid w p v MW MO F sp X xs wr) (A : Option Addr) (n c : Nat) (l : List Nat) (hB : Bytes w A n l) (hn : MO.length + n ≤ 10000000) (hA : A = none → c = 0) :
    Calls Try.prog 12 #[.pointer (some ⟨p, 0, none⟩), .slice A n c] wr fun e w1 => e = .returned (.tuple #[]) ∧ ∃ F', Mid w p v MW (MO ++ l) F' sp X xs w1 := by
  rcases h.out with ⟨rfl, hs⟩ | ⟨rfl, ho⟩
  · refine (raw_stop wr _ _ (takes_spoilt wr p _ hs.bad)).mono ?_
    rintro e w1 ⟨rfl, rfl⟩
    exact ⟨rfl, F, h.bel, h.pl, h.own, h.small, h.apart, h.high, h.flt, h.pF, h.item, h.xF, h.xv, .inl ⟨rfl, hs⟩⟩
  · refine (raw_good wr p MO F A n c l ho (hB.below hB.lt h.bel) hn hA (fun ad e h0 hF => by have := hB.lt ad e h0; have := h.high _ hF; omega)).mono ?_
    rintro e w1 ⟨rfl, hm⟩
    exact ⟨rfl, h.more hm⟩
/-- How far was put. -/
def WriteSt (w : World) (p : Nat) (L : List Item) (k : Nat) (sp : Bool) (v : Value) (wr : World) : Prop :=
  ∃ MW F, Below w.heap.size w wr ∧ w.heap.size ≤ p ∧ wr.ownsRow w.heap.size 5 1 v MW.length (vals MW) ∧ (∀ x ∈ MW, x < 256) ∧ (∀ g, v.ownBlock = some g → g ∉ F) ∧ (∀ j ∈ F, w.heap.size ≤ j) ∧ (∀ j ∈ F, j < wr.heap.size) ∧ p ∈ F ∧
    ((sp = true ∧ Spoilt wr p) ∨ (sp = false ∧ OutIs wr p MW F)) ∧ MW.length ≤ 7 * k + tot (L.take k) ∧ (sp = false → MW = encAll (L.take k) ∧ ∀ x ∈ L.take k, FitsItem x)
theorem write_mid {w : World} {p : Nat} {L : List Item} {k : Nat} {sp : Bool} {v : Value} {wr : World} (h : WriteSt w p L k sp v wr) (xs : Array Value) :
    ∃ MW F, Mid w p v MW MW F sp wr.heap.size xs (wr.alloc (.cells xs 30)) ∧ MW.length ≤ 7 * k + tot (L.take k) ∧ (sp = false → MW = encAll (L.take k) ∧ ∀ x ∈ L.take k, FitsItem x) := by
  obtain ⟨MW, F, h1, h2, h3, h4, h5, h6, h7, h8, h9, h10, h11⟩ := h
  refine ⟨MW, F, ⟨h1.alloc h1.size _, h2, h3.alloc _, h4, h5, h6, fun j hj => by have := h7 j hj; simp; omega, h8, heap_alloc_new wr _, fun hF => by have := h7 _ hF; omega, fun e => by have := (h3.lt _ e).2; omega, ?_⟩, h10, h11⟩
  rcases h9 with ⟨e, hs⟩ | ⟨e, ho⟩
  · exact .inl ⟨e, (heap_alloc_old wr _ (h7 p h8)).trans hs⟩
  · exact .inr ⟨e, ho.kept fun k hk => heap_alloc_old wr _ (h7 k hk)⟩
theorem mid_write {w : World} {p : Nat} {L : List Item} {k : Nat} {sp : Bool} {v : Value} {MW F : List Nat} {X : Nat} {xs : Array Value} {wr : World} (h : Mid w p v MW MW F sp X xs wr)
    (hl : MW.length ≤ 7 * k + tot (L.take k)) (hf : sp = false → MW = encAll (L.take k) ∧ ∀ x ∈ L.take k, FitsItem x) : WriteSt w p L k sp v wr :=
  ⟨MW, F, h.bel, h.pl, h.own, h.small, h.apart, h.high, h.flt, h.pF, h.out, hl, hf⟩
theorem mid_spoilt {w : World} {p : Nat} {L : List Item} {k : Nat} {v : Value} {MW MO F : List Nat} {X : Nat} {xs : Array Value} {wr : World} (h : Mid w p v MW MO F true X xs wr)
    (hl : MW.length ≤ 7 * k + tot (L.take k)) : WriteSt w p L k true v wr :=
  ⟨MW, F, h.bel, h.pl, h.own, h.small, h.apart, h.high, h.flt, h.pF, (by rcases h.out with ⟨_, hs⟩ | ⟨e, _⟩; exact .inl ⟨rfl, hs⟩; cases e), hl, fun e => by cases e⟩
theorem Mid.cells {w : World} {p : Nat} {v : Value} {MW MO F : List Nat} {sp : Bool} {X : Nat} {a b c d : Value} {wr : World} (h : Mid w p v MW MO F sp X #[a, b, c, d] wr) :
    wr.cell? ⟨X, 0, none⟩ = some a ∧ wr.cell? ⟨X, 1, none⟩ = some b ∧ wr.cell? ⟨X, 2, none⟩ = some c ∧ wr.cell? ⟨X, 3, none⟩ = some d := by
  have h1 := h.item
  exact ⟨by simp [World.cell?, h1], by simp [World.cell?, h1], by simp [World.cell?, h1], by simp [World.cell?, h1]⟩
theorem owns_slice {w : World} {B : Nat} {v : Value} {M : List Nat} (h : w.ownsRow B 5 1 v M.length (vals M)) (hb : ∀ x ∈ M, x < 256) : ∃ A c, v = .slice A M.length c ∧ Bytes w A M.length M := by
  rcases h.2 with ⟨e, h0⟩ | ⟨g, cap, cur, e, _⟩
  · obtain rfl : M = [] := List.eq_nil_of_length_eq_zero h0
    exact ⟨none, 0, e, empty_bytes w⟩
  · subst e
    exact ⟨_, cap, rfl, own_bytes' h rfl hb⟩
end Go.Proofs.Ytcmgekimogecaaa.codec
