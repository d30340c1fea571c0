/- What bytes are parsed as. -/
import Derived.Test.YtbhpgghbpibalaaGreatDoorMpm
namespace Go.Proofs.YtbhpgghbpibalaaGreatDoor.par
open Go.ChangeShapes Go.WideShapes Go.ChangeAt Go.RowKit
open Go.Proofs.YtbhpgghbpibalaaGreatDoor.codec (Bytes vals)
open Go.Proofs.YtbhpgghbpibalaaGreatDoor.row
open Go.Proofs.YtbhpgghbpibalaaGreatDoor.lx (Tk cT fT Fit tok_at octs Sl Room own_slice toks TokAns toks_good)
set_option linter.unusedVariables false
set_option maxRecDepth 100000
set_option linter.unusedSimpArgs false

theorem env_below {W w : World} (h : Env W) (hb : Below W.heap.size W w) : Env w := h.below hb
/-- A reader made of what was read of the bytes. -/
theorem tok_ready {W1 w1 : World} {b : List Nat} {e : Ending} (h : TokAns W1 (toks b) e w1) (hE : Env W1) (hn : b.length ≤ 3000) (hb : ∀ x ∈ b, x < 256) :
    ∃ (R : Option Addr) (m d : Nat) (l : List Tk) (ok : Bool), e = .returned (.tuple #[.slice R m d, .bool ok]) ∧ ST (w1.alloc (.cells #[.slice R m d, .bool (!ok)] 37)) w1.heap.size l (!ok) ∧ Below W1.heap.size W1 w1 ∧ (∀ l', toks b = some l' → l = l' ∧ ok = true) := by
  obtain ⟨hbl, ⟨ho, rfl⟩ | ⟨l, v, ho, rfl, hO⟩⟩ := h
  · refine ⟨none, 0, 0, [], false, rfl, ⟨⟨none, 0, 0, Nat.le_refl _, fun _ => rfl, by decide, Rd.empty _, (fun a e => by cases e), by simp, heap_alloc_new w1 _⟩, w1, hE.below hbl, Nat.le_refl _, (Below.refl _ _).alloc (Nat.le_refl _) _⟩, hbl, fun l' hl => ?_⟩
    rw [ho] at hl
    cases hl
  · obtain ⟨A, c, hv, h1, h2, h3⟩ := hO.rd fT
    have hg := toks_good 3000 b.length [] 0 b l ho (by simp) rfl (by simp [lx.depth]) (by simp) hn hb
    have hlt : ∀ a, A = some a → a.block < w1.heap.size := fun a ha => (hO.lt (g := a.block) (by rw [hv, ha]; rfl)).2
    subst hv
    refine ⟨A, l.length, c, l, true, rfl, ⟨⟨A, l.length, c, h1, h2, hg.2.1, h3.below ((Below.refl _ _).alloc (Nat.le_refl _) _), hlt, hg.1, heap_alloc_new w1 _⟩, w1, hE.below hbl, Nat.le_refl _, (Below.refl _ _).alloc (Nat.le_refl _) _⟩, hbl, fun l' hl => ?_⟩
    rw [ho] at hl
    cases hl
    exact ⟨rfl, rfl⟩
/-- What parsing answers. -/
def ParseAns (w : World) (b : List Nat) (e : Ending) (w' : World) : Prop := ∃ (cs : Array Value) (ok : Bool), e = .returned (.tuple #[.agg cs, .bool ok]) ∧ cs.size = 17 ∧ cs.all (·.oneCell') = true ∧ (ok = false → cs = tags17 (tagS b) ⟨#[]⟩) ∧ Below w.heap.size w w'
/-- The result's cell. -/
def Res (w w' : World) : Prop := w'.heap[w.heap.size]? = some (.cells zero17 29 (0, 0)) ∧ Below w.heap.size w w'
theorem Res.below {w w1 w2 : World} (h : Res w w1) (hb : Below w1.heap.size w1 w2) : Res w w2 := by
  have hlt := (Array.getElem?_eq_some_iff.1 h.1).1
  exact ⟨(hb.block _ hlt).trans h.1, h.2.trans (hb.mono h.2.size)⟩
theorem Res.touch {w w1 w2 : World} {p : Nat} (h : Res w w1) (ht : codec.Touch (· = p) w1 w2) (hp : w.heap.size < p) : Res w w2 := by
  have hlt := (Array.getElem?_eq_some_iff.1 h.1).1
  exact ⟨(ht.2.2.2.2 _ hlt (by omega)).trans h.1, h.2.trans (ht.toBelow _ (Nat.le_of_lt hlt) (fun i hi e => by omega))⟩
theorem Res.close {w w1 : World} {cs : Array Value} (h : Res w w1) : (w1.setRow w.heap.size cs).heap[w.heap.size]? = some (.cells cs 29 (0, 0)) ∧ Below w.heap.size w (w1.setRow w.heap.size cs) := by
  have hlt := (Array.getElem?_eq_some_iff.1 h.1).1
  exact ⟨setRow_heap w1 _ _ _ _ _ h.1, h.2.trans ((touch_setRow w1 w.heap.size cs).toBelow _ (Nat.le_of_lt hlt) (fun i hi e => by omega))⟩
theorem res_start {w w1 : World} (hb : Below (w.alloc (.cells zero17 29)).heap.size (w.alloc (.cells zero17 29)) w1) : Res w w1 ∧ w.heap.size < w1.heap.size :=
  have h : Res w w1 := Res.below (w1 := w.alloc (.cells zero17 29)) ⟨heap_alloc_new w _, (Below.refl _ _).alloc (Nat.le_refl _) _⟩ hb
  ⟨h, (Array.getElem?_eq_some_iff.1 h.1).1⟩
set_option maxHeartbeats 6400000 in
theorem Parse_any (w : World) (A : Option Addr) (n c : Nat) (b : List Nat) (hS : Sl w A n c b) (hn : n ≤ 3000) (hE : Env w) :
    Calls Tryz.prog 6 #[.slice A n c] w (ParseAns w b) := by
  have HB1 := Lib.hid (show Below w.heap.size w (w.alloc (.cells zero17 29)) from (Below.refl _ _).alloc (Nat.le_refl _) _)
  have HS := Lib.hid hS
  have HN := Lib.hid hn
  have HE := Lib.hid hE
  have HT := Lib.hid (lx.tokens_any (w.alloc (.cells zero17 29)) A n c b (HS.out.below HB1.out) (Nat.le_trans hn (by decide)) (hE.room.below HB1.out))
  have HT2 := Lib.hid (fun e w1 (h : TokAns (w.alloc (.cells zero17 29)) (toks b) e w1) => tok_ready h (hE.below HB1.out) (by rw [HS.out.1.1]; exact hn) HS.out.1.2.1)
  have HTag := Lib.hid (fun w1 (h : Below w.heap.size w w1) => Tag_any w1 A n c b (HS.out.below h) (Nat.le_trans HN.out (by decide)) (HE.out.room.below h))
  clear hS hn hE
  go_enter Tryz.func6, Tryz.ntmps6
  go_wp2_with (first
    | (go_at_call 8; refine HT.out.mono ?_; rintro e w1 ha; obtain ⟨R, m, d, l, ok, rfl, hst, hb, -⟩ := HT2.out _ _ ha; have HST := Lib.hid hst; have HR1 := Lib.hid (res_start hb); clear hst hb ha)
    | (go_at_call 9; refine (command_any _ _ _ _ HST.out).mono ?_; rintro e w2 ⟨cs, rfl, hsz, hall, ⟨l2, b2, hs2⟩, ht2⟩; have HZ := Lib.hid (And.intro hsz hall); have HS2 := Lib.hid (hs2.below ((Below.refl _ _).alloc (Nat.le_refl _) (.cells cs 29))); have HR2 := Lib.hid (((HR1.out.1.below ((Below.refl _ _).alloc (Nat.le_refl _) _)).touch ht2 HR1.out.2).below ((Below.refl _ _).alloc (Nat.le_refl _) (.cells cs 29))); clear hsz hall hs2 ht2)
    | (refine wpList_store_row rfl 29 (.tmp 7) (.tmp 17) rfl w2.heap.size cs rfl rfl 29 zero17 (heap_alloc_new w2 _) (size17 _ HZ.out.1) HZ.out.1.symm HZ.out.2 ?_; rw [World.setRow_alloc_new])
    | (go_at_call 10; refine (done_any _ _ _ _ HS2.out.1).mono ?_; rintro e w3 ⟨rfl, hw⟩; subst hw; generalize (!b2 && l2.isEmpty) = D)
    | (go_at_call 7; refine (HTag.out _ HR2.out.2).mono ?_; rintro e w4 ⟨rfl, hb4⟩; have HR4 := Lib.hid (HR2.out.below hb4); clear hb4)
    | (refine wpList_store_row rfl 29 (.tmp 2) (.tmp 22) rfl w.heap.size (tags17 (tagS b) ⟨#[]⟩) rfl rfl 29 zero17 HR4.out.1 (size17 _ rfl) rfl (tags_all _ _) ?_)
    | (refine wpList_load_row rfl 29 (.tmp 7) rfl w2.heap.size rfl 29 cs (0, 0) _ (heap_alloc_new w2 _) Tryz.underlying29 rfl (size17 _ HZ.out.1) ?_)
    | (refine wpList_store_row rfl 29 (.tmp 2) (.tmp 23) rfl w.heap.size cs rfl rfl 29 zero17 HR2.out.1 (size17 _ HZ.out.1) HZ.out.1.symm HZ.out.2 ?_))
  · refine bodyPost_ret (lx.results_cell_tmp Tryz.results6 _ _ w.heap.size _ _ _ _ rfl HR4.out.close.1 Tryz.underlying29 rfl (size17 _ rfl)) rfl ?_
    exact ⟨_, _, rfl, rfl, tags_all _ _, fun _ => rfl, HR4.out.close.2⟩
  · refine bodyPost_ret (lx.results_cell_tmp Tryz.results6 _ _ w.heap.size _ _ _ _ rfl HR2.out.close.1 Tryz.underlying29 rfl (size17 _ HZ.out.1)) rfl ?_
    exact ⟨_, _, rfl, HZ.out.1, HZ.out.2, (fun e => by cases e), HR2.out.close.2⟩
def noopB : List Nat := [97, 32, 110, 111, 111, 112]
theorem toks_noop : toks noopB = some [tokA, tokN] := by kernel_rfl
set_option maxHeartbeats 6400000 in
theorem Parse_noop (w : World) (A : Option Addr) (n c : Nat) (hS : Sl w A n c noopB) (hn : n ≤ 3000) (hE : Env w) :
    Calls Tryz.prog 6 #[.slice A n c] w fun e w' => e = .returned (.tuple #[.agg (tags17 ⟨#[97]⟩ ⟨#[78, 79, 79, 80]⟩), .bool true]) ∧ Below w.heap.size w w' := by
  have HB1 := Lib.hid (show Below w.heap.size w (w.alloc (.cells zero17 29)) from (Below.refl _ _).alloc (Nat.le_refl _) _)
  have HS := Lib.hid hS
  have HN := Lib.hid hn
  have HE := Lib.hid hE
  have HT := Lib.hid (lx.tokens_any (w.alloc (.cells zero17 29)) A n c noopB (HS.out.below HB1.out) (Nat.le_trans hn (by decide)) (hE.room.below HB1.out))
  have HT2 := Lib.hid (fun e w1 (h : TokAns (w.alloc (.cells zero17 29)) (toks noopB) e w1) => tok_ready h (hE.below HB1.out) (by rw [HS.out.1.1]; exact hn) HS.out.1.2.1)
  clear hS hn hE
  go_enter Tryz.func6, Tryz.ntmps6
  go_wp2_with (first
    | (go_at_call 8; refine HT.out.mono ?_; rintro e w1 ha; obtain ⟨R, m, d, l, ok, rfl, hst, hb, hl⟩ := HT2.out _ _ ha; obtain ⟨rfl, rfl⟩ := hl _ toks_noop; have HST := Lib.hid hst; have HR1 := Lib.hid (res_start hb); clear hst hb ha)
    | (go_at_call 9; refine (command_noop _ _ HST.out).mono ?_; rintro e w2 ⟨rfl, hs2, ht2⟩; have HS2 := Lib.hid (hs2.below ((Below.refl _ _).alloc (Nat.le_refl _) (.cells (tags17 ⟨#[97]⟩ ⟨#[78, 79, 79, 80]⟩) 29))); have HR2 := Lib.hid (((HR1.out.1.below ((Below.refl _ _).alloc (Nat.le_refl _) _)).touch ht2 HR1.out.2).below ((Below.refl _ _).alloc (Nat.le_refl _) (.cells (tags17 ⟨#[97]⟩ ⟨#[78, 79, 79, 80]⟩) 29))); clear hs2 ht2)
    | (refine wpList_store_row rfl 29 (.tmp 7) (.tmp 17) rfl w2.heap.size (tags17 ⟨#[97]⟩ ⟨#[78, 79, 79, 80]⟩) rfl rfl 29 zero17 (heap_alloc_new w2 _) (size17 _ rfl) rfl (tags_all _ _) ?_; rw [World.setRow_alloc_new])
    | (go_at_call 10; refine (done_any _ _ _ _ HS2.out.1).mono ?_; rintro e w3 ⟨rfl, hw⟩; subst hw)
    | (refine wpList_load_row rfl 29 (.tmp 7) rfl w2.heap.size rfl 29 (tags17 ⟨#[97]⟩ ⟨#[78, 79, 79, 80]⟩) (0, 0) _ (heap_alloc_new w2 _) Tryz.underlying29 rfl (size17 _ rfl) ?_)
    | (refine wpList_store_row rfl 29 (.tmp 2) (.tmp 23) rfl w.heap.size (tags17 ⟨#[97]⟩ ⟨#[78, 79, 79, 80]⟩) rfl rfl 29 zero17 HR2.out.1 (size17 _ rfl) rfl (tags_all _ _) ?_))
  refine bodyPost_ret (lx.results_cell_tmp Tryz.results6 _ _ w.heap.size _ _ _ _ rfl HR2.out.close.1 Tryz.underlying29 rfl (size17 _ rfl)) rfl ?_
  exact ⟨rfl, HR2.out.close.2⟩
end Go.Proofs.YtbhpgghbpibalaaGreatDoor.par
