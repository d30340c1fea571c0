/- Commands. -/
import Derived.Test.YtbhpgghbpibalaaGreatDoorMpj
namespace Go.Proofs.YtbhpgghbpibalaaGreatDoor.par
open Go.ChangeShapes Go.WideShapes Go.ChangeAt Go.RowKit
open Go.Proofs.YtbhpgghbpibalaaGreatDoor.codec (Bytes vals)
open Go.Proofs.YtbhpgghbpibalaaGreatDoor.row
open Go.Proofs.YtbhpgghbpibalaaGreatDoor.lx (Tk cT fT Fit tok_at octs Sl Room own_slice)
set_option linter.unusedVariables false
set_option maxRecDepth 100000
set_option linter.unusedSimpArgs false

def zero17 : Array Value := #[.string ⟨#[]⟩, .string ⟨#[]⟩, .bool false, .string ⟨#[]⟩, .string ⟨#[]⟩, .string ⟨#[]⟩, .string ⟨#[]⟩, .string ⟨#[]⟩, .int .i64 0, .int .i64 0, .bool false, .bool false, .int .i64 0, .slice none 0 0, .slice none 0 0, .slice none 0 0, .slice none 0 0]
def tags17 (a b : ByteArray) : Array Value := #[.string a, .string b, .bool false, .string ⟨#[]⟩, .string ⟨#[]⟩, .string ⟨#[]⟩, .string ⟨#[]⟩, .string ⟨#[]⟩, .int .i64 0, .int .i64 0, .bool false, .bool false, .int .i64 0, .slice none 0 0, .slice none 0 0, .slice none 0 0, .slice none 0 0]
theorem size17 (cs : Array Value) (h : cs.size = 17) : (Tryz.prog.info? 29).map (·.size) = some cs.size := by
  rw [h]
  kernel_rfl
/-- What a command of the reader's answers. -/
def CmdAns (w : World) (p : Nat) (e : Ending) (w' : World) : Prop := ∃ cs : Array Value, e = .returned (.agg cs) ∧ cs.size = 17 ∧ cs.all (·.oneCell') = true ∧ Did w p w'
theorem cc_start {w : World} {p : Nat} {l : List Tk} {b : Bool} (h : ST w p l b) (A B : ByteArray) : CC w p w.heap.size (w.alloc (.cells (tags17 A B) 29)) := by
  refine ⟨⟨l, b, h.below ((Below.refl _ _).alloc (Nat.le_refl _) _)⟩, ⟨fun i => (tags17 A B).getD i undef, ⟨tags17 A B, heap_alloc_new w _, rfl, fun i hi => ?_⟩, fun i hi => ?_⟩, h.1.lt, codec.Touch.alloc (codec.Touch.refl _ w) _⟩
  · have : i < (tags17 A B).size := hi
    show (tags17 A B)[i]? = some ((tags17 A B).getD i undef)
    rw [Array.getElem?_eq_getElem this]
    simp only [Array.getD, this, dif_pos]
    rfl
  · have : i = 0 ∨ i = 1 ∨ i = 2 ∨ i = 3 ∨ i = 4 ∨ i = 5 ∨ i = 6 ∨ i = 7 ∨ i = 8 ∨ i = 9 ∨ i = 10 ∨ i = 11 ∨ i = 12 ∨ i = 13 ∨ i = 14 ∨ i = 15 ∨ i = 16 := by omega
    rcases this with rfl | rfl | rfl | rfl | rfl | rfl | rfl | rfl | rfl | rfl | rfl | rfl | rfl | rfl | rfl | rfl | rfl <;> rfl
theorem start_name (w : World) (A B : ByteArray) : (w.alloc (.cells (tags17 A B) 29)).cell? ⟨w.heap.size, 1, none⟩ = some (.string B) := by
  rw [World.cell?, heap_alloc_new]
  rfl
theorem CC.name {W w : World} {p c : Nat} (h : CC W p c w) (s : ByteArray) (v : Value) : ((w.setCell ⟨c, 2, none⟩ v).setCell ⟨c, 1, none⟩ (.string s)).cell? ⟨c, 1, none⟩ = some (.string s) := by
  obtain ⟨_, ⟨f, hf, ho⟩, _⟩ := h
  have := ((hf.set 2 v).set 1 (.string s)).cell (i := 1) (by decide)
  simpa using this
theorem CC.cells {W w : World} {p c : Nat} (h : CC W p c w) : ∃ cs : Array Value, w.heap[c]? = some (.cells cs 29 (0, 0)) ∧ cs.size = 17 ∧ cs.all (·.oneCell') = true := by
  obtain ⟨_, ⟨f, ⟨cs, h1, h2, h3⟩, ho⟩, _⟩ := h
  refine ⟨cs, h1, h2, ?_⟩
  rw [Array.all_eq_true]
  intro i hi
  have h4 := h3 i (by omega)
  rw [Array.getElem?_eq_getElem hi] at h4
  rw [Option.some.inj h4]
  exact ho i (by omega)
theorem touch_setRow (w : World) (b : Nat) (cs : Array Value) : codec.Touch (fun i => i = b) w (w.setRow b cs) := by
  refine ⟨rfl, rfl, rfl, by simp [World.setRow], fun k hk hne => ?_⟩
  simp only [World.setRow, Array.getElem?_modify]
  rw [if_neg (fun e => hne e.symm)]
/-- Where the command's end begins. -/
def Fin (w : World) (p : Nat) (w3 : World) : Prop := w3.heap[w.heap.size]? = some (.cells zero17 29 (0, 0)) ∧ (∃ l b, ST w3 p l b) ∧ codec.Touch (· = p) w w3
theorem fin_of {w w1 w2 w3 : World} {p : Nat} (h1 : codec.Touch (· = p) (w.alloc (.cells zero17 29)) w1) (h2 : codec.Touch (· = p) w1 w2) (hcc : CC w2 p w2.heap.size w3) (hp : p < w.heap.size) : Fin w p w3 := by
  have hs1 := h1.2.2.2.1
  have hs2 := h2.2.2.2.1
  have hw : (w.alloc (.cells zero17 29)).heap.size = w.heap.size + 1 := by simp
  have h3 := hcc.2.2.2
  refine ⟨?_, hcc.1, ?_⟩
  · rw [h3.2.2.2.2 _ (by omega) (by omega), h2.2.2.2.2 _ (by omega) (by omega), h1.2.2.2.2 _ (by omega) (by omega)]
    exact heap_alloc_new w _
  · exact ((codec.Touch.alloc (codec.Touch.refl (fun i => i = p) w) _).trans ((touch_trans h1 h2).mono fun i _ e => .inl e)).trans (h3.mono fun i _ e => by
      rcases e with e | e
      · exact .inl e
      · exact .inr (by omega))
theorem Fin.close {w w3 : World} {p : Nat} {cs : Array Value} (h : Fin w p w3) (hp : p < w.heap.size) : (w3.setRow w.heap.size cs).heap[w.heap.size]? = some (.cells cs 29 (0, 0)) ∧ Did w p (w3.setRow w.heap.size cs) := by
  obtain ⟨h1, ⟨l, b, h2⟩, h3⟩ := h
  have hk := touch_setRow w3 w.heap.size cs
  exact ⟨setRow_heap w3 _ _ _ _ _ h1, Did.mk (h2.touch hk (fun i hi e => by omega)) (h3.trans (hk.mono fun i _ e => .inr (by omega)))⟩
set_option maxHeartbeats 6400000 in
theorem command_any (w : World) (p : Nat) (l : List Tk) (bad : Bool) (h : ST w p l bad) :
    Calls Tryz.prog 9 #[.pointer (some ⟨p, 0, none⟩)] w (CmdAns w p) := by
  have HST := Lib.hid (show ST (w.alloc (.cells zero17 29)) p l bad from h.below ((Below.refl _ _).alloc (Nat.le_refl _) _))
  have HP := Lib.hid h.1.lt
  have HG := Lib.hid (fun w1 l1 b1 (h1 : ST w1 p l1 b1) => great_any w1 p l1 b1 h1)
  clear h
  have hT := fun w1 l1 b1 (h1 : ST w1 p l1 b1) => tag_any w1 p l1 b1 h1
  have HTA := Lib.hid (hT _ _ _ HST.out)
  clear hT
  generalize lx.strOf (takeT l bad 1) = A at *
  generalize takeL l bad 1 = l1 at *
  generalize (!comesB l bad 1 || !tagB (takeT l bad 1)) = b1 at *
  generalize hB : upS (takeT l1 b1 1) = B
  cases hq : (B.toList == [85, 73, 68])
  · go_enter Tryz.func9, Tryz.ntmps9
    go_wp2_with (first
      | (go_at_call 16; refine HTA.out.mono ?_; rintro e w1 ⟨rfl, hr, ht⟩; have HR := Lib.hid hr; have HT := Lib.hid ht; clear hr ht)
      | (go_at_call 17; refine (HG.out _ _ _ HR.out).mono ?_; rintro e w2 ⟨rfl, hr, ht⟩; rw [hB]; have HCC := Lib.hid (cc_start hr A B); have HT2 := Lib.hid ht; clear hr ht)
      | (go_at_call 19; refine (takeRest_any w2 _ p _ HCC.out _ (start_name w2 A B)).mono ?_; rintro e w3 ⟨rfl, hcc⟩; obtain ⟨cs, hg, hsz, hall⟩ := hcc.cells; have HZ := Lib.hid (And.intro hg (And.intro hsz hall)); have HF := Lib.hid (fin_of HT.out HT2.out hcc HP.out); clear hg hsz hall hcc)
      | (refine wpList_load_row rfl 29 (.tmp 3) rfl w2.heap.size rfl 29 cs (0, 0) _ HZ.out.1 Tryz.underlying29 rfl (size17 _ HZ.out.2.1) ?_)
      | (refine wpList_store_row rfl 29 (.tmp 2) (.tmp 21) rfl w.heap.size cs rfl rfl 29 zero17 HF.out.1 (size17 _ HZ.out.2.1) HZ.out.2.1.symm HZ.out.2.2 ?_))
    refine bodyPost_ret (results_cell_row Tryz.results9 _ _ w.heap.size _ _ _ _ rfl (HF.out.close HP.out).1 Tryz.underlying29 rfl (size17 _ HZ.out.2.1)) rfl ?_
    exact ⟨cs, rfl, HZ.out.2.1, HZ.out.2.2, (HF.out.close HP.out).2⟩
  · go_enter Tryz.func9, Tryz.ntmps9
    go_wp2_with (first
      | (go_at_call 16; refine HTA.out.mono ?_; rintro e w1 ⟨rfl, hr, ht⟩; have HR := Lib.hid hr; have HT := Lib.hid ht; clear hr ht)
      | (go_at_call 17; refine (HG.out _ _ _ HR.out).mono ?_; rintro e w2 ⟨rfl, hr, ht⟩; rw [hB]; have HCC := Lib.hid (cc_start hr A B); have HT2 := Lib.hid ht; clear hr ht HR)
      | (go_at_call 17; obtain ⟨⟨lc, bc, hsc⟩, _⟩ := HCC.out; refine (HG.out _ _ _ hsc).mono ?_; rintro e w4 ⟨rfl, hr, ht⟩; generalize upS (takeT lc bc 1) = S at *; have hc4 := HCC.out.did (Did.mk hr ht); obtain ⟨_, _, _, p4, p5, p6⟩ := hc4.free; obtain ⟨v1, q1⟩ := p5 1 (by decide); obtain ⟨v2, q2⟩ := p5 2 (by decide); have y1 := p6 1; have y2 := p6 2; have HC4 := Lib.hid hc4; clear hc4 hr ht p5 p6 hsc)
      | (go_at_call 18; refine (takeUID_any w2 _ p _ ((HC4.out.set 2 _ rfl).set 1 _ rfl) _ (HC4.out.name S _)).mono ?_; rintro e w3 ⟨rfl, hcc⟩; obtain ⟨cs, hg, hsz, hall⟩ := hcc.cells; have HZ := Lib.hid (And.intro hg (And.intro hsz hall)); have HF := Lib.hid (fin_of HT.out HT2.out hcc HP.out); clear hg hsz hall hcc)
      | (refine wpList_load_row rfl 29 (.tmp 3) rfl w2.heap.size rfl 29 cs (0, 0) _ HZ.out.1 Tryz.underlying29 rfl (size17 _ HZ.out.2.1) ?_)
      | (refine wpList_store_row rfl 29 (.tmp 2) (.tmp 18) rfl w.heap.size cs rfl rfl 29 zero17 HF.out.1 (size17 _ HZ.out.2.1) HZ.out.2.1.symm HZ.out.2.2 ?_))
    refine bodyPost_ret (results_cell_row Tryz.results9 _ _ w.heap.size _ _ _ _ rfl (HF.out.close HP.out).1 Tryz.underlying29 rfl (size17 _ HZ.out.2.1)) rfl ?_
    exact ⟨cs, rfl, HZ.out.2.1, HZ.out.2.2, (HF.out.close HP.out).2⟩
end Go.Proofs.YtbhpgghbpibalaaGreatDoor.par
