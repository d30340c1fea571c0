/- A message that keys are asked about, in memory: what it keeps once it was asked. -/
import Derived.Test.YtcepcamedmiinaaGreatDoorMd3
import Derived.Maps.Own
import Derived.Maps.OwnSet
import Derived.Maps.Views
import Derived.StringKeys
namespace Go.Proofs.YtcepcamedmiinaaGreatDoor.sea
open Go.ChangeShapes Go.WideShapes Go.ChangeAt Go.RowKit Go.Maps Go.WideMaps
open Go.Proofs.YtcepcamedmiinaaGreatDoor.codec (Bytes vals)
open Go.Proofs.YtcepcamedmiinaaGreatDoor.row (Rd Fm)
open Go.Proofs.YtcepcamedmiinaaGreatDoor.hd (Sl)
set_option linter.unusedVariables false
set_option maxRecDepth 100000
set_option linter.unusedSimpArgs false

/-- An element of a map, as it is. -/
def raw (v : Value) : Option (DataW Value × List MemPlace) := some (.held v, [])
abbrev noVal : Value := .agg #[.slice none 0 0, .bool false]
theorem zeroV (w : World) : (zeroValue 72).run Tryz.prog w = .ok noVal w := by kernel_rfl
theorem keyedS : Keyed Tryz.prog 9 := string_keyed Tryz.underlying9
theorem mapT : Tryz.prog.underlying 50 = some (.map 9 72) := Tryz.underlying50
/-- What a map has under a name. -/
def At (D : DataW Value) (s : List UInt8) : Value := match D.atKey (.string s) (.held noVal) with | .held v => v | _ => noVal
def Held (D : DataW Value) : Prop := ∀ s, ∃ v, D.atKey (.string s) (.held noVal) = .held v
theorem At_eq {D : DataW Value} (h : Held D) (s : List UInt8) : D.atKey (.string s) (.held noVal) = .held (At D s) := by
  obtain ⟨v, hv⟩ := h s
  simp [At, hv]
theorem lit_ne {s k : List UInt8} (h : ¬ s = k) : (Lit.string s) ≠ (Lit.string k) := fun e => h (by cases e; rfl)
theorem At_put {D : DataW Value} (hm : IsMap D) (k : List UInt8) (v : Value) (s : List UInt8) : At (D.put (.string k) (.held v)) s = if s = k then v else At D s := by
  by_cases h : s = k
  · subst h
    simp [At, atKey_put_same hm (show WideAt.IsKeyLit (.string s) from trivial)]
  · simp only [if_neg h, At]
    rw [atKey_put_other (lit_ne h)]
theorem Held_put {D : DataW Value} (hm : IsMap D) (h : Held D) (k : List UInt8) (v : Value) : Held (D.put (.string k) (.held v)) := by
  intro s
  by_cases e : s = k
  · subst e
    exact ⟨v, by rw [atKey_put_same hm (show WideAt.IsKeyLit (.string s) from trivial)]⟩
  · rw [atKey_put_other (lit_ne e)]
    exact h s
/-- Whether a name was asked. -/
def hs (D : DataW Value) (nm : ByteArray) : Bool := Maps.has D (.string nm.data.toList)
theorem hs_put {D : DataW Value} (hm : IsMap D) (nm : ByteArray) (v : Value) (x : ByteArray) : hs (D.put (.string nm.data.toList) (.held v)) x = if x = nm then true else hs D x := by
  unfold hs
  by_cases h : x = nm
  · subst h
    rw [if_pos rfl]
    exact has_put_same hm (show WideAt.IsKeyLit (.string x.data.toList) from trivial) _
  · rw [if_neg h]
    exact has_put_other (lit_ne fun e => h (ByteArray.ext (Array.toList_inj.1 e))) _
def n1 (b : Bool) : Nat := if b then 1 else 0
def cnt (D : DataW Value) : Nat := n1 (hs D nSUBJECT) + n1 (hs D nFROM) + n1 (hs D nTO)
theorem cnt_le (D : DataW Value) : cnt D ≤ 3 := by
  unfold cnt n1
  split <;> split <;> split <;> omega
theorem cnt_put {D : DataW Value} (hm : IsMap D) {nm : ByteArray} (hn : nm = nSUBJECT ∨ nm = nFROM ∨ nm = nTO) (h : hs D nm = false) (v : Value) : cnt (D.put (.string nm.data.toList) (.held v)) = cnt D + 1 := by
  have e1 : (nSUBJECT = nFROM) = False := eq_false (by decide)
  have e2 : (nSUBJECT = nTO) = False := eq_false (by decide)
  have e3 : (nFROM = nTO) = False := eq_false (by decide)
  have e4 : (nFROM = nSUBJECT) = False := eq_false (by decide)
  have e5 : (nTO = nSUBJECT) = False := eq_false (by decide)
  have e6 : (nTO = nFROM) = False := eq_false (by decide)
  unfold cnt
  rw [hs_put hm, hs_put hm, hs_put hm]
  rcases hn with rfl | rfl | rfl
  · simp only [e4, e5, if_true, if_false, h]; simp [n1]; omega
  · simp only [e1, e6, if_true, if_false, h]; simp [n1]; omega
  · simp only [e2, e3, if_true, if_false, h]; simp [n1]
theorem look_at {w : World} {b n : Nat} {D : DataW Value} (h : w.ownsMap Tryz.prog 9 raw b n D) (hD : Held D) (s : ByteArray) (hsz : s.size ≤ maxLen) :
    (Instr.lookup 50 (.map (some b)) (.string s) true).run Tryz.prog w = .ok (.tuple #[At D s.data.toList, .bool (hs D s)]) w := by
  obtain ⟨v, ps, hr, hv⟩ := h.look_ok keyedS mapT (zeroV w) (zd := .held noVal) (zp := []) rfl (keyOf_string_mk Tryz.underlying9 hsz)
  rw [hr]
  rw [At_eq hD] at hv
  simp [raw] at hv
  rw [hv.1]
  rfl
theorem look_none (w : World) (s : ByteArray) (hsz : s.size ≤ maxLen) :
    (Instr.lookup 50 (.map none) (.string s) true).run Tryz.prog w = .ok (.tuple #[noVal, .bool false]) w := by
  have := Maps.look_nil (w := w) true keyedS mapT (zeroV w) (keyOf_string_mk Tryz.underlying9 hsz)
  simpa using this
/-- Bytes that are made when they are asked for. -/
def Lz (n0 mb : Nat) (fm : Value) (w : World) (v : Value) (l : List Nat) : Prop :=
  v = .slice none 0 0 ∨ ∃ g, v = .slice (some ⟨g, 0, none⟩) l.length l.length ∧ n0 ≤ g ∧ g < w.heap.size ∧ g ≠ mb ∧ fm ≠ .map (some g) ∧ Bytes w (some ⟨g, 0, none⟩) l.length l
/-- Fields that were asked for. -/
def Fl (n0 mb : Nat) (w : World) (fm : Value) (o : List Nat) : Prop :=
  fm = .map none ∨ ∃ fb n D, fm = .map (some fb) ∧ n0 ≤ fb ∧ fb ≠ mb ∧ w.ownsMap Tryz.prog 9 raw fb n D ∧ n ≤ cnt D ∧ Held D ∧ ∀ nm, hs D nm = true → ∃ g, At D nm.data.toList = .agg #[.slice (some ⟨g, 0, none⟩) (fldV nm o).length (fldV nm o).length, .bool (fldB nm o)] ∧ n0 ≤ g ∧ g < w.heap.size ∧ g ≠ mb ∧ g ≠ fb ∧ Bytes w (some ⟨g, 0, none⟩) (fldV nm o).length (fldV nm o)
def mcells (D : Md) (dt : Int) (A : Option Addr) (on oc : Nat) (sa se fm : Value) : Array Value :=
  #[.int .u32 (D.uid : Nat), .int .i64 dt, .int .i64 D.flags, .slice A on oc, .int .u32 (D.num : Nat), .int .u32 (D.ln : Nat), .int .u32 (D.lu : Nat), sa, se, fm]
def MB (n0 mb : Nat) (D : Md) (dt : Int) (A : Option Addr) (on oc : Nat) (sa se fm : Value) (w : World) : Prop :=
  w.heap[mb]? = some (.cells (mcells D dt A on oc sa se fm) 52 (0, 0)) ∧ Sl w A on oc D.oct ∧ on ≤ 60000 ∧ (∀ a, A = some a → 0 < on → a.block < n0) ∧ n0 ≤ mb ∧ Lz n0 mb fm w sa (lowL D.oct) ∧ Lz n0 mb fm w se (bodL D.oct) ∧ Fl n0 mb w fm D.oct ∧ ∃ w0, Env w0 ∧ w0.heap.size ≤ n0 ∧ Below w0.heap.size w0 w
def MS (n0 mb : Nat) (D : Md) (w : World) : Prop := ∃ dt A on oc sa se fm, MB n0 mb D dt A on oc sa se fm w
theorem MB.ms {n0 mb : Nat} {D : Md} {dt : Int} {A : Option Addr} {on oc : Nat} {sa se fm : Value} {w : World} (h : MB n0 mb D dt A on oc sa se fm w) : MS n0 mb D w := ⟨_, _, _, _, _, _, _, h⟩
theorem MB.lt {n0 mb : Nat} {D : Md} {dt : Int} {A : Option Addr} {on oc : Nat} {sa se fm : Value} {w : World} (h : MB n0 mb D dt A on oc sa se fm w) : mb < w.heap.size ∧ n0 ≤ mb ∧ n0 ≤ w.heap.size := by
  have h1 := (Array.getElem?_eq_some_iff.1 h.1).1
  have h2 := h.2.2.2.2.1
  omega
theorem MB.env {n0 mb : Nat} {D : Md} {dt : Int} {A : Option Addr} {on oc : Nat} {sa se fm : Value} {w : World} (h : MB n0 mb D dt A on oc sa se fm w) : Env w := by
  obtain ⟨w0, he, _, hb⟩ := h.2.2.2.2.2.2.2.2
  exact he.below hb
theorem MS.size {n0 mb : Nat} {D : Md} {w : World} (h : MS n0 mb D w) : n0 ≤ w.heap.size := by
  obtain ⟨_, _, _, _, _, _, _, h⟩ := h
  exact h.lt.2.2
theorem MS.env {n0 mb : Nat} {D : Md} {w : World} (h : MS n0 mb D w) : Env w := by
  obtain ⟨_, _, _, _, _, _, _, h⟩ := h
  exact h.env
theorem bytes_stay {w w' : World} {g n : Nat} {l : List Nat} (h : Bytes w (some ⟨g, 0, none⟩) n l) (e : 0 < n → w'.heap[g]? = w.heap[g]?) : Bytes w' (some ⟨g, 0, none⟩) n l := by
  refine ⟨h.1, h.2.1, fun h0 => ?_⟩
  exact (bytes_keep h (e h0)).2.2 h0
theorem Lz.touch {G : Nat → Prop} {n0 mb : Nat} {fm : Value} {w w' : World} {v : Value} {l : List Nat} (h : Lz n0 mb fm w v l) (ht : codec.Touch G w w') (hG : ∀ g, g ≠ mb → fm ≠ .map (some g) → ¬ G g) : Lz n0 mb fm w' v l := by
  rcases h with h | ⟨g, h1, h2, h3, h4, h5, h6⟩
  · exact .inl h
  · exact .inr ⟨g, h1, h2, Nat.lt_of_lt_of_le h3 ht.2.2.2.1, h4, h5, bytes_keep h6 (ht.2.2.2.2 g h3 (hG g h4 h5))⟩
theorem Fl.touch {G : Nat → Prop} {n0 mb : Nat} {fm : Value} {w w' : World} {o : List Nat} (h : Fl n0 mb w fm o) (ht : codec.Touch G w w') (hG : ∀ g, g ≠ mb → ¬ G g) : Fl n0 mb w' fm o := by
  rcases h with h | ⟨fb, n, D, h1, h2, h3, h4, h5, h6, h7⟩
  · exact .inl h
  · refine .inr ⟨fb, n, D, h1, h2, h3, ?_, h5, h6, fun nm hn => ?_⟩
    · obtain ⟨es, clock, k1, k2⟩ := h4
      exact ⟨es, clock, (ht.2.2.2.2 fb (Array.getElem?_eq_some_iff.1 k1).1 (hG fb h3)).trans k1, k2⟩
    · obtain ⟨g, k1, k2, k3, k4, k5, k6⟩ := h7 nm hn
      exact ⟨g, k1, k2, Nat.lt_of_lt_of_le k3 ht.2.2.2.1, k4, k5, bytes_keep k6 (ht.2.2.2.2 g k3 (hG g k4))⟩
theorem MB.below {n0 mb : Nat} {D : Md} {dt : Int} {A : Option Addr} {on oc : Nat} {sa se fm : Value} {w w' : World} (h : MB n0 mb D dt A on oc sa se fm w) (hb : Below w.heap.size w w') : MB n0 mb D dt A on oc sa se fm w' := by
  have hl := h.lt
  obtain ⟨h1, h2, h3, h4, h5, h6, h7, h8, w0, h9, h10, h11⟩ := h
  have ht := below_touch (fun _ => False) hb
  exact ⟨(hb.block mb hl.1).trans h1, h2.below hb, h3, h4, h5, h6.touch ht (fun _ _ _ h => h), h7.touch ht (fun _ _ _ h => h), h8.touch ht (fun _ _ h => h), w0, h9, h10, h11.trans (hb.mono (by omega))⟩
theorem MS.below {n0 mb : Nat} {D : Md} {w w' : World} (h : MS n0 mb D w) (hb : Below w.heap.size w w') : MS n0 mb D w' := by
  obtain ⟨_, _, _, _, _, _, _, h⟩ := h
  exact (h.below hb).ms
theorem MB.cells {n0 mb : Nat} {D : Md} {dt : Int} {A : Option Addr} {on oc : Nat} {sa se fm : Value} {w : World} (h : MB n0 mb D dt A on oc sa se fm w) :
    w.cell? ⟨mb, 0, none⟩ = some (.int .u32 (D.uid : Nat)) ∧ w.cell? ⟨mb, 2, none⟩ = some (.int .i64 D.flags) ∧ w.cell? ⟨mb, 3, none⟩ = some (.slice A on oc) ∧ w.cell? ⟨mb, 4, none⟩ = some (.int .u32 (D.num : Nat)) ∧ w.cell? ⟨mb, 5, none⟩ = some (.int .u32 (D.ln : Nat)) ∧ w.cell? ⟨mb, 6, none⟩ = some (.int .u32 (D.lu : Nat)) ∧ w.cell? ⟨mb, 7, none⟩ = some sa ∧ w.cell? ⟨mb, 8, none⟩ = some se ∧ w.cell? ⟨mb, 9, none⟩ = some fm ∧ ∀ i, w.frozen? ⟨mb, i, none⟩ = false := by
  have h1 := h.1
  unfold mcells at h1
  refine ⟨?_, ?_, ?_, ?_, ?_, ?_, ?_, ?_, ?_, fun i => ?_⟩
  all_goals first | simp [World.cell?, h1] | simp [World.frozen?, h1]
theorem set_touch (w : World) (mb i : Nat) (v : Value) : codec.Touch (· = mb) w (w.setCell ⟨mb, i, none⟩ v) := codec.Touch.setCell (F := fun x => x = mb) (codec.Touch.refl (fun x => x = mb) w) ⟨mb, i, none⟩ (.inr rfl) v
/-- What is changed of the message alone. -/
theorem MB.set {n0 mb : Nat} {D : Md} {dt : Int} {A : Option Addr} {on oc : Nat} {sa se fm : Value} {w : World} (h : MB n0 mb D dt A on oc sa se fm w) (i : Nat) (v : Value) (sa' se' : Value)
    (hi : (mcells D dt A on oc sa se fm).setIfInBounds i v = mcells D dt A on oc sa' se' fm) (h6 : Lz n0 mb fm w sa' (lowL D.oct)) (h7 : Lz n0 mb fm w se' (bodL D.oct)) : MB n0 mb D dt A on oc sa' se' fm (w.setCell ⟨mb, i, none⟩ v) := by
  have hl := h.lt
  have ht := set_touch w mb i v
  obtain ⟨h1, h2, h3, h4, h5, _, _, h8, w0, h9, h10, h11⟩ := h
  refine ⟨?_, ⟨h2.1.touch (fun a ha h0 e => ?_) ht, h2.2⟩, h3, h4, h5, h6.touch ht (fun g hg _ e => hg e), h7.touch ht (fun g hg _ e => hg e), h8.touch ht (fun g hg e => hg e), w0, h9, h10, h11.trans (ht.toBelow _ (by omega) (fun i hi e => by omega))⟩
  · rw [heap_setCell_same w mb i _ _ _ h1, hi]
  · have := h4 a ha h0
    omega
end Go.Proofs.YtcepcamedmiinaaGreatDoor.sea
namespace Go.Proofs.YtcepcamedmiinaaGreatDoor.sea
open Go.ChangeShapes Go.WideShapes Go.ChangeAt Go.RowKit Go.Maps Go.WideMaps
open Go.Proofs.YtcepcamedmiinaaGreatDoor.codec (Bytes vals)
open Go.Proofs.YtcepcamedmiinaaGreatDoor.row (Rd Fm)
open Go.Proofs.YtcepcamedmiinaaGreatDoor.hd (Sl)
set_option linter.unusedVariables false
set_option maxRecDepth 100000
set_option linter.unusedSimpArgs false

/-- What asking may change: the message, its map, and what comes. -/
structure Gone (n0 mb : Nat) (w w' : World) : Prop where
  bel : Below n0 w w'
  fr : ∀ x cs t m, x ≠ mb → w.heap[x]? = some (.cells cs t m) → w'.heap[x]? = some (.cells cs t m)
theorem Gone.refl (n0 mb : Nat) (w : World) : Gone n0 mb w w := ⟨Below.refl _ _, fun _ _ _ _ _ h => h⟩
theorem Gone.trans {n0 mb : Nat} {a b c : World} (h : Gone n0 mb a b) (k : Gone n0 mb b c) : Gone n0 mb a c := ⟨h.bel.trans k.bel, fun x cs t m hx hc => k.fr x cs t m hx (h.fr x cs t m hx hc)⟩
/-- What asking a message for bytes answers. -/
def AskAns (n0 mb : Nat) (D : Md) (l : List Nat) (w : World) (e : Ending) (w' : World) : Prop :=
  ∃ g n, e = .returned (.slice (some ⟨g, 0, none⟩) n n) ∧ MS n0 mb D w' ∧ Gone n0 mb w w' ∧ Bytes w' (some ⟨g, 0, none⟩) n l
theorem gone_of {n0 mb : Nat} {w w' : World} (hn : n0 ≤ w.heap.size) (hb : Below w.heap.size w w') : Gone n0 mb w w' := ⟨hb.mono hn, fun x cs t m _ hc => (hb.block x (Array.getElem?_eq_some_iff.1 hc).1).trans hc⟩
theorem gone_set {n0 mb : Nat} (w : World) (i : Nat) (v : Value) (h : n0 ≤ mb) : Gone n0 mb w (w.setCell ⟨mb, i, none⟩ v) := ⟨(Below.refl _ _).setCell (p := ⟨mb, i, none⟩) h v, fun x cs t m hx hc => ((set_touch w mb i v).2.2.2.2 x (Array.getElem?_eq_some_iff.1 hc).1 hx).trans hc⟩
theorem nil_eq (w : World) : (binOp BinOp.eql 37 (Value.slice none 0 0) (Value.slice none 0 0)).run Tryz.prog w = .ok (.bool true) w := by kernel_rfl
theorem nil_ne (w : World) (g n c : Nat) : (binOp BinOp.eql 37 (Value.slice (some ⟨g, 0, none⟩) n c) (Value.slice none 0 0)).run Tryz.prog w = .ok (.bool false) w := by kernel_rfl
theorem map_ne (w : World) (b : Nat) : (binOp BinOp.eql 50 (Value.map (some b)) (Value.map none)).run Tryz.prog w = .ok (.bool false) w := by kernel_rfl
theorem map_eq (w : World) : (binOp BinOp.eql 50 (Value.map none) (Value.map none)).run Tryz.prog w = .ok (.bool true) w := by kernel_rfl
set_option maxHeartbeats 2000000 in
theorem octets_any (n0 mb : Nat) (D : Md) (w : World) (h : MS n0 mb D w) :
    Calls Tryz.prog 40 #[.pointer (some ⟨mb, 0, none⟩)] w (AskAns n0 mb D (lowL D.oct) w) := by
  obtain ⟨dt, A, on, oc, sa, se, fm, hM⟩ := h
  have HM := Lib.hid hM
  obtain ⟨c0, c2, c3, c4, c5, c6, c7, c8, c9, fz⟩ := hM.cells
  have hlt := hM.lt.1
  have q1 := nil_eq
  have q2 := nil_ne
  rcases hM.2.2.2.2.2.1 with e | ⟨g, e, k1, k2, k3, k4, k5⟩
  · subst e
    have HS := Lib.hid (smallB_any w A on oc D.oct hM.2.1.1 (by have := hM.2.2.1; omega))
    clear hM c0 c2 c4 c5 c6 c8 c9
    go_enter Tryz.func40, Tryz.ntmps40
    go_wp2_with fail
    refine HS.out.mono ?_
    rintro e w1 ⟨g, rfl, h1, h2, h3, h4⟩
    have H1 := Lib.hid (And.intro h1 (And.intro h2 h3))
    have HM1 := Lib.hid (HM.out.below h4)
    have HB := Lib.hid (gone_of (mb := mb) HM.out.lt.2.2 h4)
    obtain ⟨_, _, _, _, _, _, d7, _, _, fz1⟩ := HM1.out.cells
    have hlt1 := HM1.out.lt.1
    have hz : (D.oct.length : Nat) = (lowL D.oct).length := (lowL_len _).symm
    clear h1 h2 h3 h4 c3 c7 fz hlt
    have HLz : Hid (Lz n0 mb fm w1 (.slice (some ⟨g, 0, none⟩) D.oct.length D.oct.length) (lowL D.oct)) := Lib.hid (.inr ⟨g, by rw [lowL_len], by have := H1.out.1; have := HM.out.lt; omega, H1.out.2.1, by have := H1.out.1; have := HM.out.lt; omega, fun e => by
      rcases HM.out.2.2.2.2.2.2.2.1 with e2 | ⟨fb, _, _, e2, _, _, hown, _⟩
      · rw [e2] at e; cases e
      · rw [e2] at e
        cases e
        have := hown.lt
        have := H1.out.1
        omega, by rw [lowL_len]; exact H1.out.2.2⟩)
    have HM2 := Lib.hid (HM1.out.set 7 (.slice (some ⟨g, 0, none⟩) D.oct.length D.oct.length) _ _ rfl HLz.out HM1.out.2.2.2.2.2.2.1)
    generalize hn : D.oct.length = n at *
    have HN := Lib.hid hn
    clear hn hz
    go_wp2_with fail
    go_ret
    exact ⟨g, n, rfl, HM2.out.ms, HB.out.trans (gone_set _ _ _ HM.out.2.2.2.2.1), bytes_keep H1.out.2.2 (by
      have h9 := H1.out.1
      have h8 := HM.out.lt
      exact (set_touch w1 mb 7 _).2.2.2.2 g H1.out.2.1 (by omega))⟩
  · subst e
    have HB5 := Lib.hid k5
    clear hM c0 c2 c4 c5 c6 c8 c9 k1 k2 k3 k4 k5
    generalize hn : (lowL D.oct).length = n at *
    go_enter Tryz.func40, Tryz.ntmps40
    go_wp2
    go_ret
    exact ⟨g, n, rfl, HM.out.ms, Gone.refl _ _ _, HB5.out⟩
set_option maxHeartbeats 2000000 in
theorem text_any (n0 mb : Nat) (D : Md) (w : World) (h : MS n0 mb D w) :
    Calls Tryz.prog 38 #[.pointer (some ⟨mb, 0, none⟩)] w (AskAns n0 mb D (bodL D.oct) w) := by
  obtain ⟨dt, A, on, oc, sa, se, fm, hM⟩ := h
  have HM := Lib.hid hM
  obtain ⟨c0, c2, c3, c4, c5, c6, c7, c8, c9, fz⟩ := hM.cells
  have hlt := hM.lt.1
  have q1 := nil_eq
  have q2 := nil_ne
  rcases hM.2.2.2.2.2.2.1 with e | ⟨g, e, k1, k2, k3, k4, k5⟩
  · subst e
    have HC := Lib.hid (hd.headCut_any w A on oc D.oct hM.2.1 (by have := hM.2.2.1; omega) hM.env.room)
    clear hM c0 c2 c4 c5 c6 c7 c9
    go_enter Tryz.func38, Tryz.ntmps38
    go_wp2_with fail
    refine HC.out.mono ?_
    rintro e w0 ⟨G, gk, H, hj, rfl, _, hB, hb0⟩
    have HM0 := Lib.hid (HM.out.below hb0)
    have HB0 := Lib.hid (gone_of (mb := mb) HM.out.lt.2.2 hb0)
    have hol : D.oct.length ≤ 60000 := by have := HM.out.2.1.1.1; have := HM.out.2.2.1; omega
    have HTx : Hid (bodL D.oct = lowL (D.oct.drop (hd.headN D.oct))) := Lib.hid rfl
    have hle : D.oct.length - hd.headN D.oct ≤ 60000 := by omega
    generalize D.oct.drop (hd.headN D.oct) = tx at *
    generalize D.oct.length - hd.headN D.oct = n at *
    generalize hd.headN D.oct = hN at *
    have HS := Lib.hid (smallB_any w0 H n hj tx hB (by omega))
    have hl : tx.length = n := hB.1
    unfold SmallAns at HS
    rw [hl] at HS
    have HLo := Lib.hid hl
    obtain ⟨_, _, _, _, _, _, _, d8, _, fz0⟩ := HM0.out.cells
    clear hB hb0 c3 c8 fz hlt hol hl hle
    go_wp2_with fail
    refine HS.out.mono ?_
    rintro e w1 ⟨g, rfl, h1, h2, h3, h4⟩
    have H1 := Lib.hid (And.intro h1 (And.intro h2 h3))
    have HM1 := Lib.hid (HM0.out.below h4)
    have HB := Lib.hid (HB0.out.trans (gone_of HM0.out.lt.2.2 h4))
    obtain ⟨_, _, _, _, _, _, _, e8, _, fz1⟩ := HM1.out.cells
    have hlt1 := HM1.out.lt.1
    have HLz : Hid (Lz n0 mb fm w1 (.slice (some ⟨g, 0, none⟩) n n) (bodL D.oct)) := Lib.hid (.inr ⟨g, by rw [HTx.out, lowL_len, HLo.out], by have := H1.out.1; have := HM0.out.lt; omega, H1.out.2.1, by have := H1.out.1; have := HM0.out.lt; omega, fun e => by
      rcases HM0.out.2.2.2.2.2.2.2.1 with e2 | ⟨fb, _, _, e2, _, _, hown, _⟩
      · rw [e2] at e; cases e
      · rw [e2] at e
        cases e
        have := hown.lt
        have := H1.out.1
        omega, by rw [HTx.out, lowL_len, HLo.out]; exact H1.out.2.2⟩)
    have HM2 := Lib.hid (HM1.out.set 8 (.slice (some ⟨g, 0, none⟩) n n) _ _ rfl HM1.out.2.2.2.2.2.1 HLz.out)
    clear h1 h2 h3 h4 d8 fz0
    go_wp2_with fail
    go_ret
    exact ⟨g, n, rfl, HM2.out.ms, HB.out.trans (gone_set _ _ _ HM.out.2.2.2.2.1), by rw [HTx.out]; exact bytes_keep H1.out.2.2 (by
      have h9 := H1.out.1
      have h8 := HM0.out.lt
      exact (set_touch w1 mb 8 _).2.2.2.2 g H1.out.2.1 (by omega))⟩
  · subst e
    have HB5 := Lib.hid k5
    clear hM c0 c2 c4 c5 c6 c7 c9 k1 k2 k3 k4 k5
    generalize hn : (bodL D.oct).length = n at *
    go_enter Tryz.func38, Tryz.ntmps38
    go_wp2
    go_ret
    exact ⟨g, n, rfl, HM.out.ms, Gone.refl _ _ _, HB5.out⟩
end Go.Proofs.YtcepcamedmiinaaGreatDoor.sea
