/- What the reader of a time's text does. -/
import Derived.Test.YtehecgkmckoolaaDoorDatA
import Derived.Test.YtehecgkmckoolaaDoorDatO
import Derived.Shelf.Strings.LastIndex
namespace Go.Proofs.YtehecgkmckoolaaDoor.dat
open Go.ChangeShapes Go.WideShapes Go.ChangeAt Go.RowKit
open Go.Lib (dg itoa byteCells strCells)
set_option linter.unusedVariables false
set_option linter.unusedSimpArgs false

/-- A reader at p that has come to k, or is bad. -/
def St (w : World) (p : Nat) (s : ByteArray) : Option Nat → Prop
  | some k => k ≤ s.size ∧ w.heap[p]? = some (.cells #[.string (s.extract k s.size), .bool false] 40 (0, 0))
  | none => ∃ k, k ≤ s.size ∧ w.heap[p]? = some (.cells #[.string (s.extract k s.size), .bool true] 40 (0, 0))
theorem St.at_ {w : World} {p : Nat} {s : ByteArray} {o : Option Nat} (h : St w p s o) : ∃ k, k ≤ s.size ∧ w.heap[p]? = some (.cells #[.string (s.extract k s.size), .bool o.isNone] 40 (0, 0)) := by
  cases o with
  | none => exact h
  | some k => exact ⟨k, h⟩
theorem facts {w : World} {p : Nat} {r : ByteArray} {b : Bool} (h : w.heap[p]? = some (.cells #[.string r, .bool b] 40 (0, 0))) :
    w.cell? ⟨p, 0, none⟩ = some (.string r) ∧ w.cell? ⟨p, 0 + 1, none⟩ = some (.bool b) ∧ w.frozen? ⟨p, 0, none⟩ = false ∧ w.frozen? ⟨p, 0 + 1, none⟩ = false ∧ p < w.heap.size :=
  ⟨by simp [World.cell?, h], by simp [World.cell?, h], by simp [World.frozen?, h], by simp [World.frozen?, h], (Array.getElem?_eq_some_iff.1 h).1⟩
theorem set0 {w : World} {p : Nat} {r r' : ByteArray} {b : Bool} (h : w.heap[p]? = some (.cells #[.string r, .bool b] 40 (0, 0))) :
    (w.setCell ⟨p, 0, none⟩ (.string r')).heap[p]? = some (.cells #[.string r', .bool b] 40 (0, 0)) := by
  rw [heap_setCell_same w p 0 _ _ _ h]; rfl
theorem set1 {w : World} {p : Nat} {r : ByteArray} {b b' : Bool} (h : w.heap[p]? = some (.cells #[.string r, .bool b] 40 (0, 0))) :
    (w.setCell ⟨p, 0 + 1, none⟩ (.bool b')).heap[p]? = some (.cells #[.string r, .bool b'] 40 (0, 0)) := by
  rw [heap_setCell_same w p (0 + 1) _ _ _ h]; rfl
theorem below_set (w : World) (p i : Nat) (v : Value) : Below p w (w.setCell ⟨p, i, none⟩ v) := (Below.refl p w).setCell (p := ⟨p, i, none⟩) (Nat.le_refl p) v
theorem size_rest (s : ByteArray) (k : Nat) : (s.extract k s.size).size = s.size - k := by rw [ByteArray.size_extract]; omega
theorem rest_take (s : ByteArray) (k n : Nat) (h : k + n ≤ s.size) : (s.extract k s.size).extract 0 n = s.extract k (k + n) := by
  rw [ByteArray.extract_extract]
  congr 1 <;> omega
theorem rest_drop (s : ByteArray) (k n : Nat) (h : k + n ≤ s.size) : (s.extract k s.size).extract n (s.extract k s.size).size = s.extract (k + n) s.size := by
  rw [size_rest, ByteArray.extract_extract]
  congr 1 <;> omega
def tkS (s : ByteArray) (n : Nat) (o : Option Nat) : ByteArray := match o with | some k => if k + n ≤ s.size then s.extract k (k + n) else ⟨#[]⟩ | none => ⟨#[]⟩

theorem take_any (w : World) (p : Nat) (s : ByteArray) (o : Option Nat) (n : Nat) (hn : n ≤ 10) (hz : s.size ≤ 1000) (h : St w p s o) :
    Calls Tryd.prog 36 #[.pointer (some ⟨p, 0, none⟩), .int .i64 n] w fun e w' => e = .returned (.string (tkS s n o)) ∧ St w' p s (tk s n o) ∧ Below p w w' := by
  cases o with
  | none =>
    obtain ⟨k, hk, hb⟩ := h
    obtain ⟨c0, c1, f0, f1, hlt⟩ := facts hb
    have hs1 := set1 (b' := true) hb
    have HS := Lib.hid (show St (w.setCell ⟨p, 0 + 1, none⟩ (.bool true)) p s none ∧ Below p w (w.setCell ⟨p, 0 + 1, none⟩ (.bool true)) from ⟨⟨k, hk, hs1⟩, below_set w p _ _⟩)
    clear hs1 hb
    go_enter Tryd.func36, Tryd.ntmps36
    go_wp2
    go_ret
    exact ⟨rfl, HS.out⟩
  | some k =>
    obtain ⟨hk, hb⟩ := h
    by_cases hf : k + n ≤ s.size
    · have e1 : tkS s n (some k) = (s.extract k s.size).extract 0 n := by
        simp only [tkS]; rw [if_pos hf, rest_take s k n hf]
      have e2 : tk s n (some k) = some (k + n) := by simp [tk, hf]
      rw [e1, e2]
      have hs0 := set0 (r' := (s.extract k s.size).extract n (s.extract k s.size).size) hb
      have hst : St (w.setCell ⟨p, 0, none⟩ (.string ((s.extract k s.size).extract n (s.extract k s.size).size))) p s (some (k + n)) ∧ Below p w (w.setCell ⟨p, 0, none⟩ (.string ((s.extract k s.size).extract n (s.extract k s.size).size))) :=
        ⟨⟨hf, by rw [← rest_drop s k n hf]; exact hs0⟩, below_set w p _ _⟩
      have hrz := size_rest s k
      obtain ⟨r, hr⟩ : ∃ r, s.extract k s.size = r := ⟨_, rfl⟩
      rw [hr] at hb hs0 hst hrz ⊢
      have hrn : n ≤ r.size := by omega
      obtain ⟨c0, c1, f0, f1, hlt⟩ := facts hb
      have HST := Lib.hid hst
      clear hst hs0 hr hb e1 e2
      have hrz2 : r.size ≤ 1000 := by omega
      clear hrz
      go_enter Tryd.func36, Tryd.ntmps36
      go_wp2
      go_ret
      exact ⟨rfl, HST.out⟩
    · have e1 : tkS s n (some k) = ⟨#[]⟩ := by simp only [tkS]; rw [if_neg hf]
      have e2 : tk s n (some k) = none := by simp [tk]; omega
      rw [e1, e2]
      have hs1 := set1 (b' := true) hb
      have HST := Lib.hid (show St (w.setCell ⟨p, 0 + 1, none⟩ (.bool true)) p s none ∧ Below p w (w.setCell ⟨p, 0 + 1, none⟩ (.bool true)) from ⟨⟨k, hk, hs1⟩, below_set w p _ _⟩)
      have hrz := size_rest s k
      obtain ⟨r, hr⟩ : ∃ r, s.extract k s.size = r := ⟨_, rfl⟩
      rw [hr] at hb hs1 hrz
      have hrn : r.size < n := by omega
      obtain ⟨c0, c1, f0, f1, hlt⟩ := facts hb
      clear hs1 hr hb e1 e2 hrz
      go_enter Tryd.func36, Tryd.ntmps36
      go_wp2
      go_ret
      exact ⟨rfl, HST.out⟩
theorem St.bad {w : World} {p : Nat} {s : ByteArray} {o : Option Nat} (h : St w p s o) : St (w.setCell ⟨p, 0 + 1, none⟩ (.bool true)) p s none ∧ Below p w (w.setCell ⟨p, 0 + 1, none⟩ (.bool true)) := by
  obtain ⟨k, hk, hb⟩ := h.at_
  exact ⟨⟨k, hk, set1 (b' := true) hb⟩, below_set w p _ _⟩
theorem St.lt {w : World} {p : Nat} {s : ByteArray} {o : Option Nat} (h : St w p s o) : p < w.heap.size := by
  obtain ⟨k, hk, hb⟩ := h.at_
  exact (facts hb).2.2.2.2
theorem St.free {w : World} {p : Nat} {s : ByteArray} {o : Option Nat} (h : St w p s o) : w.frozen? ⟨p, 0 + 1, none⟩ = false ∧ ∃ v, w.cell? ⟨p, 0 + 1, none⟩ = some (.bool v) := by
  obtain ⟨k, hk, hb⟩ := h.at_
  exact ⟨(facts hb).2.2.2.1, _, (facts hb).2.1⟩
theorem byte_one (s : ByteArray) (k : Nat) (h : k + 1 ≤ s.size) : ∃ x : UInt8, s.extract k (k + 1) = ⟨#[x]⟩ ∧ x.toNat = byt s k := by
  have hz : (s.extract k (k + 1)).size = 1 := by rw [ByteArray.size_extract]; omega
  have hb : byt (s.extract k (k + 1)) 0 = byt s k := byt_extract s k (k + 1) 0 (by omega) h
  rw [← hb]
  generalize s.extract k (k + 1) = q at hz
  obtain ⟨⟨l⟩⟩ := q
  match l, hz with
  | [x], _ => exact ⟨x, rfl, (byt_of [x] 0).symm⟩

theorem mark_any (w : World) (p : Nat) (s : ByteArray) (o : Option Nat) (c : Nat) (hc : c < 256) (hz : s.size ≤ 1000) (h : St w p s o) :
    Calls Tryd.prog 24 #[.pointer (some ⟨p, 0, none⟩), .int .u8 c] w fun e w' => e = .returned (.tuple #[]) ∧ St w' p s (mk s c o) ∧ Below p w w' := by
  have ht := take_any w p s o 1 (by omega) hz h
  have HT := Lib.hid ht
  clear ht
  cases o with
  | none =>
    go_enter Tryd.func24, Tryd.ntmps24
    go_wp2_with (go_at_call 36; refine HT.out.mono ?_; rintro e w1 ⟨rfl, hst, hb⟩; simp only [tkS])
    go_end0
    exact ⟨rfl, hst, hb⟩
  | some k =>
    by_cases hk : k + 1 ≤ s.size
    · obtain ⟨x, hx, hxb⟩ := byte_one s k hk
      have e1 : tkS s 1 (some k) = ⟨#[x]⟩ := by simp only [tkS]; rw [if_pos hk, hx]
      have e2 : tk s 1 (some k) = some (k + 1) := by simp [tk, hk]
      by_cases hm : byt s k = c
      · have e3 : mk s c (some k) = some (k + 1) := by simp [mk, hk, hm]
        rw [e3]
        have hxc : ((((⟨#[x]⟩ : ByteArray)[0]'(Nat.zero_lt_one)).toNat : Int) != (c : Int)) = false := by
          show ((x.toNat : Int) != (c : Int)) = false
          simp; omega
        have HX := Lib.hid e1
        clear e1 hx hxb hm
        go_enter Tryd.func24, Tryd.ntmps24
        go_wp2_with (go_at_call 36; refine HT.out.mono ?_; rintro e w1 ⟨rfl, hst, hb⟩; rw [HX.out])
        go_end0
        rw [e2] at hst
        exact ⟨rfl, hst, hb⟩
      · have e3 : mk s c (some k) = none := by simp [mk, hm]
        rw [e3]
        have hxc : ((((⟨#[x]⟩ : ByteArray)[0]'(Nat.zero_lt_one)).toNat : Int) != (c : Int)) = true := by
          show ((x.toNat : Int) != (c : Int)) = true
          simp; omega
        have HX := Lib.hid e1
        clear e1 hx hxb hm
        go_enter Tryd.func24, Tryd.ntmps24
        go_wp2_with (go_at_call 36; refine HT.out.mono ?_; rintro e w1 ⟨rfl, hst, hb⟩; rw [HX.out]; obtain ⟨f1, v, c1⟩ := hst.free; have hbad := Lib.hid hst.bad; clear hst)
        go_end0
        exact ⟨rfl, hbad.out.1, hb.trans hbad.out.2⟩
    · have e1 : tkS s 1 (some k) = ⟨#[]⟩ := by simp only [tkS]; rw [if_neg hk]
      have e2 : tk s 1 (some k) = none := by simp [tk]; omega
      have e3 : mk s c (some k) = none := by simp [mk]; omega
      rw [e3]
      have HX := Lib.hid e1
      clear e1
      go_enter Tryd.func24, Tryd.ntmps24
      go_wp2_with (go_at_call 36; refine HT.out.mono ?_; rintro e w1 ⟨rfl, hst, hb⟩; rw [HX.out])
      go_end0
      rw [e2] at hst
      exact ⟨rfl, hst, hb⟩

theorem done_any (w : World) (p : Nat) (s : ByteArray) (o : Option Nat) (hz : s.size ≤ 1000) (h : St w p s o) :
    Calls Tryd.prog 28 #[.pointer (some ⟨p, 0, none⟩)] w fun e w' => e = .returned (.bool (decide (o = some s.size))) ∧ w' = w := by
  cases o with
  | none =>
    obtain ⟨k, hk, hb⟩ := h
    obtain ⟨c0, c1, f0, f1, hlt⟩ := facts hb
    clear hb
    go_enter Tryd.func28, Tryd.ntmps28
    go_wp2
    go_ret
    exact ⟨rfl, rfl⟩
  | some k =>
    obtain ⟨hk, hb⟩ := h
    have hrz := size_rest s k
    have hd : decide (some k = some s.size) = decide (k = s.size) := by simp
    rw [hd]
    by_cases hks : k = s.size
    · rw [decide_eq_true hks]
      have he : s.extract k s.size = ⟨#[]⟩ := by
        apply ByteArray.ext
        apply Array.eq_empty_of_size_eq_zero
        show (s.extract k s.size).size = 0
        omega
      rw [he] at hb
      obtain ⟨c0, c1, f0, f1, hlt⟩ := facts hb
      clear hb he hks
      go_enter Tryd.func28, Tryd.ntmps28
      go_wp2
      go_ret
      exact ⟨rfl, rfl⟩
    · rw [decide_eq_false hks]
      obtain ⟨r, hr⟩ : ∃ r, s.extract k s.size = r := ⟨_, rfl⟩
      rw [hr] at hb hrz
      have hne : (r.toList == ([] : List UInt8)) = false := by
        rw [beq_eq_false_iff_ne]
        intro hc
        have h1 : r.size = 0 := by
          have : r = ⟨#[]⟩ := LastIndex.eq_of_toList (by rw [hc, Lib.toList_data])
          rw [this]; rfl
        omega
      obtain ⟨c0, c1, f0, f1, hlt⟩ := facts hb
      clear hb hr
      go_enter Tryd.func28, Tryd.ntmps28
      go_wp2
      go_ret
      exact ⟨rfl, rfl⟩
end Go.Proofs.YtehecgkmckoolaaDoor.dat
