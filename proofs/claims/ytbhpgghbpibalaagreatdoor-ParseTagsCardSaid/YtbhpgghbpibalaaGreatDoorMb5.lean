/- What a reader comes to. -/
import Derived.Test.YtbhpgghbpibalaaGreatDoorMb3
import Derived.Shelf.Strings.LastIndex
namespace Go.Proofs.YtbhpgghbpibalaaGreatDoor.dat
open Go.Lib
set_option linter.unusedVariables false
set_option linter.unusedSimpArgs false

def tk (s : ByteArray) (n : Nat) (o : Option Nat) : Option Nat := o.bind fun k => if k + n ≤ s.size then some (k + n) else none
def mk (s : ByteArray) (c : Nat) (o : Option Nat) : Option Nat := o.bind fun k => if k + 1 ≤ s.size ∧ byt s k = c then some (k + 1) else none
def numO (s : ByteArray) (d most : Nat) (o : Option Nat) : Option Nat := o.bind fun k => if k + d ≤ s.size then (digs s k d).bind (fun v => if v ≤ most then some (k + d) else none) else none
def numV (s : ByteArray) (d : Nat) (o : Option Nat) : Nat := (o.bind fun k => if k + d ≤ s.size then digs s k d else none).getD 0
def dayO (s : ByteArray) : Option Nat := if 0 < s.size ∧ byt s 0 = 32 then numO s 1 9 (some 1) else numO s 2 31 (some 0)
def dayV (s : ByteArray) : Nat := if 0 < s.size ∧ byt s 0 = 32 then numV s 1 (some 1) else numV s 2 (some 0)
def monO (s : ByteArray) (o : Option Nat) : Option Nat := o.bind fun k => if k + 3 ≤ s.size ∧ mon (code s k) ≠ 0 then some (k + 3) else none
def monV (s : ByteArray) (o : Option Nat) : Nat := (o.bind fun k => if k + 3 ≤ s.size then some (mon (code s k)) else none).getD 0
def signV (s : ByteArray) (o : Option Nat) : Nat := (o.bind fun k => if k + 1 ≤ s.size then some (byt s k) else none).getD 0
def zonO (s : ByteArray) (o : Option Nat) : Option Nat := if signV s o = 43 ∨ signV s o = 45 then numO s 2 59 (numO s 2 14 (tk s 1 o)) else none
def zonH (s : ByteArray) (o : Option Nat) : Nat := numV s 2 (tk s 1 o)
def zonM (s : ByteArray) (o : Option Nat) : Nat := numV s 2 (numO s 2 14 (tk s 1 o))
def zonV (s : ByteArray) (o : Option Nat) : Int := if signV s o = 43 then ((zonH s o * 3600 + zonM s o * 60 : Nat) : Int) else if signV s o = 45 then -((zonH s o * 3600 + zonM s o * 60 : Nat) : Int) else 0
theorem numV_lt (s : ByteArray) (d : Nat) (o : Option Nat) : numV s d o < 10 ^ d := by
  unfold numV
  cases o with
  | none => simp; exact Nat.pow_pos (by omega)
  | some k =>
    simp only [Option.bind_some]
    split
    · cases h : digs s k d with
      | none => simp; exact Nat.pow_pos (by omega)
      | some v => exact digs_lt s k d v h
    · simp; exact Nat.pow_pos (by omega)
theorem monV_le (s : ByteArray) (o : Option Nat) : monV s o ≤ 12 := by
  unfold monV
  cases o with
  | none => simp
  | some k =>
    simp only [Option.bind_some]
    split
    · exact mon_le _
    · simp
theorem dayV_lt (s : ByteArray) : dayV s < 100 := by
  unfold dayV
  split
  · have := numV_lt s 1 (some 1); omega
  · have := numV_lt s 2 (some 0); omega

theorem mk_some {s : ByteArray} {c j : Nat} {o : Option Nat} (h : mk s c o = some j) : ∃ k, o = some k ∧ j = k + 1 ∧ j ≤ s.size ∧ byt s k = c := by
  unfold mk at h
  simp only [Option.bind_eq_some_iff] at h
  obtain ⟨k, rfl, h⟩ := h
  split at h
  · rename_i hc
    cases h
    exact ⟨k, rfl, rfl, hc.1, hc.2⟩
  · cases h
theorem numO_some {s : ByteArray} {d most j : Nat} {o : Option Nat} (h : numO s d most o = some j) : ∃ k v, o = some k ∧ j = k + d ∧ j ≤ s.size ∧ digs s k d = some v ∧ v ≤ most ∧ numV s d o = v := by
  unfold numO at h
  simp only [Option.bind_eq_some_iff] at h
  obtain ⟨k, rfl, h⟩ := h
  split at h
  · rename_i hc
    simp only [Option.bind_eq_some_iff] at h
    obtain ⟨v, hv, h⟩ := h
    split at h
    · rename_i hm
      cases h
      exact ⟨k, v, rfl, rfl, hc, hv, hm, by simp [numV, hc, hv]⟩
    · cases h
  · cases h
theorem monO_some {s : ByteArray} {j : Nat} {o : Option Nat} (h : monO s o = some j) : ∃ k, o = some k ∧ j = k + 3 ∧ j ≤ s.size ∧ mon (code s k) ≠ 0 ∧ monV s o = mon (code s k) := by
  unfold monO at h
  simp only [Option.bind_eq_some_iff] at h
  obtain ⟨k, rfl, h⟩ := h
  split at h
  · rename_i hc
    cases h
    exact ⟨k, rfl, rfl, hc.1, hc.2, by simp [monV, hc.1]⟩
  · cases h
theorem tk_some {s : ByteArray} {n j : Nat} {o : Option Nat} (h : tk s n o = some j) : ∃ k, o = some k ∧ j = k + n ∧ j ≤ s.size := by
  unfold tk at h
  simp only [Option.bind_eq_some_iff] at h
  obtain ⟨k, rfl, h⟩ := h
  split at h
  · rename_i hc
    cases h
    exact ⟨k, rfl, rfl, hc⟩
  · cases h
theorem dayO_some {s : ByteArray} {j : Nat} (h : dayO s = some j) : j = 2 ∧ 2 ≤ s.size ∧ (if byt s 0 = 32 then digs s 1 1 = some (dayV s) else digs s 0 2 = some (dayV s)) := by
  unfold dayO at h
  split at h
  · rename_i hc
    obtain ⟨k, v, hk, rfl, h1, h2, -, h3⟩ := numO_some h
    cases hk
    refine ⟨rfl, h1, ?_⟩
    unfold dayV
    rw [if_pos hc, if_pos hc.2, h3, h2]
  · rename_i hc
    obtain ⟨k, v, hk, rfl, h1, h2, -, h3⟩ := numO_some h
    cases hk
    refine ⟨rfl, by omega, ?_⟩
    unfold dayV
    rw [if_neg hc, if_neg (fun h => hc ⟨by omega, h⟩), h3, h2]
def o2 (s : ByteArray) := mk s 45 (dayO s)
def o4 (s : ByteArray) := mk s 45 (monO s (o2 s))
def o6 (s : ByteArray) := mk s 32 (numO s 4 9999 (o4 s))
def o8 (s : ByteArray) := mk s 58 (numO s 2 23 (o6 s))
def o10 (s : ByteArray) := mk s 58 (numO s 2 59 (o8 s))
def o12 (s : ByteArray) := mk s 32 (numO s 2 59 (o10 s))
def o13 (s : ByteArray) := zonO s (o12 s)
/-- All was there, and nothing is left: then it has the form. -/
theorem chain_fm {s : ByteArray} (h : o13 s = some s.size) :
    Fm s (dayV s) (monV s (o2 s)) (numV s 4 (o4 s)) (numV s 2 (o6 s)) (numV s 2 (o8 s)) (numV s 2 (o10 s)) (zonH s (o12 s)) (zonM s (o12 s)) ∧ zonV s (o12 s) = ahead s (zonH s (o12 s)) (zonM s (o12 s)) := by
  unfold o13 zonO at h
  split at h
  · rename_i hsg
    obtain ⟨k24, zm, h24, hend, -, hzm, hzm1, hzmv⟩ := numO_some h
    obtain ⟨k22, zh, h22, rfl, -, hzh, hzh1, hzhv⟩ := numO_some h24
    obtain ⟨k21, h21, rfl, -⟩ := tk_some h22
    have e12 := h21
    unfold o12 at h21
    obtain ⟨k20, h20, rfl, -, b20⟩ := mk_some h21
    obtain ⟨k18, se, h18, rfl, -, hse, hse1, hsev⟩ := numO_some h20
    have e10 := h18
    unfold o10 at h18
    obtain ⟨k17, h17, rfl, -, b17⟩ := mk_some h18
    obtain ⟨k15, mi, h15, rfl, -, hmi, hmi1, hmiv⟩ := numO_some h17
    have e8 := h15
    unfold o8 at h15
    obtain ⟨k14, h14, rfl, -, b14⟩ := mk_some h15
    obtain ⟨k12, ho, h12, rfl, -, hho, hho1, hhov⟩ := numO_some h14
    have e6 := h12
    unfold o6 at h12
    obtain ⟨k11, h11, rfl, -, b11⟩ := mk_some h12
    obtain ⟨k7, ye, h7, rfl, -, hye, hye1, hyev⟩ := numO_some h11
    have e4 := h7
    unfold o4 at h7
    obtain ⟨k6, h6, rfl, -, b6⟩ := mk_some h7
    obtain ⟨k3, h3, rfl, -, hmo, hmov⟩ := monO_some h6
    have e2 := h3
    unfold o2 at h3
    obtain ⟨k2, h2, rfl, -, b2⟩ := mk_some h3
    obtain ⟨rfl, -, hday⟩ := dayO_some h2
    simp only [Nat.reduceAdd] at *
    have hzh' : zonH s (o12 s) = zh := hzhv
    have hzm' : zonM s (o12 s) = zm := hzmv
    have hsv : signV s (o12 s) = byt s 21 := by
      rw [e12]; simp only [signV, Option.bind_some]; rw [if_pos (by omega)]; rfl
    rw [hsv] at hsg
    rw [hyev, hhov, hmiv, hsev, hmov, hzh', hzm']
    refine ⟨⟨hend, b2, b6, b11, b14, b17, b20, hsg, hday, rfl, hmo, hye, hho, hho1, hmi, hmi1, hse, hse1, hzh, hzh1, hzm, hzm1⟩, ?_⟩
    unfold zonV ahead
    rw [hsv, hzh', hzm']
    rcases hsg with h | h
    · rw [if_pos h, if_pos h]
    · rw [if_neg (by omega), if_pos h, if_neg (by omega)]
  · cases h
theorem numO_of {s : ByteArray} {d most k v : Nat} {o : Option Nat} (ho : o = some k) (hk : k + d ≤ s.size) (hv : digs s k d = some v) (hm : v ≤ most) : numO s d most o = some (k + d) := by
  subst ho
  simp [numO, hk, hv, hm]
theorem mk_of {s : ByteArray} {c k : Nat} {o : Option Nat} (ho : o = some k) (hk : k + 1 ≤ s.size) (hb : byt s k = c) : mk s c o = some (k + 1) := by
  subst ho
  simp [mk, hk, hb]
/-- What has the form is read to its end. -/
theorem chain_of {s : ByteArray} {d m y h i e zh zm : Nat} (f : Fm s d m y h i e zh zm) (hd : d ≤ daysN y m) : o13 s = some s.size := by
  have hz := f.size
  have hd31 := (daysN_pos y m).2
  have a1 : dayO s = some 2 := by
    have := f.day
    unfold dayO
    split at this
    · rename_i hc
      rw [if_pos ⟨by omega, hc⟩]
      have := digs_lt s 1 1 d this
      exact numO_of rfl (by omega) (by assumption) (by omega)
    · rename_i hc
      rw [if_neg (fun h => hc h.2)]
      exact numO_of rfl (by omega) this (by omega)
  have a2 : o2 s = some 3 := mk_of a1 (by omega) f.b2
  have a3 : monO s (o2 s) = some 6 := by
    rw [a2]
    simp only [monO, Option.bind_some]
    rw [if_pos ⟨by omega, by rw [f.month]; exact f.m0⟩]
  have a4 : o4 s = some 7 := mk_of a3 (by omega) f.b6
  have hy := digs_lt s 7 4 y f.year
  have a6 : o6 s = some 12 := mk_of (numO_of a4 (by omega) f.year (by omega)) (by omega) f.b11
  have a8 : o8 s = some 15 := mk_of (numO_of a6 (by omega) f.hour f.h1) (by omega) f.b14
  have a10 : o10 s = some 18 := mk_of (numO_of a8 (by omega) f.min f.i1) (by omega) f.b17
  have a12 : o12 s = some 21 := mk_of (numO_of a10 (by omega) f.sec f.e1) (by omega) f.b20
  have hsv : signV s (o12 s) = byt s 21 := by rw [a12]; simp only [signV, Option.bind_some]; rw [if_pos (by omega)]; rfl
  unfold o13 zonO
  rw [hsv, if_pos f.b21]
  have ht : tk s 1 (o12 s) = some 22 := by rw [a12]; simp [tk]; omega
  rw [numO_of (numO_of ht (by omega) f.zhour f.zh1) (by omega) f.zmin f.zm1, hz]
end Go.Proofs.YtbhpgghbpibalaaGreatDoor.dat
namespace Go.Proofs.YtbhpgghbpibalaaGreatDoor.dat
open Go.ChangeShapes Go.WideShapes Go.ChangeAt Go.RowKit
open Go.Lib (dg itoa byteCells strCells)
set_option linter.unusedVariables false
set_option linter.unusedSimpArgs false

/-- A reader at p that has come to k, or is bad. -/
def St (w : World) (p : Nat) (s : ByteArray) : Option Nat → Prop
  | some k => k ≤ s.size ∧ w.heap[p]? = some (.cells #[.string (s.extract k s.size), .bool false] 124 (0, 0))
  | none => ∃ k, k ≤ s.size ∧ w.heap[p]? = some (.cells #[.string (s.extract k s.size), .bool true] 124 (0, 0))
theorem St.at_ {w : World} {p : Nat} {s : ByteArray} {o : Option Nat} (h : St w p s o) : ∃ k, k ≤ s.size ∧ w.heap[p]? = some (.cells #[.string (s.extract k s.size), .bool o.isNone] 124 (0, 0)) := by
  cases o with
  | none => exact h
  | some k => exact ⟨k, h⟩
theorem facts {w : World} {p : Nat} {r : ByteArray} {b : Bool} (h : w.heap[p]? = some (.cells #[.string r, .bool b] 124 (0, 0))) :
    w.cell? ⟨p, 0, none⟩ = some (.string r) ∧ w.cell? ⟨p, 0 + 1, none⟩ = some (.bool b) ∧ w.frozen? ⟨p, 0, none⟩ = false ∧ w.frozen? ⟨p, 0 + 1, none⟩ = false ∧ p < w.heap.size :=
  ⟨by simp [World.cell?, h], by simp [World.cell?, h], by simp [World.frozen?, h], by simp [World.frozen?, h], (Array.getElem?_eq_some_iff.1 h).1⟩
theorem set0 {w : World} {p : Nat} {r r' : ByteArray} {b : Bool} (h : w.heap[p]? = some (.cells #[.string r, .bool b] 124 (0, 0))) :
    (w.setCell ⟨p, 0, none⟩ (.string r')).heap[p]? = some (.cells #[.string r', .bool b] 124 (0, 0)) := by
  rw [heap_setCell_same w p 0 _ _ _ h]; rfl
theorem set1 {w : World} {p : Nat} {r : ByteArray} {b b' : Bool} (h : w.heap[p]? = some (.cells #[.string r, .bool b] 124 (0, 0))) :
    (w.setCell ⟨p, 0 + 1, none⟩ (.bool b')).heap[p]? = some (.cells #[.string r, .bool b'] 124 (0, 0)) := by
  rw [heap_setCell_same w p (0 + 1) _ _ _ h]; rfl
theorem below_set (w : World) (p i : Nat) (v : Value) : Below p w (w.setCell ⟨p, i, none⟩ v) := (Below.refl p w).setCell (p := ⟨p, i, none⟩) (Nat.le_refl p) v
theorem size_rest (s : ByteArray) (k : Nat) : (s.extract k s.size).size = s.size - k := by rw [ByteArray.size_extract]; omega
theorem rest_take (s : ByteArray) (k n : Nat) (h : k + n ≤ s.size) : (s.extract k s.size).extract 0 n = s.extract k (k + n) := by
  rw [ByteArray.extract_extract]
  congr 1 <;> omega
theorem rest_drop (s : ByteArray) (k n : Nat) (h : k + n ≤ s.size) : (s.extract k s.size).extract n (s.extract k s.size).size = s.extract (k + n) s.size := by
  rw [size_rest, ByteArray.extract_extract]
  congr 1 <;> omega
def tkS (s : ByteArray) (n : Nat) (o : Option Nat) : ByteArray := match o with | some k => if k + n ≤ s.size then s.extract k (k + n) else ⟨#[]⟩ | none => ⟨#[]⟩

theorem take_any (w : World) (p : Nat) (s : ByteArray) (o : Option Nat) (n : Nat) (hn : n ≤ 10) (hz : s.size ≤ 5000) (h : St w p s o) :
    Calls Tryz.prog 106 #[.pointer (some ⟨p, 0, none⟩), .int .i64 n] w fun e w' => e = .returned (.string (tkS s n o)) ∧ St w' p s (tk s n o) ∧ Below p w w' := by
  cases o with
  | none =>
    obtain ⟨k, hk, hb⟩ := h
    obtain ⟨c0, c1, f0, f1, hlt⟩ := facts hb
    have hs1 := set1 (b' := true) hb
    have HS := Lib.hid (show St (w.setCell ⟨p, 0 + 1, none⟩ (.bool true)) p s none ∧ Below p w (w.setCell ⟨p, 0 + 1, none⟩ (.bool true)) from ⟨⟨k, hk, hs1⟩, below_set w p _ _⟩)
    clear hs1 hb
    go_enter Tryz.func106, Tryz.ntmps106
    go_wp2
    go_ret
    exact ⟨rfl, HS.out⟩
  | some k =>
    obtain ⟨hk, hb⟩ := h
    by_cases hf : k + n ≤ s.size
    · have e1 : tkS s n (some k) = (s.extract k s.size).extract 0 n := by
        simp only [tkS]; rw [if_pos hf, rest_take s k n hf]
      have e2 : tk s n (some k) = some (k + n) := by simp [tk, hf]
      rw [e1, e2]
      have hs0 := set0 (r' := (s.extract k s.size).extract n (s.extract k s.size).size) hb
      have hst : St (w.setCell ⟨p, 0, none⟩ (.string ((s.extract k s.size).extract n (s.extract k s.size).size))) p s (some (k + n)) ∧ Below p w (w.setCell ⟨p, 0, none⟩ (.string ((s.extract k s.size).extract n (s.extract k s.size).size))) :=
        ⟨⟨hf, by rw [← rest_drop s k n hf]; exact hs0⟩, below_set w p _ _⟩
      have hrz := size_rest s k
      obtain ⟨r, hr⟩ : ∃ r, s.extract k s.size = r := ⟨_, rfl⟩
      rw [hr] at hb hs0 hst hrz ⊢
      have hrn : n ≤ r.size := by omega
      obtain ⟨c0, c1, f0, f1, hlt⟩ := facts hb
      have HST := Lib.hid hst
      clear hst hs0 hr hb e1 e2
      have hrz2 : r.size ≤ 5000 := by omega
      clear hrz
      go_enter Tryz.func106, Tryz.ntmps106
      go_wp2
      go_ret
      exact ⟨rfl, HST.out⟩
    · have e1 : tkS s n (some k) = ⟨#[]⟩ := by simp only [tkS]; rw [if_neg hf]
      have e2 : tk s n (some k) = none := by simp [tk]; omega
      rw [e1, e2]
      have hs1 := set1 (b' := true) hb
      have HST := Lib.hid (show St (w.setCell ⟨p, 0 + 1, none⟩ (.bool true)) p s none ∧ Below p w (w.setCell ⟨p, 0 + 1, none⟩ (.bool true)) from ⟨⟨k, hk, hs1⟩, below_set w p _ _⟩)
      have hrz := size_rest s k
      obtain ⟨r, hr⟩ : ∃ r, s.extract k s.size = r := ⟨_, rfl⟩
      rw [hr] at hb hs1 hrz
      have hrn : r.size < n := by omega
      obtain ⟨c0, c1, f0, f1, hlt⟩ := facts hb
      clear hs1 hr hb e1 e2 hrz
      go_enter Tryz.func106, Tryz.ntmps106
      go_wp2
      go_ret
      exact ⟨rfl, HST.out⟩
theorem St.bad {w : World} {p : Nat} {s : ByteArray} {o : Option Nat} (h : St w p s o) : St (w.setCell ⟨p, 0 + 1, none⟩ (.bool true)) p s none ∧ Below p w (w.setCell ⟨p, 0 + 1, none⟩ (.bool true)) := by
  obtain ⟨k, hk, hb⟩ := h.at_
  exact ⟨⟨k, hk, set1 (b' := true) hb⟩, below_set w p _ _⟩
theorem St.lt {w : World} {p : Nat} {s : ByteArray} {o : Option Nat} (h : St w p s o) : p < w.heap.size := by
  obtain ⟨k, hk, hb⟩ := h.at_
  exact (facts hb).2.2.2.2
theorem St.free {w : World} {p : Nat} {s : ByteArray} {o : Option Nat} (h : St w p s o) : w.frozen? ⟨p, 0 + 1, none⟩ = false ∧ ∃ v, w.cell? ⟨p, 0 + 1, none⟩ = some (.bool v) := by
  obtain ⟨k, hk, hb⟩ := h.at_
  exact ⟨(facts hb).2.2.2.1, _, (facts hb).2.1⟩
theorem byte_one (s : ByteArray) (k : Nat) (h : k + 1 ≤ s.size) : ∃ x : UInt8, s.extract k (k + 1) = ⟨#[x]⟩ ∧ x.toNat = byt s k := by
  have hz : (s.extract k (k + 1)).size = 1 := by rw [ByteArray.size_extract]; omega
  have hb : byt (s.extract k (k + 1)) 0 = byt s k := byt_extract s k (k + 1) 0 (by omega) h
  rw [← hb]
  generalize s.extract k (k + 1) = q at hz
  obtain ⟨⟨l⟩⟩ := q
  match l, hz with
  | [x], _ => exact ⟨x, rfl, (byt_of [x] 0).symm⟩

theorem mark_any (w : World) (p : Nat) (s : ByteArray) (o : Option Nat) (c : Nat) (hc : c < 256) (hz : s.size ≤ 5000) (h : St w p s o) :
    Calls Tryz.prog 90 #[.pointer (some ⟨p, 0, none⟩), .int .u8 c] w fun e w' => e = .returned (.tuple #[]) ∧ St w' p s (mk s c o) ∧ Below p w w' := by
  have ht := take_any w p s o 1 (by omega) hz h
  have HT := Lib.hid ht
  clear ht
  cases o with
  | none =>
    go_enter Tryz.func90, Tryz.ntmps90
    go_wp2_with (go_at_call 106; refine HT.out.mono ?_; rintro e w1 ⟨rfl, hst, hb⟩; simp only [tkS])
    go_end0
    exact ⟨rfl, hst, hb⟩
  | some k =>
    by_cases hk : k + 1 ≤ s.size
    · obtain ⟨x, hx, hxb⟩ := byte_one s k hk
      have e1 : tkS s 1 (some k) = ⟨#[x]⟩ := by simp only [tkS]; rw [if_pos hk, hx]
      have e2 : tk s 1 (some k) = some (k + 1) := by simp [tk, hk]
      by_cases hm : byt s k = c
      · have e3 : mk s c (some k) = some (k + 1) := by simp [mk, hk, hm]
        rw [e3]
        have hxc : ((((⟨#[x]⟩ : ByteArray)[0]'(Nat.zero_lt_one)).toNat : Int) != (c : Int)) = false := by
          show ((x.toNat : Int) != (c : Int)) = false
          simp; omega
        have HX := Lib.hid e1
        clear e1 hx hxb hm
        go_enter Tryz.func90, Tryz.ntmps90
        go_wp2_with (go_at_call 106; refine HT.out.mono ?_; rintro e w1 ⟨rfl, hst, hb⟩; rw [HX.out])
        go_end0
        rw [e2] at hst
        exact ⟨rfl, hst, hb⟩
      · have e3 : mk s c (some k) = none := by simp [mk, hm]
        rw [e3]
        have hxc : ((((⟨#[x]⟩ : ByteArray)[0]'(Nat.zero_lt_one)).toNat : Int) != (c : Int)) = true := by
          show ((x.toNat : Int) != (c : Int)) = true
          simp; omega
        have HX := Lib.hid e1
        clear e1 hx hxb hm
        go_enter Tryz.func90, Tryz.ntmps90
        go_wp2_with (go_at_call 106; refine HT.out.mono ?_; rintro e w1 ⟨rfl, hst, hb⟩; rw [HX.out]; obtain ⟨f1, v, c1⟩ := hst.free; have hbad := Lib.hid hst.bad; clear hst)
        go_end0
        exact ⟨rfl, hbad.out.1, hb.trans hbad.out.2⟩
    · have e1 : tkS s 1 (some k) = ⟨#[]⟩ := by simp only [tkS]; rw [if_neg hk]
      have e2 : tk s 1 (some k) = none := by simp [tk]; omega
      have e3 : mk s c (some k) = none := by simp [mk]; omega
      rw [e3]
      have HX := Lib.hid e1
      clear e1
      go_enter Tryz.func90, Tryz.ntmps90
      go_wp2_with (go_at_call 106; refine HT.out.mono ?_; rintro e w1 ⟨rfl, hst, hb⟩; rw [HX.out])
      go_end0
      rw [e2] at hst
      exact ⟨rfl, hst, hb⟩

theorem done_any (w : World) (p : Nat) (s : ByteArray) (o : Option Nat) (hz : s.size ≤ 5000) (h : St w p s o) :
    Calls Tryz.prog 94 #[.pointer (some ⟨p, 0, none⟩)] w fun e w' => e = .returned (.bool (decide (o = some s.size))) ∧ w' = w := by
  cases o with
  | none =>
    obtain ⟨k, hk, hb⟩ := h
    obtain ⟨c0, c1, f0, f1, hlt⟩ := facts hb
    clear hb
    go_enter Tryz.func94, Tryz.ntmps94
    go_wp2
    go_ret
    exact ⟨rfl, rfl⟩
  | some k =>
    obtain ⟨hk, hb⟩ := h
    have hrz := size_rest s k
    have hd : decide (some k = some s.size) = decide (k = s.size) := by simp
    rw [hd]
    by_cases hks : k = s.size
    · rw [decide_eq_true hks]
      have he : s.extract k s.size = ⟨#[]⟩ := by
        apply ByteArray.ext
        apply Array.eq_empty_of_size_eq_zero
        show (s.extract k s.size).size = 0
        omega
      rw [he] at hb
      obtain ⟨c0, c1, f0, f1, hlt⟩ := facts hb
      clear hb he hks
      go_enter Tryz.func94, Tryz.ntmps94
      go_wp2
      go_ret
      exact ⟨rfl, rfl⟩
    · rw [decide_eq_false hks]
      obtain ⟨r, hr⟩ : ∃ r, s.extract k s.size = r := ⟨_, rfl⟩
      rw [hr] at hb hrz
      have hne : (r.toList == ([] : List UInt8)) = false := by
        rw [beq_eq_false_iff_ne]
        intro hc
        have h1 : r.size = 0 := by
          have : r = ⟨#[]⟩ := LastIndex.eq_of_toList (by rw [hc, Lib.toList_data])
          rw [this]; rfl
        omega
      obtain ⟨c0, c1, f0, f1, hlt⟩ := facts hb
      clear hb hr
      go_enter Tryz.func94, Tryz.ntmps94
      go_wp2
      go_ret
      exact ⟨rfl, rfl⟩
end Go.Proofs.YtbhpgghbpibalaaGreatDoor.dat
namespace Go.Proofs.YtbhpgghbpibalaaGreatDoor.dat
open Go.ChangeShapes Go.WideShapes Go.ChangeAt Go.RowKit
open Go.Lib (dg itoa byteCells strCells)
set_option linter.unusedVariables false
set_option linter.unusedSimpArgs false

theorem num_none (w : World) (p : Nat) (s : ByteArray) (o : Option Nat) (d most : Nat) (hd : d ≤ 4) (hz : s.size ≤ 5000) (hm : most ≤ 9999) (h : St w p s o) (hn : tk s d o = none) (ht : tkS s d o = ⟨#[]⟩) (hv : numV s d o = 0) (ho : numO s d most o = none) :
    Calls Tryz.prog 92 #[.pointer (some ⟨p, 0, none⟩), .int .i64 d, .int .i64 most] w fun e w' => e = .returned (.int .i64 (numV s d o : Nat)) ∧ St w' p s (numO s d most o) ∧ Below p w w' := by
  have hT := take_any w p s o d (by omega) hz h
  rw [hn, ht] at hT
  have HT := Lib.hid hT
  clear hT hn ht
  rw [hv, ho]
  clear hv ho
  go_enter Tryz.func92, Tryz.ntmps92
  go_wp2_with (go_at_call 106; refine HT.out.mono ?_; rintro e w1 ⟨rfl, hst, hb⟩)
  go_loop [8, 15] (fun x i => x = .int .i64 0 ∧ i = .int .i64 0) (fun _ i => 0)
  case atStart => exact ⟨rfl, rfl⟩
  case round =>
    obtain ⟨rfl, rfl⟩ := hrel
    go_wp2
    go_ret
    exact ⟨rfl, hst, hb⟩
set_option maxHeartbeats 1600000 in
theorem num_any (w : World) (p : Nat) (s : ByteArray) (o : Option Nat) (d most : Nat) (hd0 : 1 ≤ d) (hd : d ≤ 4) (hz : s.size ≤ 5000) (hm : most ≤ 9999) (h : St w p s o) :
    Calls Tryz.prog 92 #[.pointer (some ⟨p, 0, none⟩), .int .i64 d, .int .i64 most] w fun e w' => e = .returned (.int .i64 (numV s d o : Nat)) ∧ St w' p s (numO s d most o) ∧ Below p w w' := by
  cases o with
  | none => exact num_none w p s none d most hd hz hm h rfl rfl rfl rfl
  | some k =>
    by_cases hk : k + d ≤ s.size
    · have e1 : tkS s d (some k) = s.extract k (k + d) := by simp only [tkS]; rw [if_pos hk]
      have e2 : tk s d (some k) = some (k + d) := by simp [tk, hk]
      have e3 : numV s d (some k) = (digs s k d).getD 0 := by simp [numV, hk]
      have e4 : numO s d most (some k) = (digs s k d).bind fun v => if v ≤ most then some (k + d) else none := by simp [numO, hk]
      have hT := take_any w p s (some k) d (by omega) hz h
      rw [e1, e2] at hT
      rw [e3, e4]
      have hqz : (s.extract k (k + d)).size = d := by rw [ByteArray.size_extract]; omega
      have hqb : ∀ j, j < d → byt (s.extract k (k + d)) j = byt s (k + j) := fun j hj => byt_extract s k (k + d) j (by omega) hk
      obtain ⟨q, hq⟩ : ∃ q, s.extract k (k + d) = q := ⟨_, rfl⟩
      rw [hq] at hT hqz hqb
      subst hqz
      have HT := Lib.hid hT
      have HQ := Lib.hid hqb
      clear hT e1 e2 e3 e4 hqb hq
      go_enter Tryz.func92, Tryz.ntmps92
      go_wp2_with (go_at_call 106; refine HT.out.mono ?_; rintro e w1 ⟨rfl, hst, hb⟩; obtain ⟨f1, bv, c1⟩ := hst.free; have hbad := Lib.hid hst.bad; have HST := Lib.hid hst; clear hst)
      go_loop [8, 15] (fun x i => ∃ j v : Nat, j ≤ q.size ∧ i = .int .i64 j ∧ x = .int .i64 v ∧ v < 10000 ∧ Hid (digs s k j = some v)) (fun _ i => q.size - (intOf i).toNat)
      case atStart => exact ⟨0, 0, Nat.zero_le _, rfl, rfl, by omega, rfl⟩
      case round =>
        obtain ⟨j, v, hj, rfl, rfl, hv, hd'⟩ := hrel
        by_cases hjl : j < q.size
        · have hv3 : v < 1000 := Nat.lt_of_lt_of_le (digs_lt s k j v hd'.out) (Nat.le_trans (Nat.pow_le_pow_right (by omega) (show j ≤ 3 by omega)) (by decide))
          obtain ⟨c, hc⟩ : ∃ c, byt q j = c := ⟨_, rfl⟩
          have hc256 : c < 256 := hc ▸ byt_lt q j
          have e1 : (q[j]).toNat = c := by rw [byt_at]; exact hc
          have hcs : byt s (k + j) = c := by rw [← HQ.out j hjl]; exact hc
          have hbd : digB c = false → digs s k q.size = none := fun h => digs_bad s k q.size j hjl (by rw [hcs]; exact h)
          have hgood : digB c = true → digs s k (j + 1) = some (10 * v + (c - 48)) := fun h => by
            simp only [digs]
            rw [hd'.out, hcs]
            simp [h]
          have HB := Lib.hid hbd
          have HG := Lib.hid hgood
          clear hbd hgood hc hcs
          go_wp2
          all_goals first
            | (go_ret
               rw [HB.out (by simp [digB] at *; omega)]
               exact ⟨rfl, hbad.out.1, hb.trans hbad.out.2⟩)
            | (refine ⟨⟨j + 1, 10 * v + (c - 48), hjl, by simp, ?_, by omega, HG.out (by simp [digB] at *; omega)⟩, by simp [intOf]; omega⟩
               congr 1
               omega)
        · obtain rfl : j = q.size := by omega
          by_cases hvm : v ≤ most
          · have hgt : ¬ ((most : Int) < (v : Int)) := by omega
            go_wp2
            go_ret
            rw [hd'.out]
            simp only [Option.getD_some, Option.bind_some]
            rw [if_pos hvm]
            exact ⟨rfl, HST.out, hb⟩
          · have hgt : ((most : Int) < (v : Int)) := by omega
            go_wp2
            go_ret
            rw [hd'.out]
            simp only [Option.getD_some, Option.bind_some]
            rw [if_neg hvm]
            exact ⟨rfl, hbad.out.1, hb.trans hbad.out.2⟩
    · refine num_none w p s (some k) d most hd hz hm h (by simp [tk]; omega) (by simp only [tkS]; rw [if_neg hk]) (by simp [numV, hk]) (by simp [numO, hk])

theorem day_take (w : World) (p : Nat) (s : ByteArray) (hz : s.size ≤ 5000) (h : St w p s (some 0)) :
    Calls Tryz.prog 89 #[.pointer (some ⟨p, 0, none⟩)] w fun e w' => e = .returned (.int .i64 (dayV s : Nat)) ∧ St w' p s (dayO s) ∧ Below p w w' := by
  have hb := h.2
  have he : s.extract 0 s.size = s := by simp
  rw [he] at hb
  obtain ⟨c0, c1, f0, f1, hlt⟩ := facts hb
  have hnone : ∀ w, St w p s (some 0) → _ := fun w h => num_any w p s (some 0) 2 31 (by omega) (by omega) hz (by omega) h
  by_cases h0 : 0 < s.size
  · have hne : ¬ s.toList = [] := by
      intro hc
      have h1 : s = ⟨#[]⟩ := LastIndex.eq_of_toList (by rw [hc, Lib.toList_data])
      rw [h1] at h0
      exact absurd h0 (by decide)
    have hne2 : s.toList.isEmpty = false := by
      cases h : s.toList with
      | nil => exact absurd h hne
      | cons a l => rfl
    by_cases hbl : byt s 0 = 32
    · have hbb : ((s[0].toNat : Int) == 32) = true := by rw [byt_at s 0 h0, hbl]; rfl
      have e1 : dayV s = numV s 1 (some 1) := by unfold dayV; rw [if_pos ⟨h0, hbl⟩]
      have e2 : dayO s = numO s 1 9 (some 1) := by unfold dayO; rw [if_pos ⟨h0, hbl⟩]
      have e3 : tk s 1 (some 0) = some 1 := by simp only [tk, Option.bind_some]; rw [if_pos (by omega)]
      rw [e1, e2]
      have HT := Lib.hid (take_any w p s (some 0) 1 (by omega) hz h)
      have HN := Lib.hid (fun w (h : St w p s (some 1)) => num_any w p s (some 1) 1 9 (by omega) (by omega) hz (by omega) h)
      have HE := Lib.hid e3
      clear h hb he e1 e2 e3 hnone hbl
      go_enter Tryz.func89, Tryz.ntmps89
      go_wp2_with (first | (go_at_call 106; refine HT.out.mono ?_; rintro e w1 ⟨rfl, hst, hb1⟩; rw [HE.out] at hst) | (go_at_call 92; refine (HN.out _ hst).mono ?_; rintro e w2 ⟨rfl, hst2, hb2⟩))
      go_ret
      exact ⟨rfl, hst2, hb1.trans hb2⟩
    · have hbb : ((s[0].toNat : Int) == 32) = false := by
        rw [byt_at s 0 h0, beq_eq_false_iff_ne]; omega
      have e1 : dayV s = numV s 2 (some 0) := by unfold dayV; rw [if_neg (fun h => hbl h.2)]
      have e2 : dayO s = numO s 2 31 (some 0) := by unfold dayO; rw [if_neg (fun h => hbl h.2)]
      rw [e1, e2]
      have HN := Lib.hid (hnone w h)
      clear h hb he e1 e2 hnone hbl
      go_enter Tryz.func89, Tryz.ntmps89
      go_wp2_with (go_at_call 92; refine HN.out.mono ?_; rintro e w2 ⟨rfl, hst2, hb2⟩)
      go_ret
      exact ⟨rfl, hst2, hb2⟩
  · have e1 : dayV s = numV s 2 (some 0) := by unfold dayV; rw [if_neg (fun h => h0 h.1)]
    have e2 : dayO s = numO s 2 31 (some 0) := by unfold dayO; rw [if_neg (fun h => h0 h.1)]
    have hs0 : s = ⟨#[]⟩ := by
      apply ByteArray.ext
      apply Array.eq_empty_of_size_eq_zero
      show s.size = 0
      omega
    rw [e1, e2]
    have HN := Lib.hid (hnone w h)
    clear h hb he e1 e2 hnone
    have c0' : w.cell? ⟨p, 0, none⟩ = some (.string ⟨#[]⟩) := by rw [c0, hs0]
    have HS := Lib.hid hs0
    clear c0 hs0 h0
    go_enter Tryz.func89, Tryz.ntmps89
    go_wp2_with (go_at_call 92; refine HN.out.mono ?_; rintro e w2 ⟨rfl, hst2, hb2⟩)
    go_ret
    exact ⟨rfl, hst2, hb2⟩

theorem zone_take (w : World) (p : Nat) (s : ByteArray) (o : Option Nat) (hz : s.size ≤ 5000) (h : St w p s o) :
    Calls Tryz.prog 93 #[.pointer (some ⟨p, 0, none⟩)] w fun e w' => e = .returned (.int .i64 (zonV s o)) ∧ St w' p s (zonO s o) ∧ Below p w w' := by
  have HT := Lib.hid (take_any w p s o 1 (by omega) hz h)
  have HN1 := Lib.hid (fun w (h : St w p s (tk s 1 o)) => num_any w p s (tk s 1 o) 2 14 (by omega) (by omega) hz (by omega) h)
  have HN2 := Lib.hid (fun w (h : St w p s (numO s 2 14 (tk s 1 o))) => num_any w p s (numO s 2 14 (tk s 1 o)) 2 59 (by omega) (by omega) hz (by omega) h)
  have b1 := numV_lt s 2 (tk s 1 o)
  have b2 := numV_lt s 2 (numO s 2 14 (tk s 1 o))
  have hcase : (tkS s 1 o = ⟨#[43]⟩ ∧ signV s o = 43) ∨ (tkS s 1 o = ⟨#[45]⟩ ∧ signV s o = 45) ∨ ((tkS s 1 o = ⟨#[]⟩ ∨ ∃ x : UInt8, tkS s 1 o = ⟨#[x]⟩ ∧ x ≠ 43 ∧ x ≠ 45) ∧ signV s o ≠ 43 ∧ signV s o ≠ 45) := by
    cases o with
    | none => exact .inr (.inr ⟨.inl rfl, by simp [signV], by simp [signV]⟩)
    | some k =>
      by_cases hk : k + 1 ≤ s.size
      · obtain ⟨x, hx, hxb⟩ := byte_one s k hk
        have e1 : tkS s 1 (some k) = ⟨#[x]⟩ := by simp only [tkS]; rw [if_pos hk, hx]
        have e2 : signV s (some k) = byt s k := by simp only [signV, Option.bind_some]; rw [if_pos hk]; rfl
        rw [e1, e2, ← hxb]
        by_cases h43 : x = 43
        · subst h43; exact .inl ⟨rfl, rfl⟩
        · by_cases h45 : x = 45
          · subst h45; exact .inr (.inl ⟨rfl, rfl⟩)
          · exact .inr (.inr ⟨.inr ⟨x, rfl, h43, h45⟩, fun hc => h43 (UInt8.toNat_inj.1 hc), fun hc => h45 (UInt8.toNat_inj.1 hc)⟩)
      · have e1 : tkS s 1 (some k) = ⟨#[]⟩ := by simp only [tkS]; rw [if_neg hk]
        have e2 : signV s (some k) = 0 := by simp only [signV, Option.bind_some]; rw [if_neg hk]; rfl
        exact .inr (.inr ⟨.inl e1, by rw [e2]; decide, by rw [e2]; decide⟩)
  have eO : zonO s o = if signV s o = 43 ∨ signV s o = 45 then numO s 2 59 (numO s 2 14 (tk s 1 o)) else none := rfl
  have eV : zonV s o = if signV s o = 43 then ((numV s 2 (tk s 1 o) * 3600 + numV s 2 (numO s 2 14 (tk s 1 o)) * 60 : Nat) : Int) else if signV s o = 45 then -((numV s 2 (tk s 1 o) * 3600 + numV s 2 (numO s 2 14 (tk s 1 o)) * 60 : Nat) : Int) else 0 := rfl
  rw [eO, eV]
  obtain ⟨H, hH⟩ : ∃ H, numV s 2 (tk s 1 o) = H := ⟨_, rfl⟩
  obtain ⟨M, hM⟩ : ∃ M, numV s 2 (numO s 2 14 (tk s 1 o)) = M := ⟨_, rfl⟩
  rw [hH] at b1 HN1 ⊢
  rw [hM] at b2 HN2 ⊢
  clear eO eV hH hM h
  rcases hcase with ⟨e1, e2⟩ | ⟨e1, e2⟩ | ⟨e1, e2, e3⟩
  · rw [e1] at HT
    rw [e2]
    clear e1 e2
    go_enter Tryz.func93, Tryz.ntmps93
    go_wp2_with (first | (go_at_call 106; refine HT.out.mono ?_; rintro e w1 ⟨rfl, hst, hb1⟩) | (go_at_call 92; with_reducible refine Calls.mono (HN1.out w1 hst) ?_; rintro e w2 ⟨rfl, hst2, hb2⟩) | (go_at_call 92; with_reducible refine Calls.mono (HN2.out w2 hst2) ?_; rintro e w3 ⟨rfl, hst3, hb3⟩))
    go_ret
    exact ⟨by congr 2, hst3, hb1.trans (hb2.trans hb3)⟩
  · rw [e1] at HT
    rw [e2]
    clear e1 e2
    go_enter Tryz.func93, Tryz.ntmps93
    go_wp2_with (first | (go_at_call 106; refine HT.out.mono ?_; rintro e w1 ⟨rfl, hst, hb1⟩) | (go_at_call 92; with_reducible refine Calls.mono (HN1.out w1 hst) ?_; rintro e w2 ⟨rfl, hst2, hb2⟩) | (go_at_call 92; with_reducible refine Calls.mono (HN2.out w2 hst2) ?_; rintro e w3 ⟨rfl, hst3, hb3⟩))
    go_ret
    exact ⟨by congr 2, hst3, hb1.trans (hb2.trans hb3)⟩
  · rw [if_neg e2, if_neg e3, if_neg (fun h => h.elim e2 e3)]
    clear e2 e3
    rcases e1 with e1 | ⟨x, e1, hx1, hx2⟩
    · rw [e1] at HT
      clear e1
      go_enter Tryz.func93, Tryz.ntmps93
      go_wp2_with (first | (go_at_call 106; refine HT.out.mono ?_; rintro e w1 ⟨rfl, hst, hb1⟩) | (go_at_call 92; with_reducible refine Calls.mono (HN1.out w1 hst) ?_; rintro e w2 ⟨rfl, hst2, hb2⟩) | (go_at_call 92; with_reducible refine Calls.mono (HN2.out w2 hst2) ?_; rintro e w3 ⟨rfl, hst3, hb3⟩; obtain ⟨f1, bv, c1⟩ := hst3.free; have hbad := Lib.hid hst3.bad))
      go_ret
      exact ⟨rfl, hbad.out.1, hb1.trans (hb2.trans (hb3.trans hbad.out.2))⟩
    · rw [e1] at HT
      clear e1
      have n1 : (x == 43) = false := by simpa using hx1
      have n2 : (x == 45) = false := by simpa using hx2
      clear hx1 hx2
      go_enter Tryz.func93, Tryz.ntmps93
      go_wp2_with (first | (go_at_call 106; refine HT.out.mono ?_; rintro e w1 ⟨rfl, hst, hb1⟩) | (go_at_call 92; with_reducible refine Calls.mono (HN1.out w1 hst) ?_; rintro e w2 ⟨rfl, hst2, hb2⟩) | (go_at_call 92; with_reducible refine Calls.mono (HN2.out w2 hst2) ?_; rintro e w3 ⟨rfl, hst3, hb3⟩; obtain ⟨f1, bv, c1⟩ := hst3.free; have hbad := Lib.hid hst3.bad))
      go_ret
      exact ⟨rfl, hbad.out.1, hb1.trans (hb2.trans (hb3.trans hbad.out.2))⟩
end Go.Proofs.YtbhpgghbpibalaaGreatDoor.dat
