/- What a reader comes to. -/
import Derived.Test.YtehecgkmckoolaaDoorDatN
namespace Go.Proofs.YtehecgkmckoolaaDoor.dat
open Go.Lib
set_option linter.unusedVariables false
set_option linter.unusedSimpArgs false

def tk (s : ByteArray) (n : Nat) (o : Option Nat) : Option Nat := o.bind fun k => if k + n ≤ s.size then some (k + n) else none
def mk (s : ByteArray) (c : Nat) (o : Option Nat) : Option Nat := o.bind fun k => if k + 1 ≤ s.size ∧ byt s k = c then some (k + 1) else none
def numO (s : ByteArray) (d most : Nat) (o : Option Nat) : Option Nat := o.bind fun k => if k + d ≤ s.size then (digs s k d).bind (fun v => if v ≤ most then some (k + d) else none) else none
def numV (s : ByteArray) (d : Nat) (o : Option Nat) : Nat := (o.bind fun k => if k + d ≤ s.size then digs s k d else none).getD 0
def dayO (s : ByteArray) : Option Nat := if 0 < s.size ∧ byt s 0 = 32 then numO s 1 9 (some 1) else numO s 2 31 (some 0)
def dayV (s : ByteArray) : Nat := if 0 < s.size ∧ byt s 0 = 32 then numV s 1 (some 1) else numV s 2 (some 0)
def monO (s : ByteArray) (o : Option Nat) : Option Nat := o.bind fun k => if k + 3 ≤ s.size ∧ mon (code s k) ≠ 0 then some (k + 3) else none
def monV (s : ByteArray) (o : Option Nat) : Nat := (o.bind fun k => if k + 3 ≤ s.size then some (mon (code s k)) else none).getD 0
def signV (s : ByteArray) (o : Option Nat) : Nat := (o.bind fun k => if k + 1 ≤ s.size then some (byt s k) else none).getD 0
def zonO (s : ByteArray) (o : Option Nat) : Option Nat := if signV s o = 43 ∨ signV s o = 45 then numO s 2 59 (numO s 2 14 (tk s 1 o)) else none
def zonH (s : ByteArray) (o : Option Nat) : Nat := numV s 2 (tk s 1 o)
def zonM (s : ByteArray) (o : Option Nat) : Nat := numV s 2 (numO s 2 14 (tk s 1 o))
def zonV (s : ByteArray) (o : Option Nat) : Int := if signV s o = 43 then ((zonH s o * 3600 + zonM s o * 60 : Nat) : Int) else if signV s o = 45 then -((zonH s o * 3600 + zonM s o * 60 : Nat) : Int) else 0
theorem numV_lt (s : ByteArray) (d : Nat) (o : Option Nat) : numV s d o < 10 ^ d := by
  unfold numV
  cases o with
  | none => simp; exact Nat.pow_pos (by omega)
  | some k =>
    simp only [Option.bind_some]
    split
    · cases h : digs s k d with
      | none => simp; exact Nat.pow_pos (by omega)
      | some v => exact digs_lt s k d v h
    · simp; exact Nat.pow_pos (by omega)
theorem monV_le (s : ByteArray) (o : Option Nat) : monV s o ≤ 12 := by
  unfold monV
  cases o with
  | none => simp
  | some k =>
    simp only [Option.bind_some]
    split
    · exact mon_le _
    · simp
theorem dayV_lt (s : ByteArray) : dayV s < 100 := by
  unfold dayV
  split
  · have := numV_lt s 1 (some 1); omega
  · have := numV_lt s 2 (some 0); omega

theorem mk_some {s : ByteArray} {c j : Nat} {o : Option Nat} (h : mk s c o = some j) : ∃ k, o = some k ∧ j = k + 1 ∧ j ≤ s.size ∧ byt s k = c := by
  unfold mk at h
  simp only [Option.bind_eq_some_iff] at h
  obtain ⟨k, rfl, h⟩ := h
  split at h
  · rename_i hc
    cases h
    exact ⟨k, rfl, rfl, hc.1, hc.2⟩
  · cases h
theorem numO_some {s : ByteArray} {d most j : Nat} {o : Option Nat} (h : numO s d most o = some j) : ∃ k v, o = some k ∧ j = k + d ∧ j ≤ s.size ∧ digs s k d = some v ∧ v ≤ most ∧ numV s d o = v := by
  unfold numO at h
  simp only [Option.bind_eq_some_iff] at h
  obtain ⟨k, rfl, h⟩ := h
  split at h
  · rename_i hc
    simp only [Option.bind_eq_some_iff] at h
    obtain ⟨v, hv, h⟩ := h
    split at h
    · rename_i hm
      cases h
      exact ⟨k, v, rfl, rfl, hc, hv, hm, by simp [numV, hc, hv]⟩
    · cases h
  · cases h
theorem monO_some {s : ByteArray} {j : Nat} {o : Option Nat} (h : monO s o = some j) : ∃ k, o = some k ∧ j = k + 3 ∧ j ≤ s.size ∧ mon (code s k) ≠ 0 ∧ monV s o = mon (code s k) := by
  unfold monO at h
  simp only [Option.bind_eq_some_iff] at h
  obtain ⟨k, rfl, h⟩ := h
  split at h
  · rename_i hc
    cases h
    exact ⟨k, rfl, rfl, hc.1, hc.2, by simp [monV, hc.1]⟩
  · cases h
theorem tk_some {s : ByteArray} {n j : Nat} {o : Option Nat} (h : tk s n o = some j) : ∃ k, o = some k ∧ j = k + n ∧ j ≤ s.size := by
  unfold tk at h
  simp only [Option.bind_eq_some_iff] at h
  obtain ⟨k, rfl, h⟩ := h
  split at h
  · rename_i hc
    cases h
    exact ⟨k, rfl, rfl, hc⟩
  · cases h
theorem dayO_some {s : ByteArray} {j : Nat} (h : dayO s = some j) : j = 2 ∧ 2 ≤ s.size ∧ (if byt s 0 = 32 then digs s 1 1 = some (dayV s) else digs s 0 2 = some (dayV s)) := by
  unfold dayO at h
  split at h
  · rename_i hc
    obtain ⟨k, v, hk, rfl, h1, h2, -, h3⟩ := numO_some h
    cases hk
    refine ⟨rfl, h1, ?_⟩
    unfold dayV
    rw [if_pos hc, if_pos hc.2, h3, h2]
  · rename_i hc
    obtain ⟨k, v, hk, rfl, h1, h2, -, h3⟩ := numO_some h
    cases hk
    refine ⟨rfl, by omega, ?_⟩
    unfold dayV
    rw [if_neg hc, if_neg (fun h => hc ⟨by omega, h⟩), h3, h2]
def o2 (s : ByteArray) := mk s 45 (dayO s)
def o4 (s : ByteArray) := mk s 45 (monO s (o2 s))
def o6 (s : ByteArray) := mk s 32 (numO s 4 9999 (o4 s))
def o8 (s : ByteArray) := mk s 58 (numO s 2 23 (o6 s))
def o10 (s : ByteArray) := mk s 58 (numO s 2 59 (o8 s))
def o12 (s : ByteArray) := mk s 32 (numO s 2 59 (o10 s))
def o13 (s : ByteArray) := zonO s (o12 s)
/-- All was there, and nothing is left: then it has the form. -/
theorem chain_fm {s : ByteArray} (h : o13 s = some s.size) :
    Fm s (dayV s) (monV s (o2 s)) (numV s 4 (o4 s)) (numV s 2 (o6 s)) (numV s 2 (o8 s)) (numV s 2 (o10 s)) (zonH s (o12 s)) (zonM s (o12 s)) ∧ zonV s (o12 s) = ahead s (zonH s (o12 s)) (zonM s (o12 s)) := by
  unfold o13 zonO at h
  split at h
  · rename_i hsg
    obtain ⟨k24, zm, h24, hend, -, hzm, hzm1, hzmv⟩ := numO_some h
    obtain ⟨k22, zh, h22, rfl, -, hzh, hzh1, hzhv⟩ := numO_some h24
    obtain ⟨k21, h21, rfl, -⟩ := tk_some h22
    have e12 := h21
    unfold o12 at h21
    obtain ⟨k20, h20, rfl, -, b20⟩ := mk_some h21
    obtain ⟨k18, se, h18, rfl, -, hse, hse1, hsev⟩ := numO_some h20
    have e10 := h18
    unfold o10 at h18
    obtain ⟨k17, h17, rfl, -, b17⟩ := mk_some h18
    obtain ⟨k15, mi, h15, rfl, -, hmi, hmi1, hmiv⟩ := numO_some h17
    have e8 := h15
    unfold o8 at h15
    obtain ⟨k14, h14, rfl, -, b14⟩ := mk_some h15
    obtain ⟨k12, ho, h12, rfl, -, hho, hho1, hhov⟩ := numO_some h14
    have e6 := h12
    unfold o6 at h12
    obtain ⟨k11, h11, rfl, -, b11⟩ := mk_some h12
    obtain ⟨k7, ye, h7, rfl, -, hye, hye1, hyev⟩ := numO_some h11
    have e4 := h7
    unfold o4 at h7
    obtain ⟨k6, h6, rfl, -, b6⟩ := mk_some h7
    obtain ⟨k3, h3, rfl, -, hmo, hmov⟩ := monO_some h6
    have e2 := h3
    unfold o2 at h3
    obtain ⟨k2, h2, rfl, -, b2⟩ := mk_some h3
    obtain ⟨rfl, -, hday⟩ := dayO_some h2
    simp only [Nat.reduceAdd] at *
    have hzh' : zonH s (o12 s) = zh := hzhv
    have hzm' : zonM s (o12 s) = zm := hzmv
    have hsv : signV s (o12 s) = byt s 21 := by
      rw [e12]; simp only [signV, Option.bind_some]; rw [if_pos (by omega)]; rfl
    rw [hsv] at hsg
    rw [hyev, hhov, hmiv, hsev, hmov, hzh', hzm']
    refine ⟨⟨hend, b2, b6, b11, b14, b17, b20, hsg, hday, rfl, hmo, hye, hho, hho1, hmi, hmi1, hse, hse1, hzh, hzh1, hzm, hzm1⟩, ?_⟩
    unfold zonV ahead
    rw [hsv, hzh', hzm']
    rcases hsg with h | h
    · rw [if_pos h, if_pos h]
    · rw [if_neg (by omega), if_pos h, if_neg (by omega)]
  · cases h
theorem numO_of {s : ByteArray} {d most k v : Nat} {o : Option Nat} (ho : o = some k) (hk : k + d ≤ s.size) (hv : digs s k d = some v) (hm : v ≤ most) : numO s d most o = some (k + d) := by
  subst ho
  simp [numO, hk, hv, hm]
theorem mk_of {s : ByteArray} {c k : Nat} {o : Option Nat} (ho : o = some k) (hk : k + 1 ≤ s.size) (hb : byt s k = c) : mk s c o = some (k + 1) := by
  subst ho
  simp [mk, hk, hb]
/-- What has the form is read to its end. -/
theorem chain_of {s : ByteArray} {d m y h i e zh zm : Nat} (f : Fm s d m y h i e zh zm) (hd : d ≤ daysN y m) : o13 s = some s.size := by
  have hz := f.size
  have hd31 := (daysN_pos y m).2
  have a1 : dayO s = some 2 := by
    have := f.day
    unfold dayO
    split at this
    · rename_i hc
      rw [if_pos ⟨by omega, hc⟩]
      have := digs_lt s 1 1 d this
      exact numO_of rfl (by omega) (by assumption) (by omega)
    · rename_i hc
      rw [if_neg (fun h => hc h.2)]
      exact numO_of rfl (by omega) this (by omega)
  have a2 : o2 s = some 3 := mk_of a1 (by omega) f.b2
  have a3 : monO s (o2 s) = some 6 := by
    rw [a2]
    simp only [monO, Option.bind_some]
    rw [if_pos ⟨by omega, by rw [f.month]; exact f.m0⟩]
  have a4 : o4 s = some 7 := mk_of a3 (by omega) f.b6
  have hy := digs_lt s 7 4 y f.year
  have a6 : o6 s = some 12 := mk_of (numO_of a4 (by omega) f.year (by omega)) (by omega) f.b11
  have a8 : o8 s = some 15 := mk_of (numO_of a6 (by omega) f.hour f.h1) (by omega) f.b14
  have a10 : o10 s = some 18 := mk_of (numO_of a8 (by omega) f.min f.i1) (by omega) f.b17
  have a12 : o12 s = some 21 := mk_of (numO_of a10 (by omega) f.sec f.e1) (by omega) f.b20
  have hsv : signV s (o12 s) = byt s 21 := by rw [a12]; simp only [signV, Option.bind_some]; rw [if_pos (by omega)]; rfl
  unfold o13 zonO
  rw [hsv, if_pos f.b21]
  have ht : tk s 1 (o12 s) = some 22 := by rw [a12]; simp [tk]; omega
  rw [numO_of (numO_of ht (by omega) f.zhour f.zh1) (by omega) f.zmin f.zm1, hz]
end Go.Proofs.YtehecgkmckoolaaDoor.dat
