/- Plain mathematics of what a time's text says. -/
import Derived.Test.YtehecgkmckoolaaDoorDatM
namespace Go.Proofs.YtehecgkmckoolaaDoor.dat
open Go.Lib
set_option linter.unusedVariables false
set_option linter.unusedSimpArgs false

def low (c : Nat) : Nat := if 65 ≤ c ∧ c ≤ 90 then c + 32 else c
def alike (s t : ByteArray) : Bool := decide (s.size = t.size) && (List.range s.size).all fun i => low (byt s i) == low (byt t i)
theorem alike_false (s t : ByteArray) (i : Nat) (h : i < s.size) (hne : (low (byt s i) == low (byt t i)) = false) : alike s t = false := by
  unfold alike
  have : ((List.range s.size).all fun i => low (byt s i) == low (byt t i)) = false := by
    rw [List.all_eq_false]
    exact ⟨i, List.mem_range.2 h, by simp [hne]⟩
  rw [this, Bool.and_false]
theorem alike_true (s t : ByteArray) (h : s.size = t.size) (he : ∀ i, i < s.size → (low (byt s i) == low (byt t i)) = true) : alike s t = true := by
  unfold alike
  simp only [h, decide_true, Bool.true_and, List.all_eq_true, List.mem_range]
  intro i hi
  exact he i (by omega)
theorem alike_size (s t : ByteArray) (h : s.size ≠ t.size) : alike s t = false := by
  unfold alike
  simp [h]

theorem fold_low (x y : UInt8) : foldEq x y = (low x.toNat == low y.toNat) := by
  have hx := UInt8.toNat_lt x
  have hy := UInt8.toNat_lt y
  rw [Bool.eq_iff_iff]
  unfold foldEq low
  simp only [decide_eq_true_eq, beq_iff_eq]
  split <;> split <;> omega
theorem equalFold_map : ∀ (s t : List UInt8), equalFold s t = (s.map (fun c => low c.toNat) == t.map (fun c => low c.toNat))
  | [], [] => rfl
  | [], _ :: _ => rfl
  | _ :: _, [] => rfl
  | x :: s, y :: t => by
    rw [equalFold, equalFold_map s t, fold_low]
    simp

theorem byt_extract (s : ByteArray) (a b i : Nat) (h : a + i < b) (hb : b ≤ s.size) : byt (s.extract a b) i = byt s (a + i) := by
  have h1 : i < (s.extract a b).size := by rw [ByteArray.size_extract]; omega
  rw [← byt_at _ i h1, ← byt_at s (a + i) (by omega), ByteArray.getElem_extract]

theorem alike_fold (s t : ByteArray) (hs : s.size = 3) (ht : t.size = 3) : alike s t = equalFold s.data.toList t.data.toList := by
  rw [equalFold_map]
  obtain ⟨⟨l⟩⟩ := s
  obtain ⟨⟨r⟩⟩ := t
  match l, hs, r, ht with
  | [a, b, c], _, [x, y, z], _ =>
    unfold alike byt
    rw [Bool.eq_iff_iff]
    simp [ByteArray.size, List.range_succ]

/-! ### The month -/
def code (s : ByteArray) (k : Nat) : Nat × Nat × Nat := (low (byt s k), low (byt s (k + 1)), low (byt s (k + 2)))
def codeOf (m : Nat) : Nat × Nat × Nat := code ⟨(nameL m).toArray⟩ 0
def lastM (c : Nat × Nat × Nat) : Nat → Nat
  | 0 => 0
  | k + 1 => if codeOf (k + 1) = c then k + 1 else lastM c k
/-- The month of such letters, 0 if there is none. -/
def mon (c : Nat × Nat × Nat) : Nat := lastM c 12
theorem lastM_le (c : Nat × Nat × Nat) : ∀ k, lastM c k ≤ k
  | 0 => Nat.le_refl _
  | k + 1 => by
    unfold lastM
    split
    · exact Nat.le_refl _
    · have := lastM_le c k; omega
theorem mon_le (c : Nat × Nat × Nat) : mon c ≤ 12 := lastM_le c 12
theorem mon_code {m : Nat} (h0 : 1 ≤ m) (h1 : m ≤ 12) : mon (codeOf m) = m := by
  rcases twelve h0 h1 with rfl | rfl | rfl | rfl | rfl | rfl | rfl | rfl | rfl | rfl | rfl | rfl <;> decide
theorem lastM_none (c : Nat × Nat × Nat) : ∀ k, (∀ m, 1 ≤ m → m ≤ k → codeOf m ≠ c) → lastM c k = 0
  | 0, _ => rfl
  | k + 1, h => by
    unfold lastM
    rw [if_neg (h (k + 1) (by omega) (Nat.le_refl _))]
    exact lastM_none c k fun m h0 h1 => h m h0 (by omega)
theorem alike_name (s : ByteArray) (m : Nat) (h0 : 1 ≤ m) (h1 : m ≤ 12) (hs : s.size = 3) : alike s ⟨(nameL m).toArray⟩ = decide (codeOf m = code s 0) := by
  have hl := nameL_length h0 h1
  have hz : (⟨(nameL m).toArray⟩ : ByteArray).size = 3 := hl
  unfold alike codeOf code
  rw [hs, hz, Bool.eq_iff_iff]
  simp only [show List.range 3 = [0, 1, 2] from rfl, decide_true, Bool.true_and, List.all_cons, List.all_nil, Bool.and_true, Bool.and_eq_true, beq_iff_eq, decide_eq_true_eq, Prod.mk.injEq, Nat.zero_add]
  constructor
  · rintro ⟨a, b, c⟩; exact ⟨a.symm, b.symm, c.symm⟩
  · rintro ⟨a, b, c⟩; exact ⟨a.symm, b.symm, c.symm⟩
theorem code_extract (s : ByteArray) (k : Nat) (h : k + 3 ≤ s.size) : code (s.extract k (k + 3)) 0 = code s k := by
  unfold code
  rw [byt_extract s k (k + 3) 0 (by omega) h, byt_extract s k (k + 3) 1 (by omega) h, byt_extract s k (k + 3) 2 (by omega) h]
  rfl

/-! ### Digits -/
def digB (c : Nat) : Bool := decide (48 ≤ c ∧ c ≤ 57)
/-- The number of n digits from k on. -/
def digs (s : ByteArray) (k : Nat) : Nat → Option Nat
  | 0 => some 0
  | n + 1 => (digs s k n).bind fun v => if digB (byt s (k + n)) then some (10 * v + (byt s (k + n) - 48)) else none
theorem digs_lt (s : ByteArray) (k : Nat) : ∀ n v, digs s k n = some v → v < 10 ^ n
  | 0, v, h => by simp only [digs, Option.some.injEq] at h; subst h; decide
  | n + 1, v, h => by
    simp only [digs, Option.bind_eq_some_iff] at h
    obtain ⟨u, hu, h⟩ := h
    have := digs_lt s k n u hu
    split at h
    · rename_i hd
      simp only [digB, decide_eq_true_eq] at hd
      cases h
      rw [Nat.pow_succ]; omega
    · cases h
theorem digs_bad (s : ByteArray) (k : Nat) : ∀ (n i : Nat), i < n → digB (byt s (k + i)) = false → digs s k n = none
  | 0, i, h, _ => by omega
  | n + 1, i, h, hb => by
    simp only [digs]
    rcases Nat.lt_succ_iff_lt_or_eq.1 h with h' | rfl
    · rw [digs_bad s k n i h' hb]; rfl
    · cases digs s k i with
      | none => rfl
      | some v => simp [hb]
theorem digs_extract (s : ByteArray) (a b : Nat) (hb : b ≤ s.size) : ∀ n, a + n ≤ b → digs (s.extract a b) 0 n = digs s a n
  | 0, _ => rfl
  | n + 1, h => by
    simp only [digs]
    rw [digs_extract s a b hb n (by omega), Nat.zero_add, byt_extract s a b n (by omega) hb]
theorem two_digs (s : ByteArray) (k v : Nat) (hv : v < 100) (h1 : byt s k = (dg v 1).toNat) (h0 : byt s (k + 1) = (dg v 0).toNat) : digs s k 2 = some v := by
  unfold dg at h1 h0
  rw [UInt8.toNat_ofNat'] at h1 h0
  simp only [digs, Option.bind_some, Nat.add_zero, h1, h0, digB]
  rw [if_pos (by simp; omega)]
  simp only [Option.bind_some]
  rw [if_pos (by simp; omega)]
  congr 1
  omega
theorem four_digs (s : ByteArray) (k v : Nat) (hv : v < 10000) (h3 : byt s k = (dg v 3).toNat) (h2 : byt s (k + 1) = (dg v 2).toNat) (h1 : byt s (k + 2) = (dg v 1).toNat) (h0 : byt s (k + 3) = (dg v 0).toNat) : digs s k 4 = some v := by
  unfold dg at h3 h2 h1 h0
  rw [UInt8.toNat_ofNat'] at h3 h2 h1 h0
  simp only [digs, Option.bind_some, Nat.add_zero, h3, h2, h1, h0, digB]
  rw [if_pos (by simp; omega)]
  simp only [Option.bind_some]
  rw [if_pos (by simp; omega)]
  simp only [Option.bind_some]
  rw [if_pos (by simp; omega)]
  simp only [Option.bind_some]
  rw [if_pos (by simp; omega)]
  congr 1
  omega

/-! ### What a text says -/
structure Fm (s : ByteArray) (d m y h i e zh zm : Nat) : Prop where
  size : s.size = 26
  b2 : byt s 2 = 45
  b6 : byt s 6 = 45
  b11 : byt s 11 = 32
  b14 : byt s 14 = 58
  b17 : byt s 17 = 58
  b20 : byt s 20 = 32
  b21 : byt s 21 = 43 ∨ byt s 21 = 45
  day : if byt s 0 = 32 then digs s 1 1 = some d else digs s 0 2 = some d
  month : mon (code s 3) = m
  m0 : m ≠ 0
  year : digs s 7 4 = some y
  hour : digs s 12 2 = some h
  h1 : h ≤ 23
  min : digs s 15 2 = some i
  i1 : i ≤ 59
  sec : digs s 18 2 = some e
  e1 : e ≤ 59
  zhour : digs s 22 2 = some zh
  zh1 : zh ≤ 14
  zmin : digs s 24 2 = some zm
  zm1 : zm ≤ 59
def ahead (s : ByteArray) (zh zm : Nat) : Int := if byt s 21 = 43 then (zh * 3600 + zm * 60 : Nat) else -(zh * 3600 + zm * 60 : Nat)
def timeOf (s : ByteArray) (d m y h i e zh zm : Nat) : Int := (nY y + d - 1 + (cum y (m - 1) : Nat)) * 86400 + h * 3600 + i * 60 + e - ahead s zh zm
/-- s is the text of the time t. -/
def Tells (s : ByteArray) (t : Int) : Prop := ∃ d m y h i e zh zm, Fm s d m y h i e zh zm ∧ 1 ≤ d ∧ d ≤ daysN y m ∧ t = timeOf s d m y h i e zh zm ∧ 0 ≤ t ∧ t ≤ 253402300799
theorem Fm.same {s : ByteArray} {d m y h i e zh zm d' m' y' h' i' e' zh' zm' : Nat} (a : Fm s d m y h i e zh zm) (b : Fm s d' m' y' h' i' e' zh' zm') : d = d' ∧ m = m' ∧ y = y' ∧ h = h' ∧ i = i' ∧ e = e' ∧ zh = zh' ∧ zm = zm' := by
  refine ⟨?_, a.month.symm.trans b.month, Option.some.inj (a.year.symm.trans b.year), Option.some.inj (a.hour.symm.trans b.hour), Option.some.inj (a.min.symm.trans b.min), Option.some.inj (a.sec.symm.trans b.sec), Option.some.inj (a.zhour.symm.trans b.zhour), Option.some.inj (a.zmin.symm.trans b.zmin)⟩
  have h1 := a.day
  have h2 := b.day
  split at h1
  · rename_i hc
    rw [if_pos hc] at h2
    exact Option.some.inj (h1.symm.trans h2)
  · rename_i hc
    rw [if_neg hc] at h2
    exact Option.some.inj (h1.symm.trans h2)
/-- What is answered of s. -/
def Par (s : ByteArray) (t : Int) (ok : Bool) : Prop := (ok = true ∧ Tells s t) ∨ (ok = false ∧ t = 0 ∧ ∀ t', ¬ Tells s t')
theorem Tells.same {s : ByteArray} {t t' : Int} (h : Tells s t) (h' : Tells s t') : t = t' := by
  obtain ⟨d, m, y, hh, i, e, zh, zm, hf, -, -, ht, -⟩ := h
  obtain ⟨d', m', y', hh', i', e', zh', zm', hf', -, -, ht', -⟩ := h'
  obtain ⟨rfl, rfl, rfl, rfl, rfl, rfl, rfl, rfl⟩ := hf.same hf'
  rw [ht, ht']
theorem Par.same {s : ByteArray} {t t' : Int} {ok ok' : Bool} (h : Par s t ok) (h' : Par s t' ok') : t = t' ∧ ok = ok' := by
  rcases h with ⟨rfl, h⟩ | ⟨rfl, rfl, h⟩ <;> rcases h' with ⟨rfl, h'⟩ | ⟨rfl, rfl, h'⟩
  · exact ⟨h.same h', rfl⟩
  · exact absurd h (h' _)
  · exact absurd h' (h _)
  · exact ⟨rfl, rfl⟩
theorem Par.of {s : ByteArray} {t t' : Int} {ok : Bool} (h : Par s t' ok) (ht : Tells s t) : t' = t ∧ ok = true := by
  rcases h with ⟨rfl, h⟩ | ⟨rfl, rfl, h⟩
  · exact ⟨h.same ht, rfl⟩
  · exact absurd ht (h _)
theorem par_none {s : ByteArray} (h : ∀ d m y h i e zh zm, Fm s d m y h i e zh zm → 1 ≤ d → d ≤ daysN y m → 0 ≤ timeOf s d m y h i e zh zm → timeOf s d m y h i e zh zm ≤ 253402300799 → False) : Par s 0 false :=
  .inr ⟨rfl, rfl, fun t ⟨d, m, y, hh, i, e, zh, zm, hf, h1, h2, ht, h3, h4⟩ => h d m y hh i e zh zm hf h1 h2 (ht ▸ h3) (ht ▸ h4)⟩
/-- A year that is too early. -/
theorem early {s : ByteArray} {d m y h i e zh zm : Nat} (hf : Fm s d m y h i e zh zm) (hd : d ≤ daysN y m) (hy : y ≤ 1968) : timeOf s d m y h i e zh zm < 0 := by
  have h1 := nY_low y hy
  have hm : m ≤ 12 := hf.month ▸ mon_le _
  have h2 := cum_step y m (by have := hf.m0; omega)
  have h3 := cum_mono y hm
  rw [cum12] at h3
  have h4 := ylen_pos y
  have := hf.h1; have := hf.i1; have := hf.e1; have := hf.zh1; have := hf.zm1
  unfold timeOf ahead
  split <;> omega

/-! ### A text that was written -/
theorem text_tells (Y M D x : Nat) (t : Int) (sg : UInt8) (zh zm : Nat) (hY : Y ≤ 9999) (hM0 : 1 ≤ M) (hM1 : M ≤ 12) (hD0 : 1 ≤ D) (hD : D ≤ daysN Y M) (hx : x < 86400)
    (hsg : sg = 43 ∨ sg = 45) (hzh : zh ≤ 14) (hzm : zm ≤ 59)
    (ht : t = (nY Y + D - 1 + (cum Y (M - 1) : Nat)) * 86400 + x - (if sg = 43 then ((zh * 3600 + zm * 60 : Nat) : Int) else -((zh * 3600 + zm * 60 : Nat) : Int))) (h0 : 0 ≤ t) (h1 : t ≤ 253402300799) :
    Tells ⟨(headL Y M D x ++ 32 :: sg :: (two zh ++ two zm)).toArray⟩ t := by
  obtain ⟨a, b, c, hn⟩ : ∃ a b c, nameL M = [a, b, c] := by
    have := nameL_length hM0 hM1
    match h : nameL M, this with
    | [a, b, c], _ => exact ⟨a, b, c, rfl⟩
  have hc : codeOf M = (low a.toNat, low b.toNat, low c.toNat) := by
    unfold codeOf code
    rw [hn]; rfl
  obtain ⟨l, hl⟩ : ∃ l, headL Y M D x ++ 32 :: sg :: (two zh ++ two zm) = l := ⟨_, rfl⟩
  have hl' := hl
  unfold headL two four at hl'
  rw [hn] at hl'
  simp only [List.cons_append, List.nil_append] at hl'
  have hd31 := (daysN_pos Y M).2
  have ht0 : byt ⟨l.toArray⟩ 0 = (tensB D).toNat := by rw [byt_of, ← hl']; rfl
  have ht1 : byt ⟨l.toArray⟩ 1 = (dg D 0).toNat := by rw [byt_of, ← hl']; rfl
  rw [hl]
  refine ⟨D, M, Y, x / 3600, x / 60 % 60, x % 60, zh, zm, ⟨?_, ?_, ?_, ?_, ?_, ?_, ?_, ?_, ?_, ?_, by omega, ?_, ?_, by omega, ?_, by omega, ?_, by omega, ?_, hzh, ?_, hzm⟩, hD0, hD, ?_, h0, h1⟩
  · show l.length = 26
    rw [← hl']; rfl
  · rw [byt_of, ← hl']; rfl
  · rw [byt_of, ← hl']; rfl
  · rw [byt_of, ← hl']; rfl
  · rw [byt_of, ← hl']; rfl
  · rw [byt_of, ← hl']; rfl
  · rw [byt_of, ← hl']; rfl
  · rw [byt_of, ← hl']
    show sg.toNat = 43 ∨ sg.toNat = 45
    rcases hsg with rfl | rfl
    · exact .inl rfl
    · exact .inr rfl
  · unfold tensB at ht0
    by_cases h10 : D < 10
    · rw [if_pos h10] at ht0
      rw [if_pos (by rw [ht0]; rfl)]
      unfold dg at ht1
      rw [UInt8.toNat_ofNat'] at ht1
      simp only [digs, Option.bind_some, Nat.add_zero, ht1, digB]
      rw [if_pos (by simp; omega)]
      congr 1
      omega
    · rw [if_neg h10] at ht0
      have hne : ¬ byt ⟨l.toArray⟩ 0 = 32 := by
        rw [ht0]; unfold dg; rw [UInt8.toNat_ofNat']; omega
      rw [if_neg hne]
      exact two_digs _ 0 D (by omega) ht0 ht1
  · rw [← mon_code hM0 hM1, hc]
    congr 1
    unfold code
    rw [byt_of, byt_of, byt_of, ← hl']; rfl
  · exact four_digs _ 7 Y (by omega) (by rw [byt_of, ← hl']; rfl) (by rw [byt_of, ← hl']; rfl) (by rw [byt_of, ← hl']; rfl) (by rw [byt_of, ← hl']; rfl)
  · exact two_digs _ 12 _ (by omega) (by rw [byt_of, ← hl']; rfl) (by rw [byt_of, ← hl']; rfl)
  · exact two_digs _ 15 _ (by omega) (by rw [byt_of, ← hl']; rfl) (by rw [byt_of, ← hl']; rfl)
  · exact two_digs _ 18 _ (by omega) (by rw [byt_of, ← hl']; rfl) (by rw [byt_of, ← hl']; rfl)
  · exact two_digs _ 22 _ (by omega) (by rw [byt_of, ← hl']; rfl) (by rw [byt_of, ← hl']; rfl)
  · exact two_digs _ 24 _ (by omega) (by rw [byt_of, ← hl']; rfl) (by rw [byt_of, ← hl']; rfl)
  · have h21 : byt ⟨l.toArray⟩ 21 = sg.toNat := by rw [byt_of, ← hl']; rfl
    unfold timeOf ahead
    rw [h21, ht]
    rcases hsg with rfl | rfl
    · rw [if_pos rfl, if_pos (show (43 : UInt8).toNat = 43 from rfl)]
      omega
    · rw [if_neg (by decide), if_neg (show ¬ (45 : UInt8).toNat = 43 by decide)]
      omega
end Go.Proofs.YtehecgkmckoolaaDoor.dat
