/- The document's disk in memory; where a name is; which names are right. -/
import Derived.Test.YtedhbcaakdfcbaaBf
namespace Go.Proofs.Ytedhbcaakdfcbaa.disk
open Go.ChangeShapes Go.WideShapes Go.ChangeAt Go.RowKit Go.Maps Go.WideMaps
set_option linter.unusedVariables false
set_option linter.unusedSimpArgs false

/-- A file of the document's, and where its bytes lie. -/
structure RF where
  name : ByteArray
  A : Option Addr
  n : Nat
  c : Nat
  f : File
def RF.cells (x : RF) : List Value := [.string x.name, .slice x.A x.n x.c, .int .i64 (x.f.safe : Nat), .bool x.f.ever]
def cellsF (xs : List RF) : List Value := xs.flatMap RF.cells
theorem cellsF_length (xs : List RF) : (cellsF xs).length = xs.length * 4 := by
  induction xs with
  | nil => rfl
  | cons x xs ih => simp [cellsF, RF.cells] at *; omega
theorem cellsF_append (a b : List RF) : cellsF (a ++ b) = cellsF a ++ cellsF b := by simp [cellsF]
theorem cellsF_get (xs : List RF) (i j : Nat) (hi : i < xs.length) (hj : j < 4) : (cellsF xs)[i * 4 + j]? = xs[i].cells[j]? := by
  induction xs generalizing i with
  | nil => simp at hi
  | cons x xs ih =>
    cases i with
    | zero =>
      rw [Nat.zero_mul, Nat.zero_add]
      show (x.cells ++ cellsF xs)[j]? = _
      rw [List.getElem?_append_left (by simp [RF.cells]; omega)]
      rfl
    | succ i =>
      show (x.cells ++ cellsF xs)[(i + 1) * 4 + j]? = _
      rw [List.getElem?_append_right (by simp [RF.cells]; omega)]
      have : (i + 1) * 4 + j - x.cells.length = i * 4 + j := by simp [RF.cells]; omega
      rw [this, ih i (by simpa using hi)]
      rfl
/-- The document's disk, at p. -/
structure Ref (w : World) (base p : Nat) (v : Value) (cap fuse : Int) (lost : Bool) (xs : List RF) : Prop where
  head : w.heap[p]? = some (.cells #[.int .i64 cap, v, .int .i64 fuse, .bool lost] 32 (0, 0))
  pb : base ≤ p
  rows : w.ownsRow base 60 4 v xs.length (cellsF xs)
  vp : v.ownBlock ≠ some p
  bytes : ∀ x ∈ xs, Bytes w x.A x.n x.f.l
  apart : ∀ x ∈ xs, ∀ ad, x.A = some ad → 0 < x.n → ad.block ≠ p ∧ v.ownBlock ≠ some ad.block
  nil_ : ∀ x ∈ xs, x.A = none → x.c = 0
  le : ∀ x ∈ xs, x.n ≤ x.c
  few : xs.length ≤ 1000
theorem Ref.lt {w : World} {base p : Nat} {v : Value} {cap fuse : Int} {lost : Bool} {xs : List RF} (h : Ref w base p v cap fuse lost xs) : p < w.heap.size := (Array.getElem?_eq_some_iff.1 h.head).1
theorem Ref.facts {w : World} {base p : Nat} {v : Value} {cap fuse : Int} {lost : Bool} {xs : List RF} (h : Ref w base p v cap fuse lost xs) :
    w.cell? ⟨p, 0, none⟩ = some (.int .i64 cap) ∧ w.cell? ⟨p, 0 + 1, none⟩ = some v ∧ w.cell? ⟨p, 2, none⟩ = some (.int .i64 fuse) ∧ w.cell? ⟨p, 3, none⟩ = some (.bool lost) ∧ ∀ j, w.frozen? ⟨p, j, none⟩ = false := by
  have h := h.head
  exact ⟨by simp [World.cell?, h], by simp [World.cell?, h], by simp [World.cell?, h], by simp [World.cell?, h], fun j => by simp [World.frozen?, h]⟩
theorem Ref.form {w : World} {base p : Nat} {v : Value} {cap fuse : Int} {lost : Bool} {xs : List RF} (h : Ref w base p v cap fuse lost xs) : ∃ A cp, v = .slice A xs.length cp ∧ xs.length ≤ cp ∧ (A = none → cp = 0) ∧ cp ≤ maxLen := by
  rcases h.rows.2 with ⟨e, h0⟩ | ⟨g, cap, cur, e, hb, hg, hc, hm, _⟩
  · subst e
    exact ⟨none, 0, by rw [h0], by omega, fun _ => rfl, by simp⟩
  · subst e
    exact ⟨_, _, rfl, hc, (fun e => by cases e), hm⟩
/-- A file of the row. -/
theorem Ref.at_ {w : World} {base p : Nat} {A : Option Addr} {n cp : Nat} {cap fuse : Int} {lost : Bool} {xs : List RF} (h : Ref w base p (.slice A n cp) cap fuse lost xs) {i : Nat} (hi : i < xs.length) :
    ∃ g, A = some ⟨g, 0, none⟩ ∧ g ≠ p ∧ base ≤ g ∧ g < w.heap.size ∧ w.cell? ⟨g, i * 4, none⟩ = some (.string xs[i].name) ∧ w.cell? ⟨g, i * 4 + 1, none⟩ = some (.slice xs[i].A xs[i].n xs[i].c) ∧ w.cell? ⟨g, i * 4 + 2, none⟩ = some (.int .i64 (xs[i].f.safe : Nat)) ∧ w.cell? ⟨g, i * 4 + 3, none⟩ = some (.bool xs[i].f.ever) ∧ ∀ j, w.frozen? ⟨g, j, none⟩ = false := by
  rcases h.rows.2 with ⟨e, h0⟩ | ⟨g, cap', cur, e, hb, hg, hc, hm, hs, ht⟩
  · omega
  · cases e
    have key : ∀ j, j < 4 → w.cell? ⟨g, i * 4 + j, none⟩ = xs[i].cells[j]? := fun j hj => by
      have h1 := cellsF_get xs i j hi hj
      have h2 : cur[i * 4 + j]? = (cellsF xs)[i * 4 + j]? := by
        rw [← ht, List.getElem?_take, if_pos (by omega)]
        simp
      simp [World.cell?, hg, h2, h1]
    have hgp : g ≠ p := fun e => h.vp (by rw [← e]; rfl)
    exact ⟨g, rfl, hgp, hb, (Array.getElem?_eq_some_iff.1 hg).1, key 0 (by omega), key 1 (by omega), key 2 (by omega), key 3 (by omega), fun j => by simp [World.frozen?, hg]⟩
/-- Where a name is. -/
def atR (xs : List RF) (k : List UInt8) : Option Nat := xs.findIdx? (fun x => decide (x.name.data.toList = k))
def atI (xs : List RF) (k : List UInt8) : Int := match atR xs k with | some i => (i : Nat) | none => -1
theorem atR_some {xs : List RF} {k : List UInt8} {i : Nat} (hi : i < xs.length) (h : xs[i].name.data.toList = k) (hb : ∀ j (hj : j < xs.length), j < i → xs[j].name.data.toList ≠ k) : atR xs k = some i := by
  unfold atR
  rw [List.findIdx?_eq_some_iff_getElem]
  exact ⟨hi, by simpa using h, fun j hj => by simpa using hb j (by omega) hj⟩
theorem atR_none {xs : List RF} {k : List UInt8} (hb : ∀ j (hj : j < xs.length), xs[j].name.data.toList ≠ k) : atR xs k = none := by
  unfold atR
  rw [List.findIdx?_eq_none_iff]
  intro x hx
  obtain ⟨j, hj, rfl⟩ := List.mem_iff_getElem.1 hx
  simpa using hb j hj
theorem atI_some {xs : List RF} {k : List UInt8} {i : Nat} (hi : i < xs.length) (h : xs[i].name.data.toList = k) (hb : ∀ j (hj : j < xs.length), j < i → xs[j].name.data.toList ≠ k) : atI xs k = (i : Nat) := by
  unfold atI
  rw [atR_some hi h hb]
theorem atI_none {xs : List RF} {k : List UInt8} (hb : ∀ j (hj : j < xs.length), xs[j].name.data.toList ≠ k) : atI xs k = -1 := by
  unfold atI
  rw [atR_none hb]
set_option maxRecDepth 50000 in
set_option maxHeartbeats 2000000 in
theorem at_any {w : World} {base p : Nat} {v : Value} {cap fuse : Int} {lost : Bool} {xs : List RF} (h : Ref w base p v cap fuse lost xs) (s : ByteArray) :
    Calls Try.prog 27 #[.pointer (some ⟨p, 0, none⟩), .string s] w fun e w' => e = .returned (.int .i64 (atI xs s.data.toList)) ∧ w = w' := by
  obtain ⟨A, cp, rfl, hcp, _, _⟩ := h.form
  obtain ⟨d0, d1, d2, d3, hfz⟩ := h.facts
  have HR := Lib.hid h
  obtain ⟨n, hn⟩ : ∃ n, n = xs.length := ⟨_, rfl⟩
  have hn1 : n ≤ 1000 := by rw [hn]; exact h.few
  rw [← hn] at d1 hcp
  have HN := Lib.hid hn
  clear h hfz hn d0 d2 d3
  go_enter Try.func27, Try.ntmps27
  go_wp2_with fail
  go_loopw [5, 11] (fun _ i wr => ∃ k : Nat, k ≤ n ∧ i = .int .i64 k ∧ wr = w ∧ Hid (∀ j (hj : j < xs.length), j < k → xs[j].name.data.toList ≠ s.data.toList)) (fun _ i _ => n - (intOf i).toNat)
  case atStart => exact ⟨0, Nat.zero_le _, rfl, rfl, fun j _ hj => absurd hj (by omega)⟩
  case round =>
    obtain ⟨k, hk, rfl, rfl, hall⟩ := hrel
    by_cases hlt : k < n
    · have hkx : k < xs.length := by rw [← HN.out]; exact hlt
      have hr := HR.out
      rw [← HN.out] at hr
      obtain ⟨g, rfl, hgp, _, _, c0, c1, c2, c3, hf⟩ := hr.at_ hkx
      have hst := str_eqB xs[k].name s
      by_cases hne : xs[k].name.data.toList = s.data.toList
      · rw [decide_eq_true hne] at hst
        have HAt := Lib.hid (atI_some hkx hne (fun j hj hjk => hall.out j hj hjk))
        clear hne hr
        go_wp2_with fail
        go_ret
        exact ⟨by rw [HAt.out]; rfl, rfl⟩
      · rw [decide_eq_false hne] at hst
        have HNe := Lib.hid hne
        have HLt := Lib.hid hlt
        clear hne hr
        go_wp2_with fail
        go_roundw
        case rel =>
          refine ⟨k + 1, Nat.succ_le_of_lt HLt.out, rfl, trivial, fun j hj hjk => ?_⟩
          by_cases e : j = k
          · subst e
            exact HNe.out
          · exact hall.out j hj (by omega)
        case measure => have hh := HLt.out; simp [intOf]; omega
    · obtain rfl : k = n := by omega
      have HAt := Lib.hid (atI_none (xs := xs) (k := s.data.toList) (fun j hj => hall.out j hj (by rw [HN.out]; exact hj)))
      go_wp2_with fail
      go_ret
      exact ⟨by rw [HAt.out]; rfl, rfl⟩
set_option maxRecDepth 20000 in
set_option maxHeartbeats 2000000 in
theorem right_any (w : World) (s : ByteArray) (hs : s.size ≤ 281474976710656) : Calls Try.prog 28 #[.string s] w fun e w' => e = .returned (.bool (nameB s.data.toList)) ∧ w = w' := by
  have HSz := Lib.hid (size_len s)
  have HS1 := Lib.hid (nameB_short (s := s.data.toList))
  have HS2 := Lib.hid (nameB_long (s := s.data.toList))
  have HG := Lib.hid (nameB_good (s := s.data.toList))
  have HB := Lib.hid (fun k hk => nameB_bad (s := s.data.toList) (k := k) hk)
  have HA := Lib.hid (fun k hk => all_step (s := s.data.toList) (k := k) hk)
  generalize nameB s.data.toList = nb at *
  go_enter Try.func28, Try.ntmps28
  go_wp2
  go_loopw [3, 4, 7] (fun _ _ i wr => ∃ k : Nat, k ≤ s.size ∧ i = .int .i64 k ∧ wr = w ∧ Hid ((s.data.toList.take k).all okByte = true)) (fun _ _ i _ => s.size - (intOf i).toNat)
  case atStart => exact ⟨0, by omega, rfl, rfl, by show _ = _; simp⟩
  case round =>
    obtain ⟨k, hk, rfl, rfl, hall⟩ := hrel
    by_cases hlt : k < s.size
    · have hlt' : k < s.data.toList.length := by rw [← HSz.out]; exact hlt
      have HX := byte_get s k hlt
      have HGood : Hid (okByte (s[k]'hlt) = true → (s.data.toList.take (k + 1)).all okByte = true) := fun h => HA.out k hlt' hall.out (by rw [← HX]; exact h)
      have HBad : Hid (okByte (s[k]'hlt) = false → nb = false) := fun h => HB.out k hlt' (by rw [← HX]; exact h)
      have HDef : Hid (okByte (s[k]'hlt) = decide ((97 ≤ (s[k]'hlt).toNat ∧ (s[k]'hlt).toNat ≤ 122) ∨ (48 ≤ (s[k]'hlt).toNat ∧ (s[k]'hlt).toNat ≤ 57) ∨ (s[k]'hlt).toNat = 46)) := rfl
      have hcase : (s[k]'hlt).toNat < 46 ∨ (s[k]'hlt).toNat = 46 ∨ (s[k]'hlt).toNat = 47 ∨ (48 ≤ (s[k]'hlt).toNat ∧ (s[k]'hlt).toNat ≤ 57) ∨ (58 ≤ (s[k]'hlt).toNat ∧ (s[k]'hlt).toNat < 97) ∨ (97 ≤ (s[k]'hlt).toNat ∧ (s[k]'hlt).toNat ≤ 122) ∨ 122 < (s[k]'hlt).toNat := by omega
      clear HX hlt'
      have HLt := Lib.hid hlt
      rcases hcase with hx | hx | hx | hx | hx | hx | hx
      all_goals have HXx := Lib.hid hx
      · have hz : (((s[k]'hlt).toNat : Int) == 46) = false := by simp; omega
        have hy0 : decide ((48 : Int) ≤ ((s[k]'hlt).toNat : Nat)) = false := by simp; omega
        have hy1 : decide (((s[k]'hlt).toNat : Int) ≤ 57) = true := by simp; omega
        have hy2 : decide ((97 : Int) ≤ ((s[k]'hlt).toNat : Nat)) = false := by simp; omega
        have hy3 : decide (((s[k]'hlt).toNat : Int) ≤ 122) = true := by simp; omega
        have hf := HBad.out (by rw [HDef.out]; exact decide_eq_false (by omega))
        subst hf
        go_wp2
        go_ret
        exact ⟨rfl, rfl⟩
      · have hz : (((s[k]'hlt).toNat : Int) == 46) = true := by simp; omega
        have hy0 : decide ((48 : Int) ≤ ((s[k]'hlt).toNat : Nat)) = false := by simp; omega
        have hy1 : decide (((s[k]'hlt).toNat : Int) ≤ 57) = true := by simp; omega
        have hy2 : decide ((97 : Int) ≤ ((s[k]'hlt).toNat : Nat)) = false := by simp; omega
        have hy3 : decide (((s[k]'hlt).toNat : Int) ≤ 122) = true := by simp; omega
        have HOk := Lib.hid (HGood.out (by rw [HDef.out]; exact decide_eq_true (by omega)))
        go_wp2
        go_roundw
        case rel => exact ⟨k + 1, by have := HLt.out; omega, rfl, trivial, HOk.out⟩
        case measure => have := HLt.out; simp [intOf]; omega
      · have hz : (((s[k]'hlt).toNat : Int) == 46) = false := by simp; omega
        have hy0 : decide ((48 : Int) ≤ ((s[k]'hlt).toNat : Nat)) = false := by simp; omega
        have hy1 : decide (((s[k]'hlt).toNat : Int) ≤ 57) = true := by simp; omega
        have hy2 : decide ((97 : Int) ≤ ((s[k]'hlt).toNat : Nat)) = false := by simp; omega
        have hy3 : decide (((s[k]'hlt).toNat : Int) ≤ 122) = true := by simp; omega
        have hf := HBad.out (by rw [HDef.out]; exact decide_eq_false (by omega))
        subst hf
        go_wp2
        go_ret
        exact ⟨rfl, rfl⟩
      · have hz : (((s[k]'hlt).toNat : Int) == 46) = false := by simp; omega
        have hy0 : decide ((48 : Int) ≤ ((s[k]'hlt).toNat : Nat)) = true := by simp; omega
        have hy1 : decide (((s[k]'hlt).toNat : Int) ≤ 57) = true := by simp; omega
        have hy2 : decide ((97 : Int) ≤ ((s[k]'hlt).toNat : Nat)) = false := by simp; omega
        have hy3 : decide (((s[k]'hlt).toNat : Int) ≤ 122) = true := by simp; omega
        have HOk := Lib.hid (HGood.out (by rw [HDef.out]; exact decide_eq_true (by omega)))
        go_wp2
        go_roundw
        case rel => exact ⟨k + 1, by have := HLt.out; omega, rfl, trivial, HOk.out⟩
        case measure => have := HLt.out; simp [intOf]; omega
      · have hz : (((s[k]'hlt).toNat : Int) == 46) = false := by simp; omega
        have hy0 : decide ((48 : Int) ≤ ((s[k]'hlt).toNat : Nat)) = true := by simp; omega
        have hy1 : decide (((s[k]'hlt).toNat : Int) ≤ 57) = false := by simp; omega
        have hy2 : decide ((97 : Int) ≤ ((s[k]'hlt).toNat : Nat)) = false := by simp; omega
        have hy3 : decide (((s[k]'hlt).toNat : Int) ≤ 122) = true := by simp; omega
        have hf := HBad.out (by rw [HDef.out]; exact decide_eq_false (by omega))
        subst hf
        go_wp2
        go_ret
        exact ⟨rfl, rfl⟩
      · have hz : (((s[k]'hlt).toNat : Int) == 46) = false := by simp; omega
        have hy0 : decide ((48 : Int) ≤ ((s[k]'hlt).toNat : Nat)) = true := by simp; omega
        have hy1 : decide (((s[k]'hlt).toNat : Int) ≤ 57) = false := by simp; omega
        have hy2 : decide ((97 : Int) ≤ ((s[k]'hlt).toNat : Nat)) = true := by simp; omega
        have hy3 : decide (((s[k]'hlt).toNat : Int) ≤ 122) = true := by simp; omega
        have HOk := Lib.hid (HGood.out (by rw [HDef.out]; exact decide_eq_true (by omega)))
        go_wp2
        go_roundw
        case rel => exact ⟨k + 1, by have := HLt.out; omega, rfl, trivial, HOk.out⟩
        case measure => have := HLt.out; simp [intOf]; omega
      · have hz : (((s[k]'hlt).toNat : Int) == 46) = false := by simp; omega
        have hy0 : decide ((48 : Int) ≤ ((s[k]'hlt).toNat : Nat)) = true := by simp; omega
        have hy1 : decide (((s[k]'hlt).toNat : Int) ≤ 57) = false := by simp; omega
        have hy2 : decide ((97 : Int) ≤ ((s[k]'hlt).toNat : Nat)) = true := by simp; omega
        have hy3 : decide (((s[k]'hlt).toNat : Int) ≤ 122) = false := by simp; omega
        have hf := HBad.out (by rw [HDef.out]; exact decide_eq_false (by omega))
        subst hf
        go_wp2
        go_ret
        exact ⟨rfl, rfl⟩
    · obtain rfl : k = s.size := by omega
      have ha : s.data.toList.all okByte = true := by rw [← hall.out, List.take_of_length_le (by rw [← HSz.out]; exact Nat.le_refl _)]
      by_cases h1 : s.size < 1
      · have hf := HS1.out (by rw [← HSz.out]; exact h1)
        subst hf
        go_wp2
        go_ret
        exact ⟨rfl, rfl⟩
      · by_cases h2 : 40 < s.size
        · have hf := HS2.out (by rw [← HSz.out]; exact h2)
          have hy : decide ((s.size : Int) < 41) = false := by simp; omega
          subst hf
          go_wp2
          go_ret
          exact ⟨rfl, rfl⟩
        · have hf := HG.out (by rw [← HSz.out]; exact h1) (by rw [← HSz.out]; exact h2) ha
          have hy : decide ((s.size : Int) < 41) = true := by simp; omega
          subst hf
          go_wp2
          go_ret
          exact ⟨rfl, rfl⟩
end Go.Proofs.Ytedhbcaakdfcbaa.disk
