/- A field, as the program reads it off a line. -/
import Derived.Test.YthofgpddfnajiaaDoorHedB
namespace Go.Proofs.YthofgpddfnajiaaDoor.hd
open Go.ChangeShapes Go.WideShapes Go.ChangeAt Go.RowKit
open Go.Proofs.YthofgpddfnajiaaDoor.codec (Bytes vals)
set_option linter.unusedVariables false
set_option maxRecDepth 100000
set_option linter.unusedSimpArgs false

theorem bytes_at {w : World} {b o n k : Nat} {l : List Nat} (h : Bytes w (some ⟨b, o, none⟩) n l) (hk : k < n) : ∃ x : Nat, l[k]? = some x ∧ x < 256 ∧ w.cell? ⟨b, o + k, none⟩ = some (.int .u8 (x : Nat)) := by
  obtain ⟨h1, h2, h3⟩ := h
  obtain ⟨b', o', e, hc⟩ := h3 (by omega)
  cases e
  have hkl : k < l.length := by omega
  refine ⟨l[k], List.getElem?_eq_getElem hkl, h2 _ (List.getElem_mem hkl), ?_⟩
  rw [hc k hk]
  simp [List.getD, hkl]
/-- Does a line go on with another? -/
def goB : List Nat → Bool
  | [] => false
  | b :: _ => b == 32 || b == 9
set_option maxHeartbeats 400000 in
theorem goesOn_any (w : World) (A : Option Addr) (n c : Nat) (l : List Nat) (hS : Bytes w A n l) (h0 : 0 < n) :
    Calls Tryd.prog 12 #[.slice A n c] w fun e w' => e = .returned (.bool (goB l)) ∧ w' = w := by
  obtain ⟨b, o, rfl, -⟩ := hS.2.2 h0
  obtain ⟨x, hx, hx2, c0⟩ := bytes_at hS h0
  have hg : goB l = (x == 32 || x == 9) := by
    cases l with
    | nil => simp at hx
    | cons y r => simp at hx; subst hx; rfl
  have h0i : (0 : Int) < (n : Int) := by omega
  rw [hg]
  clear hg hx hS
  rw [Nat.add_zero] at c0
  by_cases h1 : x = 32
  · subst h1
    go_enter Tryd.func12, Tryd.ntmps12
    go_wp2
    go_ret
    exact ⟨by simp, rfl⟩
  · have q1 : ((x : Int) == 32) = false := by rw [beq_eq_false_iff_ne]; omega
    have q1n : (x == 32) = false := by rw [beq_eq_false_iff_ne]; omega
    rw [q1n]
    clear h1 q1n
    by_cases h2 : x = 9
    · subst h2
      go_enter Tryd.func12, Tryd.ntmps12
      go_wp2
      go_ret
      exact ⟨by simp, rfl⟩
    · have q2 : ((x : Int) == 9) = false := by rw [beq_eq_false_iff_ne]; omega
      have q2n : (x == 9) = false := by rw [beq_eq_false_iff_ne]; omega
      rw [q2n]
      clear h2 q2n
      go_enter Tryd.func12, Tryd.ntmps12
      go_wp2
      go_ret
      exact ⟨by simp, rfl⟩
/-- Is this a name? -/
def sign (x : Nat) : Bool := decide (33 ≤ x) && decide (x ≤ 126)
def nameB (l : List Nat) : Bool := l.all sign && decide (0 < l.length)
theorem all_no {l : List Nat} {k x : Nat} (h : l[k]? = some x) (hs : sign x = false) : nameB l = false := by
  have : l.all sign = false := by
    rw [List.all_eq_false]
    exact ⟨x, List.mem_of_getElem? h, by rw [hs]; decide⟩
  rw [nameB, this]
  rfl
theorem all_yes {l : List Nat} (h : ∀ (j x : Nat), l[j]? = some x → sign x = true) : nameB l = decide (0 < l.length) := by
  have : l.all sign = true := by
    rw [List.all_eq_true]
    intro x hx
    obtain ⟨j, hj⟩ := List.mem_iff_getElem?.1 hx
    exact h j x hj
  rw [nameB, this]
  rfl
set_option maxHeartbeats 1000000 in
theorem isName_any (w : World) (A : Option Addr) (n c : Nat) (l : List Nat) (hS : Bytes w A n l) (hn : n ≤ 1000000) :
    Calls Tryd.prog 19 #[.slice A n c] w fun e w' => e = .returned (.bool (nameB l)) ∧ w' = w := by
  have HS := Lib.hid hS
  clear hS
  go_enter Tryd.func19, Tryd.ntmps19
  go_wp2
  go_loopw [7] (fun i wr => ∃ k : Nat, k ≤ n ∧ i = .int .i64 k ∧ Hid (∀ j x, j < k → l[j]? = some x → sign x = true) ∧ wr = w) (fun i _ => n - (intOf i).toNat)
  case atStart => exact ⟨0, Nat.zero_le _, rfl, Lib.hid (fun j x h => absurd h (Nat.not_lt_zero _)), rfl⟩
  case round =>
    obtain ⟨k, hk, rfl, HA, rfl⟩ := hrel
    by_cases hkn : k < n
    · obtain ⟨b, o, rfl, -⟩ := HS.out.2.2 (by omega)
      obtain ⟨x, hx, hx2, c0⟩ := bytes_at HS.out hkn
      have hkn' : (k : Int) < (n : Int) := by omega
      have HX := Lib.hid hx
      clear hx
      by_cases h1 : x < 33
      · have q1 : (x : Int) < 33 := by omega
        have HE := Lib.hid (all_no HX.out (by unfold sign; rw [decide_eq_false (by omega)]; rfl))
        clear h1
        go_wp2_with fail
        go_ret
        exact ⟨by rw [HE.out]; rfl, rfl⟩
      · have q1 : ¬ ((x : Int) < 33) := by omega
        by_cases h2 : 126 < x
        · have q2 : (126 : Int) < (x : Int) := by omega
          have HE := Lib.hid (all_no HX.out (by unfold sign; rw [decide_eq_false (show ¬ x ≤ 126 by omega), Bool.and_false]))
          clear h1 h2
          go_wp2_with fail
          go_ret
          exact ⟨by rw [HE.out]; rfl, rfl⟩
        · have q2 : ¬ ((126 : Int) < (x : Int)) := by omega
          have HA2 := Lib.hid (show ∀ j y, j < k + 1 → l[j]? = some y → sign y = true from fun j y hj hy => by
            rcases Nat.lt_succ_iff_lt_or_eq.1 hj with h | rfl
            · exact HA.out j y h hy
            · rw [HX.out] at hy
              cases hy
              unfold sign
              rw [decide_eq_true (show 33 ≤ x by omega), decide_eq_true (show x ≤ 126 by omega)]
              rfl)
          clear h1 h2
          go_wp2_with fail
          go_roundw
          case rel => first | exact ⟨k + 1, by omega, by go_num, HA2, rfl⟩ | exact ⟨k + 1, by omega, by go_num, HA2, trivial⟩ | ((repeat apply Exists.intro); exact ⟨⟨k + 1, by omega, by go_num, HA2, rfl⟩, rfl⟩)
          case measure => (show n - ((k : Int) + 1).toNat < n - k; omega)
    · obtain rfl : k = n := by omega
      have HE := Lib.hid (show nameB l = decide (0 < k) by rw [all_yes (fun j x h => HA.out j x (by have := (List.getElem?_eq_some_iff.1 h).1; have := HS.out.1; omega) h), HS.out.1])
      go_wp2_with fail
      go_ret
      exact ⟨by rw [HE.out]; simp, rfl⟩
/-- Are a name's bytes a text, in any letters? -/
def sameB (l : List Nat) (s : ByteArray) : Bool := decide (l.length = s.size) && (List.range l.length).all fun i => lowB (l.getD i 0) == lowB (byt s i)
theorem same_size {l : List Nat} {s : ByteArray} (h : ¬ l.length = s.size) : sameB l s = false := by unfold sameB; rw [decide_eq_false h]; rfl
theorem same_no {l : List Nat} {s : ByteArray} {k x : Nat} (h : l[k]? = some x) (hs : (lowB x == lowB (byt s k)) = false) : sameB l s = false := by
  have hk := (List.getElem?_eq_some_iff.1 h).1
  have : ((List.range l.length).all fun i => lowB (l.getD i 0) == lowB (byt s i)) = false := by
    rw [List.all_eq_false]
    refine ⟨k, List.mem_range.2 hk, ?_⟩
    rw [show l.getD k 0 = x by simp [List.getD, h], hs]
    decide
  rw [sameB, this, Bool.and_false]
theorem same_yes {l : List Nat} {s : ByteArray} (hz : l.length = s.size) (h : ∀ (j x : Nat), l[j]? = some x → (lowB x == lowB (byt s j)) = true) : sameB l s = true := by
  have : ((List.range l.length).all fun i => lowB (l.getD i 0) == lowB (byt s i)) = true := by
    rw [List.all_eq_true]
    intro j hj
    have hj' := List.mem_range.1 hj
    have := h j l[j] (List.getElem?_eq_getElem hj')
    rw [show l.getD j 0 = l[j] by simp [List.getD, hj']]
    exact this
  rw [sameB, this, decide_eq_true hz]
  rfl
theorem lowB_lt {x : Nat} (h : x < 256) : lowB x < 256 := by unfold lowB; split <;> omega
theorem low_same (w : World) (c : Nat) (hc : c < 256) :
    Calls Tryd.prog 20 #[.int .u8 (c : Nat)] w fun e w' => e = .returned (.int .u8 (lowB c : Nat)) ∧ w' = w := (low_any w c hc).mono fun e w' ⟨h1, h2⟩ => ⟨h1, h2.symm⟩
set_option maxHeartbeats 1600000 in
theorem isSame_any (w : World) (A : Option Addr) (n c : Nat) (l : List Nat) (s : ByteArray) (hS : Bytes w A n l) (hn : n ≤ 1000000) :
    Calls Tryd.prog 14 #[.slice A n c, .string s] w fun e w' => e = .returned (.bool (sameB l s)) ∧ Below w.heap.size w w' := by
  have HS := Lib.hid hS
  have hlen := hS.1
  clear hS
  by_cases hz : n = s.size
  · have HZ := Lib.hid hz
    have hne : ((n : Int) != (s.size : Int)) = false := by simp [hz]
    have HL := Lib.hid hlen
    clear hz hlen
    go_enter Tryd.func14, Tryd.ntmps14
    go_wp2
    go_loopw [14] (fun i wr => ∃ k : Nat, k ≤ n ∧ i = .int .i64 k ∧ Hid (∀ j x, j < k → l[j]? = some x → (lowB x == lowB (byt s j)) = true) ∧ Hid (Bytes wr A n l) ∧ Hid (Below w.heap.size w wr)) (fun i _ => n - (intOf i).toNat)
    case atStart => exact ⟨0, Nat.zero_le _, rfl, Lib.hid (fun j x h => absurd h (Nat.not_lt_zero _)), HS, Lib.hid (Below.refl _ _)⟩
    case round =>
      obtain ⟨k, hk, rfl, HA, HBy, HB⟩ := hrel
      by_cases hkn : k < n
      · have hB := HBy.out
        obtain ⟨b, o, rfl, -⟩ := hB.2.2 (by omega)
        obtain ⟨x, hx, hx2, c0⟩ := bytes_at hB hkn
        have hkn' : (k : Int) < (n : Int) := by omega
        have HX := Lib.hid hx
        have hks : k < s.size := by have := HZ.out; omega
        clear hx hB
        go_wp2
        have k1 : (0 : Int) ≤ (k : Int) := by omega
        have k3 : (k : Int) < (s.size : Int) := by omega
        go_quiet ((go_at_call 20; exact Calls.quiet_of_same (low_same _ _ (by first | exact hx2 | exact UInt8.toNat_lt _))))
        simp only [byt_at]
        cases hb : (lowB x == lowB (byt s k))
        · have hb' : (((lowB x : Nat) : Int) != ((lowB (byt s k) : Nat) : Int)) = true := by
            rw [bne_iff_ne]
            simp at hb
            omega
          have HE := Lib.hid (same_no HX.out hb)
          clear hb
          go_wp2
          go_ret
          exact ⟨by rw [HE.out]; rfl, codec.below_draws HB.out _⟩
        · have hb' : (((lowB x : Nat) : Int) != ((lowB (byt s k) : Nat) : Int)) = false := by
            simp at hb
            simp [hb]
          have HA2 := Lib.hid (show ∀ j y, j < k + 1 → l[j]? = some y → (lowB y == lowB (byt s j)) = true from fun j y hj hy => by
            rcases Nat.lt_succ_iff_lt_or_eq.1 hj with h | rfl
            · exact HA.out j y h hy
            · rw [HX.out] at hy
              cases hy
              exact hb)
          clear hb
          go_wp2
          first
            | exact ⟨⟨k + 1, hkn, by simp, HA2, Lib.hid (HBy.out.drewN _), Lib.hid (codec.below_draws HB.out _)⟩, by simp [intOf]; omega⟩
            | (refine ⟨⟨k + 1, hkn, by simp, HA2, Lib.hid (HBy.out.drewN _), Lib.hid (codec.below_draws HB.out _)⟩, by simp [intOf]; omega⟩)
      · obtain rfl : k = n := by omega
        have HE := Lib.hid (same_yes (l := l) (s := s) (by rw [HL.out, HZ.out]) (fun j x h => HA.out j x (by have := (List.getElem?_eq_some_iff.1 h).1; have := HL.out; omega) h))
        go_wp2
        go_ret
        exact ⟨by rw [HE.out]; rfl, HB.out⟩
  · have hne : ((n : Int) != (s.size : Int)) = true := by rw [bne_iff_ne]; omega
    have HE := Lib.hid (same_size (l := l) (s := s) (by omega))
    clear hz hlen
    go_enter Tryd.func14, Tryd.ntmps14
    go_wp2
    go_ret
    exact ⟨by rw [HE.out]; rfl, Below.refl _ _⟩
end Go.Proofs.YthofgpddfnajiaaDoor.hd
