/- A field, as the program reads it off a line. -/
import Derived.Test.YtcepcamedmiinaaGreatDoorMa1
import Derived.RangeFuncNested
import Derived.RangeFuncBound
import Derived.RangeFuncCalls
import Derived.RangeFuncLeaves
import Derived.RangeFuncBox
import Derived.Shelf.Abstract
import Derived.Shelf.RegionOpen
import Derived.WalkKit
import Derived.OwnWalkIn
import Derived.TacticsInMore
import Derived.LoopNIn
import Derived.LoopIn
import Derived.Maps.AppendAt
import Derived.Test.YtcepcamedmiinaaGreatDoorMs
namespace Go.Proofs.YtcepcamedmiinaaGreatDoor.hd
open Go.ChangeShapes Go.WideShapes Go.ChangeAt Go.RowKit
open Go.Proofs.YtcepcamedmiinaaGreatDoor.codec (Bytes vals)
set_option linter.unusedVariables false
set_option maxRecDepth 100000
set_option linter.unusedSimpArgs false

theorem bytes_at {w : World} {b o n k : Nat} {l : List Nat} (h : Bytes w (some ⟨b, o, none⟩) n l) (hk : k < n) : ∃ x : Nat, l[k]? = some x ∧ x < 256 ∧ w.cell? ⟨b, o + k, none⟩ = some (.int .u8 (x : Nat)) := by
  obtain ⟨h1, h2, h3⟩ := h
  obtain ⟨b', o', e, hc⟩ := h3 (by omega)
  cases e
  have hkl : k < l.length := by omega
  refine ⟨l[k], List.getElem?_eq_getElem hkl, h2 _ (List.getElem_mem hkl), ?_⟩
  rw [hc k hk]
  simp [List.getD, hkl]
/-- Does a line go on with another? -/
def goB : List Nat → Bool
  | [] => false
  | b :: _ => b == 32 || b == 9
set_option maxHeartbeats 400000 in
theorem goesOn_any (w : World) (A : Option Addr) (n c : Nat) (l : List Nat) (hS : Bytes w A n l) (h0 : 0 < n) :
    Calls Tryz.prog 63 #[.slice A n c] w fun e w' => e = .returned (.bool (goB l)) ∧ w' = w := by
  obtain ⟨b, o, rfl, -⟩ := hS.2.2 h0
  obtain ⟨x, hx, hx2, c0⟩ := bytes_at hS h0
  have hg : goB l = (x == 32 || x == 9) := by
    cases l with
    | nil => simp at hx
    | cons y r => simp at hx; subst hx; rfl
  have h0i : (0 : Int) < (n : Int) := by omega
  rw [hg]
  clear hg hx hS
  rw [Nat.add_zero] at c0
  by_cases h1 : x = 32
  · subst h1
    go_enter Tryz.func63, Tryz.ntmps63
    go_wp2
    go_ret
    exact ⟨by simp, rfl⟩
  · have q1 : ((x : Int) == 32) = false := by rw [beq_eq_false_iff_ne]; omega
    have q1n : (x == 32) = false := by rw [beq_eq_false_iff_ne]; omega
    rw [q1n]
    clear h1 q1n
    by_cases h2 : x = 9
    · subst h2
      go_enter Tryz.func63, Tryz.ntmps63
      go_wp2
      go_ret
      exact ⟨by simp, rfl⟩
    · have q2 : ((x : Int) == 9) = false := by rw [beq_eq_false_iff_ne]; omega
      have q2n : (x == 9) = false := by rw [beq_eq_false_iff_ne]; omega
      rw [q2n]
      clear h2 q2n
      go_enter Tryz.func63, Tryz.ntmps63
      go_wp2
      go_ret
      exact ⟨by simp, rfl⟩
/-- Is this a name? -/
def sign (x : Nat) : Bool := decide (33 ≤ x) && decide (x ≤ 126)
def nameB (l : List Nat) : Bool := l.all sign && decide (0 < l.length)
theorem all_no {l : List Nat} {k x : Nat} (h : l[k]? = some x) (hs : sign x = false) : nameB l = false := by
  have : l.all sign = false := by
    rw [List.all_eq_false]
    exact ⟨x, List.mem_of_getElem? h, by rw [hs]; decide⟩
  rw [nameB, this]
  rfl
theorem all_yes {l : List Nat} (h : ∀ (j x : Nat), l[j]? = some x → sign x = true) : nameB l = decide (0 < l.length) := by
  have : l.all sign = true := by
    rw [List.all_eq_true]
    intro x hx
    obtain ⟨j, hj⟩ := List.mem_iff_getElem?.1 hx
    exact h j x hj
  rw [nameB, this]
  rfl
set_option maxHeartbeats 1000000 in
theorem isName_any (w : World) (A : Option Addr) (n c : Nat) (l : List Nat) (hS : Bytes w A n l) (hn : n ≤ 1000000) :
    Calls Tryz.prog 83 #[.slice A n c] w fun e w' => e = .returned (.bool (nameB l)) ∧ w' = w := by
  have HS := Lib.hid hS
  clear hS
  go_enter Tryz.func83, Tryz.ntmps83
  go_wp2
  go_loopw [7] (fun i wr => ∃ k : Nat, k ≤ n ∧ i = .int .i64 k ∧ Hid (∀ j x, j < k → l[j]? = some x → sign x = true) ∧ wr = w) (fun i _ => n - (intOf i).toNat)
  case atStart => exact ⟨0, Nat.zero_le _, rfl, Lib.hid (fun j x h => absurd h (Nat.not_lt_zero _)), rfl⟩
  case round =>
    obtain ⟨k, hk, rfl, HA, rfl⟩ := hrel
    by_cases hkn : k < n
    · obtain ⟨b, o, rfl, -⟩ := HS.out.2.2 (by omega)
      obtain ⟨x, hx, hx2, c0⟩ := bytes_at HS.out hkn
      have hkn' : (k : Int) < (n : Int) := by omega
      have HX := Lib.hid hx
      clear hx
      by_cases h1 : x < 33
      · have q1 : (x : Int) < 33 := by omega
        have HE := Lib.hid (all_no HX.out (by unfold sign; rw [decide_eq_false (by omega)]; rfl))
        clear h1
        go_wp2_with fail
        go_ret
        exact ⟨by rw [HE.out]; rfl, rfl⟩
      · have q1 : ¬ ((x : Int) < 33) := by omega
        by_cases h2 : 126 < x
        · have q2 : (126 : Int) < (x : Int) := by omega
          have HE := Lib.hid (all_no HX.out (by unfold sign; rw [decide_eq_false (show ¬ x ≤ 126 by omega), Bool.and_false]))
          clear h1 h2
          go_wp2_with fail
          go_ret
          exact ⟨by rw [HE.out]; rfl, rfl⟩
        · have q2 : ¬ ((126 : Int) < (x : Int)) := by omega
          have HA2 := Lib.hid (show ∀ j y, j < k + 1 → l[j]? = some y → sign y = true from fun j y hj hy => by
            rcases Nat.lt_succ_iff_lt_or_eq.1 hj with h | rfl
            · exact HA.out j y h hy
            · rw [HX.out] at hy
              cases hy
              unfold sign
              rw [decide_eq_true (show 33 ≤ x by omega), decide_eq_true (show x ≤ 126 by omega)]
              rfl)
          clear h1 h2
          go_wp2_with fail
          go_roundw
          case rel => first | exact ⟨k + 1, by omega, by go_num, HA2, rfl⟩ | exact ⟨k + 1, by omega, by go_num, HA2, trivial⟩ | ((repeat apply Exists.intro); exact ⟨⟨k + 1, by omega, by go_num, HA2, rfl⟩, rfl⟩)
          case measure => (show n - ((k : Int) + 1).toNat < n - k; omega)
    · obtain rfl : k = n := by omega
      have HE := Lib.hid (show nameB l = decide (0 < k) by rw [all_yes (fun j x h => HA.out j x (by have := (List.getElem?_eq_some_iff.1 h).1; have := HS.out.1; omega) h), HS.out.1])
      go_wp2_with fail
      go_ret
      exact ⟨by rw [HE.out]; simp, rfl⟩
/-- Are a name's bytes a text, in any letters? -/
def sameB (l : List Nat) (s : ByteArray) : Bool := decide (l.length = s.size) && (List.range l.length).all fun i => lowB (l.getD i 0) == lowB (byt s i)
theorem same_size {l : List Nat} {s : ByteArray} (h : ¬ l.length = s.size) : sameB l s = false := by unfold sameB; rw [decide_eq_false h]; rfl
theorem same_no {l : List Nat} {s : ByteArray} {k x : Nat} (h : l[k]? = some x) (hs : (lowB x == lowB (byt s k)) = false) : sameB l s = false := by
  have hk := (List.getElem?_eq_some_iff.1 h).1
  have : ((List.range l.length).all fun i => lowB (l.getD i 0) == lowB (byt s i)) = false := by
    rw [List.all_eq_false]
    refine ⟨k, List.mem_range.2 hk, ?_⟩
    rw [show l.getD k 0 = x by simp [List.getD, h], hs]
    decide
  rw [sameB, this, Bool.and_false]
theorem same_yes {l : List Nat} {s : ByteArray} (hz : l.length = s.size) (h : ∀ (j x : Nat), l[j]? = some x → (lowB x == lowB (byt s j)) = true) : sameB l s = true := by
  have : ((List.range l.length).all fun i => lowB (l.getD i 0) == lowB (byt s i)) = true := by
    rw [List.all_eq_true]
    intro j hj
    have hj' := List.mem_range.1 hj
    have := h j l[j] (List.getElem?_eq_getElem hj')
    rw [show l.getD j 0 = l[j] by simp [List.getD, hj']]
    exact this
  rw [sameB, this, decide_eq_true hz]
  rfl
theorem lowB_lt {x : Nat} (h : x < 256) : lowB x < 256 := by unfold lowB; split <;> omega
theorem low_same (w : World) (c : Nat) (hc : c < 256) :
    Calls Tryz.prog 84 #[.int .u8 (c : Nat)] w fun e w' => e = .returned (.int .u8 (lowB c : Nat)) ∧ w' = w := (low_any w c hc).mono fun e w' ⟨h1, h2⟩ => ⟨h1, h2.symm⟩
set_option maxHeartbeats 1600000 in
theorem isSame_any (w : World) (A : Option Addr) (n c : Nat) (l : List Nat) (s : ByteArray) (hS : Bytes w A n l) (hn : n ≤ 1000000) :
    Calls Tryz.prog 65 #[.slice A n c, .string s] w fun e w' => e = .returned (.bool (sameB l s)) ∧ Below w.heap.size w w' := by
  have HS := Lib.hid hS
  have hlen := hS.1
  clear hS
  by_cases hz : n = s.size
  · have HZ := Lib.hid hz
    have hne : ((n : Int) != (s.size : Int)) = false := by simp [hz]
    have HL := Lib.hid hlen
    clear hz hlen
    go_enter Tryz.func65, Tryz.ntmps65
    go_wp2
    go_loopw [14] (fun i wr => ∃ k : Nat, k ≤ n ∧ i = .int .i64 k ∧ Hid (∀ j x, j < k → l[j]? = some x → (lowB x == lowB (byt s j)) = true) ∧ Hid (Bytes wr A n l) ∧ Hid (Below w.heap.size w wr)) (fun i _ => n - (intOf i).toNat)
    case atStart => exact ⟨0, Nat.zero_le _, rfl, Lib.hid (fun j x h => absurd h (Nat.not_lt_zero _)), HS, Lib.hid (Below.refl _ _)⟩
    case round =>
      obtain ⟨k, hk, rfl, HA, HBy, HB⟩ := hrel
      by_cases hkn : k < n
      · have hB := HBy.out
        obtain ⟨b, o, rfl, -⟩ := hB.2.2 (by omega)
        obtain ⟨x, hx, hx2, c0⟩ := bytes_at hB hkn
        have hkn' : (k : Int) < (n : Int) := by omega
        have HX := Lib.hid hx
        have hks : k < s.size := by have := HZ.out; omega
        clear hx hB
        go_wp2
        have k1 : (0 : Int) ≤ (k : Int) := by omega
        have k3 : (k : Int) < (s.size : Int) := by omega
        go_quiet ((go_at_call 84; exact Calls.quiet_of_same (low_same _ _ (by first | exact hx2 | exact UInt8.toNat_lt _))))
        simp only [byt_at]
        cases hb : (lowB x == lowB (byt s k))
        · have hb' : (((lowB x : Nat) : Int) != ((lowB (byt s k) : Nat) : Int)) = true := by
            rw [bne_iff_ne]
            simp at hb
            omega
          have HE := Lib.hid (same_no HX.out hb)
          clear hb
          go_wp2
          go_ret
          exact ⟨by rw [HE.out]; rfl, codec.below_draws HB.out _⟩
        · have hb' : (((lowB x : Nat) : Int) != ((lowB (byt s k) : Nat) : Int)) = false := by
            simp at hb
            simp [hb]
          have HA2 := Lib.hid (show ∀ j y, j < k + 1 → l[j]? = some y → (lowB y == lowB (byt s j)) = true from fun j y hj hy => by
            rcases Nat.lt_succ_iff_lt_or_eq.1 hj with h | rfl
            · exact HA.out j y h hy
            · rw [HX.out] at hy
              cases hy
              exact hb)
          clear hb
          go_wp2
          first
            | exact ⟨⟨k + 1, hkn, by simp, HA2, Lib.hid (HBy.out.drewN _), Lib.hid (codec.below_draws HB.out _)⟩, by simp [intOf]; omega⟩
            | (refine ⟨⟨k + 1, hkn, by simp, HA2, Lib.hid (HBy.out.drewN _), Lib.hid (codec.below_draws HB.out _)⟩, by simp [intOf]; omega⟩)
      · obtain rfl : k = n := by omega
        have HE := Lib.hid (same_yes (l := l) (s := s) (by rw [HL.out, HZ.out]) (fun j x h => HA.out j x (by have := (List.getElem?_eq_some_iff.1 h).1; have := HL.out; omega) h))
        go_wp2
        go_ret
        exact ⟨by rw [HE.out]; rfl, HB.out⟩
  · have hne : ((n : Int) != (s.size : Int)) = true := by rw [bne_iff_ne]; omega
    have HE := Lib.hid (same_size (l := l) (s := s) (by omega))
    clear hz hlen
    go_enter Tryz.func65, Tryz.ntmps65
    go_wp2
    go_ret
    exact ⟨by rw [HE.out]; rfl, Below.refl _ _⟩
end Go.Proofs.YtcepcamedmiinaaGreatDoor.hd
namespace Go.Proofs.YtcepcamedmiinaaGreatDoor.hd
open Go.ChangeShapes Go.WideShapes Go.ChangeAt Go.RowKit
open Go.Proofs.YtcepcamedmiinaaGreatDoor.codec (Bytes vals)
set_option linter.unusedVariables false
set_option maxRecDepth 100000
set_option linter.unusedSimpArgs false

theorem cell_at {w : World} {b : Nat} {cs : Array Value} {t : TypeId} {m : Nat × Nat} (h : w.heap[b]? = some (.cells cs t m)) (i : Nat) (v : Value) (hv : cs[i]? = some v) : w.cell? ⟨b, i, none⟩ = some v := by
  simp [World.cell?, h, hv]
theorem fieldSize (cs : Array Value) (h : cs.size = 2) : (Tryz.prog.info? 106).map (·.size) = some cs.size := by
  rw [h]
  kernel_rfl
/-- What then lies in a part that is stored whole. -/
theorem two {w : World} {g : Nat} {t : TypeId} {cs : Array Value} (h : w.heap[g]? = some (.cells cs t (0, 0))) (hs : cs.size = 2) (v0 v1 : Value) :
    ((w.setCell ⟨g, 0, none⟩ v0).setCell ⟨g, 1, none⟩ v1).heap[g]? = some (.cells #[v0, v1] t (0, 0)) ∧
    (∀ k, k ≠ g → ((w.setCell ⟨g, 0, none⟩ v0).setCell ⟨g, 1, none⟩ v1).heap[k]? = w.heap[k]?) ∧
    ∀ (B : Nat) (a : World), Below B a w → B ≤ g → Below B a ((w.setCell ⟨g, 0, none⟩ v0).setCell ⟨g, 1, none⟩ v1) := by
  refine ⟨?_, fun k hk => by rw [heap_setCell_other _ _ _ _ hk, heap_setCell_other _ _ _ _ hk], fun B a hb hg => (hb.setCell (p := ⟨g, 0, none⟩) hg _).setCell (p := ⟨g, 1, none⟩) hg _⟩
  rw [heap_setCell_same _ g 1 _ t _ (heap_setCell_same _ g 0 _ t _ h)]
  obtain ⟨l⟩ := cs
  have hl : l.length = 2 := hs
  match l, hl with
  | [a0, a1], _ => rfl
theorem results_cell_tmp {P : Program} {fn : Func} {p q : Tmp} {ty : TypeId} (h : fn.results = #[.cell p ty, .tmp q]) (tmps : Array Value) (w : World) (g : Nat) (t : TypeId) (cs : Array Value) (fr : Nat × Nat) (d : TypeDesc)
    (hp : tmps.getD p undef = .pointer (some ⟨g, 0, none⟩)) (hg : w.heap[g]? = some (.cells cs t fr))
    (hu : P.underlying ty = some d) (hd : (match d with | .struct _ | .array _ _ => true | _ => false) = true) (hi : (P.info? ty).map (·.size) = some cs.size) :
    (results fn tmps).run P w = .ok (.tuple #[.agg cs, tmps.getD q undef]) w := by
  have hp' : tmps[p]?.getD undef = .pointer (some ⟨g, 0, none⟩) := by simpa using hp
  simp [results, h, hp', asAddr, run_loadVar_row w g t ty cs fr d hg hu hd hi]
/-- The field that a line begins. -/
def parseL (l : List Nat) : Option (List Nat × List Nat) := if ix 58 l < l.length ∧ nameB (l.take (ix 58 l)) = true then some (l.take (ix 58 l), l.drop (ix 58 l + 1)) else none
def ParseAns (w : World) (l : List Nat) (e : Ending) (w' : World) : Prop :=
  ∃ A1 n1 c1 A2 n2 c2, e = .returned (.tuple #[.agg #[.slice A1 n1 c1, .slice A2 n2 c2], .bool (parseL l).isSome]) ∧ (∀ a b, parseL l = some (a, b) → Sl w A1 n1 c1 a ∧ Sl w A2 n2 c2 b) ∧ Below w.heap.size w w'
set_option maxHeartbeats 1000000 in
theorem parse_any (w : World) (A : Option Addr) (n c : Nat) (l : List Nat) (hS : Sl w A n c l) (hn : n ≤ 1000000) (hr : Room w) :
    Calls Tryz.prog 64 #[.slice A n c] w fun e w' => ParseAns w l e w' := by
  obtain ⟨W0, hW0⟩ : ∃ W0, W0 = w.alloc (.cells #[.slice none 0 0, .slice none 0 0] 106) := ⟨_, rfl⟩
  have hb0 : Below w.heap.size w W0 := by rw [hW0]; exact (Below.refl _ _).alloc (Nat.le_refl _) _
  have hx0 : W0.heap[w.heap.size]? = some (.cells #[.slice none 0 0, .slice none 0 0] 106 (0, 0)) := by rw [hW0]; exact heap_alloc_new _ _
  obtain ⟨W1, hW1⟩ : ∃ W1, W1 = W0.alloc (.cells #[.int .u8 58] 5) := ⟨_, rfl⟩
  have hb01 : Below W0.heap.size W0 W1 := by rw [hW1]; exact (Below.refl _ _).alloc (Nat.le_refl _) _
  have hb1 : Below w.heap.size w W1 := hb0.trans (hb01.mono hb0.size)
  obtain ⟨g, hg⟩ : ∃ g, g = w.heap.size + 1 := ⟨_, rfl⟩
  have hc0 : W1.cell? ⟨g, 0, none⟩ = some (.int .u8 ((58 : Nat) : Nat)) := by
    rw [hW1, hg, show w.heap.size + 1 = W0.heap.size by rw [hW0]; simp]
    simp
  have hx1 : W1.heap[w.heap.size]? = some (.cells #[.slice none 0 0, .slice none 0 0] 106 (0, 0)) := (hb01.block _ (Array.getElem?_eq_some_iff.1 hx0).1).trans hx0
  have HC := Lib.hid (cut_any W1 A n c g 1 58 l (hS.below hb1) (by omega) (by decide) hc0 (hr.below hb1))
  have HB := Lib.hid hb1
  have HX := Lib.hid hx1
  have HS := Lib.hid hS
  have HW0 := Lib.hid hW0
  have HW1 := Lib.hid hW1
  have HG := Lib.hid hg
  have HN := Lib.hid hn
  clear hb0 hx0 hb01 hb1 hc0 hx1 hS hr hW0 hW1 hg hn
  go_enter Tryz.func64, Tryz.ntmps64
  go_wp2_with fail
  rw [← HW0.out, ← HG.out, ← HW1.out]
  refine HC.out.mono ?_
  rintro e w2 ⟨rfl, hb⟩
  have HB2 := Lib.hid (HB.out.trans (hb.mono HB.out.size))
  have hx2 : w2.heap[w.heap.size]? = some (.cells #[.slice none 0 0, .slice none 0 0] 106 (0, 0)) := (hb.block _ (Array.getElem?_eq_some_iff.1 HX.out).1).trans HX.out
  have HX2 := Lib.hid hx2
  obtain ⟨k, hk⟩ : ∃ k, k = ix 58 l := ⟨_, rfl⟩
  rw [← hk]
  have hkn : k ≤ n := by have := ix_le 58 l; rw [HS.out.1.1] at this; omega
  have HP := Lib.hid (show parseL l = if k < n ∧ nameB (l.take k) = true then some (l.take k, l.drop (k + 1)) else none by unfold parseL; rw [HS.out.1.1, ← hk])
  have c0 := cell_at hx2 0 _ rfl
  have c1 := cell_at hx2 1 _ rfl
  have z0 := frozen_of_row _ _ 0 _ _ hx2
  have z1 := frozen_of_row _ _ 1 _ _ hx2
  have HNm := Lib.hid (isName_any w2 A k c (l.take k) ((HS.out.below HB2.out).part k hkn).1 (by have := HN.out; omega))
  clear hb hx2 hk hkn
  by_cases hf : k < n
  · have hR : restV A n c k = .slice (if c = k + 1 then A else A.map fun x => x.add (k + 1)) (n - (k + 1)) (c - (k + 1)) := if_pos hf
    have HR2 := Lib.hid (HS.out.rest (k + 1) (by omega))
    have HK := Lib.hid hf
    rw [hR]
    rw [decide_eq_true hf]
    generalize (if c = k + 1 then A else A.map fun x => x.add (k + 1)) = R at *
    obtain ⟨m, hm⟩ : ∃ m, m = n - (k + 1) := ⟨_, rfl⟩
    obtain ⟨d, hd⟩ : ∃ d, d = c - (k + 1) := ⟨_, rfl⟩
    rw [← hm, ← hd] at HR2 ⊢
    obtain ⟨f, hff⟩ : ∃ f, f = nameB (l.take k) := ⟨_, rfl⟩
    rw [← hff] at HNm HP
    clear hf hR hm hd hff
    cases f with
    | false =>
      obtain ⟨k1, k2, k3⟩ := two HX2.out rfl (.slice none 0 0) (.slice none 0 0)
      have HK1 := Lib.hid k1
      have HE := Lib.hid (show ParseAns w l (.returned (.tuple #[.agg #[.slice none 0 0, .slice none 0 0], .bool false])) _ from ⟨none, 0, 0, none, 0, 0, by rw [HP.out, if_neg (by simp)]; rfl, (fun a b h => by rw [HP.out, if_neg (by simp)] at h; cases h), k3 _ _ HB2.out (Nat.le_refl _)⟩)
      clear k1 k2 k3
      go_wp2_with (go_at_call 83; refine HNm.out.mono ?_; rintro e w3 ⟨rfl, hw⟩; replace hw := hw.symm; subst hw)
      exact bodyPost_ret (results_cell_tmp Tryz.results64 _ _ w.heap.size _ _ _ _ rfl HK1.out Tryz.underlying106 rfl (fieldSize _ rfl)) rfl HE.out
    | true =>
      obtain ⟨k1, k2, k3⟩ := two HX2.out rfl (.slice A k c) (.slice R m d)
      have HK1 := Lib.hid k1
      have HE := Lib.hid (show ParseAns w l (.returned (.tuple #[.agg #[.slice A k c, .slice R m d], .bool true])) _ from ⟨A, k, c, R, m, d, by rw [HP.out, if_pos ⟨HK.out, rfl⟩]; rfl, fun a b h => by
        rw [HP.out, if_pos ⟨HK.out, rfl⟩] at h
        cases h
        exact ⟨HS.out.part k (Nat.le_of_lt HK.out), HR2.out⟩, k3 _ _ HB2.out (Nat.le_refl _)⟩)
      clear k1 k2 k3
      go_wp2_with (go_at_call 83; refine HNm.out.mono ?_; rintro e w3 ⟨rfl, hw⟩; replace hw := hw.symm; subst hw)
      exact bodyPost_ret (results_cell_tmp Tryz.results64 _ _ w.heap.size _ _ _ _ rfl HK1.out Tryz.underlying106 rfl (fieldSize _ rfl)) rfl HE.out
  · have hR : restV A n c k = .slice none 0 0 := if_neg hf
    rw [hR, decide_eq_false hf]
    obtain ⟨k1, k2, k3⟩ := two HX2.out rfl (.slice none 0 0) (.slice none 0 0)
    have HK1 := Lib.hid k1
    have HE := Lib.hid (show ParseAns w l (.returned (.tuple #[.agg #[.slice none 0 0, .slice none 0 0], .bool false])) _ from ⟨none, 0, 0, none, 0, 0, by rw [HP.out, if_neg (fun h => hf h.1)]; rfl, (fun a b h => by rw [HP.out, if_neg (fun h => hf h.1)] at h; cases h), k3 _ _ HB2.out (Nat.le_refl _)⟩)
    clear k1 k2 k3 hf hR
    go_wp2_with fail
    exact bodyPost_ret (results_cell_tmp Tryz.results64 _ _ w.heap.size _ _ _ _ rfl HK1.out Tryz.underlying106 rfl (fieldSize _ rfl)) rfl HE.out
end Go.Proofs.YtcepcamedmiinaaGreatDoor.hd
namespace Go.Proofs.YtcepcamedmiinaaGreatDoor.hd
open Go.ChangeShapes Go.WideShapes Go.ChangeAt Go.RowKit Go.Shelf
open Go.Proofs.YtcepcamedmiinaaGreatDoor.codec (Bytes vals)
set_option linter.unusedVariables false
set_option maxRecDepth 100000
set_option linter.unusedSimpArgs false

attribute [local go_sem] Oper.semAt_some
/-- The lines of a head. -/
def linesF : Nat → List Nat → List (List Nat)
  | 0, _ => []
  | k + 1, l => if l.length = 0 then [] else if (ln l).length = 0 then [] else ln l :: linesF k (l.drop (nx l))
theorem linesF_more : ∀ (k m : Nat) (l : List Nat), l.length ≤ k → l.length ≤ m → linesF k l = linesF m l
  | 0, 0, l, _, _ => rfl
  | 0, m + 1, l, h, _ => by rw [linesF, linesF, if_pos (by omega)]
  | k + 1, 0, l, _, h => by rw [linesF, linesF, if_pos (by omega)]
  | k + 1, m + 1, l, h1, h2 => by
    rw [linesF, linesF]
    by_cases h0 : l.length = 0
    · rw [if_pos h0, if_pos h0]
    · have hx := nx_pos (l := l) (by omega)
      rw [if_neg h0, if_neg h0, linesF_more k m (l.drop (nx l)) (by rw [List.length_drop]; omega) (by rw [List.length_drop]; omega)]
def linesOf (l : List Nat) : List (List Nat) := linesF l.length l
theorem linesOf_nil {l : List Nat} (h : l.length = 0) : linesOf l = [] := by
  unfold linesOf
  rw [h, linesF]
theorem linesOf_stop {l : List Nat} (h : (ln l).length = 0) : linesOf l = [] := by
  unfold linesOf
  cases hl : l.length with
  | zero => rw [linesF]
  | succ k => rw [linesF, if_neg (by omega), if_pos h]
theorem linesOf_more {l : List Nat} (h0 : 0 < l.length) (h : 0 < (ln l).length) : linesOf l = ln l :: linesOf (l.drop (nx l)) := by
  have hx := nx_pos h0
  unfold linesOf
  obtain ⟨k, hk⟩ : ∃ k, l.length = k + 1 := ⟨l.length - 1, by omega⟩
  rw [hk, linesF, if_neg (by omega), if_neg (by omega), linesF_more k (l.drop (nx l)).length (l.drop (nx l)) (by rw [List.length_drop]; omega) (Nat.le_refl _)]
/-- A line, where it lies. -/
abbrev Lin (W0 : World) := { x : Option Addr × Nat × List Nat // Sl W0 x.1 x.2.2.length x.2.1 x.2.2 ∧ 0 < x.2.2.length ∧ x.2.2.length ≤ 60000 }
def linV {W0 : World} (x : Lin W0) : Value := .slice x.1.1 x.1.2.2.length x.1.2.1
def sliceLen' : Value → Nat
  | .slice _ n _ => n
  | _ => 0
theorem grown_of {w w' : World} (hb : Below w.heap.size w w') : w.grownBy w' none := ⟨hb.os, hb.tape, hb.output, hb.size, fun i hi _ => hb.block i hi⟩
theorem ln_le (l : List Nat) : (ln l).length ≤ l.length := by
  unfold ln
  have h1 := chop_le (l.take (lf l))
  rw [List.length_take] at h1
  omega
theorem Sl.below' {w w' : World} {A : Option Addr} {n c : Nat} {l : List Nat} (h : Sl w A n c l) (hb : Below w.heap.size w w') : Sl w' A n c l := h.below hb
theorem Room.below' {w w' : World} (h : Room w) (hb : Below w.heap.size w w') : Room w' := h.below hb
set_option maxHeartbeats 2000000 in
theorem lines1_in (n : Nat) (hn : 2 ≤ n) (k Bn : Nat) (W0 : World) (A : Option Addr) (N c : Nat) (l : List Nat) (hS : Sl W0 A N c l) (hN : N ≤ 60000) (hr : Room W0) (J Jx : List (Lin W0) → World → Prop) (W : World)
    (hJ : AbidesFrom W.heap.size J)
    (hY : ∀ pre x W1, J pre W1 → pre.length < N + 1 → YieldAt Fence.wide (n - 1) Tryz.prog k #[linV x] W1 fun e W' =>
      (e = .returned (.bool true) ∧ J (pre ++ [x]) W' ∧ Below W0.heap.size W1 W') ∨ (e = .returned (.bool false) ∧ Jx (pre ++ [x]) W'))
    (hb : Below W0.heap.size W0 W) (hBn : W.cell? ⟨Bn, 0, none⟩ = some (.slice A N c)) (h0 : J [] W) :
    CallsIn Fence.wide n Tryz.prog 81 #[.func (.yield k) #[] #[], .pointer (some ⟨Bn, 0, none⟩)] W fun e W' => (∃ v, e = .returned v) ∧
      ((∃ ys, ys.map (·.1.2.2) = linesOf l ∧ J ys W') ∨ (∃ pre, pre.map (·.1.2.2) <+: linesOf l ∧ Jx pre W')) := by
  have HS := Lib.hid hS
  have HN := Lib.hid hN
  have HR := Lib.hid hr
  have HJ := Lib.hid hJ
  have HY := Lib.hid hY
  have HB := Lib.hid hb
  have HJ0 := Lib.hid h0
  clear hS hN hr hJ hY hb h0
  refine callsIn_of_wp Tryz.func81 rfl trivial ?_ rfl
  simp only [Tryz.ntmps81, List.size_toArray, List.length_cons, List.length_nil, Nat.reduceAdd, Nat.reduceSub, Array.replicate_succ, Array.replicate_zero, List.push_toArray, List.append_toArray, List.nil_append, List.cons_append]
  gi_wp2
  gi_loopw [3, 4] (fun r lx wr => ∃ (p : Nat) (pre : List (Lin W0)) (R : Option Addr) (m d : Nat), r = .slice R m d ∧ Hid (m + p = N) ∧ Hid (Sl W0 R m d (l.drop p)) ∧ Hid (linesOf l = pre.map (·.1.2.2) ++ linesOf (l.drop p)) ∧ Hid (pre.length ≤ p) ∧ Hid (J pre wr) ∧ Hid (Below W0.heap.size W0 wr)) (fun r _ _ => sliceLen' r)
  case atStart => exact ⟨0, [], A, N, c, rfl, Lib.hid (Nat.add_zero N), HS, Lib.hid rfl, Lib.hid (Nat.le_refl _), HJ0, HB⟩
  case round =>
    obtain ⟨p, pre, R, m, d, rfl, HM, HSr, HL, HP, HJp, HB1⟩ := hrel
    by_cases h0 : 0 < m
    · have h0i : (0 : Int) < (m : Int) := by omega
      have HH0 := Lib.hid h0
      have HA := Lib.hid (line_any2 wr R m d (l.drop p) (HSr.out.below' HB1.out) (by have := HM.out; have := HN.out; omega) (HR.out.below' HB1.out))
      clear h0
      gi_wp2
      refine ⟨trivial, fun _ => by omega, ?_⟩
      refine (callsIn_wide.2 HA.out).mono ?_
      rintro e w2 ⟨R2, m2, d2, rfl, hm2, hs2, hb2⟩
      have HM2 := Lib.hid (show m2 + (p + nx (l.drop p)) = N by have := HM.out; omega)
      have HS2 := Lib.hid (show Sl W0 R2 m2 d2 (l.drop (p + nx (l.drop p))) by rw [← drop_nx]; exact hs2 W0 HSr.out)
      have HB2 := Lib.hid (HB1.out.trans (hb2.mono HB1.out.size))
      have HJ2 := Lib.hid (HJ.out pre wr w2 none HJp.out (grown_of hb2) (fun r e => by cases e))
      have hx := nx_pos (l := l.drop p) (by rw [← HSr.out.1.1] at HH0; exact HH0.out)
      have HLt := Lib.hid (show m2 < m by omega)
      have HX := Lib.hid hx
      clear hm2 hs2 hb2 hx
      by_cases hz : (ln (l.drop p)).length = 0
      · have HE := Lib.hid (show pre.map (·.1.2.2) = linesOf l by rw [HL.out, linesOf_stop hz, List.append_nil])
        rw [hz]
        clear hz
        gi_wp2
        refine ⟨fun _ h => (by cases h), ?_⟩
        gi_wp2
        refine bodyPost_ret (results_none rfl _ _ _) rfl ?_
        exact ⟨⟨_, rfl⟩, .inl ⟨pre, HE.out, HJ2.out⟩⟩
      · have hp : Sl W0 R (ln (l.drop p)).length d (ln (l.drop p)) ∧ 0 < (ln (l.drop p)).length ∧ (ln (l.drop p)).length ≤ 60000 := by
          have h0 := ln_le (l.drop p)
          have h2 := HSr.out.1.1
          have h1 := HSr.out.part (ln (l.drop p)).length (by omega)
          rw [← ln_take] at h1
          exact ⟨h1, by omega, by have := HM.out; have := HN.out; omega⟩
        obtain ⟨x, hx⟩ : ∃ x : Lin W0, x.1 = (R, d, ln (l.drop p)) := ⟨⟨(R, d, ln (l.drop p)), hp⟩, rfl⟩
        have hlv : linV x = .slice R (ln (l.drop p)).length d := by unfold linV; rw [hx]
        have hlx : x.1.2.2 = ln (l.drop p) := by rw [hx]
        clear hp
        obtain ⟨fn, tmps, assign, body, hy, hRd⟩ := HY.out pre x w2 HJ2.out (by have := HP.out; have := HM.out; omega)
        rw [hlv] at hy
        have HLn := Lib.hid (show linesOf l = (pre ++ [x]).map (·.1.2.2) ++ linesOf (l.drop (p + nx (l.drop p))) by
          rw [HL.out, linesOf_more (l := l.drop p) (by rw [HSr.out.1.1]; exact HH0.out) (by omega), drop_nx, List.map_append, List.append_assoc, ← hlx]
          rfl)
        have HPn := Lib.hid (show (pre ++ [x]).length ≤ p + nx (l.drop p) by rw [List.length_append]; have := HP.out; have := HX.out; simp; omega)
        have hz1 : ¬ (((ln (l.drop p)).length : Int) = 0) := by omega
        have hz2 : ((((ln (l.drop p)).length : Nat) : Int) == 0) = false := by rw [beq_eq_false_iff_ne]; omega
        have HRd := Lib.hid hRd
        generalize (ln (l.drop p)).length = q at *
        clear hlv hlx hx hRd
        gi_wp2
        refine ⟨fun _ => by omega, ?_⟩
        refine HRd.out.mono ?_
        rintro e W3 (⟨rfl, hJ3, hk3⟩ | ⟨rfl, hJx3⟩)
        · have HJ3 := Lib.hid hJ3
          have HB3 := Lib.hid (HB2.out.trans hk3)
          clear hJ3 hk3
          gi_wp2
          go_roundw
          case rel => first | exact ⟨p + nx (l.drop p), pre ++ [x], R2, m2, d2, rfl, HM2, HS2, HLn, HPn, HJ3, HB3⟩ | ((repeat apply Exists.intro); exact ⟨⟨p + nx (l.drop p), pre ++ [x], R2, m2, d2, rfl, HM2, HS2, HLn, HPn, HJ3, HB3⟩, rfl⟩)
          case measure => exact HLt.out
        · have HE := Lib.hid (show (pre ++ [x]).map (·.1.2.2) <+: linesOf l from ⟨_, HLn.out.symm⟩)
          have HJ3 := Lib.hid hJx3
          clear hJx3
          gi_wp2
          refine bodyPost_ret (results_none rfl _ _ _) rfl ?_
          exact ⟨⟨_, rfl⟩, .inr ⟨pre ++ [x], HE.out, HJ3.out⟩⟩
    · obtain rfl : m = 0 := by omega
      have HE := Lib.hid (show pre.map (·.1.2.2) = linesOf l by rw [HL.out, linesOf_nil (l := l.drop p) (by rw [← HSr.out.1.1]), List.append_nil])
      clear h0
      gi_wp2
      go_end0
      exact ⟨⟨_, rfl⟩, .inl ⟨pre, HE.out, HJp.out⟩⟩
theorem lines_stops (n : Nat) (hn : 2 ≤ n) (Bn : Nat) (W0 : World) (A : Option Addr) (N c : Nat) (l : List Nat) (hS : Sl W0 A N c l) (hN : N ≤ 60000) (hr : Room W0) (w : World) (hBn : Bn < w.heap.size) (h0 : W0.heap.size ≤ w.heap.size) (hb : Below W0.heap.size W0 w)
    (hc : w.cell? ⟨Bn, 0, none⟩ = some (.slice A N c)) :
    SeqStopsK Fence.wide n Tryz.prog 81 #[.pointer (some ⟨Bn, 0, none⟩)] (fun x : Lin W0 => #[linV x]) (Below W0.heap.size) (fun ys => ys.map (·.1.2.2) = linesOf l) (fun pre => pre.map (·.1.2.2) <+: linesOf l) (N + 1) w := fun k J Jx W hW hJ _ hY hJ0 =>
  lines1_in n hn k Bn W0 A N c l hS hN hr J Jx W hJ hY (hb.trans (hW.mono h0)) ((hW.cell (p := ⟨Bn, 0, none⟩) hBn).trans hc) hJ0
end Go.Proofs.YtcepcamedmiinaaGreatDoor.hd
namespace Go.Proofs.YtcepcamedmiinaaGreatDoor.hd
open Go.ChangeShapes Go.WideShapes Go.ChangeAt Go.RowKit Go.Shelf
open Go.Proofs.YtcepcamedmiinaaGreatDoor.codec (Bytes vals run_append_bytes)
set_option linter.unusedVariables false
set_option maxRecDepth 100000
set_option linter.unusedSimpArgs false

attribute [local go_sem] Oper.semAt_some
/-- What a line does to what has been found. -/
def stepF (nm : ByteArray) (s : Bool × List Nat) (x : List Nat) : Bool × List Nat :=
  if s.1 then (true, s.2 ++ x) else match parseL x with
  | some (a, b) => if sameB a nm then (true, s.2 ++ b) else s
  | none => s
def stopB (s : Bool × List Nat) (x : List Nat) : Bool := s.1 && !goB x
def goF (nm : ByteArray) (pre : List (List Nat)) : Option (Bool × List Nat) := pre.foldl (fun o x => o.bind fun s => if stopB s x then none else some (stepF nm s x)) (some (false, []))
theorem goF_snoc (nm : ByteArray) (pre : List (List Nat)) (x : List Nat) : goF nm (pre ++ [x]) = (goF nm pre).bind fun s => if stopB s x then none else some (stepF nm s x) := by
  unfold goF
  rw [List.foldl_append]
  rfl
def runF (nm : ByteArray) : Bool × List Nat → List (List Nat) → Bool × List Nat
  | s, [] => s
  | s, x :: r => if stopB s x then s else runF nm (stepF nm s x) r
theorem run_none (nm : ByteArray) : ∀ pre : List (List Nat), pre.foldl (fun o x => o.bind fun s => if stopB s x then none else some (stepF nm s x)) none = none
  | [] => rfl
  | x :: r => run_none nm r
theorem run_go (nm : ByteArray) : ∀ (pre r : List (List Nat)) (s0 s : Bool × List Nat), pre.foldl (fun o x => o.bind fun s => if stopB s x then none else some (stepF nm s x)) (some s0) = some s → runF nm s0 (pre ++ r) = runF nm s r
  | [], r, s0, s, h => by cases h; rfl
  | x :: p, r, s0, s, h => by
    rw [List.foldl_cons, Option.bind_some] at h
    rw [List.cons_append, runF]
    by_cases hs : stopB s0 x = true
    · rw [if_pos hs, run_none] at h
      cases h
    · rw [if_neg hs] at h ⊢
      exact run_go nm p r _ s h
theorem goF_run {nm : ByteArray} {pre r : List (List Nat)} {s : Bool × List Nat} (h : goF nm pre = some s) : runF nm (false, []) (pre ++ r) = runF nm s r := run_go nm pre r _ s h
/-- Between two lines. -/
def FS (W0 : World) (nm : ByteArray) (s : Bool × List Nat) (W : World) : Prop :=
  ∃ v, W.heap[W0.heap.size]? = some (.cells #[.string nm] 9 (0, 0)) ∧ W.heap[W0.heap.size + 1]? = some (.cells #[v] 37 (0, 0)) ∧ W.heap[W0.heap.size + 2]? = some (.cells #[.bool s.1] 4 (0, 0)) ∧ W.ownsRow (W0.heap.size + 3) 5 1 v s.2.length (vals s.2) ∧ (∀ b ∈ s.2, b < 256) ∧ Below W0.heap.size W0 W ∧ W0.heap.size + 3 ≤ W.heap.size
theorem row_stays {W W' : World} {B : Nat} {e : TypeId} {k n : Nat} {v : Value} {xs : List Value} {r : Option Nat} (h : W.ownsRow B e k v n xs) (hg : W.grownBy W' r) (hr : ∀ j, r = some j → ∃ o : Obj, W.heap[j]? = some o ∧ o.isCells = false) : W'.ownsRow B e k v n xs := by
  refine World.ownsRow.kept h hg ?_
  cases hr' : r with
  | none => cases hb : v.ownBlock <;> simp
  | some b =>
    right
    intro e'
    obtain ⟨o, ho, hc⟩ := hr b hr'
    rcases h.2 with ⟨rfl, _⟩ | ⟨g, cap, cur, rfl, _, hgc, _⟩
    · cases e'
    · have : g = b := by simpa [Value.ownBlock] using e'
      subst this
      rw [hgc] at ho
      cases ho
      simp [Obj.isCells] at hc
theorem cells_stay {W W' : World} {b : Nat} {cs : Array Value} {t : TypeId} {m : Nat × Nat} {r : Option Nat} (h : W.heap[b]? = some (.cells cs t m)) (hg : W.grownBy W' r) (hr : ∀ j, r = some j → ∃ o : Obj, W.heap[j]? = some o ∧ o.isCells = false) : W'.heap[b]? = some (.cells cs t m) := by
  rw [hg.block b (Array.getElem?_eq_some_iff.1 h).1 (fun e => by
    obtain ⟨o, ho, hc⟩ := hr b e.symm
    rw [h] at ho
    cases ho
    simp [Obj.isCells] at hc)]
  exact h
theorem FS.stays {W0 : World} {nm : ByteArray} {s : Bool × List Nat} {W W' : World} {r : Option Nat} (h : FS W0 nm s W) (hg : W.grownBy W' r) (hr : ∀ j, r = some j → W0.heap.size + 3 ≤ j ∧ ∃ o : Obj, W.heap[j]? = some o ∧ o.isCells = false) : FS W0 nm s W' := by
  obtain ⟨v, h1, h2, h3, h4, h5, h6, h7⟩ := h
  have hr' : ∀ j, r = some j → ∃ o : Obj, W.heap[j]? = some o ∧ o.isCells = false := fun j e => (hr j e).2
  exact ⟨v, cells_stay h1 hg hr', cells_stay h2 hg hr', cells_stay h3 hg hr', row_stays h4 hg hr', h5, h6.grown hg (by omega) (fun k e => by have := (hr k e).1; omega), Nat.le_trans h7 hg.size⟩
theorem FS.own (W0 : World) (nm : ByteArray) {β : Type} (R : β → Bool × List Nat → Prop) (B : Nat) (hB : W0.heap.size + 3 ≤ B) : OwnFrom B (fun (x : β) W => ∃ s, R x s ∧ FS W0 nm s W) := by
  rintro x W W' row ⟨s, hs, hF⟩ hg hr
  exact ⟨s, hs, hF.stays hg (fun j e => ⟨Nat.le_trans hB (hr j e).1, (hr j e).2⟩)⟩
theorem FS.below {W0 : World} {nm : ByteArray} {s : Bool × List Nat} {W W' : World} (h : FS W0 nm s W) (hb : Below W.heap.size W W') : FS W0 nm s W' :=
  h.stays (r := none) (grown_of hb) (fun j e => by cases e)
theorem keeps_of {W W' : World} (hb : Below W.heap.size W W') : KeepsOthers W W' := KeepsOthers.of_grownBy (row := none) (grown_of hb) (fun j o e => by cases e)
theorem FS.find {W0 : World} {nm : ByteArray} {v : List Nat} {W : World} {s : Bool} (h : FS W0 nm (s, v) W) : FS W0 nm (true, v) (W.setCell ⟨W0.heap.size + 2, 0, none⟩ (.bool true)) := by
  obtain ⟨u, h1, h2, h3, h4, h5, h6, h7⟩ := h
  have hg : W.grownBy (W.setCell ⟨W0.heap.size + 2, 0, none⟩ (.bool true)) (some (W0.heap.size + 2)) := ⟨rfl, rfl, rfl, by simp, fun k _ hne => heap_setCell_other _ _ _ _ (fun e => hne (by rw [e]))⟩
  refine ⟨u, by rw [heap_setCell_other _ _ _ _ (by simp)]; exact h1, by rw [heap_setCell_other _ _ _ _ (by simp)]; exact h2, by rw [heap_setCell_same _ _ _ _ _ _ h3]; rfl, World.ownsRow.kept h4 hg ?_, h5, h6.setCell (p := ⟨W0.heap.size + 2, 0, none⟩) (by show W0.heap.size ≤ W0.heap.size + 2; omega) _, by simpa using h7⟩
  right
  intro e
  have := (World.ownsRow.lt h4 _ e).1
  omega
theorem FS.put {W0 : World} {nm : ByteArray} {v x : List Nat} {W w' : World} {s : Bool} {u u' : Value} (h : FS W0 nm (s, v) W) (hu : W.heap[W0.heap.size + 1]? = some (.cells #[u] 37 (0, 0))) (hx : ∀ b ∈ x, b < 256)
    (ho : w'.ownsRow (W0.heap.size + 3) 5 1 u' (v ++ x).length (vals (v ++ x))) (hg : W.grownBy w' u.ownBlock) :
    FS W0 nm (s, v ++ x) (w'.setCell ⟨W0.heap.size + 1, 0, none⟩ u') ∧ KeepsOthers W (w'.setCell ⟨W0.heap.size + 1, 0, none⟩ u') ∧ Below W0.heap.size W (w'.setCell ⟨W0.heap.size + 1, 0, none⟩ u') ∧ w'.heap[W0.heap.size + 1]? = some (.cells #[u] 37 (0, 0)) := by
  obtain ⟨u2, h1, h2, h3, h4, h5, h6, h7⟩ := h
  rw [hu] at h2
  obtain rfl : u = u2 := by simpa using h2
  have hlt : ∀ j, u.ownBlock = some j → W0.heap.size + 3 ≤ j := fun j e => (World.ownsRow.lt h4 _ e).1
  have hk : ∀ (k : Nat) (o : Obj), W.heap[k]? = some o → k < W0.heap.size + 3 → w'.heap[k]? = some o := fun k o hk hl => by
    rw [hg.block k (Array.getElem?_eq_some_iff.1 hk).1 (fun e => by have := hlt k e.symm; omega)]
    exact hk
  have hg2 : w'.grownBy (w'.setCell ⟨W0.heap.size + 1, 0, none⟩ u') (some (W0.heap.size + 1)) := ⟨rfl, rfl, rfl, by simp, fun k _ hne => heap_setCell_other _ _ _ _ (fun e => hne (by rw [e]))⟩
  have hb : Below W0.heap.size W w' := ⟨hg.os, hg.tape, hg.output, hg.size, fun k hk => hg.block k (by omega) (fun e => by have := hlt k e.symm; omega)⟩
  refine ⟨⟨u', by rw [heap_setCell_other _ _ _ _ (by simp)]; exact hk _ _ h1 (by omega), by rw [heap_setCell_same _ _ _ _ _ _ (hk _ _ hu (by omega))]; rfl, by rw [heap_setCell_other _ _ _ _ (by simp)]; exact hk _ _ h3 (by omega), World.ownsRow.kept ho hg2 ?_, fun b hb => ?_, (h6.trans hb).setCell (p := ⟨W0.heap.size + 1, 0, none⟩) (by show W0.heap.size ≤ W0.heap.size + 1; omega) _, ?_⟩, ?_, hb.setCell (p := ⟨W0.heap.size + 1, 0, none⟩) (by show W0.heap.size ≤ W0.heap.size + 1; omega) _, hk _ _ hu (by omega)⟩
  · right
    intro e
    have := (World.ownsRow.lt ho _ e).1
    omega
  · rcases List.mem_append.1 hb with h | h
    · exact h5 b h
    · exact hx b h
  · have := hg.size
    simp
    omega
  · refine (KeepsOthers.of_grownBy hg (fun j o e ho' => ?_)).trans (KeepsOthers.setCell _ _ _)
    rcases h4.2 with ⟨rfl, _⟩ | ⟨g, cap, cur, rfl, _, hgc, _⟩
    · cases e
    · have : g = j := by simpa [Value.ownBlock] using e
      subst this
      rw [hgc] at ho'
      cases ho'
      rfl
theorem wpListIn_append_bytes {F : Fence} {n : Nat} {ops : Array Oper} {rest : List Oper} {o : Oper} {a : Act} {w : World} {Q : Exit → Act → World → Prop} (hgd : o.guard = none) (s x : Operand)
    (ho : o.op = .call { callee := .builtin .append, args := #[s, x], argTypes := #[37, 37] })
    (base : Nat) (v : Value) (M : List Nat) (hs : a.eval s = v) (hown : w.ownsRow base 5 1 v M.length (vals M)) (hbase : base ≤ w.heap.size)
    (A : Option Addr) (m c : Nat) (L : List Nat) (hx : a.eval x = .slice A m c) (hB : Bytes w A m L) (hnil : A = none → c = 0) (hbound : M.length + m ≤ 100000000000)
    (hK : ∀ v' w', w'.ownsRow base 5 1 v' (M ++ L).length (vals (M ++ L)) → w.grownBy w' v.ownBlock → (v' = .slice none 0 0 ↔ v = .slice none 0 0 ∧ m = 0) → wpListIn F n Tryz.prog ops Q rest (a.put o.dst v') w') : wpListIn F n Tryz.prog ops Q (o :: rest) a w := by
  refine wpListIn_plain hgd fun K hK' => ?_
  obtain ⟨v', w', hrun, r1, r2, r3, r4⟩ := run_append_bytes w o.type base v M hown hbase A m c L hB hnil hbound
  unfold Oper.wpIn
  refine ⟨?_, ?_⟩
  · simp [Oper.about, ho, resolve, Target.leads, Sem.run_pure]
  · rw [Oper.semAt_plain F _ _ (by rw [ho]; intro c hc'; cases hc')]
    simp [execOp, ho, resolve, invoke, builtin, hs, hx, hrun, Result.andThen]
    exact hK' _ _ (hK v' w' r1 r2 r3)
theorem lines_in (n : Nat) (A : Option Addr) (N c : Nat) (w : World) :
    CallsIn Fence.wide n Tryz.prog 62 #[.slice A N c] w fun e w' => e = .returned (.func (.func 81) #[] #[.pointer (some ⟨w.heap.size, 0, none⟩)]) ∧ w' = w.alloc (.cells #[.slice A N c] 37) := by
  refine callsIn_of_wp Tryz.func62 rfl trivial ?_ rfl
  simp only [Tryz.ntmps62, List.size_toArray, List.length_cons, List.length_nil, Nat.reduceAdd, Nat.reduceSub, Array.replicate_succ, Array.replicate_zero, List.push_toArray, List.append_toArray, List.nil_append, List.cons_append]
  gi_wp2
  go_ret
  exact ⟨rfl, rfl⟩
end Go.Proofs.YtcepcamedmiinaaGreatDoor.hd
