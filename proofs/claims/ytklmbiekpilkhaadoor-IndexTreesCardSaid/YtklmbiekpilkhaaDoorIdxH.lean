/- What the law on trees asks, as plain mathematics; names and texts of the document. -/
import Derived.Test.YtklmbiekpilkhaaDoorIdxG
import Derived.Test.YtklmbiekpilkhaaDoorNamB
import Derived.Laws.BitsLemmas
namespace Go.Proofs.YtklmbiekpilkhaaDoor.idx
open Go.ChangeShapes Go.WideShapes Go.ChangeAt Go.RowKit
open Go.Proofs.YtklmbiekpilkhaaDoor.row
open Go.Proofs.YtklmbiekpilkhaaDoor.codec (Bytes OutIs More bytesOf bytesOf_length bytesOf_lt strOf numOf vals)
open Go.Proofs.YtklmbiekpilkhaaDoor.bod (named nums txt nums_length nums_lt strOf_nums)
open Go.Proofs.YtklmbiekpilkhaaDoor.two (Mine)
set_option linter.unusedVariables false
set_option maxRecDepth 100000
set_option linter.unusedSimpArgs false

/-- What the law asks of places, but that INBOX is among them. -/
def lawB (ps : List P) : Bool := (up (-1) (ps.map P.n)).2 && (!(ps.any wrongP) && decide (ps.map P.s).Nodup)
theorem tree_law (ps : List P) : treeB ps = (lawB ps && (ps.map P.s).any isBox) := by
  show ((up (-1) (ps.map P.n)).2 && (!(ps.any wrongP) && (decide (ps.map P.s).Nodup && (ps.map P.s).any isBox))) = _
  unfold lawB
  simp only [Bool.and_assoc]
theorem up_ge : ∀ (l : List Int) (f : Int), (up f l).2 = true → f ≤ (up f l).1
  | [], f, h => Int.le_refl _
  | a :: r, f, h => by
    have h' : (r.foldl (fun st n => (n, st.2 && decide (st.1 < n))) (a, true && decide (f < a))).2 = true := h
    show f ≤ (r.foldl (fun st n => (n, st.2 && decide (st.1 < n))) (a, true && decide (f < a))).1
    by_cases hfa : f < a
    · rw [decide_eq_true hfa] at h' ⊢
      have := up_ge r a h'
      have h2 : (r.foldl (fun st n => (n, st.2 && decide (st.1 < n))) (a, true && true)) = up a r := rfl
      rw [h2]
      omega
    · rw [decide_eq_false hfa] at h'
      have := fold_no r (a, true && false) rfl
      rw [this] at h'
      cases h'
/-- The number ahead. -/
def prv (ps : List P) (k : Nat) : Int := (up (-1) ((ps.map P.n).take k)).1
theorem prv_zero (ps : List P) : prv ps 0 = -1 := rfl
theorem prv_at {ps : List P} {k : Nat} {p : P} (h : ps[k]? = some p) : prv ps (k + 1) = p.n := by
  unfold prv
  rw [take_next (map_at P.n h), up_snoc]
theorem law_ge {ps : List P} {k : Nat} (h : lawB (ps.take k) = true) : -1 ≤ prv ps k := by
  unfold lawB at h
  simp only [Bool.and_eq_true] at h
  have := up_ge _ _ h.1
  rwa [List.map_take] at this
/-- A place more: but for the names ahead. -/
def mid (ps : List P) (k : Nat) (p : P) : Bool := lawB (ps.take k) && (decide (prv ps k < p.n) && (decide (p.n < 16) && named p.s))
def dup (ps : List P) (j : Nat) (s : ByteArray) : Bool := ((ps.map P.s).take j).any fun x => decide (x = s)
theorem dup_next {ps : List P} {j : Nat} {p : P} (h : ps[j]? = some p) (s : ByteArray) : dup ps (j + 1) s = (dup ps j s || decide (p.s = s)) := by
  unfold dup
  rw [take_next (map_at P.s h), List.any_append]
  simp
theorem nodup_snoc (l : List ByteArray) (s : ByteArray) : decide (l ++ [s]).Nodup = (decide l.Nodup && !(l.any fun x => decide (x = s))) := by
  rw [Bool.eq_iff_iff]
  simp only [decide_eq_true_eq, Bool.and_eq_true, Bool.not_eq_true', List.any_eq_false, List.nodup_append]
  constructor
  · rintro ⟨h1, -, h3⟩
    exact ⟨h1, fun x hx e => h3 x hx s (by simp) e⟩
  · rintro ⟨h1, h2⟩
    exact ⟨h1, by simp, fun x hx y hy e => by simp at hy; subst hy; exact h2 x hx e⟩
theorem law_next {ps : List P} {k : Nat} {p : P} (h : ps[k]? = some p) : lawB (ps.take (k + 1)) = (mid ps k p && !dup ps k p.s) := by
  have hd : dup ps k p.s = (((ps.take k).map P.s).any fun x => decide (x = p.s)) := by unfold dup; rw [List.map_take]
  unfold mid lawB
  rw [hd]
  rw [take_next h, List.map_append, List.map_append, List.any_append]
  simp only [List.map_cons, List.map_nil, List.any_cons, List.any_nil, Bool.or_false, nodup_snoc, up_snoc]
  have e : (16 ≤ p.n) ↔ ¬ (p.n < 16) := by omega
  have hw : wrongP p = !(decide (p.n < 16) && named p.s) := by
    unfold wrongP
    rw [decide_eq_decide.2 e, decide_not]
    cases decide (p.n < 16) <;> cases named p.s <;> rfl
  rw [hw]
  have hp : prv ps k = (up (-1) ((ps.take k).map P.n)).1 := by unfold prv; rw [List.map_take]
  rw [hp]
  generalize (up (-1) ((ps.take k).map P.n)).2 = a
  generalize (ps.take k).any wrongP = b
  generalize decide ((ps.take k).map P.s).Nodup = c
  generalize decide ((up (-1) ((ps.take k).map P.n)).1 < p.n) = d
  generalize decide (p.n < 16) = f
  generalize named p.s = g
  generalize (((ps.take k).map P.s).any fun x => decide (x = p.s)) = i
  cases a <;> cases b <;> cases c <;> cases d <;> cases f <;> cases g <;> cases i <;> rfl
theorem law_all {ps : List P} {n : Nat} (h : ps.length = n) : lawB (ps.take n) = lawB ps := by rw [List.take_of_length_le (by omega)]
theorem law_mem {ps : List P} (h : lawB ps = true) : ∀ p ∈ ps, 0 ≤ p.n ∧ p.n < 16 := by
  intro p hp
  unfold lawB at h
  simp only [Bool.and_eq_true, Bool.not_eq_true'] at h
  obtain ⟨h1, h2, h3⟩ := h
  have a := up_gt _ _ h1 p.n (List.mem_map_of_mem hp)
  have b := (List.any_eq_false.1 h2) p hp
  simp only [wrongP, Bool.or_eq_true, decide_eq_true_eq, Bool.not_eq_true', not_or] at b
  exact ⟨by omega, by omega⟩

theorem rNamed_any (w : World) (s : ByteArray) (hs : s.size ≤ 100000) :
    Calls Tryd.prog 5 #[.string s] w fun e w' => e = .returned (.bool (named s)) ∧ ∃ m, w' = w.drewN m := by
  have hN := nam.rNorm_any w s hs
  unfold named
  generalize nam.normS s = t at *
  generalize nam.normOk s = b at *
  have HN := Lib.hid hN
  clear hN
  cases b
  · go_enter Tryd.func5, Tryd.ntmps5
    go_wp2_with (go_at_call 10; refine HN.out.mono ?_; rintro e w1 ⟨rfl, hb⟩)
    go_ret
    exact ⟨rfl, hb⟩
  · by_cases hts : t = s
    · subst hts
      rw [decide_eq_true rfl]
      go_enter Tryd.func5, Tryd.ntmps5
      go_wp2_with (go_at_call 10; refine HN.out.mono ?_; rintro e w1 ⟨rfl, hb⟩)
      go_ret
      exact ⟨rfl, hb⟩
    · rw [decide_eq_false hts]
      have hne := rd.str_ne hts
      clear hts
      go_enter Tryd.func5, Tryd.ntmps5
      go_wp2_with (go_at_call 10; refine HN.out.mono ?_; rintro e w1 ⟨rfl, hb⟩)
      go_ret
      exact ⟨by simpa [ByteArray.toList_eq] using hne, hb⟩
theorem lit_bytes (w : World) (f : Nat) (hf : f < 256) (t : TypeId) (m : Nat × Nat) : Bytes (w.alloc (.cells #[.int .u8 (f : Nat)] t m)) (some ⟨w.heap.size, 0, none⟩) 1 [f] := by
  refine ⟨rfl, fun b hb => by simp at hb; omega, fun _ => ⟨_, 0, rfl, fun i hi => ?_⟩⟩
  obtain rfl : i = 0 := by omega
  exact cell_at (heap_alloc_new w _) 0 _ rfl
theorem refText_at (w : World) (s : ByteArray) (hs : s.size ≤ 10000000) :
    Calls Tryd.prog 6 #[.string s] w fun e w' => ∃ g c, e = .returned (.slice (some ⟨g, 0, none⟩) (2 + s.size) c) ∧ w.heap.size ≤ g ∧ Bytes w' (some ⟨g, 0, none⟩) (2 + s.size) (txt s) ∧ Below w.heap.size w w' := by
  have h := codec.refText_any w (nums s) (nums_lt s) (by rw [nums_length]; exact hs)
  rw [strOf_nums, nums_length] at h
  refine h.mono ?_
  rintro e w' ⟨v, rfl, g, c, rfl, hg, hb, hB⟩
  have hl : (bytesOf s.size 2 ++ nums s).length = 2 + s.size := by rw [List.length_append, bytesOf_length, nums_length]
  rw [hl] at hB ⊢
  exact ⟨g, c, rfl, hg, hB, hb⟩
theorem i64_and255 (n : Int) : bits .and .i64 n 255 = n % 256 := by
  have h255 : (BitVec.ofInt 64 255).toNat = 2 ^ 8 - 1 := by decide
  have key : (BitVec.ofInt 64 n &&& BitVec.ofInt 64 255).toNat = (n % ((2 ^ 64 : Nat) : Int)).toNat % 2 ^ 8 := by
    rw [BitVec.toNat_and, BitVec.toNat_ofInt, h255, Nat.and_two_pow_sub_one_eq_mod]
  show IntKind.i64.wrap ((BitVec.ofInt 64 n &&& BitVec.ofInt 64 255).toNat : Nat) = n % 256
  rw [key, IntKind.wrap_i64]
  omega
/-- The low eight bits of a number, as a byte. -/
def low8 (m : Int) : Nat := (m % 256).toNat
theorem low8_lt (m : Int) : low8 m < 256 := by unfold low8; omega
theorem low8_i (m : Int) : bits .and .i64 m 255 = (low8 m : Nat) := by rw [i64_and255]; unfold low8; omega
theorem low8_same {m : Int} (h0 : 0 ≤ m) (h1 : m < 16) : low8 m = m.toNat := by unfold low8; omega
end Go.Proofs.YtklmbiekpilkhaaDoor.idx
