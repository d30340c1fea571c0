/- What an In gives. -/
import Derived.Test.YtklmbiekpilkhaaGreatDoorCodD
import Derived.Laws.BitsAllLaws
namespace Go.Proofs.YtklmbiekpilkhaaGreatDoor.codec
open Go.ChangeShapes Go.WideShapes Go.ChangeAt Go.RowKit
set_option linter.unusedVariables false
set_option maxRecDepth 100000
set_option linter.unusedSimpArgs false

/-- An In that has these bytes left. -/
def InIs (w : World) (q g o c : Nat) (l : List Nat) : Prop :=
  w.heap[q]? = some (.cells #[.slice (some ⟨g, o, none⟩) l.length c, .bool false] 111 (0, 0)) ∧ Bytes w (some ⟨g, o, none⟩) l.length l ∧ l.length ≤ c ∧ q ≠ g
def BadIn (w : World) (q : Nat) : Prop := w.heap[q]? = some (.cells #[.slice none 0 0, .bool true] 111 (0, 0))
theorem InIs.facts {w : World} {q g o c : Nat} {l : List Nat} (h : InIs w q g o c l) :
    w.cell? ⟨q, 0, none⟩ = some (.slice (some ⟨g, o, none⟩) l.length c) ∧ w.cell? ⟨q, 0 + 1, none⟩ = some (.bool false) ∧ w.frozen? ⟨q, 0, none⟩ = false ∧ q < w.heap.size := by
  have h := h.1
  exact ⟨by simp [World.cell?, h], by simp [World.cell?, h], by simp [World.frozen?, h], (Array.getElem?_eq_some_iff.1 h).1⟩
theorem BadIn.facts {w : World} {q : Nat} (h : BadIn w q) : w.cell? ⟨q, 0, none⟩ = some (.slice none 0 0) ∧ w.cell? ⟨q, 0 + 1, none⟩ = some (.bool true) ∧ q < w.heap.size := by
  unfold BadIn at h
  exact ⟨by simp [World.cell?, h], by simp [World.cell?, h], (Array.getElem?_eq_some_iff.1 h).1⟩
theorem InIs.kept {w w' : World} {q g o c : Nat} {l : List Nat} (h : InIs w q g o c l) (hq : w'.heap[q]? = w.heap[q]?) (hg : w'.heap[g]? = w.heap[g]?) : InIs w' q g o c l :=
  ⟨hq.trans h.1, h.2.1.kept (fun ad e _ => by cases e; exact hg), h.2.2⟩
theorem size57 : (Tryz.prog.info? 111).map (·.size) = some 2 := by kernel_rfl
/-- An In went on. -/
theorem InIs.next {w : World} {q g o c k : Nat} {l : List Nat} (h : InIs w q g o c l) (hk : k ≤ l.length) (o' : Nat) (ho : c ≠ k → o' = o + k) :
    InIs (w.setCell ⟨q, 0, none⟩ (.slice (some ⟨g, o', none⟩) (l.length - k) (c - k))) q g o' (c - k) (l.drop k) ∧ Touch (fun i => i = q) w (w.setCell ⟨q, 0, none⟩ (.slice (some ⟨g, o', none⟩) (l.length - k) (c - k))) := by
  obtain ⟨h1, h2, h3, h4⟩ := h
  have ht := (Touch.refl (fun i => i = q) w).setCell ⟨q, 0, none⟩ (.inr rfl) (.slice (some ⟨g, o', none⟩) (l.length - k) (c - k))
  refine ⟨⟨?_, ?_, by simp; omega, h4⟩, ht⟩
  · rw [heap_setCell_same _ q 0 _ 111 _ h1]
    simp
  · refine ⟨rfl, fun b hb => h2.2.1 b (List.mem_of_mem_drop hb), fun hn => ⟨g, o', rfl, fun i hi => ?_⟩⟩
    simp at hn hi
    have := ho (by omega)
    subst this
    obtain ⟨b, oo, e, hc⟩ := h2.2.2 (by omega)
    cases e
    have := hc (k + i) (by omega)
    have e2 : (l.drop k).getD i 0 = l.getD (k + i) 0 := by simp [List.getD]
    rw [e2, ← this, Nat.add_assoc]
    simp [World.cell?, heap_setCell_other w ⟨q, 0, none⟩ g _ (Ne.symm h4)]

theorem next_good (w : World) (q g o c k : Nat) (l : List Nat) (h : InIs w q g o c l) (hk : k ≤ l.length) (hc : c ≤ 10000000) :
    Calls Tryz.prog 39 #[.pointer (some ⟨q, 0, none⟩), .int .i64 k, .bool true] w fun e w' => e = .returned (.slice (some ⟨g, o, none⟩) k c) ∧ ∃ o' c', InIs w' q g o' c' (l.drop k) ∧ Touch (fun i => i = q) w w' ∧ c' ≤ c := by
  obtain ⟨h0, h1, hf, hlt⟩ := h.facts
  have hlc := h.2.2.1
  have HI := Lib.hid h
  obtain ⟨n, hn⟩ : ∃ n, n = l.length := ⟨_, rfl⟩
  have HN := Lib.hid hn
  rw [← hn] at h0 hk hlc
  clear h hn
  go_enter Tryz.func39, Tryz.ntmps39
  go_wp2
  · have hh : c = k := h
    go_ret
    have := HI.out.next (k := k) (by have := HN.out; omega) o (fun e => absurd hh e)
    rw [← HN.out, hh, Nat.sub_self] at this
    exact ⟨rfl, o, _, this.1, this.2, Nat.zero_le _⟩
  · have hh : ¬ c = k := h
    go_ret
    have := HI.out.next (k := k) (by have := HN.out; omega) (o + k) (fun e => rfl)
    rw [← HN.out] at this
    exact ⟨rfl, o + k, _, this.1, this.2, Nat.sub_le _ _⟩
theorem next_fails (w : World) (q g o c : Nat) (k : Int) (b : Bool) (l : List Nat) (h : InIs w q g o c l) (hk : b = true → (l.length : Int) < k) :
    Calls Tryz.prog 39 #[.pointer (some ⟨q, 0, none⟩), .int .i64 k, .bool b] w fun e w' => e = .returned (.slice none 0 0) ∧ BadIn w' q ∧ Touch (fun i => i = q) w w' := by
  obtain ⟨h0, h1, hf, hlt⟩ := h.facts
  have HI := Lib.hid h.1
  have HS := Lib.hid size57
  have hR : BadIn (w.setRow q #[.slice none 0 0, .bool true]) q ∧ Touch (fun i => i = q) w (w.setRow q #[.slice none 0 0, .bool true]) :=
    ⟨setRow_heap w q _ _ 111 _ h.1, rfl, rfl, rfl, by simp [World.setRow], fun k _ hk => setRow_other w q k _ hk⟩
  have HR := Lib.hid hR
  clear h hR
  cases b with
  | true =>
    have hk' := hk rfl
    clear hk
    go_enter Tryz.func39, Tryz.ntmps39
    go_wp2_with (refine wpList_store_row rfl 111 (.tmp 29) (.tmp 28) rfl q #[.slice none 0 0, .bool true] rfl rfl 111 #[.slice (some ⟨g, o, none⟩) l.length c, .bool false] HI.out HS.out rfl (by simp [Value.oneCell']) ?_)
    go_ret
    exact ⟨rfl, HR.out⟩
  | false =>
    clear hk
    go_enter Tryz.func39, Tryz.ntmps39
    go_wp2_with (refine wpList_store_row rfl 111 (.tmp 29) (.tmp 28) rfl q #[.slice none 0 0, .bool true] rfl rfl 111 #[.slice (some ⟨g, o, none⟩) l.length c, .bool false] HI.out HS.out rfl (by simp [Value.oneCell']) ?_)
    go_ret
    exact ⟨rfl, HR.out⟩
theorem next_bad (w : World) (q : Nat) (k : Int) (b : Bool) (h : BadIn w q) :
    Calls Tryz.prog 39 #[.pointer (some ⟨q, 0, none⟩), .int .i64 k, .bool b] w fun e w' => e = .returned (.slice none 0 0) ∧ w = w' := by
  obtain ⟨h0, h1, hlt⟩ := h.facts
  clear h
  go_enter Tryz.func39, Tryz.ntmps39
  go_wp2
  go_ret
  exact ⟨rfl, rfl⟩
theorem newIn_any (w : World) (A : Option Addr) (n c : Nat) (l : List Nat) (h : Bytes w A n l) (hn : n ≤ 10000000) :
    Calls Tryz.prog 38 #[.slice A n c] w fun e w' => e = .returned (.pointer (some ⟨w.heap.size + 1, 0, none⟩)) ∧ InIs w' (w.heap.size + 1) w.heap.size 0 n l ∧ Below w.heap.size w w' := by
  have HB := Lib.hid h
  clear h
  go_enter Tryz.func38, Tryz.ntmps38
  go_wp2_with (go_at_call 67; refine (copied_any _ _ _ _ l HB.out hn).mono ?_; rintro e w1 ⟨rfl, rfl⟩)
  go_ret
  have hl := HB.out.1
  have h1 : ((w.alloc (.cells (vals l).toArray 5)).alloc (.cells #[.slice (some ⟨w.heap.size, 0, none⟩) n n, .bool false] 111)).heap[w.heap.size + 1]? = some (.cells #[.slice (some ⟨w.heap.size, 0, none⟩) n n, .bool false] 111 (0, 0)) := by
    have := heap_alloc_new (w.alloc (.cells (vals l).toArray 5)) (.cells #[.slice (some ⟨w.heap.size, 0, none⟩) n n, .bool false] 111)
    simpa using this
  have h2 : ((w.alloc (.cells (vals l).toArray 5)).alloc (.cells #[.slice (some ⟨w.heap.size, 0, none⟩) n n, .bool false] 111)).heap[w.heap.size]? = some (.cells (vals l).toArray 5 (0, 0)) := by
    rw [heap_alloc_old _ _ (by simp)]
    exact heap_alloc_new w _
  refine ⟨rfl, ⟨by rw [h1, hl], ⟨rfl, HB.out.2.1, fun _ => ⟨_, 0, rfl, fun i hi => ?_⟩⟩, by omega, by omega⟩, ((Below.refl _ _).alloc (Nat.le_refl _) _).alloc (by simp) _⟩
  rw [Nat.zero_add, cell_of_row _ _ i _ 5 (0, 0) h2]
  simp [vals, List.getD, hi]

/-- The number that bytes are, the greatest first. -/
def numFrom (v : Nat) (l : List Nat) : Nat := l.foldl (fun v b => v * 256 + b) v
def numOf (l : List Nat) : Nat := numFrom 0 l
theorem numOf_take (l : List Nat) (k : Nat) (hk : k < l.length) : numOf (l.take (k + 1)) = numOf (l.take k) * 256 + l.getD k 0 := by
  have : l.take (k + 1) = l.take k ++ [l.getD k 0] := by
    rw [List.take_add_one]
    simp [List.getD, hk]
  rw [this]
  simp [numOf, numFrom]
theorem numOf_lt (l : List Nat) (h : ∀ b ∈ l, b < 256) (k : Nat) : numOf (l.take k) < 256 ^ k := by
  induction k with
  | zero => simp [numOf, numFrom]
  | succ k ih =>
    by_cases hk : k < l.length
    · rw [numOf_take l k hk, Nat.pow_succ]
      have := getD_lt256 h k
      omega
    · rw [List.take_of_length_le (by omega)] at ih ⊢
      exact Nat.lt_of_lt_of_le ih (Nat.pow_le_pow_right (by omega) (by omega))
theorem or_add (v c : Nat) (hc : c < 256) : (v * 256) ||| c = v * 256 + c := by
  have := Nat.two_pow_add_eq_or_of_lt (i := 8) (b := c) (by omega) v
  rw [Nat.mul_comm] at this
  exact this.symm
theorem i64_or_nat (a b : Nat) (ha : a < 4611686018427387904) (hb : b < 4611686018427387904) : bits .or .i64 (a : Int) (b : Int) = ((a ||| b : Nat) : Int) := by
  have hx : a ||| b < 4611686018427387904 := Nat.or_lt_two_pow (n := 62) (by omega) (by omega)
  show IntKind.i64.wrap ((BitVec.ofInt 64 (a : Int) ||| BitVec.ofInt 64 (b : Int)).toNat : Int) = _
  rw [BitVec.toNat_or, ofInt_u64 a (by omega), ofInt_u64 b (by omega), IntKind.wrap_i64]
  generalize a ||| b = m at *
  omega
theorem shl_or (v c : Nat) (hv : v < 281474976710656) (hc : c < 256) : bits .or .i64 ((v : Int) * 256) (c : Int) = ((v * 256 + c : Nat) : Int) := by
  have := i64_or_nat (v * 256) c (by omega) (by omega)
  rw [or_add v c hc] at this
  simpa using this

set_option maxHeartbeats 1000000 in
theorem inN_loop (w : World) (a : Option Addr) (c n : Nat) (l : List Nat) (s : Int) (b : Bool) (A : Option Addr) (R : World → Prop) (hs : decide (1 ≤ s ∧ s ≤ 7) = b) (hB : ∀ w', R w' → Bytes w' A n l) (hn : n ≤ 7)
    (hN : Calls Tryz.prog 39 #[.pointer a, .int .i64 s, .bool b] w fun e w' => e = .returned (.slice A n c) ∧ R w') :
    Calls Tryz.prog 18 #[.pointer a, .int .i64 s] w fun e w' => e = .returned (.int .i64 (numOf l : Nat)) ∧ R w' := by
  have HN := Lib.hid hN
  have HBR := Lib.hid hB
  clear hN hB
  go_enter Tryz.func18, Tryz.ntmps18
  go_wp2_with (first | (go_at_call 40; refine (isSize_any _ _).mono ?_; rw [hs]; rintro e w2 ⟨rfl, rfl⟩) | (go_at_call 39; refine HN.out.mono ?_; rintro e w2 ⟨rfl, hR⟩; have HR := Lib.hid hR; clear hR))
  have HB := Lib.hid (HBR.out _ HR.out)
  go_loopw [5, 14] (fun v i wr => ∃ k x : Nat, k ≤ n ∧ i = .int .i64 k ∧ x = numOf (l.take k) ∧ v = .int .i64 x ∧ wr = w2) (fun _ i _ => n - (intOf i).toNat)
  case atStart => exact ⟨0, 0, by omega, rfl, by simp [numOf, numFrom], rfl, rfl⟩
  case round =>
    obtain ⟨k, x, hk, rfl, hx, rfl, rfl⟩ := hrel
    have hx' : x < 256 ^ k := by rw [hx]; exact numOf_lt l HB.out.2.1 k
    by_cases hlt : k < n
    · obtain ⟨b', o', rfl, hc⟩ := HB.out.2.2 (by omega)
      obtain ⟨y, hy, hy2, hcell⟩ : ∃ y, y = l.getD k 0 ∧ y < 256 ∧ wr.cell? ⟨b', o' + k, none⟩ = some (.int .u8 (y : Nat)) := ⟨_, rfl, getD_lt256 HB.out.2.1 k, hc k hlt⟩
      have hx6 : x < 281474976710656 := Nat.lt_of_lt_of_le hx' (Nat.le_trans (Nat.pow_le_pow_right (by omega) (show k ≤ 6 by omega)) (by decide))
      have HS := Lib.hid (shl_or x y hx6 hy2)
      have HX := Lib.hid hx
      have HY := Lib.hid hy
      clear hx hx' hy hc
      go_wp2
      go_roundw
      case rel =>
        refine ⟨k + 1, x * 256 + y, by omega, rfl, ?_, by rw [HS.out], trivial⟩
        rw [numOf_take l k (by have := HB.out.1; omega), ← HX.out, ← HY.out]
      case measure => simp [intOf]; omega
    · obtain rfl : k = n := by omega
      have HX := Lib.hid hx
      clear hx hx'
      go_wp2
      go_ret
      refine ⟨?_, HR.out⟩
      have := HX.out
      rw [List.take_of_length_le (by have := HB.out.1; omega)] at this
      rw [← this]
      rfl
/-- The In has these bytes left, or is bad; only its own block has changed. -/
def Went (w : World) (q g c : Nat) (l : List Nat) (w' : World) : Prop := ∃ o' c', InIs w' q g o' c' l ∧ Touch (fun i => i = q) w w' ∧ c' ≤ c
def Gone (w : World) (q : Nat) (w' : World) : Prop := BadIn w' q ∧ Touch (fun i => i = q) w w'
theorem taken {w w' : World} {q g o c k : Nat} {l : List Nat} (h : InIs w q g o c l) (hk : k ≤ l.length) (ht : Touch (fun i => i = q) w w') : Bytes w' (some ⟨g, o, none⟩) k (l.take k) := by
  refine ⟨by simp; omega, fun b hb => h.2.1.2.1 b (List.mem_of_mem_take hb), fun hn => ⟨g, o, rfl, fun i hi => ?_⟩⟩
  obtain ⟨b, oo, e, hc⟩ := h.2.1.2.2 (by omega)
  cases e
  have := hc i (by omega)
  have e2 : (l.take k).getD i 0 = l.getD i 0 := by simp [List.getD, List.getElem?_take, hi]
  have hlt : g < w.heap.size := block_lt_of_cell this
  rw [e2, ← this]
  simp [World.cell?, ht.2.2.2.2 g hlt (Ne.symm h.2.2.2)]
theorem empty_bytes (w : World) : Bytes w none 0 [] := ⟨rfl, by simp, fun h => absurd h (by omega)⟩
theorem inN_good (w : World) (q g o c : Nat) (s : Int) (l : List Nat) (h : InIs w q g o c l) (h1 : 1 ≤ s) (h7 : s ≤ 7) (hs : s ≤ l.length) (hc : c ≤ 10000000) :
    Calls Tryz.prog 18 #[.pointer (some ⟨q, 0, none⟩), .int .i64 s] w fun e w' => e = .returned (.int .i64 (numOf (l.take s.toNat) : Nat)) ∧ Went w q g c (l.drop s.toNat) w' := by
  obtain ⟨k, rfl⟩ := Int.eq_ofNat_of_zero_le (show 0 ≤ s by omega)
  refine inN_loop w _ c k (l.take k) k true (some ⟨g, o, none⟩) _ (by simp; omega) (fun w' ⟨o', c', h1, h2, h3⟩ => taken h (by omega) h2) (by omega) ?_
  exact next_good w q g o c k l h (by omega) hc
theorem inN_fails (w : World) (q g o c : Nat) (s : Int) (l : List Nat) (h : InIs w q g o c l) (hs : ¬ (1 ≤ s ∧ s ≤ 7 ∧ s ≤ l.length)) :
    Calls Tryz.prog 18 #[.pointer (some ⟨q, 0, none⟩), .int .i64 s] w fun e w' => e = .returned (.int .i64 0) ∧ Gone w q w' := by
  refine inN_loop w _ 0 0 [] s (decide (1 ≤ s ∧ s ≤ 7)) none _ rfl (fun w' _ => empty_bytes w') (by omega) ?_
  exact next_fails w q g o c s _ l h (fun hb => by simp at hb; omega)
theorem inN_bad (w : World) (q : Nat) (s : Int) (h : BadIn w q) :
    Calls Tryz.prog 18 #[.pointer (some ⟨q, 0, none⟩), .int .i64 s] w fun e w' => e = .returned (.int .i64 0) ∧ w = w' := by
  refine inN_loop w _ 0 0 [] s (decide (1 ≤ s ∧ s ≤ 7)) none _ rfl (fun w' _ => empty_bytes w') (by omega) ?_
  exact next_bad w q s _ h

/-- A copy of bytes, behind which R still holds. -/
theorem raw_any (w : World) (a : Option Addr) (c n : Nat) (l : List Nat) (s : Int) (A : Option Addr) (R : World → Prop) (hB : ∀ w', R w' → Bytes w' A n l) (hn : n ≤ 10000000)
    (hN : Calls Tryz.prog 39 #[.pointer a, .int .i64 s, .bool (decide (0 ≤ s))] w fun e w' => e = .returned (.slice A n c) ∧ R w') :
    Calls Tryz.prog 62 #[.pointer a, .int .i64 s] w fun e w' => ∃ w1, e = .returned (.slice (some ⟨w1.heap.size, 0, none⟩) n n) ∧ R w1 ∧ w' = w1.alloc (.cells (vals l).toArray 5) := by
  have HN := Lib.hid hN
  have HBR := Lib.hid hB
  clear hN hB
  by_cases h0 : 0 ≤ s
  · have hd : decide (0 ≤ s) = true := by simp [h0]
    rw [hd] at HN
    go_enter Tryz.func62, Tryz.ntmps62
    go_wp2_with (first | (go_at_call 39; refine HN.out.mono ?_; rintro e w2 ⟨rfl, hR⟩; have HR := Lib.hid hR; clear hR) | (go_at_call 67; refine (copied_any _ _ _ _ l (HBR.out _ HR.out) hn).mono ?_; rintro e w1 ⟨rfl, rfl⟩))
    go_ret
    exact ⟨w2, rfl, HR.out, rfl⟩
  · have hd : decide (0 ≤ s) = false := by simp [h0]
    rw [hd] at HN
    go_enter Tryz.func62, Tryz.ntmps62
    go_wp2_with (first | (go_at_call 39; refine HN.out.mono ?_; rintro e w2 ⟨rfl, hR⟩; have HR := Lib.hid hR; clear hR) | (go_at_call 67; refine (copied_any _ _ _ _ l (HBR.out _ HR.out) hn).mono ?_; rintro e w1 ⟨rfl, rfl⟩))
    go_ret
    exact ⟨w2, rfl, HR.out, rfl⟩
theorem InIs.alloc {w : World} {q g o c : Nat} {l : List Nat} (h : InIs w q g o c l) (hg : g < w.heap.size) (ob : Obj) : InIs (w.alloc ob) q g o c l :=
  h.kept (heap_alloc_old w ob h.facts.2.2.2) (heap_alloc_old w ob hg)
/-- What is read behind the call: new bytes. -/
def Gives (l : List Nat) (e : Ending) (w' : World) : Prop := ∃ g' , e = .returned (.slice (some ⟨g', 0, none⟩) l.length l.length) ∧ Bytes w' (some ⟨g', 0, none⟩) l.length l
theorem alloc_bytes (w : World) (l : List Nat) (hl : ∀ b ∈ l, b < 256) : Bytes (w.alloc (.cells (vals l).toArray 5)) (some ⟨w.heap.size, 0, none⟩) l.length l := by
  refine ⟨rfl, hl, fun _ => ⟨_, 0, rfl, fun i hi => ?_⟩⟩
  rw [Nat.zero_add, cell_of_row _ _ i _ 5 (0, 0) (heap_alloc_new w _)]
  simp [vals, List.getD, hi]
theorem inRaw_good (w : World) (q g o c : Nat) (s : Int) (l : List Nat) (h : InIs w q g o c l) (hgl : g < w.heap.size) (h0 : 0 ≤ s) (hs : s ≤ l.length) (hc : c ≤ 10000000) :
    Calls Tryz.prog 62 #[.pointer (some ⟨q, 0, none⟩), .int .i64 s] w fun e w' => Gives (l.take s.toNat) e w' ∧ Went w q g c (l.drop s.toNat) w' := by
  obtain ⟨k, rfl⟩ := Int.eq_ofNat_of_zero_le h0
  have hlk : (l.take k).length = k := by simp; omega
  have hcl := h.2.2.1
  refine (raw_any w _ c k (l.take k) k (some ⟨g, o, none⟩) (Went w q g c (l.drop k)) (fun w' ⟨o', c', h1, h2, h3⟩ => taken h (by omega) h2) (by omega) ?_).mono ?_
  · have hd : decide ((0 : Int) ≤ (k : Nat)) = true := by simp
    rw [hd]
    exact next_good w q g o c k l h (by omega) hc
  · rintro e w' ⟨w1, rfl, ⟨o', c', h1, h2, h3⟩, rfl⟩
    refine ⟨⟨_, by rw [Int.toNat_natCast, hlk], ?_⟩, o', c', h1.alloc (by have := h2.2.2.2.1; omega) _, h2.alloc _, h3⟩
    rw [Int.toNat_natCast]
    exact alloc_bytes w1 (l.take k) (fun b hb => h.2.1.2.1 b (List.mem_of_mem_take hb))
theorem inRaw_fails (w : World) (q g o c : Nat) (s : Int) (l : List Nat) (h : InIs w q g o c l) (hs : ¬ (0 ≤ s ∧ s ≤ l.length)) :
    Calls Tryz.prog 62 #[.pointer (some ⟨q, 0, none⟩), .int .i64 s] w fun e w' => Gives [] e w' ∧ Gone w q w' := by
  refine (raw_any w _ 0 0 [] s none (Gone w q) (fun w' _ => empty_bytes w') (by omega) (next_fails w q g o c s _ l h (fun hb => by simp at hb; omega))).mono ?_
  rintro e w' ⟨w1, rfl, ⟨h1, h2⟩, rfl⟩
  exact ⟨⟨_, rfl, alloc_bytes w1 [] (by simp)⟩, (heap_alloc_old w1 _ h1.facts.2.2).trans h1, h2.alloc _⟩
theorem inRaw_bad (w : World) (q : Nat) (s : Int) (h : BadIn w q) :
    Calls Tryz.prog 62 #[.pointer (some ⟨q, 0, none⟩), .int .i64 s] w fun e w' => Gives [] e w' ∧ Gone w q w' := by
  refine (raw_any w _ 0 0 [] s none (fun w' => w = w') (fun w' _ => empty_bytes w') (by omega) (next_bad w q s _ h)).mono ?_
  rintro e w' ⟨w1, rfl, rfl, rfl⟩
  exact ⟨⟨_, rfl, alloc_bytes w [] (by simp)⟩, (heap_alloc_old w _ h.facts.2.2).trans h, (Touch.refl _ w).alloc _⟩
end Go.Proofs.YtklmbiekpilkhaaGreatDoor.codec
