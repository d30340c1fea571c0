/- What an Out takes: numbers, texts and bytes. -/
import Derived.Test.YtklmbiekpilkhaaGreatDoorCodB
namespace Go.Proofs.YtklmbiekpilkhaaGreatDoor.codec
open Go.ChangeShapes Go.WideShapes Go.ChangeAt Go.RowKit
set_option linter.unusedVariables false
set_option maxRecDepth 100000
set_option linter.unusedSimpArgs false

def byteAt (v n j : Nat) : Nat := v / 256 ^ (n - 1 - j) % 256
def bytesOf (v n : Nat) : List Nat := (List.range n).map (byteAt v n)
theorem bytesOf_length (v n : Nat) : (bytesOf v n).length = n := by simp [bytesOf]
theorem bytesOf_lt (v n : Nat) : ∀ b ∈ bytesOf v n, b < 256 := by
  intro b hb
  obtain ⟨j, _, rfl⟩ := List.mem_map.1 hb
  exact Nat.mod_lt _ (by omega)
theorem pow_le7 {n : Nat} (h7 : n ≤ 7) : 2 ^ (8 * n) ≤ 72057594037927936 := Nat.pow_le_pow_right (n := 2) (by omega) (show 8 * n ≤ 56 by omega)
theorem wrap_pow {n : Nat} (h7 : n ≤ 7) : wrap64 (2 ^ (8 * n)) = ((2 ^ (8 * n) : Nat) : Int) := by
  have h := pow_le7 h7
  have e : ((2 : Int) ^ (8 * n)) = ((2 ^ (8 * n) : Nat) : Int) := by simp
  rw [e]
  generalize 2 ^ (8 * n) = m at *
  exact IntWalk.wrap64_in _ (by omega)
theorem p256 (n : Nat) : 256 ^ n = 2 ^ (8 * n) := by rw [Nat.pow_mul]
theorem fits_true {v n : Nat} (h7 : n ≤ 7) (hv : v < 256 ^ n) : decide ((v : Int) < wrap64 (2 ^ (8 * n))) = true := by
  rw [wrap_pow h7, decide_eq_true_eq]
  rw [p256] at hv
  exact_mod_cast hv
theorem fits_false {v n : Nat} (h7 : n ≤ 7) (hv : ¬ v < 256 ^ n) : decide ((v : Int) < wrap64 (2 ^ (8 * n))) = false := by
  rw [wrap_pow h7, decide_eq_false_iff_not]
  rw [p256] at hv
  exact_mod_cast hv

theorem slice53 (w : World) (g n : Nat) (h7 : n ≤ 7) : (Instr.sliceAt 124 (Value.pointer (some ⟨g, 0, none⟩)) none (some (Value.int .i64 (n : Nat))) none).run Tryz.prog w = .ok (.slice (some ⟨g, 0, none⟩) n 7) w := by
  have ha : Tryz.prog.arrayLen 124 = 7 := by kernel_rfl
  have hs : (sizeOf (Tryz.prog.elem 124)).run Tryz.prog w = .ok 1 w := by kernel_rfl
  rw [run_sliceAt_array_h (P := Tryz.prog) w 124 ⟨g, 0, none⟩ (by kernel_rfl) .i64 (n : Nat) (by omega) (by rw [ha]; omega), hs, ha]
  simp [slicedAt, add_none]
theorem bytes_row {w : World} {g t v n N : Nat} {f : Nat → Value} (h : w.rowIs g t N f) (hn : n ≤ N) (hf : ∀ j, j < n → f j = .int .u8 (byteAt v n j : Nat)) : Bytes w (some ⟨g, 0, none⟩) n (bytesOf v n) := by
  refine ⟨bytesOf_length v n, bytesOf_lt v n, fun _ => ⟨g, 0, rfl, fun i hi => ?_⟩⟩
  rw [Nat.zero_add, h.cell (by omega), hf i hi]
  simp [bytesOf, List.getD, hi]
theorem byteAt_i (v n k : Nat) : ((v : Int) / 2 ^ (8 * (n - 1 - k)) % 256) = ((byteAt v n k : Nat) : Int) := by
  unfold byteAt
  rw [p256]
  simp
theorem More.from {w w1 w' : World} {p : Nat} {l F : List Nat} (hb : Below w.heap.size w w1) (hF : ∀ k ∈ F, k < w.heap.size) (h : More w1 p l F w') : More w p l F w' := by
  obtain ⟨F', h1, h2, h3⟩ := h
  refine ⟨F', h1, ?_, fun k hk => ?_⟩
  · have h0 : Touch (fun k => k ∈ F) w w1 := ⟨hb.os, hb.tape, hb.output, hb.size, fun k hk _ => hb.block k hk⟩
    exact h0.trans (h2.mono fun i _ h => .inl h)
  · rcases h3 k hk with h | h
    · exact .inl h
    · exact .inr (Nat.le_trans hb.size h)

set_option maxHeartbeats 1000000 in
theorem outN_fits (w : World) (p v n : Nat) (l F : List Nat) (h : OutIs w p l F) (hl : l.length ≤ 9000000) (h1 : 1 ≤ n) (h7 : n ≤ 7) (hv : v < 256 ^ n) :
    Calls Tryz.prog 25 #[.pointer (some ⟨p, 0, none⟩), .int .i64 v, .int .i64 n] w fun e w' => e = .returned (.tuple #[]) ∧ More w p (l ++ bytesOf v n) F w' := by
  have hd : decide ((1 : Int) ≤ (n : Nat) ∧ ((n : Nat) : Int) ≤ 7) = true := by simp; omega
  have hd2 := fits_true h7 hv
  have HV := Lib.hid hv
  have HO := Lib.hid h
  clear hv h
  go_enter Tryz.func25, Tryz.ntmps25
  go_wp2_with (first | (go_at_call 40; refine (isSize_any _ _).mono ?_; rw [hd]; rintro e w1 ⟨rfl, rfl⟩) | (go_at_call 51; refine (takes_true _ _ HO.out.good).mono ?_; rintro e w1 ⟨rfl, rfl⟩))
  go_loopw [25] (fun i wr => ∃ k : Nat, k ≤ n ∧ i = .int .i64 k ∧ wr.rowIs w.heap.size 124 7 (fun j => .int .u8 (if j < k then byteAt v n j else 0 : Nat)) ∧ Below w.heap.size w wr) (fun i _ => n - (intOf i).toNat)
  case atStart =>
    refine ⟨0, by omega, rfl, ?_, (Below.refl _ _).alloc (Nat.le_refl _) _⟩
    refine World.rowIs_alloc w _ 124 _ (fun i hi => ?_)
    simp at hi
    have hi' : i = 0 ∨ i = 1 ∨ i = 2 ∨ i = 3 ∨ i = 4 ∨ i = 5 ∨ i = 6 := by omega
    rcases hi' with rfl | rfl | rfl | rfl | rfl | rfl | rfl <;> rfl
  case round =>
    obtain ⟨k, hk, rfl, hrow, hb⟩ := hrel
    by_cases hlt : k < n
    · have d0 := hrow.cell (i := k) (by omega)
      have d1 := hrow.frozen k
      have HRow := Lib.hid hrow
      have HBl := Lib.hid hb
      clear hrow hb
      go_wp2
      go_roundw
      case rel =>
        refine ⟨k + 1, by omega, rfl, ?_, HBl.out.setCell (p := ⟨w.heap.size, k, none⟩) (Nat.le_refl _) _⟩
        rw [byteAt_i]
        refine (HRow.out.set k _).congr (fun j hj => ?_)
        by_cases hjk : j = k
        · subst hjk
          simp
        · simp only [hjk, if_false]
          have : (j < k + 1) = (j < k) := by simp; omega
          simp only [this]
      case measure => simp [intOf]; omega
    · obtain rfl : k = n := by omega
      have HBy := Lib.hid (bytes_row (v := v) (n := k) hrow h7 (fun j hj => by simp [hj]))
      have HBl := Lib.hid hb
      have hsl := fun w' => slice53 w' w.heap.size k h7
      clear hrow hb
      go_wp2_with (go_at_call 52; refine (put_any _ p l F _ k 7 _ (HO.out.below HBl.out) HBy.out (by omega) (fun e => by cases e) (fun ad e _ hF => by cases e; exact absurd (HO.out.lt _ hF) (Nat.lt_irrefl _))).mono ?_; rintro e w1 ⟨rfl, hm⟩)
      go_end0
      exact ⟨rfl, hm.from HBl.out HO.out.lt⟩

/-- A number that fits. -/
def Fits (v n : Int) : Prop := 1 ≤ n ∧ n ≤ 7 ∧ 0 ≤ v ∧ v < 256 ^ n.toNat
set_option maxHeartbeats 1000000 in
theorem outN_stop (w : World) (a : Option Addr) (v n : Int) (R : World → Prop) (hT : ∀ b, (b = true → Fits v n) → Calls Tryz.prog 51 #[.pointer a, .bool b] w fun e w' => e = .returned (.bool false) ∧ R w') :
    Calls Tryz.prog 25 #[.pointer a, .int .i64 v, .int .i64 n] w fun e w' => e = .returned (.tuple #[]) ∧ R w' := by
  by_cases hn : 1 ≤ n ∧ n ≤ 7
  · have hd : decide (1 ≤ n ∧ n ≤ 7) = true := by simp [hn]
    by_cases h0 : 0 ≤ v
    · have h1 := hn.1
      have h7 := hn.2
      obtain ⟨m, rfl⟩ := Int.eq_ofNat_of_zero_le (show 0 ≤ n by omega)
      obtain ⟨u, rfl⟩ := Int.eq_ofNat_of_zero_le h0
      by_cases hv : u < 256 ^ m
      · have hf : Fits (u : Nat) (m : Nat) := ⟨hn.1, hn.2, h0, by simpa using (by exact_mod_cast hv : ((u : Nat) : Int) < ((256 ^ m : Nat) : Int))⟩
        have HT := Lib.hid (hT true (fun _ => hf))
        have hd2 := fits_true (n := m) (v := u) (by omega) hv
        clear hT hf hv hn
        go_enter Tryz.func25, Tryz.ntmps25
        go_wp2_with (first | (go_at_call 40; refine (isSize_any _ _).mono ?_; rw [hd]; rintro e w1 ⟨rfl, rfl⟩) | (go_at_call 51; refine HT.out.mono ?_; rintro e w1 ⟨rfl, hR⟩; have HR := Lib.hid hR; clear hR))
        refine bodyPost_ret (results_none rfl _ _ _) rfl ?_
        exact ⟨rfl, HR.out⟩
      · have HT := Lib.hid (hT false (fun h => by cases h))
        have hd2 := fits_false (n := m) (v := u) (by omega) hv
        clear hT hv hn
        go_enter Tryz.func25, Tryz.ntmps25
        go_wp2_with (first | (go_at_call 40; refine (isSize_any _ _).mono ?_; rw [hd]; rintro e w1 ⟨rfl, rfl⟩) | (go_at_call 51; refine HT.out.mono ?_; rintro e w1 ⟨rfl, hR⟩; have HR := Lib.hid hR; clear hR))
        refine bodyPost_ret (results_none rfl _ _ _) rfl ?_
        exact ⟨rfl, HR.out⟩
    · have HT := Lib.hid (hT false (fun h => by cases h))
      have hlt : v < 0 := by omega
      clear hT h0
      go_enter Tryz.func25, Tryz.ntmps25
      go_wp2_with (first | (go_at_call 40; refine (isSize_any _ _).mono ?_; rw [hd]; rintro e w1 ⟨rfl, rfl⟩) | (go_at_call 51; refine HT.out.mono ?_; rintro e w1 ⟨rfl, hR⟩; have HR := Lib.hid hR; clear hR))
      refine bodyPost_ret (results_none rfl _ _ _) rfl ?_
      exact ⟨rfl, HR.out⟩
  · have hd : decide (1 ≤ n ∧ n ≤ 7) = false := by simpa using hn
    have HT := Lib.hid (hT false (fun h => by cases h))
    clear hT
    go_enter Tryz.func25, Tryz.ntmps25
    go_wp2_with (first | (go_at_call 40; refine (isSize_any _ _).mono ?_; rw [hd]; rintro e w1 ⟨rfl, rfl⟩) | (go_at_call 51; refine HT.out.mono ?_; rintro e w1 ⟨rfl, hR⟩; have HR := Lib.hid hR; clear hR))
    refine bodyPost_ret (results_none rfl _ _ _) rfl ?_
    exact ⟨rfl, HR.out⟩
/-- It is spoilt now. -/
def Lost (w : World) (p : Nat) (w' : World) : Prop := Spoilt w' p ∧ Touch (fun k => k = p) w w'
theorem outN_spoils (w : World) (p : Nat) (l F : List Nat) (v n : Int) (h : OutIs w p l F) (hf : ¬ Fits v n) :
    Calls Tryz.prog 25 #[.pointer (some ⟨p, 0, none⟩), .int .i64 v, .int .i64 n] w fun e w' => e = .returned (.tuple #[]) ∧ Lost w p w' := by
  refine outN_stop w _ v n _ (fun b hb => ?_)
  cases b with
  | true => exact absurd (hb rfl) hf
  | false =>
    obtain ⟨x, y, hp⟩ := h.head
    refine (takes_false w p x y hp).mono ?_
    rintro e w' ⟨rfl, rfl⟩
    exact ⟨rfl, spoil hp⟩
theorem outN_spoilt (w : World) (p : Nat) (v n : Int) (h : Spoilt w p) :
    Calls Tryz.prog 25 #[.pointer (some ⟨p, 0, none⟩), .int .i64 v, .int .i64 n] w fun e w' => e = .returned (.tuple #[]) ∧ w = w' :=
  outN_stop w _ v n _ (fun b hb => takes_spoilt w p b h.bad)
theorem outN_nil (w : World) (v n : Int) :
    Calls Tryz.prog 25 #[.pointer none, .int .i64 v, .int .i64 n] w fun e w' => e = .returned (.tuple #[]) ∧ w = w' :=
  outN_stop w _ v n _ (fun b hb => takes_nil w b)

set_option maxHeartbeats 400000 in
theorem raw_good (w : World) (p : Nat) (l F : List Nat) (A : Option Addr) (n c : Nat) (m : List Nat) (h : OutIs w p l F) (hB : Bytes w A n m) (hn : l.length + n ≤ 10000000) (hA : A = none → c = 0) (hAp : ∀ ad, A = some ad → 0 < n → ad.block ∉ F) :
    Calls Tryz.prog 85 #[.pointer (some ⟨p, 0, none⟩), .slice A n c] w fun e w' => e = .returned (.tuple #[]) ∧ More w p (l ++ m) F w' := by
  have HP := Lib.hid (put_any w p l F A n c m h hB hn hA hAp)
  have HG := Lib.hid h.good
  clear h hB hA hAp
  go_enter Tryz.func85, Tryz.ntmps85
  go_wp2_with (first | (go_at_call 51; refine (takes_true _ _ HG.out).mono ?_; rintro e w1 ⟨rfl, rfl⟩) | (go_at_call 52; refine HP.out.mono ?_; rintro e w1 ⟨rfl, hR⟩; have HR := Lib.hid hR; clear hR))
  go_end0
  exact ⟨rfl, HR.out⟩
theorem raw_stop (w : World) (a : Option Addr) (x : Value) (hT : Calls Tryz.prog 51 #[.pointer a, .bool true] w fun e w' => e = .returned (.bool false) ∧ w = w') :
    Calls Tryz.prog 85 #[.pointer a, x] w fun e w' => e = .returned (.tuple #[]) ∧ w = w' := by
  go_enter Tryz.func85, Tryz.ntmps85
  go_wp2_with (first | (go_at_call 51; refine hT.mono ?_; rintro e w1 ⟨rfl, rfl⟩))
  go_end0
  exact ⟨rfl, rfl⟩
theorem end_stop (w : World) (a : Option Addr) (hT : Calls Tryz.prog 51 #[.pointer a, .bool true] w fun e w' => e = .returned (.bool false) ∧ w = w') :
    Calls Tryz.prog 53 #[.pointer a] w fun e w' => e = .returned (.tuple #[.slice none 0 0, .int .i64 1]) ∧ w = w' := by
  go_enter Tryz.func53, Tryz.ntmps53
  go_wp2_with (first | (go_at_call 51; refine hT.mono ?_; rintro e w1 ⟨rfl, rfl⟩))
  go_ret2
  exact ⟨rfl, rfl⟩
theorem own_bytes {w : World} {g k cap : Nat} {l : List Nat} (h : w.ownsRow 0 5 1 (.slice (some ⟨g, 0, none⟩) k cap) l.length (vals l)) (hk : l.length = k) (hb : ∀ x ∈ l, x < 256) : Bytes w (some ⟨g, 0, none⟩) k l := by
  refine ⟨hk, hb, fun _ => ⟨g, 0, rfl, fun i hi => ?_⟩⟩
  have := h.cells (g := g) rfl i (.int .u8 (l.getD i 0 : Nat)) (by
    have hi' : i < l.length := by omega
    simp [vals, List.getD, hi'])
  rw [add_none] at this
  exact this
/-- New bytes of one's own. -/
def Made (w : World) (l : List Nat) (v : Value) (w' : World) : Prop := ∃ g, v = .slice (some ⟨g, 0, none⟩) l.length l.length ∧ w.heap.size ≤ g ∧ Below w.heap.size w w' ∧ w'.heap[g]? = some (.cells (vals l).toArray 5 (0, 0)) ∧ ∀ x ∈ l, x < 256
set_option maxHeartbeats 400000 in
theorem end_good (w : World) (p : Nat) (l F : List Nat) (h : OutIs w p l F) (hl : l.length ≤ 10000000) :
    Calls Tryz.prog 53 #[.pointer (some ⟨p, 0, none⟩)] w fun e w' => ∃ v, e = .returned (.tuple #[v, .int .i64 0]) ∧ Made w l v w' := by
  have HG := Lib.hid h.good
  rcases h with ⟨h, rfl, rfl⟩ | ⟨s, g, cap, h, rfl⟩
  · have hc0 : w.cell? ⟨p, 0, none⟩ = some (.pointer none) := by simp [World.cell?, show w.heap[p]? = _ from h]
    clear h
    go_enter Tryz.func53, Tryz.ntmps53
    go_wp2_with (first | (go_at_call 51; refine (takes_true _ _ HG.out).mono ?_; rintro e w1 ⟨rfl, rfl⟩) | (go_at_call 84; refine (written_empty _ _ hc0).mono ?_; rintro e w1 ⟨rfl, rfl⟩) | (go_at_call 67; refine (copied_any _ none 0 0 [] ⟨rfl, by simp, fun h => absurd h (by omega)⟩ (by omega)).mono ?_; rintro e w1 ⟨rfl, rfl⟩))
    go_ret2
    exact ⟨_, rfl, w.heap.size, rfl, Nat.le_refl _, (Below.refl _ _).alloc (Nat.le_refl _) _, heap_alloc_new w _, by simp⟩
  · obtain ⟨hc0, hc1, _, hs0, hf0, hf1, hfs, hlp, hls, hlg, hcap⟩ := h.facts
    have HB := Lib.hid (own_bytes h.2.2.1 rfl h.2.2.2.2.2.2)
    have HX := Lib.hid h.2.2.2.2.2.2
    clear h
    go_enter Tryz.func53, Tryz.ntmps53
    go_wp2_with (first | (go_at_call 51; refine (takes_true _ _ HG.out).mono ?_; rintro e w1 ⟨rfl, rfl⟩) | (go_at_call 84; refine (written_full _ _ _ _ _ _ hc0 hc1 hs0 hcap).mono ?_; rintro e w1 ⟨rfl, q, rfl⟩) | (go_at_call 67; refine (copied_any _ _ _ _ l (HB.out.drewN _) hl).mono ?_; rintro e w1 ⟨rfl, rfl⟩))
    go_ret2
    exact ⟨_, rfl, w.heap.size, rfl, Nat.le_refl _, (below_draws (Below.refl _ _) q).alloc (Nat.le_refl _) _, heap_alloc_new (w.drewN q) _, HX.out⟩
end Go.Proofs.YtklmbiekpilkhaaGreatDoor.codec
