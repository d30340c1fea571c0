/- What an Out takes: numbers, texts and bytes. -/
import Derived.Test.YthhflkgngencdaaGreatDoorMa00
import Derived.Laws.BytesArg
import Derived.Shelf.Bytes.SlSmallAll
import Derived.Lib.ConvBytes
import Derived.Laws.BitsAllLaws
import Derived.Lib.AppendStr
import Derived.Lib.SplitLaws
import Derived.Lib.IndexBytes
import Derived.Lib.LastIndexByte
import Derived.Lib.Fold
import Derived.Lib.Strings
namespace Go.Proofs.YthhflkgngencdaaGreatDoor.codec
open Go.ChangeShapes Go.WideShapes Go.ChangeAt Go.RowKit
set_option linter.unusedVariables false
set_option maxRecDepth 100000
set_option linter.unusedSimpArgs false

def byteAt (v n j : Nat) : Nat := v / 256 ^ (n - 1 - j) % 256
def bytesOf (v n : Nat) : List Nat := (List.range n).map (byteAt v n)
theorem bytesOf_length (v n : Nat) : (bytesOf v n).length = n := by simp [bytesOf]
theorem bytesOf_lt (v n : Nat) : ∀ b ∈ bytesOf v n, b < 256 := by
  intro b hb
  obtain ⟨j, _, rfl⟩ := List.mem_map.1 hb
  exact Nat.mod_lt _ (by omega)
theorem pow_le7 {n : Nat} (h7 : n ≤ 7) : 2 ^ (8 * n) ≤ 72057594037927936 := Nat.pow_le_pow_right (n := 2) (by omega) (show 8 * n ≤ 56 by omega)
theorem wrap_pow {n : Nat} (h7 : n ≤ 7) : wrap64 (2 ^ (8 * n)) = ((2 ^ (8 * n) : Nat) : Int) := by
  have h := pow_le7 h7
  have e : ((2 : Int) ^ (8 * n)) = ((2 ^ (8 * n) : Nat) : Int) := by simp
  rw [e]
  generalize 2 ^ (8 * n) = m at *
  exact IntWalk.wrap64_in _ (by omega)
theorem p256 (n : Nat) : 256 ^ n = 2 ^ (8 * n) := by rw [Nat.pow_mul]
theorem fits_true {v n : Nat} (h7 : n ≤ 7) (hv : v < 256 ^ n) : decide ((v : Int) < wrap64 (2 ^ (8 * n))) = true := by
  rw [wrap_pow h7, decide_eq_true_eq]
  rw [p256] at hv
  exact_mod_cast hv
theorem slice53 (w : World) (g n : Nat) (h7 : n ≤ 7) : (Instr.sliceAt 202 (Value.pointer (some ⟨g, 0, none⟩)) none (some (Value.int .i64 (n : Nat))) none).run Tryz.prog w = .ok (.slice (some ⟨g, 0, none⟩) n 7) w := by
  have ha : Tryz.prog.arrayLen 202 = 7 := by kernel_rfl
  have hs : (sizeOf (Tryz.prog.elem 202)).run Tryz.prog w = .ok 1 w := by kernel_rfl
  rw [run_sliceAt_array_h (P := Tryz.prog) w 202 ⟨g, 0, none⟩ (by kernel_rfl) .i64 (n : Nat) (by omega) (by rw [ha]; omega), hs, ha]
  simp [slicedAt, add_none]
theorem bytes_row {w : World} {g t v n N : Nat} {f : Nat → Value} (h : w.rowIs g t N f) (hn : n ≤ N) (hf : ∀ j, j < n → f j = .int .u8 (byteAt v n j : Nat)) : Bytes w (some ⟨g, 0, none⟩) n (bytesOf v n) := by
  refine ⟨bytesOf_length v n, bytesOf_lt v n, fun _ => ⟨g, 0, rfl, fun i hi => ?_⟩⟩
  rw [Nat.zero_add, h.cell (by omega), hf i hi]
  simp [bytesOf, List.getD, hi]
theorem byteAt_i (v n k : Nat) : ((v : Int) / 2 ^ (8 * (n - 1 - k)) % 256) = ((byteAt v n k : Nat) : Int) := by
  unfold byteAt
  rw [p256]
  simp
theorem More.from {w w1 w' : World} {p : Nat} {l F : List Nat} (hb : Below w.heap.size w w1) (hF : ∀ k ∈ F, k < w.heap.size) (h : More w1 p l F w') : More w p l F w' := by
  obtain ⟨F', h1, h2, h3⟩ := h
  refine ⟨F', h1, ?_, fun k hk => ?_⟩
  · have h0 : Touch (fun k => k ∈ F) w w1 := ⟨hb.os, hb.tape, hb.output, hb.size, fun k hk _ => hb.block k hk⟩
    exact h0.trans (h2.mono fun i _ h => .inl h)
  · rcases h3 k hk with h | h
    · exact .inl h
    · exact .inr (Nat.le_trans hb.size h)

set_option maxHeartbeats 1000000 in
theorem outN_fits (w : World) (p v n : Nat) (l F : List Nat) (h : OutIs w p l F) (hl : l.length ≤ 9000000) (h1 : 1 ≤ n) (h7 : n ≤ 7) (hv : v < 256 ^ n) :
    Calls Tryz.prog 92 #[.pointer (some ⟨p, 0, none⟩), .int .i64 v, .int .i64 n] w fun e w' => e = .returned (.tuple #[]) ∧ More w p (l ++ bytesOf v n) F w' := by
  have hd : decide ((1 : Int) ≤ (n : Nat) ∧ ((n : Nat) : Int) ≤ 7) = true := by simp; omega
  have hd2 := fits_true h7 hv
  have HV := Lib.hid hv
  have HO := Lib.hid h
  clear hv h
  go_enter Tryz.func92, Tryz.ntmps92
  go_wp2_with (first | (go_at_call 138; refine (isSize_any _ _).mono ?_; rw [hd]; rintro e w1 ⟨rfl, rfl⟩) | (go_at_call 137; refine (takes_true _ _ HO.out.good).mono ?_; rintro e w1 ⟨rfl, rfl⟩))
  go_loopw [25] (fun i wr => ∃ k : Nat, k ≤ n ∧ i = .int .i64 k ∧ wr.rowIs w.heap.size 202 7 (fun j => .int .u8 (if j < k then byteAt v n j else 0 : Nat)) ∧ Below w.heap.size w wr) (fun i _ => n - (intOf i).toNat)
  case atStart =>
    refine ⟨0, by omega, rfl, ?_, (Below.refl _ _).alloc (Nat.le_refl _) _⟩
    refine World.rowIs_alloc w _ 202 _ (fun i hi => ?_)
    simp at hi
    have hi' : i = 0 ∨ i = 1 ∨ i = 2 ∨ i = 3 ∨ i = 4 ∨ i = 5 ∨ i = 6 := by omega
    rcases hi' with rfl | rfl | rfl | rfl | rfl | rfl | rfl <;> rfl
  case round =>
    obtain ⟨k, hk, rfl, hrow, hb⟩ := hrel
    by_cases hlt : k < n
    · have d0 := hrow.cell (i := k) (by omega)
      have d1 := hrow.frozen k
      have HRow := Lib.hid hrow
      have HBl := Lib.hid hb
      clear hrow hb
      go_wp2
      go_roundw
      case rel =>
        refine ⟨k + 1, by omega, rfl, ?_, HBl.out.setCell (p := ⟨w.heap.size, k, none⟩) (Nat.le_refl _) _⟩
        rw [byteAt_i]
        refine (HRow.out.set k _).congr (fun j hj => ?_)
        by_cases hjk : j = k
        · subst hjk
          simp
        · simp only [hjk, if_false]
          have : (j < k + 1) = (j < k) := by simp; omega
          simp only [this]
      case measure => simp [intOf]; omega
    · obtain rfl : k = n := by omega
      have HBy := Lib.hid (bytes_row (v := v) (n := k) hrow h7 (fun j hj => by simp [hj]))
      have HBl := Lib.hid hb
      have hsl := fun w' => slice53 w' w.heap.size k h7
      clear hrow hb
      go_wp2_with (go_at_call 139; refine (put_any _ p l F _ k 7 _ (HO.out.below HBl.out) HBy.out (by omega) (fun e => by cases e) (fun ad e _ hF => by cases e; exact absurd (HO.out.lt _ hF) (Nat.lt_irrefl _))).mono ?_; rintro e w1 ⟨rfl, hm⟩)
      go_end0
      exact ⟨rfl, hm.from HBl.out HO.out.lt⟩

/-- A number that fits. -/
def Fits (v n : Int) : Prop := 1 ≤ n ∧ n ≤ 7 ∧ 0 ≤ v ∧ v < 256 ^ n.toNat
set_option maxHeartbeats 400000 in
theorem raw_good (w : World) (p : Nat) (l F : List Nat) (A : Option Addr) (n c : Nat) (m : List Nat) (h : OutIs w p l F) (hB : Bytes w A n m) (hn : l.length + n ≤ 10000000) (hA : A = none → c = 0) (hAp : ∀ ad, A = some ad → 0 < n → ad.block ∉ F) :
    Calls Tryz.prog 168 #[.pointer (some ⟨p, 0, none⟩), .slice A n c] w fun e w' => e = .returned (.tuple #[]) ∧ More w p (l ++ m) F w' := by
  have HP := Lib.hid (put_any w p l F A n c m h hB hn hA hAp)
  have HG := Lib.hid h.good
  clear h hB hA hAp
  go_enter Tryz.func168, Tryz.ntmps168
  go_wp2_with (first | (go_at_call 137; refine (takes_true _ _ HG.out).mono ?_; rintro e w1 ⟨rfl, rfl⟩) | (go_at_call 139; refine HP.out.mono ?_; rintro e w1 ⟨rfl, hR⟩; have HR := Lib.hid hR; clear hR))
  go_end0
  exact ⟨rfl, HR.out⟩
theorem own_bytes {w : World} {g k cap : Nat} {l : List Nat} (h : w.ownsRow 0 5 1 (.slice (some ⟨g, 0, none⟩) k cap) l.length (vals l)) (hk : l.length = k) (hb : ∀ x ∈ l, x < 256) : Bytes w (some ⟨g, 0, none⟩) k l := by
  refine ⟨hk, hb, fun _ => ⟨g, 0, rfl, fun i hi => ?_⟩⟩
  have := h.cells (g := g) rfl i (.int .u8 (l.getD i 0 : Nat)) (by
    have hi' : i < l.length := by omega
    simp [vals, List.getD, hi'])
  rw [add_none] at this
  exact this
/-- New bytes of one's own. -/
def Made (w : World) (l : List Nat) (v : Value) (w' : World) : Prop := ∃ g, v = .slice (some ⟨g, 0, none⟩) l.length l.length ∧ w.heap.size ≤ g ∧ Below w.heap.size w w' ∧ w'.heap[g]? = some (.cells (vals l).toArray 5 (0, 0)) ∧ ∀ x ∈ l, x < 256
set_option maxHeartbeats 400000 in
theorem end_good (w : World) (p : Nat) (l F : List Nat) (h : OutIs w p l F) (hl : l.length ≤ 10000000) :
    Calls Tryz.prog 140 #[.pointer (some ⟨p, 0, none⟩)] w fun e w' => ∃ v, e = .returned (.tuple #[v, .int .i64 0]) ∧ Made w l v w' := by
  have HG := Lib.hid h.good
  rcases h with ⟨h, rfl, rfl⟩ | ⟨s, g, cap, h, rfl⟩
  · have hc0 : w.cell? ⟨p, 0, none⟩ = some (.pointer none) := by simp [World.cell?, show w.heap[p]? = _ from h]
    clear h
    go_enter Tryz.func140, Tryz.ntmps140
    go_wp2_with (first | (go_at_call 137; refine (takes_true _ _ HG.out).mono ?_; rintro e w1 ⟨rfl, rfl⟩) | (go_at_call 185; refine (written_empty _ _ hc0).mono ?_; rintro e w1 ⟨rfl, rfl⟩) | (go_at_call 184; refine (copied_any _ none 0 0 [] ⟨rfl, by simp, fun h => absurd h (by omega)⟩ (by omega)).mono ?_; rintro e w1 ⟨rfl, rfl⟩))
    go_ret2
    exact ⟨_, rfl, w.heap.size, rfl, Nat.le_refl _, (Below.refl _ _).alloc (Nat.le_refl _) _, heap_alloc_new w _, by simp⟩
  · obtain ⟨hc0, hc1, _, hs0, hf0, hf1, hfs, hlp, hls, hlg, hcap⟩ := h.facts
    have HB := Lib.hid (own_bytes h.2.2.1 rfl h.2.2.2.2.2.2)
    have HX := Lib.hid h.2.2.2.2.2.2
    clear h
    go_enter Tryz.func140, Tryz.ntmps140
    go_wp2_with (first | (go_at_call 137; refine (takes_true _ _ HG.out).mono ?_; rintro e w1 ⟨rfl, rfl⟩) | (go_at_call 185; refine (written_full _ _ _ _ _ _ hc0 hc1 hs0 hcap).mono ?_; rintro e w1 ⟨rfl, q, rfl⟩) | (go_at_call 184; refine (copied_any _ _ _ _ l (HB.out.drewN _) hl).mono ?_; rintro e w1 ⟨rfl, rfl⟩))
    go_ret2
    exact ⟨_, rfl, w.heap.size, rfl, Nat.le_refl _, (below_draws (Below.refl _ _) q).alloc (Nat.le_refl _) _, heap_alloc_new (w.drewN q) _, HX.out⟩
end Go.Proofs.YthhflkgngencdaaGreatDoor.codec
namespace Go.Proofs.YthhflkgngencdaaGreatDoor.codec
open Go.ChangeShapes Go.WideShapes Go.ChangeAt Go.RowKit
set_option linter.unusedVariables false
set_option maxRecDepth 100000
set_option linter.unusedSimpArgs false

def strOf (l : List Nat) : ByteArray := ⟨(l.map UInt8.ofNat).toArray⟩
theorem strOfNums_nat (l : List Nat) : strOfNums (l.map Int.ofNat) = strOf l := by
  simp only [strOfNums, strOf, List.map_map]
  rfl
theorem strOf_size (a : List Nat) : (strOf a).size = a.length := by simp [strOf, ByteArray.size]
/-- Bytes as a text. -/
theorem Bytes.text {w : World} {A : Option Addr} {n : Nat} {l : List Nat} (h : Bytes w A n l) (c : Nat) : (convert 40 9 (.slice A n c)).run Tryz.prog w = .ok (.string (strOf l)) w := by
  rcases Nat.eq_zero_or_pos n with h0 | h0
  · subst h0
    obtain rfl : l = [] := List.eq_nil_of_length_eq_zero h.1
    rw [run_convert_bytes_zero w 40 5 Tryz.underlying40 Tryz.underlying5 A c 9 Tryz.underlying9]
    rfl
  · obtain ⟨b, o, rfl, hc⟩ := h.2.2 h0
    have hl := h.1
    rw [run_convert_bytes_arg (P := Tryz.prog) w 40 5 Tryz.underlying40 Tryz.underlying5 b o n c (l.map Int.ofNat) (by simpa using hl) (fun i hi => by
      rw [hc i hi]
      have hi' : i < l.length := by omega
      simp [List.getD, hi']) 9 Tryz.underlying9, strOfNums_nat]
theorem strOf_inj {a b : List Nat} (ha : ∀ x ∈ a, x < 256) (hb : ∀ x ∈ b, x < 256) (h : strOf a = strOf b) : a = b := by
  unfold strOf at h
  have h1 : a.map UInt8.ofNat = b.map UInt8.ofNat := by
    have := congrArg ByteArray.data h
    simpa using this
  have h2 := congrArg (List.map UInt8.toNat) h1
  simp only [List.map_map] at h2
  have e : ∀ l : List Nat, (∀ x ∈ l, x < 256) → l.map (UInt8.toNat ∘ UInt8.ofNat) = l := by
    intro l hl
    calc l.map (UInt8.toNat ∘ UInt8.ofNat) = l.map id := List.map_congr_left (fun x hx => by simp [Nat.mod_eq_of_lt (hl x hx)])
      _ = l := by simp
  rwa [e a ha, e b hb] at h2
theorem Made.bytes {w w' : World} {l : List Nat} {v : Value} (h : Made w l v w') : ∃ g, v = .slice (some ⟨g, 0, none⟩) l.length l.length ∧ w.heap.size ≤ g ∧ Below w.heap.size w w' ∧ Bytes w' (some ⟨g, 0, none⟩) l.length l := by
  obtain ⟨g, rfl, h1, h2, h3, h4⟩ := h
  refine ⟨g, rfl, h1, h2, rfl, h4, fun _ => ⟨g, 0, rfl, fun i hi => ?_⟩⟩
  simp [World.cell?, h3, vals, List.getD, hi]
theorem outN_good (w : World) (p : Nat) (l F : List Nat) (v n : Int) (h : OutIs w p l F) (hl : l.length ≤ 9000000) (hf : Fits v n) :
    Calls Tryz.prog 92 #[.pointer (some ⟨p, 0, none⟩), .int .i64 v, .int .i64 n] w fun e w' => e = .returned (.tuple #[]) ∧ More w p (l ++ bytesOf v.toNat n.toNat) F w' := by
  obtain ⟨h1, h7, h0, hv⟩ := hf
  obtain ⟨m, rfl⟩ := Int.eq_ofNat_of_zero_le (show 0 ≤ n by omega)
  obtain ⟨u, rfl⟩ := Int.eq_ofNat_of_zero_le h0
  exact outN_fits w p u m l F h hl (by omega) (by omega) (by
    have : ((u : Nat) : Int) < ((256 ^ m : Nat) : Int) := by simpa using hv
    exact_mod_cast this)
theorem fresh_new (w : World) : OutIs (w.alloc (.cells #[.pointer none, .int .i64 0, .bool false] 154)) w.heap.size [] [w.heap.size] := .inl ⟨heap_alloc_new w _, rfl, rfl⟩


end Go.Proofs.YthhflkgngencdaaGreatDoor.codec
namespace Go.Proofs.YthhflkgngencdaaGreatDoor.codec
open Go.ChangeShapes Go.WideShapes Go.ChangeAt Go.RowKit
set_option linter.unusedVariables false
set_option maxRecDepth 100000
set_option linter.unusedSimpArgs false

/-- An In that has these bytes left. -/
def InIs (w : World) (q g o c : Nat) (l : List Nat) : Prop :=
  w.heap[q]? = some (.cells #[.slice (some ⟨g, o, none⟩) l.length c, .bool false] 327 (0, 0)) ∧ Bytes w (some ⟨g, o, none⟩) l.length l ∧ l.length ≤ c ∧ q ≠ g
def BadIn (w : World) (q : Nat) : Prop := w.heap[q]? = some (.cells #[.slice none 0 0, .bool true] 327 (0, 0))
theorem InIs.facts {w : World} {q g o c : Nat} {l : List Nat} (h : InIs w q g o c l) :
    w.cell? ⟨q, 0, none⟩ = some (.slice (some ⟨g, o, none⟩) l.length c) ∧ w.cell? ⟨q, 0 + 1, none⟩ = some (.bool false) ∧ w.frozen? ⟨q, 0, none⟩ = false ∧ q < w.heap.size := by
  have h := h.1
  exact ⟨by simp [World.cell?, h], by simp [World.cell?, h], by simp [World.frozen?, h], (Array.getElem?_eq_some_iff.1 h).1⟩
theorem BadIn.facts {w : World} {q : Nat} (h : BadIn w q) : w.cell? ⟨q, 0, none⟩ = some (.slice none 0 0) ∧ w.cell? ⟨q, 0 + 1, none⟩ = some (.bool true) ∧ q < w.heap.size := by
  unfold BadIn at h
  exact ⟨by simp [World.cell?, h], by simp [World.cell?, h], (Array.getElem?_eq_some_iff.1 h).1⟩
theorem InIs.kept {w w' : World} {q g o c : Nat} {l : List Nat} (h : InIs w q g o c l) (hq : w'.heap[q]? = w.heap[q]?) (hg : w'.heap[g]? = w.heap[g]?) : InIs w' q g o c l :=
  ⟨hq.trans h.1, h.2.1.kept (fun ad e _ => by cases e; exact hg), h.2.2⟩
theorem size57 : (Tryz.prog.info? 327).map (·.size) = some 2 := by kernel_rfl
/-- An In went on. -/
theorem InIs.next {w : World} {q g o c k : Nat} {l : List Nat} (h : InIs w q g o c l) (hk : k ≤ l.length) (o' : Nat) (ho : c ≠ k → o' = o + k) :
    InIs (w.setCell ⟨q, 0, none⟩ (.slice (some ⟨g, o', none⟩) (l.length - k) (c - k))) q g o' (c - k) (l.drop k) ∧ Touch (fun i => i = q) w (w.setCell ⟨q, 0, none⟩ (.slice (some ⟨g, o', none⟩) (l.length - k) (c - k))) := by
  obtain ⟨h1, h2, h3, h4⟩ := h
  have ht := (Touch.refl (fun i => i = q) w).setCell ⟨q, 0, none⟩ (.inr rfl) (.slice (some ⟨g, o', none⟩) (l.length - k) (c - k))
  refine ⟨⟨?_, ?_, by simp; omega, h4⟩, ht⟩
  · rw [heap_setCell_same _ q 0 _ 327 _ h1]
    simp
  · refine ⟨rfl, fun b hb => h2.2.1 b (List.mem_of_mem_drop hb), fun hn => ⟨g, o', rfl, fun i hi => ?_⟩⟩
    simp at hn hi
    have := ho (by omega)
    subst this
    obtain ⟨b, oo, e, hc⟩ := h2.2.2 (by omega)
    cases e
    have := hc (k + i) (by omega)
    have e2 : (l.drop k).getD i 0 = l.getD (k + i) 0 := by simp [List.getD]
    rw [e2, ← this, Nat.add_assoc]
    simp [World.cell?, heap_setCell_other w ⟨q, 0, none⟩ g _ (Ne.symm h4)]

theorem next_good (w : World) (q g o c k : Nat) (l : List Nat) (h : InIs w q g o c l) (hk : k ≤ l.length) (hc : c ≤ 10000000) :
    Calls Tryz.prog 243 #[.pointer (some ⟨q, 0, none⟩), .int .i64 k, .bool true] w fun e w' => e = .returned (.slice (some ⟨g, o, none⟩) k c) ∧ ∃ o' c', InIs w' q g o' c' (l.drop k) ∧ Touch (fun i => i = q) w w' ∧ c' ≤ c := by
  obtain ⟨h0, h1, hf, hlt⟩ := h.facts
  have hlc := h.2.2.1
  have HI := Lib.hid h
  obtain ⟨n, hn⟩ : ∃ n, n = l.length := ⟨_, rfl⟩
  have HN := Lib.hid hn
  rw [← hn] at h0 hk hlc
  clear h hn
  go_enter Tryz.func243, Tryz.ntmps243
  go_wp2
  · have hh : c = k := h
    go_ret
    have := HI.out.next (k := k) (by have := HN.out; omega) o (fun e => absurd hh e)
    rw [← HN.out, hh, Nat.sub_self] at this
    exact ⟨rfl, o, _, this.1, this.2, Nat.zero_le _⟩
  · have hh : ¬ c = k := h
    go_ret
    have := HI.out.next (k := k) (by have := HN.out; omega) (o + k) (fun e => rfl)
    rw [← HN.out] at this
    exact ⟨rfl, o + k, _, this.1, this.2, Nat.sub_le _ _⟩
theorem next_fails (w : World) (q g o c : Nat) (k : Int) (b : Bool) (l : List Nat) (h : InIs w q g o c l) (hk : b = true → (l.length : Int) < k) :
    Calls Tryz.prog 243 #[.pointer (some ⟨q, 0, none⟩), .int .i64 k, .bool b] w fun e w' => e = .returned (.slice none 0 0) ∧ BadIn w' q ∧ Touch (fun i => i = q) w w' := by
  obtain ⟨h0, h1, hf, hlt⟩ := h.facts
  have HI := Lib.hid h.1
  have HS := Lib.hid size57
  have hR : BadIn (w.setRow q #[.slice none 0 0, .bool true]) q ∧ Touch (fun i => i = q) w (w.setRow q #[.slice none 0 0, .bool true]) :=
    ⟨setRow_heap w q _ _ 327 _ h.1, rfl, rfl, rfl, by simp [World.setRow], fun k _ hk => setRow_other w q k _ hk⟩
  have HR := Lib.hid hR
  clear h hR
  cases b with
  | true =>
    have hk' := hk rfl
    clear hk
    go_enter Tryz.func243, Tryz.ntmps243
    go_wp2_with (refine wpList_store_row rfl 327 (.tmp 29) (.tmp 28) rfl q #[.slice none 0 0, .bool true] rfl rfl 327 #[.slice (some ⟨g, o, none⟩) l.length c, .bool false] HI.out HS.out rfl (by simp [Value.oneCell']) ?_)
    go_ret
    exact ⟨rfl, HR.out⟩
  | false =>
    clear hk
    go_enter Tryz.func243, Tryz.ntmps243
    go_wp2_with (refine wpList_store_row rfl 327 (.tmp 29) (.tmp 28) rfl q #[.slice none 0 0, .bool true] rfl rfl 327 #[.slice (some ⟨g, o, none⟩) l.length c, .bool false] HI.out HS.out rfl (by simp [Value.oneCell']) ?_)
    go_ret
    exact ⟨rfl, HR.out⟩
theorem next_bad (w : World) (q : Nat) (k : Int) (b : Bool) (h : BadIn w q) :
    Calls Tryz.prog 243 #[.pointer (some ⟨q, 0, none⟩), .int .i64 k, .bool b] w fun e w' => e = .returned (.slice none 0 0) ∧ w = w' := by
  obtain ⟨h0, h1, hlt⟩ := h.facts
  clear h
  go_enter Tryz.func243, Tryz.ntmps243
  go_wp2
  go_ret
  exact ⟨rfl, rfl⟩
theorem newIn_any (w : World) (A : Option Addr) (n c : Nat) (l : List Nat) (h : Bytes w A n l) (hn : n ≤ 10000000) :
    Calls Tryz.prog 230 #[.slice A n c] w fun e w' => e = .returned (.pointer (some ⟨w.heap.size + 1, 0, none⟩)) ∧ InIs w' (w.heap.size + 1) w.heap.size 0 n l ∧ Below w.heap.size w w' := by
  have HB := Lib.hid h
  clear h
  go_enter Tryz.func230, Tryz.ntmps230
  go_wp2_with (go_at_call 184; refine (copied_any _ _ _ _ l HB.out hn).mono ?_; rintro e w1 ⟨rfl, rfl⟩)
  go_ret
  have hl := HB.out.1
  have h1 : ((w.alloc (.cells (vals l).toArray 5)).alloc (.cells #[.slice (some ⟨w.heap.size, 0, none⟩) n n, .bool false] 327)).heap[w.heap.size + 1]? = some (.cells #[.slice (some ⟨w.heap.size, 0, none⟩) n n, .bool false] 327 (0, 0)) := by
    have := heap_alloc_new (w.alloc (.cells (vals l).toArray 5)) (.cells #[.slice (some ⟨w.heap.size, 0, none⟩) n n, .bool false] 327)
    simpa using this
  have h2 : ((w.alloc (.cells (vals l).toArray 5)).alloc (.cells #[.slice (some ⟨w.heap.size, 0, none⟩) n n, .bool false] 327)).heap[w.heap.size]? = some (.cells (vals l).toArray 5 (0, 0)) := by
    rw [heap_alloc_old _ _ (by simp)]
    exact heap_alloc_new w _
  refine ⟨rfl, ⟨by rw [h1, hl], ⟨rfl, HB.out.2.1, fun _ => ⟨_, 0, rfl, fun i hi => ?_⟩⟩, by omega, by omega⟩, ((Below.refl _ _).alloc (Nat.le_refl _) _).alloc (by simp) _⟩
  rw [Nat.zero_add, cell_of_row _ _ i _ 5 (0, 0) h2]
  simp [vals, List.getD, hi]

/-- The number that bytes are, the greatest first. -/
def numFrom (v : Nat) (l : List Nat) : Nat := l.foldl (fun v b => v * 256 + b) v
def numOf (l : List Nat) : Nat := numFrom 0 l
theorem numOf_take (l : List Nat) (k : Nat) (hk : k < l.length) : numOf (l.take (k + 1)) = numOf (l.take k) * 256 + l.getD k 0 := by
  have : l.take (k + 1) = l.take k ++ [l.getD k 0] := by
    rw [List.take_add_one]
    simp [List.getD, hk]
  rw [this]
  simp [numOf, numFrom]
theorem numOf_lt (l : List Nat) (h : ∀ b ∈ l, b < 256) (k : Nat) : numOf (l.take k) < 256 ^ k := by
  induction k with
  | zero => simp [numOf, numFrom]
  | succ k ih =>
    by_cases hk : k < l.length
    · rw [numOf_take l k hk, Nat.pow_succ]
      have := getD_lt256 h k
      omega
    · rw [List.take_of_length_le (by omega)] at ih ⊢
      exact Nat.lt_of_lt_of_le ih (Nat.pow_le_pow_right (by omega) (by omega))
theorem or_add (v c : Nat) (hc : c < 256) : (v * 256) ||| c = v * 256 + c := by
  have := Nat.two_pow_add_eq_or_of_lt (i := 8) (b := c) (by omega) v
  rw [Nat.mul_comm] at this
  exact this.symm
theorem i64_or_nat (a b : Nat) (ha : a < 4611686018427387904) (hb : b < 4611686018427387904) : bits .or .i64 (a : Int) (b : Int) = ((a ||| b : Nat) : Int) := by
  have hx : a ||| b < 4611686018427387904 := Nat.or_lt_two_pow (n := 62) (by omega) (by omega)
  show IntKind.i64.wrap ((BitVec.ofInt 64 (a : Int) ||| BitVec.ofInt 64 (b : Int)).toNat : Int) = _
  rw [BitVec.toNat_or, ofInt_u64 a (by omega), ofInt_u64 b (by omega), IntKind.wrap_i64]
  generalize a ||| b = m at *
  omega
theorem shl_or (v c : Nat) (hv : v < 281474976710656) (hc : c < 256) : bits .or .i64 ((v : Int) * 256) (c : Int) = ((v * 256 + c : Nat) : Int) := by
  have := i64_or_nat (v * 256) c (by omega) (by omega)
  rw [or_add v c hc] at this
  simpa using this

set_option maxHeartbeats 1000000 in
theorem inN_loop (w : World) (a : Option Addr) (c n : Nat) (l : List Nat) (s : Int) (b : Bool) (A : Option Addr) (R : World → Prop) (hs : decide (1 ≤ s ∧ s ≤ 7) = b) (hB : ∀ w', R w' → Bytes w' A n l) (hn : n ≤ 7)
    (hN : Calls Tryz.prog 243 #[.pointer a, .int .i64 s, .bool b] w fun e w' => e = .returned (.slice A n c) ∧ R w') :
    Calls Tryz.prog 214 #[.pointer a, .int .i64 s] w fun e w' => e = .returned (.int .i64 (numOf l : Nat)) ∧ R w' := by
  have HN := Lib.hid hN
  have HBR := Lib.hid hB
  clear hN hB
  go_enter Tryz.func214, Tryz.ntmps214
  go_wp2_with (first | (go_at_call 138; refine (isSize_any _ _).mono ?_; rw [hs]; rintro e w2 ⟨rfl, rfl⟩) | (go_at_call 243; refine HN.out.mono ?_; rintro e w2 ⟨rfl, hR⟩; have HR := Lib.hid hR; clear hR))
  have HB := Lib.hid (HBR.out _ HR.out)
  go_loopw [5, 14] (fun v i wr => ∃ k x : Nat, k ≤ n ∧ i = .int .i64 k ∧ x = numOf (l.take k) ∧ v = .int .i64 x ∧ wr = w2) (fun _ i _ => n - (intOf i).toNat)
  case atStart => exact ⟨0, 0, by omega, rfl, by simp [numOf, numFrom], rfl, rfl⟩
  case round =>
    obtain ⟨k, x, hk, rfl, hx, rfl, rfl⟩ := hrel
    have hx' : x < 256 ^ k := by rw [hx]; exact numOf_lt l HB.out.2.1 k
    by_cases hlt : k < n
    · obtain ⟨b', o', rfl, hc⟩ := HB.out.2.2 (by omega)
      obtain ⟨y, hy, hy2, hcell⟩ : ∃ y, y = l.getD k 0 ∧ y < 256 ∧ wr.cell? ⟨b', o' + k, none⟩ = some (.int .u8 (y : Nat)) := ⟨_, rfl, getD_lt256 HB.out.2.1 k, hc k hlt⟩
      have hx6 : x < 281474976710656 := Nat.lt_of_lt_of_le hx' (Nat.le_trans (Nat.pow_le_pow_right (by omega) (show k ≤ 6 by omega)) (by decide))
      have HS := Lib.hid (shl_or x y hx6 hy2)
      have HX := Lib.hid hx
      have HY := Lib.hid hy
      clear hx hx' hy hc
      go_wp2
      go_roundw
      case rel =>
        refine ⟨k + 1, x * 256 + y, by omega, rfl, ?_, by rw [HS.out], trivial⟩
        rw [numOf_take l k (by have := HB.out.1; omega), ← HX.out, ← HY.out]
      case measure => simp [intOf]; omega
    · obtain rfl : k = n := by omega
      have HX := Lib.hid hx
      clear hx hx'
      go_wp2
      go_ret
      refine ⟨?_, HR.out⟩
      have := HX.out
      rw [List.take_of_length_le (by have := HB.out.1; omega)] at this
      rw [← this]
      rfl
/-- The In has these bytes left, or is bad; only its own block has changed. -/
def Went (w : World) (q g c : Nat) (l : List Nat) (w' : World) : Prop := ∃ o' c', InIs w' q g o' c' l ∧ Touch (fun i => i = q) w w' ∧ c' ≤ c
theorem taken {w w' : World} {q g o c k : Nat} {l : List Nat} (h : InIs w q g o c l) (hk : k ≤ l.length) (ht : Touch (fun i => i = q) w w') : Bytes w' (some ⟨g, o, none⟩) k (l.take k) := by
  refine ⟨by simp; omega, fun b hb => h.2.1.2.1 b (List.mem_of_mem_take hb), fun hn => ⟨g, o, rfl, fun i hi => ?_⟩⟩
  obtain ⟨b, oo, e, hc⟩ := h.2.1.2.2 (by omega)
  cases e
  have := hc i (by omega)
  have e2 : (l.take k).getD i 0 = l.getD i 0 := by simp [List.getD, List.getElem?_take, hi]
  have hlt : g < w.heap.size := block_lt_of_cell this
  rw [e2, ← this]
  simp [World.cell?, ht.2.2.2.2 g hlt (Ne.symm h.2.2.2)]
theorem empty_bytes (w : World) : Bytes w none 0 [] := ⟨rfl, by simp, fun h => absurd h (by omega)⟩
theorem inN_good (w : World) (q g o c : Nat) (s : Int) (l : List Nat) (h : InIs w q g o c l) (h1 : 1 ≤ s) (h7 : s ≤ 7) (hs : s ≤ l.length) (hc : c ≤ 10000000) :
    Calls Tryz.prog 214 #[.pointer (some ⟨q, 0, none⟩), .int .i64 s] w fun e w' => e = .returned (.int .i64 (numOf (l.take s.toNat) : Nat)) ∧ Went w q g c (l.drop s.toNat) w' := by
  obtain ⟨k, rfl⟩ := Int.eq_ofNat_of_zero_le (show 0 ≤ s by omega)
  refine inN_loop w _ c k (l.take k) k true (some ⟨g, o, none⟩) _ (by simp; omega) (fun w' ⟨o', c', h1, h2, h3⟩ => taken h (by omega) h2) (by omega) ?_
  exact next_good w q g o c k l h (by omega) hc
/-- A copy of bytes, behind which R still holds. -/
theorem raw_any (w : World) (a : Option Addr) (c n : Nat) (l : List Nat) (s : Int) (A : Option Addr) (R : World → Prop) (hB : ∀ w', R w' → Bytes w' A n l) (hn : n ≤ 10000000)
    (hN : Calls Tryz.prog 243 #[.pointer a, .int .i64 s, .bool (decide (0 ≤ s))] w fun e w' => e = .returned (.slice A n c) ∧ R w') :
    Calls Tryz.prog 232 #[.pointer a, .int .i64 s] w fun e w' => ∃ w1, e = .returned (.slice (some ⟨w1.heap.size, 0, none⟩) n n) ∧ R w1 ∧ w' = w1.alloc (.cells (vals l).toArray 5) := by
  have HN := Lib.hid hN
  have HBR := Lib.hid hB
  clear hN hB
  by_cases h0 : 0 ≤ s
  · have hd : decide (0 ≤ s) = true := by simp [h0]
    rw [hd] at HN
    go_enter Tryz.func232, Tryz.ntmps232
    go_wp2_with (first | (go_at_call 243; refine HN.out.mono ?_; rintro e w2 ⟨rfl, hR⟩; have HR := Lib.hid hR; clear hR) | (go_at_call 184; refine (copied_any _ _ _ _ l (HBR.out _ HR.out) hn).mono ?_; rintro e w1 ⟨rfl, rfl⟩))
    go_ret
    exact ⟨w2, rfl, HR.out, rfl⟩
  · have hd : decide (0 ≤ s) = false := by simp [h0]
    rw [hd] at HN
    go_enter Tryz.func232, Tryz.ntmps232
    go_wp2_with (first | (go_at_call 243; refine HN.out.mono ?_; rintro e w2 ⟨rfl, hR⟩; have HR := Lib.hid hR; clear hR) | (go_at_call 184; refine (copied_any _ _ _ _ l (HBR.out _ HR.out) hn).mono ?_; rintro e w1 ⟨rfl, rfl⟩))
    go_ret
    exact ⟨w2, rfl, HR.out, rfl⟩
theorem InIs.alloc {w : World} {q g o c : Nat} {l : List Nat} (h : InIs w q g o c l) (hg : g < w.heap.size) (ob : Obj) : InIs (w.alloc ob) q g o c l :=
  h.kept (heap_alloc_old w ob h.facts.2.2.2) (heap_alloc_old w ob hg)
/-- What is read behind the call: new bytes. -/
def Gives (l : List Nat) (e : Ending) (w' : World) : Prop := ∃ g' , e = .returned (.slice (some ⟨g', 0, none⟩) l.length l.length) ∧ Bytes w' (some ⟨g', 0, none⟩) l.length l
theorem alloc_bytes (w : World) (l : List Nat) (hl : ∀ b ∈ l, b < 256) : Bytes (w.alloc (.cells (vals l).toArray 5)) (some ⟨w.heap.size, 0, none⟩) l.length l := by
  refine ⟨rfl, hl, fun _ => ⟨_, 0, rfl, fun i hi => ?_⟩⟩
  rw [Nat.zero_add, cell_of_row _ _ i _ 5 (0, 0) (heap_alloc_new w _)]
  simp [vals, List.getD, hi]
theorem inRaw_good (w : World) (q g o c : Nat) (s : Int) (l : List Nat) (h : InIs w q g o c l) (hgl : g < w.heap.size) (h0 : 0 ≤ s) (hs : s ≤ l.length) (hc : c ≤ 10000000) :
    Calls Tryz.prog 232 #[.pointer (some ⟨q, 0, none⟩), .int .i64 s] w fun e w' => Gives (l.take s.toNat) e w' ∧ Went w q g c (l.drop s.toNat) w' := by
  obtain ⟨k, rfl⟩ := Int.eq_ofNat_of_zero_le h0
  have hlk : (l.take k).length = k := by simp; omega
  have hcl := h.2.2.1
  refine (raw_any w _ c k (l.take k) k (some ⟨g, o, none⟩) (Went w q g c (l.drop k)) (fun w' ⟨o', c', h1, h2, h3⟩ => taken h (by omega) h2) (by omega) ?_).mono ?_
  · have hd : decide ((0 : Int) ≤ (k : Nat)) = true := by simp
    rw [hd]
    exact next_good w q g o c k l h (by omega) hc
  · rintro e w' ⟨w1, rfl, ⟨o', c', h1, h2, h3⟩, rfl⟩
    refine ⟨⟨_, by rw [Int.toNat_natCast, hlk], ?_⟩, o', c', h1.alloc (by have := h2.2.2.2.1; omega) _, h2.alloc _, h3⟩
    rw [Int.toNat_natCast]
    exact alloc_bytes w1 (l.take k) (fun b hb => h.2.1.2.1 b (List.mem_of_mem_take hb))
end Go.Proofs.YthhflkgngencdaaGreatDoor.codec
namespace Go.Proofs.YthhflkgngencdaaGreatDoor.codec
open Go.ChangeShapes Go.WideShapes Go.ChangeAt Go.RowKit
set_option linter.unusedVariables false
set_option maxRecDepth 100000
set_option linter.unusedSimpArgs false

/-- Bytes that the call made, somewhere. -/
def New (w : World) (l : List Nat) (v : Value) (w' : World) : Prop := ∃ g cap, v = .slice (some ⟨g, 0, none⟩) l.length cap ∧ w.heap.size ≤ g ∧ Below w.heap.size w w' ∧ Bytes w' (some ⟨g, 0, none⟩) l.length l
theorem own_bytes' {w : World} {B g k cap : Nat} {l : List Nat} (h : w.ownsRow B 5 1 (.slice (some ⟨g, 0, none⟩) k cap) l.length (vals l)) (hk : l.length = k) (hb : ∀ x ∈ l, x < 256) : Bytes w (some ⟨g, 0, none⟩) k l := by
  refine ⟨hk, hb, fun _ => ⟨g, 0, rfl, fun i hi => ?_⟩⟩
  have := h.cells (g := g) rfl i (.int .u8 (l.getD i 0 : Nat)) (by
    have hi' : i < l.length := by omega
    simp [vals, List.getD, hi'])
  rw [add_none] at this
  exact this
theorem all_lt {a b : List Nat} (ha : ∀ x ∈ a, x < 256) (hb : ∀ x ∈ b, x < 256) : ∀ x ∈ a ++ b, x < 256 := by
  intro x hx
  rcases List.mem_append.1 hx with h | h
  · exact ha x h
  · exact hb x h
theorem more_two {w w1 w2 w3 : World} {p : Nat} {l2 F F1 : List Nat} (t1 : Touch (fun k => k ∈ F) w w1) (s1 : ∀ k ∈ F1, k ∈ F ∨ w.heap.size ≤ k) (hb : Below w1.heap.size w1 w2) (h2 : More w2 p l2 F1 w3) : More w p l2 F w3 := by
  obtain ⟨F2, o2, t2, s2⟩ := h2
  refine ⟨F2, o2, ?_, fun k hk => ?_⟩
  · have t12 := t1.below hb
    exact t12.trans (t2.mono fun i _ h => s1 i h)
  · rcases s2 k hk with h | h
    · exact s1 k h
    · exact .inr (Nat.le_trans t1.2.2.2.1 (Nat.le_trans hb.size h))
theorem numOf_bytes (v n : Nat) (hv : v < 256 ^ n) : numOf (bytesOf v n) = v := by
  have key : ∀ k, k ≤ n → numOf ((bytesOf v n).take k) = v / 256 ^ (n - k) := by
    intro k
    induction k with
    | zero =>
      intro _
      simp [numOf, numFrom]
      exact (Nat.div_eq_of_lt hv).symm
    | succ k ih =>
      intro hk
      rw [numOf_take _ k (by simp [bytesOf]; omega), ih (by omega)]
      have e : (bytesOf v n).getD k 0 = byteAt v n k := by simp [bytesOf, List.getD, show k < n by omega]
      rw [e]
      unfold byteAt
      have e2 : n - k = (n - (k + 1)) + 1 := by omega
      have e3 : n - 1 - k = n - (k + 1) := by omega
      rw [e2, e3, Nat.pow_succ, ← Nat.div_div_eq_div_mul]
      omega
  have := key n (Nat.le_refl _)
  rw [List.take_of_length_le (by simp [bytesOf]), Nat.sub_self] at this
  simpa using this
end Go.Proofs.YthhflkgngencdaaGreatDoor.codec
namespace Go.Proofs.YthhflkgngencdaaGreatDoor.rd
open Go.ChangeShapes Go.WideShapes Go.ChangeAt Go.RowKit
open Go.Proofs.YthhflkgngencdaaGreatDoor.codec (Bytes vals vals_append vals_length vals_one bytesOf byteAt bytesOf_length bytesOf_lt strOf InIs BadIn numOf)
set_option linter.unusedVariables false
set_option maxRecDepth 100000
set_option linter.unusedSimpArgs false

/-- What the next k bytes are. -/
def got (k : Nat) : Option (List Nat) → List Nat
  | some l => if k ≤ l.length then l.take k else []
  | none => []
/-- What is left behind them. -/
def rest (k : Nat) : Option (List Nat) → Option (List Nat)
  | some l => if k ≤ l.length then some (l.drop k) else none
  | none => none
/-- An In at q over bytes at g, that has L left, or is bad; all else is as it was in W. -/
def Rd (W : World) (q g : Nat) (L : Option (List Nat)) (w : World) : Prop :=
  (match L with | some l => ∃ o c, InIs w q g o c l ∧ c ≤ 10000000 | none => BadIn w q) ∧ W.heap.size ≤ q ∧ q < w.heap.size ∧ g < w.heap.size ∧ Below W.heap.size W w
theorem Rd.bel {W w : World} {q g : Nat} {L : Option (List Nat)} (h : Rd W q g L w) : Below W.heap.size W w := h.2.2.2.2
theorem Rd.at_ {W w : World} {q g : Nat} {L : Option (List Nat)} (h : Rd W q g L w) : ∃ v b, w.heap[q]? = some (.cells #[v, .bool b] 327 (0, 0)) ∧ ∃ A n c, v = .slice A n c := by
  cases L with
  | none => exact ⟨_, _, h.1, _, _, _, rfl⟩
  | some l =>
    obtain ⟨⟨o, c, hi, -⟩, -⟩ := h
    exact ⟨_, _, hi.1, _, _, _, rfl⟩
theorem Rd.below {W w w' : World} {q g : Nat} {L : Option (List Nat)} (h : Rd W q g L w) (hb : Below w.heap.size w w') : Rd W q g L w' := by
  obtain ⟨h1, h2, h3, h4, h5⟩ := h
  refine ⟨?_, h2, Nat.lt_of_lt_of_le h3 hb.size, Nat.lt_of_lt_of_le h4 hb.size, h5.trans (hb.mono h5.size)⟩
  cases L with
  | none => exact (hb.block q h3).trans h1
  | some l =>
    obtain ⟨o, c, hi, hc⟩ := h1
    exact ⟨o, c, hi.kept (hb.block q h3) (hb.block g h4), hc⟩
theorem Rd.alloc {W w : World} {q g : Nat} {L : Option (List Nat)} (h : Rd W q g L w) (o : Obj) : Rd W q g L (w.alloc o) := h.below ((Below.refl _ _).alloc (Nat.le_refl _) _)
theorem Rd.drewN {W w : World} {q g : Nat} {L : Option (List Nat)} (h : Rd W q g L w) (n : Nat) : Rd W q g L (w.drewN n) := h.below (codec.below_draws (Below.refl _ _) n)
theorem rd_new (W : World) (A : Option Addr) (n c : Nat) (l : List Nat) (h : Bytes W A n l) (hn : n ≤ 10000000) :
    Calls Tryz.prog 230 #[.slice A n c] W fun e w' => ∃ q g, e = .returned (.pointer (some ⟨q, 0, none⟩)) ∧ Rd W q g (some l) w' :=
  (codec.newIn_any W A n c l h hn).mono fun _ w' ⟨he, hi, hb⟩ => ⟨_, _, he, ⟨_, _, hi, hn⟩, by omega, hi.facts.2.2.2, by have := hi.facts.2.2.2; omega, hb⟩
/-- Bytes that lie elsewhere stay. -/
theorem keep {W w w' : World} {q g a n : Nat} {L : Option (List Nat)} {o : Nat} {l : List Nat} (h : Rd W q g L w) (hB : Bytes w (some ⟨a, o, none⟩) n l) (ht : codec.Touch (fun i => i = q) w w') : Bytes w' (some ⟨a, o, none⟩) n l := by
  refine hB.touch (fun ad e hn hq => ?_) ht
  cases e
  obtain ⟨v, b, hv, A, k, c, rfl⟩ := h.at_
  obtain ⟨b', o', e, hc⟩ := hB.2.2 hn
  cases e
  have hc0 := hc 0 hn
  have hq' : a = q := hq
  subst hq'
  simp only [World.cell?, hv, Nat.add_zero] at hc0
  rcases o with _ | _ | o
  · simp at hc0
  · simp at hc0
  · simp at hc0
theorem rd_next {W w : World} {q g : Nat} {L : Option (List Nat)} (h : Rd W q g L w) (k : Nat) :
    ∃ A n c, n = (got k L).length ∧ n ≤ 10000000 ∧ (∀ w', Rd W q g (rest k L) w' ∧ codec.Touch (fun i => i = q) w w' → Bytes w' A n (got k L)) ∧
      Calls Tryz.prog 243 #[.pointer (some ⟨q, 0, none⟩), .int .i64 k, .bool true] w fun e w' => e = .returned (.slice A n c) ∧ Rd W q g (rest k L) w' ∧ codec.Touch (fun i => i = q) w w' := by
  obtain ⟨h1, h2, h3, h4, h5⟩ := h
  have hT : ∀ {w'}, codec.Touch (fun i => i = q) w w' → q < w'.heap.size ∧ g < w'.heap.size ∧ Below W.heap.size W w' := fun ht =>
    ⟨Nat.lt_of_lt_of_le h3 ht.2.2.2.1, Nat.lt_of_lt_of_le h4 ht.2.2.2.1, h5.trans (ht.toBelow _ h5.size (fun i hi e => by omega))⟩
  cases L with
  | none =>
    refine ⟨none, 0, 0, rfl, by omega, fun w' _ => codec.empty_bytes w', (codec.next_bad w q k true h1).mono ?_⟩
    rintro e w' ⟨rfl, rfl⟩
    exact ⟨rfl, ⟨h1, h2, h3, h4, h5⟩, codec.Touch.refl _ _⟩
  | some l =>
    obtain ⟨o, c, hi, hc⟩ := h1
    by_cases hk : k ≤ l.length
    · have hg : got k (some l) = l.take k := by simp [got, hk]
      have hr : rest k (some l) = some (l.drop k) := by simp [rest, hk]
      rw [hg, hr]
      have hcl := hi.2.2.1
      refine ⟨some ⟨g, o, none⟩, k, c, by simp; omega, by omega, fun w' hw => codec.taken hi hk hw.2, (codec.next_good w q g o c k l hi hk hc).mono ?_⟩
      rintro e w' ⟨rfl, o', c', hi', ht, hc'⟩
      obtain ⟨t1, t2, t3⟩ := hT ht
      exact ⟨rfl, ⟨⟨o', c', hi', by omega⟩, h2, t1, t2, t3⟩, ht⟩
    · have hg : got k (some l) = [] := by simp [got, hk]
      have hr : rest k (some l) = none := by simp [rest, hk]
      rw [hg, hr]
      refine ⟨none, 0, 0, rfl, by omega, fun w' _ => codec.empty_bytes w', (codec.next_fails w q g o c k true l hi (fun _ => by omega)).mono ?_⟩
      rintro e w' ⟨rfl, hb, ht⟩
      obtain ⟨t1, t2, t3⟩ := hT ht
      exact ⟨rfl, ⟨hb, h2, t1, t2, t3⟩, ht⟩
theorem rd_N {W w : World} {q g : Nat} {L : Option (List Nat)} (h : Rd W q g L w) (s : Nat) (h1 : 1 ≤ s) (h7 : s ≤ 7) :
    Calls Tryz.prog 214 #[.pointer (some ⟨q, 0, none⟩), .int .i64 s] w fun e w' => e = .returned (.int .i64 (numOf (got s L) : Nat)) ∧ Rd W q g (rest s L) w' ∧ codec.Touch (fun i => i = q) w w' := by
  obtain ⟨A, n, c, hn, hn2, hB, hC⟩ := rd_next h s
  refine codec.inN_loop w _ c n (got s L) s true A _ (by simp; omega) hB ?_ hC
  rw [hn]
  cases L with
  | none => simp [got]
  | some l =>
    simp only [got]
    split
    · simp; omega
    · simp
theorem rd_Raw {W w : World} {q g : Nat} {L : Option (List Nat)} (h : Rd W q g L w) (s : Nat) (hl : ∀ l, L = some l → ∀ b ∈ l, b < 256) :
    Calls Tryz.prog 232 #[.pointer (some ⟨q, 0, none⟩), .int .i64 s] w fun e w' => ∃ g' m, m = (got s L).length ∧ e = .returned (.slice (some ⟨g', 0, none⟩) m m) ∧ w.heap.size ≤ g' ∧ Bytes w' (some ⟨g', 0, none⟩) m (got s L) ∧ Rd W q g (rest s L) w' ∧ codec.Touch (fun i => i = q) w w' := by
  obtain ⟨A, n, c, hn, hn2, hB, hC⟩ := rd_next h s
  refine (codec.raw_any w _ c n (got s L) s A _ hB hn2 (by rw [show decide ((0 : Int) ≤ (s : Nat)) = true by simp]; exact hC)).mono ?_
  rintro e w' ⟨w1, rfl, ⟨hR, ht⟩, rfl⟩
  have hsm : ∀ b ∈ got s L, b < 256 := by
    intro b hb
    cases L with
    | none => simp [got] at hb
    | some l =>
      simp only [got] at hb
      split at hb
      · exact hl l rfl b (List.mem_of_mem_take hb)
      · simp at hb
  refine ⟨_, n, hn, rfl, ht.2.2.2.1, ?_, hR.alloc _, ht.alloc _⟩
  rw [hn]
  exact codec.alloc_bytes w1 _ hsm
set_option maxHeartbeats 400000 in
theorem rd_Done {W w : World} {q g : Nat} {L : Option (List Nat)} (h : Rd W q g L w) :
    Calls Tryz.prog 216 #[.pointer (some ⟨q, 0, none⟩)] w fun e w' => e = .returned (.bool (decide (L = some []))) ∧ w = w' := by
  cases L with
  | none =>
    obtain ⟨h0, h1, hlt⟩ := h.1.facts
    clear h
    go_enter Tryz.func216, Tryz.ntmps216
    go_wp2_with fail
    go_ret
    exact ⟨rfl, rfl⟩
  | some l =>
    obtain ⟨o, c, hi, hc⟩ := h.1
    obtain ⟨h0, h1, hf, hlt⟩ := hi.facts
    clear h hi
    by_cases hn : l.length = 0
    · obtain rfl := List.eq_nil_of_length_eq_zero hn
      have hd : decide (some ([] : List Nat) = some []) = true := by simp
      rw [hd]
      simp at h0
      go_enter Tryz.func216, Tryz.ntmps216
      go_wp2_with fail
      go_ret
      exact ⟨rfl, rfl⟩
    · have hd : decide (some l = some []) = false := by
        cases l with
        | nil => simp at hn
        | cons a b => simp
      rw [hd]
      generalize l.length = m at *
      have hmz : ((m : Int) == 0) = false := by simp; omega
      go_enter Tryz.func216, Tryz.ntmps216
      go_wp2_with fail
      go_ret
      exact ⟨rfl, rfl⟩
/-- What is left is bytes. -/
theorem rest_lt {L : Option (List Nat)} (k : Nat) (hl : ∀ l, L = some l → ∀ b ∈ l, b < 256) : ∀ l, rest k L = some l → ∀ b ∈ l, b < 256 := by
  intro l hr b hb
  cases L with
  | none => simp [rest] at hr
  | some m =>
    simp only [rest] at hr
    split at hr
    · cases hr
      exact hl m rfl b (List.mem_of_mem_drop hb)
    · simp at hr
theorem str_ne {T S : ByteArray} (h : T ≠ S) : (T.toList == S.data.toList) = false := by
  rw [beq_eq_false_iff_ne, ByteArray.toList_eq]
  intro e
  apply h
  obtain ⟨⟨t⟩⟩ := T
  obtain ⟨⟨u⟩⟩ := S
  simp at e
  rw [e]
theorem bytes_take {w : World} {A : Option Addr} {n : Nat} {l : List Nat} (h : Bytes w A n l) (k : Nat) (hk : k ≤ n) : Bytes w A k (l.take k) := by
  refine ⟨by rw [List.length_take, h.1]; omega, fun b hb => h.2.1 b (List.mem_of_mem_take hb), fun h0 => ?_⟩
  obtain ⟨b, o, rfl, hc⟩ := h.2.2 (by omega)
  refine ⟨b, o, rfl, fun i hi => ?_⟩
  rw [hc i (by omega)]
  simp [List.getD, hi]
theorem bytes_drop {w : World} {b o : Nat} {n : Nat} {l : List Nat} (h : Bytes w (some ⟨b, o, none⟩) n l) (k : Nat) (hk : k < n) : Bytes w (some ⟨b, o + k, none⟩) (n - k) (l.drop k) := by
  refine ⟨by rw [List.length_drop, h.1], fun x hx => h.2.1 x (List.mem_of_mem_drop hx), fun h0 => ?_⟩
  obtain ⟨b, o, e, hc⟩ := h.2.2 (by omega)
  cases e
  refine ⟨_, _, rfl, fun i hi => ?_⟩
  rw [Nat.add_assoc, hc (k + i) (by omega)]
  simp [List.getD]
end Go.Proofs.YthhflkgngencdaaGreatDoor.rd
namespace Go.Proofs.YthhflkgngencdaaGreatDoor.codec
open Go.ChangeShapes Go.WideShapes Go.ChangeAt Go.RowKit
set_option linter.unusedVariables false
set_option maxRecDepth 100000
set_option linter.unusedSimpArgs false

theorem str_bytes (w : World) (l : List Nat) (hl : ∀ x ∈ l, x < 256) : Bytes (Lib.bytesWorld w 5 (strOf l)) (some ⟨w.heap.size, 0, none⟩) l.length l ∧ Below w.heap.size w (Lib.bytesWorld w 5 (strOf l)) := by
  refine ⟨⟨rfl, hl, fun _ => ⟨_, 0, rfl, fun i hi => ?_⟩⟩, rfl, rfl, rfl, by rw [Lib.bytesWorld_size]; omega, fun k hk => Lib.bytesWorld_at_old w 5 _ k hk⟩
  rw [Nat.zero_add, Lib.bytesWorld_cell w 5 _ i (by rw [strOf_size]; exact hi)]
  have hx := hl (l.getD i 0) (by simp [List.getD, hi])
  simp [strOf, List.getD, hi] at hx ⊢
  omega
set_option maxHeartbeats 1000000 in
theorem outText_good (w : World) (p : Nat) (M F l : List Nat) (h : OutIs w p M F) (hM : M.length ≤ 5000000) (hl : ∀ x ∈ l, x < 256) (hn : l.length ≤ 65535) :
    Calls Tryz.prog 93 #[.pointer (some ⟨p, 0, none⟩), .string (strOf l)] w fun e w' => e = .returned (.tuple #[]) ∧ More w p (M ++ (bytesOf l.length 2 ++ l)) F w' := by
  have HN := Lib.hid (outN_good w p M F (l.length : Nat) 2 h (by omega) ⟨by decide, by decide, by omega, by simp; omega⟩)
  have hcv := fun w' => Lib.run_convert_string_bytes (P := Tryz.prog) w' 9 40 5 (strOf l) Tryz.underlying9 Tryz.underlying40 Tryz.underlying5
  have hsz := strOf_size l
  have HL := Lib.hid hl
  generalize hs : strOf l = s at *
  have HS := Lib.hid hs
  clear h hl hs
  go_enter Tryz.func93, Tryz.ntmps93
  go_wp2_with fail
  refine HN.out.mono ?_
  rintro e w1 ⟨rfl, hm⟩
  rw [Int.toNat_natCast, show Int.toNat 2 = 2 from rfl] at hm
  obtain ⟨F1, o1, t1, s1⟩ := hm
  have HG := Lib.hid o1.good
  have HT1 := Lib.hid (And.intro t1 s1)
  have HSB := Lib.hid (str_bytes w1 l HL.out)
  rw [HS.out] at HSB
  have HP := Lib.hid (fun (F1 : List Nat) (c : Nat) (h : OutIs (Lib.bytesWorld w1 5 s) p (M ++ bytesOf l.length 2) F1) (hk : ∀ k ∈ F1, k < w1.heap.size) => put_any (Lib.bytesWorld w1 5 s) p _ F1 (some ⟨w1.heap.size, 0, none⟩) l.length c l h HSB.out.1 (by simp [bytesOf]; omega) (fun e => by cases e) (fun ad e _ hF => by cases e; exact absurd (hk _ hF) (Nat.lt_irrefl _)))
  have HF1 := Lib.hid (And.intro (o1.below HSB.out.2) o1.lt)
  clear o1 t1 s1
  go_wp2_with (first | (go_at_call 137; refine (takes_true _ _ HG.out).mono ?_; rintro e w2 ⟨rfl, rfl⟩) | (go_at_call 139; refine (HP.out F1 _ HF1.out.1 HF1.out.2).mono ?_; rintro e w3 ⟨rfl, hm3⟩; have HM3 := Lib.hid hm3; clear hm3))
  go_end0
  refine ⟨rfl, ?_⟩
  have hm3 := HM3.out
  rw [List.append_assoc] at hm3
  exact more_two HT1.out.1 HT1.out.2 HSB.out.2 hm3
end Go.Proofs.YthhflkgngencdaaGreatDoor.codec
namespace Go.Proofs.YthhflkgngencdaaGreatDoor.rd
open Go.ChangeShapes Go.WideShapes Go.ChangeAt Go.RowKit
open Go.Proofs.YthhflkgngencdaaGreatDoor.codec (Bytes vals bytesOf strOf InIs BadIn numOf)
set_option maxRecDepth 100000

theorem rd_Text {W w : World} {q g : Nat} {L : Option (List Nat)} (h : Rd W q g L w) :
    Calls Tryz.prog 231 #[.pointer (some ⟨q, 0, none⟩)] w fun e w' => e = .returned (.string (strOf (got (numOf (got 2 L)) (rest 2 L)))) ∧ Rd W q g (rest (numOf (got 2 L)) (rest 2 L)) w' ∧ ∃ w1, codec.Touch (fun i => i = q) w w1 ∧ codec.Touch (fun i => i = q) w1 w' := by
  have HN := Lib.hid (rd_N h 2 (by decide) (by decide))
  have hnx := fun w1 (h1 : Rd W q g (rest 2 L) w1) => rd_next h1 (numOf (got 2 L))
  have hcv := fun (A : Option Addr) (n c : Nat) (l : List Nat) (w' : World) (hB : Bytes w' A n l) => hB.text c
  generalize numOf (got 2 L) = k at *
  generalize rest 2 L = L1 at *
  generalize got k L1 = S at *
  generalize rest k L1 = L2 at *
  have HX := Lib.hid hnx; have HC := Lib.hid hcv
  clear h hnx hcv
  go_enter Tryz.func231, Tryz.ntmps231
  go_wp2_with (go_at_call 214; refine HN.out.mono ?_; rintro e w1 ⟨rfl, hR1, ht1⟩; have HR1 := Lib.hid hR1; have HT1 := Lib.hid ht1; clear hR1 ht1)
  obtain ⟨A, n, c, hn, hn2, hB, hC⟩ := HX.out w1 HR1.out
  refine hC.mono ?_
  rintro e w2 ⟨rfl, hR2⟩
  have hcv := HC.out A n c S w2 (hB w2 hR2)
  have HR2 := Lib.hid hR2
  clear hC hR2 hB hn hn2
  go_wp2
  go_ret
  exact ⟨rfl, HR2.out.1, w1, HT1.out, HR2.out.2⟩
def leftN : Option (List Nat) → Nat
  | some l => l.length
  | none => 0
theorem rd_Left {W w : World} {q g : Nat} {L : Option (List Nat)} (h : Rd W q g L w) :
    Calls Tryz.prog 233 #[.pointer (some ⟨q, 0, none⟩)] w fun e w' => e = .returned (.int .i64 (leftN L : Nat)) ∧ w = w' := by
  cases L with
  | none =>
    obtain ⟨h0, h1, hlt⟩ := h.1.facts
    clear h
    go_enter Tryz.func233, Tryz.ntmps233
    go_wp2
    go_ret
    exact ⟨rfl, rfl⟩
  | some l =>
    obtain ⟨o, c, hi, hc⟩ := h.1
    obtain ⟨h0, h1, hf, hlt⟩ := hi.facts
    clear h hi
    go_enter Tryz.func233, Tryz.ntmps233
    go_wp2
    go_ret
    exact ⟨rfl, rfl⟩
end Go.Proofs.YthhflkgngencdaaGreatDoor.rd
namespace Go.Proofs.YthhflkgngencdaaGreatDoor.nam
open Go.Lib

/-- Byte i of s. -/
def byt (s : ByteArray) (i : Nat) : Nat := (s.data[i]!).toNat
theorem byt_at (s : ByteArray) (i : Nat) (h : i < s.size) : (s[i]'h).toNat = byt s i := by
  unfold byt
  rw [getElem!_pos s.data i (by simpa using h)]; rfl
theorem byt_list (s : ByteArray) (i : Nat) (h : i < s.size) : ∃ h', (s.data.toList[i]'h').toNat = byt s i := by
  have h' : i < s.data.toList.length := by rw [← size_eq]; exact h
  refine ⟨h', ?_⟩
  unfold byt
  rw [getElem!_pos s.data i (by simpa using h)]
  simp
theorem byt_some (s : ByteArray) (i : Nat) (h : i < s.size) : ∃ c : UInt8, s.data.toList[i]? = some c ∧ c.toNat = byt s i := by
  obtain ⟨h', e⟩ := byt_list s i h
  exact ⟨_, List.getElem?_eq_getElem h', e⟩

/-- May the byte stand in a part of a name? -/
def nameB (c : Nat) : Bool := decide (c = 46 ∨ c = 95 ∨ c = 45 ∨ (97 ≤ c ∧ c ≤ 122) ∨ (65 ≤ c ∧ c ≤ 90) ∨ (48 ≤ c ∧ c ≤ 57))
/-- Is it a part? -/
def partL (l : List UInt8) : Bool := !l.isEmpty && l.all fun c => nameB c.toNat
/-- The parts of what comes, each ends in a stroke or with it; `p`: a stroke stands ahead. -/
def runL : Bool → List UInt8 → Option Bool
  | p, [] => some p
  | p, c :: r => if c.toNat = 47 then (if p then none else runL true r) else if nameB c.toNat then runL false r else none
theorem runL_append : ∀ (p : Bool) (a b : List UInt8), runL p (a ++ b) = (runL p a).bind fun q => runL q b
  | p, [], b => by simp [runL]
  | p, c :: r, b => by
    simp only [List.cons_append, runL]
    split
    · split
      · rfl
      · exact runL_append true r b
    · split
      · exact runL_append false r b
      · rfl
theorem runL_plain (p : Bool) : ∀ (a : List UInt8), (∀ c ∈ a, c.toNat ≠ 47) → runL p a = if a.all (fun c => nameB c.toNat) then some (a.isEmpty && p) else none
  | [], _ => by simp [runL]
  | c :: r, h => by
    have hc : c.toNat ≠ 47 := h c (by simp)
    have ih := runL_plain false r fun x hx => h x (by simp [hx])
    simp only [runL, if_neg hc, List.all_cons]
    by_cases hn : nameB c.toNat = true
    · simp [hn, ih]
    · simp [hn]
def goodL (l : List UInt8) : Bool := runL true l == some false

theorem partL_plain (a : List UInt8) (h : ∀ c ∈ a, c.toNat ≠ 47) : partL a = (runL true a == some false) := by
  rw [runL_plain true a h]
  unfold partL
  cases a.all (fun c => nameB c.toNat) <;> cases a <;> simp
theorem partL_false (a : List UInt8) (c : UInt8) (hc : c ∈ a) (hn : nameB c.toNat = false) : partL a = false := by
  unfold partL
  have : (a.all fun c => nameB c.toNat) = false := by
    rw [List.all_eq_false]
    exact ⟨c, hc, by simp [hn]⟩
  rw [this, Bool.and_false]

theorem split_good : ∀ (k : Nat) (s : List UInt8), count s [47] = k → (splitK [47] 0 k s).all partL = goodL s
  | 0, s, h => by
    have hi : index s [47] = -1 := by
      rcases Int.lt_or_eq_of_le (index_ge s [47]) with h1 | h1
      · obtain ⟨i, hi⟩ := Int.eq_ofNat_of_zero_le (show 0 ≤ index s [47] by omega)
        have := count_hit (s := s) (sub := [47]) (by simp) hi
        omega
      · exact h1.symm
    rw [index_one] at hi
    have hn : ∀ c ∈ s, c.toNat ≠ 47 := fun c hc e => by
      obtain ⟨k, hk⟩ := List.mem_iff_getElem?.1 hc
      refine indexByte_none hi k ?_
      rw [hk]
      exact congrArg some (UInt8.toNat_inj.1 (by simpa using e))
    simp only [splitK, List.all_cons, List.all_nil, Bool.and_true]
    rw [partL_plain s hn]
    rfl
  | k + 1, s, h => by
    have hm : index s [47] ≠ -1 := fun e => by rw [count_miss e] at h; omega
    have hge := index_ge s [47]
    obtain ⟨i, hi⟩ := Int.eq_ofNat_of_zero_le (show 0 ≤ index s [47] by omega)
    have hc := count_hit (s := s) (sub := [47]) (by simp) hi
    have hi' := hi
    rw [index_one] at hi'
    obtain ⟨h1, h2⟩ := indexByte_some hi'
    have hlt : i < s.length := (List.getElem?_eq_some_iff.1 h1).1
    have hge' : ¬ (index s [47] == -1) = true := by simpa using hm
    have et : (index s [47]).toNat = i := by omega
    rw [splitK, if_neg hge', et]
    simp only [Nat.add_zero, List.length_cons, List.length_nil, Nat.zero_add, List.all_cons]
    simp only [List.length_cons, List.length_nil, Nat.zero_add] at hc
    rw [split_good k (s.drop (i + 1)) (by omega)]
    have hn : ∀ c ∈ s.take i, c.toNat ≠ 47 := fun c hc e => by
      obtain ⟨k, hk⟩ := List.mem_iff_getElem?.1 hc
      have hkl : k < i := by
        have := (List.getElem?_eq_some_iff.1 hk).1
        rw [List.length_take] at this
        omega
      rw [List.getElem?_take, if_pos hkl] at hk
      refine h2 k hkl ?_
      rw [hk]
      exact congrArg some (UInt8.toNat_inj.1 (by simpa using e))
    have e1 : s = s.take i ++ 47 :: s.drop (i + 1) := by
      have : s[i] = 47 := by
        have := List.getElem?_eq_some_iff.1 h1
        exact this.2
      rw [← this, List.getElem_cons_drop, List.take_append_drop]
    unfold goodL
    rw [partL_plain _ hn]
    conv => rhs; rw [e1, runL_append]
    cases hr : runL true (s.take i) with
    | none => simp
    | some q => cases q <;> simp [runL]

theorem split_goodB (s : ByteArray) : (splitB ⟨#[47]⟩ 0 (countB s ⟨#[47]⟩) s).all (fun t => partL t.data.toList) = goodL s.data.toList := by
  have h := split_good _ s.data.toList rfl
  have e := splitB_data ⟨#[47]⟩ 0 (countB s ⟨#[47]⟩) s
  have e2 : (splitB ⟨#[47]⟩ 0 (countB s ⟨#[47]⟩) s).all (fun t => partL t.data.toList) = ((splitB ⟨#[47]⟩ 0 (countB s ⟨#[47]⟩) s).map (·.data.toList)).all partL := by
    rw [List.all_map]; rfl
  rw [e2, e]
  exact h

theorem splitB_size (sep : ByteArray) : ∀ (k : Nat) (s : ByteArray), ∀ t ∈ splitB sep 0 k s, t.size ≤ s.size
  | 0, s, t, h => by
    rw [splitB_zero] at h
    simp at h
    subst h
    exact Nat.le_refl _
  | k + 1, s, t, h => by
    unfold splitB at h
    split at h
    · simp at h
      subst h
      exact Nat.le_refl _
    · rcases List.mem_cons.1 h with rfl | h
      · rw [ByteArray.size_extract]; omega
      · have := splitB_size sep k _ t h
        rw [ByteArray.size_extract] at this
        omega

/-- A small letter for a great one. -/
def low (c : Nat) : Nat := if 65 ≤ c ∧ c ≤ 90 then c + 32 else c
def alike (s t : ByteArray) : Bool := decide (s.size = t.size) && (List.range s.size).all fun i => low (byt s i) == low (byt t i)
theorem alike_true (s t : ByteArray) (h : s.size = t.size) (he : ∀ i, i < s.size → (low (byt s i) == low (byt t i)) = true) : alike s t = true := by
  unfold alike
  simp only [h, decide_true, Bool.true_and, List.all_eq_true, List.mem_range]
  intro i hi
  exact he i (by omega)
def inbox : ByteArray := ⟨#[105, 110, 98, 111, 120]⟩
def INBOX : ByteArray := ⟨#[73, 78, 66, 79, 88]⟩
theorem fold_low (x y : UInt8) : foldEq x y = (low x.toNat == low y.toNat) := by
  have hx := UInt8.toNat_lt x
  have hy := UInt8.toNat_lt y
  rw [Bool.eq_iff_iff]
  unfold foldEq low
  simp only [decide_eq_true_eq, beq_iff_eq]
  split <;> split <;> omega
theorem equalFold_map : ∀ (s t : List UInt8), equalFold s t = (s.map (fun c => low c.toNat) == t.map (fun c => low c.toNat))
  | [], [] => rfl
  | [], _ :: _ => rfl
  | _ :: _, [] => rfl
  | x :: s, y :: t => by
    rw [equalFold, equalFold_map s t, fold_low]
    simp
theorem alike_map (s t : ByteArray) : alike s t = (s.data.toList.map (fun c => low c.toNat) == t.data.toList.map (fun c => low c.toNat)) := by
  have hs := size_eq s
  have ht := size_eq t
  rw [Bool.eq_iff_iff]
  unfold alike
  simp only [Bool.and_eq_true, decide_eq_true_eq, List.all_eq_true, List.mem_range, beq_iff_eq]
  constructor
  · rintro ⟨h1, h2⟩
    apply List.ext_getElem
    · simp only [List.length_map]; omega
    · intro i hi hi'
      simp only [List.length_map] at hi hi'
      have h3 := h2 i (by omega)
      obtain ⟨a, ea⟩ := byt_list s i (by omega)
      obtain ⟨b, eb⟩ := byt_list t i (by omega)
      simp only [List.getElem_map, ea, eb]
      exact h3
  · intro h
    have hl : s.size = t.size := by
      have := congrArg List.length h
      simp only [List.length_map] at this
      omega
    refine ⟨hl, fun i hi => ?_⟩
    obtain ⟨a, ea⟩ := byt_list s i hi
    obtain ⟨b, eb⟩ := byt_list t i (by omega)
    have := congrArg (fun l : List Nat => l[i]?) h
    simp only [List.getElem?_map, List.getElem?_eq_getElem a, List.getElem?_eq_getElem b, Option.map_some, Option.some.injEq, ea, eb] at this
    exact this
theorem fold_inbox (s : ByteArray) : equalFold s.data.toList INBOX.data.toList = alike s inbox := by
  rw [equalFold_map, alike_map]
  have : INBOX.data.toList.map (fun c => low c.toNat) = inbox.data.toList.map (fun c => low c.toNat) := by decide
  rw [this]

/-- Is it a name? -/
def normOk (s : ByteArray) : Bool := decide (s.size ≤ 60) && goodL s.data.toList
def normS (s : ByteArray) : ByteArray := if normOk s then (if alike s inbox then INBOX else s) else ⟨#[]⟩
theorem goodL_ascii (l : List UInt8) (p : Bool) (h : runL p l ≠ none) : ∀ c ∈ l, c.toNat < 128 := by
  induction l generalizing p with
  | nil => simp
  | cons c r ih =>
    intro x hx
    simp only [runL] at h
    rcases List.mem_cons.1 hx with rfl | hx'
    · by_cases h1 : x.toNat = 47
      · omega
      · rw [if_neg h1] at h
        cases hn : nameB x.toNat
        · rw [hn] at h; simp at h
        · unfold nameB at hn
          simp only [decide_eq_true_eq] at hn
          omega
    · by_cases h1 : c.toNat = 47
      · rw [if_pos h1] at h
        cases p
        · exact ih true (by simpa using h) x hx'
        · simp at h
      · rw [if_neg h1] at h
        cases hn : nameB c.toNat
        · rw [hn] at h; simp at h
        · rw [hn] at h
          exact ih false (by simpa using h) x hx'
theorem normOk_ascii (s : ByteArray) (h : normOk s = true) : ∀ (j : Nat) b, s.data.toList[j]? = some b → b.toNat < 128 := by
  intro j b hb
  unfold normOk goodL at h
  simp only [Bool.and_eq_true, beq_iff_eq] at h
  exact goodL_ascii _ true (by rw [h.2]; simp) b (List.mem_of_getElem? hb)
theorem INBOX_ascii : ∀ (j : Nat) b, INBOX.data.toList[j]? = some b → b.toNat < 128 := by
  intro j b hb
  have : ∀ c ∈ INBOX.data.toList, c.toNat < 128 := by decide
  exact this b (List.mem_of_getElem? hb)
/-! ### One byte more -/
theorem part_bad (s : ByteArray) (k : Nat) (h : k < s.size) (hn : nameB (byt s k) = false) : partL s.data.toList = false := by
  obtain ⟨c, hc, e⟩ := byt_some s k h
  exact partL_false _ c (List.mem_of_getElem? hc) (by rw [e]; exact hn)
theorem part_end (s : ByteArray) (h : ∀ k, k < s.size → nameB (byt s k) = true) : partL s.data.toList = decide (s.size ≠ 0) := by
  have hall : (s.data.toList.all fun c => nameB c.toNat) = true := by
    rw [List.all_eq_true]
    intro c hc
    obtain ⟨k, hk⟩ := List.mem_iff_getElem?.1 hc
    have hlt : k < s.size := by rw [size_eq]; exact (List.getElem?_eq_some_iff.1 hk).1
    obtain ⟨c', hc', e⟩ := byt_some s k hlt
    rw [hk] at hc'
    cases hc'
    rw [e]
    exact h k hlt
  unfold partL
  rw [hall, Bool.and_true, size_eq]
  cases s.data.toList <;> simp

/-! ### What stands ahead of the last stroke -/
end Go.Proofs.YthhflkgngencdaaGreatDoor.nam
