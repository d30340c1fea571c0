/- What the document says of numbers and texts, and how an Out takes a text. -/
import Derived.Test.YtcmgekimogecaaaE
import Derived.Lib.AppendStr
namespace Go.Proofs.Ytcmgekimogecaaa.codec
open Go.ChangeShapes Go.WideShapes Go.ChangeAt Go.RowKit
set_option linter.unusedVariables false
set_option linter.unusedSimpArgs false

def bytesTo (v n k j : Nat) : Nat := if n ≤ j + k ∧ j < n then byteAt v n j else 0
theorem bytesTo_all (v n i : Nat) (h : i < n) : bytesTo v n n i = byteAt v n i := by
  unfold bytesTo
  rw [if_pos (by omega)]
theorem bytes_step {wr : World} {g t v n k m : Nat} {x : Int} (hm : m + k + 1 = n) (hk : k < n) (hx : x = (byteAt v n m : Nat)) (h : wr.rowIs g t n (fun j => .int .u8 (bytesTo v n k j : Nat))) :
    (wr.setCell ⟨g, m, none⟩ (.int .u8 x)).rowIs g t n (fun j => .int .u8 (bytesTo v n (k + 1) j : Nat)) := by
  refine (h.set _ _).congr fun j hj => ?_
  by_cases e : j = m
  · subst e
    simp only [if_true, hx, bytesTo]
    rw [if_pos (by omega)]
  · simp only [if_neg e, bytesTo]
    have : (n ≤ j + (k + 1) ∧ j < n) ↔ (n ≤ j + k ∧ j < n) := by omega
    simp only [this]
set_option maxHeartbeats 1000000 in
theorem refBytes_any (w : World) (v n : Nat) (hv : v < 18446744073709551616) (h1 : 1 ≤ n) (hn : n ≤ 100) :
    Calls Try.prog 9 #[.int .u64 v, .int .i64 n] w fun e w' => e = .returned (.slice (some ⟨w.heap.size, 0, none⟩) n n) ∧ w'.rowIs w.heap.size 5 n (fun j => .int .u8 (byteAt v n j : Nat)) ∧ Below w.heap.size w w' := by
  have hmk := run_make_row' (P := Try.prog) 28 5 (.int .u8 0) 1 Try.underlying28 info5 rfl .i64 .i64 n (by omega) (by omega)
  go_enter Try.func9, Try.ntmps9
  go_wp2
  go_loopw [0, 6] (fun x i wr => ∃ k : Nat, k ≤ n ∧ i = .int .i64 ((n : Int) - 1 - (k : Int)) ∧ x = .int .u64 (v / 256 ^ k : Nat) ∧ wr.rowIs w.heap.size 5 n (fun j => .int .u8 (bytesTo v n k j : Nat)) ∧ Below w.heap.size w wr) (fun _ i _ => (intOf i + 1).toNat)
  case atStart =>
    refine ⟨0, by omega, by simp, by simp, (World.rowIs_made w (.int .u8 0) n 5).congr (fun i hi => ?_), (Below.refl _ _).alloc (Nat.le_refl _) _⟩
    unfold bytesTo
    rw [if_neg (by omega)]
    rfl
  case round =>
    obtain ⟨k, hk, rfl, rfl, hr, hbel⟩ := hrel
    by_cases hlt : k < n
    · obtain ⟨j, hj⟩ : ∃ j, j + k + 1 = n := ⟨n - 1 - k, by omega⟩
      have ej : ((n : Int) - 1 - (k : Int)) = (j : Nat) := by omega
      have hc := hr.cell (i := j) (by omega)
      have hf := hr.frozen j
      have HR := Lib.hid hr
      have HBel := Lib.hid hbel
      have HV : Hid (v / 256 ^ (k + 1) = v / 256 ^ k / 256) := by rw [Nat.pow_succ, ← Nat.div_div_eq_div_mul]; exact rfl
      have hX : v / 256 ^ k < 18446744073709551616 := Nat.lt_of_le_of_lt (Nat.div_le_self _ _) hv
      have HX : Hid (byteAt v n j = v / 256 ^ k % 256) := by unfold byteAt; rw [show n - 1 - j = k by omega]; exact rfl
      have HJ := Lib.hid ej
      rw [ej]
      clear hr hbel ej
      generalize v / 256 ^ k = X at *
      go_wp2
      go_roundw
      case rel => exact ⟨k + 1, by omega, by congr 1; have := HJ.out; omega, by rw [HV.out]; simp, bytes_step (by omega) (by omega) (by rw [HX.out]; simp) HR.out, HBel.out.setCell (Nat.le_refl _) _⟩
      case measure => simp [intOf]
    · obtain rfl : k = n := by omega
      have HR := Lib.hid (hr.congr (g := fun j => .int .u8 (byteAt v k j : Nat)) (fun i hi => by rw [bytesTo_all v k i hi]))
      have HBel := Lib.hid hbel
      have ej : ((k : Int) - 1 - (k : Int)) = -1 := by omega
      rw [ej]
      clear hr hbel ej
      go_wp2
      go_ret
      exact ⟨rfl, HR.out, HBel.out⟩
theorem strCells_of (l : List Nat) (h : ∀ x ∈ l, x < 256) : Lib.strCells (strOf l) = vals l := by
  unfold Lib.strCells strOf vals
  simp only [List.toList_toArray, List.map_map]
  refine List.map_congr_left fun x hx => ?_
  simp [Nat.mod_eq_of_lt (h x hx)]
theorem row_owns {w : World} {g n : Nat} {v : Nat} (B : Nat) (hB : B ≤ g) (hn : n ≤ maxLen) (h : w.rowIs g 5 n (fun j => .int .u8 (byteAt v n j : Nat))) : w.ownsRow B 5 1 (.slice (some ⟨g, 0, none⟩) n n) n (vals (bytesOf v n)) := by
  obtain ⟨c, h1, h2, h3⟩ := h
  refine ⟨by simp [vals, bytesOf], .inr ⟨g, n, c, rfl, hB, h1, Nat.le_refl _, hn, by omega, ?_⟩⟩
  refine List.ext_getElem? fun i => ?_
  by_cases hi : i < n
  · rw [List.getElem?_take, if_pos (by omega)]
    have := h3 i hi
    simp [vals, bytesOf, hi]
    simpa using this
  · rw [List.getElem?_eq_none (by simp; omega), List.getElem?_eq_none (by simp [vals, bytesOf]; omega)]
/-- Bytes that the call made, somewhere. -/
def New (w : World) (l : List Nat) (v : Value) (w' : World) : Prop := ∃ g cap, v = .slice (some ⟨g, 0, none⟩) l.length cap ∧ w.heap.size ≤ g ∧ Below w.heap.size w w' ∧ Bytes w' (some ⟨g, 0, none⟩) l.length l
theorem own_bytes' {w : World} {B g k cap : Nat} {l : List Nat} (h : w.ownsRow B 5 1 (.slice (some ⟨g, 0, none⟩) k cap) l.length (vals l)) (hk : l.length = k) (hb : ∀ x ∈ l, x < 256) : Bytes w (some ⟨g, 0, none⟩) k l := by
  refine ⟨hk, hb, fun _ => ⟨g, 0, rfl, fun i hi => ?_⟩⟩
  have := h.cells (g := g) rfl i (.int .u8 (l.getD i 0 : Nat)) (by
    have hi' : i < l.length := by omega
    simp [vals, List.getD, hi'])
  rw [add_none] at this
  exact this
theorem all_lt {a b : List Nat} (ha : ∀ x ∈ a, x < 256) (hb : ∀ x ∈ b, x < 256) : ∀ x ∈ a ++ b, x < 256 := by
  intro x hx
  rcases List.mem_append.1 hx with h | h
  · exact ha x h
  · exact hb x h
theorem text_new {w w1 w2 : World} {l : List Nat} {v : Value} {S : Nat} (hl : ∀ x ∈ l, x < 256) (hb : Below w.heap.size w w1) (hS : S = w.heap.size) (ho : w2.ownsRow w.heap.size 5 1 v (2 + (strOf l).size) (vals (bytesOf l.length 2) ++ Lib.strCells (strOf l)))
    (hg : w1.grownBy w2 (some S)) (hn : v = .slice none 0 0 ↔ Value.slice (some ⟨S, 0, none⟩) 2 2 = .slice none 0 0 ∧ (strOf l).size = 0) : New w (bytesOf l.length 2 ++ l) v w2 := by
  rw [strOf_size, strCells_of l hl, ← vals_append] at ho
  have hln : (bytesOf l.length 2 ++ l).length = 2 + l.length := by simp [bytesOf]
  have hkk : Below w.heap.size w w2 := hb.trans ⟨hg.os, hg.tape, hg.output, hg.size, fun k hk => hg.block k (Nat.lt_of_lt_of_le hk hb.size) (fun e => by have := Option.some.inj e; omega)⟩
  rcases ho.2 with ⟨e, _⟩ | ⟨g, cap, cur, e, hbg, _⟩
  · exact absurd (hn.1 e).1 (by simp)
  · subst e
    rw [← hln] at ho ⊢
    exact ⟨g, cap, rfl, hbg, hkk, own_bytes' ho rfl (all_lt (bytesOf_lt _ _) hl)⟩
set_option maxHeartbeats 1000000 in
theorem refText_any (w : World) (l : List Nat) (hl : ∀ x ∈ l, x < 256) (hn : l.length ≤ 10000000) :
    Calls Try.prog 11 #[.string (strOf l)] w fun e w' => ∃ v, e = .returned v ∧ New w (bytesOf l.length 2 ++ l) v w' := by
  have HL := Lib.hid hl
  obtain ⟨s, hs⟩ : ∃ s, s = strOf l := ⟨_, rfl⟩
  obtain ⟨k, hk⟩ : ∃ k, k = l.length := ⟨_, rfl⟩
  have hsz : s.size = k := by rw [hs, strOf_size, hk]
  have HB := Lib.hid (refBytes_any w k 2 (by omega) (by omega) (by omega))
  rw [← hs]
  have HS := Lib.hid hs
  have HK := Lib.hid hk
  rw [← hk] at hn
  clear hl hs hk
  obtain ⟨i0, hi, hz0, hz1, hz2⟩ := info_parts info5
  have HI0 := Lib.hid (show Try.prog.info? 5 = some i0 ∧ i0.zero = some (.int .u8 0) ∧ i0.size = 1 ∧ i0.bytes = 1 from ⟨hi, hz0, hz1, hz2⟩)
  clear hi hz0 hz1 hz2
  go_enter Try.func11, Try.ntmps11
  go_wp2_with (first | (go_at_call 9; refine HB.out.mono ?_; rintro e w1 ⟨rfl, hrow, hbel⟩; have HR := Lib.hid (row_owns w.heap.size (Nat.le_refl _) (by decide) hrow); have HBe := Lib.hid hbel; clear hrow hbel) | (at_builtin; refine Lib.wpList_append_own_string _ rfl (.tmp 6) (.tmp 7) 28 9 rfl w.heap.size 5 i0 Try.underlying28 Try.underlying9 HI0.out.1 HI0.out.2.1 HI0.out.2.2.1 HI0.out.2.2.2 (.slice (some ⟨w.heap.size, 0, none⟩) 2 2) 2 _ rfl HR.out s rfl (by unfold maxLen; omega) (by omega) HBe.out.size ?_; intro v' w2 ho hg hn2; have HO := Lib.hid ho; have HG := Lib.hid hg; have HN2 := Lib.hid hn2; clear ho hg hn2))
  go_ret
  refine ⟨_, rfl, ?_⟩
  have e1 := HO.out
  have e2 := HN2.out
  rw [HK.out, HS.out] at e1
  rw [HS.out] at e2
  exact text_new HL.out HBe.out rfl e1 HG.out e2
theorem more_two {w w1 w2 w3 : World} {p : Nat} {l2 F F1 : List Nat} (t1 : Touch (fun k => k ∈ F) w w1) (s1 : ∀ k ∈ F1, k ∈ F ∨ w.heap.size ≤ k) (hb : Below w1.heap.size w1 w2) (h2 : More w2 p l2 F1 w3) : More w p l2 F w3 := by
  obtain ⟨F2, o2, t2, s2⟩ := h2
  refine ⟨F2, o2, ?_, fun k hk => ?_⟩
  · have t12 := t1.below hb
    exact t12.trans (t2.mono fun i _ h => s1 i h)
  · rcases s2 k hk with h | h
    · exact s1 k h
    · exact .inr (Nat.le_trans t1.2.2.2.1 (Nat.le_trans hb.size h))
theorem str_bytes (w : World) (l : List Nat) (hl : ∀ x ∈ l, x < 256) : Bytes (Lib.bytesWorld w 5 (strOf l)) (some ⟨w.heap.size, 0, none⟩) l.length l ∧ Below w.heap.size w (Lib.bytesWorld w 5 (strOf l)) := by
  refine ⟨⟨rfl, hl, fun _ => ⟨_, 0, rfl, fun i hi => ?_⟩⟩, rfl, rfl, rfl, by rw [Lib.bytesWorld_size]; omega, fun k hk => Lib.bytesWorld_at_old w 5 _ k hk⟩
  rw [Nat.zero_add, Lib.bytesWorld_cell w 5 _ i (by rw [strOf_size]; exact hi)]
  have hx := hl (l.getD i 0) (by simp [List.getD, hi])
  simp [strOf, List.getD, hi] at hx ⊢
  omega
set_option maxHeartbeats 1000000 in
theorem outText_good (w : World) (p : Nat) (M F l : List Nat) (h : OutIs w p M F) (hM : M.length ≤ 5000000) (hl : ∀ x ∈ l, x < 256) (hn : l.length ≤ 65535) :
    Calls Try.prog 10 #[.pointer (some ⟨p, 0, none⟩), .string (strOf l)] w fun e w' => e = .returned (.tuple #[]) ∧ More w p (M ++ (bytesOf l.length 2 ++ l)) F w' := by
  have HN := Lib.hid (outN_good w p M F (l.length : Nat) 2 h (by omega) ⟨by decide, by decide, by omega, by simp; omega⟩)
  have hcv := fun w' => Lib.run_convert_string_bytes (P := Try.prog) w' 9 28 5 (strOf l) Try.underlying9 Try.underlying28 Try.underlying5
  have hsz := strOf_size l
  have HL := Lib.hid hl
  generalize hs : strOf l = s at *
  have HS := Lib.hid hs
  clear h hl hs
  go_enter Try.func10, Try.ntmps10
  go_wp2_with fail
  refine HN.out.mono ?_
  rintro e w1 ⟨rfl, hm⟩
  rw [Int.toNat_natCast, show Int.toNat 2 = 2 from rfl] at hm
  obtain ⟨F1, o1, t1, s1⟩ := hm
  have HG := Lib.hid o1.good
  have HT1 := Lib.hid (And.intro t1 s1)
  have HSB := Lib.hid (str_bytes w1 l HL.out)
  rw [HS.out] at HSB
  have HP := Lib.hid (fun (F1 : List Nat) (c : Nat) (h : OutIs (Lib.bytesWorld w1 5 s) p (M ++ bytesOf l.length 2) F1) (hk : ∀ k ∈ F1, k < w1.heap.size) => put_any (Lib.bytesWorld w1 5 s) p _ F1 (some ⟨w1.heap.size, 0, none⟩) l.length c l h HSB.out.1 (by simp [bytesOf]; omega) (fun e => by cases e) (fun ad e _ hF => by cases e; exact absurd (hk _ hF) (Nat.lt_irrefl _)))
  have HF1 := Lib.hid (And.intro (o1.below HSB.out.2) o1.lt)
  clear o1 t1 s1
  go_wp2_with (first | (go_at_call 22; refine (takes_true _ _ HG.out).mono ?_; rintro e w2 ⟨rfl, rfl⟩) | (go_at_call 24; refine (HP.out F1 _ HF1.out.1 HF1.out.2).mono ?_; rintro e w3 ⟨rfl, hm3⟩; have HM3 := Lib.hid hm3; clear hm3))
  go_end0
  refine ⟨rfl, ?_⟩
  have hm3 := HM3.out
  rw [List.append_assoc] at hm3
  exact more_two HT1.out.1 HT1.out.2 HSB.out.2 hm3
theorem outText_spoils (w : World) (p : Nat) (M F l : List Nat) (h : OutIs w p M F) (hn : 65535 < l.length) :
    Calls Try.prog 10 #[.pointer (some ⟨p, 0, none⟩), .string (strOf l)] w fun e w' => e = .returned (.tuple #[]) ∧ Lost w p w' := by
  have HN := Lib.hid (outN_spoils w p M F (l.length : Nat) 2 h (fun hf => by
    obtain ⟨_, _, _, hv⟩ := hf
    simp at hv
    omega))
  have hsz := strOf_size l
  generalize strOf l = s at *
  clear h
  go_enter Try.func10, Try.ntmps10
  go_wp2_with (first | (go_at_call 8; refine HN.out.mono ?_; rintro e w1 ⟨rfl, hl⟩; have HLo := Lib.hid hl; clear hl) | (go_at_call 22; refine (takes_spoilt _ _ _ HLo.out.1.bad).mono ?_; rintro e w2 ⟨rfl, rfl⟩))
  go_end0
  exact ⟨rfl, HLo.out⟩
theorem outText_spoilt (w : World) (p : Nat) (s : ByteArray) (h : Spoilt w p) :
    Calls Try.prog 10 #[.pointer (some ⟨p, 0, none⟩), .string s] w fun e w' => e = .returned (.tuple #[]) ∧ w = w' := by
  have HB := Lib.hid h
  clear h
  go_enter Try.func10, Try.ntmps10
  go_wp2_with (first | (go_at_call 8; refine (outN_spoilt _ _ _ _ HB.out).mono ?_; rintro e w1 ⟨rfl, rfl⟩) | (go_at_call 22; refine (takes_spoilt _ _ _ HB.out.bad).mono ?_; rintro e w2 ⟨rfl, rfl⟩))
  go_end0
  exact ⟨rfl, rfl⟩
theorem numOf_bytes (v n : Nat) (hv : v < 256 ^ n) : numOf (bytesOf v n) = v := by
  have key : ∀ k, k ≤ n → numOf ((bytesOf v n).take k) = v / 256 ^ (n - k) := by
    intro k
    induction k with
    | zero =>
      intro _
      simp [numOf, numFrom]
      exact (Nat.div_eq_of_lt hv).symm
    | succ k ih =>
      intro hk
      rw [numOf_take _ k (by simp [bytesOf]; omega), ih (by omega)]
      have e : (bytesOf v n).getD k 0 = byteAt v n k := by simp [bytesOf, List.getD, show k < n by omega]
      rw [e]
      unfold byteAt
      have e2 : n - k = (n - (k + 1)) + 1 := by omega
      have e3 : n - 1 - k = n - (k + 1) := by omega
      rw [e2, e3, Nat.pow_succ, ← Nat.div_div_eq_div_mul]
      omega
  have := key n (Nat.le_refl _)
  rw [List.take_of_length_le (by simp [bytesOf]), Nat.sub_self] at this
  simpa using this
set_option maxHeartbeats 1000000 in
theorem inText_good (w : World) (q g o c : Nat) (l rest : List Nat) (h : InIs w q g o c (bytesOf l.length 2 ++ l ++ rest)) (hgl : g < w.heap.size) (hn : l.length ≤ 65535) (hc : c ≤ 10000000) :
    Calls Try.prog 16 #[.pointer (some ⟨q, 0, none⟩)] w fun e w' => e = .returned (.string (strOf l)) ∧ Went w q g c rest w' := by
  have h15 := inN_good w q g o c 2 _ h (by decide) (by decide) (by simp [bytesOf]; omega) hc
  have e1 : (bytesOf l.length 2 ++ l ++ rest).take (2 : Int).toNat = bytesOf l.length 2 := by
    show (bytesOf l.length 2 ++ l ++ rest).take 2 = _
    rw [List.append_assoc, List.take_append_of_le_length (by simp [bytesOf]), List.take_of_length_le (by simp [bytesOf])]
  have e2 : (bytesOf l.length 2 ++ l ++ rest).drop (2 : Int).toNat = l ++ rest := by
    show (bytesOf l.length 2 ++ l ++ rest).drop 2 = _
    rw [List.append_assoc, List.drop_append_of_le_length (by simp [bytesOf]), List.drop_eq_nil_of_le (by simp [bytesOf])]
    rfl
  rw [e1, e2, numOf_bytes l.length 2 (by omega)] at h15
  have H15 := Lib.hid h15
  clear h e1 e2 h15
  obtain ⟨k, hk⟩ : ∃ k, k = l.length := ⟨_, rfl⟩
  have HK := Lib.hid hk
  rw [← hk] at H15 hn
  clear hk
  go_enter Try.func16, Try.ntmps16
  go_wp2_with (first | (go_at_call 15; refine H15.out.mono ?_; rintro e w1 ⟨rfl, hw⟩; have HW := Lib.hid hw; clear hw))
  obtain ⟨o1, c1, hin1, ht1, hc1⟩ := HW.out
  have hlk : k ≤ (l ++ rest).length := by rw [HK.out]; simp
  refine (next_good w1 q g o1 c1 k _ hin1 hlk (by omega)).mono ?_
  rintro e w2 ⟨rfl, o2, c2, hin2, ht2, hc2⟩
  have hby := taken hin1 hlk ht2
  have e3 : (l ++ rest).take k = l := by rw [HK.out]; simp
  have e4 : (l ++ rest).drop k = rest := by rw [HK.out]; simp
  rw [e3] at hby
  rw [e4] at hin2
  have hcv := hby.text c1
  have HFin : Hid (Went w q g c rest w2) := ⟨o2, c2, hin2, ht1.trans (ht2.mono fun i _ h => .inl h), by omega⟩
  clear hin1 ht1 hc1 hlk hin2 ht2 hc2 hby e3 e4 HW H15
  go_wp2
  go_ret
  exact ⟨rfl, HFin.out⟩
end Go.Proofs.Ytcmgekimogecaaa.codec
