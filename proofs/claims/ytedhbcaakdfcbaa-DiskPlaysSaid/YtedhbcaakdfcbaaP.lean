/- Files cut. -/
import Derived.Test.YtedhbcaakdfcbaaO
namespace Go.Proofs.Ytedhbcaakdfcbaa.disk
open Go.ChangeShapes Go.WideShapes Go.ChangeAt Go.RowKit Go.Maps Go.WideMaps
set_option linter.unusedVariables false
set_option linter.unusedSimpArgs false

def cutFm (fm : FM) (k : List UInt8) (left : Nat) : FM :=
  if left = 0 ∧ (fileAt fm k).ever = false then erase fm k else upd fm k ⟨(fileAt fm k).l.take left, left, true⟩
/-- Behind a cut. -/
def CutTo (w : World) (base p : Nat) (mb : Option Nat) (D : DataW Value) (c : Cfg) (fm : FM) (N : Nat) (k : List UInt8) (left : Nat) (w' : World) : Prop :=
  ∃ mb' D', Dsk w' base p mb' D' { c with used := wrap64 (wrap64 (c.used - lenAt fm k) + left) } (cutFm fm k left) N ∧ Touch (Foot p mb D) w w' ∧ ∀ j, Foot p mb' D' j → Foot p mb D j ∨ w.heap.size ≤ j
theorem own_cap {w : World} {base : Nat} {A : Option Addr} {n cp m : Nat} {l : List Value} (h : w.ownsRow base 5 1 (.slice A n cp) m l) : n ≤ cp := by
  rcases h.2 with ⟨e, h0⟩ | ⟨g, cap, cur, e, hb, hg, hc, hm, hs, ht⟩
  · cases e; omega
  · cases e; exact hc
theorem wrap64_twice (x : Int) : wrap64 (wrap64 x + ((0 : Nat) : Int)) = wrap64 x := by
  simp only [Int.natCast_zero, Int.add_zero]
  unfold wrap64
  omega
set_option maxRecDepth 50000 in
set_option maxHeartbeats 4000000 in
theorem cut_any (w : World) (base p : Nat) (mb : Option Nat) (D : DataW Value) (c : Cfg) (fm : FM) (N : Nat) (s : ByteArray) (hs : s.size ≤ 281474976710656) (A : Option Addr) (n cp : Nat) (left : Nat) (h : Dsk w base p mb D c fm N)
    (hat : At D s.data.toList = .agg #[.slice A n cp, .int .i64 ((fileAt fm s.data.toList).safe : Nat), .bool (fileAt fm s.data.toList).ever]) (hl : left ≤ (fileAt fm s.data.toList).l.length) (hf : (fm s.data.toList).isSome) (hm : (fileAt fm s.data.toList).l.length ≤ 1000000) (hN : N < 1000000) (hB : base ≤ w.heap.size) :
    Calls Try.prog 39 #[.pointer (some ⟨p, 0, none⟩), .string s, .agg #[.slice A n cp, .int .i64 ((fileAt fm s.data.toList).safe : Nat), .bool (fileAt fm s.data.toList).ever], .int .i64 (left : Nat)] w fun e w' => e = .returned (.tuple #[]) ∧ CutTo w base p mb D c fm N s.data.toList left w' := by
  have hpl := h.facts.2.2.2.2.2.2.2
  obtain ⟨A', n', cp', hat', hown, h256, hsf, hn, hcp⟩ := h.whole s.data.toList
  rw [hat] at hat'
  simp only [Value.agg.injEq, Array.mk.injEq, List.cons.injEq, Value.slice.injEq, and_true] at hat'
  obtain ⟨rfl, rfl, rfl⟩ := hat'
  have hcap := own_cap hown
  have H47 : Hid (left = 0 → (fileAt fm s.data.toList).ever = false → ∀ w3, Below w.heap.size w w3 → Calls Try.prog 47 #[.pointer (some ⟨p, 0, none⟩), .string s] w3 fun e w' => e = .returned (.tuple #[]) ∧ CutTo w base p mb D c fm N s.data.toList left w') := by
    intro e0 e1 w3 hb
    refine (drop_any w3 base p mb D c fm N s (by unfold maxLen; omega) (h.below hb)).mono ?_
    rintro e w' ⟨rfl, q1, q2⟩
    refine ⟨rfl, mb, D.del (.string s.data.toList), ?_, (touch_below hb).trans (q2.mono fun i _ h => .inl (h.imp id .inl)), fun j hj => .inl (foot_del j hj)⟩
    subst e0
    rw [wrap64_twice]
    unfold cutFm
    rw [if_pos ⟨rfl, e1⟩]
    exact q1
  have H42 : Hid (¬ (left = 0 ∧ (fileAt fm s.data.toList).ever = false) → ∀ w3, Below w.heap.size w w3 → Calls Try.prog 42 #[.pointer (some ⟨p, 0, none⟩), .string s, .agg #[.slice A left cp, .int .i64 (left : Nat), .bool true]] w3 fun e w' => e = .returned (.tuple #[]) ∧ CutTo w base p mb D c fm N s.data.toList left w') := by
    intro e0 w3 hb
    have h3 := h.below hb
    have hc := comes_cut h3 s.data.toList hat left hl left (Nat.le_refl _) true
    refine (put_disk w3 base p mb D c fm N s hs A left cp left true _ h3 hc hN (Nat.le_trans hB hb.size)).mono ?_
    rintro e w' ⟨rfl, mb', q1, q2, q3⟩
    refine ⟨rfl, mb', (D.del (.string s.data.toList)).put (.string s.data.toList) (.held (.agg #[.slice A left cp, .int .i64 (left : Nat), .bool true])), ?_, (touch_below hb).trans (q2.mono fun i _ h => .inl (h.imp id .inl)), foot_put h.isMap (fun b e => (q3 b e).imp id (Nat.le_trans hb.size)) (fun g e => .inl ?_)⟩
    · unfold cutFm
      rw [if_neg e0]
      have := q1
      unfold bump at this
      rw [if_pos hf] at this
      exact this
    · rw [hat]
      cases A <;> exact e
  have HN := Lib.hid hn
  have hln : left ≤ n := by omega
  have hnm : n ≤ 1000000 := by omega
  generalize hsa : (fileAt fm s.data.toList).safe = sf at *
  generalize hev : (fileAt fm s.data.toList).ever = ev at *
  clear h hat hown h256 hsf hn hl hf hm hsa hev
  by_cases h0 : left = 0
  · cases ev with
    | false =>
      have H47' := Lib.hid (H47.out h0 rfl)
      subst h0
      go_enter Try.func39, Try.ntmps39
      go_wp2_with (go_at_call 47; refine (H47'.out _ ((Below.refl _ _).alloc (Nat.le_refl _) _)).mono ?_; rintro e w2 ⟨rfl, hA⟩; have HA := Lib.hid hA; clear hA)
      refine bodyPost_ret (results_none rfl _ _ _) rfl ?_
      exact ⟨rfl, HA.out⟩
    | true =>
      have H42' := Lib.hid (H42.out (by simp))
      subst h0
      go_enter Try.func39, Try.ntmps39
      go_wp2_with (first | (go_at_call 43; refine (made_any _ _ _ _).mono ?_; rintro e w3 ⟨rfl, hb3⟩; have HB3 := Lib.hid (((Below.refl w.heap.size w).alloc (Nat.le_refl _) (.cells #[.slice A n cp, .int .i64 (sf : Nat), .bool true] 64)).trans (hb3.mono (by simp))); clear hb3) | (go_at_call 42; refine (H42'.out _ HB3.out).mono ?_; rintro e w4 ⟨rfl, hA⟩; have HA := Lib.hid hA; clear hA))
      go_end0
      exact ⟨rfl, HA.out⟩
  · have H42' := Lib.hid (H42.out (by simp [h0]))
    have hne : ((left : Int) == 0) = false := by simp [h0]
    go_enter Try.func39, Try.ntmps39
    go_wp2_with (first | (go_at_call 43; refine (made_any _ _ _ _).mono ?_; rintro e w3 ⟨rfl, hb3⟩; have HB3 := Lib.hid (((Below.refl w.heap.size w).alloc (Nat.le_refl _) (.cells #[.slice A n cp, .int .i64 (sf : Nat), .bool ev] 64)).trans (hb3.mono (by simp))); clear hb3) | (go_at_call 42; refine (H42'.out _ HB3.out).mono ?_; rintro e w4 ⟨rfl, hA⟩; have HA := Lib.hid hA; clear hA))
    go_end0
    exact ⟨rfl, HA.out⟩
end Go.Proofs.Ytedhbcaakdfcbaa.disk
