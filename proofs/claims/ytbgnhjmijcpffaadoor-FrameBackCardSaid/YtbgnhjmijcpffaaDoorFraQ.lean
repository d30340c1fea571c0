/- The law on what stands ahead of frames, walked. -/
import Derived.Test.YtbgnhjmijcpffaaDoorFraN
import Derived.Test.YtbgnhjmijcpffaaDoorFraP
namespace Go.Proofs.YtbgnhjmijcpffaaDoor.frm
open Go.ChangeShapes Go.WideShapes Go.ChangeAt Go.RowKit
open Go.Proofs.YtbgnhjmijcpffaaDoor.codec (Bytes vals vals_append vals_length vals_one OutIs More Made New bytesOf byteAt bytesOf_length bytesOf_lt Fits strOf)
set_option linter.unusedVariables false
set_option maxRecDepth 100000
set_option linter.unusedSimpArgs false

/-- One record, laid in a block. -/
theorem reads_one (w : World) (x : X) (t : TypeId) (m : Nat × Nat) {g : Nat} (hg : g = w.heap.size) (hB : Bytes w x.A x.n x.r.pay) : Reads (w.alloc (.cells x.cells.toArray t m)) (some ⟨g, 0, none⟩) 1 [x] := by
  subst hg
  refine ⟨rfl, fun k hk => ?_⟩
  obtain rfl : k = 0 := by omega
  refine ⟨_, 0, x, rfl, rfl, ?_, ?_, ?_, hB.alloc _⟩
  · rw [World.cell?_alloc_mark]; rfl
  · rw [World.cell?_alloc_mark]; rfl
  · rw [World.cell?_alloc_mark]; rfl

theorem frameL_lt {k : Nat} {p : List Nat} (hk : k < 256) (hp : ∀ x ∈ p, x < 256) : ∀ x ∈ frameL k p, x < 256 := by
  unfold frameL headL
  exact codec.all_lt (codec.all_lt (codec.all_lt (first_lt hk) (bytesOf_lt _ _)) (dig_lt _)) hp
theorem copy_row {w5 w6 : World} {v5 : Value} {A : Option Addr} {m : Nat} {p : List Nat} (hp : Bytes w5 A m p)
    (ho : w6.ownsRow w5.heap.size 5 1 v5 ([] ++ p).length (vals ([] ++ p))) (hg : (w5.alloc (.cells #[] 5)).grownBy w6 (Value.slice (some ⟨w5.heap.size, 0, none⟩) 0 0).ownBlock) (hnn : v5 = .slice none 0 0 ↔ Value.slice (some ⟨w5.heap.size, 0, none⟩) 0 0 = .slice none 0 0 ∧ m = 0) :
    ∃ g cap, v5 = .slice (some ⟨g, 0, none⟩) m cap ∧ w6.ownsRow w5.heap.size 5 1 (.slice (some ⟨g, 0, none⟩) m cap) p.length (vals p) ∧ Below w5.heap.size w5 w6 := by
  have hb : Below w5.heap.size w5 w6 := ((Below.refl _ _).alloc (Nat.le_refl _) _).trans ⟨hg.os, hg.tape, hg.output, hg.size, fun k hk => hg.block k (by simp; omega) (fun e => by
    have := Option.some.inj e
    simp at this
    omega)⟩
  rw [List.nil_append] at ho
  obtain ⟨g, cap, e, hB, hBy, _⟩ := own_form ho (fun e => by have := (hnn.1 e).1; cases this) hp.2.1 hp.1
  subst e
  exact ⟨g, cap, rfl, ho, hb⟩
/-- Bytes of one's own, and more behind them. -/
theorem more_row {w w5 w6 : World} {v : Value} {g n cap m : Nat} {A : Option Addr} {l p : List Nat} (h : w5.ownsRow w.heap.size 5 1 (.slice (some ⟨g, 0, none⟩) n cap) l.length (vals l)) (hb : Below w.heap.size w w5) (hl : ∀ x ∈ l, x < 256) (hp : Bytes w5 A m p)
    (ho : w6.ownsRow w.heap.size 5 1 v (l ++ p).length (vals (l ++ p))) (hg : w5.grownBy w6 (Value.slice (some ⟨g, 0, none⟩) n cap).ownBlock) (hnn : v = .slice none 0 0 ↔ Value.slice (some ⟨g, 0, none⟩) n cap = .slice none 0 0 ∧ m = 0) (hn : l.length = n) :
    ∃ g' cap', v = .slice (some ⟨g', 0, none⟩) (n + m) cap' ∧ n + m ≤ cap' ∧ w6.ownsRow w.heap.size 5 1 (.slice (some ⟨g', 0, none⟩) (n + m) cap') (l ++ p).length (vals (l ++ p)) ∧ Bytes w6 (some ⟨g', 0, none⟩) (n + m) (l ++ p) ∧ Below w.heap.size w w6 := by
  obtain ⟨g', cap', e, hB, hBy, hc⟩ := own_form (N := n + m) ho (fun e => by have := (hnn.1 e).1; cases this) (codec.all_lt hl hp.2.1) (by rw [List.length_append, hn, hp.1])
  subst e
  refine ⟨g', cap', rfl, hc, ho, hBy, hb.trans ⟨hg.os, hg.tape, hg.output, hg.size, fun i hi => hg.block i (Nat.lt_of_lt_of_le hi hb.size) (fun e => ?_)⟩⟩
  have := (h.lt _ e.symm).1
  omega
set_option maxHeartbeats 1000000 in
theorem heals_long (W : World) (n c n' c' z : Nat) (A A' : Option Addr) (hL : sumDoor.Laid W) (h : 2000 < n ∨ 2000 < n') (hn : n ≤ 9223372036854775807) (hn' : n' ≤ 9223372036854775807) :
    Calls Tryd.prog 6 #[.slice A n c, .slice A' n' c', .int .u8 z] W fun e w' => e = .returned (.bool true) ∧ Below W.heap.size W w' := by
  have HL := Lib.hid hL
  have HW := Lib.hid (awake_any W hL)
  clear hL
  by_cases h1 : 2000 < n
  all_goals
    first
      | (have h2 : 2000 < n' := by omega)
      | skip
    clear h
    go_enter Tryd.func6, Tryd.ntmps6
    go_wp2_with fail
    refine HW.out.mono ?_
    rintro e w1 ⟨rfl, hb⟩
    have HB1 := Lib.hid hb
    have HW1 := Lib.hid (awake_any w1 (HL.out.below HL.out.lt hb))
    clear hb
    go_wp2_with fail
    refine HW1.out.mono ?_
    rintro e w2 ⟨rfl, hb⟩
    have HB2 := Lib.hid hb
    clear hb
    go_wp2_with fail
    go_ret
    exact ⟨rfl, HB1.out.trans (HB2.out.mono HB1.out.size)⟩

set_option maxHeartbeats 2000000 in
theorem heals_walk (W : World) (n c n' c' z : Nat) (A A' : Option Addr) (l p : List Nat) (hB : Bytes W A n l) (hB' : Bytes W A' n' p) (hn : n ≤ 2000) (hn' : n' ≤ 2000) (hc : n ≤ c) (hA : A = none → c = 0) (hA' : A' = none → c' = 0) (hz : z < 256) (hL : sumDoor.Laid W) :
    Calls Tryd.prog 6 #[.slice A n c, .slice A' n' c', .int .u8 z] W fun e w' => e = .returned (.bool true) ∧ Below W.heap.size W w' := by
  have HL := Lib.hid hL
  have HW := Lib.hid (awake_any W hL)
  have HB := Lib.hid hB
  have HB' := Lib.hid hB'
  have HN := Lib.hid hA
  have HN' := Lib.hid hA'
  clear hL hB hB' hA hA'
  go_enter Tryd.func6, Tryd.ntmps6
  go_wp2_with fail
  refine HW.out.mono ?_
  rintro e w1 ⟨rfl, hb⟩
  have HB1 := Lib.hid hb
  clear hb HW
  go_wp2
  go_loop [27] (fun i => ∃ k : Nat, k ≤ n ∧ i = .int .i64 k ∧ Hid (∀ j, j < k → l.getD j 0 ≠ 99)) (fun i => n - (intOf i).toNat)
  case atStart => exact ⟨0, Nat.zero_le _, rfl, fun j hj => absurd hj (by omega)⟩
  case round =>
    obtain ⟨k, hk, rfl, HK⟩ := hrel
    by_cases hlt : k < n
    · obtain ⟨b, o, rfl, -⟩ := HB.out.2.2 (by omega)
      have c0 := bytes_cell (HB.out.below HB.out.lt HB1.out) k hlt
      obtain ⟨x, hx⟩ : ∃ x, x = l.getD k 0 := ⟨_, rfl⟩
      rw [← hx] at c0
      have HX := Lib.hid hx
      clear hx
      by_cases h9 : x = 99
      · subst h9
        go_wp2
        go_ret
        exact ⟨rfl, HB1.out⟩
      · have h9' : ((x : Int) == 99) = false := by rw [beq_eq_false_iff_ne]; omega
        have HK2 : Hid (∀ j, j < k + 1 → l.getD j 0 ≠ 99) := fun j hj => by
          by_cases e : j = k
          · subst e; rw [← HX.out]; exact h9
          · exact HK.out j (by omega)
        clear h9 HK
        go_wp2
        go_round
        case rel => first | exact ⟨k + 1, by omega, by go_num, HK2⟩ | ((repeat apply Exists.intro); exact ⟨⟨k + 1, by omega, by go_num, HK2⟩, rfl⟩)
        case measure => (show n - ((k : Int) + 1).toNat < n - k; omega)
    · obtain rfl : k = n := by omega
      obtain ⟨K, hK⟩ : ∃ K, K = 1 + z % 3 := ⟨_, rfl⟩
      have hK1 : 1 ≤ K := by omega
      have hK3 : K ≤ 3 := by omega
      have eK : Hid ((1 : Int) + (z : Int) % 3 = (K : Nat)) := by show _ = _; omega
      clear hK
      have hln := HB.out.1
      have HLN := Lib.hid hln
      have HNo := Lib.hid (show ∀ x ∈ l, x ≠ 99 from fun x hx => by
        obtain ⟨j, hj, rfl⟩ := List.mem_iff_getElem.1 hx
        have := HK.out j (by omega)
        simpa [List.getD, hj] using this)
      clear hln HK hlt
      go_wp2_with (at_builtin; refine codec.wpList_append_bytes rfl (.tmp 40) (.tmp 41) rfl w1.heap.size _ [] rfl (World.ownsRow_made w1 #[] 0 (Nat.le_refl _) (Nat.zero_le _) rfl) (by simp) A k c l rfl ((HB.out.below HB.out.lt HB1.out).alloc _) HN.out (by simp; omega) ?_; intro v2 w2 ho hg hnn _; have HX2 := Lib.hid (copy_row (HB.out.below HB.out.lt HB1.out) ho hg hnn); clear ho hg hnn; obtain ⟨g2, cap2, rfl, hX2⟩ := HX2.out; have HX3 := Lib.hid hX2; clear hX2 HX2)
      rw [eK.out]
      have HB2 := Lib.hid (HB1.out.trans (HX3.out.2.mono HB1.out.size))
      refine (refFrame_any w2 K n' c' A' p hK1 hK3 (HB'.out.below HB'.out.lt HB2.out) (by omega) HN'.out).mono ?_
      rintro e w3 ⟨v3, rfl, hM3⟩
      have hn3 : (frameL K p).length = 44 + n' := by rw [frameL_length, HB'.out.1]
      obtain ⟨g3, cap3, rfl, hc3, -⟩ := hM3.form (44 + n') hn3 (by omega)
      have HB3 := Lib.hid (hM3.bytes hn3 (frameL_lt (by omega) HB'.out.2.1))
      have HO3 := Lib.hid (HX3.out.1.kept (row := none) ⟨hM3.2.os, hM3.2.tape, hM3.2.output, hM3.2.size, fun i hi _ => hM3.2.block i hi⟩ (Classical.em _))
      have HB2' := Lib.hid (HB2.out.trans (hM3.2.mono HB2.out.size))
      have HBs := Lib.hid (show w1.heap.size ≤ w3.heap.size from Nat.le_trans HX3.out.2.size hM3.2.size)
      have HN3 := Lib.hid hn3
      have HW1 := Lib.hid (show Below w1.heap.size w1 w3 from HX3.out.2.trans (hM3.2.mono HX3.out.2.size))
      clear hM3 hn3 hc3 HX3 HB2
      go_wp2_with (at_builtin; refine codec.wpList_append_bytes rfl (.tmp 42) (.tmp 45) rfl w1.heap.size _ l rfl HO3.out HBs.out (some ⟨g3, 0, none⟩) (44 + n') cap3 (frameL K p) rfl HB3.out (fun e => by cases e) (by rw [HLN.out]; omega) ?_; intro v5 w5 ho hg hnn _; have HX5 := Lib.hid (more_row HO3.out HW1.out HB.out.2.1 HB3.out ho hg hnn HLN.out); clear ho hg hnn; obtain ⟨g5, cap5, rfl, hX5⟩ := HX5.out; have HX6 := Lib.hid hX5; clear hX5 HX5)
      have HBl5 := Lib.hid (HB1.out.trans (HX6.out.2.2.2.mono HB1.out.size))
      have HSc := Lib.hid (scan_heals l K p hK1 hK3 (by rw [HB'.out.1]; omega) HNo.out)
      have HNl := Lib.hid (show (l ++ frameL K p).length = k + (44 + n') by rw [List.length_append, HLN.out, HN3.out])
      have HQ := Lib.hid (scan_any w5 (some ⟨g5, 0, none⟩) (k + (44 + n')) cap5 _ HX6.out.2.2.1 HX6.out.1 (by omega) (HL.out.below HL.out.lt HBl5.out))
      clear HX6 HW1 HBs HO3 HB3 HB2' eK
      generalize k + (44 + n') = N at *
      refine HQ.out.mono ?_
      rintro e w6 ⟨v, torn, rfl, xs, hr, hb, hs⟩
      have hs2 := hs.symm.trans HSc.out
      have ht : torn = N := by rw [← HNl.out]; exact congrArg Prod.snd hs2
      subst ht
      have hmm : xs.map X.r = [⟨l.length, K, p⟩] := congrArg Prod.fst hs2
      have hx1 : xs.length = 1 := by
        have := congrArg List.length hmm
        simpa using this
      have HB6 := Lib.hid (HBl5.out.trans (hb.mono HBl5.out.size))
      have HBp := Lib.hid (HB'.out.below HB'.out.lt HB6.out)
      have HLit := Lib.hid (reads_one w6 ⟨⟨k, K, p⟩, A', n', c'⟩ 40 (0, 0) rfl HBp.out)
      obtain ⟨A1, c1, rfl, hc1, hR1⟩ := (hr.alloc (.cells (X.cells ⟨⟨k, K, p⟩, A', n', c'⟩).toArray 40 (0, 0))).reads
      rw [hx1] at hR1 ⊢
      have HSm := Lib.hid (same_any _ A1 (some ⟨w6.heap.size, 0, none⟩) 1 c1 1 xs [⟨⟨k, K, p⟩, A', n', c'⟩] hR1 HLit.out (by rw [hmm, HLN.out]; rfl) (by omega))
      clear hr hb hs hs2 hmm hx1 hc1 hR1 HLit HQ HSc
      go_wp2_with fail
      refine HSm.out.mono ?_
      rintro e w7 ⟨rfl, hb⟩
      have HB7 := Lib.hid ((HB6.out.alloc HB6.out.size (.cells (X.cells ⟨⟨k, K, p⟩, A', n', c'⟩).toArray 40 (0, 0))).trans (hb.mono (Nat.le_trans HB6.out.size (by simp))))
      clear hb
      go_wp2_with fail
      go_ret
      exact ⟨rfl, HB7.out⟩
theorem heals_all (W : World) (n c n' c' z : Nat) (A A' : Option Addr) (l p : List Nat) (hB : Bytes W A n l) (hB' : Bytes W A' n' p) (hn : n ≤ maxLen) (hn' : n' ≤ maxLen) (hc : n ≤ c) (hA : A = none → c = 0) (hA' : A' = none → c' = 0) (hz : z < 256) (hL : sumDoor.Laid W) :
    Calls Tryd.prog 6 #[.slice A n c, .slice A' n' c', .int .u8 z] W fun e w' => e = .returned (.bool true) ∧ Below W.heap.size W w' := by
  unfold maxLen at hn hn'
  by_cases h : 2000 < n ∨ 2000 < n'
  · exact heals_long W n c n' c' z A A' hL h (by omega) (by omega)
  · exact heals_walk W n c n' c' z A A' l p hB hB' (by omega) (by omega) hc hA hA' hz hL
end Go.Proofs.YtbgnhjmijcpffaaDoor.frm
