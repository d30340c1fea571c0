/- Proves SumOther as it is given. -/
import Derived.Test.YtnpohlimedhopaaDoorH
import Derived.Test.YtnpohlimedhopaaDoorK
import Derived.Deep.AppendLies
import Derived.Laws.OwnMore
namespace Go.Proofs.YtnpohlimedhopaaDoor.sumOther
open Go.ChangeShapes Go.WideShapes Go.ChangeAt Go.RowKit Go.Proofs.YtnpohlimedhopaaDoor.sumDoor
set_option linter.unusedVariables false

theorem info5 : (Tryd.prog.info? 5).map (fun i => (i.zero, i.size, i.bytes)) = some (some (.int .u8 0), 1, 1) := by kernel_rfl

/-- A copy that append made. -/
theorem copy_own {w1 w2 : World} {v : Value} {n : Nat} {l : List Nat} {Z : Obj} (hl : l.length = n) (hl2 : ∀ x ∈ l, x < 256) (hn : 0 < n) (hown : w2.ownsRow w1.heap.size 5 1 v (0 + n) ([] ++ l.map fun x => Value.int .u8 (x : Nat)))
    (hg : (w1.alloc Z).grownBy w2 (Value.slice (some ⟨w1.heap.size, 0, none⟩) 0 0).ownBlock) :
    ∃ g cap, v = .slice (some ⟨g, 0, none⟩) n cap ∧ w1.heap.size ≤ g ∧ Bytes w2 (some ⟨g, 0, none⟩) n l ∧ (∀ i, w2.frozen? ⟨g, i, none⟩ = false) ∧ Below w1.heap.size w1 w2 := by
  rw [Nat.zero_add, List.nil_append] at hown
  have hbel : Below w1.heap.size w1 w2 := ((Below.refl _ _).alloc (Nat.le_refl _) Z).grown hg (by simp) (fun k hk => by simp [Value.ownBlock] at hk; omega)
  rcases hown.2 with ⟨_, h0⟩ | ⟨g, cap, cur, rfl, hb, hgg, _, _, hcs, htake⟩
  · omega
  · refine ⟨g, cap, rfl, hb, ⟨hl, hl2, fun _ => ⟨g, 0, rfl, fun i hi => ?_⟩⟩, fun i => frozen_of_row _ _ _ _ _ hgg, hbel⟩
    have := hown.cellAt (g := g) (cap := cap) i (by omega)
    rw [Nat.zero_add, this]
    have hi' : i < l.length := by omega
    simp [List.getD, hi']

theorem src_cells {w w1 : World} {b o n : Nat} {l : List Nat} {Z : Obj} (hB : Bytes w (some ⟨b, o, none⟩) n l) (hb : Below w.heap.size w w1) : ∀ j u, (l.map fun x => Value.int .u8 (x : Nat))[j]? = some u → (w1.alloc Z).cell? ((Addr.mk b o none).add j) = some u := by
  intro j v hv
  have ha : (Addr.mk b o none).add j = ⟨b, o + j, none⟩ := by unfold Addr.add; split <;> simp_all
  rw [ha]
  simp only [List.getElem?_map, Option.map_eq_some_iff] at hv
  obtain ⟨x, hx, rfl⟩ := hv
  have hj : j < l.length := (List.getElem?_eq_some_iff.1 hx).1
  have hB' := hB.below hB.lt (hb.alloc hb.size Z)
  obtain ⟨b', o', e, hc⟩ := hB'.2.2 (by have := hB.1; omega)
  cases e
  rw [hc j (by have := hB.1; omega)]
  simp [List.getD, hx]
theorem one_cells (l : List Nat) : ∀ u ∈ (l.map fun x => Value.int .u8 (x : Nat)), u.oneCell' = true := by
  intro v hv
  obtain ⟨x, _, rfl⟩ := List.mem_map.1 hv
  rfl

theorem pow_lt (bit : Nat) : 2 ^ (bit % 8) < 256 ∧ 0 < 2 ^ (bit % 8) := by
  have h : bit % 8 < 8 := Nat.mod_lt _ (by omega)
  generalize bit % 8 = k at *
  obtain rfl | rfl | rfl | rfl | rfl | rfl | rfl | rfl : k = 0 ∨ k = 1 ∨ k = 2 ∨ k = 3 ∨ k = 4 ∨ k = 5 ∨ k = 6 ∨ k = 7 := by omega
  all_goals decide
theorem flip_lt {x y bit : Nat} (hx : x < 256) (hy : y = x ^^^ 2 ^ (bit % 8)) : y < 256 := by
  rw [hy]
  exact Nat.xor_lt_two_pow (n := 8) hx (pow_lt bit).1
theorem flip_ne {x y bit : Nat} (hx : x < 256) (hy : y = x ^^^ 2 ^ (bit % 8)) : x ≠ y := by
  intro e
  have h : x ^^^ y = 2 ^ (bit % 8) := by rw [hy, ← Nat.xor_assoc, Nat.xor_self, Nat.zero_xor]
  rw [← e, Nat.xor_self] at h
  have := (pow_lt bit).2
  omega
theorem flip_i {x y bit : Nat} (hx : x < 256) (hy : y = x ^^^ 2 ^ (bit % 8)) : bits .xor .u8 (x : Int) (2 ^ (bit % 8) % 256) = (y : Int) := by
  have h := u8_xor_nat x (2 ^ (bit % 8)) hx (pow_lt bit).1
  have e : ((2 : Int) ^ (bit % 8) % 256) = ((2 ^ (bit % 8) : Nat) : Int) := by
    have := (pow_lt bit).1
    rw [Int.emod_eq_of_lt]
    · simp
    · exact Int.pow_nonneg (by omega)
    · have h2 : ((2 ^ (bit % 8) : Nat) : Int) < 256 := by omega
      simpa using h2
  rw [e, h, hy]
theorem other_world {w w1 w2 : World} {g i : Nat} {v : Value} (h1 : Below w.heap.size w w1) (h2 : Below w1.heap.size w1 w2) (hg : w1.heap.size ≤ g) : Below w.heap.size w (w2.setCell ⟨g, i, none⟩ v) :=
  (h1.trans (h2.mono h1.size)).setCell (Nat.le_trans h1.size hg) _
theorem flipped {w : World} {g n i y : Nat} {l : List Nat} (h : Bytes w (some ⟨g, 0, none⟩) n l) (hi : i < n) (hy : y < 256) : Bytes (w.setCell ⟨g, i, none⟩ (.int .u8 (y : Nat))) (some ⟨g, 0, none⟩) n (l.set i y) := by
  refine ⟨by rw [List.length_set]; exact h.1, fun b hb => ?_, fun hn => ⟨g, 0, rfl, fun j hj => ?_⟩⟩
  · rcases List.mem_or_eq_of_mem_set hb with hb | rfl
    · exact h.2.1 b hb
    · exact hy
  · obtain ⟨b', o', e, hc⟩ := h.2.2 hn
    cases e
    have hlj : j < l.length := by rw [h.1]; exact hj
    rw [Nat.zero_add]
    by_cases e : j = i
    · subst e
      have h0 := hc j hj
      rw [Nat.zero_add] at h0
      rw [World.cell?_setCell_same _ _ _ h0]
      simp [List.getD, hlj]
    · rw [World.cell?_setCell_other _ _ _ _ (fun h => by injection h; omega)]
      have h0 := hc j hj
      rw [Nat.zero_add] at h0
      rw [h0]
      have e' : i ≠ j := fun h => e h.symm
      simp [List.getD, e']
theorem out_lt (s : sumPlain.Eight) : ∀ x ∈ outList s, x < 256 := by
  intro x hx
  obtain ⟨j, _, rfl⟩ := List.mem_map.1 hx
  exact Nat.mod_lt _ (by omega)
theorem abc_str : strOf (hexList (outList (digest [97, 98, 99]))) = ⟨#[98, 97, 55, 56, 49, 54, 98, 102, 56, 102, 48, 49, 99, 102, 101, 97, 52, 49, 52, 49, 52, 48, 100, 101, 53, 100, 97, 101, 50, 50, 50, 51, 98, 48, 48, 51, 54, 49, 97, 51, 57, 54, 49, 55, 55, 97, 57, 99, 98, 52, 49, 48, 102, 102, 54, 49, 102, 50, 48, 48, 49, 53, 97, 100]⟩ := by
  rw [abc]
  rfl

set_option maxRecDepth 100000 in
set_option maxHeartbeats 1000000 in
theorem walk (A : Option Addr) (n c : Nat) (l : List Nat) (a bit : Nat) (w : World) (h : Bytes w A n l) (hn : n ≤ maxLen) (hL : Laid w) (ha : a < 65536) (hb : bit < 256) :
    Calls Tryd.prog 4 #[.slice A n c, .int .u16 a, .int .u8 bit] w fun e w' => e = .returned (.bool true) ∧ Below w.heap.size w w' := by
  have hn' := hn
  unfold maxLen at hn'
  have HB := Lib.hid h
  have HN := Lib.hid hn
  have HL := Lib.hid hL
  clear h hn hL
  by_cases hs : 20000 < n
  · go_enter Tryd.func4, Tryd.ntmps4
    go_wp2_with fail
    refine (awake_any _).mono ?_
    rintro e w1 ⟨rfl, hb1⟩
    go_wp2_with fail
    refine (awake_any _).mono ?_
    rintro e w2 ⟨rfl, hb2⟩
    go_wp2
    go_ret
    exact ⟨rfl, hb1.trans (hb2.mono hb1.size)⟩
  · have hs' : decide ((20000 : Int) < n) = false := by simp; omega
    by_cases h0 : n = 0
    · subst h0
      go_enter Tryd.func4, Tryd.ntmps4
      go_wp2_with fail
      refine (awake_any _).mono ?_
      rintro e w1 ⟨rfl, hb1⟩
      go_wp2_with fail
      refine (awake_any _).mono ?_
      rintro e w2 ⟨rfl, hb2⟩
      go_wp2
      go_ret
      exact ⟨rfl, hb1.trans (hb2.mono hb1.size)⟩
    · have h0' : ((n : Int) == 0) = false := beq_eq_false_iff_ne.2 (by omega)
      obtain ⟨b, o, rfl, hcell⟩ := HB.out.2.2 (by omega)
      obtain ⟨i0, hi, hz0, hz1, hz2⟩ := info_parts info5
      have HI := Lib.hid hi
      have HZ0 := Lib.hid hz0
      have HZ1 := Lib.hid hz1
      have HZ2 := Lib.hid hz2
      clear hcell hi hz0 hz1 hz2
      go_enter Tryd.func4, Tryd.ntmps4
      go_wp2_with fail
      refine (awake_any _).mono ?_
      rintro e w1 ⟨rfl, hb1⟩
      have HB1 := Lib.hid hb1
      have HSr := Lib.hid (src_cells (Z := .cells #[] 5) HB.out hb1)
      have HOn := Lib.hid (one_cells l)
      have HLn := Lib.hid (show (l.map fun x => Value.int .u8 (x : Nat)).length = n * 1 by rw [List.length_map, HB.out.1, Nat.mul_one])
      clear hb1
      go_wp2_with (at_builtin; refine wpList_append_own _ rfl (.tmp 21) (.tmp 22) 22 rfl w1.heap.size 5 i0 (.int .u8 0) 1 1 Tryd.underlying22 HI.out HZ0.out HZ1.out HZ2.out rfl (by decide) _ 0 [] rfl (World.ownsRow_made w1 #[] 0 (Nat.le_refl _) (Nat.zero_le _) rfl) ⟨b, o, none⟩ n c (l.map fun x => Value.int .u8 (x : Nat)) rfl HLn.out HSr.out HOn.out (by unfold maxLen; omega) (by omega) (by simp) ?_; intro v' w2 hown hgrow _; obtain ⟨g, cap, rfl, hg1, hB2, hfz, hbel2⟩ := copy_own HB.out.1 HB.out.2.1 (by omega) hown hgrow; clear hown hgrow; obtain ⟨x, E, hx, hc2⟩ := hB2.at_ (a % n) (Nat.mod_lt _ (by omega)); rw [Nat.zero_add] at hc2; have HE := Lib.hid E; have hf2 := hfz (a % n); have hmod : a % n < n := Nat.mod_lt _ (by omega); clear E; have HB2 := Lib.hid hB2; have HF2 := Lib.hid hfz; have HBe2 := Lib.hid hbel2; clear hB2 hfz hbel2)
      obtain ⟨y, hy⟩ : ∃ y, y = x ^^^ 2 ^ (bit % 8) := ⟨_, rfl⟩
      have hyb := flip_lt hx hy
      have HYN := Lib.hid (flip_ne hx hy)
      rw [flip_i hx hy]
      have HW := Lib.hid (other_world (v := .int .u8 (y : Nat)) HB1.out HBe2.out hg1 (i := a % n))
      have HBs := Lib.hid (HB.out.below HB.out.lt HW.out)
      have HC3 := Lib.hid (flipped HB2.out hmod hyb)
      have HL3 := Lib.hid (HL.out.below HL.out.lt HW.out)
      have HNe := Lib.hid (crcPlain.crc_set (y := y) HB.out.2.1 (show a % n < l.length by rw [HB.out.1]; exact hmod) hyb (by rw [HE.out]; exact HYN.out))
      clear hc2 hf2 hy HF2 HB2
      generalize w2.setCell ⟨g, a % n, none⟩ (.int .u8 (y : Nat)) = w3 at *
      refine (crc_any (some ⟨b, o, none⟩) n c l _ HBs.out HN.out).mono ?_
      rintro e w' ⟨rfl, rfl⟩
      go_wp2_with fail
      refine (crc_any (some ⟨g, 0, none⟩) n cap (l.set (a % n) y) _ HC3.out HN.out).mono ?_
      rintro e w' ⟨rfl, rfl⟩
      have hq : (((crcPlain.crcRun l ^^^ 4294967295 : Nat) : Int) != ((crcPlain.crcRun (l.set (a % n) y) ^^^ 4294967295 : Nat) : Int)) = true := by
        rw [bne_iff_ne]
        intro h
        exact HNe.out (crcPlain.crc_end_inj (by exact_mod_cast h))
      generalize crcPlain.crcRun l ^^^ 4294967295 = p1 at *
      generalize crcPlain.crcRun (l.set (a % n) y) ^^^ 4294967295 = p2 at *
      have kc := fun (w : World) (C : Array Value) (n c : Nat) => Lib.run_convert_bytes_const (P := Tryd.prog) w 22 5 C n c Tryd.underlying22 Tryd.underlying5
      have hB3 := Bytes.lit w3 [97, 98, 99] (by decide) 5 (3, 4)
      have hbl : Below w3.heap.size w3 (w3.alloc (.cells #[.int .u8 97, .int .u8 98, .int .u8 99] 5 (3, 4))) := (Below.refl _ _).alloc (Nat.le_refl _) _
      have HD := Lib.hid (digest_any _ (some ⟨w3.heap.size, 0, none⟩) 3 3 _ hB3 (by omega) (by omega) (HL3.out.below HL3.out.lt hbl))
      have HBl := Lib.hid hbl
      clear hB3 hbl
      go_wp2_with (first | (go_at_call 6; refine HD.out.mono ?_; rintro e w5 ⟨rfl, hb5⟩; have HB5 := Lib.hid hb5; clear hb5) | (go_at_call 8; refine (hex_any _ _ (by simp [outList]) (out_lt _)).mono ?_; rintro e w6 ⟨rfl, hb6⟩; have HB6 := Lib.hid hb6; clear hb6; rw [abc_str]))
      go_ret
      refine ⟨rfl, ?_⟩
      have e1 := HW.out.trans (HBl.out.mono HW.out.size)
      have e2 := e1.trans (HB5.out.mono e1.size)
      exact e2.trans (HB6.out.mono e2.size)
end Go.Proofs.YtnpohlimedhopaaDoor.sumOther
