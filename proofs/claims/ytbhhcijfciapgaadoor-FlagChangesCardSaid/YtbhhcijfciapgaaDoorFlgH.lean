/- The flags of names, as the program reads them; what comes in. -/
import Derived.Test.YtbhhcijfciapgaaDoorFlgF
import Derived.Test.YtbhhcijfciapgaaDoorFlgG
import Derived.SliceStrings
namespace Go.Proofs.YtbhhcijfciapgaaDoor.flg
open Go.ChangeShapes Go.WideShapes Go.ChangeAt Go.RowKit Go.Proofs.YtbhhcijfciapgaaDoor.alk
set_option linter.unusedVariables false
set_option linter.unusedSimpArgs false

/-- A slice of n texts, each at most Z bytes. -/
def Strs (w : World) (v : Value) (n Z : Nat) (X : Nat → ByteArray) : Prop :=
  ∃ a cap, v = .slice a n cap ∧ (0 < n → ∃ b o, a = some ⟨b, o, none⟩ ∧ b < w.heap.size ∧ ∀ j, j < n → w.cell? ⟨b, o + j, none⟩ = some (.string (X j)) ∧ (X j).size ≤ Z)
theorem Strs.below {w w' : World} {v : Value} {n Z : Nat} {X : Nat → ByteArray} (h : Strs w v n Z X) (hb : Below w.heap.size w w') : Strs w' v n Z X := by
  obtain ⟨a, cap, hv, h⟩ := h
  refine ⟨a, cap, hv, fun hn => ?_⟩
  obtain ⟨b, o, ha, hlt, hc⟩ := h hn
  exact ⟨b, o, ha, Nat.lt_of_lt_of_le hlt hb.size, fun j hj => ⟨(hb.cell (p := ⟨b, o + j, none⟩) hlt).trans (hc j hj).1, (hc j hj).2⟩⟩
/-- A slice of texts that came in. -/
theorem strs_in {H : Type} {enc : TypeId × Value → H} {W : World} {a0 : Option Addr} {len0 cap0 : Nat} {d0 : DataW H} {p0 : List MemPlace} (h0 : DataW.Trod enc Tryd.prog W 0 (fun _ => true) true 23 (.slice a0 len0 cap0) d0 p0) :
    ∃ X, Strs W (.slice a0 len0 cap0) len0 maxLen X ∧ len0 ≤ maxLen := by
  obtain ⟨fuel, hf⟩ := h0
  rcases open_strings Tryd.underlying23 Tryd.underlying9 (by kernel_rfl) hf with ⟨hcs, _⟩ | ⟨x, l, c, zs, hcs, _, hl, hm, hz, _, hcell, hwz⟩
  · simp [Value.cells] at hcs
    obtain ⟨rfl, rfl, rfl⟩ := hcs
    exact ⟨fun _ => ByteArray.empty, ⟨none, 0, rfl, fun h => absurd h (by omega)⟩, Nat.zero_le _⟩
  · simp [Value.cells] at hcs
    obtain ⟨rfl, rfl, rfl⟩ := hcs
    have hz' : zs.length = cap0 := by simpa using hz
    refine ⟨fun j => zs.getD j ByteArray.empty, ⟨some x, cap0, rfl, fun hn => ?_⟩, by omega⟩
    obtain ⟨b, o, spot⟩ := x
    have h0 := hcell 0 (by omega)
    have hspot : spot = none := by simpa [Addr.add] using World.cell?_spot h0
    subst hspot
    have ha : ∀ i, (Addr.mk b o none).add i = ⟨b, o + i, none⟩ := fun i => by unfold Addr.add; split <;> simp_all
    refine ⟨b, o, rfl, ?_, fun j hj => ⟨?_, ?_⟩⟩
    · have := block_lt_of_cell h0
      rw [ha] at this
      exact this
    · rw [← ha, hcell j (by omega)]
    · have hj' : j < zs.length := by omega
      have e : zs.getD j ByteArray.empty = zs[j] := by simp [List.getD, hj']
      show (zs.getD j ByteArray.empty).size ≤ maxLen
      rw [e]
      exact hwz _ (List.getElem_mem hj')

theorem i64_or_nat (a b : Nat) (ha : a < 32) (hb : b < 32) : bits .or .i64 (a : Int) (b : Int) = ((a ||| b : Nat) : Int) := by
  have e : bits .or .i64 (a : Int) (b : Int) = IntKind.i64.wrap ((BitVec.ofInt 64 (a : Int) ||| BitVec.ofInt 64 (b : Int)).toNat : Nat) := rfl
  have h := Nat.or_lt_two_pow (n := 5) ha hb
  rw [e, BitVec.toNat_or, BitVec.toNat_ofInt, BitVec.toNat_ofInt, IntKind.wrap_i64]
  have e1 : ((a : Int) % ((2 ^ 64 : Nat) : Int)).toNat = a := by omega
  have e2 : ((b : Int) % ((2 ^ 64 : Nat) : Int)).toNat = b := by omega
  rw [e1, e2]
  omega

theorem parse_none (w : World) (a : Option Addr) (cap : Nat) :
    Calls Tryd.prog 8 #[.slice a 0 cap] w fun e w' => e = .returned (.tuple #[.int .i64 0, .bool true]) ∧ w' = w := by
  go_enter Tryd.func8, Tryd.ntmps8
  go_wp2
  go_loop [4, 10] (fun f x => f = .int .i64 0 ∧ x = .int .i64 0) (fun _ _ => 0)
  case atStart => exact ⟨rfl, rfl⟩
  case round =>
    obtain ⟨rfl, rfl⟩ := hrel
    go_wp2
    go_ret2
    exact ⟨rfl, rfl⟩
set_option maxHeartbeats 3200000 in
theorem named_none (w : World) (a : Option Addr) (cap : Nat) :
    Calls Tryd.prog 11 #[.slice a 0 cap] w fun e w' => e = .returned (.tuple #[.int .i64 0, .bool true]) ∧ Below w.heap.size w w' := by
  obtain ⟨g, hg⟩ : ∃ g, w.heap.size = g := ⟨_, rfl⟩
  have HROW := Lib.hid (row_new w 35 (fun _ => ByteArray.empty))
  have HB0 := Lib.hid ((Below.refl g w).alloc (by omega) (.cells #[.bool false, .bool false, .bool false, .bool false, .bool false] 35))
  rw [hg] at HROW
  rw [hg]
  go_enter Tryd.func11, Tryd.ntmps11
  go_wp2
  clear hg
  go_loopw [13] (fun x wr => x = .int .i64 0 ∧ wr.rowIs g 35 5 (fun j => .bool ((0 : Nat).testBit j)) ∧ Hid (Below g w wr)) (fun x _ => 0)
  case atStart => exact ⟨rfl, HROW.out, HB0.out⟩
  case round =>
    obtain ⟨rfl, hrow, hbl⟩ := hrel
    obtain ⟨m, hm'⟩ : ∃ m, 0 = m := ⟨_, rfl⟩
    have hm : m < 32 := by omega
    rw [hm'] at hrow
    have HM := Lib.hid hm'
    have HRL := Lib.hid hrow.lt
    clear hm'
    go_wp2
    go_loop [8, 9, 32] (fun s x y => ∃ k : Nat, k ≤ 5 ∧ y = .int .i64 k ∧ x = .int .i64 (2 ^ k : Nat) ∧ s = .int .i64 (sumB m k : Nat)) (fun _ _ y => 5 - (intOf y).toNat)
    case atStart => exact ⟨0, Nat.zero_le _, rfl, rfl, rfl⟩
    case round =>
      obtain ⟨k, hk, rfl, rfl, rfl⟩ := hrel
      by_cases hk5 : k < 5
      · have hd : (2 ^ k : Nat) ≤ 16 := by
          rcases five_cases hk5 with rfl | rfl | rfl | rfl | rfl <;> decide
        have hl := sumB_lt m k
        have hs : sumB m (k + 1) = sumB m k + (if m.testBit k then 2 ^ k else 0) := rfl
        have hd2 : (2 ^ (k + 1) : Nat) = 2 ^ k * 2 := Nat.pow_succ 2 k
        have hcl := hrow.cell hk5
        obtain ⟨d, hd'⟩ : ∃ d : Nat, 2 ^ k = d := ⟨_, rfl⟩
        obtain ⟨s, hn⟩ : ∃ s : Nat, sumB m k = s := ⟨_, rfl⟩
        rw [hd'] at hd hl hs hd2 ⊢
        rw [hn] at hl hs ⊢
        cases hbit : m.testBit k
        all_goals
          rw [hbit] at hs hcl
          have HS := Lib.hid hs
          have HD := Lib.hid hd2
          clear hs hd2 hbit hn hd'
          go_wp2
          refine ⟨⟨k + 1, hk5, by simp, ?_, ?_⟩, by simp [intOf]; omega⟩
          · rw [HD.out]; push_cast; rfl
          · rw [HS.out]; rfl
      · obtain rfl : k = 5 := by omega
        have HSB := Lib.hid (sumB_five m hm)
        obtain ⟨s, hn⟩ : ∃ s : Nat, sumB m 5 = s := ⟨_, rfl⟩
        rw [hn] at HSB ⊢
        clear hn
        go_wp2
        go_ret2
        rw [HSB.out, ← HM.out]
        exact ⟨rfl, hbl.out⟩
set_option maxHeartbeats 3200000 in
theorem parse_some (w : World) (b o n cap Z : Nat) (X : Nat → ByteArray) (hn : n ≤ 1000) (hc : ∀ j, j < n → w.cell? ⟨b, o + j, none⟩ = some (.string (X j)) ∧ (X j).size ≤ Z) (hb : b < w.heap.size) (hT : Tab w) :
    Calls Tryd.prog 8 #[.slice (some ⟨b, o, none⟩) n cap] w fun e w' => e = .returned (.tuple #[.int .i64 (parN X n : Nat), .bool (fineB X n)]) ∧ Below w.heap.size w w' := by
  have HCE := Lib.hid hc
  have HT := Lib.hid hT
  have HBG := Lib.hid hb
  clear hc hb hT
  go_enter Tryd.func8, Tryd.ntmps8
  go_wp2
  go_loopw [4, 10] (fun f x wr => ∃ i : Nat, i ≤ n ∧ x = .int .i64 i ∧ f = .int .i64 (ors X i : Nat) ∧ Hid (∀ j, j < i → (bitN (X j) != 0) = true) ∧ Hid (Below w.heap.size w wr)) (fun _ x _ => n - (intOf x).toNat)
  case atStart => exact ⟨0, Nat.zero_le _, rfl, rfl, fun j h => absurd h (Nat.not_lt_zero _), Below.refl _ _⟩
  case round =>
    obtain ⟨i, hi, rfl, rfl, hh, hbl⟩ := hrel
    by_cases hin : i < n
    · have HCR := Lib.hid (show wr.cell? ⟨b, o + i, none⟩ = some (.string (X i)) from (hbl.out.cell (p := ⟨b, o + i, none⟩) HBG.out).trans (HCE.out i hin).1)
      have HBI := Lib.hid (bitOf_any wr (X i) (HT.out.below hbl.out))
      have hor := i64_or_nat _ _ (ors_lt X i) (bitN_lt (X i))
      have hs : ors X (i + 1) = ors X i ||| bitN (X i) := rfl
      have hl := ors_lt X i
      have hl2 := bitN_lt (X i)
      have HNX := Lib.hid (show (bitN (X i) != 0) = true → ∀ j, j < i + 1 → (bitN (X j) != 0) = true by
        intro h j hj
        rcases Nat.lt_succ_iff_lt_or_eq.1 hj with h' | rfl
        · exact hh.out j h'
        · exact h)
      have HNO := Lib.hid (fun h => fine_false (X := X) i hin h)
      have hcr := HCR.out
      have k1 : (0 : Int) ≤ (i : Int) := by omega
      have k2 : (i : Int) < (n : Int) := by omega
      obtain ⟨q, hq⟩ : ∃ q, bitN (X i) = q := ⟨_, rfl⟩
      obtain ⟨m, hm⟩ : ∃ m, ors X i = m := ⟨_, rfl⟩
      rw [hq] at HBI hor hs hl2 HNX HNO
      rw [hm] at hor hs hl ⊢
      have HS := Lib.hid hs
      have HOR := Lib.hid hor
      clear hs hm hq hor
      by_cases hz : q = 0
      · have HP := Lib.hid (HNO.out (by rw [hz]; rfl))
        subst hz
        clear HNX HNO
        go_wp2_with (go_at_call 14; refine HBI.out.mono ?_; rintro e w2 ⟨rfl, hb2⟩)
        go_ret2
        unfold parN
        rw [HP.out]
        exact ⟨rfl, hbl.out.trans (hb2.mono hbl.out.size)⟩
      · have hqb : ((q : Int) == 0) = false := by rw [beq_eq_false_iff_ne]; omega
        have HN := Lib.hid (HNX.out (by simpa using hz))
        clear hz HNX HNO
        go_wp2_with (go_at_call 14; refine HBI.out.mono ?_; rintro e w2 ⟨rfl, hb2⟩)
        exact ⟨⟨i + 1, hin, by simp, by rw [HS.out, HOR.out], HN.out, hbl.out.trans (hb2.mono hbl.out.size)⟩, by simp [intOf]; omega⟩
    · obtain rfl : i = n := by omega
      have HP := Lib.hid (fine_true hh.out)
      have HPR := Lib.hid (show parN X i = ors X i by unfold parN; rw [HP.out]; rfl)
      obtain ⟨m, hm⟩ : ∃ m, ors X i = m := ⟨_, rfl⟩
      rw [hm] at HPR ⊢
      clear hm
      go_wp2
      go_ret2
      rw [HP.out, HPR.out]
      exact ⟨rfl, hbl.out⟩
theorem parse_any (w : World) (v : Value) (n Z : Nat) (X : Nat → ByteArray) (hn : n ≤ 1000) (h : Strs w v n Z X) (hT : Tab w) :
    Calls Tryd.prog 8 #[v] w fun e w' => e = .returned (.tuple #[.int .i64 (parN X n : Nat), .bool (fineB X n)]) ∧ Below w.heap.size w w' := by
  obtain ⟨a, cap, rfl, h⟩ := h
  by_cases h0 : n = 0
  · subst h0
    refine (parse_none w a cap).mono ?_
    rintro e w' ⟨rfl, rfl⟩
    exact ⟨rfl, Below.refl _ _⟩
  · obtain ⟨b, o, rfl, hlt, hc⟩ := h (by omega)
    exact parse_some w b o n cap Z X hn hc hlt hT
theorem named_any (w : World) (v : Value) (n Z : Nat) (X : Nat → ByteArray) (hn : n ≤ 1000) (hZ : Z ≤ 1000) (h : Strs w v n Z X) :
    Calls Tryd.prog 11 #[v] w fun e w' => e = .returned (.tuple #[.int .i64 (parN X n : Nat), .bool (fineB X n)]) ∧ Below w.heap.size w w' := by
  obtain ⟨a, cap, rfl, h⟩ := h
  by_cases h0 : n = 0
  · subst h0
    exact named_none w a cap
  · obtain ⟨b, o, rfl, hlt, hc⟩ := h (by omega)
    exact named_some w b o n cap X hn (fun j hj => ⟨(hc j hj).1, Nat.le_trans (hc j hj).2 hZ⟩) hlt
end Go.Proofs.YtbhhcijfciapgaaDoor.flg
