/- Any text, as it is told, is read as it was. -/
import Derived.Test.YtkbldbcgclnfeaaDoorFetB
import Derived.Test.YtkbldbcgclnfeaaDoorLexZc
namespace Go.Proofs.YtkbldbcgclnfeaaDoor.fet
open Go.ChangeShapes hiding strOf
open Go.WideShapes Go.ChangeAt Go.RowKit
open Go.Proofs.YtkbldbcgclnfeaaDoor.lx
open Go.Proofs.YtkbldbcgclnfeaaDoor.row
set_option linter.unusedVariables false
set_option linter.unusedSimpArgs false
set_option maxRecDepth 100000

/-- What is told, as bytes of its own, is read as one text. -/
theorem again_any (w : World) (l : List Nat) (hl : ∀ x ∈ l, x < 256) (hn : l.length ≤ 100000) (T : ByteArray) (hT : T = strOf (tellL l)) (hr : Room w) :
    Calls Tryd.prog 6 #[.slice (some ⟨w.heap.size, 0, none⟩) T.size (grownCap w T.size 0 5)] (Lib.bytesWorld w 5 T) fun e w' => ∃ b o cv, e = .returned (.tuple #[.slice (some ⟨b, o, none⟩) 1 cv, .bool true]) ∧ (w'.cell? ⟨b, o, none⟩ = some (.int .i64 2) ∧ w'.cell? ⟨b, o + 1, none⟩ = some (.string (strOf l))) ∧ Below w.heap.size w w' := by
  obtain ⟨g1, g2, g3⟩ := str_lies w (tellL l) (tell_bytes hl)
  rw [← hT] at g1 g2 g3
  have hlen : T.size ≤ 1000000 := by
    have := (tell_len (s := l) (by omega)).2
    rw [hT, strOf_size]
    omega
  refine (tokens_any (Lib.bytesWorld w 5 T) _ _ _ _ g1 hlen (hr.below g2)).mono ?_
  rintro e w' ⟨hb2, h2⟩
  rw [toks_tell l (by omega)] at h2
  rcases h2 with ⟨h2, -⟩ | ⟨l2, v, h2, he, hO⟩
  · cases h2
  · cases h2
    obtain ⟨AV, cv, rfl, -, -, hRd⟩ := hO.rd fT
    obtain ⟨b, o, y, rfl, hy, c0, c1⟩ := tok_at hRd 0 (by simp)
    have hy2 : y = ⟨2, l⟩ := by simpa using hy.symm
    subst hy2
    refine ⟨b, o, cv, he, ⟨by simpa using c0, by simpa using c1⟩, g2.trans (hb2.mono (by omega))⟩
theorem head_at {l : List Nat} (hl : ∀ x ∈ l, x < 256) {T : ByteArray} (hT : T = strOf (tellL l)) (hn : l.length ≤ 100000) : ∃ h : 0 < T.size, (T[0]'h).toNat = if plainL l = true then 34 else 123 := by
  have h1 := (tell_len (s := l) (by omega)).1
  have h : 0 < T.size := by rw [hT, strOf_size]; omega
  refine ⟨h, ?_⟩
  obtain ⟨x, hx, -, hg⟩ := char_at hT (tell_bytes hl) h
  rw [hg]
  rw [tell_head] at hx
  exact (Option.some.inj hx).symm
set_option maxHeartbeats 8000000 in
theorem strings_walk (W : World) (s : ByteArray) (ht : Tens W) (hr : Room W) :
    Calls Tryd.prog 3 #[.string s] W fun e w' => e = .returned (.bool true) ∧ Below W.heap.size W w' := by
  obtain ⟨l, hs, hl⟩ := strOf_bytes s
  have hz : s.size = l.length := by rw [hs, strOf_size]
  have HW := Lib.hid (awake_any W ht)
  have HT := Lib.hid ht
  have HR := Lib.hid hr
  have HS := Lib.hid hs
  have HL := Lib.hid hl
  have HZ := Lib.hid hz
  clear ht hr hs hl hz
  by_cases hn : s.size ≤ 3000
  · have q1 : decide ((3000 : Int) < (s.size : Int)) = false := decide_eq_false (by omega)
    have q2 : decide (3000 < s.size) = false := decide_eq_false (by omega)
    have HN := Lib.hid (show l.length ≤ 3000 by have := HZ.out; omega)
    go_enter Tryd.func3, Tryd.ntmps3
    go_wp2_with fail
    refine HW.out.mono ?_
    rintro e w1 ⟨rfl, hb1⟩
    have HB1 := Lib.hid hb1
    have HSt := Lib.hid (string_any w1 s l HS.out HL.out (by have := HN.out; omega) (HT.out.below hb1))
    obtain ⟨T, hT⟩ : ∃ T, T = strOf (tellL l) := ⟨_, rfl⟩
    rw [← hT] at HSt
    have HTd := Lib.hid hT
    obtain ⟨h0, hh⟩ := head_at HL.out hT (by have := HN.out; omega)
    have HH := Lib.hid hh
    clear hb1 hT hh
    go_wp2_with fail
    refine HSt.out.mono ?_
    rintro e w2 ⟨rfl, hb2⟩
    have HB2 := Lib.hid (HB1.out.trans (hb2.mono HB1.out.size))
    have HTk := Lib.hid (again_any w2 l HL.out (by have := HN.out; omega) T HTd.out (HR.out.below HB2.out))
    rw [← HS.out] at HTk
    have hcv := fun (w' : World) (s : ByteArray) => Lib.run_convert_string_bytes (P := Tryd.prog) w' 9 27 5 s Tryd.underlying9 Tryd.underlying27 Tryd.underlying5
    clear hb2 q1 q2
    go_wp2_with fail
    refine HTk.out.mono ?_
    rintro e w3 ⟨b, o, cv, rfl, ⟨c0, c1⟩, hb3⟩
    have HB3 := Lib.hid (HB2.out.trans (hb3.mono HB2.out.size))
    clear hb3 hcv
    go_wp2_with fail
    go_loop [6, 26] (fun p i => ∃ (k : Nat) (B : Bool), k ≤ s.size ∧ i = .int .i64 k ∧ p = .bool B ∧ Hid (plainL (l.take k) = B)) (fun _ i => s.size - (intOf i).toNat)
    case atStart => exact ⟨0, true, Nat.zero_le _, rfl, rfl, Lib.hid rfl⟩
    case round =>
      obtain ⟨k, B, hk, rfl, rfl, HP⟩ := hrel
      have e0 : IntKind.i64.wrap ((k : Int) + 1) = (k : Int) + 1 := IntWalk.i64_in _ (by omega)
      by_cases hlt : k < s.size
      · have hlt' : (k : Int) < (s.size : Int) := by omega
        obtain ⟨x, hx, hx2, hg⟩ := char_at HS.out HL.out hlt
        have HX := Lib.hid (plain_take hx)
        clear hx
        cases B with
        | false =>
          have HE : Hid (plainL (l.take (k + 1)) = false) := Lib.hid (by rw [HX.out, HP.out]; rfl)
          go_wp2_with fail
          go_round
          case rel => first | exact ⟨k + 1, false, by omega, by go_num, rfl, HE⟩ | ((repeat apply Exists.intro); exact ⟨⟨k + 1, false, by omega, by go_num, rfl, HE⟩, rfl⟩)
          case measure => (show s.size - ((k : Int) + 1).toNat < s.size - k; omega)
        | true =>
          by_cases h1 : x < 32
          · have HE : Hid (plainL (l.take (k + 1)) = false) := Lib.hid (by rw [HX.out, HP.out]; simp [okB]; omega)
            have q1 : decide (32 ≤ x) = false := decide_eq_false (by omega)
            have q2 : decide ((32 : Int) ≤ (x : Int)) = false := decide_eq_false (by omega)
            go_wp2_with fail
            go_round
            case rel => first | exact ⟨k + 1, false, by omega, by go_num, rfl, HE⟩ | ((repeat apply Exists.intro); exact ⟨⟨k + 1, false, by omega, by go_num, rfl, HE⟩, rfl⟩)
            case measure => (show s.size - ((k : Int) + 1).toNat < s.size - k; omega)
          · have q1 : decide (32 ≤ x) = true := decide_eq_true (by omega)
            have q2 : decide ((32 : Int) ≤ (x : Int)) = true := decide_eq_true (by omega)
            by_cases h2 : 126 < x
            · have HE : Hid (plainL (l.take (k + 1)) = false) := Lib.hid (by rw [HX.out, HP.out]; simp [okB]; omega)
              have q3 : decide (x ≤ 126) = false := decide_eq_false (by omega)
              have q4 : decide ((x : Int) ≤ 126) = false := decide_eq_false (by omega)
              go_wp2_with fail
              go_round
              case rel => first | exact ⟨k + 1, false, by omega, by go_num, rfl, HE⟩ | ((repeat apply Exists.intro); exact ⟨⟨k + 1, false, by omega, by go_num, rfl, HE⟩, rfl⟩)
              case measure => (show s.size - ((k : Int) + 1).toNat < s.size - k; omega)
            · have HE : Hid (plainL (l.take (k + 1)) = true) := Lib.hid (by rw [HX.out, HP.out]; simp [okB]; omega)
              have q3 : decide (x ≤ 126) = true := decide_eq_true (by omega)
              have q4 : decide ((x : Int) ≤ 126) = true := decide_eq_true (by omega)
              go_wp2_with fail
              go_round
              case rel => first | exact ⟨k + 1, true, by omega, by go_num, rfl, HE⟩ | ((repeat apply Exists.intro); exact ⟨⟨k + 1, true, by omega, by go_num, rfl, HE⟩, rfl⟩)
              case measure => (show s.size - ((k : Int) + 1).toNat < s.size - k; omega)
      · obtain rfl : k = s.size := by omega
        have HE := Lib.hid (show plainL l = B by
          have := HP.out
          rwa [List.take_of_length_le (by rw [HZ.out]; exact Nat.le_refl _)] at this)
        have hh := HH.out
        rw [HE.out] at hh
        cases B with
        | true =>
          have hh2 : (T[0]'h0).toNat = 34 := hh
          clear hh
          go_wp2_with fail
          try go_quiet (fail)
          try go_wp2_with fail
          go_ret
          exact ⟨rfl, HB3.out⟩
        | false =>
          have hh2 : (T[0]'h0).toNat = 123 := hh
          have HC := Lib.hid (rcounted_any w3 s l HS.out (by have := HN.out; omega))
          rw [show cntL l = tellL l by unfold tellL; rw [if_neg (by rw [HE.out]; decide)], ← HTd.out] at HC
          clear hh
          go_wp2_with fail
          refine HC.out.mono ?_
          rintro e w4 ⟨rfl, hb4⟩
          have HB4 := Lib.hid (HB3.out.trans (hb4.mono HB3.out.size))
          clear hb4
          go_wp2_with fail
          go_ret
          exact ⟨rfl, HB4.out⟩
  · have q1 : decide ((3000 : Int) < (s.size : Int)) = true := decide_eq_true (by omega)
    have q2 : decide (3000 < s.size) = true := decide_eq_true (by omega)
    clear hn
    go_enter Tryd.func3, Tryd.ntmps3
    go_wp2_with fail
    refine HW.out.mono ?_
    rintro e w1 ⟨rfl, hb1⟩
    have HB1 := Lib.hid hb1
    have HW1 := Lib.hid (awake_any w1 (HT.out.below hb1))
    clear hb1
    go_wp2_with fail
    refine HW1.out.mono ?_
    rintro e w2 ⟨rfl, hb2⟩
    have HB2 := Lib.hid (HB1.out.trans (hb2.mono HB1.out.size))
    clear hb2
    go_wp2_with fail
    go_ret
    exact ⟨rfl, HB2.out⟩
end Go.Proofs.YtkbldbcgclnfeaaDoor.fet
