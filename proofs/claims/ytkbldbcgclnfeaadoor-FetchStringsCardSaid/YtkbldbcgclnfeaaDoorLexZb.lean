/- What stands between tokens, as the program reads it. -/
import Derived.Test.YtkbldbcgclnfeaaDoorLexZa
namespace Go.Proofs.YtkbldbcgclnfeaaDoor.lx
open Go.ChangeShapes Go.WideShapes Go.ChangeAt Go.RowKit
open Go.Proofs.YtkbldbcgclnfeaaDoor.codec (Bytes vals)
open Go.Proofs.YtkbldbcgclnfeaaDoor.row
set_option linter.unusedVariables false
set_option maxRecDepth 100000
set_option linter.unusedSimpArgs false

def cT (t : Tk) : List Value := [.int .i64 t.k, .string (strOf t.t)]
theorem fT : Fm cT 2 := ⟨fun _ => rfl, fun y u hu => by simp [cT] at hu; rcases hu with rfl | rfl <;> rfl⟩
theorem infoT : (Tryd.prog.info? 29).map (fun i => (i.zero, i.size, i.bytes)) = some (some (.agg #[.int .i64 0, .string ⟨#[]⟩]), 2, 24) := by kernel_rfl
theorem tok_at {w : World} {A : Option Addr} {n : Nat} {ys : List Tk} (h : Rd cT 2 w A n ys) (k : Nat) (hk : k < n) : ∃ b o y, A = some ⟨b, o, none⟩ ∧ ys[k]? = some y ∧ w.cell? ⟨b, o + k * 2, none⟩ = some (.int .i64 y.k) ∧ w.cell? ⟨b, o + k * 2 + 1, none⟩ = some (.string (strOf y.t)) := by
  obtain ⟨b, o, y, h1, h2, h3⟩ := h.2 k hk
  exact ⟨b, o, y, h1, h2, h3 0 _ rfl, h3 1 _ rfl⟩
theorem one_prefix {b : List Nat} (hb : ∀ x ∈ b, x < 256) {s : Nat} (hs : s < 256) : Lib.hasPrefix (octs b) (octs [s]) = decide (b.head? = some s) := by
  unfold Lib.hasPrefix
  cases b with
  | nil => rfl
  | cons x r =>
    have hx := hb x (by simp)
    show ((UInt8.ofNat s == UInt8.ofNat x) && true) = _
    rw [Bool.and_true]
    by_cases h : x = s
    · rw [h]; simp
    · rw [decide_eq_false (by simpa using h), beq_eq_false_iff_ne]
      exact fun e => h (oct_inj hs hx e).symm
/-- What cutting a gap off answers. -/
def GapAns (w : World) (A : Option Addr) (n c : Nat) (b : List Nat) (o : Option (List Nat)) (e : Ending) (w' : World) : Prop :=
  Below w.heap.size w w' ∧ ∃ (R : Option Addr) (m d : Nat), e = .returned (.tuple #[.slice R m d, .bool o.isSome]) ∧ ∀ c', o = some c' → ∀ w0, Sl w0 A n c b → Sl w0 R m d c'
theorem lastK_at {acc : List Tk} {m : Nat} {t : Tk} (hm : acc.length = m + 1) (h : acc[m]? = some t) : lastK acc = t.k := by
  unfold lastK
  rw [List.getLast?_eq_getElem?, hm, Nat.add_sub_cancel, h]
theorem cutP_any (w : World) (b0 o0 n c g s : Nat) (b : List Nat) (hS : Sl w (some ⟨b0, o0, none⟩) n c b) (hn : 0 < n) (hg : w.cell? ⟨g, 0, none⟩ = some (.int .u8 (s : Nat))) (hs : s < 256) :
    Calls Tryd.prog 18 #[.slice (some ⟨b0, o0, none⟩) n c, .slice (some ⟨g, 0, none⟩) 1 1] w fun e w' => e = .returned (if b.head? = some s then .tuple #[.slice (if c = 1 then some ⟨b0, o0, none⟩ else some ⟨b0, o0 + 1, none⟩) (n - 1) (c - 1), .bool (decide (b.head? = some s))] else .tuple #[.slice (some ⟨b0, o0, none⟩) n c, .bool (decide (b.head? = some s))]) ∧ w' = w := by
  have hB := sep_in hg hs
  refine (Tryd.bytes_CutPrefix_all (some ⟨b0, o0, none⟩) (some ⟨g, 0, none⟩) n c 1 1 (b.map Int.ofNat) ([s].map Int.ofNat) w (by rw [List.length_map]; exact hS.1.1) rfl hS.2.1 (Bytes.into hS.1) (Bytes.into hB)).mono ?_
  rintro e w' ⟨rfl, rfl⟩
  refine ⟨?_, rfl⟩
  have key : Lib.trimPrefixV (some ⟨b0, o0, none⟩) n c (b.map Int.ofNat) ([s].map Int.ofNat) = Lib.bytesTrimPrefix b0 o0 n c (b.map Int.ofNat) ([s].map Int.ofNat) := rfl
  rw [key]
  unfold Lib.bytesTrimPrefix Lib.sliceFrom
  rw [octs_of, octs_of, one_prefix hS.1.2.1 hs]
  by_cases h : b.head? = some s
  · rw [if_pos h, decide_eq_true h]
    rfl
  · rw [if_neg h, decide_eq_false h]
    rfl
set_option maxHeartbeats 4000000 in
theorem cutGap_any (w : World) (AV : Option Addr) (nv cv : Nat) (acc : List Tk) (hR : Rd cT 2 w AV nv acc) (hnv : nv ≤ 1000000) (A : Option Addr) (n c : Nat) (b : List Nat) (hS : Sl w A n c b) (hn : 0 < n) :
    Calls Tryd.prog 12 #[.slice AV nv cv, .slice A n c] w fun e w' => GapAns w A n c b (gap acc b) e w' := by
  have HS := Lib.hid hS
  have hnc := hS.2.1
  obtain ⟨b0, o0, rfl, -⟩ := hS.1.2.2 hn
  obtain ⟨x, hx, hx2, hxc⟩ := byte_at hS.1 hn
  rw [Nat.add_zero] at hxc
  have hlb : b0 < w.heap.size := block_lt_of_cell hxc
  have l0 : (0 : Int) < (n : Int) := by omega
  have hhd : b.head? = some x := by rw [List.head?_eq_getElem?]; exact hx
  clear hS hx
  rcases Nat.eq_zero_or_pos nv with h0 | h0
  · have HO := Lib.hid (show gap acc b = some b by
      have : acc = [] := List.eq_nil_of_length_eq_zero (by rw [hR.1, h0])
      unfold gap
      rw [if_pos (.inl (by rw [this]; rfl))])
    have q0 : ((nv : Int) == 0) = true := by rw [beq_iff_eq]; omega
    clear h0 hR hhd
    go_enter Tryd.func12, Tryd.ntmps12
    go_wp2_with fail
    go_ret2
    exact ⟨Below.refl _ _, _, _, _, by rw [HO.out]; rfl, fun c' h w0 h0 => by rw [HO.out] at h; cases h; exact h0⟩
  · obtain ⟨m, hm⟩ : ∃ m, m = nv - 1 := ⟨_, rfl⟩
    obtain ⟨b1, o1, y, rfl, hy, c1, -⟩ := tok_at hR m (by omega)
    have hlk := lastK_at (m := m) (by rw [hR.1]; omega) hy
    have q0 : ((nv : Int) == 0) = false := by rw [beq_eq_false_iff_ne]; omega
    have e1 : IntKind.i64.wrap ((nv : Int) - 1) = (m : Int) := (IntWalk.i64_in _ (by omega)).trans (by omega)
    have l1 : (m : Int) < (nv : Int) := by omega
    have lb1 : b1 < w.heap.size := block_lt_of_cell c1
    generalize y.k = K at *
    clear hR hy hm h0
    by_cases hK : K = 3
    · have HO := Lib.hid (show gap acc b = some b by unfold gap; rw [if_pos (.inl (by rw [hlk, hK]))])
      have q1 : (K == 3) = true := by rw [beq_iff_eq]; exact hK
      clear hK hlk hhd
      go_enter Tryd.func12, Tryd.ntmps12
      go_wp2_with fail
      go_ret2
      exact ⟨Below.refl _ _, _, _, _, by rw [HO.out]; rfl, fun c' h w0 h0 => by rw [HO.out] at h; cases h; exact h0⟩
    · have q1 : (K == 3) = false := by rw [beq_eq_false_iff_ne]; exact hK
      by_cases h41x : x = 41
      · have HO := Lib.hid (show gap acc b = some b by unfold gap; rw [if_pos (.inr (by rw [hhd, h41x]))])
        have q2 : ((x : Int) == 41) = true := by rw [beq_iff_eq]; omega
        clear hK hlk hhd h41x
        go_enter Tryd.func12, Tryd.ntmps12
        go_wp2_with fail
        go_ret2
        exact ⟨Below.refl _ _, _, _, _, by rw [HO.out]; rfl, fun c' h w0 h0 => by rw [HO.out] at h; cases h; exact h0⟩
      · have q2 : ((x : Int) == 41) = false := by rw [beq_eq_false_iff_ne]; omega
        have HNo := Lib.hid (show ¬ (lastK acc = 3 ∨ b.head? = some 41) from by
          rintro (h | h)
          · exact hK (by rw [← hlk]; exact h)
          · rw [hhd] at h
            exact h41x (Option.some.inj h))
        clear hK hlk hhd h41x
        obtain ⟨W2, hW2⟩ : ∃ W2, W2 = w.alloc (.cells #[.int .u8 32] 5) := ⟨_, rfl⟩
        obtain ⟨g, hg⟩ : ∃ g, g = w.heap.size := ⟨_, rfl⟩
        have hb2 : Below w.heap.size w W2 := by rw [hW2]; exact (Below.refl _ _).alloc (Nat.le_refl _) _
        have hg2 : W2.cell? ⟨g, 0, none⟩ = some (.int .u8 ((32 : Nat) : Nat)) := by rw [hW2, hg]; simp
        have HCut := Lib.hid (cutP_any W2 b0 o0 n c g 32 b (HS.out.below hb2) (by omega) hg2 (by decide))
        have HW2 := Lib.hid hW2
        have HG := Lib.hid hg
        have HB2 := Lib.hid hb2
        clear hW2 hg hb2 hg2
        by_cases h32 : b.head? = some 32
        · rw [if_pos h32, decide_eq_true h32] at HCut
          obtain ⟨R, hR⟩ : ∃ R, R = (if c = 1 then some (⟨b0, o0, none⟩ : Addr) else some ⟨b0, o0 + 1, none⟩) := ⟨_, rfl⟩
          obtain ⟨m, hm⟩ : ∃ m, m = n - 1 := ⟨_, rfl⟩
          obtain ⟨d, hd⟩ : ∃ d, d = c - 1 := ⟨_, rfl⟩
          rw [← hR, ← hm, ← hd] at HCut
          have hSR : ∀ w0, Sl w0 (some ⟨b0, o0, none⟩) n c b → Sl w0 R m d b.tail := fun w0 h0 => by
            have h1 := h0.rest 1 (by omega)
            rw [hR, hm, hd]
            rw [← List.drop_one]
            by_cases hc : c = 1
            · rw [if_pos hc] at h1 ⊢; exact h1
            · rw [if_neg hc] at h1 ⊢; simpa [codec.add_none] using h1
          have HSR := Lib.hid hSR
          obtain ⟨W4, hW4⟩ : ∃ W4, W4 = W2.alloc (.cells #[.int .u8 41] 5) := ⟨_, rfl⟩
          obtain ⟨g4, hg4⟩ : ∃ g4, g4 = W2.heap.size := ⟨_, rfl⟩
          have hb4 : Below W2.heap.size W2 W4 := by rw [hW4]; exact (Below.refl _ _).alloc (Nat.le_refl _) _
          have hc4 : W4.cell? ⟨g4, 0, none⟩ = some (.int .u8 ((41 : Nat) : Nat)) := by rw [hW4, hg4]; simp
          have hS4 := hSR W4 ((HS.out.below HB2.out).below hb4)
          have hHas := Tryd.bytes_HasPrefix_all R (some ⟨g4, 0, none⟩) m d 1 1 (b.tail.map Int.ofNat) ([41].map Int.ofNat) W4 (by rw [List.length_map]; exact hS4.1.1) rfl hS4.2.1 (Bytes.into hS4.1) (Bytes.into (sep_in hc4 (by decide)))
          rw [octs_of, octs_of, one_prefix hS4.1.2.1 (by decide)] at hHas
          have HHas := Lib.hid hHas
          have HW4 := Lib.hid hW4
          have HG4 := Lib.hid hg4
          have HB4 := Lib.hid (HB2.out.trans (hb4.mono HB2.out.size))
          clear hR hm hd hSR hW4 hg4 hb4 hc4 hS4 hHas
          by_cases h41 : b.tail.head? = some 41
          · rw [decide_eq_true h41] at HHas
            have HO := Lib.hid (show gap acc b = none by unfold gap; rw [if_neg HNo.out, if_neg (fun h => h.2 h41)])
            go_enter Tryd.func12, Tryd.ntmps12
            go_wp2_with fail
            rw [← HW2.out, ← HG.out]
            refine HCut.out.mono ?_
            rintro e w9 ⟨rfl, hw⟩
            replace hw := hw.symm
            subst hw
            go_wp2_with fail
            rw [← HW4.out, ← HG4.out]
            refine HHas.out.mono ?_
            rintro e w9 ⟨rfl, hw⟩
            replace hw := hw.symm
            subst hw
            go_wp2_with fail
            go_ret2
            exact ⟨HB4.out, R, m, d, by rw [HO.out]; rfl, fun c' h => by rw [HO.out] at h; cases h⟩
          · rw [decide_eq_false h41] at HHas
            have HO := Lib.hid (show gap acc b = some b.tail by unfold gap; rw [if_neg HNo.out, if_pos ⟨h32, h41⟩])
            go_enter Tryd.func12, Tryd.ntmps12
            go_wp2_with fail
            rw [← HW2.out, ← HG.out]
            refine HCut.out.mono ?_
            rintro e w9 ⟨rfl, hw⟩
            replace hw := hw.symm
            subst hw
            go_wp2_with fail
            rw [← HW4.out, ← HG4.out]
            refine HHas.out.mono ?_
            rintro e w9 ⟨rfl, hw⟩
            replace hw := hw.symm
            subst hw
            go_wp2_with fail
            go_ret2
            exact ⟨HB4.out, R, m, d, by rw [HO.out]; rfl, fun c' h => by rw [HO.out] at h; cases h; exact HSR.out⟩
        · rw [if_neg h32, decide_eq_false h32] at HCut
          have HO := Lib.hid (show gap acc b = none by unfold gap; rw [if_neg HNo.out, if_neg (fun h => h32 h.1)])
          go_enter Tryd.func12, Tryd.ntmps12
          go_wp2_with fail
          rw [← HW2.out, ← HG.out]
          refine HCut.out.mono ?_
          rintro e w9 ⟨rfl, hw⟩
          replace hw := hw.symm
          subst hw
          go_wp2_with fail
          go_ret2
          exact ⟨HB2.out, _, _, _, by rw [HO.out]; rfl, fun c' h => by rw [HO.out] at h; cases h⟩
end Go.Proofs.YtkbldbcgclnfeaaDoor.lx
