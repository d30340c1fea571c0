/- The names of flags, as the program tells them. -/
import Derived.Test.YtbhhcijfciapgaaDoorFlgT
import Derived.Test.YtbhhcijfciapgaaDoorFlgS
namespace Go.Proofs.YtbhhcijfciapgaaDoor.flg
open Go.ChangeShapes Go.WideShapes Go.ChangeAt Go.RowKit Go.Proofs.YtbhhcijfciapgaaDoor.alk
set_option linter.unusedVariables false
set_option linter.unusedSimpArgs false

theorem info9 : ∃ i, Tryd.prog.info? 9 = some i ∧ i.zero = some (.string ⟨#[]⟩) ∧ i.size = 1 ∧ i.bytes = 16 := by
  have h : (Tryd.prog.info? 9).map (fun i => (i.zero, i.size, i.bytes)) = some (some (.string ⟨#[]⟩), 1, 16) := by kernel_rfl
  cases hq : Tryd.prog.info? 9 with
  | none => rw [hq] at h; cases h
  | some i =>
    rw [hq] at h
    simp only [Option.map_some, Option.some.injEq, Prod.mk.injEq] at h
    exact ⟨i, rfl, h.1, h.2.1, h.2.2⟩
def svals (l : List ByteArray) : List Value := l.map Value.string
/-- The slice holds these texts, in a row of the call's own. -/
def Tx (w : World) (B : Nat) (v : Value) (l : List ByteArray) : Prop := w.ownsRow B 9 1 v l.length (svals l)
theorem join_any (w : World) (B : Nat) (v : Value) (l : List ByteArray) (h : Tx w B v l) (hl : l.length ≤ 1000) (hj : (Lib.join (l.map (·.data.toList)) [32]).length ≤ 1000) :
    Calls Tryd.prog 15 #[v, .string ⟨#[32]⟩] w fun e w' => e = .returned (.string ⟨(Lib.join (l.map (·.data.toList)) [32]).toArray⟩) ∧ Below w.heap.size w w' := by
  rcases h.2 with ⟨rfl, hn⟩ | ⟨g, cap, cur, rfl, hbg, hg, hnc, hcm, hcs, htake⟩
  · have : l = [] := List.eq_nil_of_length_eq_zero hn
    subst this
    refine (Tryd.strings_Join_none none 0 ⟨#[32]⟩ w).mono ?_
    rintro e w' ⟨rfl, rfl⟩
    exact ⟨rfl, Below.refl _ _⟩
  · refine (Tryd.strings_Join g 0 cap l ⟨#[32]⟩ w (fun j x hx => ?_) (h.lt g rfl).2 (by omega) hnc (Nat.le_trans hj (by omega))).mono ?_
    · have := h.cells (g := g) rfl j (.string x) (by unfold svals; rw [List.getElem?_map, hx]; rfl)
      rwa [show (⟨g, 0, none⟩ : Addr).add j = ⟨g, 0 + j, none⟩ by unfold Addr.add; split <;> simp_all] at this
    · rintro e w' ⟨rfl, hb⟩
      exact ⟨rfl, hb⟩

theorem names_on (m k : Nat) (h : m.testBit k = true) : names m (k + 1) = names m k ++ [nmS k] := by
  show names m k ++ (if m.testBit k then [nmS k] else []) = _
  rw [h]; rfl
theorem names_off (m k : Nat) (h : m.testBit k = false) : names m (k + 1) = names m k := by
  show names m k ++ (if m.testBit k then [nmS k] else []) = _
  rw [h, if_neg (by decide), List.append_nil]

set_option maxHeartbeats 3200000 in
theorem print_any (w : World) (x : Int) (hN : Names w) :
    Calls Tryd.prog 9 #[.int .i64 x] w fun e w' => e = .returned (.string ⟨(printL (five x)).toArray⟩) ∧ Below w.heap.size w w' := by
  obtain ⟨m, hm⟩ : ∃ m, five x = m := ⟨_, rfl⟩
  have hm32 : m < 32 := hm ▸ five_lt x
  have HX := Lib.hid (fun (k : Nat) (hk : k < 5) (b : Bool) (h : m.testBit k = b) => bit_and x k (b := b) (by rw [bitB_five x k hk, hm]; exact h))
  have HL := Lib.hid (lists_len m hm32)
  rw [hm]
  clear hm hm32
  obtain ⟨t, fr, hN⟩ := hN
  obtain ⟨i0, hi, hz0, hz1, hz2⟩ := info9
  have HC := Lib.hid hN
  have HI := Lib.hid (fun k hk w => index_five k hk w)
  clear hN
  go_enter Tryd.func9, Tryd.ntmps9
  go_wp2_with (refine wpList_load_row rfl 32 (.global 0) rfl 0 rfl t names5 fr _ HC.out Tryd.underlying32 rfl rfl ?_)
  go_loopw [3, 7] (fun v i wr => ∃ k : Nat, k ≤ 5 ∧ i = .int .i64 k ∧ Tx wr w.heap.size v (names m k) ∧ Below w.heap.size w wr) (fun _ i _ => 5 - (intOf i).toNat)
  case atStart => exact ⟨0, Nat.zero_le _, rfl, World.ownsRow_nil w _ _ 1, Below.refl _ _⟩
  case round =>
    obtain ⟨k, hk, rfl, hT, hb⟩ := hrel
    have hnl := names_len m k
    by_cases hk5 : k < 5
    · have hI := HI.out k hk5
      have hX0 := HX.out k hk5
      obtain ⟨q, hq⟩ : ∃ q, nmS k = q := ⟨_, rfl⟩
      cases hbit : m.testBit k
      · have hX := hX0 _ hbit
        have HS := Lib.hid (names_off m k hbit)
        simp only [Bool.false_eq_true, if_false] at hX
        rw [hq] at hI
        obtain ⟨l, hl⟩ : ∃ l, names m k = l := ⟨_, rfl⟩
        rw [hl] at hT HS hnl
        clear hX0 hbit hq hl
        unfold names5
        go_wp2
        exact ⟨⟨k + 1, hk5, by simp, by rw [HS.out]; exact hT, hb⟩, by simp [intOf]; omega⟩
      · have hX := hX0 _ hbit
        have HS := Lib.hid (names_on m k hbit)
        simp only [if_true] at hX
        rw [hq] at hI HS
        obtain ⟨l, hl⟩ : ∃ l, names m k = l := ⟨_, rfl⟩
        rw [hl] at hT HS hnl
        clear hX0 hbit hq hl
        unfold names5
        go_wp2_with (at_builtin; refine wpList_append_own _ rfl _ _ 23 rfl w.heap.size 9 i0 (.string ⟨#[]⟩) 1 16 Tryd.underlying23 hi hz0 hz1 hz2 rfl (by decide) _ _ _ rfl (World.ownsRow.alloc hT _) ⟨wr.heap.size, 0, none⟩ 1 1 [.string q] rfl rfl ?c1 ?c2 ?c3 ?c4 ?c5 ?_)
        case c1 =>
          intro j u hj
          match j, hj with
          | 0, hj => simp at hj; subst hj; simp [Addr.add]
        case c2 => intro u hu; simp at hu; subst hu; rfl
        case c3 => unfold maxLen; omega
        case c4 => omega
        case c5 => have := hb.size; simp; omega
        intro v' w1 hown hgrow _
        have hT1 : Tx w1 w.heap.size v' (l ++ [q]) := by
          unfold Tx svals
          rw [List.length_append, List.map_append]
          exact hown
        have hb1 : Below w.heap.size w w1 := (hb.alloc hb.size _).grown hgrow (by have := hb.size; simp; omega) (fun g hg => (World.ownsRow.lt hT g hg).1)
        clear hown hgrow hT hb
        go_wp2
        exact ⟨⟨k + 1, hk5, by simp, by rw [HS.out]; exact hT1, hb1⟩, by simp [intOf]; omega⟩
    · obtain rfl : k = 5 := by omega
      have HJ := Lib.hid (join_any wr w.heap.size _ _ hT (by omega) (Nat.le_trans HL.out (by omega)))
      have hz : (⟨(lists m).toArray⟩ : ByteArray).size ≤ 50 := HL.out
      have hr : (⟨(printL m).toArray⟩ : ByteArray) = ⟨#[40]⟩ ++ ⟨(lists m).toArray⟩ ++ ⟨#[41]⟩ := by
        show (⟨([40] ++ lists m ++ [41]).toArray⟩ : ByteArray) = (⟨[40].toArray⟩ ++ ⟨(lists m).toArray⟩ : ByteArray) ++ ⟨[41].toArray⟩
        rw [text_cat, text_cat]
      have HR := Lib.hid hr
      change Hid (Calls _ _ _ _ fun e w' => e = .returned (.string ⟨(lists m).toArray⟩) ∧ Below wr.heap.size wr w') at HJ
      obtain ⟨s, hs⟩ : ∃ s, (⟨(lists m).toArray⟩ : ByteArray) = s := ⟨_, rfl⟩
      rw [hs] at HJ HR hz
      clear hs hr
      go_wp2_with (go_at_call 15; refine HJ.out.mono ?_; rintro e w2 ⟨rfl, hb2⟩)
      go_ret
      refine ⟨?_, hb.trans (hb2.mono hb.size)⟩
      rw [HR.out]
      rfl
end Go.Proofs.YtbhhcijfciapgaaDoor.flg
