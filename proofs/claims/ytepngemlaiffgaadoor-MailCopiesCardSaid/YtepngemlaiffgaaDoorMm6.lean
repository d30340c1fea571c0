/- Which messages are named. -/
import Derived.Test.YtepngemlaiffgaaDoorMm5
namespace Go.Proofs.YtepngemlaiffgaaDoor.mal
open Go.ChangeShapes Go.WideShapes Go.ChangeAt Go.RowKit
open Go.Proofs.YtepngemlaiffgaaDoor.codec (Bytes vals)
open Go.Proofs.YtepngemlaiffgaaDoor.bod (cell_at Fit boxed named formedB fitsB)
open Go.Proofs.YtepngemlaiffgaaDoor.lg (Nt Y Rd Own Oct cM fM fl fl_at nts nts_at nts_len take_next)
set_option linter.unusedVariables false
set_option maxRecDepth 100000
set_option linter.unusedSimpArgs false

/-- Numbers that lie there. -/
def Nums (w : World) (B : Option Addr) (q : Nat) (U : List Nat) : Prop := U.length = q ∧ ∀ k, k < q → ∃ b o x, B = some ⟨b, o, none⟩ ∧ U[k]? = some x ∧ w.cell? ⟨b, o + k, none⟩ = some (.int .u32 (x : Nat))
theorem Nums.below {w w' : World} {B : Option Addr} {q : Nat} {U : List Nat} (h : Nums w B q U) (hb : Below w.heap.size w w') : Nums w' B q U := by
  refine ⟨h.1, fun k hk => ?_⟩
  obtain ⟨b, o, x, h1, h2, h3⟩ := h.2 k hk
  exact ⟨b, o, x, h1, h2, (hb.cell (p := ⟨b, o + k, none⟩) (block_lt_of_cell h3)).trans h3⟩
theorem Nums.of {w : World} {B : Option Addr} {q : Nat} {U : List Nat} (h1 : U.length = q) (h2 : 0 < q → ∃ b o, B = some ⟨b, o, none⟩ ∧ ∀ i, i < q → w.cell? ⟨b, o + i, none⟩ = some (.int .u32 (U.getD i 0 : Nat))) : Nums w B q U := by
  refine ⟨h1, fun k hk => ?_⟩
  obtain ⟨b, o, e, hc⟩ := h2 (by omega)
  have hk' : k < U.length := by omega
  refine ⟨b, o, U[k], e, List.getElem?_eq_getElem hk', ?_⟩
  rw [hc k hk]
  simp [List.getD, hk']
/-- Is a number among some? -/
def inB (U : List Nat) (v : Nat) : Bool := U.any fun x => decide (x = v)
theorem any_at {α : Type} {p : α → Bool} {l : List α} {k : Nat} {x : α} (h : l[k]? = some x) : (l.drop k).any p = (p x || (l.drop (k + 1)).any p) := by
  obtain ⟨h1, h2⟩ := List.getElem?_eq_some_iff.1 h
  rw [List.drop_eq_getElem_cons h1, List.any_cons, h2]
theorem any_end {α : Type} {p : α → Bool} {l : List α} {k : Nat} (h : l.length ≤ k) : (l.drop k).any p = false := by
  rw [List.drop_eq_nil_of_le h]
  rfl
set_option maxHeartbeats 1000000 in
theorem in_any (W : World) (B : Option Addr) (q c : Nat) (U : List Nat) (v : Nat) (hU : Nums W B q U) (hq : q ≤ 1000000) :
    Calls Tryd.prog 42 #[.slice B q c, .int .u32 (v : Nat)] W fun e w' => e = .returned (.bool (inB U v)) ∧ w' = W := by
  have HU := Lib.hid hU
  clear hU
  go_enter Tryd.func42, Tryd.ntmps42
  go_wp2
  go_loop [8] (fun i => ∃ k : Nat, k ≤ q ∧ i = .int .i64 k ∧ Hid (inB U v = (U.drop k).any fun x => decide (x = v))) (fun i => q - (intOf i).toNat)
  case atStart => exact ⟨0, Nat.zero_le _, rfl, Lib.hid rfl⟩
  case round =>
    obtain ⟨k, hk, rfl, HA⟩ := hrel
    by_cases hlt : k < q
    · obtain ⟨b, o, x, rfl, hx, hc⟩ := HU.out.2 k hlt
      have hlt' : (k : Int) < (q : Int) := by omega
      have HT := Lib.hid (HA.out.trans (any_at (p := fun x => decide (x = v)) hx))
      clear hx
      by_cases hxv : x = v
      · have q1 : ((x : Int) == (v : Int)) = true := by rw [beq_iff_eq]; omega
        have HF := Lib.hid (show inB U v = true by rw [HT.out, decide_eq_true hxv]; rfl)
        clear hxv
        go_wp2
        go_ret
        exact ⟨by rw [HF.out]; rfl, rfl⟩
      · have q1 : ((x : Int) == (v : Int)) = false := by rw [beq_eq_false_iff_ne]; omega
        have HF := Lib.hid (show inB U v = (U.drop (k + 1)).any fun x => decide (x = v) by rw [HT.out, decide_eq_false hxv]; rfl)
        clear hxv
        go_wp2
        go_round
        case rel => first | exact ⟨k + 1, by omega, by go_num, HF⟩ | ((repeat apply Exists.intro); exact ⟨⟨k + 1, by omega, by go_num, HF⟩, rfl⟩)
        case measure => (show q - ((k : Int) + 1).toNat < q - k; omega)
    · obtain rfl : k = q := by omega
      have HF := Lib.hid (HA.out.trans (any_end (Nat.le_of_eq HU.out.1)))
      go_wp2
      go_ret
      exact ⟨by rw [HF.out]; rfl, rfl⟩
def cmpI (u v : Nat) : Int := if u < v then -1 else if v < u then 1 else 0
theorem nan_any (w : World) (x : Nat) : Calls Tryd.prog 63 #[.int .u32 (x : Nat)] w fun e w' => e = .returned (.bool false) ∧ w' = w := by
  go_enter Tryd.func63, Tryd.ntmps63
  go_wp2
  go_ret
  exact ⟨by simp, rfl⟩
theorem cmp_any (w : World) (u v : Nat) : Calls Tryd.prog 59 #[.int .u32 (u : Nat), .int .u32 (v : Nat)] w fun e w' => e = .returned (.int .i64 (cmpI u v)) ∧ w' = w := by
  unfold cmpI
  by_cases h1 : u < v
  · have q1 : decide (u < v) = true := decide_eq_true h1
    rw [if_pos h1]
    clear h1
    go_enter Tryd.func59, Tryd.ntmps59
    go_wp2_with (go_at_call 63; refine (nan_any _ _).mono ?_; rintro e w1 ⟨rfl, hw⟩; replace hw := hw.symm; subst hw)
    go_ret
    exact ⟨rfl, rfl⟩
  · have q1 : decide (u < v) = false := decide_eq_false h1
    rw [if_neg h1]
    by_cases h2 : v < u
    · have q2 : decide (v < u) = true := decide_eq_true h2
      rw [if_pos h2]
      clear h1 h2
      go_enter Tryd.func59, Tryd.ntmps59
      go_wp2_with (go_at_call 63; refine (nan_any _ _).mono ?_; rintro e w1 ⟨rfl, hw⟩; replace hw := hw.symm; subst hw)
      go_ret
      exact ⟨rfl, rfl⟩
    · have q2 : decide (v < u) = false := decide_eq_false h2
      rw [if_neg h2]
      clear h1 h2
      go_enter Tryd.func59, Tryd.ntmps59
      go_wp2_with (go_at_call 63; refine (nan_any _ _).mono ?_; rintro e w1 ⟨rfl, hw⟩; replace hw := hw.symm; subst hw)
      go_ret
      exact ⟨rfl, rfl⟩
theorem byUID_any (w : World) (u v : Nat) (d f : Int) (A : Option Addr) (n c : Nat) :
    Calls Tryd.prog 54 #[.agg #[.int .u32 u, .int .i64 d, .int .i64 f, .slice A n c], .int .u32 (v : Nat)] w fun e w' => e = .returned (.int .i64 (cmpI u v)) ∧ Below w.heap.size w w' := by
  go_enter Tryd.func54, Tryd.ntmps54
  go_wp2_with (go_at_call 59; refine (cmp_any _ _ _).mono ?_; rintro e w1 ⟨rfl, hw⟩; replace hw := hw.symm; subst hw)
  go_ret
  exact ⟨rfl, (Below.refl _ _).alloc (Nat.le_refl _) _⟩
/-- The UIDs rise. -/
def Up (l : List Nt) : Prop := ∀ (i j : Nat) (s t : Nt), i < j → l[i]? = some s → l[j]? = some t → s.u < t.u
theorem up_of {X : Nat} {l : List Nt} (h : (rise X l).2 = true) : Up l := by
  have key : ∀ (l : List Nt) (st : Nat × Bool), (l.foldl (ris X) st).2 = true → (∀ (i : Nat) (t : Nt), l[i]? = some t → st.1 < t.u) ∧ Up l := by
    intro l
    induction l with
    | nil => exact fun st _ => ⟨by simp, by intro i j s t _ h; simp at h⟩
    | cons n r ih =>
      intro st hl
      rw [List.foldl_cons] at hl
      have h1 : (ris X st n).2 = true := by
        cases hb : (ris X st n).2 with
        | true => rfl
        | false => rw [rise_false r _ hb] at hl; cases hl
      unfold ris at h1
      simp only [Bool.and_eq_true, decide_eq_true_eq] at h1
      obtain ⟨k1, k2⟩ := ih _ hl
      have k1' : ∀ (i : Nat) (t : Nt), r[i]? = some t → n.u < t.u := k1
      refine ⟨fun i t ht => ?_, fun i j s t hij hs ht => ?_⟩
      · cases i with
        | zero => simp at ht; subst ht; exact h1.2.1
        | succ i => exact Nat.lt_trans h1.2.1 (k1' i t (by simpa using ht))
      · cases j with
        | zero => omega
        | succ j =>
          cases i with
          | zero => simp at hs; subst hs; exact k1' j t (by simpa using ht)
          | succ i => exact k2 i j s t (by omega) (by simpa using hs) (by simpa using ht)
  exact (key l _ h).2
/-- Where the search has come to. -/
def Part (l : List Nt) (v a b : Nat) : Prop := (∀ (k : Nat) (t : Nt), k < a → l[k]? = some t → t.u < v) ∧ ∀ (k : Nat) (t : Nt), b ≤ k → l[k]? = some t → v ≤ t.u
/-- What the search answers. -/
def Found (l : List Nt) (v : Nat) (z : Nat) (b : Bool) : Prop := z ≤ l.length ∧ (b = true → ∃ t, l[z]? = some t ∧ t.u = v) ∧ (∀ (j : Nat) (t : Nt), l[j]? = some t → t.u = v → b = true ∧ j = z)
set_option maxHeartbeats 2000000 in
theorem search_any (W : World) (A : Option Addr) (n c : Nat) (qs : List Y) (v : Nat) (hR : Rd cM 4 W A n qs) (hn : n ≤ 1000000) (hup : Up (nts qs)) :
    Calls Tryd.prog 53 #[.slice A n c, .int .u32 (v : Nat), .func (.func 54) #[] #[]] W fun e w' => ∃ z b, e = .returned (.tuple #[.int .i64 (z : Nat), .bool b]) ∧ Found (nts qs) v z b ∧ Below W.heap.size W w' := by
  have HR := Lib.hid hR
  have HU := Lib.hid hup
  have HL := Lib.hid (show (nts qs).length = n by rw [nts_len, hR.1])
  clear hR hup
  go_enter Tryd.func53, Tryd.ntmps53
  go_wp2
  go_loopw [9, 10] (fun i j wr => ∃ a b : Nat, a ≤ b ∧ b ≤ n ∧ i = .int .i64 a ∧ j = .int .i64 b ∧ Hid (Part (nts qs) v a b) ∧ Hid (Below W.heap.size W wr)) (fun i j _ => (intOf j - intOf i).toNat)
  case atStart => exact ⟨0, n, Nat.zero_le _, Nat.le_refl _, rfl, rfl, Lib.hid ⟨fun k t h => absurd h (Nat.not_lt_zero _), fun k t h ht => by have := (List.getElem?_eq_some_iff.1 ht).1; have := HL.out; omega⟩, Lib.hid (Below.refl _ _)⟩
  case round =>
    obtain ⟨a, b, hab, hbn, rfl, rfl, HI, HB⟩ := hrel
    by_cases hlt : a < b
    · have hlt' : (a : Int) < (b : Int) := by omega
      obtain ⟨h, hh⟩ : ∃ h, h = (a + b) / 2 := ⟨_, rfl⟩
      have hhn : h < n := by omega
      have HH := Lib.hid (show a ≤ h ∧ h < b by omega)
      obtain ⟨bb, o, ⟨⟨tk, te, ts, tu, td, tf, to_⟩, a1, A1, m1, c1⟩, rfl, hx, d0, d1, d2, d3, -⟩ := (HR.out.below HB.out).at4 h hhn
      simp only [] at d0 d1 d2 d3
      have HX := Lib.hid (nts_at hx)
      have e1 : IntKind.u64.wrap ((a : Int) + (b : Int)) = (a : Int) + (b : Int) := IntWalk.u64_in _ (by omega)
      have e2 : ((a : Int) + (b : Int)) / 2 = (h : Int) := by omega
      have hhn' : (h : Int) < (n : Int) := by omega
      clear hx hh
      go_wp2_with fail
      refine (byUID_any wr tu v td tf A1 m1 c1).mono ?_
      rintro e w1 ⟨rfl, hb1⟩
      have HB1 := Lib.hid (HB.out.trans (hb1.mono HB.out.size))
      clear hb1 d0 d1 d2 d3
      by_cases huv : tu < v
      · have hz : cmpI tu v = -1 := if_pos huv
        rw [hz]
        have HP := Lib.hid (show Part (nts qs) v (h + 1) b from ⟨fun k t hk ht => by
          rcases Nat.lt_or_eq_of_le (Nat.lt_succ_iff.1 hk) with hk | rfl
          · exact Nat.lt_trans (HU.out k h t _ hk ht HX.out) huv
          · rw [HX.out] at ht
            cases ht
            exact huv, HI.out.2⟩)
        clear hz huv
        go_wp2_with fail
        go_roundw
        case rel => first | exact ⟨h + 1, b, by have := HH.out; omega, hbn, by go_num, rfl, HP, HB1⟩ | ((repeat apply Exists.intro); exact ⟨⟨h + 1, b, by have := HH.out; omega, hbn, by go_num, rfl, HP, HB1⟩, rfl⟩)
        case measure => (show ((b : Int) - ((h : Int) + 1)).toNat < ((b : Int) - (a : Int)).toNat; have := HH.out; omega)
      · have hz : decide (cmpI tu v < 0) = false := by
          unfold cmpI
          rw [if_neg huv]
          split <;> rfl
        generalize cmpI tu v = z at *
        have HP := Lib.hid (show Part (nts qs) v a h from ⟨HI.out.1, fun k t hk ht => by
          rcases Nat.lt_or_eq_of_le hk with hk | rfl
          · have := HU.out h k _ t hk HX.out ht
            simp only [] at this
            omega
          · rw [HX.out] at ht
            cases ht
            exact Nat.le_of_not_lt huv⟩)
        clear huv
        go_wp2_with fail
        go_roundw
        case rel => first | exact ⟨a, h, by have := HH.out; omega, by omega, rfl, by go_num, HP, HB1⟩ | ((repeat apply Exists.intro); exact ⟨⟨a, h, by have := HH.out; omega, by omega, rfl, by go_num, HP, HB1⟩, rfl⟩)
        case measure => (show ((h : Int) - (a : Int)).toNat < ((b : Int) - (a : Int)).toNat; have := HH.out; omega)
    · obtain rfl : a = b := by omega
      by_cases han : a < n
      · have han' : (a : Int) < (n : Int) := by omega
        obtain ⟨bb, o, ⟨⟨tk, te, ts, tu, td, tf, to_⟩, a1, A1, m1, c1⟩, rfl, hx, d0, d1, d2, d3, -⟩ := (HR.out.below HB.out).at4 a han
        simp only [] at d0 d1 d2 d3
        have HX := Lib.hid (nts_at hx)
        clear hx
        go_wp2_with fail
        refine (byUID_any wr tu v td tf A1 m1 c1).mono ?_
        rintro e w1 ⟨rfl, hb1⟩
        have HB1 := Lib.hid (HB.out.trans (hb1.mono HB.out.size))
        clear hb1 d0 d1 d2 d3
        have huv : v ≤ tu := HI.out.2 a _ (Nat.le_refl _) HX.out
        by_cases he : tu = v
        · have hz : cmpI tu v = 0 := by unfold cmpI; rw [if_neg (by omega), if_neg (by omega)]
          rw [hz]
          have HF := Lib.hid (show Found (nts qs) v a true from ⟨by rw [HL.out]; omega, fun _ => ⟨_, HX.out, he⟩, fun j t hj ht => ⟨rfl, by
            rcases Nat.lt_trichotomy j a with h | h | h
            · have := HI.out.1 j t h hj
              omega
            · exact h
            · have := HU.out a j _ t h HX.out hj
              simp only [] at this
              omega⟩⟩)
          clear hz huv he
          go_wp2_with fail
          go_ret2
          exact ⟨a, true, rfl, HF.out, HB1.out⟩
        · have hz : (cmpI tu v == 0) = false := by
            unfold cmpI
            rw [if_neg (by omega), if_pos (by omega)]
            rfl
          generalize cmpI tu v = z at *
          have HF := Lib.hid (show Found (nts qs) v a false from ⟨by rw [HL.out]; omega, (fun h => by cases h), fun j t hj ht => by
            exfalso
            rcases Nat.lt_trichotomy j a with h | h | h
            · have := HI.out.1 j t h hj
              omega
            · subst h
              rw [HX.out] at hj
              cases hj
              exact he ht
            · have := HU.out a j _ t h HX.out hj
              simp only [] at this
              omega⟩)
          clear huv he
          go_wp2_with fail
          go_ret2
          exact ⟨a, false, by simp [hz], HF.out, HB1.out⟩
      · obtain rfl : a = n := by omega
        have HF := Lib.hid (show Found (nts qs) v a false from ⟨by rw [HL.out]; exact Nat.le_refl _, (fun h => by cases h), fun j t hj ht => by
          exfalso
          have h1 := (List.getElem?_eq_some_iff.1 hj).1
          have h2 := HI.out.1 j t (by have := HL.out; omega) hj
          omega⟩)
        go_wp2_with fail
        go_ret2
        exact ⟨a, false, rfl, HF.out, HB.out⟩
end Go.Proofs.YtepngemlaiffgaaDoor.mal
namespace Go.Proofs.YtepngemlaiffgaaDoor.mal
open Go.ChangeShapes Go.WideShapes Go.ChangeAt Go.RowKit
open Go.Proofs.YtepngemlaiffgaaDoor.codec (Bytes vals)
open Go.Proofs.YtepngemlaiffgaaDoor.bod (cell_at Fit boxed named formedB fitsB)
open Go.Proofs.YtepngemlaiffgaaDoor.lg (Nt Y Rd Own Oct cM fM fl fl_at nts nts_at nts_len take_next)
set_option linter.unusedVariables false
set_option maxRecDepth 100000
set_option linter.unusedSimpArgs false

/-- Is the message at j named? -/
def isN (l : List Nt) (U : List Nat) (j : Nat) : Bool := match l[j]? with
  | some t => inB U t.u
  | none => false
theorem isN_at {l : List Nt} {U : List Nat} {j : Nat} {t : Nt} (h : l[j]? = some t) : isN l U j = inB U t.u := by unfold isN; rw [h]
theorem inB_snoc (U : List Nat) (x v : Nat) : inB (U ++ [x]) v = (inB U v || decide (x = v)) := by simp [inB]
theorem isN_yes {l : List Nt} {U : List Nat} {k x z n g : Nat} {T : TypeId} {w : World} (hx : U[k]? = some x) (hn : l.length = n) (hF : Found l x z true) (h : w.rowIs g T n (fun j => .bool (isN l (U.take k) j))) : (w.setCell ⟨g, z, none⟩ (.bool true)).rowIs g T n (fun j => .bool (isN l (U.take (k + 1)) j)) := by
  refine (h.set _ _).congr fun j hj => ?_
  have hj2 : l[j]? = some l[j] := List.getElem?_eq_getElem (by omega)
  simp only [take_next hx, isN_at hj2, inB_snoc]
  obtain ⟨t, ht, hu⟩ := hF.2.1 rfl
  by_cases e : j = z
  · subst e
    rw [hj2] at ht
    cases ht
    simp [hu]
  · have : ¬ x = l[j].u := fun h => e (hF.2.2 j _ hj2 h.symm).2
    simp only [if_neg e, decide_eq_false this, Bool.or_false]
theorem isN_no {l : List Nt} {U : List Nat} {k x z n g : Nat} {T : TypeId} {w : World} (hx : U[k]? = some x) (hn : l.length = n) (hF : Found l x z false) (h : w.rowIs g T n (fun j => .bool (isN l (U.take k) j))) : w.rowIs g T n (fun j => .bool (isN l (U.take (k + 1)) j)) := by
  refine h.congr fun j hj => ?_
  have hj2 : l[j]? = some l[j] := List.getElem?_eq_getElem (by omega)
  have : ¬ x = l[j].u := fun h => by have := (hF.2.2 j _ hj2 h.symm).1; cases this
  rw [take_next hx, isN_at hj2, isN_at hj2, inB_snoc, decide_eq_false this, Bool.or_false]
theorem info4 : (Tryd.prog.info? 4).map (fun i => (i.zero, i.size, i.bytes)) = some (some (.bool false), 1, 1) := by kernel_rfl
set_option maxHeartbeats 2000000 in
theorem named_any (W : World) (S : ByteArray) (E X : Nat) (A : Option Addr) (n c : Nat) (qs : List Y) (B : Option Addr) (q d : Nat) (U : List Nat) (hR : Rd cM 4 W A n qs) (hn : n ≤ 1000000) (hup : Up (nts qs)) (hU : Nums W B q U) (hq : q ≤ 1000000) :
    Calls Tryd.prog 40 #[.agg #[.string S, .int .u32 (E : Nat), .int .u32 (X : Nat), .slice A n c], .slice B q d] W fun e w' => ∃ g, e = .returned (.slice (some ⟨g, 0, none⟩) n n) ∧ w'.rowIs g 4 n (fun j => .bool (isN (nts qs) U j)) ∧ W.heap.size ≤ g ∧ Below W.heap.size W w' := by
  obtain ⟨W1, hW1⟩ : ∃ W1, W1 = W.alloc (.cells #[.string S, .int .u32 (E : Nat), .int .u32 (X : Nat), .slice A n c] 25) := ⟨_, rfl⟩
  have HBW := Lib.hid (show Below W.heap.size W W1 by rw [hW1]; exact (Below.refl _ _).alloc (Nat.le_refl _) _)
  have hX1 : W1.heap[W.heap.size]? = some (.cells #[.string S, .int .u32 (E : Nat), .int .u32 (X : Nat), .slice A n c] 25 (0, 0)) := by rw [hW1]; exact heap_alloc_new _ _
  obtain ⟨W2, hW2⟩ : ∃ W2, W2 = W1.alloc (.cells (madeCells #[.bool false] n) 4) := ⟨_, rfl⟩
  have HB2 := Lib.hid (show Below W1.heap.size W1 W2 by rw [hW2]; exact (Below.refl _ _).alloc (Nat.le_refl _) _)
  have hr0 : W2.rowIs W1.heap.size 4 n (fun j => .bool (isN (nts qs) (U.take 0) j)) := by
    rw [hW2]
    refine (World.rowIs_made W1 (.bool false) n 4).congr fun j hj => ?_
    obtain ⟨t, hj2⟩ : ∃ t, (nts qs)[j]? = some t := ⟨_, List.getElem?_eq_getElem (by rw [nts_len, hR.1]; exact hj)⟩
    rw [isN_at hj2]
    rfl
  have HR0 := Lib.hid hr0
  have HX2 := Lib.hid (fun (w' : World) (h : Below W1.heap.size W1 w') => cell_at (show w'.heap[W.heap.size]? = some (.cells #[.string S, .int .u32 (E : Nat), .int .u32 (X : Nat), .slice A n c] 25 (0, 0)) by rw [h.block _ (by rw [hW1]; simp)]; exact hX1) 3 _ rfl)
  have HL := Lib.hid (show (nts qs).length = n by rw [nts_len, hR.1])
  have HSe := Lib.hid (fun (w' : World) (v : Nat) (h : Below W1.heap.size W1 w') => search_any w' A n c qs v (hR.below (HBW.out.trans (h.mono HBW.out.size))) hn hup)
  have HU := Lib.hid (fun (w' : World) (h : Below W1.heap.size W1 w') => hU.below (HBW.out.trans (h.mono HBW.out.size)))
  have HUl := Lib.hid hU.1
  have hmk := fun w => run_make_row' (P := Tryd.prog) 67 4 (.bool false) 1 Tryd.underlying67 info4 rfl .i64 .i64 n (by omega) (by omega) w
  have c3 := cell_at hX1 3 _ rfl
  have HW1 := Lib.hid hW1
  have HW2 := Lib.hid hW2
  rw [hW1] at c3
  clear hW1 hW2 hX1 hr0 hR hup hU
  go_enter Tryd.func40, Tryd.ntmps40
  go_wp2_with fail
  rw [← HW1.out, ← HW2.out]
  clear c3 hmk
  have hgW : W1.heap.size = W.heap.size + 1 := by rw [HW1.out]; simp
  rw [hgW] at HR0 HB2 HX2 HSe HU
  have hwg : W.heap.size ≤ W.heap.size + 1 := by omega
  generalize hg : W.heap.size + 1 = g at *
  go_loopw [16] (fun i wr => ∃ k : Nat, k ≤ q ∧ i = .int .i64 k ∧ Hid (wr.rowIs g 4 n (fun j => .bool (isN (nts qs) (U.take k) j)) ∧ Below g W1 wr)) (fun i _ => q - (intOf i).toNat)
  case atStart => exact ⟨0, Nat.zero_le _, by simp, Lib.hid ⟨HR0.out, HB2.out⟩⟩
  case round =>
    obtain ⟨k, hk, rfl, HS⟩ := hrel
    by_cases hlt : k < q
    · obtain ⟨b, o, x, rfl, hx, d0⟩ := (HU.out wr HS.out.2).2 k hlt
      have hlt' : (k : Int) < (q : Int) := by omega
      have HX := Lib.hid hx
      have e3 := HX2.out wr HS.out.2
      clear hx
      go_wp2_with fail
      refine (HSe.out wr x HS.out.2).mono ?_
      rintro e w1 ⟨z, fb, rfl, hF, hb1⟩
      have hlg : g < wr.heap.size := HS.out.1.lt
      have HBn := Lib.hid (HS.out.2.trans (hb1.mono (by omega)))
      have hrow := HS.out.1.of_block (hb1.block g hlg)
      clear d0 e3
      cases fb
      · have HN := Lib.hid (And.intro (isN_no HX.out HL.out hF hrow) HBn.out)
        clear hrow hF hb1 hlg
        go_wp2_with fail
        go_roundw
        case rel => first | exact ⟨k + 1, by omega, by go_num, HN⟩ | ((repeat apply Exists.intro); exact ⟨⟨k + 1, by omega, by go_num, HN⟩, rfl⟩)
        case measure => (show q - ((k : Int) + 1).toNat < q - k; omega)
      · have hzn : z < n := by
          obtain ⟨t, ht, -⟩ := hF.2.1 rfl
          have := (List.getElem?_eq_some_iff.1 ht).1
          have := HL.out
          omega
        have hcz : w1.cell? ⟨g, z, none⟩ = some (.bool (isN (nts qs) (U.take k) z)) := hrow.cell hzn
        have hfz := hrow.frozen z
        have hzn' : (z : Int) < (n : Int) := by omega
        have HN := Lib.hid (And.intro (isN_yes HX.out HL.out hF hrow) (HBn.out.setCell (p := ⟨g, z, none⟩) (Nat.le_refl _) (.bool true)))
        clear hrow hF hb1 hlg
        go_wp2_with fail
        go_roundw
        case rel => first | exact ⟨k + 1, by omega, by go_num, HN⟩ | ((repeat apply Exists.intro); exact ⟨⟨k + 1, by omega, by go_num, HN⟩, rfl⟩)
        case measure => (show q - ((k : Int) + 1).toNat < q - k; omega)
    · obtain rfl : k = q := by omega
      have HF := Lib.hid (show wr.rowIs g 4 n (fun j => .bool (isN (nts qs) U j)) by
        have h := HS.out.1
        rw [List.take_of_length_le (Nat.le_of_eq HUl.out)] at h
        exact h)
      go_wp2_with fail
      go_ret
      exact ⟨g, rfl, HF.out, hwg, HBW.out.trans (HS.out.2.mono hwg)⟩
/-! Some of a row are changed. -/
def upd (g : Y → Y) (ys : List Y) (k : Nat) : List Y := (ys.take k).map g ++ ys.drop k
theorem upd_zero (g : Y → Y) (ys : List Y) : upd g ys 0 = ys := rfl
theorem upd_end (g : Y → Y) {ys : List Y} {k : Nat} (h : ys.length ≤ k) : upd g ys k = ys.map g := by
  unfold upd
  rw [List.take_of_length_le h, List.drop_eq_nil_of_le h, List.append_nil]
theorem upd_at {g : Y → Y} {ys : List Y} {k : Nat} {y : Y} (h : ys[k]? = some y) : (upd g ys k)[k]? = some y := by
  have hk := (List.getElem?_eq_some_iff.1 h).1
  unfold upd
  rw [List.getElem?_append_right (by simp; omega)]
  simp only [List.length_map, List.length_take, List.getElem?_drop]
  rw [show k + (k - min k ys.length) = k by omega]
  exact h
theorem upd_next {g : Y → Y} {ys : List Y} {k : Nat} {y : Y} (h : ys[k]? = some y) : upd g ys (k + 1) = (upd g ys k).set k (g y) := by
  obtain ⟨hk, he⟩ := List.getElem?_eq_some_iff.1 h
  unfold upd
  rw [take_next h, List.map_append, List.set_append_right _ _ (by simp; omega)]
  simp only [List.length_map, List.length_take]
  rw [show k - min k ys.length = 0 by omega, List.drop_eq_getElem_cons hk, List.set_cons_zero, List.append_assoc]
  rfl
theorem upd_same {g : Y → Y} {ys : List Y} {k : Nat} {y : Y} (h : ys[k]? = some y) (hg : g y = y) : upd g ys (k + 1) = upd g ys k := by
  rw [upd_next h, hg]
  apply List.ext_getElem?
  intro j
  rw [List.getElem?_set]
  have h2 := upd_at (g := g) h
  by_cases e : k = j
  · subst e
    rw [if_pos rfl, if_pos (List.getElem?_eq_some_iff.1 h2).1, h2]
  · rw [if_neg e]
theorem upd_len (g : Y → Y) (ys : List Y) (k : Nat) : (upd g ys k).length = ys.length := by
  unfold upd
  simp
  omega
/-- A mailbox in a local variable, a result's variable beside it, and a row of the call's own. -/
structure SS (W : World) (S : ByteArray) (E X : Nat) (v : Value) (ys : List Y) (w : World) : Prop where
  box : w.heap[W.heap.size]? = some (.cells #[.string S, .int .u32 (E : Nat), .int .u32 (X : Nat), v] 25 (0, 0))
  res : w.heap[W.heap.size + 1]? = some (.cells #[.string ⟨#[]⟩, .int .u32 0, .int .u32 0, .slice none 0 0] 25 (0, 0))
  own : Own cM 4 (W.heap.size + 2) 30 w v ys
  off : ∀ y ∈ ys, ∀ ad, y.A = some ad → 0 < y.m → ad.block < W.heap.size ∨ W.heap.size + 2 ≤ ad.block
  bel : Below W.heap.size W w
theorem SS.lt {W : World} {S : ByteArray} {E X : Nat} {v : Value} {ys : List Y} {w : World} (h : SS W S E X v ys w) : W.heap.size + 1 < w.heap.size := (Array.getElem?_eq_some_iff.1 h.res).1
theorem SS.below {W : World} {S : ByteArray} {E X : Nat} {v : Value} {ys : List Y} {w w' : World} (h : SS W S E X v ys w) (hb : Below w.heap.size w w') : SS W S E X v ys w' := by
  have := h.lt
  exact ⟨by rw [hb.block _ (by omega)]; exact h.box, by rw [hb.block _ (by omega)]; exact h.res, h.own.below hb, h.off, h.bel.trans (hb.mono (by omega))⟩
/-- The flags of a message are others. -/
theorem SS.flags {W : World} {S : ByteArray} {E X g n c k : Nat} {ys : List Y} {w : World} {y : Y} {f : Int} (h : SS W S E X (.slice (some ⟨g, 0, none⟩) n c) ys w) (hy : ys[k]? = some y) : SS W S E X (.slice (some ⟨g, 0, none⟩) n c) (ys.set k { y with n := { y.n with f := f } }) (w.setCell ⟨g, k * 4 + 2, none⟩ (.int .i64 f)) := by
  have hg := h.own.lt (g := g) rfl
  have ho := h.own.2 y (List.mem_of_getElem? hy)
  refine ⟨by rw [heap_setCell_other _ _ _ _ (by show _ ≠ g; omega)]; exact h.box, by rw [heap_setCell_other _ _ _ _ (by show _ ≠ g; omega)]; exact h.res, own_put h.own hy (by decide) rfl ho.1 (fun ad e h0 e' => ho.2 ad e h0 (by rw [← e']; rfl)), fun z hz ad e h0 => ?_, h.bel.setCell (p := ⟨g, k * 4 + 2, none⟩) (by show W.heap.size ≤ g; omega) _⟩
  rcases List.mem_or_eq_of_mem_set hz with hz | rfl
  · exact h.off z hz ad e h0
  · exact h.off y (List.mem_of_getElem? hy) ad e h0
theorem SS.done {W w : World} {S : ByteArray} {E X : Nat} {A : Option Addr} {n c : Nat} {ys : List Y} (h : SS W S E X (.slice A n c) ys w) :
    let w' := (((w.setCell ⟨W.heap.size + 1, 0, none⟩ (.string S)).setCell ⟨W.heap.size + 1, 1, none⟩ (.int .u32 (E : Nat))).setCell ⟨W.heap.size + 1, 2, none⟩ (.int .u32 (X : Nat))).setCell ⟨W.heap.size + 1, 3, none⟩ (.slice A n c)
    w'.heap[W.heap.size + 1]? = some (.cells #[.string S, .int .u32 (E : Nat), .int .u32 (X : Nat), .slice A n c] 25 (0, 0)) ∧ Own cM 4 W.heap.size 30 w' (.slice A n c) ys ∧ Below W.heap.size W w' := by
  obtain ⟨k1, k2, k3⟩ := four h.res rfl (.string S) (.int .u32 (E : Nat)) (.int .u32 (X : Nat)) (.slice A n c)
  have hv : (Value.slice A n c).ownBlock ≠ some (W.heap.size + 1) := fun e => by have := (h.own.lt e).1; omega
  have hy : ∀ y ∈ ys, ∀ ad, y.A = some ad → 0 < y.m → ad.block ≠ W.heap.size + 1 := fun y hy ad e h0 => by have := h.off y hy ad e h0; omega
  have ho := own_other (u := .slice A n c) (j := 3) (own_other (u := .int .u32 (X : Nat)) (j := 2) (own_other (u := .int .u32 (E : Nat)) (j := 1) (own_other (u := .string S) (j := 0) h.own hv hy) hv hy) hv hy) hv hy
  exact ⟨k1, ⟨⟨ho.1.1, ho.1.2.imp id fun ⟨g, cap, cur, h1, h2, h3⟩ => ⟨g, cap, cur, h1, by omega, h3⟩⟩, ho.2⟩, k3 _ _ h.bel (by omega)⟩
end Go.Proofs.YtepngemlaiffgaaDoor.mal
namespace Go.Proofs.YtepngemlaiffgaaDoor.mal
open Go.ChangeShapes Go.WideShapes Go.ChangeAt Go.RowKit
open Go.Proofs.YtepngemlaiffgaaDoor.codec (Bytes vals)
open Go.Proofs.YtepngemlaiffgaaDoor.bod (cell_at Fit boxed named formedB fitsB)
open Go.Proofs.YtepngemlaiffgaaDoor.lg (Nt Y Rd Own Oct cM fM fl fl_at nts nts_at nts_len take_next)
set_option linter.unusedVariables false
set_option maxRecDepth 100000
set_option linter.unusedSimpArgs false

/-- A message whose flags are changed. -/
def chF (fg how : Int) (t : Nt) : Nt := { t with f := (flg.chgN (flg.five t.f) (flg.five fg) (flg.kind how) : Nat) }
def stT (U : List Nat) (fg how : Int) (t : Nt) : Nt := if inB U t.u = true then chF fg how t else t
def stY (U : List Nat) (fg how : Int) (y : Y) : Y := { y with n := stT U fg how y.n }
theorem stY_yes {U : List Nat} {fg how : Int} {y : Y} (h : inB U y.n.u = true) : stY U fg how y = { y with n := { y.n with f := (flg.chgN (flg.five y.n.f) (flg.five fg) (flg.kind how) : Nat) } } := by
  unfold stY stT
  rw [if_pos h]
  rfl
theorem stY_no {U : List Nat} {fg how : Int} {y : Y} (h : inB U y.n.u = false) : stY U fg how y = y := by
  unfold stY stT
  rw [h, if_neg (by simp)]
theorem stY_nts (U : List Nat) (fg how : Int) (ys : List Y) : nts (ys.map (stY U fg how)) = (nts ys).map (stT U fg how) := by
  simp only [nts, List.map_map]
  rfl
set_option maxHeartbeats 2000000 in
theorem store_wrong (W : World) (S : ByteArray) (E X : Nat) (A : Option Addr) (n c : Nat) (qs : List Y) (B : Option Addr) (q dd : Nat) (U : List Nat) (fg how : Int) (hR : Rd cM 4 W A n qs) (hn : n ≤ 1000000) (hs : S.size ≤ 100000) (hm : ∀ y ∈ qs, y.m ≤ 1000000) (hr : Fit W) (hU : Nums W B q U) (hq : q ≤ 1000000) (hw : right S E X (nts qs) = false) :
    Calls Tryd.prog 19 #[.agg #[.string S, .int .u32 (E : Nat), .int .u32 (X : Nat), .slice A n c], .slice B q dd, .int .i64 fg, .int .i64 how] W fun x w' => x = .returned (.tuple #[.agg #[.string ⟨#[]⟩, .int .u32 0, .int .u32 0, .slice none 0 0], .int .i64 1]) ∧ Below W.heap.size W w' := by
  obtain ⟨W1, hW1⟩ : ∃ W1, W1 = (W.alloc (.cells #[.string S, .int .u32 (E : Nat), .int .u32 (X : Nat), .slice A n c] 25)).alloc (.cells #[.string ⟨#[]⟩, .int .u32 0, .int .u32 0, .slice none 0 0] 25) := ⟨_, rfl⟩
  have HBW := Lib.hid (show Below W.heap.size W W1 by rw [hW1]; exact ((Below.refl _ _).alloc (Nat.le_refl _) _).alloc (by simp) _)
  have HZW := Lib.hid (show W1.heap.size = W.heap.size + 2 by rw [hW1]; simp)
  have h1 : W1.heap[W.heap.size]? = some (.cells #[.string S, .int .u32 (E : Nat), .int .u32 (X : Nat), .slice A n c] 25 (0, 0)) := by rw [hW1, heap_alloc_old _ _ (by simp)]; exact heap_alloc_new _ _
  have h2 : W1.heap[W.heap.size + 1]? = some (.cells #[.string ⟨#[]⟩, .int .u32 0, .int .u32 0, .slice none 0 0] 25 (0, 0)) := by rw [hW1]; have := heap_alloc_new (W.alloc (.cells #[.string S, .int .u32 (E : Nat), .int .u32 (X : Nat), .slice A n c] 25)) (.cells #[.string ⟨#[]⟩, .int .u32 0, .int .u32 0, .slice none 0 0] 25); simpa using this
  have HP1 := Lib.hid (fun (w' : World) (h : Below W1.heap.size W1 w') => show w'.heap[W.heap.size]? = some (.cells #[.string S, .int .u32 (E : Nat), .int .u32 (X : Nat), .slice A n c] 25 (0, 0)) from (h.block _ (by rw [HZW.out]; omega)).trans h1)
  have HP2 := Lib.hid (fun (w' : World) (h : Below W1.heap.size W1 w') => show w'.heap[W.heap.size + 1]? = some (.cells #[.string ⟨#[]⟩, .int .u32 0, .int .u32 0, .slice none 0 0] 25 (0, 0)) from (h.block _ (by rw [HZW.out]; omega)).trans h2)
  have HRt := Lib.hid (right_any W1 S E X A n c qs (hR.below HBW.out) hn hs (hr.below HBW.out))
  have HOwn := Lib.hid (fun (w' : World) (h : Below W1.heap.size W1 w') => own_any w' S E X A n c qs (hR.below (HBW.out.trans (h.mono HBW.out.size))) hn hs hm)
  have HNums := Lib.hid (fun (w' : World) (h : Below W.heap.size W w') => hU.below h)
  have c0 := cell_at (h1) 0 _ rfl
  have c1 := cell_at (h1) 1 _ rfl
  have c2 := cell_at (h1) 2 _ rfl
  have c3 := cell_at (h1) 3 _ rfl
  have HW1 := Lib.hid hW1
  rw [hW1] at c0 c1 c2 c3
  clear hW1 h1 h2
  have HRG := Lib.hid hw
  clear hw hR hm hr hU
  go_enter Tryd.func19, Tryd.ntmps19
  go_wp2_with fail
  rw [← HW1.out]
  clear c0 c1 c2 c3
  refine HRt.out.mono ?_
  rw [HRG.out]
  rintro x w1 ⟨rfl, hb1⟩
  have HB1 := Lib.hid hb1
  have hz := HP2.out _ hb1
  have HZ := Lib.hid hz
  have r0 := cell_at (hz) 0 _ rfl
  have r1 := cell_at (hz) 1 _ rfl
  have r2 := cell_at (hz) 2 _ rfl
  have r3 := cell_at (hz) 3 _ rfl
  have g0 := frozen_of_row _ _ 0 _ _ (hz)
  have g1 := frozen_of_row _ _ 1 _ _ (hz)
  have g2 := frozen_of_row _ _ 2 _ _ (hz)
  have g3 := frozen_of_row _ _ 3 _ _ (hz)
  clear hb1 hz
  go_wp2_with fail
  obtain ⟨k1, k2, k3⟩ := four HZ.out rfl (.string ⟨#[]⟩) (.int .u32 0) (.int .u32 0) (.slice none 0 0)
  refine bodyPost_ret (results_cell_tmp Tryd.results19 _ _ (W.heap.size + 1) _ _ _ _ rfl k1 Tryd.underlying25 rfl (boxSize _ rfl)) rfl ⟨rfl, k3 _ _ (HBW.out.trans (HB1.out.mono HBW.out.size)) (by omega)⟩
set_option maxHeartbeats 8000000 in
theorem store_yes (W : World) (S : ByteArray) (E X : Nat) (A : Option Addr) (n c : Nat) (qs : List Y) (B : Option Addr) (q dd : Nat) (U : List Nat) (fg how : Int) (hR : Rd cM 4 W A n qs) (hn : n ≤ 1000000) (hs : S.size ≤ 100000) (hm : ∀ y ∈ qs, y.m ≤ 1000000) (hr : Fit W) (hU : Nums W B q U) (hq : q ≤ 1000000) (hw : right S E X (nts qs) = true) :
    Calls Tryd.prog 19 #[.agg #[.string S, .int .u32 (E : Nat), .int .u32 (X : Nat), .slice A n c], .slice B q dd, .int .i64 fg, .int .i64 how] W fun x w' => ∃ A' c' ys, x = .returned (.tuple #[.agg #[.string S, .int .u32 (E : Nat), .int .u32 (X : Nat), .slice A' n c'], .int .i64 0]) ∧ Own cM 4 W.heap.size 30 w' (.slice A' n c') ys ∧ nts ys = (nts qs).map (stT U fg how) ∧ Below W.heap.size W w' := by
  obtain ⟨W1, hW1⟩ : ∃ W1, W1 = (W.alloc (.cells #[.string S, .int .u32 (E : Nat), .int .u32 (X : Nat), .slice A n c] 25)).alloc (.cells #[.string ⟨#[]⟩, .int .u32 0, .int .u32 0, .slice none 0 0] 25) := ⟨_, rfl⟩
  have HBW := Lib.hid (show Below W.heap.size W W1 by rw [hW1]; exact ((Below.refl _ _).alloc (Nat.le_refl _) _).alloc (by simp) _)
  have HZW := Lib.hid (show W1.heap.size = W.heap.size + 2 by rw [hW1]; simp)
  have h1 : W1.heap[W.heap.size]? = some (.cells #[.string S, .int .u32 (E : Nat), .int .u32 (X : Nat), .slice A n c] 25 (0, 0)) := by rw [hW1, heap_alloc_old _ _ (by simp)]; exact heap_alloc_new _ _
  have h2 : W1.heap[W.heap.size + 1]? = some (.cells #[.string ⟨#[]⟩, .int .u32 0, .int .u32 0, .slice none 0 0] 25 (0, 0)) := by rw [hW1]; have := heap_alloc_new (W.alloc (.cells #[.string S, .int .u32 (E : Nat), .int .u32 (X : Nat), .slice A n c] 25)) (.cells #[.string ⟨#[]⟩, .int .u32 0, .int .u32 0, .slice none 0 0] 25); simpa using this
  have HP1 := Lib.hid (fun (w' : World) (h : Below W1.heap.size W1 w') => show w'.heap[W.heap.size]? = some (.cells #[.string S, .int .u32 (E : Nat), .int .u32 (X : Nat), .slice A n c] 25 (0, 0)) from (h.block _ (by rw [HZW.out]; omega)).trans h1)
  have HP2 := Lib.hid (fun (w' : World) (h : Below W1.heap.size W1 w') => show w'.heap[W.heap.size + 1]? = some (.cells #[.string ⟨#[]⟩, .int .u32 0, .int .u32 0, .slice none 0 0] 25 (0, 0)) from (h.block _ (by rw [HZW.out]; omega)).trans h2)
  have HRt := Lib.hid (right_any W1 S E X A n c qs (hR.below HBW.out) hn hs (hr.below HBW.out))
  have HOwn := Lib.hid (fun (w' : World) (h : Below W1.heap.size W1 w') => own_any w' S E X A n c qs (hR.below (HBW.out.trans (h.mono HBW.out.size))) hn hs hm)
  have HNums := Lib.hid (fun (w' : World) (h : Below W.heap.size W w') => hU.below h)
  have c0 := cell_at (h1) 0 _ rfl
  have c1 := cell_at (h1) 1 _ rfl
  have c2 := cell_at (h1) 2 _ rfl
  have c3 := cell_at (h1) 3 _ rfl
  have HW1 := Lib.hid hW1
  rw [hW1] at c0 c1 c2 c3
  clear hW1 h1 h2
  have HRG := Lib.hid hw
  have HUp := Lib.hid (up_of (right_parts hw).2.2.2.2.1)
  have HL := Lib.hid (show (nts qs).length = n by rw [nts_len, hR.1])
  clear hw hR hm hr hU
  go_enter Tryd.func19, Tryd.ntmps19
  go_wp2_with fail
  rw [← HW1.out]
  clear c0 c1 c2 c3
  refine HRt.out.mono ?_
  rw [HRG.out]
  rintro x w1 ⟨rfl, hb1⟩
  have HB1 := Lib.hid hb1
  have c0 := cell_at (HP1.out _ hb1) 0 _ rfl
  have c1 := cell_at (HP1.out _ hb1) 1 _ rfl
  have c2 := cell_at (HP1.out _ hb1) 2 _ rfl
  have c3 := cell_at (HP1.out _ hb1) 3 _ rfl
  clear hb1
  go_wp2_with fail
  clear c0 c1 c2 c3
  refine (HOwn.out w1 HB1.out).mono ?_
  rintro x w2 ⟨A2, n2, c2, ys2, rfl, ho2, hl2, hf2, hb2⟩
  have hn2 : n2 = n := by
    have h1 := own_len ho2
    have h2 := HL.out
    rw [← hl2, nts_len] at h2
    omega
  subst hn2
  have hB2 := HB1.out.trans (hb2.mono HB1.out.size)
  have hz1 : W1.heap.size ≤ w1.heap.size := HB1.out.size
  have hzw := HZW.out
  have hq := HP1.out _ hB2
  obtain ⟨k1, k2, k3⟩ := four hq rfl (.string S) (.int .u32 (E : Nat)) (.int .u32 (X : Nat)) (.slice A2 n2 c2)
  have hov : (Value.slice A2 n2 c2).ownBlock ≠ some W.heap.size := fun e => by have := (ho2.lt e).1; omega
  have hoy : ∀ y ∈ ys2, ∀ ad, y.A = some ad → 0 < y.m → ad.block ≠ W.heap.size := fun y hy ad e h0 => by have := hf2 y hy ad e; omega
  have ho3 := own_other (u := .slice A2 n2 c2) (j := 3) (own_other (u := .int .u32 (X : Nat)) (j := 2) (own_other (u := .int .u32 (E : Nat)) (j := 1) (own_other (u := .string S) (j := 0) ho2 hov hoy) hov hoy) hov hoy) hov hoy
  have HSS := Lib.hid (show SS W S E X (.slice A2 n2 c2) ys2 _ from ⟨k1, (k2 (W.heap.size + 1) (by omega)).trans (HP2.out _ hB2), ⟨⟨ho3.1.1, ho3.1.2.imp id fun ⟨g, cap, cur, h1, h2, h3⟩ => ⟨g, cap, cur, h1, by omega, h3⟩⟩, ho3.2⟩, fun y hy ad e h0 => .inr (by have := hf2 y hy ad e; omega), k3 W.heap.size W (HBW.out.trans (hB2.mono HBW.out.size)) (Nat.le_refl _)⟩)
  have e0 := cell_at (hq) 0 _ rfl
  have e1 := cell_at (hq) 1 _ rfl
  have e2 := cell_at (hq) 2 _ rfl
  have e3 := cell_at (hq) 3 _ rfl
  have g0 := frozen_of_row _ _ 0 _ _ (hq)
  have g1 := frozen_of_row _ _ 1 _ _ (hq)
  have g2 := frozen_of_row _ _ 2 _ _ (hq)
  have g3 := frozen_of_row _ _ 3 _ _ (hq)
  have d0 := cell_at (k1) 0 _ rfl
  have d1 := cell_at (k1) 1 _ rfl
  have d2 := cell_at (k1) 2 _ rfl
  have d3 := cell_at (k1) 3 _ rfl
  have HL2 := Lib.hid hl2
  clear ho2 hl2 hf2 hb2 hB2 hz1 hzw hq k1 k2 k3 hov hoy ho3
  go_wp2_with fail
  clear e0 e1 e2 e3 g0 g1 g2 g3 d0 d1 d2 d3
  generalize (((w2.setCell ⟨W.heap.size, 0, none⟩ (.string S)).setCell ⟨W.heap.size, 1, none⟩ (.int .u32 (E : Nat))).setCell ⟨W.heap.size, 2, none⟩ (.int .u32 (X : Nat))).setCell ⟨W.heap.size, 3, none⟩ (.slice A2 n2 c2) = w3 at *
  refine (named_any w3 S E X A2 n2 c2 ys2 B q dd U (own_rd HSS.out.own).1 hn (by rw [HL2.out]; exact HUp.out) (HNums.out _ HSS.out.bel) hq).mono ?_
  rintro x w4 ⟨gb, rfl, hrow, hgb, hb4⟩
  have HRow := Lib.hid hrow
  have HS4 := Lib.hid (HSS.out.below hb4)
  have HGB := Lib.hid (show (Value.slice A2 n2 c2).ownBlock ≠ some gb from fun e => by have := (HSS.out.own.lt e).2; omega)
  have HGW := Lib.hid (show W.heap.size ≤ gb by have := HSS.out.lt; omega)
  rw [HL2.out] at HRow
  clear hrow hgb hb4
  go_wp2_with fail
  go_loopw [22] (fun i wr => ∃ k : Nat, k ≤ n2 ∧ i = .int .i64 k ∧ Hid (SS W S E X (.slice A2 n2 c2) (upd (stY U fg how) ys2 k) wr ∧ wr.rowIs gb 4 n2 (fun j => .bool (isN (nts qs) U j)))) (fun i _ => n2 - (intOf i).toNat)
  case atStart => exact ⟨0, Nat.zero_le _, rfl, Lib.hid ⟨HS4.out, HRow.out⟩⟩
  case round =>
    obtain ⟨k, hk, rfl, HY⟩ := hrel
    obtain ⟨hY, hrow⟩ := HY.out
    have hlen := own_len hY.own
    by_cases hlt : k < n2
    · have hcell : wr.cell? ⟨gb, k, none⟩ = some (.bool (isN (nts qs) U k)) := hrow.cell hlt
      have HRw := Lib.hid hrow
      obtain ⟨g, rfl, hg⟩ := own_form hY.own (by omega)
      obtain ⟨y0, hy0⟩ : ∃ y0, ys2[k]? = some y0 := ⟨_, List.getElem?_eq_getElem (by rw [upd_len] at hlen; omega)⟩
      have hy := upd_at (g := stY U fg how) hy0
      obtain ⟨q1, q2⟩ := own_cell (i := 2) hY.own hy rfl
      have HYD0 := Lib.hid hY
      have hYd : SS W S E X (.slice (some ⟨g, 0, none⟩) n2 c2) (upd (stY U fg how) ys2 k) wr.drew := hY.below (codec.below_draws (Below.refl _ _) 1)
      have HYD := Lib.hid hYd
      have HYK := Lib.hid hy
      have HY0 := Lib.hid hy0
      have HCB := Lib.hid (fun (w' : World) (h : Below wr.heap.size wr w') => cell_at (hY.below h).box 3 _ rfl)
      have HCO := Lib.hid (fun (w' : World) (h : Below wr.heap.size wr w') => own_cell (i := 2) (hY.below h).own hy rfl)
      have HST := Lib.hid (show Below wr.heap.size wr wr.drew from codec.below_draws (Below.refl _ _) 1)
      have hlt' : (k : Int) < (n2 : Int) := by omega
      have hnt : (nts qs)[k]? = some y0.n := by rw [← HL2.out]; exact nts_at hy0
      rw [isN_at hnt] at hcell
      clear hY HY hlen q1 q2 hYd hrow hnt hy hy0
      cases hin : inB U y0.n.u with
      | false =>
        rw [hin] at hcell
        have HN := Lib.hid (show SS W S E X (.slice (some ⟨g, 0, none⟩) n2 c2) (upd (stY U fg how) ys2 (k + 1)) wr ∧ wr.rowIs gb 4 n2 (fun j => .bool (isN (nts qs) U j)) from ⟨by rw [upd_same HY0.out (stY_no hin)]; exact HYD0.out, HRw.out⟩)
        clear hin
        go_wp2_with fail
        go_roundw
        case rel => first | exact ⟨k + 1, by omega, by go_num, HN⟩ | ((repeat apply Exists.intro); exact ⟨⟨k + 1, by omega, by go_num, HN⟩, rfl⟩)
        case measure => (show n2 - ((k : Int) + 1).toNat < n2 - k; omega)
      | true =>
        rw [hin] at hcell
        have hst := stY_yes (fg := fg) (how := how) hin
        have HNx := Lib.hid (upd_next (g := stY U fg how) HY0.out)
        have HNY := Lib.hid (HYD.out.flags (f := (flg.chgN (flg.five y0.n.f) (flg.five fg) (flg.kind how) : Nat)) HYK.out)
        rw [← hst, ← HNx.out] at HNY
        have HRd := Lib.hid (show (wr.drew.setCell ⟨g, k * 4 + 2, none⟩ (.int .i64 (flg.chgN (flg.five y0.n.f) (flg.five fg) (flg.kind how) : Nat))).rowIs gb 4 n2 (fun j => .bool (isN (nts qs) U j)) from World.rowIs.setOther (show wr.drew.rowIs gb 4 n2 _ from HRw.out) (fun e => HGB.out (by rw [e]; rfl)) _)
        have HCh := Lib.hid (fun w => flg.change_any w y0.n.f fg how)
        have HKP := Lib.hid (HCO.out wr (Below.refl _ _))
        obtain ⟨⟨tk, te, ts, tu, td, tf, to_⟩, a1, A1, m1, c1⟩ := y0
        simp only [] at HCh HCO HNY HRd HKP
        generalize flg.chgN (flg.five tf) (flg.five fg) (flg.kind how) = fv at *
        clear hst hin HNx
        have c3 := HCB.out wr (Below.refl _ _)
        go_wp2_with fail
        clear c3
        refine wp_region_noPanic ?_
        refine held.wp_region_G (S := fun w' => Below wr.heap.size wr w') 14 (by kernel_rfl) HST.out (fun hHeld => ?_)
        refine held.wpAnyG_take (i := 0) (v := ?_) rfl (by kernel_rfl) (by kernel_rfl) (by kernel_rfl) (by kernel_rfl) (fun _ _ _ h => h) (Or.inl ⟨by kernel_rfl, ?_⟩) hHeld ?_
        rotate_left
        · (intro w' hw'; go_simp; first | done | with_reducible rfl)
        refine held.wpAnyG_take (i := 1) (v := ?_) rfl (by kernel_rfl) (by kernel_rfl) (by kernel_rfl) (by kernel_rfl) (fun _ _ _ h => h) (Or.inl ⟨by kernel_rfl, ?_⟩) hHeld ?_
        rotate_left
        · (intro w' hw'; have c3 := HCB.out w' hw'; go_simp; first | done | with_reducible rfl)
        refine held.wpAnyG_take (i := 2) (v := ?_) rfl (by kernel_rfl) (by kernel_rfl) (by kernel_rfl) (by kernel_rfl) (fun _ _ _ h => h) (Or.inl ⟨by kernel_rfl, ?_⟩) hHeld ?_
        rotate_left
        · (intro w' hw'; go_simp; first | done | with_reducible rfl)
        refine held.wpAnyG_take (i := 3) (v := ?_) rfl (by kernel_rfl) (by kernel_rfl) (by kernel_rfl) (by kernel_rfl) (fun _ _ _ h => h) (Or.inl ⟨by kernel_rfl, ?_⟩) hHeld ?_
        rotate_left
        · (intro w' hw'; go_simp; first | done | with_reducible rfl)
        refine held.wpAnyG_take (i := 4) (v := ?_) rfl (by kernel_rfl) (by kernel_rfl) (by kernel_rfl) (by kernel_rfl) (fun _ _ _ h => h) (Or.inl ⟨by kernel_rfl, ?_⟩) hHeld ?_
        rotate_left
        · (intro w' hw'; have c3 := HCB.out w' hw'; go_simp; first | done | with_reducible rfl)
        refine held.wpAnyG_take (i := 5) (v := ?_) rfl (by kernel_rfl) (by kernel_rfl) (by kernel_rfl) (by kernel_rfl) (fun _ _ _ h => h) (Or.inl ⟨by kernel_rfl, ?_⟩) hHeld ?_
        rotate_left
        · (intro w' hw'; go_simp; first | done | with_reducible rfl)
        refine held.wpAnyG_take (i := 6) (v := ?_) rfl (by kernel_rfl) (by kernel_rfl) (by kernel_rfl) (by kernel_rfl) (fun _ _ _ h => h) (Or.inl ⟨by kernel_rfl, ?_⟩) hHeld ?_
        rotate_left
        · (intro w' hw'; go_simp; first | done | with_reducible rfl)
        refine held.wpAnyG_take (i := 7) (v := ?_) rfl (by kernel_rfl) (by kernel_rfl) (by kernel_rfl) (by kernel_rfl) (fun _ _ _ h => h) (Or.inl ⟨by kernel_rfl, ?_⟩) hHeld ?_
        rotate_left
        · (intro w' hw'; go_simp; first | done | with_reducible rfl)
        refine held.wpAnyG_take (i := 8) (v := ?_) rfl (by kernel_rfl) (by kernel_rfl) (by kernel_rfl) (by kernel_rfl) (fun _ _ _ h => h) (Or.inl ⟨by kernel_rfl, ?_⟩) hHeld ?_
        rotate_left
        · (intro w' hw'; obtain ⟨q1, q2⟩ := HCO.out w' hw'; go_simp; first | done | with_reducible rfl)
        refine held.wpAnyG_take (i := 9) (v := ?_) rfl (by kernel_rfl) (by kernel_rfl) (by kernel_rfl) (by kernel_rfl) (fun _ _ _ h => h) (Or.inl ⟨by kernel_rfl, ?_⟩) hHeld ?_
        rotate_left
        · (intro w' hw'; go_simp; first | done | with_reducible rfl)
        refine held.wpAnyG_take (i := 10) (v := ?_) rfl (by kernel_rfl) (by kernel_rfl) (by kernel_rfl) (by kernel_rfl) (fun _ _ _ h => h) (Or.inl ⟨by kernel_rfl, ?_⟩) hHeld ?_
        rotate_left
        · (intro w' hw'; go_simp; first | done | with_reducible rfl)
        refine held.wpAnyG_ready (rs := [11]) (by kernel_rfl) (by simp) ?_
        refine held.AllReadyG.cons rfl (fun K hK => ?_) held.AllReadyG.nil
        go_simp
        refine (HCh.out _).mono ?_
        rintro x w5 ⟨rfl, hw5⟩
        replace hw5 := hw5.symm
        subst hw5
        obtain ⟨q1, q2⟩ := HKP.out
        go_wp2_with fail
        refine hK.out _ _ (fun _ => HST.out) (fun hh => ?_)
        have hH1 := hh (by decide)
        clear hK K hh hHeld
        refine held.wpAnyG_ready (rs := [12]) (by kernel_rfl) (by simp) ?_
        refine held.AllReadyG.cons rfl (fun K hK => ?_) held.AllReadyG.nil
        go_simp
        refine hK.out _ _ (fun _ => HST.out) (fun hh => ?_)
        have hH2 := hh (by decide)
        clear hK K hh hH1
        refine held.wpAnyG_take (i := 13) (v := ?_) rfl (by kernel_rfl) (by kernel_rfl) (by kernel_rfl) (by kernel_rfl) (fun _ _ _ h => h) (Or.inl ⟨by kernel_rfl, ?_⟩) hH2 ?_
        rotate_left
        · (intro w' hw'; go_simp; first | done | with_reducible rfl)
        refine held.wpAnyG_ready (rs := [14]) (by kernel_rfl) (by simp) ?_
        refine held.AllReadyG.cons rfl (fun K hK => ?_) held.AllReadyG.nil
        go_simp
        refine hK.out _ _ (fun hh => absurd rfl hh) (fun _ => ?_)
        clear hK K hH2
        refine held.wpAnyG_done (by kernel_rfl) ?_ _
        refine NoPanic.normal ?_
        go_simp
        clear q1 q2
        have HN := Lib.hid (And.intro HNY.out HRd.out)
        clear HNY HRd
        go_wp2_with fail
        go_roundw
        case rel => first | exact ⟨k + 1, by omega, by go_num, HN⟩ | ((repeat apply Exists.intro); exact ⟨⟨k + 1, by omega, by go_num, HN⟩, rfl⟩)
        case measure => (show n2 - ((k : Int) + 1).toNat < n2 - k; omega)
    · obtain rfl : k = n2 := by omega
      have HY2 := Lib.hid hY
      have d0 := cell_at (hY.box) 0 _ rfl
      have d1 := cell_at (hY.box) 1 _ rfl
      have d2 := cell_at (hY.box) 2 _ rfl
      have d3 := cell_at (hY.box) 3 _ rfl
      have g0 := frozen_of_row _ _ 0 _ _ (hY.res)
      have g1 := frozen_of_row _ _ 1 _ _ (hY.res)
      have g2 := frozen_of_row _ _ 2 _ _ (hY.res)
      have g3 := frozen_of_row _ _ 3 _ _ (hY.res)
      have r0 := cell_at (hY.res) 0 _ rfl
      have r1 := cell_at (hY.res) 1 _ rfl
      have r2 := cell_at (hY.res) 2 _ rfl
      have r3 := cell_at (hY.res) 3 _ rfl
      have HUE := Lib.hid (show upd (stY U fg how) ys2 k = ys2.map (stY U fg how) from upd_end _ (by rw [upd_len] at hlen; omega))
      clear hY HY hrow hlen
      go_wp2_with fail
      obtain ⟨k1, k2, k3⟩ := HY2.out.done
      refine bodyPost_ret (results_cell_tmp Tryd.results19 _ _ (W.heap.size + 1) _ _ _ _ rfl k1 Tryd.underlying25 rfl (boxSize _ rfl)) rfl ⟨A2, c2, _, rfl, k2, ?_, k3⟩
      rw [HUE.out, stY_nts, HL2.out]
end Go.Proofs.YtepngemlaiffgaaDoor.mal
namespace Go.Proofs.YtepngemlaiffgaaDoor.mal
open Go.ChangeShapes Go.WideShapes Go.ChangeAt Go.RowKit
open Go.Proofs.YtepngemlaiffgaaDoor.codec (Bytes vals)
open Go.Proofs.YtepngemlaiffgaaDoor.bod (cell_at Fit boxed named formedB fitsB)
open Go.Proofs.YtepngemlaiffgaaDoor.lg (Nt Y Rd Own Oct cM fM fl fl_at nts nts_at nts_len take_next)
set_option linter.unusedVariables false
set_option maxRecDepth 100000
set_option linter.unusedSimpArgs false

theorem chg_five' (fg how : Int) (t : Int) : flg.chg t fg how 5 = flg.chgN (flg.five t) (flg.five fg) (flg.kind how) := flg.chg_five t fg how
theorem rise_map {X : Nat} {g : Nt → Nt} (hg : ∀ t, (g t).u = t.u) : ∀ (l : List Nt) (st : Nat × Bool), (l.map g).foldl (ris X) st = l.foldl (ris X) st
  | [], st => rfl
  | t :: r, st => by
    rw [List.map_cons, List.foldl_cons, List.foldl_cons, show ris X st (g t) = ris X st t by unfold ris; rw [hg]]
    exact rise_map hg r _
theorem right_map {S : ByteArray} {E X : Nat} {l : List Nt} {g : Nt → Nt} (h : right S E X l = true) (hg : ∀ t, (g t).u = t.u) (hf : ∀ t, fit1 t = true → fit1 (g t) = true) : right S E X (l.map g) = true := by
  obtain ⟨h1, h2, h3, h4, h5, h6⟩ := right_parts h
  refine right_of h1 h2 h3 (by simpa using h4) ?_ (fun n hn => ?_)
  · unfold rise at *
    rw [rise_map hg]
    exact h5
  · obtain ⟨t, ht, rfl⟩ := List.mem_map.1 hn
    exact hf t (h6 t ht)
theorem kind_lt (how : Int) : flg.kind how < 4 := by
  unfold flg.kind
  split
  · decide
  · split
    · decide
    · split <;> decide
theorem right_store {S : ByteArray} {E X : Nat} {l : List Nt} (U : List Nat) (fg how : Int) (h : right S E X l = true) : right S E X (l.map (stT U fg how)) = true := by
  refine right_map h (fun t => ?_) (fun t ht => ?_)
  · unfold stT chF
    split <;> rfl
  · unfold stT
    split
    · unfold fit1 fitsB at *
      simp only [Bool.and_eq_true, decide_eq_true_eq] at ht ⊢
      have := flg.chgN_lt (flg.kind how) (kind_lt how) (flg.five t.f) (flg.five_lt _) (flg.five fg) (flg.five_lt _)
      refine ⟨ht.1, ht.2.1, ⟨?_, ?_⟩, ht.2.2.2⟩
      · show (0 : Int) ≤ ((flg.chgN (flg.five t.f) (flg.five fg) (flg.kind how) : Nat) : Int)
        omega
      · show ((flg.chgN (flg.five t.f) (flg.five fg) (flg.kind how) : Nat) : Int) < 32
        omega
    · exact ht
theorem rstore_ss {W W1 W2 w3 : World} {S : ByteArray} {E X n c : Nat} {A : Option Addr} {qs : List Y} {v3 : Value} (hln : qs.length = n) (hbw : Below W.heap.size W W1) (hws : W1.heap.size = W.heap.size + 1 + 1) (hp1 : ∀ w', Below W1.heap.size W1 w' → w'.heap[W.heap.size]? = some (.cells #[.string S, .int .u32 (E : Nat), .int .u32 (X : Nat), .slice A n c] 25 (0, 0))) (hp2 : ∀ w', Below W1.heap.size W1 w' → w'.heap[W.heap.size + 1]? = some (.cells #[.string ⟨#[]⟩, .int .u32 0, .int .u32 0, .slice none 0 0] 25 (0, 0))) (hb2 : Below W1.heap.size W1 W2)
    (ho2 : Own cM 4 (W.heap.size + 1 + 1) 30 W2 (.slice (some ⟨W.heap.size + 1 + 1, 0, none⟩) 0 0) []) (ho3 : Own cM 4 (W.heap.size + 1 + 1) 30 w3 v3 ([] ++ qs)) (hg3 : W2.grownBy w3 (Value.slice (some ⟨W.heap.size + 1 + 1, 0, none⟩) 0 0).ownBlock) (hoq : ∀ y ∈ qs, ∀ ad, y.A = some ad → 0 < y.m → ad.block < W.heap.size) :
    ∃ A2 c2, v3 = .slice A2 n c2 ∧ w3.heap[W.heap.size]? = some (.cells #[.string S, .int .u32 (E : Nat), .int .u32 (X : Nat), .slice A n c] 25 (0, 0)) ∧ SS W S E X (.slice A2 n c2) qs (w3.setCell ⟨W.heap.size, 3, none⟩ (.slice A2 n c2)) ∧ (w3.setCell ⟨W.heap.size, 3, none⟩ (.slice A2 n c2)).heap[W.heap.size]? = some (.cells #[.string S, .int .u32 (E : Nat), .int .u32 (X : Nat), .slice A2 n c2] 25 (0, 0)) := by
  rw [List.nil_append] at ho3
  have hb3 : Below W1.heap.size W1 w3 := by
    rw [← hws] at ho2 hg3
    exact own_below (B := 0) ho2 hb2 hg3
  obtain ⟨A2, c2, rfl, -, -, -⟩ := ho3.rd fM
  rw [hln] at ho3 ⊢
  have hq3 := hp1 _ hb3
  have hr3 := hp2 _ hb3
  have hq4 : (w3.setCell ⟨W.heap.size, 3, none⟩ (.slice A2 n c2)).heap[W.heap.size]? = some (.cells #[.string S, .int .u32 (E : Nat), .int .u32 (X : Nat), .slice A2 n c2] 25 (0, 0)) := by rw [heap_setCell_same _ _ _ _ _ _ hq3]; rfl
  exact ⟨A2, c2, rfl, hq3, ⟨hq4, by rw [heap_setCell_other _ _ _ _ (by show _ ≠ W.heap.size; omega)]; exact hr3, own_other ⟨⟨ho3.1.1, ho3.1.2.imp id fun ⟨g, cap, cur, h1, h2, h3⟩ => ⟨g, cap, cur, h1, by omega, h3⟩⟩, ho3.2⟩ (fun e => by have := (ho3.lt e).1; omega) (fun y hy ad e h0 => by have := hoq y hy ad e h0; omega), fun y hy ad e h0 => .inl (hoq y hy ad e h0), (hbw.trans (hb3.mono hbw.size)).setCell (p := ⟨W.heap.size, 3, none⟩) (Nat.le_refl _) _⟩, hq4⟩
set_option maxHeartbeats 8000000 in
theorem rstore_any (W : World) (S : ByteArray) (E X : Nat) (A : Option Addr) (n c : Nat) (qs : List Y) (B : Option Addr) (q dd : Nat) (U : List Nat) (fg how : Int) (hR : Rd cM 4 W A n qs) (hA : A = none → c = 0) (hn : n ≤ 1000000) (hU : Nums W B q U) (hq : q ≤ 1000000) :
    Calls Tryd.prog 20 #[.agg #[.string S, .int .u32 (E : Nat), .int .u32 (X : Nat), .slice A n c], .slice B q dd, .int .i64 fg, .int .i64 how] W fun x w' => ∃ A' c' ys, x = .returned (.agg #[.string S, .int .u32 (E : Nat), .int .u32 (X : Nat), .slice A' n c']) ∧ Own cM 4 W.heap.size 30 w' (.slice A' n c') ys ∧ nts ys = (nts qs).map (stT U fg how) ∧ Below W.heap.size W w' := by
  obtain ⟨W1, hW1⟩ : ∃ W1, W1 = (W.alloc (.cells #[.string S, .int .u32 (E : Nat), .int .u32 (X : Nat), .slice A n c] 25)).alloc (.cells #[.string ⟨#[]⟩, .int .u32 0, .int .u32 0, .slice none 0 0] 25) := ⟨_, rfl⟩
  have HBW := Lib.hid (show Below W.heap.size W W1 by rw [hW1]; exact ((Below.refl _ _).alloc (Nat.le_refl _) _).alloc (by simp) _)
  have HZW := Lib.hid (show W1.heap.size = W.heap.size + 2 by rw [hW1]; simp)
  have h1 : W1.heap[W.heap.size]? = some (.cells #[.string S, .int .u32 (E : Nat), .int .u32 (X : Nat), .slice A n c] 25 (0, 0)) := by rw [hW1, heap_alloc_old _ _ (by simp)]; exact heap_alloc_new _ _
  have h2 : W1.heap[W.heap.size + 1]? = some (.cells #[.string ⟨#[]⟩, .int .u32 0, .int .u32 0, .slice none 0 0] 25 (0, 0)) := by rw [hW1]; have := heap_alloc_new (W.alloc (.cells #[.string S, .int .u32 (E : Nat), .int .u32 (X : Nat), .slice A n c] 25)) (.cells #[.string ⟨#[]⟩, .int .u32 0, .int .u32 0, .slice none 0 0] 25); simpa using this
  have HP1 := Lib.hid (fun (w' : World) (h : Below W1.heap.size W1 w') => show w'.heap[W.heap.size]? = some (.cells #[.string S, .int .u32 (E : Nat), .int .u32 (X : Nat), .slice A n c] 25 (0, 0)) from (h.block _ (by rw [HZW.out]; omega)).trans h1)
  have HP2 := Lib.hid (fun (w' : World) (h : Below W1.heap.size W1 w') => show w'.heap[W.heap.size + 1]? = some (.cells #[.string ⟨#[]⟩, .int .u32 0, .int .u32 0, .slice none 0 0] 25 (0, 0)) from (h.block _ (by rw [HZW.out]; omega)).trans h2)
  have HNums := Lib.hid (fun (w' : World) (h : Below W.heap.size W w') => hU.below h)
  have HL := Lib.hid (show (nts qs).length = n by rw [nts_len, hR.1])
  have HAN := Lib.hid hA
  have HOQ := Lib.hid (show ∀ y ∈ qs, ∀ ad, y.A = some ad → 0 < y.m → ad.block < W.heap.size from fun y hy ad e h0 => (rd_oct hR hy).1.lt ad e h0)
  obtain ⟨W2, hW2⟩ : ∃ W2, W2 = W1.alloc (.cells #[] 30) := ⟨_, rfl⟩
  have hb2 : Below W1.heap.size W1 W2 := by rw [hW2]; exact (Below.refl _ _).alloc (Nat.le_refl _) _
  have HO2 := Lib.hid (show Own cM 4 W1.heap.size 30 W2 (.slice (some ⟨W1.heap.size, 0, none⟩) 0 0) [] by rw [hW2]; exact ⟨World.ownsRow_made W1 #[] 0 (Nat.le_refl _) (Nat.zero_le _) rfl, by simp⟩)
  have HB2 := Lib.hid hb2
  have HR2 := Lib.hid (hR.below (HBW.out.trans (hb2.mono HBW.out.size)))
  have hW1s : W1.heap.size = W.heap.size + 1 + 1 := by rw [hW1]; simp
  rw [hW1s] at HO2
  have c3 := cell_at (HP1.out _ hb2) 3 _ rfl
  have HW1 := Lib.hid hW1
  have HW2 := Lib.hid hW2
  have HSz2 := Lib.hid (show W.heap.size + 1 + 1 ≤ W2.heap.size by have h2 := hb2.size; omega)
  have HDq := Lib.hid (show ∀ y ∈ qs, ∀ ad, y.A = some ad → 0 < y.m → (Value.slice (some ⟨W.heap.size + 1 + 1, 0, none⟩) 0 0).ownBlock ≠ some ad.block from fun y hy ad e h0 e' => by
    have h1 := HOQ.out y hy ad e h0
    have h2 : W.heap.size + 1 + 1 = ad.block := Option.some.inj e'
    omega)
  have HStart := Lib.hid (fun (v3 : Value) (w3 : World) (ho3 : Own cM 4 (W.heap.size + 1 + 1) 30 w3 v3 ([] ++ qs)) (hg3 : W2.grownBy w3 (Value.slice (some ⟨W.heap.size + 1 + 1, 0, none⟩) 0 0).ownBlock) => rstore_ss (by have := HL.out; rw [nts_len] at this; exact this) HBW.out hW1s HP1.out HP2.out hb2 HO2.out ho3 hg3 HOQ.out)
  rw [hW2, hW1] at c3 HO2 HR2 HSz2
  clear hW1 hW2 hW1s h1 h2 hR hA hU hb2
  go_enter Tryd.func20, Tryd.ntmps20
  go_wp2_with (at_builtin; refine wpList_append_rows rfl (.tmp 10) (.tmp 12) rfl (W.heap.size + 1 + 1) _ [] rfl HO2.out HSz2.out A n c qs rfl HR2.out HAN.out HDq.out (by simp; omega) ?_; intro v3 w3 ho3 hg3 hn3 hat3; rw [← HW1.out, ← HW2.out] at hg3; obtain ⟨A2, c2, rfl, hSS⟩ := HStart.out v3 w3 ho3 hg3; have HSS := Lib.hid hSS; have e3 := cell_at hSS.1 3 _ rfl; have g3 := frozen_of_row _ _ 3 _ _ hSS.1; have f3 := cell_at hSS.2.2 3 _ rfl; clear ho3 hg3 hn3 hat3 hSS)
  clear e3 g3 f3 c3
  replace HSS := Lib.hid HSS.out.2.1
  generalize w3.setCell ⟨W.heap.size, 3, none⟩ (.slice A2 n c2) = w4 at *
  go_loopw [18] (fun i wr => ∃ k : Nat, k ≤ n ∧ i = .int .i64 k ∧ Hid (SS W S E X (.slice A2 n c2) (upd (stY U fg how) qs k) wr)) (fun i _ => n - (intOf i).toNat)
  case atStart => exact ⟨0, Nat.zero_le _, rfl, HSS⟩
  case round =>
    obtain ⟨k, hk, rfl, HY⟩ := hrel
    have hY := HY.out
    have hlen := own_len hY.own
    by_cases hlt : k < n
    · obtain ⟨g, rfl, hg⟩ := own_form hY.own (by omega)
      obtain ⟨y0, hy0⟩ : ∃ y0, qs[k]? = some y0 := ⟨_, List.getElem?_eq_getElem (by rw [upd_len] at hlen; omega)⟩
      have hy := upd_at (g := stY U fg how) hy0
      obtain ⟨p1, p2⟩ := own_cell (i := 0) hY.own hy rfl
      have HYD0 := Lib.hid hY
      have hYd : SS W S E X (.slice (some ⟨g, 0, none⟩) n c2) (upd (stY U fg how) qs k) wr.drew := hY.below (codec.below_draws (Below.refl _ _) 1)
      have HYD := Lib.hid hYd
      have HYK := Lib.hid hy
      have HY0 := Lib.hid hy0
      have HCB := Lib.hid (fun (w' : World) (h : Below wr.heap.size wr w') => cell_at (hY.below h).box 3 _ rfl)
      have HCO := Lib.hid (fun (w' : World) (h : Below wr.heap.size wr w') => own_cell (i := 2) (hY.below h).own hy rfl)
      have HST := Lib.hid (show Below wr.heap.size wr wr.drew from codec.below_draws (Below.refl _ _) 1)
      have HIn := Lib.hid (in_any wr B q dd U y0.n.u (HNums.out _ hY.bel) hq)
      have HKP := Lib.hid (HCO.out wr (Below.refl _ _))
      have HCh := Lib.hid (fun w => flg.changed_any w y0.n.f fg how)
      rw [chg_five'] at HCh
      have HNo := Lib.hid (fun (h : inB U y0.n.u = false) => show SS W S E X (.slice (some ⟨g, 0, none⟩) n c2) (upd (stY U fg how) qs (k + 1)) wr by rw [upd_same HY0.out (stY_no h)]; exact HYD0.out)
      have HYe := Lib.hid (fun (h : inB U y0.n.u = true) => show SS W S E X (.slice (some ⟨g, 0, none⟩) n c2) (upd (stY U fg how) qs (k + 1)) (wr.drew.setCell ⟨g, k * 4 + 2, none⟩ (.int .i64 (flg.chgN (flg.five y0.n.f) (flg.five fg) (flg.kind how) : Nat))) by
        have h1 := HYD.out.flags (f := (flg.chgN (flg.five y0.n.f) (flg.five fg) (flg.kind how) : Nat)) HYK.out
        rw [← stY_yes (fg := fg) (how := how) h, ← upd_next (g := stY U fg how) HY0.out] at h1
        exact h1)
      have hlt' : (k : Int) < (n : Int) := by omega
      have c3 := HCB.out wr (Below.refl _ _)
      have p1' : wr.cell? ⟨g, k * 4, none⟩ = some (.int .u32 (y0.n.u : Nat)) := p1
      clear hY HY hlen p1 p2 hYd hy hy0 HYD HYK HY0 HYD0
      obtain ⟨⟨tk, te, ts, tu, td, tf, to_⟩, a1, A1, m1, c1⟩ := y0
      simp only [] at HIn HKP HCh HNo HYe HCO p1'
      generalize flg.chgN (flg.five tf) (flg.five fg) (flg.kind how) = fv at *
      cases hin : inB U tu with
      | false =>
        rw [hin] at HIn
        have HN := Lib.hid (HNo.out hin)
        clear hin HNo HYe
        go_wp2_with fail
        refine HIn.out.mono ?_
        rintro x w5 ⟨rfl, hw5⟩
        replace hw5 := hw5.symm
        subst hw5
        clear c3 p1'
        go_wp2_with fail
        go_roundw
        case rel => first | exact ⟨k + 1, by omega, by go_num, HN⟩ | ((repeat apply Exists.intro); exact ⟨⟨k + 1, by omega, by go_num, HN⟩, rfl⟩)
        case measure => (show n - ((k : Int) + 1).toNat < n - k; omega)
      | true =>
        rw [hin] at HIn
        have HN := Lib.hid (HYe.out hin)
        clear hin HNo HYe
        go_wp2_with fail
        refine HIn.out.mono ?_
        rintro x w5 ⟨rfl, hw5⟩
        replace hw5 := hw5.symm
        subst hw5
        go_wp2_with fail
        clear c3 p1'
        refine wp_region_noPanic ?_
        refine held.wp_region_G (S := fun w' => Below wr.heap.size wr w') 14 (by kernel_rfl) HST.out (fun hHeld => ?_)
        refine held.wpAnyG_take (i := 0) (v := ?_) rfl (by kernel_rfl) (by kernel_rfl) (by kernel_rfl) (by kernel_rfl) (fun _ _ _ h => h) (Or.inl ⟨by kernel_rfl, ?_⟩) hHeld ?_
        rotate_left
        · (intro w' hw'; go_simp; first | done | with_reducible rfl)
        refine held.wpAnyG_take (i := 1) (v := ?_) rfl (by kernel_rfl) (by kernel_rfl) (by kernel_rfl) (by kernel_rfl) (fun _ _ _ h => h) (Or.inl ⟨by kernel_rfl, ?_⟩) hHeld ?_
        rotate_left
        · (intro w' hw'; have c3 := HCB.out w' hw'; go_simp; first | done | with_reducible rfl)
        refine held.wpAnyG_take (i := 2) (v := ?_) rfl (by kernel_rfl) (by kernel_rfl) (by kernel_rfl) (by kernel_rfl) (fun _ _ _ h => h) (Or.inl ⟨by kernel_rfl, ?_⟩) hHeld ?_
        rotate_left
        · (intro w' hw'; go_simp; first | done | with_reducible rfl)
        refine held.wpAnyG_take (i := 3) (v := ?_) rfl (by kernel_rfl) (by kernel_rfl) (by kernel_rfl) (by kernel_rfl) (fun _ _ _ h => h) (Or.inl ⟨by kernel_rfl, ?_⟩) hHeld ?_
        rotate_left
        · (intro w' hw'; go_simp; first | done | with_reducible rfl)
        refine held.wpAnyG_take (i := 4) (v := ?_) rfl (by kernel_rfl) (by kernel_rfl) (by kernel_rfl) (by kernel_rfl) (fun _ _ _ h => h) (Or.inl ⟨by kernel_rfl, ?_⟩) hHeld ?_
        rotate_left
        · (intro w' hw'; have c3 := HCB.out w' hw'; go_simp; first | done | with_reducible rfl)
        refine held.wpAnyG_take (i := 5) (v := ?_) rfl (by kernel_rfl) (by kernel_rfl) (by kernel_rfl) (by kernel_rfl) (fun _ _ _ h => h) (Or.inl ⟨by kernel_rfl, ?_⟩) hHeld ?_
        rotate_left
        · (intro w' hw'; go_simp; first | done | with_reducible rfl)
        refine held.wpAnyG_take (i := 6) (v := ?_) rfl (by kernel_rfl) (by kernel_rfl) (by kernel_rfl) (by kernel_rfl) (fun _ _ _ h => h) (Or.inl ⟨by kernel_rfl, ?_⟩) hHeld ?_
        rotate_left
        · (intro w' hw'; go_simp; first | done | with_reducible rfl)
        refine held.wpAnyG_take (i := 7) (v := ?_) rfl (by kernel_rfl) (by kernel_rfl) (by kernel_rfl) (by kernel_rfl) (fun _ _ _ h => h) (Or.inl ⟨by kernel_rfl, ?_⟩) hHeld ?_
        rotate_left
        · (intro w' hw'; go_simp; first | done | with_reducible rfl)
        refine held.wpAnyG_take (i := 8) (v := ?_) rfl (by kernel_rfl) (by kernel_rfl) (by kernel_rfl) (by kernel_rfl) (fun _ _ _ h => h) (Or.inl ⟨by kernel_rfl, ?_⟩) hHeld ?_
        rotate_left
        · (intro w' hw'; obtain ⟨q1, q2⟩ := HCO.out w' hw'; go_simp; first | done | with_reducible rfl)
        refine held.wpAnyG_take (i := 9) (v := ?_) rfl (by kernel_rfl) (by kernel_rfl) (by kernel_rfl) (by kernel_rfl) (fun _ _ _ h => h) (Or.inl ⟨by kernel_rfl, ?_⟩) hHeld ?_
        rotate_left
        · (intro w' hw'; go_simp; first | done | with_reducible rfl)
        refine held.wpAnyG_take (i := 10) (v := ?_) rfl (by kernel_rfl) (by kernel_rfl) (by kernel_rfl) (by kernel_rfl) (fun _ _ _ h => h) (Or.inl ⟨by kernel_rfl, ?_⟩) hHeld ?_
        rotate_left
        · (intro w' hw'; go_simp; first | done | with_reducible rfl)
        refine held.wpAnyG_ready (rs := [11]) (by kernel_rfl) (by simp) ?_
        refine held.AllReadyG.cons rfl (fun K hK => ?_) held.AllReadyG.nil
        go_simp
        refine (HCh.out _).mono ?_
        rintro x w5 ⟨rfl, hw5⟩
        replace hw5 := hw5.symm
        subst hw5
        obtain ⟨q1, q2⟩ := HKP.out
        go_wp2_with fail
        refine hK.out _ _ (fun _ => HST.out) (fun hh => ?_)
        have hH1 := hh (by decide)
        clear hK K hh hHeld
        refine held.wpAnyG_ready (rs := [12]) (by kernel_rfl) (by simp) ?_
        refine held.AllReadyG.cons rfl (fun K hK => ?_) held.AllReadyG.nil
        go_simp
        refine hK.out _ _ (fun _ => HST.out) (fun hh => ?_)
        have hH2 := hh (by decide)
        clear hK K hh hH1
        refine held.wpAnyG_take (i := 13) (v := ?_) rfl (by kernel_rfl) (by kernel_rfl) (by kernel_rfl) (by kernel_rfl) (fun _ _ _ h => h) (Or.inl ⟨by kernel_rfl, ?_⟩) hH2 ?_
        rotate_left
        · (intro w' hw'; go_simp; first | done | with_reducible rfl)
        refine held.wpAnyG_ready (rs := [14]) (by kernel_rfl) (by simp) ?_
        refine held.AllReadyG.cons rfl (fun K hK => ?_) held.AllReadyG.nil
        go_simp
        refine hK.out _ _ (fun hh => absurd rfl hh) (fun _ => ?_)
        clear hK K hH2
        refine held.wpAnyG_done (by kernel_rfl) ?_ _
        refine NoPanic.normal ?_
        go_simp
        clear q1 q2
        go_wp2_with fail
        go_roundw
        case rel => first | exact ⟨k + 1, by omega, by go_num, HN⟩ | ((repeat apply Exists.intro); exact ⟨⟨k + 1, by omega, by go_num, HN⟩, rfl⟩)
        case measure => (show n - ((k : Int) + 1).toNat < n - k; omega)
    · obtain rfl : k = n := by omega
      have HY2 := Lib.hid hY
      have d0 := cell_at (hY.box) 0 _ rfl
      have d1 := cell_at (hY.box) 1 _ rfl
      have d2 := cell_at (hY.box) 2 _ rfl
      have d3 := cell_at (hY.box) 3 _ rfl
      have g0 := frozen_of_row _ _ 0 _ _ (hY.res)
      have g1 := frozen_of_row _ _ 1 _ _ (hY.res)
      have g2 := frozen_of_row _ _ 2 _ _ (hY.res)
      have g3 := frozen_of_row _ _ 3 _ _ (hY.res)
      have r0 := cell_at (hY.res) 0 _ rfl
      have r1 := cell_at (hY.res) 1 _ rfl
      have r2 := cell_at (hY.res) 2 _ rfl
      have r3 := cell_at (hY.res) 3 _ rfl
      have HUE := Lib.hid (show upd (stY U fg how) qs k = qs.map (stY U fg how) from upd_end _ (by rw [upd_len] at hlen; omega))
      clear hY HY hlen
      go_wp2_with fail
      obtain ⟨k1, k2, k3⟩ := HY2.out.done
      refine bodyPost_ret (results_cell_row Tryd.results20 _ _ (W.heap.size + 1) _ _ _ _ rfl k1 Tryd.underlying25 rfl (boxSize _ rfl)) rfl ⟨A2, c2, _, rfl, k2, ?_, k3⟩
      rw [HUE.out, stY_nts]
end Go.Proofs.YtepngemlaiffgaaDoor.mal
