/- The document's Harm. -/
import Derived.Test.YtedhbcaakdfcbaaFc
import Derived.Test.YtedhbcaakdfcbaaU
namespace Go.Proofs.Ytedhbcaakdfcbaa.disk
open Go.ChangeShapes Go.WideShapes Go.ChangeAt Go.RowKit Go.Maps Go.WideMaps
set_option linter.unusedVariables false
set_option linter.unusedSimpArgs false

/-- Harm. -/
def rHarm (cap fuse : Int) (L : FL) (k : Nm) (data : List Nat) : Int × Bool × FL × Int :=
  if nameB k = false then (fuse, false, L, 1) else if cap - (totL L : Nat) + (lenAt (fmL L) k : Nat) < (data.length : Nat) then (fuse, false, L, 4) else (fuse, false, insL k (allSafe data) L, 0)
/-- Append. -/
def rAppend (cap fuse : Int) (L : FL) (k : Nm) (data : List Nat) : Int × Bool × FL × Int :=
  if nameB k = false then (fuse, false, L, 1) else if cap - (totL L : Nat) < (data.length : Nat) then (fuse, false, L, 4) else
  if fuse = 0 then (if fmL L k = none ∧ data.length / 2 = 0 then (0, true, L, 6) else (0, true, insL k (grown (fmL L) k (data.take (data.length / 2))) L, 6))
  else ((rBurnt fuse false).1, false, insL k (grown (fmL L) k data) L, 0)
/-- Rename. -/
def rRename (fuse : Int) (L : FL) (k t : Nm) : Int × Bool × FL × Int :=
  if nameB t = false ∨ k = t then (fuse, false, L, 1) else match fmL L k with
  | none => (fuse, false, L, 7)
  | some f => if ¬ Whole f then (fuse, false, L, 10) else if fuse = 0 then (0, true, L, 6) else ((rBurnt fuse false).1, false, insL t f (dropL k L), 0)
/-- What stays behind a restart. -/
def rLeft (keep : List Int) : FL → Nat → FL
  | [], _ => []
  | x :: L, i => if x.2.ever = true ∧ x.2.safe = x.2.l.length then x :: rLeft keep L i else
    if x.2.safe + (keptOf keep i (x.2.l.length - x.2.safe)).toNat = 0 ∧ x.2.ever = false then rLeft keep L (i + 1)
    else (x.1, ⟨x.2.l.take (x.2.safe + (keptOf keep i (x.2.l.length - x.2.safe)).toNat), x.2.safe + (keptOf keep i (x.2.l.length - x.2.safe)).toNat, true⟩) :: rLeft keep L (i + 1)
theorem Ref.away {F : Nat → Prop} {w w' : World} {base p : Nat} {v : Value} {cap fuse : Int} {lost : Bool} {xs : List RF} (h : Ref w base p v cap fuse lost xs) (ht : Touch F w w') (hp : ¬ F p) (hv : ∀ g, v.ownBlock = some g → ¬ F g) (hx : ∀ x ∈ xs, ∀ ad, x.A = some ad → 0 < x.n → ¬ F ad.block) : Ref w' base p v cap fuse lost xs := by
  refine ⟨(ht.2.2.2.2 p h.lt hp).trans h.head, h.pb, ⟨h.rows.1, ?_⟩, h.vp, fun x hxm => (h.bytes x hxm).touch (hx x hxm) ht, h.apart, h.nil_, h.le, h.few⟩
  rcases h.rows.2 with e | ⟨g, cap', cur, e, hb, hg, r⟩
  · exact .inl e
  · exact .inr ⟨g, cap', cur, e, hb, (ht.2.2.2.2 g (Array.getElem?_eq_some_iff.1 hg).1 (hv g (by rw [e]; rfl))).trans hg, r⟩
/-- A file laid, wherever one has come to. -/
theorem put_from {w w3 : World} {base p : Nat} {v v2 : Value} {cap fuse : Int} {lost : Bool} {xs xs2 : List RF} (h3 : Ref w3 base p v2 cap fuse lost xs2) (hr2 : Rising (absF xs2)) (ht : Touch (RFoot p v xs) w w3) (hf : ∀ j, RFoot p v2 xs2 j → RFoot p v xs j ∨ w.heap.size ≤ j)
    (x : RF) (hB : Bytes w3 x.A x.n x.f.l) (hA : ∀ ad, x.A = some ad → 0 < x.n → ad.block ≠ p ∧ v2.ownBlock ≠ some ad.block) (hnil : x.A = none → x.c = 0) (hle : x.n ≤ x.c) (hbase : base ≤ w.heap.size) (hfew : xs2.length < 1000) (hx : ∀ ad, x.A = some ad → 0 < x.n → RFoot p v xs ad.block ∨ w.heap.size ≤ ad.block) :
    Calls Try.prog 31 #[.pointer (some ⟨p, 0, none⟩), .agg x.cells.toArray] w3 fun e w' => e = .returned (.tuple #[]) ∧ ∃ v' xs', Ref w' base p v' cap fuse lost xs' ∧ absF xs' = insL (keyF x) x.f (absF xs2) ∧ Touch (RFoot p v xs) w w' ∧ ∀ j, RFoot p v' xs' j → RFoot p v xs j ∨ w.heap.size ≤ j := by
  refine (put31_any h3 hr2 x hB hA hnil hle (Nat.le_trans hbase ht.2.2.2.1) hfew).mono ?_
  rintro e w' ⟨rfl, v', xs', q1, q2, q3, q4⟩
  refine ⟨rfl, v', xs', q1, q2, ht.trans (q3.mono fun j _ e => hf j e), fun j hj => ?_⟩
  rcases q4 j hj with h | h | ⟨ad, e, h0, e2⟩
  · exact hf j h
  · exact .inr (Nat.le_trans ht.2.2.2.1 h)
  · rw [← e2]; exact hx ad e h0
/-- A row of bytes that was made behind S. -/
theorem made_row {w : World} {base S : Nat} {v : Value} {l : List Nat} (h : w.ownsRow base 5 1 v l.length (vals l)) (hv : ∀ g, v.ownBlock = some g → S ≤ g) :
    ∃ A c, v = .slice A l.length c ∧ l.length ≤ c ∧ (A = none → c = 0) ∧ ∀ ad, A = some ad → S ≤ ad.block := by
  rcases h.2 with ⟨e, h0⟩ | ⟨g, cap, cur, e, hb, hg, hc, _⟩
  · exact ⟨none, 0, by rw [e, h0], by omega, fun _ => rfl, fun ad e => by cases e⟩
  · refine ⟨_, _, e, hc, (fun e => by cases e), fun ad e2 => ?_⟩
    cases e2
    exact hv g (by rw [e]; rfl)
/-- A file laid, of bytes that were made behind w: what the disk is then. -/
theorem lay_file {w w1 : World} {base p : Nat} {v : Value} {cap fuse : Int} {lost : Bool} {xs : List RF} (hr : Rising (absF xs)) (h1 : Ref w1 base p v cap fuse lost xs) (hlt : p < w.heap.size) (hvl : ∀ g, v.ownBlock = some g → g < w.heap.size) (ht : Touch (fun j => j = p) w w1) (hbase : base ≤ w.heap.size) (hfew : xs.length < 1000)
    (s : ByteArray) (A : Option Addr) (c : Nat) (l : List Nat) (sf : Nat) (ev : Bool) (hB : Bytes w1 A l.length l) (hA : ∀ ad, A = some ad → w.heap.size ≤ ad.block) (hnil : A = none → c = 0) (hle : l.length ≤ c) :
    Calls Try.prog 31 #[.pointer (some ⟨p, 0, none⟩), .agg #[.string s, .slice A l.length c, .int .i64 (sf : Nat), .bool ev]] w1 fun e w' => e = .returned (.tuple #[]) ∧ ∃ v' xs', Ref w' base p v' cap fuse lost xs' ∧ absF xs' = insL s.data.toList ⟨l, sf, ev⟩ (absF xs) ∧ Touch (RFoot p v xs) w w' ∧ ∀ j, RFoot p v' xs' j → RFoot p v xs j ∨ w.heap.size ≤ j := by
  refine (put31_any h1 hr ⟨s, A, l.length, c, ⟨l, sf, ev⟩⟩ hB (fun ad e _ => ⟨by have := hA ad e; omega, fun e2 => by have := hvl _ e2; have := hA ad e; omega⟩) hnil hle (Nat.le_trans hbase ht.2.2.2.1) hfew).mono ?_
  rintro e w' ⟨rfl, v', xs', q1, q2, q3, q4⟩
  refine ⟨rfl, v', xs', q1, q2, (ht.mono fun _ _ e => .inl e).trans (q3.mono fun _ _ e => .inl e), fun j hj => ?_⟩
  rcases q4 j hj with h | h | ⟨ad, e, _, e2⟩
  · exact .inl h
  · exact .inr (Nat.le_trans ht.2.2.2.1 h)
  · exact .inr (by rw [← e2]; exact hA ad e)
theorem Ref.vlt {w : World} {base p : Nat} {v : Value} {cap fuse : Int} {lost : Bool} {xs : List RF} (h : Ref w base p v cap fuse lost xs) : ∀ g, v.ownBlock = some g → g < w.heap.size := fun g hg => (World.ownsRow.lt h.rows g hg).2

set_option maxRecDepth 50000 in
set_option maxHeartbeats 4000000 in
theorem act_harm {w : World} {base p : Nat} {v : Value} {cap fuse : Int} {xs : List RF} (h : Ref w base p v cap fuse false xs) (hr : Rising (absF xs)) (s t : ByteArray) (m : Int) (B : Option Addr) (n c : Nat) (hs : s.size ≤ 281474976710656) (data : List Nat) (hD : Bytes w B n data) (hDn : B = none → c = 0) (hbase : base ≤ w.heap.size) (hfew : xs.length < 1000) (hc0 : 0 ≤ cap) (hc1 : cap ≤ 4194304) (hT : totX xs ≤ 100000000) (hn : n ≤ 1000000) :
    Calls Try.prog 10 #[.pointer (some ⟨p, 0, none⟩), .int .i64 5, .string s, .string t, .int .i64 m, .slice B n c] w (RDoes w base p v xs cap (rHarm cap fuse (absF xs) s.data.toList data)) := by
  obtain ⟨d0, d1, d2, d3, hfz⟩ := h.facts
  have H27 := Lib.hid (at_any h s)
  have H28 := Lib.hid (right_any w s hs)
  have H29 := Lib.hid (refRoom_any h hc0 hc1 hT)
  have HR := Lib.hid h
  have HRis := Lib.hid hr
  cases hnm : nameB s.data.toList with
  | false =>
    rw [show rHarm cap fuse (absF xs) s.data.toList data = (fuse, false, absF xs, 1) by simp [rHarm, hnm]]
    rw [hnm] at H28
    clear h d0 d1 d2 hfz hr
    go_enter Try.func10, Try.ntmps10
    go_wp2_with (first | (go_at_call 27; refine H27.out.mono ?_; rintro e w1 ⟨rfl, rfl⟩) | (go_at_call 28; refine H28.out.mono ?_; rintro e w1 ⟨rfl, rfl⟩))
    go_ret
    exact rd_same 1 HR.out (Touch.refl _ _)
  | true =>
    rw [hnm] at H28
    obtain ⟨R, hR⟩ : ∃ R : Int, R = cap - (totX xs : Nat) := ⟨_, rfl⟩
    rw [← hR] at H29
    have htot := tot_abs (xs := xs) (fun x hx => (h.bytes x hx).1)
    have hRb : -100000000 ≤ R ∧ R ≤ 4194304 := by omega
    have hDl : data.length = n := hD.1
    have e0 : rHarm cap fuse (absF xs) s.data.toList data = if R + (lenAt (fmL (absF xs)) s.data.toList : Nat) < (n : Nat) then (fuse, false, absF xs, 4) else (fuse, false, insL s.data.toList (allSafe data) (absF xs), 0) := by simp [rHarm, hnm, htot, hR, hDl]
    rw [e0]
    -- the end that both roads come to
    have HEnd : Hid (∀ (w1 : World) (v' : Value), w1.ownsRow w.heap.size 5 1 v' data.length (vals data) → Below w.heap.size w w1 → ∃ A c', v' = .slice A n c' ∧ Calls Try.prog 31 #[.pointer (some ⟨p, 0, none⟩), .agg #[.string s, .slice A n c', .int .i64 (n : Nat), .bool true]] w1 fun e w' => e = .returned (.tuple #[]) ∧ ∃ v2 xs', Ref w' base p v2 cap fuse false xs' ∧ absF xs' = insL s.data.toList (allSafe data) (absF xs) ∧ Touch (RFoot p v xs) w w' ∧ ∀ j, RFoot p v2 xs' j → RFoot p v xs j ∨ w.heap.size ≤ j) := by
      intro w1 v' hown hb1
      obtain ⟨A, c', e, hle, hnil, hA⟩ := made_row hown (fun g hg => (World.ownsRow.lt hown g hg).1)
      subst e
      have hB1 : Bytes w1 A data.length data := bytes_of_own hown hD.2.1 rfl
      have := lay_file (w := w) (w1 := w1) hr (h.belowS hb1) h.lt h.vlt (touch_below hb1) hbase hfew s A c' data n true hB1 hA hnil hle
      rw [hDl] at this
      have ea : (⟨data, n, true⟩ : File) = allSafe data := by unfold allSafe; rw [hDl]
      rw [ea] at this
      exact ⟨A, c', by rw [hDl], this⟩
    have HD := Lib.hid hD
    have HDn := Lib.hid hDn
    have HB := Lib.hid hbase
    have HDl := Lib.hid hDl
    rcases at_cases hr s.data.toList with ⟨h1, h2, _⟩ | ⟨i, hi, h1, h2, h3, h4⟩
    · have hla : lenAt (fmL (absF xs)) s.data.toList = 0 := by simp [lenAt, h2]
      rw [hla]
      rw [h1] at H27
      clear h1
      have y1 : IntKind.i64.wrap R = R := IntWalk.i64_in _ (by omega)
      have y1b : wrap64 R = R := IntWalk.wrap64_in _ (by omega)
      by_cases hfull : R + ((0 : Nat) : Int) < (n : Nat)
      · rw [if_pos hfull]
        have y2 : decide (R < (n : Int)) = true := by simpa using hfull
        clear h d0 d1 d2 hfz hr hR htot hRb hDl e0 h2 hla hfull hD hDn hbase
        go_enter Try.func10, Try.ntmps10
        go_wp2_with (first | (go_at_call 27; refine H27.out.mono ?_; rintro e w1 ⟨rfl, rfl⟩) | (go_at_call 28; refine H28.out.mono ?_; rintro e w1 ⟨rfl, rfl⟩) | (go_at_call 29; refine H29.out.mono ?_; rintro e w1 ⟨rfl, rfl⟩))
        go_ret
        exact rd_same 4 HR.out (Touch.refl _ _)
      · rw [if_neg hfull]
        have y2 : decide (R < (n : Int)) = false := by simpa using hfull
        clear h d0 d1 d2 hfz hr hR htot hRb hDl e0 h2 hla hfull hD hDn hbase
        go_enter Try.func10, Try.ntmps10
        go_wp2_with (first | (go_at_call 27; refine H27.out.mono ?_; rintro e w1 ⟨rfl, rfl⟩) | (go_at_call 28; refine H28.out.mono ?_; rintro e w1 ⟨rfl, rfl⟩) | (go_at_call 29; refine H29.out.mono ?_; rintro e w1 ⟨rfl, rfl⟩) | (at_builtin; refine wpList_append_bytes rfl (.tmp 107) (.tmp 108) rfl w.heap.size _ [] rfl (World.ownsRow_lit (base := w.heap.size) w #[] 0 (Nat.le_refl _) (by simp) rfl) (by simp) B n c data rfl (HD.out.alloc _) HDn.out (by simp; omega) ?_; intro v' w1 hown hgrow hnl hblk; obtain ⟨A, c', e, hcall⟩ := HEnd.out w1 v' (by simpa using hown) (((Below.refl _ _).alloc (Nat.le_refl _) _).grown hgrow (by simp) (fun k hk => by cases hk; exact Nat.le_refl _)); subst e; have HC := Lib.hid hcall; clear hown hgrow hnl hblk hcall) | (go_at_call 31; refine HC.out.mono ?_; rintro e w4 ⟨rfl, hq⟩; have HQ := Lib.hid hq; clear hq))
        go_ret
        obtain ⟨v2, xs', r1, r2, r3, r4⟩ := HQ.out
        exact ⟨rfl, v2, xs', r1, r2, r3, r4⟩
    · have hla : lenAt (fmL (absF xs)) s.data.toList = xs[i].n := by simp [lenAt, h4, (h.bytes _ (List.getElem_mem hi)).1]
      rw [hla]
      rw [h1] at H27
      obtain ⟨A, cp, rfl, hcp, hAc, _⟩ := h.form
      obtain ⟨g, rfl, hgp, _, _, c0, c1, c2, c3, _⟩ := h.at_ hi
      obtain ⟨n1, hn1⟩ : ∃ n1, n1 = xs.length := ⟨_, rfl⟩
      have HN1 := Lib.hid hn1
      rw [← hn1] at hcp d1
      have y1 : (0 : Int) ≤ ((i : Nat) : Int) := by omega
      have y2 : ((i : Nat) : Int) < (n1 : Int) := by omega
      have y3 : ((i : Nat) : Int).toNat = i := by omega
      have y4 : decide ((0 : Int) ≤ ((i : Nat) : Int)) = true := by simp
      have hxn : xs[i].n ≤ 100000000 := by
        have e1 := totX_take xs i hi
        have e2 := totX_le xs (i + 1)
        omega
      obtain ⟨x, hx⟩ : ∃ x, x = xs[i].n := ⟨_, rfl⟩
      rw [← hx] at c1 hxn ⊢
      have z1 : IntKind.i64.wrap (R + (x : Int)) = R + (x : Int) := IntWalk.i64_in _ (by omega)
      have z1b : wrap64 (R + (x : Int)) = R + (x : Int) := IntWalk.wrap64_in _ (by omega)
      by_cases hfull : R + (x : Int) < (n : Nat)
      · rw [if_pos hfull]
        have z2 : decide (R + (x : Int) < (n : Int)) = true := by simpa using hfull
        clear h d0 d2 hfz hr hR htot hRb hDl e0 h1 h2 h3 h4 hla hfull hD hDn hbase hAc hn1 hx
        go_enter Try.func10, Try.ntmps10
        go_wp2_with (first | (go_at_call 27; refine H27.out.mono ?_; rintro e w1 ⟨rfl, rfl⟩) | (go_at_call 28; refine H28.out.mono ?_; rintro e w1 ⟨rfl, rfl⟩) | (go_at_call 29; refine H29.out.mono ?_; rintro e w1 ⟨rfl, rfl⟩))
        go_ret
        exact rd_same 4 HR.out (Touch.refl _ _)
      · rw [if_neg hfull]
        have z2 : decide (R + (x : Int) < (n : Int)) = false := by simpa using hfull
        clear h d0 d2 hfz hr hR htot hRb hDl e0 h1 h2 h3 h4 hla hfull hD hDn hbase hAc hn1 hx
        go_enter Try.func10, Try.ntmps10
        go_wp2_with (first | (go_at_call 27; refine H27.out.mono ?_; rintro e w1 ⟨rfl, rfl⟩) | (go_at_call 28; refine H28.out.mono ?_; rintro e w1 ⟨rfl, rfl⟩) | (go_at_call 29; refine H29.out.mono ?_; rintro e w1 ⟨rfl, rfl⟩) | (at_builtin; refine wpList_append_bytes rfl (.tmp 107) (.tmp 108) rfl w.heap.size _ [] rfl (World.ownsRow_lit (base := w.heap.size) w #[] 0 (Nat.le_refl _) (by simp) rfl) (by simp) B n c data rfl (HD.out.alloc _) HDn.out (by simp; omega) ?_; intro v' w1 hown hgrow hnl hblk; obtain ⟨A, c', e, hcall⟩ := HEnd.out w1 v' (by simpa using hown) (((Below.refl _ _).alloc (Nat.le_refl _) _).grown hgrow (by simp) (fun k hk => by cases hk; exact Nat.le_refl _)); subst e; have HC := Lib.hid hcall; clear hown hgrow hnl hblk hcall) | (go_at_call 31; refine HC.out.mono ?_; rintro e w4 ⟨rfl, hq⟩; have HQ := Lib.hid hq; clear hq))
        go_ret
        obtain ⟨v2, xs', r1, r2, r3, r4⟩ := HQ.out
        exact ⟨rfl, v2, xs', r1, r2, r3, r4⟩
end Go.Proofs.Ytedhbcaakdfcbaa.disk
