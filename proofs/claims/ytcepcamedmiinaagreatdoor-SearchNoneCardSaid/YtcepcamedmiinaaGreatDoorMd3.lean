/- Keys, one behind the other; a key, as deep as may be: the walks. -/
import Derived.Test.YtcepcamedmiinaaGreatDoorMd2
import Derived.Deep.RegionHeld3
namespace Go.Proofs.YtcepcamedmiinaaGreatDoor.sea
open Go.ChangeShapes Go.WideShapes Go.ChangeAt Go.RowKit
open Go.Proofs.YtcepcamedmiinaaGreatDoor.codec (Bytes vals)
open Go.Proofs.YtcepcamedmiinaaGreatDoor.row
set_option linter.unusedVariables false
set_option maxRecDepth 100000
set_option linter.unusedSimpArgs false

theorem grown_or {g g4 m m4 c c4 S : Nat} (h : Value.ownBlock (.slice (some ⟨g4, 0, none⟩) m4 c4) = Value.ownBlock (.slice (some ⟨g, 0, none⟩) m c) ∨ ∃ x, Value.ownBlock (.slice (some ⟨g4, 0, none⟩) m4 c4) = some x ∧ S ≤ x) : g4 = g ∨ S ≤ g4 := by
  rcases h with h | ⟨x, h, h5⟩
  · left
    simpa [Value.ownBlock] using h
  · right
    have : g4 = x := by simpa [Value.ownBlock] using h
    omega
theorem LS.state {n d : Nat} {W : World} {p q : Nat} {R : Rs Md} {k : Nat} {l : List Tk} {b : Bool} {ys : List Vk} {g m c : Nat} {w : World} (h : LS n d W p q R k l b ys g m c w) : ST w p l b := h.1
theorem LS.len {n d : Nat} {W : World} {p q : Nat} {R : Rs Md} {k : Nat} {l : List Tk} {b : Bool} {ys : List Vk} {g m c : Nat} {w : World} (h : LS n d W p q R k l b ys g m c w) : ys.length = m ∧ m ≤ 201 := by
  have h1 := h.2.1.1
  have h2 := h.2.2.2.2.2.2.2.2.2.1
  have e : m = ys.length := by
    rcases h.2.1.2 with ⟨e, _⟩ | ⟨g', cap, cur, e, _⟩
    · cases e
    · cases e; rfl
  omega
/-- All keys, as what is answered. -/
theorem LS.done {n d : Nat} {W : World} {p q : Nat} {R : Rs Md} {k : Nat} {l : List Tk} {b : Bool} {ys : List Vk} {g m c : Nat} {w : World} (h : LS n d W p q R k l b ys g m c w) (hgo : goesB l b = false) :
    KeyAns (n + 1) W p R (.returned (.func (.func 21) #[] #[.pointer (some ⟨q, 0, none⟩)])) w := by
  have hm := h.len
  obtain ⟨h1, h2, h3, h4, h5, h6, h7, h8, h9, h10, h11⟩ := h
  rw [loop_stop _ _ hgo] at h11
  subst h11
  obtain ⟨A, c', e, _, _, hR⟩ := row.Own.rd fV h2
  cases e
  refine ⟨⟨_, _, fun _ => true⟩, rfl, h1, h6, fun hb => .inr ?_⟩
  exact .keys q g _ _ ys h7 h4 (h2.lt (g := g) rfl).2 h5 (by omega) hR (fun y hy => ((h9 hb).2 y hy).keep (fun _ _ _ => rfl) (Nat.le_refl _) (fun x hx _ => hx.1))
/-- What is known of the reader where keys may come. -/
theorem goes_cases (l : List Tk) (b : Bool) : (b = true ∧ goesB l b = false) ∨ (b = false ∧ l = [] ∧ goesB l b = false) ∨ (b = false ∧ 0 < l.length ∧ goesB l b = !comesB l b 4) := by
  cases b with
  | true => exact .inl ⟨rfl, rfl⟩
  | false =>
    cases l with
    | nil => exact .inr (.inl ⟨rfl, rfl, rfl⟩)
    | cons t r => exact .inr (.inr ⟨rfl, by simp, rfl⟩)
set_option maxHeartbeats 4000000 in
theorem keys_any (n d : Nat) (hd : d ≤ 100) (hK : KeyC n d) (W : World) (p : Nat) (l : List Tk) (b : Bool) (h : ST W p l b) :
    Calls Tryz.prog 16 #[.pointer (some ⟨p, 0, none⟩), .int .i64 (d : Nat)] W (KeyAns (n + 1) W p (keysOf (keyP lv n d) l b)) := by
  have H1 := Lib.hid (hK W p l b h)
  have HF := Lib.hid (fun w1 (y : Vk) hs ht hk => LS.first (n := n) (d := d) (W := W) (p := p) (l := l) (b := b) (w1 := w1) (y := y) h.1.short h.1.lt hs ht hk)
  have HC := Lib.hid hK
  generalize keysOf (keyP lv n d) l b = R at *
  clear hK
  unfold KeyAns at H1
  go_enter Tryz.func16, Tryz.ntmps16
  go_wp2_with fail
  refine H1.out.mono ?_
  rintro e w1 ⟨y, rfl, hs, ht, hk⟩
  have HS0 := Lib.hid (HF.out w1 y hs ht hk)
  generalize hr : keyP lv n d l b = r at *
  clear hs ht hk hr HF H1 h
  have hf : fv y = .func (.func y.fn) #[] y.caps := rfl
  rw [hf] at HS0 ⊢
  go_wp2_with fail
  obtain ⟨q, hq⟩ : ∃ q, q = w1.heap.size + 1 := ⟨_, rfl⟩
  obtain ⟨g0, hg0⟩ : ∃ g0, g0 = w1.heap.size := ⟨_, rfl⟩
  rw [← hq, ← hg0] at HS0
  have HQ := Lib.hid hq
  rw [← hq, ← hg0]
  clear hq hf
  generalize hw2 : (w1.alloc (.cells #[.func (.func y.fn) #[] y.caps] 43)).alloc (.cells #[.slice (some ⟨g0, 0, none⟩) 1 1] 61) = w2 at *
  clear hw2 hg0
  generalize [(⟨y.fn, y.caps, r.f⟩ : Vk)] = ys0 at *
  generalize r.l = l0 at *
  generalize r.b = b0 at *
  go_loopw [10] (fun _ wr => ∃ (k : Nat) (l : List Tk) (b : Bool) (ys : List Vk) (g m c : Nat), Hid (LS n d W p q R k l b ys g m c wr)) (fun _ wr => left wr p)
  case atStart => exact ⟨_, _, _, _, _, _, _, HS0⟩
  case round =>
    obtain ⟨k, l1, b1, ys, g, m, c, HS⟩ := hrel
    have hrs := HS.out.1.1
    have hfree := hrs.free
    obtain ⟨Rr, mr, dr, c0, hl, hmd, hm200⟩ := hrs.head
    obtain ⟨f1, c1, f0⟩ := hfree
    rcases goes_cases l1 b1 with ⟨hb, hg⟩ | ⟨hb, hl0, hg⟩ | ⟨hb, hl0, hg⟩
    · subst hb
      have HD := Lib.hid (HS.out.done hg)
      clear hl hmd hm200 hg hrs
      go_wp2
      go_ret
      exact HD.out
    · subst hb hl0
      have HD := Lib.hid (HS.out.done hg)
      have hm0 : mr = 0 := by simpa using hl.symm
      subst hm0
      clear hl hmd hm200 hg hrs
      go_wp2
      go_ret
      exact HD.out
    · subst hb
      have HCo := Lib.hid (comes_any wr p l1 false 4 hrs)
      have hm1 : (0 : Int) < (mr : Int) := by omega
      have hm0 : decide ((0 : Int) < (mr : Int)) = true := decide_eq_true hm1
      clear hl hmd hm200 hrs hl0
      cases hc : comesB l1 false 4 with
      | true =>
        rw [hc] at HCo hg
        have HD := Lib.hid (HS.out.done hg)
        clear hc hg
        go_wp2_with (go_at_call 20; refine HCo.out.mono ?_; rintro e w3 ⟨rfl, hw⟩; replace hw := hw.symm; subst hw)
        go_ret
        exact HD.out
      | false =>
        rw [hc] at HCo hg
        have HGo := Lib.hid (show goesB l1 false = true from hg)
        clear hc hg
        go_upto_region 3 with (go_at_call 20; refine HCo.out.mono ?_; rintro e w3 ⟨rfl, hw⟩; replace hw := hw.symm; subst hw)
        have hlen := HS.out.len
        have HLen := Lib.hid hlen
        clear hlen c0 c1 f0 f1
        obtain ⟨k, rfl⟩ : ∃ j, k = j + 1 := ⟨k - 1, by have := (HS.out.2.2.2.2.2.2.2.2.1 rfl).1; omega⟩
        have HSd : Hid (LS n d W p q R (k + 1) l1 false ys g m c wr.drew) := Lib.hid (HS.out.below (show Below wr.heap.size wr wr.drew from codec.below_draws (Below.refl _ _) 1))
        have hbx := HSd.out.2.2.2.2.1
        have b0 := hbx.cell
        have HKy := Lib.hid (HC.out wr.drew p l1 false HSd.out.1)
        unfold KeyAns at HKy
        have HNx := Lib.hid (fun w1 w2 (y : Vk) g2 m2 c2 hs ht hk ho hg hg2 => LS.next (w1 := w1) (w2 := w2) (y := y) (g2 := g2) (m2 := m2) (c2 := c2) HSd.out HGo.out hs ht hk ho hg hg2)
        have HO := Lib.hid HSd.out.2.1
        have HBx := Lib.hid hbx
        have HSz := Lib.hid HSd.out.2.2.2.2.2.1.2.2.2.1
        have HQp := Lib.hid (show q ≠ p ∧ g ≠ p ∧ g ≠ q from by have h1 := HSd.out.2.2.2.2.2.2.1; have h2 := HSd.out.2.2.2.2.2.2.2.1; have h3 := HSd.out.2.2.2.1; have h4 := HSd.out.2.2.1; omega)
        have HM := Lib.hid HS.out.1.1.left
        clear hbx
        have HLs := Lib.hid (And.intro ((key_sound lv n d).less l1 false) ((key_sound lv n d).le l1 false))
        generalize hr2 : keyP lv n d l1 false = r2 at *
        go_region_law (first
          | ((try go_simp); go_at_call 19; refine HKy.out.mono ?_; rintro e w3 ⟨y3, rfl, hs3, ht3, hk3⟩; have hf3 : fv y3 = .func (.func y3.fn) #[] y3.caps := rfl; rw [hf3]; have b1 := (HBx.out.keep (ht3.2.2.2.2 _ HBx.out.lt HQp.out.1)).cell; have b2 : (w3.alloc (.cells #[.func (.func y3.fn) #[] y3.caps] 43)).cell? ⟨q, 0, none⟩ = some (.slice (some ⟨g, 0, none⟩) m c) := ((HBx.out.keep (ht3.2.2.2.2 _ HBx.out.lt HQp.out.1)).keep (alloc_keeps _ _ _ (Nat.lt_of_lt_of_le HBx.out.lt ht3.2.2.2.1))).cell; have HA3 := Lib.hid (And.intro hs3 (And.intro ht3 hk3)); clear hs3 ht3 hk3 hf3)
          | (refine step_append_own fV (by decide) (by decide) (by_ := 8) (by decide) (z := .nilFunc) rfl rfl (.tmp 28) (.tmp 32) 61 43 rfl Tryz.underlying61 infoV W.heap.size (.slice (some ⟨g, 0, none⟩) m c) ys (by simp [Act.eval, Act.put]) (HO.out.touch HA3.out.2.1 (fun x e hx => HQp.out.2.1 (by cases e; exact hx))) (Nat.le_trans HSz.out HA3.out.2.1.2.2.2.1) (by have := HLen.out; omega) ⟨y3.fn, y3.caps, r2.f⟩ (0, 0) w3.heap.size rfl (by simp [Act.eval, Act.put]) _ rfl ?_; intro v4 w4 ho4 hg4 h4; obtain ⟨g4, m4, c4, rfl, hB4, hlt4⟩ := own_form ho4 (by simp); have box4 := (HBx.out.keep (HA3.out.2.1.2.2.2.2 _ HBx.out.lt HQp.out.1)).keep (hg4.block q (Nat.lt_of_lt_of_le HBx.out.lt HA3.out.2.1.2.2.2.1) (fun e => HQp.out.2.2 (by cases e; rfl))); have b4 := box4.cell; have fz4 := box4.free; have HN4 := Lib.hid (HNx.out w3 w4 y3 g4 m4 c4 HA3.out.1 HA3.out.2.1 HA3.out.2.2 ho4 hg4 (grown_or h4)); clear ho4 hg4 h4 hB4 hlt4 box4))
        all_goals
          clear b0 b1
          go_wp2
          go_roundw
          case rel => first | exact ⟨_, _, _, _, _, _, _, HN4⟩ | ((repeat apply Exists.intro); exact ⟨⟨_, _, _, _, _, _, _, HN4⟩, rfl⟩)
          case measure =>
            (show sea.left _ p < sea.left wr p)
            rw [HM.out, HN4.out.1.1.left]
            have := HLs.out
            cases hb2 : r2.b with
            | true => simp; omega
            | false => have h9 := this.1 hb2; simp; omega
end Go.Proofs.YtcepcamedmiinaaGreatDoor.sea
namespace Go.Proofs.YtcepcamedmiinaaGreatDoor.sea
open Go.ChangeShapes Go.WideShapes Go.ChangeAt Go.RowKit
open Go.Proofs.YtcepcamedmiinaaGreatDoor.codec (Bytes vals)
open Go.Proofs.YtcepcamedmiinaaGreatDoor.row
set_option linter.unusedVariables false
set_option maxRecDepth 100000
set_option linter.unusedSimpArgs false

theorem KeyAns.since {n p : Nat} {r : Rs Md} {w w1 w' : World} {e : Ending} (h : KeyAns n w1 p r e w') (ht : codec.Touch (· = p) w w1) : KeyAns n w p r e w' := by
  obtain ⟨y, he, hs, ht2, hk⟩ := h
  refine ⟨y, he, hs, touch_trans ht ht2, fun hb => (hk hb).keep (fun _ _ _ => rfl) (Nat.le_refl _) (fun x hx _ => ?_)⟩
  have h1 : w1.heap.size ≤ x := hx
  have h2 := ht.2.2.2.1
  show w.heap.size ≤ x
  omega
theorem great_size (s : ByteArray) : (greatS s).size = s.size := by
  show (s.data.map upB).size = s.data.size
  rw [Array.size_map]
theorem great_none : greatS ⟨#[]⟩ = ⟨#[]⟩ := by decide +kernel
set_option maxHeartbeats 2000000 in
theorem key_step (n d : Nat) (hd : d ≤ 100) (hnd : n = 0 → 10 < d) (hK : 0 < n → KeyC n (d + 1)) : KeyC (n + 1) d := by
  intro w p l b h
  have HM := Lib.hid (must_any w p l b (decide (d ≤ 10)) h.1)
  have eb : (b || !decide (d ≤ 10)) = (b || decide (10 < d)) := by
    congr 1
    by_cases h : d ≤ 10
    · rw [decide_eq_true h, decide_eq_false (by omega)]; rfl
    · rw [decide_eq_false h, decide_eq_true (by omega)]; rfl
  rw [eb] at HM
  have HS := Lib.hid h
  have HP := Lib.hid h.1.lt
  have ed : decide ((d : Int) ≤ 10) = decide (d ≤ 10) := decide_eq_decide.2 (by omega)
  unfold keyP
  cases hc : comesB l (b || decide (10 < d)) 3 with
  | true =>
    rw [if_pos rfl]
    have hb0 := comes_good hc
    have hd10 : d ≤ 10 := by
      by_cases h : d ≤ 10
      · exact h
      · rw [decide_eq_true (by omega : 10 < d)] at hb0
        simp at hb0
    have hn0 : 0 < n := by
      by_cases h : n = 0
      · have := hnd h; omega
      · omega
    have HKey := Lib.hid (hK hn0)
    have eo : decide (d ≤ 10) = true := decide_eq_true hd10
    have eo2 : decide ((d : Int) ≤ 10) = true := decide_eq_true (by omega)
    rw [hb0] at HM hc ⊢
    rw [eo] at HM
    have HC := Lib.hid hc
    have l10 : (d : Int) ≤ 10 := by omega
    clear hb0 hd10 hn0 eb ed hc hK hnd eo h
    generalize hR : keysOf (keyP lv n (d + 1)) (takeL l false 3) false = R at *
    have HR := Lib.hid hR
    clear hR
    go_enter Tryz.func19, Tryz.ntmps19
    go_wp2_with fail
    refine HM.out.mono ?_
    rintro e w1 ⟨rfl, hr, ht⟩
    have HS1 := Lib.hid (HS.out.move hr ht)
    have HT1 := Lib.hid ht
    have HCo := Lib.hid (comes_any w1 p l false 3 hr)
    rw [HC.out] at HCo
    have HTk := Lib.hid (take_any w1 p l false 3 hr)
    clear hr ht
    go_wp2_with (go_at_call 20; refine HCo.out.mono ?_; rintro e w3 ⟨rfl, hw⟩; replace hw := hw.symm; subst hw)
    refine HTk.out.mono ?_
    rintro e w2 ⟨rfl, hr, ht⟩
    have HS2 := Lib.hid (HS1.out.move hr ht)
    have HT2 := Lib.hid (touch_trans HT1.out ht)
    rw [HC.out] at HS2
    have HKs := Lib.hid (keys_any n (d + 1) (by omega) HKey.out w2 p _ _ HS2.out)
    rw [show (!true) = false from rfl, HR.out] at HKs
    unfold KeyAns at HKs
    clear hr ht
    go_wp2_with fail
    refine HKs.out.mono ?_
    rintro e w3 ⟨y, rfl, hs, ht, hk⟩
    have HS3 := Lib.hid hs
    have HT3 := Lib.hid ht
    have HK3 := Lib.hid hk
    have HTk2 := Lib.hid (take_any w3 p R.l R.b 4 hs.1)
    clear hs ht hk
    have hf : fv y = .func (.func y.fn) #[] y.caps := rfl
    rw [hf]
    go_wp2_with fail
    refine HTk2.out.mono ?_
    rintro e w4 ⟨rfl, hr, ht⟩
    have HS4 := Lib.hid (HS3.out.move hr ht)
    have HT4 := Lib.hid ht
    clear hr ht
    go_wp2
    go_ret
    refine ⟨y, rfl, HS4.out, touch_trans (touch_trans HT2.out HT3.out) HT4.out, fun hb => ?_⟩
    have hb4 : comesB R.l R.b 4 = true := by simpa using hb
    have hp := HP.out
    have hsz := HT2.out.2.2.2.1
    exact (HK3.out (comes_good hb4)).touch (p := p) (by omega) HT4.out hsz
  | false =>
    rw [if_neg Bool.false_ne_true]
    obtain ⟨bb, hbb⟩ : ∃ bb, bb = (b || decide (10 < d)) := ⟨_, rfl⟩
    rw [← hbb] at HM hc ⊢
    have HKey : Hid (greatS (takeT l bb 1) = nNOT ∨ greatS (takeT l bb 1) = nOR → KeyC n (d + 1)) := Lib.hid (by
      by_cases hn0 : n = 0
      · intro hx
        have hd10 := hnd hn0
        rw [decide_eq_true hd10] at hbb
        have e : takeT l bb 1 = ⟨#[]⟩ := by
          rw [hbb, Bool.or_true]
          unfold takeT
          rw [comes_bad, if_neg Bool.false_ne_true]
        rw [e, great_none] at hx
        exact absurd hx (by decide)
      · exact fun _ => hK (by omega))
    have HC := Lib.hid hc
    obtain ⟨od, hod⟩ : ∃ od, od = decide (d ≤ 10) := ⟨_, rfl⟩
    rw [← hod] at HM
    have eo2 : decide ((d : Int) ≤ 10) = od := by rw [ed, hod]
    have eo3 : decide ((10 : Int) < (d : Int)) = !od := by
      rw [hod]
      by_cases h : d ≤ 10
      · rw [decide_eq_true h, decide_eq_false (by omega)]; rfl
      · rw [decide_eq_false h, decide_eq_true (by omega)]; rfl
    clear eb ed hc hK hnd h hbb hod
    go_enter Tryz.func19, Tryz.ntmps19
    go_wp2_with fail
    refine HM.out.mono ?_
    rintro e w1 ⟨rfl, hr, ht⟩
    have HS1 := Lib.hid (HS.out.move hr ht)
    have HT1 := Lib.hid ht
    have HCo := Lib.hid (comes_any w1 p l bb 3 hr)
    rw [HC.out] at HCo
    have HTk := Lib.hid (take_any w1 p l bb 1 hr)
    have HBg := Lib.hid (take_big (k := 1) hr)
    clear hr ht
    go_wp2_with (go_at_call 20; refine HCo.out.mono ?_; rintro e w3 ⟨rfl, hw⟩; replace hw := hw.symm; subst hw)
    refine HTk.out.mono ?_
    rintro e w2 ⟨rfl, hr, ht⟩
    have HS2 := Lib.hid (HS1.out.move hr ht)
    have HT2 := Lib.hid (touch_trans HT1.out ht)
    have HG := Lib.hid (great_any w2 _ HBg.out)
    clear hr ht
    go_wp2_with fail
    refine HG.out.mono ?_
    rintro e w3 ⟨rfl, hb⟩
    have HS3 := Lib.hid (HS2.out.below hb)
    have HT3 := Lib.hid (touch_trans HT2.out (below_touch _ hb))
    have HN := Lib.hid (named_any n d (by omega) w3 p _ _ _ HS3.out (by rw [great_size]; exact HBg.out) HKey.out)
    clear hb
    unfold KeyAns at HN
    go_wp2_with fail
    refine HN.out.mono ?_
    rintro e w4 ⟨y, rfl, k⟩
    have HK4 := Lib.hid k
    clear k
    have hf : fv y = .func (.func y.fn) #[] y.caps := rfl
    rw [hf]
    go_wp2
    go_ret
    exact KeyAns.since ⟨y, rfl, HK4.out⟩ HT3.out
theorem key_any : ∀ n d : Nat, 12 ≤ n + d → n + d ≤ 60 → 1 ≤ n → KeyC n d
  | 0, d, _, _, h => absurd h (by omega)
  | n + 1, d, h, h2, _ => key_step n d (by omega) (fun e => by omega) (fun h0 => key_any n (d + 1) (by omega) (by omega) h0)
/-- Tokens that came in, or were made. -/
def Toks (w : World) (R : Option Addr) (m d : Nat) (l : List Tk) : Prop :=
  m ≤ d ∧ (R = none → d = 0) ∧ m ≤ 200 ∧ Rd cT 2 w R m l ∧ ∀ t ∈ l, Big t
theorem Toks.below {w w' : World} {R : Option Addr} {m d : Nat} {l : List Tk} (h : Toks w R m d l) (hb : Below w.heap.size w w') : Toks w' R m d l := by
  obtain ⟨h1, h2, h3, h4, h5⟩ := h
  refine ⟨h1, h2, h3, rd_touch h4 (below_touch (fun x => w.heap.size ≤ x) hb) (fun a ha h0 e => ?_), h5⟩
  obtain ⟨b, o, y, k1, k2, k3⟩ := h4.2 0 h0
  rw [k1] at ha
  cases ha
  have := block_lt_of_cell (k3 0 _ rfl)
  have h6 : w.heap.size ≤ b := e
  simp at this
  omega
def isRightB (r : Rs Md) : Bool := !r.b && r.l.isEmpty
/-- What reading all tokens answers. -/
def ReadR (r : Rs Md) (w : World) (e : Ending) (w' : World) : Prop :=
  ∃ y : Vk, e = .returned (.tuple #[fv y, .bool (isRightB r)]) ∧ Below w.heap.size w w' ∧ (isRightB r = true → KeyAt (Since w) 13 w' (fv y) r.f)
def ReadAns (w : World) (l : List Tk) (e : Ending) (w' : World) : Prop :=
  ∃ y : Vk, e = .returned (.tuple #[fv y, .bool (isRight lv l)]) ∧ Below w.heap.size w w' ∧ (isRight lv l = true → KeyAt (Since w) 13 w' (fv y) (readP lv l).f)
theorem rs_new {w : World} {R : Option Addr} {m d : Nat} {l : List Tk} (h : Toks w R m d l) : RS (w.alloc (.cells #[.slice R m d, .bool false] 56)) w.heap.size l false := by
  have hb : Below w.heap.size w (w.alloc (.cells #[.slice R m d, .bool false] 56)) := (Below.refl _ _).alloc (Nat.le_refl _) _
  obtain ⟨h1, h2, h3, h4, h5⟩ := h.below hb
  refine ⟨R, m, d, h1, h2, h3, h4, fun a ha h0 => ?_, h5, heap_alloc_new _ _⟩
  obtain ⟨b, o, y, k1, k2, k3⟩ := h.2.2.2.1.2 0 h0
  rw [k1] at ha
  cases ha
  have := block_lt_of_cell (k3 0 _ rfl)
  simpa using this
set_option maxHeartbeats 2000000 in
theorem read_any (w : World) (R : Option Addr) (m d : Nat) (l : List Tk) (h : Toks w R m d l) (hE : Env w) :
    Calls Tryz.prog 13 #[.slice R m d] w (ReadAns w l) := by
  obtain ⟨w1, hw1⟩ : ∃ w1, w1 = w.alloc (.cells #[.slice R m d, .bool false] 56) := ⟨_, rfl⟩
  have hb1 : Below w.heap.size w w1 := by rw [hw1]; exact (Below.refl _ _).alloc (Nat.le_refl _) _
  have hs1 : ST w1 w.heap.size l false := ⟨by rw [hw1]; exact rs_new h, w, hE, Nat.le_refl _, hb1⟩
  have HKs := Lib.hid (keys_any 12 1 (by decide) (key_any 12 1 (by decide) (by decide) (by decide)) w1 w.heap.size l false hs1)
  show Calls _ _ _ _ (ReadR (keysOf (keyP lv 12 1) l false) w)
  unfold KeyAns at HKs
  generalize keysOf (keyP lv 12 1) l false = r at *
  have HB1 := Lib.hid hb1
  have HW1 := Lib.hid hw1
  clear hb1 hs1 h hE hw1
  go_enter Tryz.func13, Tryz.ntmps13
  go_wp2_with fail
  rw [← HW1.out]
  refine HKs.out.mono ?_
  rintro e w2 ⟨y, rfl, hs, ht, hk⟩
  have HS2 := Lib.hid hs
  have HT2 := Lib.hid ht
  have HK2 := Lib.hid hk
  obtain ⟨Rr, mr, dr, c0, hl, hmd, hm200⟩ := hs.1.head
  obtain ⟨f1, c1, f0⟩ := hs.1.free
  have HBl : Hid (Below w.heap.size w w2) := Lib.hid (HB1.out.trans (ht.toBelow _ (by have := HB1.out.size; omega) (fun i hi e => by omega)))
  have HSz := Lib.hid HB1.out.size
  clear hs ht hk
  have hf : fv y = .func (.func y.fn) #[] y.caps := rfl
  have hfin : ∀ q, (isRightB r = true → KeyAt (Since w) 13 (w2.drewN q) (fv y) r.f) := fun q hb => by
    have hb0 : r.b = false := by unfold isRightB at hb; simp at hb; exact hb.1
    exact (HK2.out hb0).keep (fun _ _ _ => rfl) (Nat.le_refl _) (fun x hx _ => by have h1 : w1.heap.size ≤ x := hx; have := HSz.out; show w.heap.size ≤ x; omega)
  have HFin := Lib.hid hfin
  clear hfin
  rw [hf]
  obtain ⟨rf, rl, rb⟩ := r
  simp only at c1 hl HFin
  cases rb with
  | true =>
    clear c0 hl hmd hm200
    go_wp2_with fail
    go_quiet (fail)
    go_wp2
    go_ret2
    exact ⟨y, rfl, codec.below_draws HBl.out _, HFin.out _⟩
  | false =>
    cases rl with
    | nil =>
      have hm0 : mr = 0 := by simpa using hl.symm
      subst hm0
      clear hl hmd hm200
      go_wp2_with fail
      go_quiet (fail)
      go_wp2
      go_ret2
      exact ⟨y, rfl, codec.below_draws HBl.out _, HFin.out _⟩
    | cons t0 r0 =>
      have hm0 : ((mr : Int) == 0) = false := by rw [beq_eq_false_iff_ne]; simp at hl; omega
      clear hl hmd hm200
      go_wp2_with fail
      go_quiet (fail)
      go_wp2
      go_ret2
      exact ⟨y, rfl, codec.below_draws HBl.out _, HFin.out _⟩
end Go.Proofs.YtcepcamedmiinaaGreatDoor.sea
