/- Of any bytes what is there is got; behind what isn't there nothing is. -/
import Derived.Test.YtcmgekimogecaaaF
namespace Go.Proofs.Ytcmgekimogecaaa.codec
open Go.ChangeShapes Go.WideShapes Go.ChangeAt Go.RowKit
set_option linter.unusedVariables false
set_option linter.unusedSimpArgs false

/-- How far an In was read. -/
def ReadSt (w : World) (q g n0 : Nat) (lb : List Nat) (bb : Bool) (m : Nat) (wr : World) : Prop :=
  Below w.heap.size w wr ∧ w.heap.size ≤ q ∧ w.heap.size ≤ g ∧ g < wr.heap.size ∧ m ≤ n0 ∧ lb.length = n0 ∧
  ((bb = true ∧ BadIn wr q ∧ m = n0) ∨ (bb = false ∧ ∃ o c, InIs wr q g o c (lb.drop m) ∧ c ≤ 10000000))

theorem Touch.mono_touch {a b : World} {B q : Nat} (h : Touch (fun i => i = q) a b) (hq : B ≤ q) (hB : B ≤ a.heap.size) : Below B a b := h.toBelow B hB (fun i hi => by omega)
theorem Bytes.cut {w : World} {b o n m s : Nat} {l : List Nat} (h : Bytes w (some ⟨b, o, none⟩) n l) (hm : m + s ≤ n) : Bytes w (some ⟨b, o + m, none⟩) s ((l.drop m).take s) := by
  refine ⟨by have := h.1; simp; omega, fun x hx => h.2.1 x (List.mem_of_mem_drop (List.mem_of_mem_take hx)), fun hs => ⟨b, o + m, rfl, fun i hi => ?_⟩⟩
  obtain ⟨b', o', e, hc⟩ := h.2.2 (by omega)
  cases e
  have := hc (m + i) (by omega)
  rw [← Nat.add_assoc] at this
  rw [this]
  simp [List.getD, List.getElem?_take, hi]
/-- What is known behind a step that went well. -/
def Well (wr : World) (q g n0 m s r c : Nat) (lb : List Nat) (w4 : World) : Prop :=
  Calls Try.prog 19 #[.pointer (some ⟨q, 0, none⟩)] w4 (fun e w' => e = .returned (.bool false) ∧ w4 = w') ∧
  Calls Try.prog 21 #[.pointer (some ⟨q, 0, none⟩)] w4 (fun e w' => e = .returned (.int .i64 (r : Nat)) ∧ w4 = w') ∧
  Calls Try.prog 18 #[.pointer (some ⟨q, 0, none⟩)] w4 (fun e w' => e = .returned (.bool (decide (r = 0))) ∧ w4 = w') ∧
  Touch (fun i => i = q) wr w4 ∧ (g < wr.heap.size → g < w4.heap.size) ∧ ∃ o c, InIs w4 q g o c (lb.drop (m + s)) ∧ c ≤ 10000000
theorem well_of {wr w4 : World} {q g n0 m s c : Nat} {lb : List Nat} (hlb : lb.length = n0) (hc : c ≤ 10000000) (h : Went wr q g c ((lb.drop m).drop s) w4) : Well wr q g n0 m s (n0 - (m + s)) c lb w4 := by
  obtain ⟨o', c', h1, h2, h3⟩ := h
  rw [List.drop_drop] at h1
  have hl : (lb.drop (m + s)).length = n0 - (m + s) := by simp; omega
  have e1 := bad_good w4 q g o' c' _ h1
  have e2 := left_good w4 q g o' c' _ h1
  have e3 := done_good w4 q g o' c' _ h1
  rw [hl] at e2 e3
  exact ⟨e1, e2, e3, h2, fun h => by have := h2.2.2.2.1; omega, o', c', h1, by omega⟩
theorem good_n {w wr : World} {q g o c b0 o0 n0 m s : Nat} {lb : List Nat} (hin : InIs wr q g o c (lb.drop m)) (hq : w.heap.size ≤ q) (hb0 : b0 < w.heap.size) (hB : Bytes wr (some ⟨b0, o0, none⟩) n0 lb) (hlb : lb.length = n0)
    (h1 : 1 ≤ s) (h7 : s ≤ 7) (hs : m + s ≤ n0) (hc : c ≤ 10000000) :
    ∃ y r : Nat, y < 72057594037927936 ∧ m + s + r = n0 ∧ Calls Try.prog 15 #[.pointer (some ⟨q, 0, none⟩), .int .i64 (s : Nat)] wr fun e w4 => e = .returned (.int .i64 (y : Nat)) ∧
      (∀ c0, Calls Try.prog 20 #[.slice (some ⟨b0, o0 + m, none⟩) s c0] w4 fun e w' => e = .returned (.int .u64 (y : Nat)) ∧ w4 = w') ∧ Well wr q g n0 m s r c lb w4 := by
  refine ⟨numOf ((lb.drop m).take s), n0 - (m + s), ?_, by omega, ?_⟩
  · have := numOf_lt (lb.drop m) (fun b hb => hB.2.1 b (List.mem_of_mem_drop hb)) s
    exact Nat.lt_of_lt_of_le this (Nat.le_trans (Nat.pow_le_pow_right (by omega) h7) (by decide))
  · refine (inN_good wr q g o c s _ hin (by omega) (by omega) (by simp; omega) hc).mono ?_
    rintro e w4 ⟨rfl, hw⟩
    rw [Int.toNat_natCast] at hw ⊢
    refine ⟨rfl, fun c0 => number_any w4 _ s c0 _ ?_ h7, well_of hlb hc hw⟩
    obtain ⟨o', c', _, h2, _⟩ := hw
    exact (hB.touch (fun ad e _ => by cases e; show ¬ b0 = q; omega) h2).cut hs

/-- A text of the bytes, in whatever order. -/
def TextIs (w4 : World) (v : Value) (S : ByteArray) : Prop := (convert 28 9 v).run Try.prog w4 = .ok (.string S) w4 ∧ ∀ d, (convert 28 9 v).run Try.prog (w4.drewN d) = .ok (.string S) (w4.drewN d)
theorem Bytes.texts {w : World} {A : Option Addr} {n : Nat} {l : List Nat} (h : Bytes w A n l) (c : Nat) : TextIs w (.slice A n c) (strOf l) := ⟨h.text c, fun d => (h.drewN d).text c⟩
theorem good_raw {w wr : World} {q g o c n0 m s : Nat} {A0 : Option Addr} {lb : List Nat} (hin : InIs wr q g o c (lb.drop m)) (hgl : g < wr.heap.size) (hq : w.heap.size ≤ q) (hA : ∀ ad, A0 = some ad → 0 < n0 → ad.block < w.heap.size) (hB : Bytes wr A0 n0 lb) (hlb : lb.length = n0)
    (hs : m + s ≤ n0) (hc : c ≤ 10000000) :
    ∃ (S : ByteArray) (r : Nat), m + s + r = n0 ∧ Calls Try.prog 17 #[.pointer (some ⟨q, 0, none⟩), .int .i64 (s : Nat)] wr fun e w4 => ∃ g', e = .returned (.slice (some ⟨g', 0, none⟩) s s) ∧ TextIs w4 (.slice (some ⟨g', 0, none⟩) s s) S ∧
      (∀ c0, TextIs w4 (.slice (Option.map (fun x => x.add m) A0) s c0) S) ∧ (s = 0 → ∀ c0, TextIs w4 (.slice A0 0 c0) S) ∧ ∀ d, Well wr q g n0 m s r c lb (w4.drewN d) := by
  refine ⟨strOf ((lb.drop m).take s), n0 - (m + s), by omega, ?_⟩
  have hl : ((lb.drop m).take s).length = s := by simp; omega
  refine (inRaw_good wr q g o c s _ hin hgl (by omega) (by simp; omega) hc).mono ?_
  rintro e w4 ⟨⟨g', rfl, hb⟩, hw⟩
  rw [Int.toNat_natCast] at hw hb ⊢
  rw [hl] at hb ⊢
  refine ⟨g', rfl, hb.texts s, fun c0 => ?_, ?_, fun d => well_of hlb hc hw⟩
  · refine Bytes.texts ?_ c0
    obtain ⟨o', c', _, h2, _⟩ := hw
    rcases Nat.eq_zero_or_pos s with h0 | h0
    · subst h0
      exact ⟨by simp, by simp, fun h => absurd h (by omega)⟩
    · obtain ⟨b0, o0, rfl, _⟩ := hB.2.2 (by omega)
      have := (hB.touch (fun ad e hn => by have := hA ad e hn; show ¬ ad.block = q; omega) h2).cut hs
      rw [Option.map_some, add_none]
      exact this
  · rintro rfl c0
    have e0 : strOf ((lb.drop m).take 0) = strOf [] := by simp
    rw [e0]
    exact (show Bytes w4 A0 0 [] from ⟨rfl, by simp, fun h => absurd h (by omega)⟩).texts c0
/-- What is known behind a step that went ill. -/
def Ill (wr : World) (q : Nat) (w4 : World) : Prop :=
  Calls Try.prog 19 #[.pointer (some ⟨q, 0, none⟩)] w4 (fun e w' => e = .returned (.bool true) ∧ w4 = w') ∧
  Calls Try.prog 21 #[.pointer (some ⟨q, 0, none⟩)] w4 (fun e w' => e = .returned (.int .i64 0) ∧ w4 = w') ∧
  Calls Try.prog 18 #[.pointer (some ⟨q, 0, none⟩)] w4 (fun e w' => e = .returned (.bool false) ∧ w4 = w') ∧
  Touch (fun i => i = q) wr w4 ∧ BadIn w4 q
theorem ill_of {wr w4 : World} {q : Nat} (h : Gone wr q w4) : Ill wr q w4 := ⟨bad_bad w4 q h.1, left_bad w4 q h.1, done_bad w4 q h.1, h.2, h.1⟩
theorem ill_n {wr : World} {q : Nat} {s : Int} (h : BadIn wr q ∨ ∃ g o c l, InIs wr q g o c l ∧ ¬ (1 ≤ s ∧ s ≤ 7 ∧ s ≤ (l.length : Nat))) :
    Calls Try.prog 15 #[.pointer (some ⟨q, 0, none⟩), .int .i64 s] wr fun e w4 => e = .returned (.int .i64 0) ∧ Ill wr q w4 := by
  rcases h with h | ⟨g, o, c, l, h, hs⟩
  · refine (inN_bad wr q s h).mono ?_
    rintro e w4 ⟨rfl, rfl⟩
    exact ⟨rfl, ill_of ⟨h, Touch.refl _ _⟩⟩
  · refine (inN_fails wr q g o c s l h hs).mono ?_
    rintro e w4 ⟨rfl, h⟩
    exact ⟨rfl, ill_of h⟩
theorem ill_raw {wr : World} {q : Nat} {s : Int} (h : BadIn wr q ∨ ∃ g o c l, InIs wr q g o c l ∧ ¬ (0 ≤ s ∧ s ≤ (l.length : Nat))) :
    Calls Try.prog 17 #[.pointer (some ⟨q, 0, none⟩), .int .i64 s] wr fun e w4 => ∃ g', e = .returned (.slice (some ⟨g', 0, none⟩) 0 0) ∧ ∀ d, Ill wr q (w4.drewN d) := by
  rcases h with h | ⟨g, o, c, l, h, hs⟩
  · refine (inRaw_bad wr q s h).mono ?_
    rintro e w4 ⟨⟨g', rfl, _⟩, h⟩
    exact ⟨g', rfl, fun d => ill_of h⟩
  · refine (inRaw_fails wr q g o c s l h hs).mono ?_
    rintro e w4 ⟨⟨g', rfl, _⟩, h⟩
    exact ⟨g', rfl, fun d => ill_of h⟩

theorem slice_none (w : World) (A : Option Addr) (n c m : Nat) (hc : c = m) (hm : m ≤ n) : (Instr.slice 28 (.slice A n c) (some (.int .i64 (m : Nat))) (some (.int .i64 (m : Nat))) none).run Try.prog w = .ok (.slice A 0 0) w := by
  subst hc
  have hs : (sizeOf (Try.prog.elem 28)).run Try.prog w = .ok 1 w := by kernel_rfl
  rw [run_slice_lh (P := Try.prog) w 28 A n c (by kernel_rfl) .i64 .i64 (c : Nat) (c : Nat) (by omega) (by omega) (by omega), hs]
  simp [sliced]
set_option maxRecDepth 100000 in
set_option maxHeartbeats 4000000 in
theorem reads_walk (w : World) (A0 : Option Addr) (n0 c0 : Nat) (lb : List Nat) (hB : Bytes w A0 n0 lb) (hc0 : n0 ≤ c0) (hm0 : n0 ≤ maxLen) (A1 : Option Addr) (n1 c1 : Nat) (L : List Item) (hI : Items w A1 n1 L) :
    Calls Try.prog 4 #[.slice A0 n0 c0, .slice A1 n1 c1] w fun e w' => e = .returned (.bool true) ∧ Below w.heap.size w w' := by
  have hn1 := hI.2.1
  unfold maxLen at hn1 hm0
  have HB := Lib.hid hB
  have HI := Lib.hid hI
  clear hB hI
  go_enter Try.func4, Try.ntmps4
  go_wp2_with fail
  refine (awake_any w).mono ?_
  rintro e w1 ⟨rfl, hb1⟩
  have HI1 := Lib.hid (show Items w1 A1 n1 L from ⟨HI.out.1, HI.out.2.1, fun h => by obtain ⟨b, o, e, hc⟩ := HI.out.2.2 h; exact ⟨b, o, e, fun i hi => (hc i hi).below (Nat.le_refl _) hb1⟩⟩)
  have HB1 := Lib.hid (HB.out.below HB.out.lt hb1)
  have HBl := Lib.hid hb1
  clear hb1
  go_wp2_with fail
  refine (few_some _ _ _ _ L HI1.out).mono ?_
  rintro e w2 ⟨fb, rfl, rfl⟩
  by_cases hgo : fb = true ∧ n0 ≤ 10000
  · obtain ⟨rfl, hn0⟩ := hgo
    have hd4 : decide (10000 < (n0 : Int)) = false := by simp; omega
    go_wp2_with fail
    refine (newIn_any _ _ _ _ lb HB1.out (by omega)).mono ?_
    rintro e w3 ⟨rfl, hin, hb3⟩
    have HST : Hid (ReadSt w (w1.heap.size + 1) w1.heap.size n0 lb false 0 w3) := by
      have hs := HBl.out.size
      refine ⟨HBl.out.trans (hb3.mono hs), by omega, hs, ?_, Nat.zero_le _, HB.out.1, .inr ⟨rfl, 0, n0, by simpa using hin, by omega⟩⟩
      have := hin.facts.2.2.2
      omega
    obtain ⟨q, hq⟩ : ∃ q, q = w1.heap.size + 1 := ⟨_, rfl⟩
    obtain ⟨g, hg⟩ : ∃ g, g = w1.heap.size := ⟨_, rfl⟩
    rw [← hq, ← hg] at HST
    rw [← hq]
    clear hin hb3 hq hg HBl HB1 HI1
    go_wp2
    go_loopw [6, 7, 29] (fun a bd i wr => ∃ (k m : Nat) (bb : Bool), k ≤ n1 ∧ i = .int .i64 k ∧ a = .int .i64 m ∧ bd = .bool bb ∧ ReadSt w q g n0 lb bb m wr) (fun _ _ i _ => n1 - (intOf i).toNat)
    case atStart => exact ⟨0, 0, false, by omega, rfl, rfl, rfl, HST.out⟩
    case round =>
      clear HST
      obtain ⟨k, m, bb, hk, rfl, rfl, rfl, hst⟩ := hrel
      by_cases hlt : k < n1
      · obtain ⟨b', o', x, rfl, hx, hi⟩ := HI.out.at_ hlt
        have hi' := hi.below (Nat.le_refl _) hst.1
        have hsz := hi'.size
        have hkd := hi'.kind
        have hs1 := hi'.lowS
        have hs2 := hi'.topS
        have hk1 := hi'.k256
        generalize x.size = sz at *
        generalize x.kind = kd at *
        clear hi hi' hx x
        obtain ⟨hbl, hq, hg, hgl, hm, hlb, hcase⟩ := hst
        have HBel := Lib.hid hbl
        have HBr := Lib.hid (HB.out.below HB.out.lt hbl)
        clear hbl
        by_cases hkind : kd < 3
        · rcases hcase with ⟨rfl, hbad, rfl⟩ | ⟨rfl, o, c, hin, hc⟩
          · --N-BAD
            have HX := Lib.hid (ill_n (s := sz) (.inl hbad))
            clear hbad
            go_wp2_with (first | (go_at_call 15; refine HX.out.mono ?_; rintro e w4 ⟨rfl, h19, h21, h18, hst4⟩; have H19 := Lib.hid h19; have H21 := Lib.hid h21; have H18 := Lib.hid h18; have HS4 := Lib.hid hst4; clear h19 h21 h18 hst4) | (go_at_call 17; refine HX.out.mono ?_; rintro e w4 ⟨g', rfl, h19, h21, h18, hst4⟩; have H19 := Lib.hid h19; have H21 := Lib.hid h21; have H18 := Lib.hid h18; have HS4 := Lib.hid hst4; clear h19 h21 h18 hst4) | (go_at_call 19; refine H19.out.mono ?_; rintro e w5 ⟨rfl, rfl⟩) | (go_at_call 21; refine H21.out.mono ?_; rintro e w5 ⟨rfl, rfl⟩) | (go_at_call 18; refine H18.out.mono ?_; rintro e w5 ⟨rfl, rfl⟩))
            go_roundw
            case rel => exact ⟨k + 1, m, true, by omega, rfl, rfl, rfl, HBel.out.trans (HS4.out.1.mono_touch hq HBel.out.size), hq, hg, Nat.lt_of_lt_of_le hgl HS4.out.1.2.2.2.1, Nat.le_refl _, hlb, .inl ⟨rfl, HS4.out.2, rfl⟩⟩
            case measure => simp [intOf]; omega
          · obtain ⟨ll, hll⟩ : ∃ ll, ll = (lb.drop m).length := ⟨_, rfl⟩
            have hll2 : m + ll = n0 := by rw [hll]; simp; omega
            by_cases hok : 1 ≤ sz ∧ sz ≤ 7 ∧ sz ≤ (ll : Nat)
            · --N-GOOD
              obtain ⟨s, rfl⟩ := Int.eq_ofNat_of_zero_le (show 0 ≤ sz by omega)
              obtain ⟨ok1, ok2, ok3⟩ := hok
              obtain ⟨b0, o0, rfl, _⟩ := HBr.out.2.2 (by omega)
              have hd1 : decide ((s : Int) < 1) = false := by simp; omega
              have hd2 : decide (7 < (s : Int)) = false := by simp; omega
              have hd3 : decide ((n0 : Int) - m < s) = false := by simp; omega
              have hcm : ¬ c0 = m := by omega
              have hb0 : b0 < w.heap.size := HB.out.lt _ rfl (by omega)
              have hr := good_n hin hq hb0 HBr.out hlb (s := s) (m := m) (by omega) (by omega) (by omega) hc
              obtain ⟨y, r, hy, hr2, h15⟩ := hr
              have H15 := Lib.hid h15
              clear hin hll h15
              by_cases hr0 : r = 0
              · have hD : ((m : Int) + s == n0) = true := by rw [beq_iff_eq]; omega
                have hDr : decide (r = 0) = true := by simp [hr0]
                go_wp2_with (first | (go_at_call 15; refine H15.out.mono ?_; rintro e w4 ⟨rfl, h20, h19, h21, h18, hst4⟩; have H20 := Lib.hid h20; have H19 := Lib.hid h19; have H21 := Lib.hid h21; have H18 := Lib.hid h18; have HS4 := Lib.hid hst4; clear h20 h19 h21 h18 hst4) | (go_at_call 20; refine (H20.out _).mono ?_; rintro e w5 ⟨rfl, rfl⟩) | (go_at_call 19; refine H19.out.mono ?_; rintro e w5 ⟨rfl, rfl⟩) | (go_at_call 21; refine H21.out.mono ?_; rintro e w5 ⟨rfl, rfl⟩) | (go_at_call 18; refine H18.out.mono ?_; rw [hDr]; rintro e w5 ⟨rfl, rfl⟩))
                go_roundw
                case rel => exact ⟨k + 1, m + s, false, by omega, rfl, by simp, rfl, HBel.out.trans (HS4.out.1.mono_touch hq HBel.out.size), hq, hg, HS4.out.2.1 hgl, by omega, hlb, .inr ⟨rfl, HS4.out.2.2⟩⟩
                case measure => simp [intOf]; omega
              · have hD : ((m : Int) + s == n0) = false := by rw [beq_eq_false_iff_ne]; omega
                have hDr : decide (r = 0) = false := by simp [hr0]
                go_wp2_with (first | (go_at_call 15; refine H15.out.mono ?_; rintro e w4 ⟨rfl, h20, h19, h21, h18, hst4⟩; have H20 := Lib.hid h20; have H19 := Lib.hid h19; have H21 := Lib.hid h21; have H18 := Lib.hid h18; have HS4 := Lib.hid hst4; clear h20 h19 h21 h18 hst4) | (go_at_call 20; refine (H20.out _).mono ?_; rintro e w5 ⟨rfl, rfl⟩) | (go_at_call 19; refine H19.out.mono ?_; rintro e w5 ⟨rfl, rfl⟩) | (go_at_call 21; refine H21.out.mono ?_; rintro e w5 ⟨rfl, rfl⟩) | (go_at_call 18; refine H18.out.mono ?_; rw [hDr]; rintro e w5 ⟨rfl, rfl⟩))
                go_roundw
                case rel => exact ⟨k + 1, m + s, false, by omega, rfl, by simp, rfl, HBel.out.trans (HS4.out.1.mono_touch hq HBel.out.size), hq, hg, HS4.out.2.1 hgl, by omega, hlb, .inr ⟨rfl, HS4.out.2.2⟩⟩
                case measure => simp [intOf]; omega
            · --N-FAIL
              have HX := Lib.hid (ill_n (s := sz) (.inr ⟨g, o, c, _, hin, by rw [← hll]; exact hok⟩))
              clear hin hll
              rcases (show sz < 1 ∨ (1 ≤ sz ∧ 7 < sz) ∨ (1 ≤ sz ∧ sz ≤ 7 ∧ (n0 : Int) - m < sz) by omega) with h | ⟨h, h2⟩ | ⟨h, h2, h3⟩
              · have hd1 : decide (sz < 1) = true := by simp; omega
                go_wp2_with (first | (go_at_call 15; refine HX.out.mono ?_; rintro e w4 ⟨rfl, h19, h21, h18, hst4⟩; have H19 := Lib.hid h19; have H21 := Lib.hid h21; have H18 := Lib.hid h18; have HS4 := Lib.hid hst4; clear h19 h21 h18 hst4) | (go_at_call 17; refine HX.out.mono ?_; rintro e w4 ⟨g', rfl, h19, h21, h18, hst4⟩; have H19 := Lib.hid h19; have H21 := Lib.hid h21; have H18 := Lib.hid h18; have HS4 := Lib.hid hst4; clear h19 h21 h18 hst4) | (go_at_call 19; refine H19.out.mono ?_; rintro e w5 ⟨rfl, rfl⟩) | (go_at_call 21; refine H21.out.mono ?_; rintro e w5 ⟨rfl, rfl⟩) | (go_at_call 18; refine H18.out.mono ?_; rintro e w5 ⟨rfl, rfl⟩))
                go_roundw
                case rel => exact ⟨k + 1, n0, true, by omega, rfl, rfl, rfl, HBel.out.trans (HS4.out.1.mono_touch hq HBel.out.size), hq, hg, Nat.lt_of_lt_of_le hgl HS4.out.1.2.2.2.1, Nat.le_refl _, hlb, .inl ⟨rfl, HS4.out.2, rfl⟩⟩
                case measure => simp [intOf]; omega
              · have hd1 : decide (sz < 1) = false := by simp; omega
                have hd2 : decide (7 < sz) = true := by simp; omega
                go_wp2_with (first | (go_at_call 15; refine HX.out.mono ?_; rintro e w4 ⟨rfl, h19, h21, h18, hst4⟩; have H19 := Lib.hid h19; have H21 := Lib.hid h21; have H18 := Lib.hid h18; have HS4 := Lib.hid hst4; clear h19 h21 h18 hst4) | (go_at_call 17; refine HX.out.mono ?_; rintro e w4 ⟨g', rfl, h19, h21, h18, hst4⟩; have H19 := Lib.hid h19; have H21 := Lib.hid h21; have H18 := Lib.hid h18; have HS4 := Lib.hid hst4; clear h19 h21 h18 hst4) | (go_at_call 19; refine H19.out.mono ?_; rintro e w5 ⟨rfl, rfl⟩) | (go_at_call 21; refine H21.out.mono ?_; rintro e w5 ⟨rfl, rfl⟩) | (go_at_call 18; refine H18.out.mono ?_; rintro e w5 ⟨rfl, rfl⟩))
                go_roundw
                case rel => exact ⟨k + 1, n0, true, by omega, rfl, rfl, rfl, HBel.out.trans (HS4.out.1.mono_touch hq HBel.out.size), hq, hg, Nat.lt_of_lt_of_le hgl HS4.out.1.2.2.2.1, Nat.le_refl _, hlb, .inl ⟨rfl, HS4.out.2, rfl⟩⟩
                case measure => simp [intOf]; omega
              · have hd1 : decide (sz < 1) = false := by simp; omega
                have hd2 : decide (7 < sz) = false := by simp; omega
                have hd3 : decide ((n0 : Int) - m < sz) = true := by simp; omega
                go_wp2_with (first | (go_at_call 15; refine HX.out.mono ?_; rintro e w4 ⟨rfl, h19, h21, h18, hst4⟩; have H19 := Lib.hid h19; have H21 := Lib.hid h21; have H18 := Lib.hid h18; have HS4 := Lib.hid hst4; clear h19 h21 h18 hst4) | (go_at_call 17; refine HX.out.mono ?_; rintro e w4 ⟨g', rfl, h19, h21, h18, hst4⟩; have H19 := Lib.hid h19; have H21 := Lib.hid h21; have H18 := Lib.hid h18; have HS4 := Lib.hid hst4; clear h19 h21 h18 hst4) | (go_at_call 19; refine H19.out.mono ?_; rintro e w5 ⟨rfl, rfl⟩) | (go_at_call 21; refine H21.out.mono ?_; rintro e w5 ⟨rfl, rfl⟩) | (go_at_call 18; refine H18.out.mono ?_; rintro e w5 ⟨rfl, rfl⟩))
                go_roundw
                case rel => exact ⟨k + 1, n0, true, by omega, rfl, rfl, rfl, HBel.out.trans (HS4.out.1.mono_touch hq HBel.out.size), hq, hg, Nat.lt_of_lt_of_le hgl HS4.out.1.2.2.2.1, Nat.le_refl _, hlb, .inl ⟨rfl, HS4.out.2, rfl⟩⟩
                case measure => simp [intOf]; omega
        · --RAW
          rcases hcase with ⟨rfl, hbad, rfl⟩ | ⟨rfl, o, c, hin, hc⟩
          · --R-BAD
            have HX := Lib.hid (ill_raw (s := sz) (.inl hbad))
            clear hbad
            go_wp2_with (first | (go_at_call 17; refine HX.out.mono ?_; rintro e w4 ⟨g', rfl, hst4⟩; have HS4 := Lib.hid hst4; clear hst4))
            go_quiet (fail)
            have HI4 := Lib.hid (HS4.out nq)
            generalize w4.drewN nq = w6 at *
            obtain ⟨h19, h21, h18, hst4⟩ := HI4.out
            have H19 := Lib.hid h19
            have H21 := Lib.hid h21
            have H18 := Lib.hid h18
            have HS6 := Lib.hid hst4
            clear h19 h21 h18 hst4 HI4 HS4
            go_wp2_with (first | (go_at_call 19; refine H19.out.mono ?_; rintro e w5 ⟨rfl, rfl⟩) | (go_at_call 21; refine H21.out.mono ?_; rintro e w5 ⟨rfl, rfl⟩) | (go_at_call 18; refine H18.out.mono ?_; rintro e w5 ⟨rfl, rfl⟩))
            go_roundw
            case rel => exact ⟨k + 1, m, true, by omega, rfl, rfl, rfl, HBel.out.trans (HS6.out.1.mono_touch hq HBel.out.size), hq, hg, Nat.lt_of_lt_of_le hgl HS6.out.1.2.2.2.1, Nat.le_refl _, hlb, .inl ⟨rfl, HS6.out.2, rfl⟩⟩
            case measure => simp [intOf]; omega
          · obtain ⟨ll, hll⟩ : ∃ ll, ll = (lb.drop m).length := ⟨_, rfl⟩
            have hll2 : m + ll = n0 := by rw [hll]; simp; omega
            by_cases hok : 0 ≤ sz ∧ sz ≤ (ll : Nat)
            · obtain ⟨s, rfl⟩ := Int.eq_ofNat_of_zero_le hok.1
              have hd1 : decide ((s : Int) < 0) = false := by simp
              have hd3 : decide ((n0 : Int) - m < s) = false := by simp; omega
              have hr := good_raw hin hgl hq HB.out.lt HBr.out hlb (s := s) (m := m) (by omega) hc
              obtain ⟨S, r, hr2, h17⟩ := hr
              have H17 := Lib.hid h17
              clear hin hll h17
              by_cases hcm : c0 = m
              · --R-GOOD1
                obtain rfl : s = 0 := by omega
                have hsl := fun w' => slice_none w' A0 n0 c0 m hcm (by omega)
                have hr0 : r = 0 := by omega
                have hD : ((m : Int) == n0) = true := by rw [beq_iff_eq]; omega
                have hd5 : decide ((n0 : Int) - m < 0) = false := by simp; omega
                have hDr : decide (r = 0) = true := by simp [hr0]
                have HCM := Lib.hid hcm
                clear hcm
                go_wp2_with (first | (go_at_call 17; refine H17.out.mono ?_; rintro e w4 ⟨g', rfl, ht1, ht2, ht3, hst4⟩; have hv1 := ht1.1; have hv2 := ht1.2; have hv3 := fun c => (ht3 rfl c).1; have hv4 := fun c => (ht3 rfl c).2; have HS4 := Lib.hid hst4; clear hst4 ht1 ht2 ht3))
                go_quiet (fail)
                have HI4 := Lib.hid (HS4.out nq)
                clear hv1 hv2 hv3 hv4
                generalize w4.drewN nq = w6 at *
                obtain ⟨h19, h21, h18, hst4⟩ := HI4.out
                have H19 := Lib.hid h19
                have H21 := Lib.hid h21
                have H18 := Lib.hid h18
                have HS6 := Lib.hid hst4
                clear h19 h21 h18 hst4 HI4 HS4
                go_wp2_with (first | (go_at_call 19; refine H19.out.mono ?_; rintro e w5 ⟨rfl, rfl⟩) | (go_at_call 21; refine H21.out.mono ?_; rintro e w5 ⟨rfl, rfl⟩) | (go_at_call 18; refine H18.out.mono ?_; rw [hDr]; rintro e w5 ⟨rfl, rfl⟩))
                go_roundw
                case rel => exact ⟨k + 1, m, false, by omega, rfl, rfl, rfl, HBel.out.trans (HS6.out.1.mono_touch hq HBel.out.size), hq, hg, HS6.out.2.1 hgl, hm, hlb, .inr ⟨rfl, HS6.out.2.2⟩⟩
                case measure => simp [intOf]; omega
              · by_cases hr0 : r = 0
                · --R-GOOD2
                  have hD : ((m : Int) + s == n0) = true := by rw [beq_iff_eq]; omega
                  have hDr : decide (r = 0) = true := by simp [hr0]
                  go_wp2_with (first | (go_at_call 17; refine H17.out.mono ?_; rintro e w4 ⟨g', rfl, ht1, ht2, ht3, hst4⟩; have hv1 := ht1.1; have hv2 := ht1.2; have hv3 := (ht2 (c0 - m)).1; have hv4 := (ht2 (c0 - m)).2; have HS4 := Lib.hid hst4; clear hst4 ht1 ht2 ht3))
                  go_quiet (fail)
                  have HI4 := Lib.hid (HS4.out nq)
                  clear hv1 hv2 hv3 hv4
                  generalize w4.drewN nq = w6 at *
                  obtain ⟨h19, h21, h18, hst4⟩ := HI4.out
                  have H19 := Lib.hid h19
                  have H21 := Lib.hid h21
                  have H18 := Lib.hid h18
                  have HS6 := Lib.hid hst4
                  clear h19 h21 h18 hst4 HI4 HS4
                  go_wp2_with (first | (go_at_call 19; refine H19.out.mono ?_; rintro e w5 ⟨rfl, rfl⟩) | (go_at_call 21; refine H21.out.mono ?_; rintro e w5 ⟨rfl, rfl⟩) | (go_at_call 18; refine H18.out.mono ?_; rw [hDr]; rintro e w5 ⟨rfl, rfl⟩))
                  go_roundw
                  case rel => exact ⟨k + 1, m + s, false, by omega, rfl, by simp, rfl, HBel.out.trans (HS6.out.1.mono_touch hq HBel.out.size), hq, hg, HS6.out.2.1 hgl, by omega, hlb, .inr ⟨rfl, HS6.out.2.2⟩⟩
                  case measure => simp [intOf]; omega
                · --R-GOOD3
                  have hD : ((m : Int) + s == n0) = false := by rw [beq_eq_false_iff_ne]; omega
                  have hDr : decide (r = 0) = false := by simp [hr0]
                  go_wp2_with (first | (go_at_call 17; refine H17.out.mono ?_; rintro e w4 ⟨g', rfl, ht1, ht2, ht3, hst4⟩; have hv1 := ht1.1; have hv2 := ht1.2; have hv3 := (ht2 (c0 - m)).1; have hv4 := (ht2 (c0 - m)).2; have HS4 := Lib.hid hst4; clear hst4 ht1 ht2 ht3))
                  go_quiet (fail)
                  have HI4 := Lib.hid (HS4.out nq)
                  clear hv1 hv2 hv3 hv4
                  generalize w4.drewN nq = w6 at *
                  obtain ⟨h19, h21, h18, hst4⟩ := HI4.out
                  have H19 := Lib.hid h19
                  have H21 := Lib.hid h21
                  have H18 := Lib.hid h18
                  have HS6 := Lib.hid hst4
                  clear h19 h21 h18 hst4 HI4 HS4
                  go_wp2_with (first | (go_at_call 19; refine H19.out.mono ?_; rintro e w5 ⟨rfl, rfl⟩) | (go_at_call 21; refine H21.out.mono ?_; rintro e w5 ⟨rfl, rfl⟩) | (go_at_call 18; refine H18.out.mono ?_; rw [hDr]; rintro e w5 ⟨rfl, rfl⟩))
                  go_roundw
                  case rel => exact ⟨k + 1, m + s, false, by omega, rfl, by simp, rfl, HBel.out.trans (HS6.out.1.mono_touch hq HBel.out.size), hq, hg, HS6.out.2.1 hgl, by omega, hlb, .inr ⟨rfl, HS6.out.2.2⟩⟩
                  case measure => simp [intOf]; omega
            · have HX := Lib.hid (ill_raw (s := sz) (.inr ⟨g, o, c, _, hin, by rw [← hll]; exact hok⟩))
              clear hin hll
              rcases (show sz < 0 ∨ (0 ≤ sz ∧ (n0 : Int) - m < sz) by omega) with h | ⟨h, h3⟩
              · --R-FAIL1
                have hd1 : decide (sz < 0) = true := by simp; omega
                go_wp2_with (first | (go_at_call 17; refine HX.out.mono ?_; rintro e w4 ⟨g', rfl, hst4⟩; have HS4 := Lib.hid hst4; clear hst4))
                go_quiet (fail)
                have HI4 := Lib.hid (HS4.out nq)
                generalize w4.drewN nq = w6 at *
                obtain ⟨h19, h21, h18, hst4⟩ := HI4.out
                have H19 := Lib.hid h19
                have H21 := Lib.hid h21
                have H18 := Lib.hid h18
                have HS6 := Lib.hid hst4
                clear h19 h21 h18 hst4 HI4 HS4
                go_wp2_with (first | (go_at_call 19; refine H19.out.mono ?_; rintro e w5 ⟨rfl, rfl⟩) | (go_at_call 21; refine H21.out.mono ?_; rintro e w5 ⟨rfl, rfl⟩) | (go_at_call 18; refine H18.out.mono ?_; rintro e w5 ⟨rfl, rfl⟩))
                go_roundw
                case rel => exact ⟨k + 1, n0, true, by omega, rfl, rfl, rfl, HBel.out.trans (HS6.out.1.mono_touch hq HBel.out.size), hq, hg, Nat.lt_of_lt_of_le hgl HS6.out.1.2.2.2.1, Nat.le_refl _, hlb, .inl ⟨rfl, HS6.out.2, rfl⟩⟩
                case measure => simp [intOf]; omega
              · --R-FAIL2
                have hd1 : decide (sz < 0) = false := by simp; omega
                have hd3 : decide ((n0 : Int) - m < sz) = true := by simp; omega
                go_wp2_with (first | (go_at_call 17; refine HX.out.mono ?_; rintro e w4 ⟨g', rfl, hst4⟩; have HS4 := Lib.hid hst4; clear hst4))
                go_quiet (fail)
                have HI4 := Lib.hid (HS4.out nq)
                generalize w4.drewN nq = w6 at *
                obtain ⟨h19, h21, h18, hst4⟩ := HI4.out
                have H19 := Lib.hid h19
                have H21 := Lib.hid h21
                have H18 := Lib.hid h18
                have HS6 := Lib.hid hst4
                clear h19 h21 h18 hst4 HI4 HS4
                go_wp2_with (first | (go_at_call 19; refine H19.out.mono ?_; rintro e w5 ⟨rfl, rfl⟩) | (go_at_call 21; refine H21.out.mono ?_; rintro e w5 ⟨rfl, rfl⟩) | (go_at_call 18; refine H18.out.mono ?_; rintro e w5 ⟨rfl, rfl⟩))
                go_roundw
                case rel => exact ⟨k + 1, n0, true, by omega, rfl, rfl, rfl, HBel.out.trans (HS6.out.1.mono_touch hq HBel.out.size), hq, hg, Nat.lt_of_lt_of_le hgl HS6.out.1.2.2.2.1, Nat.le_refl _, hlb, .inl ⟨rfl, HS6.out.2, rfl⟩⟩
                case measure => simp [intOf]; omega
      · obtain rfl : k = n1 := by omega
        go_wp2
        go_ret
        exact ⟨rfl, hst.1⟩
  · --NOT-GO
    have HBl2 := HBl
    cases fb with
    | false =>
      go_wp2_with (go_at_call 6; refine (awake_any _).mono ?_; rintro e w3 ⟨rfl, hb3⟩)
      go_ret
      exact ⟨rfl, HBl2.out.trans (hb3.mono HBl2.out.size)⟩
    | true =>
      have hbig : 10000 < n0 := by
        rcases Nat.lt_or_ge 10000 n0 with h | h
        · exact h
        · exact absurd ⟨rfl, h⟩ hgo
      have hd4 : decide (10000 < (n0 : Int)) = true := by simp; omega
      go_wp2_with (go_at_call 6; refine (awake_any _).mono ?_; rintro e w3 ⟨rfl, hb3⟩)
      go_ret
      exact ⟨rfl, HBl2.out.trans (hb3.mono HBl2.out.size)⟩
end Go.Proofs.Ytcmgekimogecaaa.codec
