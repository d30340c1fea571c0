/- Tokens written down are read as they were. -/
import Derived.Test.YtihcgbjmgfgenaaLexZe
namespace Go.Proofs.Ytihcgbjmgfgenaa.lx
open Go.ChangeShapes Go.WideShapes Go.ChangeAt Go.RowKit
open Go.Proofs.Ytihcgbjmgfgenaa.codec (Bytes vals)
open Go.Proofs.Ytihcgbjmgfgenaa.row
set_option linter.unusedVariables false
set_option maxRecDepth 100000
set_option linter.unusedSimpArgs false

def sumT (l : List Tk) : Nat := (l.map fun t => t.t.length).sum
theorem toks_sum : ∀ (f : Nat) (acc : List Tk) (o : Int) (b : List Nat) (l : List Tk), tokF f acc o b = some l → sumT l ≤ sumT acc + b.length := by
  intro f
  induction f with
  | zero =>
    intro acc o b l h
    cases b with
    | nil =>
      rw [tokF] at h
      split at h
      · cases h
      · cases h
        exact Nat.le_add_right _ _
    | cons x r => rw [tokF] at h; cases h
  | succ f ih =>
    intro acc o b l h
    cases b with
    | nil =>
      rw [tokF] at h
      split at h
      · cases h
      · cases h
        exact Nat.le_add_right _ _
    | cons x r =>
      rw [tokF] at h
      cases hgap : gap acc (x :: r) with
      | none => rw [hgap] at h; cases h
      | some b' =>
        rw [hgap] at h
        simp only at h
        split at h
        · cases h
        · obtain ⟨k1, k2⟩ := gap_len hgap
          cases hcut : cutTok b' with
          | none => rw [hcut] at h; cases h
          | some p =>
            obtain ⟨t, c⟩ := p
            rw [hcut] at h
            simp only at h
            split at h
            · cases h
            · obtain ⟨g1, g2, g3, g4, g5⟩ := cutTok_len b' t c hcut
              have := ih (acc ++ [t]) _ c l h
              have e : sumT (acc ++ [t]) = sumT acc + t.t.length := by simp [sumT]
              omega
theorem sum_le (N : Nat) : ∀ l : List Tk, (∀ t ∈ l, t.t.length ≤ N) → sumT l ≤ N * l.length
  | [], _ => by simp [sumT]
  | t :: r, h => by
    have ih := sum_le N r (fun u hu => h u (List.mem_cons_of_mem _ hu))
    have h1 := h t List.mem_cons_self
    have e : sumT (t :: r) = t.t.length + sumT r := by simp [sumT]
    rw [e, List.length_cons, Nat.mul_succ]
    omega
theorem wr_len (lits : Bool) : ∀ (l : List Tk) (p : Int), (∀ t ∈ l, t.t.length ≤ 999999) → (wrF lits p l).length ≤ 2 * sumT l + 20 * l.length
  | [], p, _ => by simp [wrF]
  | t :: r, p, h => by
    have ih := wr_len lits r t.k (fun u hu => h u (List.mem_cons_of_mem _ hu))
    have h1 := txt_len (lits := lits) (p := p) (h t List.mem_cons_self)
    have e : sumT (t :: r) = t.t.length + sumT r := by simp [sumT]
    rw [wrF, List.length_append, e, List.length_cons]
    omega
theorem esc_bytes : ∀ t : List Nat, (∀ x ∈ t, x < 256) → ∀ x ∈ esc t, x < 256
  | [], _ => by simp [esc]
  | y :: r, h => by
    have ih := esc_bytes r (fun x hx => h x (List.mem_cons_of_mem _ hx))
    have h1 := h y List.mem_cons_self
    intro x hx
    rw [esc] at hx
    split at hx
    · simp only [List.mem_cons] at hx
      rcases hx with rfl | rfl | hx
      · decide
      · exact h1
      · exact ih x hx
    · simp only [List.mem_cons] at hx
      rcases hx with rfl | hx
      · exact h1
      · exact ih x hx
theorem txt_bytes {lits : Bool} {t : Tk} (h : ∀ x ∈ t.t, x < 256) : ∀ x ∈ txt lits t, x < 256 := by
  intro x hx
  unfold txt at hx
  split at hx
  · exact h x hx
  · split at hx
    · split at hx
      · simp only [List.mem_cons, List.mem_append, List.mem_nil_iff, or_false] at hx
        rcases hx with rfl | (hx | rfl | rfl | rfl) | hx
        · decide
        · have := isDig_iff.1 (digF_dig 20 _ x hx)
          omega
        · decide
        · decide
        · decide
        · exact h x hx
      · simp only [List.mem_cons, List.mem_append, List.mem_nil_iff, or_false] at hx
        rcases hx with rfl | hx | rfl
        · decide
        · exact esc_bytes _ h x hx
        · decide
    · split at hx <;> (simp at hx; omega)
theorem wr_bytes (lits : Bool) : ∀ (l : List Tk) (p : Int), (∀ t ∈ l, ∀ x ∈ t.t, x < 256) → ∀ x ∈ wrF lits p l, x < 256
  | [], p, _ => by simp [wrF]
  | t :: r, p, h => by
    have ih := wr_bytes lits r t.k (fun u hu => h u (List.mem_cons_of_mem _ hu))
    intro x hx
    rw [wrF] at hx
    rcases List.mem_append.1 hx with hx | hx
    · rcases List.mem_append.1 hx with hx | hx
      · unfold gapB at hx
        split at hx
        · simp at hx; omega
        · simp at hx
      · exact txt_bytes (h t List.mem_cons_self) x hx
    · exact ih x hx
theorem toks_wr {lits : Bool} {l : List Tk} (h : WOK lits l) (hn : ∀ t ∈ l, t.t.length ≤ 999999) : toks (wrF lits 3 l) = some l := by
  have h1 := toks_back (lits := lits) l [] (wrF lits 3 l).length (fun t ht => ⟨h.1 t ht, hn t ht⟩) (by simpa using h.2.2.2) (fun k => by have := h.2.1 k; simpa [depth] using this) (by have := h.2.2.1; simpa [depth] using this) (Nat.le_refl _)
  exact h1
/-- Written, and read again. -/
theorem again_any (w : World) (lits : Bool) (l : List Tk) (S : ByteArray) (hS : S = strOf (wrF lits 3 l)) (h : WOK lits l) (hn : ∀ t ∈ l, t.t.length ≤ 999999) (hb : ∀ t ∈ l, ∀ x ∈ t.t, x < 256) (hs : sumT l ≤ 100000) (hr : Room w) :
    Calls Try.prog 10 #[.slice (some ⟨w.heap.size, 0, none⟩) S.size (grownCap w S.size 0 5)] (Lib.bytesWorld w 5 S) fun e w' => ∃ AV cv, e = .returned (.tuple #[.slice AV l.length cv, .bool true]) ∧ Rd cT 2 w' AV l.length l ∧ Below w.heap.size w w' := by
  obtain ⟨g1, g2, g3⟩ := str_lies w (wrF lits 3 l) (wr_bytes lits l 3 hb)
  rw [← hS] at g1 g2 g3
  have hlen : S.size ≤ 1000000 := by
    have h1 := wr_len lits l 3 hn
    have h2 := h.2.2.2
    rw [hS, strOf_size]
    omega
  refine (tokens_any (Lib.bytesWorld w 5 S) _ _ _ _ g1 hlen (hr.below g2)).mono ?_
  rintro e w' ⟨hb2, h2⟩
  rw [toks_wr h hn] at h2
  rcases h2 with ⟨h2, -⟩ | ⟨l2, v, h2, he, hO⟩
  · cases h2
  · cases h2
    obtain ⟨AV, cv, rfl, -, -, hRd⟩ := hO.rd fT
    exact ⟨AV, cv, he, hRd, g2.trans (hb2.mono (by omega))⟩
set_option maxHeartbeats 4000000 in
theorem tokens_walk (W : World) (A : Option Addr) (n c : Nat) (b : List Nat) (hB : Bytes W A n b) (hnc : n ≤ c) (hA : A = none → c = 0) (hr : Room W) :
    Calls Try.prog 5 #[.slice A n c] W fun e w' => e = .returned (.bool true) ∧ Below W.heap.size W w' := by
  have HW := Lib.hid (awake_any W)
  have HS := Lib.hid (show Sl W A n c b from ⟨hB, hnc, trivial, hA⟩)
  have HR := Lib.hid hr
  clear hB hA hr
  by_cases hn : n ≤ 5000
  · have q1 : decide ((5000 : Int) < (n : Int)) = false := decide_eq_false (by omega)
    have HN := Lib.hid hn
    clear hn
    go_enter Try.func5, Try.ntmps5
    go_wp2_with fail
    refine HW.out.mono ?_
    rintro e w1 ⟨rfl, hb1⟩
    have HB1 := Lib.hid hb1
    have HF := Lib.hid (tokens_any w1 A n c b (HS.out.below hb1) (by have := HN.out; omega) (HR.out.below hb1))
    unfold TokAns at HF
    clear hb1
    go_wp2_with fail
    refine HF.out.mono ?_
    rintro e w2 ⟨hb2, (⟨ho, rfl⟩ | ⟨l, v, ho, rfl, hO⟩)⟩
    · have HB2 := Lib.hid (HB1.out.trans (hb2.mono HB1.out.size))
      clear hb2 q1
      go_wp2_with fail
      go_ret
      exact ⟨rfl, HB2.out⟩
    · have HB2 := Lib.hid (HB1.out.trans (hb2.mono HB1.out.size))
      obtain ⟨AV, cv, rfl, hncv, hAV, hRd⟩ := hO.rd fT
      have hlb : b.length ≤ 5000 := by rw [HS.out.1.1]; exact HN.out
      obtain ⟨g1, g2, g3, g4⟩ := toks_good 5000 b.length [] 0 b l ho (by simp) rfl (by simp [depth]) (by simp) hlb HS.out.1.2.1
      have hsum := toks_sum b.length [] 0 b l ho
      have HOK := Lib.hid (show WOK true l from ⟨fun t ht => (g1 t ht).1, g4, g3, g2⟩)
      have HFit := Lib.hid g1
      have HSum := Lib.hid (show sumT l ≤ 5000 from by have e : sumT [] = 0 := rfl; omega)
      have hl2 : l.length ≤ 250 := by omega
      have HWr := Lib.hid (written_any w2 true AV l.length cv l hRd hl2 (fun t ht => (g1 t ht).2))
      unfold WrAns at HWr
      have HRd := Lib.hid hRd
      obtain ⟨nv, hnv⟩ : ∃ nv, nv = l.length := ⟨_, rfl⟩
      rw [← hnv] at HWr HRd ⊢
      have HNv := Lib.hid hnv
      have hnv2 : nv ≤ 250 := by omega
      have hcv := fun (w' : World) (s : ByteArray) => Lib.run_convert_string_bytes (P := Try.prog) w' 9 22 5 s Try.underlying9 Try.underlying22 Try.underlying5
      clear hb2 q1 hO hncv hAV hlb g1 g2 g3 g4 hsum hl2 hnv ho hRd
      go_wp2_with fail
      refine HWr.out.mono ?_
      rintro e w3 ⟨hb3, S, B, rfl, hBo, hSo⟩
      obtain rfl : B = true := hBo.2 HOK.out
      have HB3 := Lib.hid (HB2.out.trans (hb3.mono HB2.out.size))
      have HRd3 := Lib.hid (HRd.out.below hb3)
      have HAg := Lib.hid (again_any w3 true l S (hSo rfl) HOK.out (fun t ht => by have := (HFit.out t ht).2.1; omega) (fun t ht => (HFit.out t ht).2.2) (by have := HSum.out; omega) (HR.out.below HB3.out))
      rw [← HNv.out] at HAg
      clear hb3 hBo hSo
      go_wp2_with fail
      refine HAg.out.mono ?_
      rintro e w5 ⟨A5, c5, rfl, hR5, hb5⟩
      have HB5 := Lib.hid (HB3.out.trans (hb5.mono HB3.out.size))
      have HR5 := Lib.hid hR5
      have HR3 := Lib.hid (HRd3.out.below hb5)
      clear hb5 hR5 hcv
      go_wp2_with fail
      go_loopw [54] (fun i wr => ∃ k : Nat, k ≤ nv ∧ i = .int .i64 k ∧ Hid (Below w5.heap.size w5 wr)) (fun i _ => nv - (intOf i).toNat)
      case atStart => exact ⟨0, Nat.zero_le _, rfl, Lib.hid (Below.refl _ _)⟩
      case round =>
        obtain ⟨k, hk, rfl, HBr⟩ := hrel
        by_cases hkn : k < nv
        · have hkn' : (k : Int) < (nv : Int) := by omega
          obtain ⟨b1, o1, y1, rfl, hy1, c1, c2⟩ := tok_at (HR5.out.below HBr.out) k hkn
          obtain ⟨b2, o2, y2, rfl, hy2, c3, c4⟩ := tok_at (HR3.out.below HBr.out) k hkn
          obtain rfl : y1 = y2 := by rw [hy1] at hy2; exact Option.some.inj hy2
          generalize y1.k = K at *
          generalize strOf y1.t = T at *
          clear hy1 hy2
          go_wp2_with fail
          go_quiet (fail)
          have HB6 := Lib.hid (codec.below_draws HBr.out nq)
          go_wp2_with fail
          go_roundw
          case rel => first | exact ⟨k + 1, by omega, by go_num, HB6⟩ | ((repeat apply Exists.intro); exact ⟨⟨k + 1, by omega, by go_num, HB6⟩, rfl⟩)
          case measure => (show nv - ((k : Int) + 1).toNat < nv - k; omega)
        · obtain rfl : k = nv := by omega
          go_wp2_with fail
          go_ret
          exact ⟨rfl, HB5.out.trans (HBr.out.mono HB5.out.size)⟩
  · have q1 : decide ((5000 : Int) < (n : Int)) = true := decide_eq_true (by omega)
    clear hn
    go_enter Try.func5, Try.ntmps5
    go_wp2_with fail
    refine HW.out.mono ?_
    rintro e w1 ⟨rfl, hb1⟩
    have HB1 := Lib.hid hb1
    have HW1 := Lib.hid (awake_any w1)
    clear hb1
    go_wp2_with fail
    refine HW1.out.mono ?_
    rintro e w2 ⟨rfl, hb2⟩
    have HB2 := Lib.hid (HB1.out.trans (hb2.mono HB1.out.size))
    clear hb2
    go_wp2_with fail
    go_ret
    exact ⟨rfl, HB2.out⟩
end Go.Proofs.Ytihcgbjmgfgenaa.lx
