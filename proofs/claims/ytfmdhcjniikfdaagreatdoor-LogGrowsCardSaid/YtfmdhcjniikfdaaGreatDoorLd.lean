/- Notes that come in. -/
import Derived.Test.YtfmdhcjniikfdaaGreatDoorLc
/- The document's Norm, Named and Formed for names of any size. -/
namespace Go.Proofs.YtfmdhcjniikfdaaGreatDoor.nam
open Go.ChangeShapes Go.WideShapes Go.ChangeAt Go.RowKit
set_option linter.unusedVariables false
set_option linter.unusedSimpArgs false
set_option maxHeartbeats 1600000 in
theorem rNorm_big (w : World) (s : ByteArray) (hs : s.size ≤ 140737488355328) :
    Calls Tryz.prog 32 #[.string s] w fun e w' => e = .returned (.tuple #[.string (normS s), .bool (normOk s)]) ∧ Drew w w' := by
  go_enter Tryz.func32, Tryz.ntmps32
  go_wp2
  go_loop [9, 4] (fun vi vl => ∃ (k l : Nat), k ≤ s.size ∧ l < 256 ∧ vi = .int .i64 k ∧ vl = .int .u8 l ∧ Hid (runL true (s.data.toList.take k) = some (decide (l = 47)))) (fun vi _ => s.size - (intOf vi).toNat)
  case atStart => exact ⟨0, 47, Nat.zero_le _, by decide, rfl, rfl, show runL true (s.data.toList.take 0) = some (decide (47 = 47)) by simp [runL]⟩
  case round =>
    obtain ⟨k, l, hk, hl, rfl, rfl, hh⟩ := hrel
    by_cases hkl : k < s.size
    · obtain ⟨c, hc⟩ : ∃ c, byt s k = c := ⟨_, rfl⟩
      have hc256 : c < 256 := hc ▸ byt_lt s k
      have e1 : (s[k]).toNat = c := by rw [byt_at]; exact hc
      have HC := Lib.hid hc
      clear hc
      by_cases h47 : c = 47
      · subst h47
        by_cases hl47 : l = 47
        · subst hl47
          have hb := ok_bad s (run_stroke_stroke s k hkl (hh.out.trans (by simp)) HC.out)
          have hb2 := normS_bad s hb
          go_wp2
          go_ret2
          first | exact ⟨rfl, Drew.refl _⟩ | (rw [hb, hb2]; exact ⟨rfl, Drew.refl _⟩)
        · have hr := run_stroke s k hkl (hh.out.trans (by simp [hl47])) HC.out
          have HR := Lib.hid hr
          clear hr
          have hl47' : ((l : Int) == 47) = false := by simp; omega
          go_wp2
          exact ⟨⟨k + 1, 47, hkl, by decide, by simp, rfl, HR.out⟩, by simp [intOf]; omega⟩
      · obtain ⟨lc, hlc⟩ : ∃ lc, low c = lc := ⟨_, rfl⟩
        have hsm := fun w => small_any w c hc256
        rw [hlc] at hsm
        cases hn : nameB c
        · have hb := ok_bad s (run_bad s k hkl _ hh.out (by rw [HC.out]; exact h47) (by rw [HC.out]; exact hn))
          have hb2 := normS_bad s hb
          have h1 : c ≠ 46 ∧ c ≠ 95 ∧ c ≠ 45 ∧ ¬ (97 ≤ lc ∧ lc ≤ 122) ∧ ¬ (48 ≤ c ∧ c ≤ 57) := by
            unfold nameB at hn
            unfold low at hlc
            simp only [decide_eq_false_iff_not] at hn
            split at hlc <;> omega
          have g1 : ((c : Int) == 46) = false := by simp; omega
          have g2 : ((c : Int) == 95) = false := by simp; omega
          have g3 : ((c : Int) == 45) = false := by simp; omega
          have g4 : ((c : Int) == 47) = false := by simp; omega
          clear hn hlc
          go_wp2_with (go_at_call 51; refine (hsm _).mono ?_; rintro e w' ⟨rfl, rfl⟩)
          all_goals first
            | (exfalso; simp at *; omega)
            | (go_ret2; first | exact ⟨rfl, Drew.refl _⟩ | (rw [hb, hb2]; exact ⟨rfl, Drew.refl _⟩))
        · have hr := run_good s k hkl _ hh.out (by rw [HC.out]; exact h47) (by rw [HC.out]; exact hn)
          have hr' : runL true (s.data.toList.take (k + 1)) = some (decide (c = 47)) := by rw [hr]; simp [h47]
          have HR := Lib.hid hr'
          clear hr hr'
          have h1 : c = 46 ∨ c = 95 ∨ c = 45 ∨ (97 ≤ lc ∧ lc ≤ 122) ∨ (48 ≤ c ∧ c ≤ 57) := by
            unfold nameB at hn
            unfold low at hlc
            simp only [decide_eq_true_eq] at hn
            split at hlc <;> omega
          have H1 := Lib.hid h1
          clear hn hlc h1
          have g4 : ((c : Int) == 47) = false := by simp; omega
          go_wp2_with (go_at_call 51; refine (hsm _).mono ?_; rintro e w' ⟨rfl, rfl⟩)
          all_goals first
            | exact ⟨⟨k + 1, c, hkl, hc256, by simp, by first | rfl | (congr 1; omega), HR.out⟩, by simp [intOf]; omega⟩
            | (exfalso; have h1 := H1.out; simp at *; omega)
    · have hend := run_end s _ (by rw [show s.size = k by omega]; exact hh.out)
      have hin : (⟨#[105, 110, 98, 111, 120]⟩ : ByteArray) = inbox := rfl
      have hk60 : normOk s = (decide (s.size ≤ 60) && !decide (l = 47)) := by unfold normOk; rw [hend]
      by_cases hl47 : l = 47
      · subst hl47
        have hb : normOk s = false := by rw [hk60]; simp
        have hb2 := normS_bad s hb
        clear hk60
        go_wp2
        go_ret2
        first | exact ⟨rfl, Drew.refl _⟩ | (rw [hb, hb2]; exact ⟨rfl, Drew.refl _⟩)
      · have hl47' : ((l : Int) == 47) = false := by simp; omega
        by_cases h60 : s.size ≤ 60
        · have hb : normOk s = true := by rw [hk60]; simp [h60, hl47]
          have hb2 : normS s = if alike s inbox then INBOX else s := by unfold normS; rw [hb]; rfl
          clear hk60
          cases ha : alike s inbox
          · have hb3 : normS s = s := by rw [hb2, ha]; rfl
            clear hb2
            have HA := Lib.hid ha
            clear ha
            go_wp2_with (go_at_call 52; refine (alike_any _ s inbox (by omega) (by decide)).mono ?_; rintro e w' ⟨rfl, hd⟩; rw [HA.out])
            go_ret2
            first | exact ⟨rfl, hd⟩ | (rw [hb, hb3]; exact ⟨rfl, hd⟩)
          · have hb3 : normS s = INBOX := by rw [hb2, ha]; rfl
            clear hb2
            have HA := Lib.hid ha
            clear ha
            go_wp2_with (go_at_call 52; refine (alike_any _ s inbox (by omega) (by decide)).mono ?_; rintro e w' ⟨rfl, hd⟩; rw [HA.out])
            go_ret2
            first | exact ⟨rfl, hd⟩ | (rw [hb, hb3]; exact ⟨rfl, hd⟩)
        · have hb : normOk s = false := by rw [hk60]; simp [h60]
          have hb2 := normS_bad s hb
          clear hk60
          go_wp2
          go_ret2
          first | exact ⟨rfl, Drew.refl _⟩ | (rw [hb, hb2]; exact ⟨rfl, Drew.refl _⟩)
end Go.Proofs.YtfmdhcjniikfdaaGreatDoor.nam
namespace Go.Proofs.YtfmdhcjniikfdaaGreatDoor.bod
open Go.ChangeShapes Go.WideShapes Go.ChangeAt Go.RowKit
open Go.Proofs.YtfmdhcjniikfdaaGreatDoor.codec (Bytes)
set_option linter.unusedVariables false
set_option linter.unusedSimpArgs false
set_option maxRecDepth 100000
theorem rNamed_big (w : World) (s : ByteArray) (hs : s.size ≤ 140737488355328) :
    Calls Tryz.prog 14 #[.string s] w fun e w' => e = .returned (.bool (named s)) ∧ Below w.heap.size w w' := by
  have hN := nam.rNorm_big w s hs
  unfold named
  generalize nam.normS s = t at *
  generalize nam.normOk s = b at *
  have HN := Lib.hid hN
  clear hN
  cases b
  · go_enter Tryz.func14, Tryz.ntmps14
    go_wp2_with (go_at_call 32; refine HN.out.mono ?_; rintro e w1 ⟨rfl, hb⟩)
    go_ret
    exact ⟨rfl, hb.below _⟩
  · by_cases hts : t = s
    · subst hts
      rw [decide_eq_true rfl]
      go_enter Tryz.func14, Tryz.ntmps14
      go_wp2_with (go_at_call 32; refine HN.out.mono ?_; rintro e w1 ⟨rfl, hb⟩)
      go_ret
      exact ⟨rfl, hb.below _⟩
    · rw [decide_eq_false hts]
      have hne := rd.str_ne hts
      clear hts
      go_enter Tryz.func14, Tryz.ntmps14
      go_wp2_with (go_at_call 32; refine HN.out.mono ?_; rintro e w1 ⟨rfl, hb⟩)
      go_ret
      exact ⟨by simpa [ByteArray.toList_eq] using hne, hb.below _⟩
theorem rFormedW1d (w : World) (e u : Nat) (s : ByteArray) (d f : Int) (A : Option Addr) (n c : Nat) (hs : s.size ≤ 140737488355328) (hd : (d == 0) = false) (hE : emptyB d f n = false) :
    Calls Tryz.prog 16 #[.agg #[.int .i64 1, .int .u32 e, .string s, .int .u32 u, .int .i64 d, .int .i64 f, .slice A n c]] w fun x w' => x = .returned (.bool (formedB 1 e s u d f n)) ∧ Below w.heap.size w w' := by
  rw [formed_one, hE]
  clear hE
  by_cases he : e = 0
  · subst he
    rw [decide_eq_false (by omega)]
    go_enter Tryz.func16, Tryz.ntmps16
    go_wp2_with (first
      | fail)
    go_ret
    exact ⟨rfl, (Below.refl _ _).alloc (Nat.le_refl _) _⟩
  · have he1 : decide (0 < e) = true := decide_eq_true (by omega)
    rw [decide_eq_true he]
    clear he
    have hN := fun w => rNamed_big w s hs
    generalize named s = M at *
    have HN := Lib.hid hN
    clear hN hs
    cases M
    · go_enter Tryz.func16, Tryz.ntmps16
      go_wp2_with (first
        | (go_at_call 14; refine (HN.out _).mono ?_; rintro x w1 ⟨rfl, hb⟩; have HB1 := Lib.hid (boxed hb); have h3 := cell_at HB1.out.1 3 _ rfl; have h4 := cell_at HB1.out.1 4 _ rfl; have h5 := cell_at HB1.out.1 5 _ rfl; have h6 := cell_at HB1.out.1 6 _ rfl; clear hb))
      go_ret
      exact ⟨rfl, HB1.out.2⟩
    · by_cases hu : u = 0
      · subst hu
        rw [decide_eq_true rfl]
        go_enter Tryz.func16, Tryz.ntmps16
        go_wp2_with (first
          | (go_at_call 14; refine (HN.out _).mono ?_; rintro x w1 ⟨rfl, hb⟩; have HB1 := Lib.hid (boxed hb); have h3 := cell_at HB1.out.1 3 _ rfl; have h4 := cell_at HB1.out.1 4 _ rfl; have h5 := cell_at HB1.out.1 5 _ rfl; have h6 := cell_at HB1.out.1 6 _ rfl; clear hb))
        go_ret
        exact ⟨rfl, HB1.out.2⟩
      · have hu1 : ((u : Int) == 0) = false := by rw [beq_eq_false_iff_ne]; omega
        rw [decide_eq_false hu]
        clear hu
        go_enter Tryz.func16, Tryz.ntmps16
        go_wp2_with (first
          | (go_at_call 14; refine (HN.out _).mono ?_; rintro x w1 ⟨rfl, hb⟩; have HB1 := Lib.hid (boxed hb); have h3 := cell_at HB1.out.1 3 _ rfl; have h4 := cell_at HB1.out.1 4 _ rfl; have h5 := cell_at HB1.out.1 5 _ rfl; have h6 := cell_at HB1.out.1 6 _ rfl; clear hb))
        go_ret
        exact ⟨rfl, HB1.out.2⟩
theorem rFormedW1f (w : World) (e u : Nat) (s : ByteArray) (d f : Int) (A : Option Addr) (n c : Nat) (hs : s.size ≤ 140737488355328) (hd : (d == 0) = true) (hf : (f == 0) = false) (hE : emptyB d f n = false) :
    Calls Tryz.prog 16 #[.agg #[.int .i64 1, .int .u32 e, .string s, .int .u32 u, .int .i64 d, .int .i64 f, .slice A n c]] w fun x w' => x = .returned (.bool (formedB 1 e s u d f n)) ∧ Below w.heap.size w w' := by
  rw [formed_one, hE]
  clear hE
  by_cases he : e = 0
  · subst he
    rw [decide_eq_false (by omega)]
    go_enter Tryz.func16, Tryz.ntmps16
    go_wp2_with (first
      | fail)
    go_ret
    exact ⟨rfl, (Below.refl _ _).alloc (Nat.le_refl _) _⟩
  · have he1 : decide (0 < e) = true := decide_eq_true (by omega)
    rw [decide_eq_true he]
    clear he
    have hN := fun w => rNamed_big w s hs
    generalize named s = M at *
    have HN := Lib.hid hN
    clear hN hs
    cases M
    · go_enter Tryz.func16, Tryz.ntmps16
      go_wp2_with (first
        | (go_at_call 14; refine (HN.out _).mono ?_; rintro x w1 ⟨rfl, hb⟩; have HB1 := Lib.hid (boxed hb); have h3 := cell_at HB1.out.1 3 _ rfl; have h4 := cell_at HB1.out.1 4 _ rfl; have h5 := cell_at HB1.out.1 5 _ rfl; have h6 := cell_at HB1.out.1 6 _ rfl; clear hb))
      go_ret
      exact ⟨rfl, HB1.out.2⟩
    · by_cases hu : u = 0
      · subst hu
        rw [decide_eq_true rfl]
        go_enter Tryz.func16, Tryz.ntmps16
        go_wp2_with (first
          | (go_at_call 14; refine (HN.out _).mono ?_; rintro x w1 ⟨rfl, hb⟩; have HB1 := Lib.hid (boxed hb); have h3 := cell_at HB1.out.1 3 _ rfl; have h4 := cell_at HB1.out.1 4 _ rfl; have h5 := cell_at HB1.out.1 5 _ rfl; have h6 := cell_at HB1.out.1 6 _ rfl; clear hb))
        go_ret
        exact ⟨rfl, HB1.out.2⟩
      · have hu1 : ((u : Int) == 0) = false := by rw [beq_eq_false_iff_ne]; omega
        rw [decide_eq_false hu]
        clear hu
        go_enter Tryz.func16, Tryz.ntmps16
        go_wp2_with (first
          | (go_at_call 14; refine (HN.out _).mono ?_; rintro x w1 ⟨rfl, hb⟩; have HB1 := Lib.hid (boxed hb); have h3 := cell_at HB1.out.1 3 _ rfl; have h4 := cell_at HB1.out.1 4 _ rfl; have h5 := cell_at HB1.out.1 5 _ rfl; have h6 := cell_at HB1.out.1 6 _ rfl; clear hb))
        go_ret
        exact ⟨rfl, HB1.out.2⟩
theorem rFormedW1n (w : World) (e u : Nat) (s : ByteArray) (d f : Int) (A : Option Addr) (n c : Nat) (hs : s.size ≤ 140737488355328) (hd : (d == 0) = true) (hf : (f == 0) = true) (hn : ((n : Int) == 0) = false) (hE : emptyB d f n = false) :
    Calls Tryz.prog 16 #[.agg #[.int .i64 1, .int .u32 e, .string s, .int .u32 u, .int .i64 d, .int .i64 f, .slice A n c]] w fun x w' => x = .returned (.bool (formedB 1 e s u d f n)) ∧ Below w.heap.size w w' := by
  rw [formed_one, hE]
  clear hE
  by_cases he : e = 0
  · subst he
    rw [decide_eq_false (by omega)]
    go_enter Tryz.func16, Tryz.ntmps16
    go_wp2_with (first
      | fail)
    go_ret
    exact ⟨rfl, (Below.refl _ _).alloc (Nat.le_refl _) _⟩
  · have he1 : decide (0 < e) = true := decide_eq_true (by omega)
    rw [decide_eq_true he]
    clear he
    have hN := fun w => rNamed_big w s hs
    generalize named s = M at *
    have HN := Lib.hid hN
    clear hN hs
    cases M
    · go_enter Tryz.func16, Tryz.ntmps16
      go_wp2_with (first
        | (go_at_call 14; refine (HN.out _).mono ?_; rintro x w1 ⟨rfl, hb⟩; have HB1 := Lib.hid (boxed hb); have h3 := cell_at HB1.out.1 3 _ rfl; have h4 := cell_at HB1.out.1 4 _ rfl; have h5 := cell_at HB1.out.1 5 _ rfl; have h6 := cell_at HB1.out.1 6 _ rfl; clear hb))
      go_ret
      exact ⟨rfl, HB1.out.2⟩
    · by_cases hu : u = 0
      · subst hu
        rw [decide_eq_true rfl]
        go_enter Tryz.func16, Tryz.ntmps16
        go_wp2_with (first
          | (go_at_call 14; refine (HN.out _).mono ?_; rintro x w1 ⟨rfl, hb⟩; have HB1 := Lib.hid (boxed hb); have h3 := cell_at HB1.out.1 3 _ rfl; have h4 := cell_at HB1.out.1 4 _ rfl; have h5 := cell_at HB1.out.1 5 _ rfl; have h6 := cell_at HB1.out.1 6 _ rfl; clear hb))
        go_ret
        exact ⟨rfl, HB1.out.2⟩
      · have hu1 : ((u : Int) == 0) = false := by rw [beq_eq_false_iff_ne]; omega
        rw [decide_eq_false hu]
        clear hu
        go_enter Tryz.func16, Tryz.ntmps16
        go_wp2_with (first
          | (go_at_call 14; refine (HN.out _).mono ?_; rintro x w1 ⟨rfl, hb⟩; have HB1 := Lib.hid (boxed hb); have h3 := cell_at HB1.out.1 3 _ rfl; have h4 := cell_at HB1.out.1 4 _ rfl; have h5 := cell_at HB1.out.1 5 _ rfl; have h6 := cell_at HB1.out.1 6 _ rfl; clear hb))
        go_ret
        exact ⟨rfl, HB1.out.2⟩
theorem rFormedW1a (w : World) (e u : Nat) (s : ByteArray) (d f : Int) (A : Option Addr) (n c : Nat) (hs : s.size ≤ 140737488355328) (hd : (d == 0) = true) (hf : (f == 0) = true) (hn : ((n : Int) == 0) = true) (hE : emptyB d f n = true) :
    Calls Tryz.prog 16 #[.agg #[.int .i64 1, .int .u32 e, .string s, .int .u32 u, .int .i64 d, .int .i64 f, .slice A n c]] w fun x w' => x = .returned (.bool (formedB 1 e s u d f n)) ∧ Below w.heap.size w w' := by
  rw [formed_one, hE]
  clear hE
  by_cases he : e = 0
  · subst he
    rw [decide_eq_false (by omega)]
    go_enter Tryz.func16, Tryz.ntmps16
    go_wp2_with (first
      | fail)
    go_ret
    exact ⟨rfl, (Below.refl _ _).alloc (Nat.le_refl _) _⟩
  · have he1 : decide (0 < e) = true := decide_eq_true (by omega)
    rw [decide_eq_true he]
    clear he
    have hN := fun w => rNamed_big w s hs
    generalize named s = M at *
    have HN := Lib.hid hN
    clear hN hs
    cases M
    · go_enter Tryz.func16, Tryz.ntmps16
      go_wp2_with (first
        | (go_at_call 14; refine (HN.out _).mono ?_; rintro x w1 ⟨rfl, hb⟩; have HB1 := Lib.hid (boxed hb); have h3 := cell_at HB1.out.1 3 _ rfl; have h4 := cell_at HB1.out.1 4 _ rfl; have h5 := cell_at HB1.out.1 5 _ rfl; have h6 := cell_at HB1.out.1 6 _ rfl; clear hb))
      go_ret
      exact ⟨rfl, HB1.out.2⟩
    · by_cases hu : u = 0
      · subst hu
        rw [decide_eq_true rfl]
        go_enter Tryz.func16, Tryz.ntmps16
        go_wp2_with (first
          | (go_at_call 14; refine (HN.out _).mono ?_; rintro x w1 ⟨rfl, hb⟩; have HB1 := Lib.hid (boxed hb); have h3 := cell_at HB1.out.1 3 _ rfl; have h4 := cell_at HB1.out.1 4 _ rfl; have h5 := cell_at HB1.out.1 5 _ rfl; have h6 := cell_at HB1.out.1 6 _ rfl; clear hb))
        go_ret
        exact ⟨rfl, HB1.out.2⟩
      · have hu1 : ((u : Int) == 0) = false := by rw [beq_eq_false_iff_ne]; omega
        rw [decide_eq_false hu]
        clear hu
        go_enter Tryz.func16, Tryz.ntmps16
        go_wp2_with (first
          | (go_at_call 14; refine (HN.out _).mono ?_; rintro x w1 ⟨rfl, hb⟩; have HB1 := Lib.hid (boxed hb); have h3 := cell_at HB1.out.1 3 _ rfl; have h4 := cell_at HB1.out.1 4 _ rfl; have h5 := cell_at HB1.out.1 5 _ rfl; have h6 := cell_at HB1.out.1 6 _ rfl; clear hb))
        go_ret
        exact ⟨rfl, HB1.out.2⟩
theorem rFormedW2d (w : World) (e u : Nat) (s : ByteArray) (d f : Int) (A : Option Addr) (n c : Nat) (hs : s.size ≤ 140737488355328) (hd : (d == 0) = false) (hE : emptyB d f n = false) :
    Calls Tryz.prog 16 #[.agg #[.int .i64 2, .int .u32 e, .string s, .int .u32 u, .int .i64 d, .int .i64 f, .slice A n c]] w fun x w' => x = .returned (.bool (formedB 2 e s u d f n)) ∧ Below w.heap.size w w' := by
  rw [formed_two]
  clear hE
  have hL := fun w => rFits_any w u d f A n c
  generalize fitsB d f n = E at *
  have HL := Lib.hid hL
  clear hL
  by_cases he : e = 0
  · subst he
    rw [decide_eq_false (by omega)]
    go_enter Tryz.func16, Tryz.ntmps16
    go_wp2_with (first
      | fail)
    go_ret
    exact ⟨rfl, (Below.refl _ _).alloc (Nat.le_refl _) _⟩
  · have he1 : decide (0 < e) = true := decide_eq_true (by omega)
    rw [decide_eq_true he]
    clear he
    have hN := fun w => rNamed_big w s hs
    generalize named s = M at *
    have HN := Lib.hid hN
    clear hN hs
    cases M
    · go_enter Tryz.func16, Tryz.ntmps16
      go_wp2_with (first
        | (go_at_call 14; refine (HN.out _).mono ?_; rintro x w1 ⟨rfl, hb⟩; have HB1 := Lib.hid (boxed hb); have h3 := cell_at HB1.out.1 3 _ rfl; have h4 := cell_at HB1.out.1 4 _ rfl; have h5 := cell_at HB1.out.1 5 _ rfl; have h6 := cell_at HB1.out.1 6 _ rfl; clear hb))
      go_ret
      exact ⟨rfl, HB1.out.2⟩
    · by_cases hu : u = 0
      · subst hu
        rw [decide_eq_false (by omega)]
        go_enter Tryz.func16, Tryz.ntmps16
        go_wp2_with (first
          | (go_at_call 14; refine (HN.out _).mono ?_; rintro x w1 ⟨rfl, hb⟩; have HB1 := Lib.hid (boxed hb); have h3 := cell_at HB1.out.1 3 _ rfl; have h4 := cell_at HB1.out.1 4 _ rfl; have h5 := cell_at HB1.out.1 5 _ rfl; have h6 := cell_at HB1.out.1 6 _ rfl; clear hb))
        go_ret
        exact ⟨rfl, HB1.out.2⟩
      · have hu1 : decide (0 < u) = true := decide_eq_true (by omega)
        rw [decide_eq_true hu]
        clear hu
        go_enter Tryz.func16, Tryz.ntmps16
        go_wp2_with (first
          | (go_at_call 14; refine (HN.out _).mono ?_; rintro x w1 ⟨rfl, hb⟩; have HB1 := Lib.hid (boxed hb); have h3 := cell_at HB1.out.1 3 _ rfl; have h4 := cell_at HB1.out.1 4 _ rfl; have h5 := cell_at HB1.out.1 5 _ rfl; have h6 := cell_at HB1.out.1 6 _ rfl; clear hb)
          | (go_at_call 15; refine (HL.out _).mono ?_; rintro x w2 ⟨rfl, hb2⟩; have HB2 := Lib.hid (HB1.out.2.trans (hb2.mono HB1.out.2.size)); clear hb2))
        go_ret
        exact ⟨rfl, HB2.out⟩
theorem rFormedW2f (w : World) (e u : Nat) (s : ByteArray) (d f : Int) (A : Option Addr) (n c : Nat) (hs : s.size ≤ 140737488355328) (hd : (d == 0) = true) (hf : (f == 0) = false) (hE : emptyB d f n = false) :
    Calls Tryz.prog 16 #[.agg #[.int .i64 2, .int .u32 e, .string s, .int .u32 u, .int .i64 d, .int .i64 f, .slice A n c]] w fun x w' => x = .returned (.bool (formedB 2 e s u d f n)) ∧ Below w.heap.size w w' := by
  rw [formed_two]
  clear hE
  have hL := fun w => rFits_any w u d f A n c
  generalize fitsB d f n = E at *
  have HL := Lib.hid hL
  clear hL
  by_cases he : e = 0
  · subst he
    rw [decide_eq_false (by omega)]
    go_enter Tryz.func16, Tryz.ntmps16
    go_wp2_with (first
      | fail)
    go_ret
    exact ⟨rfl, (Below.refl _ _).alloc (Nat.le_refl _) _⟩
  · have he1 : decide (0 < e) = true := decide_eq_true (by omega)
    rw [decide_eq_true he]
    clear he
    have hN := fun w => rNamed_big w s hs
    generalize named s = M at *
    have HN := Lib.hid hN
    clear hN hs
    cases M
    · go_enter Tryz.func16, Tryz.ntmps16
      go_wp2_with (first
        | (go_at_call 14; refine (HN.out _).mono ?_; rintro x w1 ⟨rfl, hb⟩; have HB1 := Lib.hid (boxed hb); have h3 := cell_at HB1.out.1 3 _ rfl; have h4 := cell_at HB1.out.1 4 _ rfl; have h5 := cell_at HB1.out.1 5 _ rfl; have h6 := cell_at HB1.out.1 6 _ rfl; clear hb))
      go_ret
      exact ⟨rfl, HB1.out.2⟩
    · by_cases hu : u = 0
      · subst hu
        rw [decide_eq_false (by omega)]
        go_enter Tryz.func16, Tryz.ntmps16
        go_wp2_with (first
          | (go_at_call 14; refine (HN.out _).mono ?_; rintro x w1 ⟨rfl, hb⟩; have HB1 := Lib.hid (boxed hb); have h3 := cell_at HB1.out.1 3 _ rfl; have h4 := cell_at HB1.out.1 4 _ rfl; have h5 := cell_at HB1.out.1 5 _ rfl; have h6 := cell_at HB1.out.1 6 _ rfl; clear hb))
        go_ret
        exact ⟨rfl, HB1.out.2⟩
      · have hu1 : decide (0 < u) = true := decide_eq_true (by omega)
        rw [decide_eq_true hu]
        clear hu
        go_enter Tryz.func16, Tryz.ntmps16
        go_wp2_with (first
          | (go_at_call 14; refine (HN.out _).mono ?_; rintro x w1 ⟨rfl, hb⟩; have HB1 := Lib.hid (boxed hb); have h3 := cell_at HB1.out.1 3 _ rfl; have h4 := cell_at HB1.out.1 4 _ rfl; have h5 := cell_at HB1.out.1 5 _ rfl; have h6 := cell_at HB1.out.1 6 _ rfl; clear hb)
          | (go_at_call 15; refine (HL.out _).mono ?_; rintro x w2 ⟨rfl, hb2⟩; have HB2 := Lib.hid (HB1.out.2.trans (hb2.mono HB1.out.2.size)); clear hb2))
        go_ret
        exact ⟨rfl, HB2.out⟩
theorem rFormedW2n (w : World) (e u : Nat) (s : ByteArray) (d f : Int) (A : Option Addr) (n c : Nat) (hs : s.size ≤ 140737488355328) (hd : (d == 0) = true) (hf : (f == 0) = true) (hn : ((n : Int) == 0) = false) (hE : emptyB d f n = false) :
    Calls Tryz.prog 16 #[.agg #[.int .i64 2, .int .u32 e, .string s, .int .u32 u, .int .i64 d, .int .i64 f, .slice A n c]] w fun x w' => x = .returned (.bool (formedB 2 e s u d f n)) ∧ Below w.heap.size w w' := by
  rw [formed_two]
  clear hE
  have hL := fun w => rFits_any w u d f A n c
  generalize fitsB d f n = E at *
  have HL := Lib.hid hL
  clear hL
  by_cases he : e = 0
  · subst he
    rw [decide_eq_false (by omega)]
    go_enter Tryz.func16, Tryz.ntmps16
    go_wp2_with (first
      | fail)
    go_ret
    exact ⟨rfl, (Below.refl _ _).alloc (Nat.le_refl _) _⟩
  · have he1 : decide (0 < e) = true := decide_eq_true (by omega)
    rw [decide_eq_true he]
    clear he
    have hN := fun w => rNamed_big w s hs
    generalize named s = M at *
    have HN := Lib.hid hN
    clear hN hs
    cases M
    · go_enter Tryz.func16, Tryz.ntmps16
      go_wp2_with (first
        | (go_at_call 14; refine (HN.out _).mono ?_; rintro x w1 ⟨rfl, hb⟩; have HB1 := Lib.hid (boxed hb); have h3 := cell_at HB1.out.1 3 _ rfl; have h4 := cell_at HB1.out.1 4 _ rfl; have h5 := cell_at HB1.out.1 5 _ rfl; have h6 := cell_at HB1.out.1 6 _ rfl; clear hb))
      go_ret
      exact ⟨rfl, HB1.out.2⟩
    · by_cases hu : u = 0
      · subst hu
        rw [decide_eq_false (by omega)]
        go_enter Tryz.func16, Tryz.ntmps16
        go_wp2_with (first
          | (go_at_call 14; refine (HN.out _).mono ?_; rintro x w1 ⟨rfl, hb⟩; have HB1 := Lib.hid (boxed hb); have h3 := cell_at HB1.out.1 3 _ rfl; have h4 := cell_at HB1.out.1 4 _ rfl; have h5 := cell_at HB1.out.1 5 _ rfl; have h6 := cell_at HB1.out.1 6 _ rfl; clear hb))
        go_ret
        exact ⟨rfl, HB1.out.2⟩
      · have hu1 : decide (0 < u) = true := decide_eq_true (by omega)
        rw [decide_eq_true hu]
        clear hu
        go_enter Tryz.func16, Tryz.ntmps16
        go_wp2_with (first
          | (go_at_call 14; refine (HN.out _).mono ?_; rintro x w1 ⟨rfl, hb⟩; have HB1 := Lib.hid (boxed hb); have h3 := cell_at HB1.out.1 3 _ rfl; have h4 := cell_at HB1.out.1 4 _ rfl; have h5 := cell_at HB1.out.1 5 _ rfl; have h6 := cell_at HB1.out.1 6 _ rfl; clear hb)
          | (go_at_call 15; refine (HL.out _).mono ?_; rintro x w2 ⟨rfl, hb2⟩; have HB2 := Lib.hid (HB1.out.2.trans (hb2.mono HB1.out.2.size)); clear hb2))
        go_ret
        exact ⟨rfl, HB2.out⟩
theorem rFormedW2a (w : World) (e u : Nat) (s : ByteArray) (d f : Int) (A : Option Addr) (n c : Nat) (hs : s.size ≤ 140737488355328) (hd : (d == 0) = true) (hf : (f == 0) = true) (hn : ((n : Int) == 0) = true) (hE : emptyB d f n = true) :
    Calls Tryz.prog 16 #[.agg #[.int .i64 2, .int .u32 e, .string s, .int .u32 u, .int .i64 d, .int .i64 f, .slice A n c]] w fun x w' => x = .returned (.bool (formedB 2 e s u d f n)) ∧ Below w.heap.size w w' := by
  rw [formed_two]
  clear hE
  have hL := fun w => rFits_any w u d f A n c
  generalize fitsB d f n = E at *
  have HL := Lib.hid hL
  clear hL
  by_cases he : e = 0
  · subst he
    rw [decide_eq_false (by omega)]
    go_enter Tryz.func16, Tryz.ntmps16
    go_wp2_with (first
      | fail)
    go_ret
    exact ⟨rfl, (Below.refl _ _).alloc (Nat.le_refl _) _⟩
  · have he1 : decide (0 < e) = true := decide_eq_true (by omega)
    rw [decide_eq_true he]
    clear he
    have hN := fun w => rNamed_big w s hs
    generalize named s = M at *
    have HN := Lib.hid hN
    clear hN hs
    cases M
    · go_enter Tryz.func16, Tryz.ntmps16
      go_wp2_with (first
        | (go_at_call 14; refine (HN.out _).mono ?_; rintro x w1 ⟨rfl, hb⟩; have HB1 := Lib.hid (boxed hb); have h3 := cell_at HB1.out.1 3 _ rfl; have h4 := cell_at HB1.out.1 4 _ rfl; have h5 := cell_at HB1.out.1 5 _ rfl; have h6 := cell_at HB1.out.1 6 _ rfl; clear hb))
      go_ret
      exact ⟨rfl, HB1.out.2⟩
    · by_cases hu : u = 0
      · subst hu
        rw [decide_eq_false (by omega)]
        go_enter Tryz.func16, Tryz.ntmps16
        go_wp2_with (first
          | (go_at_call 14; refine (HN.out _).mono ?_; rintro x w1 ⟨rfl, hb⟩; have HB1 := Lib.hid (boxed hb); have h3 := cell_at HB1.out.1 3 _ rfl; have h4 := cell_at HB1.out.1 4 _ rfl; have h5 := cell_at HB1.out.1 5 _ rfl; have h6 := cell_at HB1.out.1 6 _ rfl; clear hb))
        go_ret
        exact ⟨rfl, HB1.out.2⟩
      · have hu1 : decide (0 < u) = true := decide_eq_true (by omega)
        rw [decide_eq_true hu]
        clear hu
        go_enter Tryz.func16, Tryz.ntmps16
        go_wp2_with (first
          | (go_at_call 14; refine (HN.out _).mono ?_; rintro x w1 ⟨rfl, hb⟩; have HB1 := Lib.hid (boxed hb); have h3 := cell_at HB1.out.1 3 _ rfl; have h4 := cell_at HB1.out.1 4 _ rfl; have h5 := cell_at HB1.out.1 5 _ rfl; have h6 := cell_at HB1.out.1 6 _ rfl; clear hb)
          | (go_at_call 15; refine (HL.out _).mono ?_; rintro x w2 ⟨rfl, hb2⟩; have HB2 := Lib.hid (HB1.out.2.trans (hb2.mono HB1.out.2.size)); clear hb2))
        go_ret
        exact ⟨rfl, HB2.out⟩
theorem rFormedW3d (w : World) (e u : Nat) (s : ByteArray) (d f : Int) (A : Option Addr) (n c : Nat) (hs : s.size ≤ 140737488355328) (hd : (d == 0) = false) (hE : emptyB d f n = false) :
    Calls Tryz.prog 16 #[.agg #[.int .i64 3, .int .u32 e, .string s, .int .u32 u, .int .i64 d, .int .i64 f, .slice A n c]] w fun x w' => x = .returned (.bool (formedB 3 e s u d f n)) ∧ Below w.heap.size w w' := by
  rw [formed_three, hE]
  clear hE
  by_cases he : e = 0
  · subst he
    rw [decide_eq_false (by omega)]
    go_enter Tryz.func16, Tryz.ntmps16
    go_wp2_with (first
      | fail)
    go_ret
    exact ⟨rfl, (Below.refl _ _).alloc (Nat.le_refl _) _⟩
  · have he1 : decide (0 < e) = true := decide_eq_true (by omega)
    rw [decide_eq_true he]
    clear he
    by_cases hz : s.size = 0
    · have hs1 : s.toList.isEmpty = true := by
        have : s.data = #[] := Array.eq_empty_of_size_eq_zero hz
        simp [ByteArray.toList_eq, this]
      rw [decide_eq_true hz]
      clear hz hs
      by_cases hu : u = 0
      · subst hu
        rw [decide_eq_false (by omega)]
        go_enter Tryz.func16, Tryz.ntmps16
        go_wp2_with (first
          | fail)
        go_ret
        exact ⟨rfl, (Below.refl _ _).alloc (Nat.le_refl _) _⟩
      · have hu1 : decide (0 < u) = true := decide_eq_true (by omega)
        rw [decide_eq_true hu]
        clear hu
        go_enter Tryz.func16, Tryz.ntmps16
        go_wp2_with (first
          | fail)
        go_ret
        exact ⟨rfl, (Below.refl _ _).alloc (Nat.le_refl _) _⟩
    · have hs1 : s.toList.isEmpty = false := by
        rw [Bool.eq_false_iff]
        intro h
        rw [ByteArray.toList_eq] at h
        have h' : s.data = #[] := by simpa using h
        exact hz (by show s.data.size = 0; rw [h']; rfl)
      rw [decide_eq_false hz]
      clear hz hs
      go_enter Tryz.func16, Tryz.ntmps16
      go_wp2_with (first
        | fail)
      go_ret
      exact ⟨rfl, (Below.refl _ _).alloc (Nat.le_refl _) _⟩
theorem rFormedW3f (w : World) (e u : Nat) (s : ByteArray) (d f : Int) (A : Option Addr) (n c : Nat) (hs : s.size ≤ 140737488355328) (hd : (d == 0) = true) (hf : (f == 0) = false) (hE : emptyB d f n = false) :
    Calls Tryz.prog 16 #[.agg #[.int .i64 3, .int .u32 e, .string s, .int .u32 u, .int .i64 d, .int .i64 f, .slice A n c]] w fun x w' => x = .returned (.bool (formedB 3 e s u d f n)) ∧ Below w.heap.size w w' := by
  rw [formed_three, hE]
  clear hE
  by_cases he : e = 0
  · subst he
    rw [decide_eq_false (by omega)]
    go_enter Tryz.func16, Tryz.ntmps16
    go_wp2_with (first
      | fail)
    go_ret
    exact ⟨rfl, (Below.refl _ _).alloc (Nat.le_refl _) _⟩
  · have he1 : decide (0 < e) = true := decide_eq_true (by omega)
    rw [decide_eq_true he]
    clear he
    by_cases hz : s.size = 0
    · have hs1 : s.toList.isEmpty = true := by
        have : s.data = #[] := Array.eq_empty_of_size_eq_zero hz
        simp [ByteArray.toList_eq, this]
      rw [decide_eq_true hz]
      clear hz hs
      by_cases hu : u = 0
      · subst hu
        rw [decide_eq_false (by omega)]
        go_enter Tryz.func16, Tryz.ntmps16
        go_wp2_with (first
          | fail)
        go_ret
        exact ⟨rfl, (Below.refl _ _).alloc (Nat.le_refl _) _⟩
      · have hu1 : decide (0 < u) = true := decide_eq_true (by omega)
        rw [decide_eq_true hu]
        clear hu
        go_enter Tryz.func16, Tryz.ntmps16
        go_wp2_with (first
          | fail)
        go_ret
        exact ⟨rfl, (Below.refl _ _).alloc (Nat.le_refl _) _⟩
    · have hs1 : s.toList.isEmpty = false := by
        rw [Bool.eq_false_iff]
        intro h
        rw [ByteArray.toList_eq] at h
        have h' : s.data = #[] := by simpa using h
        exact hz (by show s.data.size = 0; rw [h']; rfl)
      rw [decide_eq_false hz]
      clear hz hs
      go_enter Tryz.func16, Tryz.ntmps16
      go_wp2_with (first
        | fail)
      go_ret
      exact ⟨rfl, (Below.refl _ _).alloc (Nat.le_refl _) _⟩
theorem rFormedW3n (w : World) (e u : Nat) (s : ByteArray) (d f : Int) (A : Option Addr) (n c : Nat) (hs : s.size ≤ 140737488355328) (hd : (d == 0) = true) (hf : (f == 0) = true) (hn : ((n : Int) == 0) = false) (hE : emptyB d f n = false) :
    Calls Tryz.prog 16 #[.agg #[.int .i64 3, .int .u32 e, .string s, .int .u32 u, .int .i64 d, .int .i64 f, .slice A n c]] w fun x w' => x = .returned (.bool (formedB 3 e s u d f n)) ∧ Below w.heap.size w w' := by
  rw [formed_three, hE]
  clear hE
  by_cases he : e = 0
  · subst he
    rw [decide_eq_false (by omega)]
    go_enter Tryz.func16, Tryz.ntmps16
    go_wp2_with (first
      | fail)
    go_ret
    exact ⟨rfl, (Below.refl _ _).alloc (Nat.le_refl _) _⟩
  · have he1 : decide (0 < e) = true := decide_eq_true (by omega)
    rw [decide_eq_true he]
    clear he
    by_cases hz : s.size = 0
    · have hs1 : s.toList.isEmpty = true := by
        have : s.data = #[] := Array.eq_empty_of_size_eq_zero hz
        simp [ByteArray.toList_eq, this]
      rw [decide_eq_true hz]
      clear hz hs
      by_cases hu : u = 0
      · subst hu
        rw [decide_eq_false (by omega)]
        go_enter Tryz.func16, Tryz.ntmps16
        go_wp2_with (first
          | fail)
        go_ret
        exact ⟨rfl, (Below.refl _ _).alloc (Nat.le_refl _) _⟩
      · have hu1 : decide (0 < u) = true := decide_eq_true (by omega)
        rw [decide_eq_true hu]
        clear hu
        go_enter Tryz.func16, Tryz.ntmps16
        go_wp2_with (first
          | fail)
        go_ret
        exact ⟨rfl, (Below.refl _ _).alloc (Nat.le_refl _) _⟩
    · have hs1 : s.toList.isEmpty = false := by
        rw [Bool.eq_false_iff]
        intro h
        rw [ByteArray.toList_eq] at h
        have h' : s.data = #[] := by simpa using h
        exact hz (by show s.data.size = 0; rw [h']; rfl)
      rw [decide_eq_false hz]
      clear hz hs
      go_enter Tryz.func16, Tryz.ntmps16
      go_wp2_with (first
        | fail)
      go_ret
      exact ⟨rfl, (Below.refl _ _).alloc (Nat.le_refl _) _⟩
theorem rFormedW3a (w : World) (e u : Nat) (s : ByteArray) (d f : Int) (A : Option Addr) (n c : Nat) (hs : s.size ≤ 140737488355328) (hd : (d == 0) = true) (hf : (f == 0) = true) (hn : ((n : Int) == 0) = true) (hE : emptyB d f n = true) :
    Calls Tryz.prog 16 #[.agg #[.int .i64 3, .int .u32 e, .string s, .int .u32 u, .int .i64 d, .int .i64 f, .slice A n c]] w fun x w' => x = .returned (.bool (formedB 3 e s u d f n)) ∧ Below w.heap.size w w' := by
  rw [formed_three, hE]
  clear hE
  by_cases he : e = 0
  · subst he
    rw [decide_eq_false (by omega)]
    go_enter Tryz.func16, Tryz.ntmps16
    go_wp2_with (first
      | fail)
    go_ret
    exact ⟨rfl, (Below.refl _ _).alloc (Nat.le_refl _) _⟩
  · have he1 : decide (0 < e) = true := decide_eq_true (by omega)
    rw [decide_eq_true he]
    clear he
    by_cases hz : s.size = 0
    · have hs1 : s.toList.isEmpty = true := by
        have : s.data = #[] := Array.eq_empty_of_size_eq_zero hz
        simp [ByteArray.toList_eq, this]
      rw [decide_eq_true hz]
      clear hz hs
      by_cases hu : u = 0
      · subst hu
        rw [decide_eq_false (by omega)]
        go_enter Tryz.func16, Tryz.ntmps16
        go_wp2_with (first
          | fail)
        go_ret
        exact ⟨rfl, (Below.refl _ _).alloc (Nat.le_refl _) _⟩
      · have hu1 : decide (0 < u) = true := decide_eq_true (by omega)
        rw [decide_eq_true hu]
        clear hu
        go_enter Tryz.func16, Tryz.ntmps16
        go_wp2_with (first
          | fail)
        go_ret
        exact ⟨rfl, (Below.refl _ _).alloc (Nat.le_refl _) _⟩
    · have hs1 : s.toList.isEmpty = false := by
        rw [Bool.eq_false_iff]
        intro h
        rw [ByteArray.toList_eq] at h
        have h' : s.data = #[] := by simpa using h
        exact hz (by show s.data.size = 0; rw [h']; rfl)
      rw [decide_eq_false hz]
      clear hz hs
      go_enter Tryz.func16, Tryz.ntmps16
      go_wp2_with (first
        | fail)
      go_ret
      exact ⟨rfl, (Below.refl _ _).alloc (Nat.le_refl _) _⟩
theorem rFormedW0d (w : World) (k : Int) (e u : Nat) (s : ByteArray) (d f : Int) (A : Option Addr) (n c : Nat) (hd : (d == 0) = false) (h1 : k ≠ 1) (h2 : k ≠ 2) (h3 : k ≠ 3) :
    Calls Tryz.prog 16 #[.agg #[.int .i64 k, .int .u32 e, .string s, .int .u32 u, .int .i64 d, .int .i64 f, .slice A n c]] w fun x w' => x = .returned (.bool (formedB k e s u d f n)) ∧ Below w.heap.size w w' := by
  rw [formed_other h1 h2 h3]
  have e1 : (k == 1) = false := by rw [beq_eq_false_iff_ne]; exact h1
  have e2 : (k == 2) = false := by rw [beq_eq_false_iff_ne]; exact h2
  have e3 : (k == 3) = false := by rw [beq_eq_false_iff_ne]; exact h3
  clear h1 h2 h3
  go_enter Tryz.func16, Tryz.ntmps16
  go_wp2_with (first
    | fail)
  go_ret
  exact ⟨rfl, (Below.refl _ _).alloc (Nat.le_refl _) _⟩
theorem rFormedW0f (w : World) (k : Int) (e u : Nat) (s : ByteArray) (d f : Int) (A : Option Addr) (n c : Nat) (hd : (d == 0) = true) (hf : (f == 0) = false) (h1 : k ≠ 1) (h2 : k ≠ 2) (h3 : k ≠ 3) :
    Calls Tryz.prog 16 #[.agg #[.int .i64 k, .int .u32 e, .string s, .int .u32 u, .int .i64 d, .int .i64 f, .slice A n c]] w fun x w' => x = .returned (.bool (formedB k e s u d f n)) ∧ Below w.heap.size w w' := by
  rw [formed_other h1 h2 h3]
  have e1 : (k == 1) = false := by rw [beq_eq_false_iff_ne]; exact h1
  have e2 : (k == 2) = false := by rw [beq_eq_false_iff_ne]; exact h2
  have e3 : (k == 3) = false := by rw [beq_eq_false_iff_ne]; exact h3
  clear h1 h2 h3
  go_enter Tryz.func16, Tryz.ntmps16
  go_wp2_with (first
    | fail)
  go_ret
  exact ⟨rfl, (Below.refl _ _).alloc (Nat.le_refl _) _⟩
theorem rFormedW0n (w : World) (k : Int) (e u : Nat) (s : ByteArray) (d f : Int) (A : Option Addr) (n c : Nat) (hd : (d == 0) = true) (hf : (f == 0) = true) (hn : ((n : Int) == 0) = false) (h1 : k ≠ 1) (h2 : k ≠ 2) (h3 : k ≠ 3) :
    Calls Tryz.prog 16 #[.agg #[.int .i64 k, .int .u32 e, .string s, .int .u32 u, .int .i64 d, .int .i64 f, .slice A n c]] w fun x w' => x = .returned (.bool (formedB k e s u d f n)) ∧ Below w.heap.size w w' := by
  rw [formed_other h1 h2 h3]
  have e1 : (k == 1) = false := by rw [beq_eq_false_iff_ne]; exact h1
  have e2 : (k == 2) = false := by rw [beq_eq_false_iff_ne]; exact h2
  have e3 : (k == 3) = false := by rw [beq_eq_false_iff_ne]; exact h3
  clear h1 h2 h3
  go_enter Tryz.func16, Tryz.ntmps16
  go_wp2_with (first
    | fail)
  go_ret
  exact ⟨rfl, (Below.refl _ _).alloc (Nat.le_refl _) _⟩
theorem rFormedW0a (w : World) (k : Int) (e u : Nat) (s : ByteArray) (d f : Int) (A : Option Addr) (n c : Nat) (hd : (d == 0) = true) (hf : (f == 0) = true) (hn : ((n : Int) == 0) = true) (h1 : k ≠ 1) (h2 : k ≠ 2) (h3 : k ≠ 3) :
    Calls Tryz.prog 16 #[.agg #[.int .i64 k, .int .u32 e, .string s, .int .u32 u, .int .i64 d, .int .i64 f, .slice A n c]] w fun x w' => x = .returned (.bool (formedB k e s u d f n)) ∧ Below w.heap.size w w' := by
  rw [formed_other h1 h2 h3]
  have e1 : (k == 1) = false := by rw [beq_eq_false_iff_ne]; exact h1
  have e2 : (k == 2) = false := by rw [beq_eq_false_iff_ne]; exact h2
  have e3 : (k == 3) = false := by rw [beq_eq_false_iff_ne]; exact h3
  clear h1 h2 h3
  go_enter Tryz.func16, Tryz.ntmps16
  go_wp2_with (first
    | fail)
  go_ret
  exact ⟨rfl, (Below.refl _ _).alloc (Nat.le_refl _) _⟩
theorem rFormedW_any (w : World) (k : Int) (e u : Nat) (s : ByteArray) (d f : Int) (A : Option Addr) (n c : Nat) (hs : s.size ≤ 140737488355328) :
    Calls Tryz.prog 16 #[.agg #[.int .i64 k, .int .u32 e, .string s, .int .u32 u, .int .i64 d, .int .i64 f, .slice A n c]] w fun x w' => x = .returned (.bool (formedB k e s u d f n)) ∧ Below w.heap.size w w' := by
  have hz : ∀ x : Int, x ≠ 0 → (x == 0) = false := fun x h => by rw [beq_eq_false_iff_ne]; exact h
  by_cases h1 : d = 0
  · have d1 : (d == 0) = true := by rw [beq_iff_eq]; exact h1
    by_cases h2 : f = 0
    · have d2 : (f == 0) = true := by rw [beq_iff_eq]; exact h2
      by_cases h3 : n = 0
      · have d3 : ((n : Int) == 0) = true := by rw [beq_iff_eq]; omega
        have hE : emptyB d f n = true := by simp [emptyB, h1, h2, h3]
        by_cases k1 : k = 1
        · subst k1; exact rFormedW1a w e u s d f A _ c hs d1 d2 d3 hE
        · by_cases k2 : k = 2
          · subst k2; exact rFormedW2a w e u s d f A _ c hs d1 d2 d3 hE
          · by_cases k3 : k = 3
            · subst k3; exact rFormedW3a w e u s d f A _ c hs d1 d2 d3 hE
            · exact rFormedW0a w k e u s d f A _ c d1 d2 d3 k1 k2 k3
      · have d3 := hz (n : Int) (by omega)
        have hE : emptyB d f n = false := by simp [emptyB, h1, h2, h3]
        by_cases k1 : k = 1
        · subst k1; exact rFormedW1n w e u s d f A _ c hs d1 d2 d3 hE
        · by_cases k2 : k = 2
          · subst k2; exact rFormedW2n w e u s d f A _ c hs d1 d2 d3 hE
          · by_cases k3 : k = 3
            · subst k3; exact rFormedW3n w e u s d f A _ c hs d1 d2 d3 hE
            · exact rFormedW0n w k e u s d f A _ c d1 d2 d3 k1 k2 k3
    · have d2 := hz f h2
      have hE : emptyB d f n = false := by simp [emptyB, h1, h2]
      by_cases k1 : k = 1
      · subst k1; exact rFormedW1f w e u s d f A _ c hs d1 d2 hE
      · by_cases k2 : k = 2
        · subst k2; exact rFormedW2f w e u s d f A _ c hs d1 d2 hE
        · by_cases k3 : k = 3
          · subst k3; exact rFormedW3f w e u s d f A _ c hs d1 d2 hE
          · exact rFormedW0f w k e u s d f A _ c d1 d2 k1 k2 k3
  · have d1 := hz d h1
    have hE : emptyB d f n = false := by simp [emptyB, h1]
    by_cases k1 : k = 1
    · subst k1; exact rFormedW1d w e u s d f A _ c hs d1 hE
    · by_cases k2 : k = 2
      · subst k2; exact rFormedW2d w e u s d f A _ c hs d1 hE
      · by_cases k3 : k = 3
        · subst k3; exact rFormedW3d w e u s d f A _ c hs d1 hE
        · exact rFormedW0d w k e u s d f A _ c d1 k1 k2 k3
end Go.Proofs.YtfmdhcjniikfdaaGreatDoor.bod
/- Notes that come in; the document's Frame of a note. -/
namespace Go.Proofs.YtfmdhcjniikfdaaGreatDoor.lg
open Go.ChangeShapes Go.WideShapes Go.ChangeAt Go.RowKit
open Go.Proofs.YtfmdhcjniikfdaaGreatDoor.codec (Bytes vals)
open Go.Proofs.YtfmdhcjniikfdaaGreatDoor.bod (cell_at Fit formedB payL)
open Go.Proofs.YtfmdhcjniikfdaaGreatDoor.frm (allF frameL frameL_length)
set_option linter.unusedVariables false
set_option maxRecDepth 100000
set_option linter.unusedSimpArgs false

/-! Notes of any kind. -/
def cZ (z : Int × Y) : List Value := [.int .i64 z.1, .int .u32 (z.2.n.e : Nat), .string z.2.n.s, .int .u32 (z.2.n.u : Nat), .int .i64 z.2.n.d, .int .i64 z.2.n.f, .slice z.2.A z.2.m z.2.c]
def fZ (z : Int × Y) : Bool := formedB z.1 z.2.n.e z.2.n.s z.2.n.u z.2.n.d z.2.n.f z.2.m
def toY (z : Int × Y) : Y := ⟨⟨z.1.toNat, z.2.n.e, z.2.n.s, z.2.n.u, z.2.n.d, z.2.n.f, z.2.n.o⟩, z.2.p, z.2.A, z.2.m, z.2.c⟩
def RdZ (w : World) (A : Option Addr) (n : Nat) (zs : List (Int × Y)) : Prop := zs.length = n ∧ ∀ k, k < n → ∃ b o z, A = some ⟨b, o, none⟩ ∧ zs[k]? = some z ∧ (∀ j v, (cZ z)[j]? = some v → w.cell? ⟨b, o + k * 7 + j, none⟩ = some v) ∧ Oct w z.2
theorem RdZ.empty (w : World) : RdZ w none 0 [] := ⟨rfl, fun k hk => by omega⟩
theorem RdZ.below {w w' : World} {A : Option Addr} {n : Nat} {zs : List (Int × Y)} (h : RdZ w A n zs) (hb : Below w.heap.size w w') : RdZ w' A n zs := by
  refine ⟨h.1, fun k hk => ?_⟩
  obtain ⟨b, o, y, h1, h2, h3, h4⟩ := h.2 k hk
  refine ⟨b, o, y, h1, h2, fun j v hv => ?_, h4.below hb⟩
  have := h3 j v hv
  rw [hb.cell (p := ⟨b, o + k * 7 + j, none⟩) (block_lt_of_cell this)]
  exact this
theorem RdZ.at {w : World} {A : Option Addr} {n : Nat} {zs : List (Int × Y)} (h : RdZ w A n zs) (k : Nat) (hk : k < n) : ∃ b o z, A = some ⟨b, o, none⟩ ∧ zs[k]? = some z ∧ w.cell? ⟨b, o + k * 7, none⟩ = some (.int .i64 z.1) ∧ w.cell? ⟨b, o + k * 7 + 1, none⟩ = some (.int .u32 (z.2.n.e : Nat)) ∧ w.cell? ⟨b, o + k * 7 + 2, none⟩ = some (.string z.2.n.s) ∧ w.cell? ⟨b, o + k * 7 + 3, none⟩ = some (.int .u32 (z.2.n.u : Nat)) ∧ w.cell? ⟨b, o + k * 7 + 4, none⟩ = some (.int .i64 z.2.n.d) ∧ w.cell? ⟨b, o + k * 7 + 5, none⟩ = some (.int .i64 z.2.n.f) ∧ w.cell? ⟨b, o + k * 7 + 6, none⟩ = some (.slice z.2.A z.2.m z.2.c) ∧ Oct w z.2 := by
  obtain ⟨b, o, y, h1, h2, h3, h4⟩ := h.2 k hk
  exact ⟨b, o, y, h1, h2, h3 0 _ rfl, h3 1 _ rfl, h3 2 _ rfl, h3 3 _ rfl, h3 4 _ rfl, h3 5 _ rfl, h3 6 _ rfl, h4⟩
theorem formed_kind {k : Int} {e u : Nat} {s : ByteArray} {d f : Int} {n : Nat} (h : formedB k e s u d f n = true) : 1 ≤ k ∧ k ≤ 3 := by
  unfold formedB at h
  split at h
  · omega
  · split at h
    · omega
    · split at h
      · omega
      · cases h
theorem RdZ.rd {w : World} {A : Option Addr} {n : Nat} {zs : List (Int × Y)} (h : RdZ w A n zs) (m : Nat) (hm : m ≤ n) (hf : ∀ z ∈ zs.take m, fZ z = true) : Rd cN 7 w A m ((zs.take m).map toY) := by
  refine ⟨by rw [List.length_map, List.length_take, h.1]; omega, fun k hk => ?_⟩
  obtain ⟨b, o, z, h1, h2, h3, h4⟩ := h.2 k (by omega)
  have hz : (zs.take m)[k]? = some z := by rw [List.getElem?_take, if_pos hk]; exact h2
  have hk1 := formed_kind (hf z (List.mem_of_getElem? hz))
  refine ⟨b, o, toY z, h1, by rw [List.getElem?_map, hz]; rfl, fun j v hv => h3 j v ?_, h4⟩
  have e : cN (toY z) = cZ z := by
    unfold cN cZ toY
    simp only []
    rw [Int.toNat_of_nonneg (by omega)]
  rw [← e]
  exact hv
theorem toY_ok {w : World} {z : Int × Y} (hf : fZ z = true) (he : z.2.n.e < 4294967296) (hu : z.2.n.u < 4294967296) (hO : Oct w z.2) : (toY z).n.ok ∧ ∀ b ∈ (toY z).n.o, b < 256 := by
  have hk := formed_kind hf
  refine ⟨⟨?_, he, hu⟩, hO.1.2.1⟩
  show formedB (z.1.toNat : Int) z.2.n.e z.2.n.s z.2.n.u z.2.n.d z.2.n.f z.2.n.o.length = true
  rw [Int.toNat_of_nonneg (by omega), hO.1.1]
  exact hf
/-- The notes, whatever they are. -/
def zn (zs : List (Int × Y)) : List Nt := zs.map fun z => (toY z).n
theorem zn_take (zs : List (Int × Y)) (k : Nat) : (zn zs).take k = nts ((zs.take k).map toY) := by
  unfold zn nts
  rw [List.map_map, ← List.map_take]
  rfl
/-- A row of bytes of the call's own, as a slice. -/
theorem own_slice {w : World} {B : Nat} {v : Value} {M : List Nat} (h : w.ownsRow B 5 1 v M.length (vals M)) (hb : ∀ x ∈ M, x < 256) : ∃ A c, v = .slice A M.length c ∧ Bytes w A M.length M ∧ M.length ≤ c ∧ (A = none → c = 0) := by
  by_cases hv : v = .slice none 0 0
  · subst hv
    rcases h.2 with ⟨_, h0⟩ | ⟨_, _, _, e, _⟩
    · have : M = [] := by cases M with
        | nil => rfl
        | cons a r => simp at h0
      subst this
      exact ⟨none, 0, rfl, codec.empty_bytes w, Nat.le_refl _, fun _ => rfl⟩
    · cases e
  · obtain ⟨g, cap, rfl, -, h2, h3⟩ := frm.own_form h hv hb rfl
    exact ⟨_, _, rfl, h2, h3, fun e => by cases e⟩
theorem bytes_take {w : World} {A : Option Addr} {n : Nat} {l : List Nat} (h : Bytes w A n l) (m : Nat) (hm : m ≤ n) : Bytes w A m (l.take m) := by
  obtain ⟨h1, h2, h3⟩ := h
  refine ⟨by rw [List.length_take, h1]; omega, fun b hb => h2 b (List.mem_of_mem_take hb), fun h0 => ?_⟩
  obtain ⟨b, o, e, hc⟩ := h3 (by omega)
  refine ⟨b, o, e, fun i hi => ?_⟩
  rw [hc i (by omega)]
  congr 3
  simp [List.getD, List.getElem?_take, hi]

theorem bytes_know (W : World) (k : Int) (e u : Nat) (s : ByteArray) (d f : Int) (A : Option Addr) (n c : Nat) (o P : List Nat) (N : Nat) (hf : formedB k e s u d f n = true) (he : e < 4294967296) (hu : u < 4294967296) (hB : Bytes W A n o) (hA : A = none → c = 0) (hP : payL k e s u d f o = P) (hN : P.length = N) (hl : ∀ b ∈ P, b < 256) :
    Calls Tryz.prog 34 #[.agg #[.int .i64 k, .int .u32 e, .string s, .int .u32 u, .int .i64 d, .int .i64 f, .slice A n c]] W fun x w' => ∃ g cap, x = .returned (.slice (some ⟨g, 0, none⟩) N cap) ∧ Bytes w' (some ⟨g, 0, none⟩) N P ∧ Below W.heap.size W w' := by
  subst hP
  refine (bod.bytes_any W k e u s d f A n c o hf he hu hB hA).mono ?_
  rintro x w' ⟨v, rfl, hM⟩
  obtain ⟨g, cap, rfl, -, -⟩ := hM.form N hN (by have := bod.payL_pos k e u s d f o; omega)
  exact ⟨g, cap, rfl, hM.bytes hN hl, hM.2⟩
theorem rframe_know (W : World) (k g N c M : Nat) (P F : List Nat) (h1 : 1 ≤ k) (h3 : k ≤ 3) (hB : Bytes W (some ⟨g, 0, none⟩) N P) (hn : N ≤ 40000) (hF : frameL k P = F) (hM : F.length = M) (hl : ∀ b ∈ F, b < 256) (h0 : 0 < M) :
    Calls Tryz.prog 33 #[.int .i64 k, .slice (some ⟨g, 0, none⟩) N c] W fun x w' => ∃ g' cap, x = .returned (.slice (some ⟨g', 0, none⟩) M cap) ∧ M ≤ cap ∧ Bytes w' (some ⟨g', 0, none⟩) M F ∧ Below W.heap.size W w' := by
  subst hF
  refine (frm.refFrame_any W k N c (some ⟨g, 0, none⟩) P h1 h3 hB hn (fun e => by cases e)).mono ?_
  rintro x w' ⟨v, rfl, hm⟩
  obtain ⟨g', cap, rfl, hc, -⟩ := hm.form M hM h0
  exact ⟨g', cap, rfl, hc, hm.bytes hM hl, hm.2⟩
set_option maxHeartbeats 4000000 in
/-- The document's frame of a note. -/
theorem noteFrame_any (W : World) (k e u : Nat) (s : ByteArray) (d f : Int) (A : Option Addr) (n c : Nat) (o : List Nat) (F : List Nat) (M : Nat) (hf : formedB (k : Nat) e s u d f n = true) (he : e < 4294967296) (hu : u < 4294967296) (hB : Bytes W A n o) (hA : A = none → c = 0) (hF : frameL k (payL (k : Nat) e s u d f o) = F) (hM : F.length = M) :
    Calls Tryz.prog 17 #[.agg #[.int .i64 (k : Nat), .int .u32 (e : Nat), .string s, .int .u32 (u : Nat), .int .i64 d, .int .i64 f, .slice A n c]] W fun x w' => ∃ g cap, x = .returned (.slice (some ⟨g, 0, none⟩) M cap) ∧ M ≤ cap ∧ Bytes w' (some ⟨g, 0, none⟩) M F ∧ Below W.heap.size W w' := by
  have hk := formed_kind hf
  have hok : (⟨k, e, s, u, d, f, o⟩ : Nt).ok := ⟨by show formedB _ _ _ _ _ _ o.length = true; rw [hB.1]; exact hf, he, hu⟩
  obtain ⟨P, hP⟩ : ∃ P, P = payL (k : Nat) e s u d f o := ⟨_, rfl⟩
  have hPl : P.length ≤ 20077 := by have := pay_le hok; rw [hP]; exact this
  have hPb : ∀ b ∈ P, b < 256 := by rw [hP]; exact bod.payL_lt hB.2.1
  rw [← hP] at hF
  have hFl : F.length = 44 + P.length := by rw [← hF, frameL_length]
  have hFb : ∀ b ∈ F, b < 256 := by rw [← hF]; exact bod.frameL_lt (by omega) hPb
  obtain ⟨N, hN⟩ : ∃ N, P.length = N := ⟨_, rfl⟩
  obtain ⟨W1, hW1⟩ : ∃ W1, W1 = W.alloc (.cells #[.int .i64 (k : Nat), .int .u32 (e : Nat), .string s, .int .u32 (u : Nat), .int .i64 d, .int .i64 f, .slice A n c] 51) := ⟨_, rfl⟩
  have HBW := Lib.hid (show Below W.heap.size W W1 by rw [hW1]; exact (Below.refl _ _).alloc (Nat.le_refl _) _)
  have HX1 := Lib.hid (fun (w1 : World) (h : Below W1.heap.size W1 w1) => (bod.boxed (w := W) (o := .cells #[.int .i64 (k : Nat), .int .u32 (e : Nat), .string s, .int .u32 (u : Nat), .int .i64 d, .int .i64 f, .slice A n c] 51) (w1 := w1) (by rw [← hW1]; exact h)).1)
  have HBY := Lib.hid (fun (w1 : World) (h : Below W1.heap.size W1 w1) => bytes_know w1 (k : Nat) e u s d f A n c o P N hf he hu (hB.below hB.lt (HBW.out.trans (h.mono HBW.out.size))) hA hP.symm hN hPb)
  have HFR := Lib.hid (fun (w1 : World) (g c1 : Nat) (h : Bytes w1 (some ⟨g, 0, none⟩) N P) => rframe_know w1 k g N c1 M P F (by omega) (by omega) h (by omega) hF hM hFb (by omega))
  have HW1 := Lib.hid hW1
  clear hk hok hP hPl hPb hF hFl hFb hN hf he hu hB hA hM
  have c0 := cell_at (HX1.out W1 (Below.refl _ _)) 0 _ rfl
  have c1 := cell_at (HX1.out W1 (Below.refl _ _)) 1 _ rfl
  have c2 := cell_at (HX1.out W1 (Below.refl _ _)) 2 _ rfl
  have c3 := cell_at (HX1.out W1 (Below.refl _ _)) 3 _ rfl
  have c4 := cell_at (HX1.out W1 (Below.refl _ _)) 4 _ rfl
  have c5 := cell_at (HX1.out W1 (Below.refl _ _)) 5 _ rfl
  have c6 := cell_at (HX1.out W1 (Below.refl _ _)) 6 _ rfl
  rw [hW1] at c0 c1 c2 c3 c4 c5 c6
  clear hW1
  go_enter Tryz.func17, Tryz.ntmps17
  go_wp2_with fail
  rw [← HW1.out]
  clear c0 c1 c2 c3 c4 c5 c6
  have HST := Lib.hid (show Below W1.heap.size W1 W1.drew from codec.below_draws (Below.refl _ _) 1)
  refine wp_region_noPanic ?_
  refine wp_region_held_drew (S := fun w' => Below W1.heap.size W1 w') (by kernel_rfl) HST.out (fun hHeld => ?_)
  refine wpAnyH_take (i := 0) (v := ?_) rfl (by kernel_rfl) (by kernel_rfl) (by kernel_rfl) (fun _ _ _ h => h) (Or.inl ⟨by kernel_rfl, ?_⟩) hHeld ?_
  rotate_left
  · (intro w' hw'; go_simp; first | done | with_reducible rfl)
  refine wpAnyH_take (i := 1) (v := ?_) rfl (by kernel_rfl) (by kernel_rfl) (by kernel_rfl) (fun _ _ _ h => h) (Or.inl ⟨by kernel_rfl, ?_⟩) hHeld ?_
  rotate_left
  · (intro w' hw'; have c0 := cell_at (HX1.out _ hw') 0 _ rfl; go_simp; first | done | with_reducible rfl)
  refine wpAnyH_take (i := 2) (v := ?_) rfl (by kernel_rfl) (by kernel_rfl) (by kernel_rfl) (fun _ _ _ h => h) (Or.inl ⟨by kernel_rfl, ?_⟩) hHeld ?_
  rotate_left
  · (intro w' hw'; have c0 := cell_at (HX1.out _ hw') 0 _ rfl; have c1 := cell_at (HX1.out _ hw') 1 _ rfl; have c2 := cell_at (HX1.out _ hw') 2 _ rfl; have c3 := cell_at (HX1.out _ hw') 3 _ rfl; have c4 := cell_at (HX1.out _ hw') 4 _ rfl; have c5 := cell_at (HX1.out _ hw') 5 _ rfl; have c6 := cell_at (HX1.out _ hw') 6 _ rfl; go_simp; first | done | with_reducible rfl)
  refine wpAnyH_ready (rs := [3]) (by kernel_rfl) (by simp) ?_
  refine AllReadyH.cons rfl (fun K hK => ?_) AllReadyH.nil
  go_simp
  refine (HBY.out _ hHeld).mono ?_
  rintro x w2 ⟨g, cap, rfl, hB2, hb2⟩
  have hS2 := hHeld.trans (hb2.mono hHeld.size)
  have HY2 := Lib.hid hB2
  clear hb2 hB2
  go_wp2_with fail
  refine hK.out _ _ hS2 (fun hH1 => ?_)
  clear hK K hHeld
  refine wpAnyH_ready (rs := [4]) (by kernel_rfl) (by simp) ?_
  refine AllReadyH.cons rfl (fun K hK => ?_) AllReadyH.nil
  go_simp
  refine (HFR.out w2 g cap HY2.out).mono ?_
  rintro x w3 ⟨g3, cap3, rfl, hc3, hB3, hb3⟩
  have hS3 := hS2.trans (hb3.mono hS2.size)
  have H3 := Lib.hid (And.intro hc3 (And.intro hB3 (HBW.out.trans (hS3.mono HBW.out.size))))
  clear hc3 hB3 hb3
  go_wp2_with fail
  refine hK.out _ _ hS3 (fun hH2 => ?_)
  clear hK K hH1
  refine wpAnyH_take (i := 5) (v := ?_) rfl (by kernel_rfl) (by kernel_rfl) (by kernel_rfl) (fun _ _ _ h => h) (Or.inl ⟨by kernel_rfl, ?_⟩) hH2 ?_
  rotate_left
  · (intro w' hw'; go_simp; first | done | with_reducible rfl)
  refine wpAnyH_done (by kernel_rfl) ?_ _
  refine NoPanic.normal ?_
  go_simp
  go_wp2_with fail
  go_ret
  exact ⟨g3, cap3, rfl, H3.out.1, H3.out.2.1, H3.out.2.2⟩
end Go.Proofs.YtfmdhcjniikfdaaGreatDoor.lg
namespace Go.Proofs.YtfmdhcjniikfdaaGreatDoor.cardPin
open Go.ChangeShapes Go.WideShapes Go.ChangeAt Go.RowKit Go.Deep
open Go.Proofs.YtfmdhcjniikfdaaGreatDoor.codec (Bytes)
open Go.Proofs.YtfmdhcjniikfdaaGreatDoor.lg (Y Nt cZ Oct RdZ)
set_option linter.unusedVariables false
set_option linter.unusedSimpArgs false
set_option maxRecDepth 100000

/-- A note that came in, with how long its name may be. -/
theorem znote_in {H : Type} {enc : TypeId × Value → H} {W : World} {n : Nat} {cs : List Value} {x : DataW H × List MemPlace} (hl : cs.length = 7) (h2 : DataW.trod enc Tryz.prog W 0 (fun _ => true) true n 51 cs = some x) :
    ∃ z : Int × Y, (z.2.n.e < 4294967296 ∧ z.2.n.u < 4294967296) ∧ cs = cZ z ∧ Oct W z.2 ∧ ∀ R, (∀ m ∈ DataW.weights Tryz.prog 51 x.1, m ≤ R) → z.2.n.s.size ≤ R := by
  obtain ⟨xs, k, hk, hxy, _, hxl, hf⟩ := DataW.trod_struct Tryz.underlying51 h2
  match xs, hxl, cs, hl with
  | [y0, y1, y2, y3], _, [v0, v1, v2, v3, v4, v5, v6], _ =>
    have g0 := hf 0 _ rfl
    have g1 := hf 1 _ rfl
    have g2 := hf 2 _ rfl
    have g3 := hf 3 _ rfl
    simp [cells3, cellsU, cells9, cellsM] at g0 g1 g2 g3
    obtain ⟨kk, q0, _, _⟩ := DataW.trod_int Tryz.underlying3 g0
    obtain ⟨e, q1, _, we⟩ := DataW.trod_int Tryz.underlying24 g1
    obtain ⟨s, q2, r2, ws⟩ := DataW.trod_string Tryz.underlying9 g2
    obtain ⟨zs, k2, hk2, hxy2, _, hxl2, hf2⟩ := DataW.trod_struct Tryz.underlying47 g3
    match zs, hxl2 with
    | [z0, z1, z2, z3], _ =>
    have i0 := hf2 0 _ rfl
    have i1 := hf2 1 _ rfl
    have i2 := hf2 2 _ rfl
    have i3 := hf2 3 _ rfl
    simp [cells3, cells2, cellsU, cellsB] at i0 i1 i2 i3
    obtain ⟨u, q3, _, wu⟩ := DataW.trod_int Tryz.underlying24 i0
    obtain ⟨d, q4, _, wd⟩ := DataW.trod_int Tryz.underlying2 i1
    obtain ⟨f, q5, _, wf⟩ := DataW.trod_int Tryz.underlying3 i2
    obtain ⟨A, m, c, l, q6, hB, hn, hwt⟩ := oct_in i3
    simp only [List.cons.injEq, and_true] at q0 q1 q2 q3 q4 q5 q6
    subst q0 q1 q2 q3 q4 q5 q6
    have be := u32_bounds we
    have bu := u32_bounds wu
    obtain ⟨en, rfl⟩ := Int.eq_ofNat_of_zero_le be.1
    obtain ⟨un, rfl⟩ := Int.eq_ofNat_of_zero_le bu.1
    refine ⟨(kk, ⟨⟨0, en, s, un, d, f, l⟩, 0, A, m, c⟩), ⟨by show en < _; omega, by show un < _; omega⟩, rfl, ⟨hB, hn⟩, fun R hR => hR s.size ?_⟩
    rw [show x.1 = .agg [y0.1, y1.1, y2.1, y3.1] from congrArg Prod.fst hxy, show y2.1 = .lit (.string s.data.toList) from congrArg Prod.fst r2]
    simp only [DataW.weights, Tryz.underlying51, List.map_cons, List.map_nil, DataW.weightsEach]
    simp
/-- Notes that came in. -/
theorem notes_in {H : Type} {enc : TypeId × Value → H} {W : World} {A0 : Option Addr} {N0 C0 : Nat} {d0 : DataW H} {p0 : List MemPlace} (h0 : DataW.Trod enc Tryz.prog W 0 (fun _ => true) true 29 (.slice A0 N0 C0) d0 p0) (hw : ∀ m ∈ DataW.weights Tryz.prog 29 d0, m ≤ 140737488355328) :
    ∃ zs, RdZ W A0 N0 zs ∧ N0 ≤ C0 ∧ ∀ z ∈ zs, z.2.n.e < 4294967296 ∧ z.2.n.u < 4294967296 ∧ z.2.n.s.size ≤ 140737488355328 := by
  obtain ⟨fuel, hf⟩ := h0
  rcases open_slice Tryz.underlying29 hf with ⟨hcs, _⟩ | ⟨a, len, cap, m, n, D, Pl, hcs, _, hl, hm, hmm, hx, hel⟩
  · simp [Value.cells] at hcs
    obtain ⟨rfl, rfl, rfl⟩ := hcs
    exact ⟨[], RdZ.empty W, Nat.le_refl _, by simp⟩
  · simp [Value.cells] at hcs
    obtain ⟨rfl, rfl, rfl⟩ := hcs
    simp at hmm
    subst hmm
    rw [cellsN] at hel
    obtain ⟨b, o, spot⟩ := a
    have hspot : 0 < N0 → spot = none := by
      intro h
      obtain ⟨cs', h1, h2⟩ := hel 0 (by omega)
      obtain ⟨_, hl', hc'⟩ := World.cells?_some h1
      have := hc' 0 (by omega)
      have h4 : 0 < cs'.length := by omega
      rw [List.getElem?_eq_getElem h4] at this
      simpa [Addr.add] using World.cell?_spot this
    have hx1 : d0 = .slice ((List.range N0).map D) ((List.range (m - N0)).map fun j => D (N0 + j)) := congrArg Prod.fst hx
    by_cases hz : 0 < N0
    · have := hspot hz
      subst this
      obtain ⟨it, hit⟩ := choose_lt (α := Int × Y) (n := N0) (p := fun i z => (z.2.n.e < 4294967296 ∧ z.2.n.u < 4294967296) ∧ (∀ j u, (cZ z)[j]? = some u → W.cell? ⟨b, o + i * 7 + j, none⟩ = some u) ∧ Oct W z.2 ∧ ∀ R, (∀ k ∈ DataW.weights Tryz.prog 51 (D i), k ≤ R) → z.2.n.s.size ≤ R) (fun i hi => by
        obtain ⟨cs', h1, h2⟩ := hel i (by omega)
        rw [codec.add_none] at h1
        obtain ⟨_, hl', hc'⟩ := World.cells?_some h1
        obtain ⟨y, k1, rfl, k3, k4⟩ := znote_in hl' h2
        refine ⟨y, k1, fun j u hu => ?_, k3, k4⟩
        have hj := (List.getElem?_eq_some_iff.1 hu).1
        have := hc' j (by omega)
        rw [codec.add_none, hu] at this
        exact this)
      refine ⟨(List.range N0).map it, ⟨by simp, fun k hk => ⟨b, o, it k, rfl, by simp [hk], (hit k hk).2.1, (hit k hk).2.2.1⟩⟩, hl, fun y hy => ?_⟩
      obtain ⟨i, hi, rfl⟩ := List.mem_map.1 hy
      have hi' := List.mem_range.1 hi
      refine ⟨(hit i hi').1.1, (hit i hi').1.2, (hit i hi').2.2.2 _ fun k hk => hw k ?_⟩
      rw [hx1]
      simp only [DataW.weights, Tryz.underlying29]
      exact List.mem_cons_of_mem _ (List.mem_append.2 (.inl (weights_all _ _ (List.mem_map.2 ⟨i, hi, rfl⟩) k hk)))
    · obtain rfl : N0 = 0 := by omega
      exact ⟨[], ⟨rfl, fun k hk => by omega⟩, Nat.zero_le _, by simp⟩
end Go.Proofs.YtfmdhcjniikfdaaGreatDoor.cardPin
