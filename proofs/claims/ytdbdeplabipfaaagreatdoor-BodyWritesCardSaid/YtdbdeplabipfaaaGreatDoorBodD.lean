/- When a note is formed, as the document says. -/
import Derived.Test.YtdbdeplabipfaaaGreatDoorBodC
namespace Go.Proofs.YtdbdeplabipfaaaGreatDoor.bod
open Go.ChangeShapes Go.WideShapes Go.ChangeAt Go.RowKit
open Go.Proofs.YtdbdeplabipfaaaGreatDoor.codec (Bytes)
set_option linter.unusedVariables false
set_option linter.unusedSimpArgs false
set_option maxRecDepth 100000

theorem rFits_any (w : World) (u : Nat) (d f : Int) (A : Option Addr) (n c : Nat) :
    Calls Tryz.prog 20 #[.agg #[.int .u32 u, .int .i64 d, .int .i64 f, .slice A n c]] w fun e w' => e = .returned (.bool (fitsB d f n)) ∧ Below w.heap.size w w' := by
  by_cases h0 : 0 ≤ d
  rotate_left
  · have hE : fitsB d f n = false := by unfold fitsB; simp; omega
    rw [hE]
    have g0 : decide ((0 : Int) ≤ d) = false := decide_eq_false (by omega)
    clear hE h0
    go_enter Tryz.func20, Tryz.ntmps20
    go_wp2
    go_ret
    exact ⟨rfl, (Below.refl _ _).alloc (Nat.le_refl _) _⟩
  by_cases h1 : d ≤ 253402300799
  rotate_left
  · have hE : fitsB d f n = false := by unfold fitsB; simp; omega
    rw [hE]
    have g0 : decide ((0 : Int) ≤ d) = true := decide_eq_true (by omega)
    have g1 : decide (d ≤ 253402300799) = false := decide_eq_false (by omega)
    clear hE h0 h1
    go_enter Tryz.func20, Tryz.ntmps20
    go_wp2
    go_ret
    exact ⟨rfl, (Below.refl _ _).alloc (Nat.le_refl _) _⟩
  by_cases h2 : 0 ≤ f
  rotate_left
  · have hE : fitsB d f n = false := by unfold fitsB; simp; omega
    rw [hE]
    have g0 : decide ((0 : Int) ≤ d) = true := decide_eq_true (by omega)
    have g1 : decide (d ≤ 253402300799) = true := decide_eq_true (by omega)
    have g2 : decide ((0 : Int) ≤ f) = false := decide_eq_false (by omega)
    clear hE h0 h1 h2
    go_enter Tryz.func20, Tryz.ntmps20
    go_wp2
    go_ret
    exact ⟨rfl, (Below.refl _ _).alloc (Nat.le_refl _) _⟩
  by_cases h3 : f < 32
  rotate_left
  · have hE : fitsB d f n = false := by unfold fitsB; simp; omega
    rw [hE]
    have g0 : decide ((0 : Int) ≤ d) = true := decide_eq_true (by omega)
    have g1 : decide (d ≤ 253402300799) = true := decide_eq_true (by omega)
    have g2 : decide ((0 : Int) ≤ f) = true := decide_eq_true (by omega)
    have g3 : decide (f < 32) = false := decide_eq_false (by omega)
    clear hE h0 h1 h2 h3
    go_enter Tryz.func20, Tryz.ntmps20
    go_wp2
    go_ret
    exact ⟨rfl, (Below.refl _ _).alloc (Nat.le_refl _) _⟩
  by_cases h4 : n ≤ 20000
  rotate_left
  · have hE : fitsB d f n = false := by unfold fitsB; simp; omega
    rw [hE]
    have g0 : decide ((0 : Int) ≤ d) = true := decide_eq_true (by omega)
    have g1 : decide (d ≤ 253402300799) = true := decide_eq_true (by omega)
    have g2 : decide ((0 : Int) ≤ f) = true := decide_eq_true (by omega)
    have g3 : decide (f < 32) = true := decide_eq_true (by omega)
    have g4 : decide ((n : Int) ≤ 20000) = false := decide_eq_false (by omega)
    clear hE h0 h1 h2 h3 h4
    go_enter Tryz.func20, Tryz.ntmps20
    go_wp2
    go_ret
    exact ⟨rfl, (Below.refl _ _).alloc (Nat.le_refl _) _⟩
  have hE : fitsB d f n = true := by unfold fitsB; simp; omega
  rw [hE]
  have g0 : decide ((0 : Int) ≤ d) = true := decide_eq_true (by omega)
  have g1 : decide (d ≤ 253402300799) = true := decide_eq_true (by omega)
  have g2 : decide ((0 : Int) ≤ f) = true := decide_eq_true (by omega)
  have g3 : decide (f < 32) = true := decide_eq_true (by omega)
  have g4 : decide ((n : Int) ≤ 20000) = true := decide_eq_true (by omega)
  clear hE h0 h1 h2 h3 h4
  go_enter Tryz.func20, Tryz.ntmps20
  go_wp2
  go_ret
  exact ⟨rfl, (Below.refl _ _).alloc (Nat.le_refl _) _⟩
theorem rFormed1d (w : World) (e u : Nat) (s : ByteArray) (d f : Int) (A : Option Addr) (n c : Nat) (hs : s.size ≤ 100000) (hd : (d == 0) = false) (hE : emptyB d f n = false) :
    Calls Tryz.prog 8 #[.agg #[.int .i64 1, .int .u32 e, .string s, .int .u32 u, .int .i64 d, .int .i64 f, .slice A n c]] w fun x w' => x = .returned (.bool (formedB 1 e s u d f n)) ∧ Below w.heap.size w w' := by
  rw [formed_one, hE]
  clear hE
  by_cases he : e = 0
  · subst he
    rw [decide_eq_false (by omega)]
    go_enter Tryz.func8, Tryz.ntmps8
    go_wp2_with (first
      | fail)
    go_ret
    exact ⟨rfl, (Below.refl _ _).alloc (Nat.le_refl _) _⟩
  · have he1 : decide (0 < e) = true := decide_eq_true (by omega)
    rw [decide_eq_true he]
    clear he
    have hN := fun w => rNamed_any w s hs
    generalize named s = M at *
    have HN := Lib.hid hN
    clear hN hs
    cases M
    · go_enter Tryz.func8, Tryz.ntmps8
      go_wp2_with (first
        | (go_at_call 19; refine (HN.out _).mono ?_; rintro x w1 ⟨rfl, hb⟩; have HB1 := Lib.hid (boxed hb); have h3 := cell_at HB1.out.1 3 _ rfl; have h4 := cell_at HB1.out.1 4 _ rfl; have h5 := cell_at HB1.out.1 5 _ rfl; have h6 := cell_at HB1.out.1 6 _ rfl; clear hb))
      go_ret
      exact ⟨rfl, HB1.out.2⟩
    · by_cases hu : u = 0
      · subst hu
        rw [decide_eq_true rfl]
        go_enter Tryz.func8, Tryz.ntmps8
        go_wp2_with (first
          | (go_at_call 19; refine (HN.out _).mono ?_; rintro x w1 ⟨rfl, hb⟩; have HB1 := Lib.hid (boxed hb); have h3 := cell_at HB1.out.1 3 _ rfl; have h4 := cell_at HB1.out.1 4 _ rfl; have h5 := cell_at HB1.out.1 5 _ rfl; have h6 := cell_at HB1.out.1 6 _ rfl; clear hb))
        go_ret
        exact ⟨rfl, HB1.out.2⟩
      · have hu1 : ((u : Int) == 0) = false := by rw [beq_eq_false_iff_ne]; omega
        rw [decide_eq_false hu]
        clear hu
        go_enter Tryz.func8, Tryz.ntmps8
        go_wp2_with (first
          | (go_at_call 19; refine (HN.out _).mono ?_; rintro x w1 ⟨rfl, hb⟩; have HB1 := Lib.hid (boxed hb); have h3 := cell_at HB1.out.1 3 _ rfl; have h4 := cell_at HB1.out.1 4 _ rfl; have h5 := cell_at HB1.out.1 5 _ rfl; have h6 := cell_at HB1.out.1 6 _ rfl; clear hb))
        go_ret
        exact ⟨rfl, HB1.out.2⟩
theorem rFormed1f (w : World) (e u : Nat) (s : ByteArray) (d f : Int) (A : Option Addr) (n c : Nat) (hs : s.size ≤ 100000) (hd : (d == 0) = true) (hf : (f == 0) = false) (hE : emptyB d f n = false) :
    Calls Tryz.prog 8 #[.agg #[.int .i64 1, .int .u32 e, .string s, .int .u32 u, .int .i64 d, .int .i64 f, .slice A n c]] w fun x w' => x = .returned (.bool (formedB 1 e s u d f n)) ∧ Below w.heap.size w w' := by
  rw [formed_one, hE]
  clear hE
  by_cases he : e = 0
  · subst he
    rw [decide_eq_false (by omega)]
    go_enter Tryz.func8, Tryz.ntmps8
    go_wp2_with (first
      | fail)
    go_ret
    exact ⟨rfl, (Below.refl _ _).alloc (Nat.le_refl _) _⟩
  · have he1 : decide (0 < e) = true := decide_eq_true (by omega)
    rw [decide_eq_true he]
    clear he
    have hN := fun w => rNamed_any w s hs
    generalize named s = M at *
    have HN := Lib.hid hN
    clear hN hs
    cases M
    · go_enter Tryz.func8, Tryz.ntmps8
      go_wp2_with (first
        | (go_at_call 19; refine (HN.out _).mono ?_; rintro x w1 ⟨rfl, hb⟩; have HB1 := Lib.hid (boxed hb); have h3 := cell_at HB1.out.1 3 _ rfl; have h4 := cell_at HB1.out.1 4 _ rfl; have h5 := cell_at HB1.out.1 5 _ rfl; have h6 := cell_at HB1.out.1 6 _ rfl; clear hb))
      go_ret
      exact ⟨rfl, HB1.out.2⟩
    · by_cases hu : u = 0
      · subst hu
        rw [decide_eq_true rfl]
        go_enter Tryz.func8, Tryz.ntmps8
        go_wp2_with (first
          | (go_at_call 19; refine (HN.out _).mono ?_; rintro x w1 ⟨rfl, hb⟩; have HB1 := Lib.hid (boxed hb); have h3 := cell_at HB1.out.1 3 _ rfl; have h4 := cell_at HB1.out.1 4 _ rfl; have h5 := cell_at HB1.out.1 5 _ rfl; have h6 := cell_at HB1.out.1 6 _ rfl; clear hb))
        go_ret
        exact ⟨rfl, HB1.out.2⟩
      · have hu1 : ((u : Int) == 0) = false := by rw [beq_eq_false_iff_ne]; omega
        rw [decide_eq_false hu]
        clear hu
        go_enter Tryz.func8, Tryz.ntmps8
        go_wp2_with (first
          | (go_at_call 19; refine (HN.out _).mono ?_; rintro x w1 ⟨rfl, hb⟩; have HB1 := Lib.hid (boxed hb); have h3 := cell_at HB1.out.1 3 _ rfl; have h4 := cell_at HB1.out.1 4 _ rfl; have h5 := cell_at HB1.out.1 5 _ rfl; have h6 := cell_at HB1.out.1 6 _ rfl; clear hb))
        go_ret
        exact ⟨rfl, HB1.out.2⟩
theorem rFormed1n (w : World) (e u : Nat) (s : ByteArray) (d f : Int) (A : Option Addr) (n c : Nat) (hs : s.size ≤ 100000) (hd : (d == 0) = true) (hf : (f == 0) = true) (hn : ((n : Int) == 0) = false) (hE : emptyB d f n = false) :
    Calls Tryz.prog 8 #[.agg #[.int .i64 1, .int .u32 e, .string s, .int .u32 u, .int .i64 d, .int .i64 f, .slice A n c]] w fun x w' => x = .returned (.bool (formedB 1 e s u d f n)) ∧ Below w.heap.size w w' := by
  rw [formed_one, hE]
  clear hE
  by_cases he : e = 0
  · subst he
    rw [decide_eq_false (by omega)]
    go_enter Tryz.func8, Tryz.ntmps8
    go_wp2_with (first
      | fail)
    go_ret
    exact ⟨rfl, (Below.refl _ _).alloc (Nat.le_refl _) _⟩
  · have he1 : decide (0 < e) = true := decide_eq_true (by omega)
    rw [decide_eq_true he]
    clear he
    have hN := fun w => rNamed_any w s hs
    generalize named s = M at *
    have HN := Lib.hid hN
    clear hN hs
    cases M
    · go_enter Tryz.func8, Tryz.ntmps8
      go_wp2_with (first
        | (go_at_call 19; refine (HN.out _).mono ?_; rintro x w1 ⟨rfl, hb⟩; have HB1 := Lib.hid (boxed hb); have h3 := cell_at HB1.out.1 3 _ rfl; have h4 := cell_at HB1.out.1 4 _ rfl; have h5 := cell_at HB1.out.1 5 _ rfl; have h6 := cell_at HB1.out.1 6 _ rfl; clear hb))
      go_ret
      exact ⟨rfl, HB1.out.2⟩
    · by_cases hu : u = 0
      · subst hu
        rw [decide_eq_true rfl]
        go_enter Tryz.func8, Tryz.ntmps8
        go_wp2_with (first
          | (go_at_call 19; refine (HN.out _).mono ?_; rintro x w1 ⟨rfl, hb⟩; have HB1 := Lib.hid (boxed hb); have h3 := cell_at HB1.out.1 3 _ rfl; have h4 := cell_at HB1.out.1 4 _ rfl; have h5 := cell_at HB1.out.1 5 _ rfl; have h6 := cell_at HB1.out.1 6 _ rfl; clear hb))
        go_ret
        exact ⟨rfl, HB1.out.2⟩
      · have hu1 : ((u : Int) == 0) = false := by rw [beq_eq_false_iff_ne]; omega
        rw [decide_eq_false hu]
        clear hu
        go_enter Tryz.func8, Tryz.ntmps8
        go_wp2_with (first
          | (go_at_call 19; refine (HN.out _).mono ?_; rintro x w1 ⟨rfl, hb⟩; have HB1 := Lib.hid (boxed hb); have h3 := cell_at HB1.out.1 3 _ rfl; have h4 := cell_at HB1.out.1 4 _ rfl; have h5 := cell_at HB1.out.1 5 _ rfl; have h6 := cell_at HB1.out.1 6 _ rfl; clear hb))
        go_ret
        exact ⟨rfl, HB1.out.2⟩
theorem rFormed1a (w : World) (e u : Nat) (s : ByteArray) (d f : Int) (A : Option Addr) (n c : Nat) (hs : s.size ≤ 100000) (hd : (d == 0) = true) (hf : (f == 0) = true) (hn : ((n : Int) == 0) = true) (hE : emptyB d f n = true) :
    Calls Tryz.prog 8 #[.agg #[.int .i64 1, .int .u32 e, .string s, .int .u32 u, .int .i64 d, .int .i64 f, .slice A n c]] w fun x w' => x = .returned (.bool (formedB 1 e s u d f n)) ∧ Below w.heap.size w w' := by
  rw [formed_one, hE]
  clear hE
  by_cases he : e = 0
  · subst he
    rw [decide_eq_false (by omega)]
    go_enter Tryz.func8, Tryz.ntmps8
    go_wp2_with (first
      | fail)
    go_ret
    exact ⟨rfl, (Below.refl _ _).alloc (Nat.le_refl _) _⟩
  · have he1 : decide (0 < e) = true := decide_eq_true (by omega)
    rw [decide_eq_true he]
    clear he
    have hN := fun w => rNamed_any w s hs
    generalize named s = M at *
    have HN := Lib.hid hN
    clear hN hs
    cases M
    · go_enter Tryz.func8, Tryz.ntmps8
      go_wp2_with (first
        | (go_at_call 19; refine (HN.out _).mono ?_; rintro x w1 ⟨rfl, hb⟩; have HB1 := Lib.hid (boxed hb); have h3 := cell_at HB1.out.1 3 _ rfl; have h4 := cell_at HB1.out.1 4 _ rfl; have h5 := cell_at HB1.out.1 5 _ rfl; have h6 := cell_at HB1.out.1 6 _ rfl; clear hb))
      go_ret
      exact ⟨rfl, HB1.out.2⟩
    · by_cases hu : u = 0
      · subst hu
        rw [decide_eq_true rfl]
        go_enter Tryz.func8, Tryz.ntmps8
        go_wp2_with (first
          | (go_at_call 19; refine (HN.out _).mono ?_; rintro x w1 ⟨rfl, hb⟩; have HB1 := Lib.hid (boxed hb); have h3 := cell_at HB1.out.1 3 _ rfl; have h4 := cell_at HB1.out.1 4 _ rfl; have h5 := cell_at HB1.out.1 5 _ rfl; have h6 := cell_at HB1.out.1 6 _ rfl; clear hb))
        go_ret
        exact ⟨rfl, HB1.out.2⟩
      · have hu1 : ((u : Int) == 0) = false := by rw [beq_eq_false_iff_ne]; omega
        rw [decide_eq_false hu]
        clear hu
        go_enter Tryz.func8, Tryz.ntmps8
        go_wp2_with (first
          | (go_at_call 19; refine (HN.out _).mono ?_; rintro x w1 ⟨rfl, hb⟩; have HB1 := Lib.hid (boxed hb); have h3 := cell_at HB1.out.1 3 _ rfl; have h4 := cell_at HB1.out.1 4 _ rfl; have h5 := cell_at HB1.out.1 5 _ rfl; have h6 := cell_at HB1.out.1 6 _ rfl; clear hb))
        go_ret
        exact ⟨rfl, HB1.out.2⟩
theorem rFormed2d (w : World) (e u : Nat) (s : ByteArray) (d f : Int) (A : Option Addr) (n c : Nat) (hs : s.size ≤ 100000) (hd : (d == 0) = false) (hE : emptyB d f n = false) :
    Calls Tryz.prog 8 #[.agg #[.int .i64 2, .int .u32 e, .string s, .int .u32 u, .int .i64 d, .int .i64 f, .slice A n c]] w fun x w' => x = .returned (.bool (formedB 2 e s u d f n)) ∧ Below w.heap.size w w' := by
  rw [formed_two]
  clear hE
  have hL := fun w => rFits_any w u d f A n c
  generalize fitsB d f n = E at *
  have HL := Lib.hid hL
  clear hL
  by_cases he : e = 0
  · subst he
    rw [decide_eq_false (by omega)]
    go_enter Tryz.func8, Tryz.ntmps8
    go_wp2_with (first
      | fail)
    go_ret
    exact ⟨rfl, (Below.refl _ _).alloc (Nat.le_refl _) _⟩
  · have he1 : decide (0 < e) = true := decide_eq_true (by omega)
    rw [decide_eq_true he]
    clear he
    have hN := fun w => rNamed_any w s hs
    generalize named s = M at *
    have HN := Lib.hid hN
    clear hN hs
    cases M
    · go_enter Tryz.func8, Tryz.ntmps8
      go_wp2_with (first
        | (go_at_call 19; refine (HN.out _).mono ?_; rintro x w1 ⟨rfl, hb⟩; have HB1 := Lib.hid (boxed hb); have h3 := cell_at HB1.out.1 3 _ rfl; have h4 := cell_at HB1.out.1 4 _ rfl; have h5 := cell_at HB1.out.1 5 _ rfl; have h6 := cell_at HB1.out.1 6 _ rfl; clear hb))
      go_ret
      exact ⟨rfl, HB1.out.2⟩
    · by_cases hu : u = 0
      · subst hu
        rw [decide_eq_false (by omega)]
        go_enter Tryz.func8, Tryz.ntmps8
        go_wp2_with (first
          | (go_at_call 19; refine (HN.out _).mono ?_; rintro x w1 ⟨rfl, hb⟩; have HB1 := Lib.hid (boxed hb); have h3 := cell_at HB1.out.1 3 _ rfl; have h4 := cell_at HB1.out.1 4 _ rfl; have h5 := cell_at HB1.out.1 5 _ rfl; have h6 := cell_at HB1.out.1 6 _ rfl; clear hb))
        go_ret
        exact ⟨rfl, HB1.out.2⟩
      · have hu1 : decide (0 < u) = true := decide_eq_true (by omega)
        rw [decide_eq_true hu]
        clear hu
        go_enter Tryz.func8, Tryz.ntmps8
        go_wp2_with (first
          | (go_at_call 19; refine (HN.out _).mono ?_; rintro x w1 ⟨rfl, hb⟩; have HB1 := Lib.hid (boxed hb); have h3 := cell_at HB1.out.1 3 _ rfl; have h4 := cell_at HB1.out.1 4 _ rfl; have h5 := cell_at HB1.out.1 5 _ rfl; have h6 := cell_at HB1.out.1 6 _ rfl; clear hb)
          | (go_at_call 20; refine (HL.out _).mono ?_; rintro x w2 ⟨rfl, hb2⟩; have HB2 := Lib.hid (HB1.out.2.trans (hb2.mono HB1.out.2.size)); clear hb2))
        go_ret
        exact ⟨rfl, HB2.out⟩
theorem rFormed2f (w : World) (e u : Nat) (s : ByteArray) (d f : Int) (A : Option Addr) (n c : Nat) (hs : s.size ≤ 100000) (hd : (d == 0) = true) (hf : (f == 0) = false) (hE : emptyB d f n = false) :
    Calls Tryz.prog 8 #[.agg #[.int .i64 2, .int .u32 e, .string s, .int .u32 u, .int .i64 d, .int .i64 f, .slice A n c]] w fun x w' => x = .returned (.bool (formedB 2 e s u d f n)) ∧ Below w.heap.size w w' := by
  rw [formed_two]
  clear hE
  have hL := fun w => rFits_any w u d f A n c
  generalize fitsB d f n = E at *
  have HL := Lib.hid hL
  clear hL
  by_cases he : e = 0
  · subst he
    rw [decide_eq_false (by omega)]
    go_enter Tryz.func8, Tryz.ntmps8
    go_wp2_with (first
      | fail)
    go_ret
    exact ⟨rfl, (Below.refl _ _).alloc (Nat.le_refl _) _⟩
  · have he1 : decide (0 < e) = true := decide_eq_true (by omega)
    rw [decide_eq_true he]
    clear he
    have hN := fun w => rNamed_any w s hs
    generalize named s = M at *
    have HN := Lib.hid hN
    clear hN hs
    cases M
    · go_enter Tryz.func8, Tryz.ntmps8
      go_wp2_with (first
        | (go_at_call 19; refine (HN.out _).mono ?_; rintro x w1 ⟨rfl, hb⟩; have HB1 := Lib.hid (boxed hb); have h3 := cell_at HB1.out.1 3 _ rfl; have h4 := cell_at HB1.out.1 4 _ rfl; have h5 := cell_at HB1.out.1 5 _ rfl; have h6 := cell_at HB1.out.1 6 _ rfl; clear hb))
      go_ret
      exact ⟨rfl, HB1.out.2⟩
    · by_cases hu : u = 0
      · subst hu
        rw [decide_eq_false (by omega)]
        go_enter Tryz.func8, Tryz.ntmps8
        go_wp2_with (first
          | (go_at_call 19; refine (HN.out _).mono ?_; rintro x w1 ⟨rfl, hb⟩; have HB1 := Lib.hid (boxed hb); have h3 := cell_at HB1.out.1 3 _ rfl; have h4 := cell_at HB1.out.1 4 _ rfl; have h5 := cell_at HB1.out.1 5 _ rfl; have h6 := cell_at HB1.out.1 6 _ rfl; clear hb))
        go_ret
        exact ⟨rfl, HB1.out.2⟩
      · have hu1 : decide (0 < u) = true := decide_eq_true (by omega)
        rw [decide_eq_true hu]
        clear hu
        go_enter Tryz.func8, Tryz.ntmps8
        go_wp2_with (first
          | (go_at_call 19; refine (HN.out _).mono ?_; rintro x w1 ⟨rfl, hb⟩; have HB1 := Lib.hid (boxed hb); have h3 := cell_at HB1.out.1 3 _ rfl; have h4 := cell_at HB1.out.1 4 _ rfl; have h5 := cell_at HB1.out.1 5 _ rfl; have h6 := cell_at HB1.out.1 6 _ rfl; clear hb)
          | (go_at_call 20; refine (HL.out _).mono ?_; rintro x w2 ⟨rfl, hb2⟩; have HB2 := Lib.hid (HB1.out.2.trans (hb2.mono HB1.out.2.size)); clear hb2))
        go_ret
        exact ⟨rfl, HB2.out⟩
theorem rFormed2n (w : World) (e u : Nat) (s : ByteArray) (d f : Int) (A : Option Addr) (n c : Nat) (hs : s.size ≤ 100000) (hd : (d == 0) = true) (hf : (f == 0) = true) (hn : ((n : Int) == 0) = false) (hE : emptyB d f n = false) :
    Calls Tryz.prog 8 #[.agg #[.int .i64 2, .int .u32 e, .string s, .int .u32 u, .int .i64 d, .int .i64 f, .slice A n c]] w fun x w' => x = .returned (.bool (formedB 2 e s u d f n)) ∧ Below w.heap.size w w' := by
  rw [formed_two]
  clear hE
  have hL := fun w => rFits_any w u d f A n c
  generalize fitsB d f n = E at *
  have HL := Lib.hid hL
  clear hL
  by_cases he : e = 0
  · subst he
    rw [decide_eq_false (by omega)]
    go_enter Tryz.func8, Tryz.ntmps8
    go_wp2_with (first
      | fail)
    go_ret
    exact ⟨rfl, (Below.refl _ _).alloc (Nat.le_refl _) _⟩
  · have he1 : decide (0 < e) = true := decide_eq_true (by omega)
    rw [decide_eq_true he]
    clear he
    have hN := fun w => rNamed_any w s hs
    generalize named s = M at *
    have HN := Lib.hid hN
    clear hN hs
    cases M
    · go_enter Tryz.func8, Tryz.ntmps8
      go_wp2_with (first
        | (go_at_call 19; refine (HN.out _).mono ?_; rintro x w1 ⟨rfl, hb⟩; have HB1 := Lib.hid (boxed hb); have h3 := cell_at HB1.out.1 3 _ rfl; have h4 := cell_at HB1.out.1 4 _ rfl; have h5 := cell_at HB1.out.1 5 _ rfl; have h6 := cell_at HB1.out.1 6 _ rfl; clear hb))
      go_ret
      exact ⟨rfl, HB1.out.2⟩
    · by_cases hu : u = 0
      · subst hu
        rw [decide_eq_false (by omega)]
        go_enter Tryz.func8, Tryz.ntmps8
        go_wp2_with (first
          | (go_at_call 19; refine (HN.out _).mono ?_; rintro x w1 ⟨rfl, hb⟩; have HB1 := Lib.hid (boxed hb); have h3 := cell_at HB1.out.1 3 _ rfl; have h4 := cell_at HB1.out.1 4 _ rfl; have h5 := cell_at HB1.out.1 5 _ rfl; have h6 := cell_at HB1.out.1 6 _ rfl; clear hb))
        go_ret
        exact ⟨rfl, HB1.out.2⟩
      · have hu1 : decide (0 < u) = true := decide_eq_true (by omega)
        rw [decide_eq_true hu]
        clear hu
        go_enter Tryz.func8, Tryz.ntmps8
        go_wp2_with (first
          | (go_at_call 19; refine (HN.out _).mono ?_; rintro x w1 ⟨rfl, hb⟩; have HB1 := Lib.hid (boxed hb); have h3 := cell_at HB1.out.1 3 _ rfl; have h4 := cell_at HB1.out.1 4 _ rfl; have h5 := cell_at HB1.out.1 5 _ rfl; have h6 := cell_at HB1.out.1 6 _ rfl; clear hb)
          | (go_at_call 20; refine (HL.out _).mono ?_; rintro x w2 ⟨rfl, hb2⟩; have HB2 := Lib.hid (HB1.out.2.trans (hb2.mono HB1.out.2.size)); clear hb2))
        go_ret
        exact ⟨rfl, HB2.out⟩
theorem rFormed2a (w : World) (e u : Nat) (s : ByteArray) (d f : Int) (A : Option Addr) (n c : Nat) (hs : s.size ≤ 100000) (hd : (d == 0) = true) (hf : (f == 0) = true) (hn : ((n : Int) == 0) = true) (hE : emptyB d f n = true) :
    Calls Tryz.prog 8 #[.agg #[.int .i64 2, .int .u32 e, .string s, .int .u32 u, .int .i64 d, .int .i64 f, .slice A n c]] w fun x w' => x = .returned (.bool (formedB 2 e s u d f n)) ∧ Below w.heap.size w w' := by
  rw [formed_two]
  clear hE
  have hL := fun w => rFits_any w u d f A n c
  generalize fitsB d f n = E at *
  have HL := Lib.hid hL
  clear hL
  by_cases he : e = 0
  · subst he
    rw [decide_eq_false (by omega)]
    go_enter Tryz.func8, Tryz.ntmps8
    go_wp2_with (first
      | fail)
    go_ret
    exact ⟨rfl, (Below.refl _ _).alloc (Nat.le_refl _) _⟩
  · have he1 : decide (0 < e) = true := decide_eq_true (by omega)
    rw [decide_eq_true he]
    clear he
    have hN := fun w => rNamed_any w s hs
    generalize named s = M at *
    have HN := Lib.hid hN
    clear hN hs
    cases M
    · go_enter Tryz.func8, Tryz.ntmps8
      go_wp2_with (first
        | (go_at_call 19; refine (HN.out _).mono ?_; rintro x w1 ⟨rfl, hb⟩; have HB1 := Lib.hid (boxed hb); have h3 := cell_at HB1.out.1 3 _ rfl; have h4 := cell_at HB1.out.1 4 _ rfl; have h5 := cell_at HB1.out.1 5 _ rfl; have h6 := cell_at HB1.out.1 6 _ rfl; clear hb))
      go_ret
      exact ⟨rfl, HB1.out.2⟩
    · by_cases hu : u = 0
      · subst hu
        rw [decide_eq_false (by omega)]
        go_enter Tryz.func8, Tryz.ntmps8
        go_wp2_with (first
          | (go_at_call 19; refine (HN.out _).mono ?_; rintro x w1 ⟨rfl, hb⟩; have HB1 := Lib.hid (boxed hb); have h3 := cell_at HB1.out.1 3 _ rfl; have h4 := cell_at HB1.out.1 4 _ rfl; have h5 := cell_at HB1.out.1 5 _ rfl; have h6 := cell_at HB1.out.1 6 _ rfl; clear hb))
        go_ret
        exact ⟨rfl, HB1.out.2⟩
      · have hu1 : decide (0 < u) = true := decide_eq_true (by omega)
        rw [decide_eq_true hu]
        clear hu
        go_enter Tryz.func8, Tryz.ntmps8
        go_wp2_with (first
          | (go_at_call 19; refine (HN.out _).mono ?_; rintro x w1 ⟨rfl, hb⟩; have HB1 := Lib.hid (boxed hb); have h3 := cell_at HB1.out.1 3 _ rfl; have h4 := cell_at HB1.out.1 4 _ rfl; have h5 := cell_at HB1.out.1 5 _ rfl; have h6 := cell_at HB1.out.1 6 _ rfl; clear hb)
          | (go_at_call 20; refine (HL.out _).mono ?_; rintro x w2 ⟨rfl, hb2⟩; have HB2 := Lib.hid (HB1.out.2.trans (hb2.mono HB1.out.2.size)); clear hb2))
        go_ret
        exact ⟨rfl, HB2.out⟩
theorem rFormed3d (w : World) (e u : Nat) (s : ByteArray) (d f : Int) (A : Option Addr) (n c : Nat) (hs : s.size ≤ 100000) (hd : (d == 0) = false) (hE : emptyB d f n = false) :
    Calls Tryz.prog 8 #[.agg #[.int .i64 3, .int .u32 e, .string s, .int .u32 u, .int .i64 d, .int .i64 f, .slice A n c]] w fun x w' => x = .returned (.bool (formedB 3 e s u d f n)) ∧ Below w.heap.size w w' := by
  rw [formed_three, hE]
  clear hE
  by_cases he : e = 0
  · subst he
    rw [decide_eq_false (by omega)]
    go_enter Tryz.func8, Tryz.ntmps8
    go_wp2_with (first
      | fail)
    go_ret
    exact ⟨rfl, (Below.refl _ _).alloc (Nat.le_refl _) _⟩
  · have he1 : decide (0 < e) = true := decide_eq_true (by omega)
    rw [decide_eq_true he]
    clear he
    by_cases hz : s.size = 0
    · have hs1 : s.toList.isEmpty = true := by
        have : s.data = #[] := Array.eq_empty_of_size_eq_zero hz
        simp [ByteArray.toList_eq, this]
      rw [decide_eq_true hz]
      clear hz hs
      by_cases hu : u = 0
      · subst hu
        rw [decide_eq_false (by omega)]
        go_enter Tryz.func8, Tryz.ntmps8
        go_wp2_with (first
          | fail)
        go_ret
        exact ⟨rfl, (Below.refl _ _).alloc (Nat.le_refl _) _⟩
      · have hu1 : decide (0 < u) = true := decide_eq_true (by omega)
        rw [decide_eq_true hu]
        clear hu
        go_enter Tryz.func8, Tryz.ntmps8
        go_wp2_with (first
          | fail)
        go_ret
        exact ⟨rfl, (Below.refl _ _).alloc (Nat.le_refl _) _⟩
    · have hs1 : s.toList.isEmpty = false := by
        rw [Bool.eq_false_iff]
        intro h
        rw [ByteArray.toList_eq] at h
        have h' : s.data = #[] := by simpa using h
        exact hz (by show s.data.size = 0; rw [h']; rfl)
      rw [decide_eq_false hz]
      clear hz hs
      go_enter Tryz.func8, Tryz.ntmps8
      go_wp2_with (first
        | fail)
      go_ret
      exact ⟨rfl, (Below.refl _ _).alloc (Nat.le_refl _) _⟩
theorem rFormed3f (w : World) (e u : Nat) (s : ByteArray) (d f : Int) (A : Option Addr) (n c : Nat) (hs : s.size ≤ 100000) (hd : (d == 0) = true) (hf : (f == 0) = false) (hE : emptyB d f n = false) :
    Calls Tryz.prog 8 #[.agg #[.int .i64 3, .int .u32 e, .string s, .int .u32 u, .int .i64 d, .int .i64 f, .slice A n c]] w fun x w' => x = .returned (.bool (formedB 3 e s u d f n)) ∧ Below w.heap.size w w' := by
  rw [formed_three, hE]
  clear hE
  by_cases he : e = 0
  · subst he
    rw [decide_eq_false (by omega)]
    go_enter Tryz.func8, Tryz.ntmps8
    go_wp2_with (first
      | fail)
    go_ret
    exact ⟨rfl, (Below.refl _ _).alloc (Nat.le_refl _) _⟩
  · have he1 : decide (0 < e) = true := decide_eq_true (by omega)
    rw [decide_eq_true he]
    clear he
    by_cases hz : s.size = 0
    · have hs1 : s.toList.isEmpty = true := by
        have : s.data = #[] := Array.eq_empty_of_size_eq_zero hz
        simp [ByteArray.toList_eq, this]
      rw [decide_eq_true hz]
      clear hz hs
      by_cases hu : u = 0
      · subst hu
        rw [decide_eq_false (by omega)]
        go_enter Tryz.func8, Tryz.ntmps8
        go_wp2_with (first
          | fail)
        go_ret
        exact ⟨rfl, (Below.refl _ _).alloc (Nat.le_refl _) _⟩
      · have hu1 : decide (0 < u) = true := decide_eq_true (by omega)
        rw [decide_eq_true hu]
        clear hu
        go_enter Tryz.func8, Tryz.ntmps8
        go_wp2_with (first
          | fail)
        go_ret
        exact ⟨rfl, (Below.refl _ _).alloc (Nat.le_refl _) _⟩
    · have hs1 : s.toList.isEmpty = false := by
        rw [Bool.eq_false_iff]
        intro h
        rw [ByteArray.toList_eq] at h
        have h' : s.data = #[] := by simpa using h
        exact hz (by show s.data.size = 0; rw [h']; rfl)
      rw [decide_eq_false hz]
      clear hz hs
      go_enter Tryz.func8, Tryz.ntmps8
      go_wp2_with (first
        | fail)
      go_ret
      exact ⟨rfl, (Below.refl _ _).alloc (Nat.le_refl _) _⟩
theorem rFormed3n (w : World) (e u : Nat) (s : ByteArray) (d f : Int) (A : Option Addr) (n c : Nat) (hs : s.size ≤ 100000) (hd : (d == 0) = true) (hf : (f == 0) = true) (hn : ((n : Int) == 0) = false) (hE : emptyB d f n = false) :
    Calls Tryz.prog 8 #[.agg #[.int .i64 3, .int .u32 e, .string s, .int .u32 u, .int .i64 d, .int .i64 f, .slice A n c]] w fun x w' => x = .returned (.bool (formedB 3 e s u d f n)) ∧ Below w.heap.size w w' := by
  rw [formed_three, hE]
  clear hE
  by_cases he : e = 0
  · subst he
    rw [decide_eq_false (by omega)]
    go_enter Tryz.func8, Tryz.ntmps8
    go_wp2_with (first
      | fail)
    go_ret
    exact ⟨rfl, (Below.refl _ _).alloc (Nat.le_refl _) _⟩
  · have he1 : decide (0 < e) = true := decide_eq_true (by omega)
    rw [decide_eq_true he]
    clear he
    by_cases hz : s.size = 0
    · have hs1 : s.toList.isEmpty = true := by
        have : s.data = #[] := Array.eq_empty_of_size_eq_zero hz
        simp [ByteArray.toList_eq, this]
      rw [decide_eq_true hz]
      clear hz hs
      by_cases hu : u = 0
      · subst hu
        rw [decide_eq_false (by omega)]
        go_enter Tryz.func8, Tryz.ntmps8
        go_wp2_with (first
          | fail)
        go_ret
        exact ⟨rfl, (Below.refl _ _).alloc (Nat.le_refl _) _⟩
      · have hu1 : decide (0 < u) = true := decide_eq_true (by omega)
        rw [decide_eq_true hu]
        clear hu
        go_enter Tryz.func8, Tryz.ntmps8
        go_wp2_with (first
          | fail)
        go_ret
        exact ⟨rfl, (Below.refl _ _).alloc (Nat.le_refl _) _⟩
    · have hs1 : s.toList.isEmpty = false := by
        rw [Bool.eq_false_iff]
        intro h
        rw [ByteArray.toList_eq] at h
        have h' : s.data = #[] := by simpa using h
        exact hz (by show s.data.size = 0; rw [h']; rfl)
      rw [decide_eq_false hz]
      clear hz hs
      go_enter Tryz.func8, Tryz.ntmps8
      go_wp2_with (first
        | fail)
      go_ret
      exact ⟨rfl, (Below.refl _ _).alloc (Nat.le_refl _) _⟩
theorem rFormed3a (w : World) (e u : Nat) (s : ByteArray) (d f : Int) (A : Option Addr) (n c : Nat) (hs : s.size ≤ 100000) (hd : (d == 0) = true) (hf : (f == 0) = true) (hn : ((n : Int) == 0) = true) (hE : emptyB d f n = true) :
    Calls Tryz.prog 8 #[.agg #[.int .i64 3, .int .u32 e, .string s, .int .u32 u, .int .i64 d, .int .i64 f, .slice A n c]] w fun x w' => x = .returned (.bool (formedB 3 e s u d f n)) ∧ Below w.heap.size w w' := by
  rw [formed_three, hE]
  clear hE
  by_cases he : e = 0
  · subst he
    rw [decide_eq_false (by omega)]
    go_enter Tryz.func8, Tryz.ntmps8
    go_wp2_with (first
      | fail)
    go_ret
    exact ⟨rfl, (Below.refl _ _).alloc (Nat.le_refl _) _⟩
  · have he1 : decide (0 < e) = true := decide_eq_true (by omega)
    rw [decide_eq_true he]
    clear he
    by_cases hz : s.size = 0
    · have hs1 : s.toList.isEmpty = true := by
        have : s.data = #[] := Array.eq_empty_of_size_eq_zero hz
        simp [ByteArray.toList_eq, this]
      rw [decide_eq_true hz]
      clear hz hs
      by_cases hu : u = 0
      · subst hu
        rw [decide_eq_false (by omega)]
        go_enter Tryz.func8, Tryz.ntmps8
        go_wp2_with (first
          | fail)
        go_ret
        exact ⟨rfl, (Below.refl _ _).alloc (Nat.le_refl _) _⟩
      · have hu1 : decide (0 < u) = true := decide_eq_true (by omega)
        rw [decide_eq_true hu]
        clear hu
        go_enter Tryz.func8, Tryz.ntmps8
        go_wp2_with (first
          | fail)
        go_ret
        exact ⟨rfl, (Below.refl _ _).alloc (Nat.le_refl _) _⟩
    · have hs1 : s.toList.isEmpty = false := by
        rw [Bool.eq_false_iff]
        intro h
        rw [ByteArray.toList_eq] at h
        have h' : s.data = #[] := by simpa using h
        exact hz (by show s.data.size = 0; rw [h']; rfl)
      rw [decide_eq_false hz]
      clear hz hs
      go_enter Tryz.func8, Tryz.ntmps8
      go_wp2_with (first
        | fail)
      go_ret
      exact ⟨rfl, (Below.refl _ _).alloc (Nat.le_refl _) _⟩
theorem rFormed0d (w : World) (k : Int) (e u : Nat) (s : ByteArray) (d f : Int) (A : Option Addr) (n c : Nat) (hd : (d == 0) = false) (h1 : k ≠ 1) (h2 : k ≠ 2) (h3 : k ≠ 3) :
    Calls Tryz.prog 8 #[.agg #[.int .i64 k, .int .u32 e, .string s, .int .u32 u, .int .i64 d, .int .i64 f, .slice A n c]] w fun x w' => x = .returned (.bool (formedB k e s u d f n)) ∧ Below w.heap.size w w' := by
  rw [formed_other h1 h2 h3]
  have e1 : (k == 1) = false := by rw [beq_eq_false_iff_ne]; exact h1
  have e2 : (k == 2) = false := by rw [beq_eq_false_iff_ne]; exact h2
  have e3 : (k == 3) = false := by rw [beq_eq_false_iff_ne]; exact h3
  clear h1 h2 h3
  go_enter Tryz.func8, Tryz.ntmps8
  go_wp2_with (first
    | fail)
  go_ret
  exact ⟨rfl, (Below.refl _ _).alloc (Nat.le_refl _) _⟩
theorem rFormed0f (w : World) (k : Int) (e u : Nat) (s : ByteArray) (d f : Int) (A : Option Addr) (n c : Nat) (hd : (d == 0) = true) (hf : (f == 0) = false) (h1 : k ≠ 1) (h2 : k ≠ 2) (h3 : k ≠ 3) :
    Calls Tryz.prog 8 #[.agg #[.int .i64 k, .int .u32 e, .string s, .int .u32 u, .int .i64 d, .int .i64 f, .slice A n c]] w fun x w' => x = .returned (.bool (formedB k e s u d f n)) ∧ Below w.heap.size w w' := by
  rw [formed_other h1 h2 h3]
  have e1 : (k == 1) = false := by rw [beq_eq_false_iff_ne]; exact h1
  have e2 : (k == 2) = false := by rw [beq_eq_false_iff_ne]; exact h2
  have e3 : (k == 3) = false := by rw [beq_eq_false_iff_ne]; exact h3
  clear h1 h2 h3
  go_enter Tryz.func8, Tryz.ntmps8
  go_wp2_with (first
    | fail)
  go_ret
  exact ⟨rfl, (Below.refl _ _).alloc (Nat.le_refl _) _⟩
theorem rFormed0n (w : World) (k : Int) (e u : Nat) (s : ByteArray) (d f : Int) (A : Option Addr) (n c : Nat) (hd : (d == 0) = true) (hf : (f == 0) = true) (hn : ((n : Int) == 0) = false) (h1 : k ≠ 1) (h2 : k ≠ 2) (h3 : k ≠ 3) :
    Calls Tryz.prog 8 #[.agg #[.int .i64 k, .int .u32 e, .string s, .int .u32 u, .int .i64 d, .int .i64 f, .slice A n c]] w fun x w' => x = .returned (.bool (formedB k e s u d f n)) ∧ Below w.heap.size w w' := by
  rw [formed_other h1 h2 h3]
  have e1 : (k == 1) = false := by rw [beq_eq_false_iff_ne]; exact h1
  have e2 : (k == 2) = false := by rw [beq_eq_false_iff_ne]; exact h2
  have e3 : (k == 3) = false := by rw [beq_eq_false_iff_ne]; exact h3
  clear h1 h2 h3
  go_enter Tryz.func8, Tryz.ntmps8
  go_wp2_with (first
    | fail)
  go_ret
  exact ⟨rfl, (Below.refl _ _).alloc (Nat.le_refl _) _⟩
theorem rFormed0a (w : World) (k : Int) (e u : Nat) (s : ByteArray) (d f : Int) (A : Option Addr) (n c : Nat) (hd : (d == 0) = true) (hf : (f == 0) = true) (hn : ((n : Int) == 0) = true) (h1 : k ≠ 1) (h2 : k ≠ 2) (h3 : k ≠ 3) :
    Calls Tryz.prog 8 #[.agg #[.int .i64 k, .int .u32 e, .string s, .int .u32 u, .int .i64 d, .int .i64 f, .slice A n c]] w fun x w' => x = .returned (.bool (formedB k e s u d f n)) ∧ Below w.heap.size w w' := by
  rw [formed_other h1 h2 h3]
  have e1 : (k == 1) = false := by rw [beq_eq_false_iff_ne]; exact h1
  have e2 : (k == 2) = false := by rw [beq_eq_false_iff_ne]; exact h2
  have e3 : (k == 3) = false := by rw [beq_eq_false_iff_ne]; exact h3
  clear h1 h2 h3
  go_enter Tryz.func8, Tryz.ntmps8
  go_wp2_with (first
    | fail)
  go_ret
  exact ⟨rfl, (Below.refl _ _).alloc (Nat.le_refl _) _⟩
theorem rFormed_any (w : World) (k : Int) (e u : Nat) (s : ByteArray) (d f : Int) (A : Option Addr) (n c : Nat) (hs : s.size ≤ 100000) :
    Calls Tryz.prog 8 #[.agg #[.int .i64 k, .int .u32 e, .string s, .int .u32 u, .int .i64 d, .int .i64 f, .slice A n c]] w fun x w' => x = .returned (.bool (formedB k e s u d f n)) ∧ Below w.heap.size w w' := by
  have hz : ∀ x : Int, x ≠ 0 → (x == 0) = false := fun x h => by rw [beq_eq_false_iff_ne]; exact h
  by_cases h1 : d = 0
  · have d1 : (d == 0) = true := by rw [beq_iff_eq]; exact h1
    by_cases h2 : f = 0
    · have d2 : (f == 0) = true := by rw [beq_iff_eq]; exact h2
      by_cases h3 : n = 0
      · have d3 : ((n : Int) == 0) = true := by rw [beq_iff_eq]; omega
        have hE : emptyB d f n = true := by simp [emptyB, h1, h2, h3]
        by_cases k1 : k = 1
        · subst k1; exact rFormed1a w e u s d f A _ c hs d1 d2 d3 hE
        · by_cases k2 : k = 2
          · subst k2; exact rFormed2a w e u s d f A _ c hs d1 d2 d3 hE
          · by_cases k3 : k = 3
            · subst k3; exact rFormed3a w e u s d f A _ c hs d1 d2 d3 hE
            · exact rFormed0a w k e u s d f A _ c d1 d2 d3 k1 k2 k3
      · have d3 := hz (n : Int) (by omega)
        have hE : emptyB d f n = false := by simp [emptyB, h1, h2, h3]
        by_cases k1 : k = 1
        · subst k1; exact rFormed1n w e u s d f A _ c hs d1 d2 d3 hE
        · by_cases k2 : k = 2
          · subst k2; exact rFormed2n w e u s d f A _ c hs d1 d2 d3 hE
          · by_cases k3 : k = 3
            · subst k3; exact rFormed3n w e u s d f A _ c hs d1 d2 d3 hE
            · exact rFormed0n w k e u s d f A _ c d1 d2 d3 k1 k2 k3
    · have d2 := hz f h2
      have hE : emptyB d f n = false := by simp [emptyB, h1, h2]
      by_cases k1 : k = 1
      · subst k1; exact rFormed1f w e u s d f A _ c hs d1 d2 hE
      · by_cases k2 : k = 2
        · subst k2; exact rFormed2f w e u s d f A _ c hs d1 d2 hE
        · by_cases k3 : k = 3
          · subst k3; exact rFormed3f w e u s d f A _ c hs d1 d2 hE
          · exact rFormed0f w k e u s d f A _ c d1 d2 k1 k2 k3
  · have d1 := hz d h1
    have hE : emptyB d f n = false := by simp [emptyB, h1]
    by_cases k1 : k = 1
    · subst k1; exact rFormed1d w e u s d f A _ c hs d1 hE
    · by_cases k2 : k = 2
      · subst k2; exact rFormed2d w e u s d f A _ c hs d1 hE
      · by_cases k3 : k = 3
        · subst k3; exact rFormed3d w e u s d f A _ c hs d1 hE
        · exact rFormed0d w k e u s d f A _ c d1 k1 k2 k3
end Go.Proofs.YtdbdeplabipfaaaGreatDoor.bod
