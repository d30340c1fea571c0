/- When a note is formed, by both: the notes themselves. -/
import Derived.Test.YtepngemlaiffgaaDoorMc2
import Derived.Test.YtepngemlaiffgaaDoorMc0
namespace Go.Proofs.YtepngemlaiffgaaDoor.bod
open Go.ChangeShapes Go.WideShapes Go.ChangeAt Go.RowKit
open Go.Proofs.YtepngemlaiffgaaDoor.codec (Bytes)
set_option linter.unusedVariables false
set_option linter.unusedSimpArgs false
set_option maxRecDepth 100000

theorem cell_at {w : World} {b : Nat} {cs : Array Value} {t : TypeId} {m : Nat × Nat} (h : w.heap[b]? = some (.cells cs t m)) (i : Nat) (v : Value) (hv : cs[i]? = some v) : w.cell? ⟨b, i, none⟩ = some v := by
  simp [World.cell?, h, hv]
theorem says_any (w : World) (u : Nat) (d f : Int) (A : Option Addr) (n c : Nat) :
    Calls Tryd.prog 50 #[.agg #[.int .u32 u, .int .i64 d, .int .i64 f, .slice A n c]] w fun e w' => e = .returned (.bool (emptyB d f n)) ∧ Below w.heap.size w w' := by
  unfold emptyB
  by_cases hd : d = 0
  · subst hd
    by_cases hf : f = 0
    · subst hf
      by_cases hn : n = 0
      · subst hn
        go_enter Tryd.func50, Tryd.ntmps50
        go_wp2
        go_ret
        exact ⟨rfl, (Below.refl _ _).alloc (Nat.le_refl _) _⟩
      · have h1 : ((n : Int) == 0) = false := by rw [beq_eq_false_iff_ne]; omega
        rw [decide_eq_false hn]
        clear hn
        go_enter Tryd.func50, Tryd.ntmps50
        go_wp2
        go_ret
        exact ⟨rfl, (Below.refl _ _).alloc (Nat.le_refl _) _⟩
    · rw [decide_eq_false hf]
      have h1 : (f == 0) = false := by rw [beq_eq_false_iff_ne]; omega
      clear hf
      go_enter Tryd.func50, Tryd.ntmps50
      go_wp2
      go_ret
      exact ⟨rfl, (Below.refl _ _).alloc (Nat.le_refl _) _⟩
  · rw [decide_eq_false hd]
    have h1 : (d == 0) = false := by rw [beq_eq_false_iff_ne]; omega
    clear hd
    go_enter Tryd.func50, Tryd.ntmps50
    go_wp2
    go_ret
    exact ⟨rfl, (Below.refl _ _).alloc (Nat.le_refl _) _⟩
theorem fits_any (w : World) (u : Nat) (d f : Int) (A : Option Addr) (n c : Nat) (hr : Fit w) :
    Calls Tryd.prog 51 #[.agg #[.int .u32 u, .int .i64 d, .int .i64 f, .slice A n c]] w fun e w' => e = .returned (.bool (fitsB d f n)) ∧ Below w.heap.size w w' := by
  unfold fitsB
  have ht := fun w hr => isTime_any w d hr
  have hf := fun w => areFlags_any w f
  generalize decide (0 ≤ d ∧ d ≤ 253402300799) = T at *
  generalize decide (0 ≤ f ∧ f < 32) = F at *
  have HT := Lib.hid ht
  have HF := Lib.hid hf
  have HR := Lib.hid (fun (o : Obj) => hr.below ((Below.refl _ _).alloc (Nat.le_refl _) o))
  clear ht hf hr
  have hBel : ∀ (o : Obj) (w1 : World), Below (w.alloc o).heap.size (w.alloc o) w1 → w1.heap[w.heap.size]? = some o ∧ Below w.heap.size w w1 := by
    intro o w1 h
    have h0 : Below w.heap.size w (w.alloc o) := (Below.refl _ _).alloc (Nat.le_refl _) _
    refine ⟨?_, h0.trans (h.mono h0.size)⟩
    rw [h.block _ (by simp)]
    exact heap_alloc_new w o
  have HB := Lib.hid hBel
  clear hBel
  cases T
  · go_enter Tryd.func51, Tryd.ntmps51
    go_wp2_with (go_at_call 57; refine (HT.out _ (HR.out _)).mono ?_; rintro e w1 ⟨rfl, hb⟩; have HB1 := Lib.hid (HB.out _ _ hb); clear hb)
    go_ret
    exact ⟨rfl, HB1.out.2⟩
  · cases F
    · go_enter Tryd.func51, Tryd.ntmps51
      go_wp2_with (first
        | (go_at_call 57; refine (HT.out _ (HR.out _)).mono ?_; rintro e w1 ⟨rfl, hb⟩; have HB1 := Lib.hid (HB.out _ _ hb); have h2 := cell_at HB1.out.1 2 _ rfl; have h3 := cell_at HB1.out.1 3 _ rfl; clear hb)
        | (go_at_call 58; refine (HF.out _).mono ?_; rintro e w2 ⟨rfl, hw⟩; replace hw := hw.symm; subst hw))
      go_ret
      exact ⟨rfl, HB1.out.2⟩
    · have hn : decide ((n : Int) ≤ 20000) = decide (n ≤ 20000) := by rw [decide_eq_decide]; omega
      rw [← hn]
      clear hn
      go_enter Tryd.func51, Tryd.ntmps51
      go_wp2_with (first
        | (go_at_call 57; refine (HT.out _ (HR.out _)).mono ?_; rintro e w1 ⟨rfl, hb⟩; have HB1 := Lib.hid (HB.out _ _ hb); have h2 := cell_at HB1.out.1 2 _ rfl; have h3 := cell_at HB1.out.1 3 _ rfl; clear hb)
        | (go_at_call 58; refine (HF.out _).mono ?_; rintro e w2 ⟨rfl, hw⟩; replace hw := hw.symm; subst hw))
      all_goals (go_ret; exact ⟨by simp_all, HB1.out.2⟩)
end Go.Proofs.YtepngemlaiffgaaDoor.bod
namespace Go.Proofs.YtepngemlaiffgaaDoor.bod
open Go.ChangeShapes Go.WideShapes Go.ChangeAt Go.RowKit
open Go.Proofs.YtepngemlaiffgaaDoor.codec (Bytes)
set_option linter.unusedVariables false
set_option linter.unusedSimpArgs false
set_option maxRecDepth 100000

theorem boxed {w : World} {o : Obj} {w1 : World} (h : Below (w.alloc o).heap.size (w.alloc o) w1) : w1.heap[w.heap.size]? = some o ∧ Below w.heap.size w w1 := by
  have h0 : Below w.heap.size w (w.alloc o) := (Below.refl _ _).alloc (Nat.le_refl _) _
  refine ⟨?_, h0.trans (h.mono h0.size)⟩
  rw [h.block _ (by simp)]
  exact heap_alloc_new w o
theorem formed_one {e u : Nat} {s : ByteArray} {d f : Int} {n : Nat} : formedB 1 e s u d f n = (decide (e ≠ 0) && (named s && (decide (u = 0) && emptyB d f n))) := by unfold formedB; rw [if_pos rfl]
theorem formed_two {e u : Nat} {s : ByteArray} {d f : Int} {n : Nat} : formedB 2 e s u d f n = (decide (e ≠ 0) && (named s && (decide (u ≠ 0) && fitsB d f n))) := by unfold formedB; rw [if_neg (by decide), if_pos rfl]
theorem formed_three {e u : Nat} {s : ByteArray} {d f : Int} {n : Nat} : formedB 3 e s u d f n = (decide (e ≠ 0) && (decide (s.size = 0) && (decide (u ≠ 0) && emptyB d f n))) := by unfold formedB; rw [if_neg (by decide), if_neg (by decide), if_pos rfl]
theorem formed_other {k : Int} {e u : Nat} {s : ByteArray} {d f : Int} {n : Nat} (h1 : k ≠ 1) (h2 : k ≠ 2) (h3 : k ≠ 3) : formedB k e s u d f n = false := by unfold formedB; rw [if_neg h1, if_neg h2, if_neg h3]
theorem formed1 (w : World) (e u : Nat) (s : ByteArray) (d f : Int) (A : Option Addr) (n c : Nat) (hs : s.size ≤ 100000) (hr : Fit w) :
    Calls Tryd.prog 30 #[.agg #[.int .i64 1, .int .u32 e, .string s, .int .u32 u, .int .i64 d, .int .i64 f, .slice A n c]] w fun x w' => x = .returned (.bool (formedB 1 e s u d f n)) ∧ Below w.heap.size w w' := by
  rw [formed_one]
  have hL := fun w => says_any w u d f A n c
  generalize emptyB d f n = E at *
  have HL := Lib.hid hL
  clear hL
  have HR := Lib.hid (fun (o : Obj) => hr.below ((Below.refl _ _).alloc (Nat.le_refl _) o))
  have HR0 := Lib.hid hr
  clear hr
  by_cases he : e = 0
  · subst he
    rw [decide_eq_false (by omega)]
    go_enter Tryd.func30, Tryd.ntmps30
    go_wp2_with (first
      | fail)
    go_ret
    exact ⟨rfl, (Below.refl _ _).alloc (Nat.le_refl _) _⟩
  · have he1 : ((e : Int) != 0) = true := by rw [bne_iff_ne]; omega
    rw [decide_eq_true he]
    clear he
    have hN := fun w hr => isName_any w s hs hr
    generalize named s = M at *
    have HN := Lib.hid hN
    clear hN hs
    cases M
    · go_enter Tryd.func30, Tryd.ntmps30
      go_wp2_with (first
        | (go_at_call 49; refine (HN.out _ (HR.out _)).mono ?_; rintro x w1 ⟨rfl, hb⟩; have HB1 := Lib.hid (boxed hb); have h3 := cell_at HB1.out.1 3 _ rfl; clear hb))
      go_ret
      exact ⟨rfl, HB1.out.2⟩
    · by_cases hu : u = 0
      · subst hu
        rw [decide_eq_true rfl]
        go_enter Tryd.func30, Tryd.ntmps30
        go_wp2_with (first
          | (go_at_call 49; refine (HN.out _ (HR.out _)).mono ?_; rintro x w1 ⟨rfl, hb⟩; have HB1 := Lib.hid (boxed hb); have h4 := cell_at HB1.out.1 4 _ rfl; have h5 := cell_at HB1.out.1 5 _ rfl; have h6 := cell_at HB1.out.1 6 _ rfl; have h3 := cell_at HB1.out.1 3 _ rfl; clear hb)
          | (go_at_call 50; refine (HL.out _).mono ?_; rintro x w2 ⟨rfl, hb2⟩; have HB2 := Lib.hid (HB1.out.2.trans (hb2.mono HB1.out.2.size)); clear hb2))
        go_ret
        exact ⟨rfl, HB2.out⟩
      · have hu1 : ((u : Int) == 0) = false := by rw [beq_eq_false_iff_ne]; omega
        rw [decide_eq_false hu]
        clear hu
        go_enter Tryd.func30, Tryd.ntmps30
        go_wp2_with (first
          | (go_at_call 49; refine (HN.out _ (HR.out _)).mono ?_; rintro x w1 ⟨rfl, hb⟩; have HB1 := Lib.hid (boxed hb); have h3 := cell_at HB1.out.1 3 _ rfl; clear hb))
        go_ret
        exact ⟨rfl, HB1.out.2⟩
theorem formed2 (w : World) (e u : Nat) (s : ByteArray) (d f : Int) (A : Option Addr) (n c : Nat) (hs : s.size ≤ 100000) (hr : Fit w) :
    Calls Tryd.prog 30 #[.agg #[.int .i64 2, .int .u32 e, .string s, .int .u32 u, .int .i64 d, .int .i64 f, .slice A n c]] w fun x w' => x = .returned (.bool (formedB 2 e s u d f n)) ∧ Below w.heap.size w w' := by
  rw [formed_two]
  have hL := fun w (hr : Fit w) => fits_any w u d f A n c hr
  generalize fitsB d f n = E at *
  have HL := Lib.hid hL
  clear hL
  have HR := Lib.hid (fun (o : Obj) => hr.below ((Below.refl _ _).alloc (Nat.le_refl _) o))
  have HR0 := Lib.hid hr
  clear hr
  by_cases he : e = 0
  · subst he
    rw [decide_eq_false (by omega)]
    go_enter Tryd.func30, Tryd.ntmps30
    go_wp2_with (first
      | fail)
    go_ret
    exact ⟨rfl, (Below.refl _ _).alloc (Nat.le_refl _) _⟩
  · have he1 : ((e : Int) != 0) = true := by rw [bne_iff_ne]; omega
    rw [decide_eq_true he]
    clear he
    have hN := fun w hr => isName_any w s hs hr
    generalize named s = M at *
    have HN := Lib.hid hN
    clear hN hs
    cases M
    · go_enter Tryd.func30, Tryd.ntmps30
      go_wp2_with (first
        | (go_at_call 49; refine (HN.out _ (HR.out _)).mono ?_; rintro x w1 ⟨rfl, hb⟩; have HB1 := Lib.hid (boxed hb); have h3 := cell_at HB1.out.1 3 _ rfl; clear hb))
      go_ret
      exact ⟨rfl, HB1.out.2⟩
    · by_cases hu : u = 0
      · subst hu
        rw [decide_eq_false (by omega)]
        go_enter Tryd.func30, Tryd.ntmps30
        go_wp2_with (first
          | (go_at_call 49; refine (HN.out _ (HR.out _)).mono ?_; rintro x w1 ⟨rfl, hb⟩; have HB1 := Lib.hid (boxed hb); have h3 := cell_at HB1.out.1 3 _ rfl; clear hb))
        go_ret
        exact ⟨rfl, HB1.out.2⟩
      · have hu1 : ((u : Int) != 0) = true := by rw [bne_iff_ne]; omega
        rw [decide_eq_true hu]
        clear hu
        go_enter Tryd.func30, Tryd.ntmps30
        go_wp2_with (first
          | (go_at_call 49; refine (HN.out _ (HR.out _)).mono ?_; rintro x w1 ⟨rfl, hb⟩; have HB1 := Lib.hid (boxed hb); have h4 := cell_at HB1.out.1 4 _ rfl; have h5 := cell_at HB1.out.1 5 _ rfl; have h6 := cell_at HB1.out.1 6 _ rfl; have h3 := cell_at HB1.out.1 3 _ rfl; clear hb)
          | (go_at_call 51; refine (HL.out _ (HR0.out.below HB1.out.2)).mono ?_; rintro x w2 ⟨rfl, hb2⟩; have HB2 := Lib.hid (HB1.out.2.trans (hb2.mono HB1.out.2.size)); clear hb2))
        go_ret
        exact ⟨rfl, HB2.out⟩
theorem formed3 (w : World) (e u : Nat) (s : ByteArray) (d f : Int) (A : Option Addr) (n c : Nat) (hs : s.size ≤ 100000) (hr : Fit w) :
    Calls Tryd.prog 30 #[.agg #[.int .i64 3, .int .u32 e, .string s, .int .u32 u, .int .i64 d, .int .i64 f, .slice A n c]] w fun x w' => x = .returned (.bool (formedB 3 e s u d f n)) ∧ Below w.heap.size w w' := by
  rw [formed_three]
  have hL := fun w => says_any w u d f A n c
  generalize emptyB d f n = E at *
  have HL := Lib.hid hL
  clear hL
  have HR := Lib.hid (fun (o : Obj) => hr.below ((Below.refl _ _).alloc (Nat.le_refl _) o))
  have HR0 := Lib.hid hr
  clear hr
  by_cases he : e = 0
  · subst he
    rw [decide_eq_false (by omega)]
    go_enter Tryd.func30, Tryd.ntmps30
    go_wp2_with (first
      | fail)
    go_ret
    exact ⟨rfl, (Below.refl _ _).alloc (Nat.le_refl _) _⟩
  · have he1 : ((e : Int) != 0) = true := by rw [bne_iff_ne]; omega
    rw [decide_eq_true he]
    clear he
    by_cases hz : s.size = 0
    · have hs1 : s.toList.isEmpty = true := by
        have : s.data = #[] := Array.eq_empty_of_size_eq_zero hz
        simp [ByteArray.toList_eq, this]
      rw [decide_eq_true hz]
      clear hz hs
      by_cases hu : u = 0
      · subst hu
        rw [decide_eq_false (by omega)]
        go_enter Tryd.func30, Tryd.ntmps30
        go_wp2_with (first
          | fail)
        go_ret
        exact ⟨rfl, (Below.refl _ _).alloc (Nat.le_refl _) _⟩
      · have hu1 : ((u : Int) != 0) = true := by rw [bne_iff_ne]; omega
        rw [decide_eq_true hu]
        clear hu
        go_enter Tryd.func30, Tryd.ntmps30
        go_wp2_with (first
          | (go_at_call 50; refine (HL.out _).mono ?_; rintro x w2 ⟨rfl, hb2⟩; have HB2 := Lib.hid (boxed hb2).2; clear hb2))
        go_ret
        exact ⟨rfl, HB2.out⟩
    · have hs1 : s.toList.isEmpty = false := by
        rw [Bool.eq_false_iff]
        intro h
        rw [ByteArray.toList_eq] at h
        have h' : s.data = #[] := by simpa using h
        exact hz (by show s.data.size = 0; rw [h']; rfl)
      rw [decide_eq_false hz]
      clear hz hs
      go_enter Tryd.func30, Tryd.ntmps30
      go_wp2_with (first
        | fail)
      go_ret
      exact ⟨rfl, (Below.refl _ _).alloc (Nat.le_refl _) _⟩
theorem formed_any (w : World) (k : Int) (e u : Nat) (s : ByteArray) (d f : Int) (A : Option Addr) (n c : Nat) (hs : s.size ≤ 100000) (hr : Fit w) :
    Calls Tryd.prog 30 #[.agg #[.int .i64 k, .int .u32 e, .string s, .int .u32 u, .int .i64 d, .int .i64 f, .slice A n c]] w fun x w' => x = .returned (.bool (formedB k e s u d f n)) ∧ Below w.heap.size w w' := by
  by_cases h1 : k = 1
  · subst h1; exact formed1 w e u s d f A n c hs hr
  · by_cases h2 : k = 2
    · subst h2; exact formed2 w e u s d f A n c hs hr
    · by_cases h3 : k = 3
      · subst h3; exact formed3 w e u s d f A n c hs hr
      · rw [formed_other h1 h2 h3]
        have e1 : (k == 1) = false := by rw [beq_eq_false_iff_ne]; exact h1
        have e2 : (k == 2) = false := by rw [beq_eq_false_iff_ne]; exact h2
        have e3 : (k == 3) = false := by rw [beq_eq_false_iff_ne]; exact h3
        clear h1 h2 h3 hr
        go_enter Tryd.func30, Tryd.ntmps30
        go_wp2_with (first
          | fail)
        go_ret
        exact ⟨rfl, (Below.refl _ _).alloc (Nat.le_refl _) _⟩
end Go.Proofs.YtepngemlaiffgaaDoor.bod
namespace Go.Proofs.YtepngemlaiffgaaDoor.bod
open Go.ChangeShapes Go.WideShapes Go.ChangeAt Go.RowKit
open Go.Proofs.YtepngemlaiffgaaDoor.codec (Bytes)
set_option linter.unusedVariables false
set_option linter.unusedSimpArgs false
set_option maxRecDepth 100000

theorem rFits_any (w : World) (u : Nat) (d f : Int) (A : Option Addr) (n c : Nat) :
    Calls Tryd.prog 33 #[.agg #[.int .u32 u, .int .i64 d, .int .i64 f, .slice A n c]] w fun e w' => e = .returned (.bool (fitsB d f n)) ∧ Below w.heap.size w w' := by
  by_cases h0 : 0 ≤ d
  rotate_left
  · have hE : fitsB d f n = false := by unfold fitsB; simp; omega
    rw [hE]
    have g0 : decide ((0 : Int) ≤ d) = false := decide_eq_false (by omega)
    clear hE h0
    go_enter Tryd.func33, Tryd.ntmps33
    go_wp2
    go_ret
    exact ⟨rfl, (Below.refl _ _).alloc (Nat.le_refl _) _⟩
  by_cases h1 : d ≤ 253402300799
  rotate_left
  · have hE : fitsB d f n = false := by unfold fitsB; simp; omega
    rw [hE]
    have g0 : decide ((0 : Int) ≤ d) = true := decide_eq_true (by omega)
    have g1 : decide (d ≤ 253402300799) = false := decide_eq_false (by omega)
    clear hE h0 h1
    go_enter Tryd.func33, Tryd.ntmps33
    go_wp2
    go_ret
    exact ⟨rfl, (Below.refl _ _).alloc (Nat.le_refl _) _⟩
  by_cases h2 : 0 ≤ f
  rotate_left
  · have hE : fitsB d f n = false := by unfold fitsB; simp; omega
    rw [hE]
    have g0 : decide ((0 : Int) ≤ d) = true := decide_eq_true (by omega)
    have g1 : decide (d ≤ 253402300799) = true := decide_eq_true (by omega)
    have g2 : decide ((0 : Int) ≤ f) = false := decide_eq_false (by omega)
    clear hE h0 h1 h2
    go_enter Tryd.func33, Tryd.ntmps33
    go_wp2
    go_ret
    exact ⟨rfl, (Below.refl _ _).alloc (Nat.le_refl _) _⟩
  by_cases h3 : f < 32
  rotate_left
  · have hE : fitsB d f n = false := by unfold fitsB; simp; omega
    rw [hE]
    have g0 : decide ((0 : Int) ≤ d) = true := decide_eq_true (by omega)
    have g1 : decide (d ≤ 253402300799) = true := decide_eq_true (by omega)
    have g2 : decide ((0 : Int) ≤ f) = true := decide_eq_true (by omega)
    have g3 : decide (f < 32) = false := decide_eq_false (by omega)
    clear hE h0 h1 h2 h3
    go_enter Tryd.func33, Tryd.ntmps33
    go_wp2
    go_ret
    exact ⟨rfl, (Below.refl _ _).alloc (Nat.le_refl _) _⟩
  by_cases h4 : n ≤ 20000
  rotate_left
  · have hE : fitsB d f n = false := by unfold fitsB; simp; omega
    rw [hE]
    have g0 : decide ((0 : Int) ≤ d) = true := decide_eq_true (by omega)
    have g1 : decide (d ≤ 253402300799) = true := decide_eq_true (by omega)
    have g2 : decide ((0 : Int) ≤ f) = true := decide_eq_true (by omega)
    have g3 : decide (f < 32) = true := decide_eq_true (by omega)
    have g4 : decide ((n : Int) ≤ 20000) = false := decide_eq_false (by omega)
    clear hE h0 h1 h2 h3 h4
    go_enter Tryd.func33, Tryd.ntmps33
    go_wp2
    go_ret
    exact ⟨rfl, (Below.refl _ _).alloc (Nat.le_refl _) _⟩
  have hE : fitsB d f n = true := by unfold fitsB; simp; omega
  rw [hE]
  have g0 : decide ((0 : Int) ≤ d) = true := decide_eq_true (by omega)
  have g1 : decide (d ≤ 253402300799) = true := decide_eq_true (by omega)
  have g2 : decide ((0 : Int) ≤ f) = true := decide_eq_true (by omega)
  have g3 : decide (f < 32) = true := decide_eq_true (by omega)
  have g4 : decide ((n : Int) ≤ 20000) = true := decide_eq_true (by omega)
  clear hE h0 h1 h2 h3 h4
  go_enter Tryd.func33, Tryd.ntmps33
  go_wp2
  go_ret
  exact ⟨rfl, (Below.refl _ _).alloc (Nat.le_refl _) _⟩
end Go.Proofs.YtepngemlaiffgaaDoor.bod
namespace Go.Proofs.YtepngemlaiffgaaDoor.lg
open Go.Proofs.YtepngemlaiffgaaDoor.bod (formedB payL named fitsB emptyB named_size ok1 ok2 ok3 epN uidN datN flaN octN LA LF TX says1 says2 says3 back1 back2 back3 ep_lt uid_lt)
set_option linter.unusedVariables false
set_option linter.unusedSimpArgs false

/-- A note. -/
structure Nt where
  k : Nat
  e : Nat
  s : ByteArray
  u : Nat
  d : Int
  f : Int
  o : List Nat
def Nt.ok (n : Nt) : Prop := formedB (n.k : Nat) n.e n.s n.u n.d n.f n.o.length = true ∧ n.e < 4294967296 ∧ n.u < 4294967296
def Nt.pay (n : Nt) : List Nat := payL (n.k : Nat) n.e n.s n.u n.d n.f n.o
theorem Nt.ok.parts {n : Nt} (h : n.ok) : 1 ≤ n.k ∧ n.k ≤ 3 ∧ (n.k = 1 → n.u = 0) ∧ (n.k ≠ 1 → 1 ≤ n.u) ∧ 1 ≤ n.e ∧ n.e < 4294967296 ∧ n.u < 4294967296 := by
  obtain ⟨h, he, hu⟩ := h
  unfold formedB at h
  split at h
  · simp only [Bool.and_eq_true, decide_eq_true_eq] at h
    omega
  · split at h
    · simp only [Bool.and_eq_true, decide_eq_true_eq] at h
      omega
    · split at h
      · simp only [Bool.and_eq_true, decide_eq_true_eq] at h
        omega
      · cases h
/-- What a record of a kind says. -/
def dec (k : Nat) (L : List Nat) : Option Nt :=
  if k = 1 then (if ok1 L = true then some ⟨1, epN L, TX (LA L), 0, 0, 0, []⟩ else none)
  else if k = 2 then (if ok2 L = true then some ⟨2, epN L, TX (LF L), uidN L, datN L, flaN L, octN L⟩ else none)
  else if k = 3 then (if ok3 L = true then some ⟨3, epN L, ByteArray.empty, uidN L, 0, 0, []⟩ else none)
  else none
theorem dec_ok {k : Nat} {L : List Nat} {n : Nt} (hb : ∀ b ∈ L, b < 256) (h : dec k L = some n) : n.ok ∧ n.k = k := by
  unfold dec at h
  split at h
  · rename_i hk
    split at h
    · rename_i ho
      cases h
      exact ⟨⟨(says1 hb ho).1, ep_lt hb, by show 0 < _; omega⟩, hk.symm⟩
    · cases h
  · split at h
    · rename_i hk
      split at h
      · rename_i ho
        cases h
        exact ⟨⟨(says2 hb ho).1, ep_lt hb, uid_lt hb⟩, hk.symm⟩
      · cases h
    · split at h
      · rename_i hk
        split at h
        · rename_i ho
          cases h
          exact ⟨⟨(says3 hb ho).1, ep_lt hb, uid_lt hb⟩, hk.symm⟩
        · cases h
      · cases h
theorem dec_back {n : Nt} (h : n.ok) : dec n.k n.pay = some n := by
  have hp := h.parts
  obtain ⟨k, e, s, u, d, f, o⟩ := n
  obtain ⟨hf, he, hu⟩ := h
  simp only [Nt.pay] at *
  by_cases h1 : k = 1
  · subst h1
    obtain ⟨k1, k2, k3, rfl, rfl, rfl, rfl⟩ := back1 he hf
    unfold dec
    rw [show ((1 : Nat) : Int) = 1 from rfl, if_pos rfl, if_pos k1]
    rw [k2, k3]
  · by_cases h2 : k = 2
    · subst h2
      obtain ⟨k1, k2, k3, k4, k5, k6, k7⟩ := back2 he hu hf
      unfold dec
      rw [show ((2 : Nat) : Int) = 2 from rfl, if_neg (by decide), if_pos rfl, if_pos k1]
      rw [k2, k3, k4, k5, k6, k7]
    · obtain rfl : k = 3 := by omega
      obtain ⟨k1, k2, k3, rfl, rfl, rfl, rfl⟩ := back3 he hu hf
      unfold dec
      rw [show ((3 : Nat) : Int) = 3 from rfl, if_neg (by decide), if_neg (by decide), if_pos rfl, if_pos k1]
      rw [k2, k3]

/-! What notes say. -/
def epo (l : List Nt) : Nat := l.foldl (fun a n => max a n.e) 0
def nmL (l : List Nt) : ByteArray := l.foldl (fun a n => if n.k = 3 then a else n.s) ByteArray.empty
def top (E : Nat) (l : List Nt) : Nat := l.foldl (fun a n => if n.e = E then max a n.u else a) 0
def nxt (g : Nat) : Nat := min g 4294967294 + 1
def rnx (E : Nat) (l : List Nt) : Nat := l.foldl (fun a n => if 1 < n.k ∧ n.e = E then max a (if n.u < 4294967295 then n.u + 1 else n.u) else a) 1
theorem epo_snoc (l : List Nt) (n : Nt) : epo (l ++ [n]) = max (epo l) n.e := by simp [epo]
theorem nmL_snoc (l : List Nt) (n : Nt) : nmL (l ++ [n]) = if n.k = 3 then nmL l else n.s := by simp [nmL]
theorem top_snoc (E : Nat) (l : List Nt) (n : Nt) : top E (l ++ [n]) = if n.e = E then max (top E l) n.u else top E l := by simp [top]
theorem rnx_snoc (E : Nat) (l : List Nt) (n : Nt) : rnx E (l ++ [n]) = if 1 < n.k ∧ n.e = E then max (rnx E l) (if n.u < 4294967295 then n.u + 1 else n.u) else rnx E l := by simp [rnx]
theorem take_next {α : Type} {l : List α} {i : Nat} {x : α} (h : l[i]? = some x) : l.take (i + 1) = l.take i ++ [x] := by
  rw [List.take_add_one, h]
  rfl
theorem epo_lt {l : List Nt} (h : ∀ n ∈ l, n.ok) : epo l < 4294967296 := by
  have : ∀ (l : List Nt) (a : Nat), a < 4294967296 → (∀ n ∈ l, n.ok) → l.foldl (fun a n => max a n.e) a < 4294967296 := by
    intro l
    induction l with
    | nil => intro a h _; exact h
    | cons n r ih =>
      intro a ha hl
      have := (hl n (by simp)).parts
      exact ih _ (by show max a n.e < _; omega) (fun m hm => hl m (by simp [hm]))
  exact this l 0 (by omega) h
theorem top_lt {E : Nat} {l : List Nt} (h : ∀ n ∈ l, n.ok) : top E l < 4294967296 := by
  have : ∀ (l : List Nt) (a : Nat), a < 4294967296 → (∀ n ∈ l, n.ok) → l.foldl (fun a n => if n.e = E then max a n.u else a) a < 4294967296 := by
    intro l
    induction l with
    | nil => intro a h _; exact h
    | cons n r ih =>
      intro a ha hl
      have := (hl n (by simp)).parts
      refine ih _ ?_ (fun m hm => hl m (by simp [hm]))
      simp only []
      split <;> omega
  exact this l 0 (by omega) h
theorem rnx_eq {E : Nat} {l : List Nt} (h : ∀ n ∈ l, n.ok) : rnx E l = nxt (top E l) := by
  have : ∀ (l : List Nt) (a : Nat), (∀ n ∈ l, n.ok) → l.foldl (fun a n => if 1 < n.k ∧ n.e = E then max a (if n.u < 4294967295 then n.u + 1 else n.u) else a) (nxt a) = nxt (l.foldl (fun a n => if n.e = E then max a n.u else a) a) := by
    intro l
    induction l with
    | nil => intro a _; rfl
    | cons n r ih =>
      intro a hl
      have hp := (hl n (by simp)).parts
      rw [List.foldl_cons, List.foldl_cons, ← ih _ (fun m hm => hl m (by simp [hm]))]
      congr 1
      unfold nxt
      by_cases hE : n.e = E
      · by_cases h1 : 1 < n.k
        · rw [if_pos ⟨h1, hE⟩, if_pos hE]
          split <;> omega
        · have := hp.2.2.1 (by omega)
          rw [if_neg (fun h => h1 h.1), if_pos hE]
          omega
      · rw [if_neg (fun h => hE h.2), if_neg hE]
  exact this l 0 h

/-! Which are live. -/
def gone (n : Nt) (r : List Nt) : Bool := decide (n.k ≠ 2) || r.any fun q => decide (q.k = 3 ∧ q.e = n.e ∧ q.u = n.u)
def livB (l : List Nt) (i : Nat) : Bool := match l[i]? with
  | some n => !gone n (l.drop (i + 1))
  | none => false
def pick {α : Type} (l : List α) (b : Nat → Bool) : Nat → List α
  | 0 => []
  | i + 1 => pick l b i ++ (if b i = true then (l[i]?).toList else [])
theorem pick_yes {α : Type} {l : List α} {b : Nat → Bool} {i : Nat} {x : α} (h : l[i]? = some x) (hb : b i = true) : pick l b (i + 1) = pick l b i ++ [x] := by
  rw [pick, if_pos hb, h]
  rfl
theorem pick_no {α : Type} {l : List α} {b : Nat → Bool} {i : Nat} (hb : b i = false) : pick l b (i + 1) = pick l b i := by
  rw [pick, if_neg (by rw [hb]; simp), List.append_nil]
theorem pick_map {α β : Type} (f : α → β) (l : List α) (b : Nat → Bool) : ∀ i, (pick l b i).map f = pick (l.map f) b i
  | 0 => rfl
  | i + 1 => by
    rw [pick, pick, List.map_append, pick_map f l b i]
    congr 1
    split
    · rw [List.getElem?_map]
      cases l[i]? <;> rfl
    · rfl
theorem pick_len {α : Type} (l : List α) (b : Nat → Bool) : ∀ i, (pick l b i).length ≤ i
  | 0 => Nat.le_refl _
  | i + 1 => by
    have := pick_len l b i
    rw [pick, List.length_append]
    have : (if b i = true then (l[i]?).toList else []).length ≤ 1 := by
      split
      · cases l[i]? <;> simp
      · simp
    omega
theorem pick_mem {α : Type} {l : List α} {b : Nat → Bool} {x : α} : ∀ i, x ∈ pick l b i → x ∈ l
  | 0, h => by cases h
  | i + 1, h => by
    rw [pick] at h
    rcases List.mem_append.1 h with h | h
    · exact pick_mem i h
    · split at h
      · cases hx : l[i]? with
        | none => rw [hx] at h; cases h
        | some y =>
          rw [hx] at h
          simp at h
          subst h
          exact List.mem_of_getElem? hx
      · cases h
/-- All live messages. -/
def lives (l : List Nt) : List Nt := pick l (livB l) l.length
theorem lives_mem {l : List Nt} {n : Nt} (h : n ∈ lives l) : n ∈ l := pick_mem _ h

/-- The last UID, and whether all was clean till there. -/
def stp (E : Nat) (st : Nat × Bool) (n : Nt) : Nat × Bool := (n.u, st.2 && decide (n.e = E ∧ st.1 < n.u ∧ n.u < 4294967295))
def cl (E : Nat) (l : List Nt) : Nat × Bool := l.foldl (stp E) (0, true)
theorem cl_snoc (E : Nat) (l : List Nt) (n : Nt) : cl E (l ++ [n]) = stp E (cl E l) n := by simp [cl]
theorem cl_false {E : Nat} : ∀ (l : List Nt) (st : Nat × Bool), st.2 = false → (l.foldl (stp E) st).2 = false
  | [], st, h => h
  | n :: r, st, h => cl_false r _ (by simp [stp, h])
theorem cl_stop {E : Nat} {l : List Nt} {i : Nat} (h : (cl E (l.take i)).2 = false) : (cl E l).2 = false := by
  have e : cl E l = (l.drop i).foldl (stp E) (cl E (l.take i)) := by
    unfold cl
    rw [← List.foldl_append, List.take_append_drop]
  rw [e]
  exact cl_false _ _ h
theorem cl_lt {E : Nat} {l : List Nt} (h : ∀ n ∈ l, n.ok) : (cl E l).1 < 4294967296 := by
  have : ∀ (l : List Nt) (st : Nat × Bool), st.1 < 4294967296 → (∀ n ∈ l, n.ok) → (l.foldl (stp E) st).1 < 4294967296 := by
    intro l
    induction l with
    | nil => intro st h _; exact h
    | cons n r ih =>
      intro st hs hl
      exact ih _ (hl n (by simp)).2.2 (fun m hm => hl m (by simp [hm]))
  exact this l (0, true) (by show 0 < _; omega) h

/-! UIDs that are given anew. -/
def withU (n : Nt) (u : Nat) : Nt := { n with u := u }
def ru {α : Type} (f : α → Nat → α) (l : List α) : Nat → List α
  | 0 => l
  | i + 1 => (ru f l i).modify i (fun x => f x (i + 1))
theorem ru_at {α : Type} (f : α → Nat → α) (l : List α) : ∀ i j, (ru f l i)[j]? = if j < i then (l[j]?).map (fun x => f x (j + 1)) else l[j]?
  | 0, j => by simp [ru]
  | i + 1, j => by
    rw [ru, List.getElem?_modify, ru_at f l i j]
    by_cases h : i = j
    · subst h
      simp
    · by_cases h2 : j < i
      · simp [h, h2, show j < i + 1 by omega]
      · simp [h, h2, show ¬ j < i + 1 by omega]
theorem ru_len {α : Type} (f : α → Nat → α) (l : List α) : ∀ i, (ru f l i).length = l.length
  | 0 => rfl
  | i + 1 => by rw [ru, List.length_modify, ru_len f l i]
theorem ru_map {α β : Type} (f : α → Nat → α) (g : β → Nat → β) (m : α → β) (hm : ∀ x i, m (f x i) = g (m x) i) (l : List α) (i : Nat) : (ru f l i).map m = ru g (l.map m) i := by
  apply List.ext_getElem?
  intro j
  rw [List.getElem?_map, ru_at, ru_at, List.getElem?_map]
  split
  · cases l[j]? <;> simp [hm]
  · rfl
/-- The messages of the mailbox of notes. -/
def boxed (l : List Nt) : List Nt := if (cl (epo l) (lives l)).2 = true then lives l else ru withU (lives l) (lives l).length
def boxE (l : List Nt) : Nat := if (cl (epo l) (lives l)).2 = true then epo l else min (epo l) 4294967294 + 1
def boxX (l : List Nt) : Nat := if (cl (epo l) (lives l)).2 = true then nxt (top (epo l) l) else (lives l).length + 1

/-! Where it was said last that one is gone. -/
def lastG (l : List (Nt × Nat)) (e u : Nat) : Option Nat := l.foldl (fun a x => if x.1.k = 3 ∧ x.1.e = e ∧ x.1.u = u then some x.2 else a) none
theorem lastG_snoc (l : List (Nt × Nat)) (x : Nt × Nat) (e u : Nat) : lastG (l ++ [x]) e u = if x.1.k = 3 ∧ x.1.e = e ∧ x.1.u = u then some x.2 else lastG l e u := by simp [lastG]
theorem fold_none {e u : Nat} : ∀ (l : List (Nt × Nat)) (a : Option Nat), (∀ x ∈ l, ¬ (x.1.k = 3 ∧ x.1.e = e ∧ x.1.u = u)) → l.foldl (fun a x => if x.1.k = 3 ∧ x.1.e = e ∧ x.1.u = u then some x.2 else a) a = a
  | [], a, _ => rfl
  | x :: r, a, h => by
    rw [List.foldl_cons, if_neg (h x (by simp))]
    exact fold_none r a (fun y hy => h y (by simp [hy]))
theorem fold_some {e u : Nat} : ∀ (l : List (Nt × Nat)) (a : Option Nat), (∃ x ∈ l, x.1.k = 3 ∧ x.1.e = e ∧ x.1.u = u) → ∃ x ∈ l, l.foldl (fun a x => if x.1.k = 3 ∧ x.1.e = e ∧ x.1.u = u then some x.2 else a) a = some x.2
  | [], a, h => by obtain ⟨x, hx, _⟩ := h; cases hx
  | x :: r, a, h => by
    rw [List.foldl_cons]
    by_cases hr : ∃ y ∈ r, y.1.k = 3 ∧ y.1.e = e ∧ y.1.u = u
    · obtain ⟨y, hy, h2⟩ := fold_some r (if x.1.k = 3 ∧ x.1.e = e ∧ x.1.u = u then some x.2 else a) hr
      exact ⟨y, by simp [hy], h2⟩
    · rw [fold_none r _ (fun y hy h => hr ⟨y, hy, h⟩)]
      obtain ⟨y, hy, h2⟩ := h
      rcases List.mem_cons.1 hy with rfl | hy
      · exact ⟨y, by simp, by rw [if_pos h2]⟩
      · exact absurd ⟨y, hy, h2⟩ hr
theorem fold_where {e u : Nat} : ∀ (l : List (Nt × Nat)) (a : Option Nat) (v : Nat), l.foldl (fun a x => if x.1.k = 3 ∧ x.1.e = e ∧ x.1.u = u then some x.2 else a) a = some v → a = some v ∨ ∃ x ∈ l, x.2 = v
  | [], a, v, h => Or.inl h
  | x :: r, a, v, h => by
    rw [List.foldl_cons] at h
    rcases fold_where r _ v h with h | ⟨y, hy, h⟩
    · split at h
      · exact Or.inr ⟨x, by simp, Option.some.inj h⟩
      · exact Or.inl h
    · exact Or.inr ⟨y, by simp [hy], h⟩
/-- A message is live just if it wasn't said behind it that it is gone. -/
theorem live_at {l : List (Nt × Nat)} (hp : l.Pairwise (fun a b => a.2 < b.2)) {i : Nat} {x : Nt × Nat} (hx : l[i]? = some x) (h2 : x.1.k = 2) : livB (l.map Prod.fst) i = (match lastG l x.1.e x.1.u with
    | none => true
    | some p => decide (p < x.2)) := by
  have hi := (List.getElem?_eq_some_iff.1 hx).1
  have hsplit : l = l.take i ++ (x :: l.drop (i + 1)) := by
    conv => lhs; rw [← List.take_append_drop i l]
    rw [List.drop_eq_getElem_cons hi, (List.getElem?_eq_some_iff.1 hx).2]
  have hlt : ∀ y ∈ l.drop (i + 1), x.2 < y.2 := by
    rw [hsplit] at hp
    have := (List.pairwise_append.1 hp).2.1
    exact (List.pairwise_cons.1 this).1
  have hgt : ∀ y ∈ l.take i, y.2 < x.2 := by
    rw [hsplit] at hp
    have := (List.pairwise_append.1 hp).2.2
    exact fun y hy => this y hy x (by simp)
  have hB : livB (l.map Prod.fst) i = !((l.drop (i + 1)).any fun q => decide (q.1.k = 3 ∧ q.1.e = x.1.e ∧ q.1.u = x.1.u)) := by
    unfold livB gone
    rw [List.getElem?_map, hx]
    simp only [Option.map_some, h2, ne_eq, not_true_eq_false, decide_false, Bool.false_or]
    rw [← List.map_drop, List.any_map]
    rfl
  have hl : lastG l x.1.e x.1.u = (l.drop (i + 1)).foldl (fun a y => if y.1.k = 3 ∧ y.1.e = x.1.e ∧ y.1.u = x.1.u then some y.2 else a) (lastG (l.take i) x.1.e x.1.u) := by
    unfold lastG
    conv => lhs; rw [hsplit]
    rw [List.foldl_append, List.foldl_cons, if_neg (by omega)]
  rw [hB, hl]
  by_cases hr : ∃ y ∈ l.drop (i + 1), y.1.k = 3 ∧ y.1.e = x.1.e ∧ y.1.u = x.1.u
  · obtain ⟨y, hy, h3⟩ := fold_some (l.drop (i + 1)) (lastG (l.take i) x.1.e x.1.u) hr
    rw [h3]
    have := hlt y hy
    have ha : (l.drop (i + 1)).any (fun q => decide (q.1.k = 3 ∧ q.1.e = x.1.e ∧ q.1.u = x.1.u)) = true := by
      obtain ⟨z, hz, hzz⟩ := hr
      exact List.any_eq_true.2 ⟨z, hz, by simpa using hzz⟩
    rw [ha]
    simp
    omega
  · have hn : ∀ y ∈ l.drop (i + 1), ¬ (y.1.k = 3 ∧ y.1.e = x.1.e ∧ y.1.u = x.1.u) := fun y hy h => hr ⟨y, hy, h⟩
    rw [fold_none _ _ hn]
    have ha : (l.drop (i + 1)).any (fun q => decide (q.1.k = 3 ∧ q.1.e = x.1.e ∧ q.1.u = x.1.u)) = false := by
      rw [List.any_eq_false]
      intro y hy
      simpa using hn y hy
    rw [ha]
    cases hv : lastG (l.take i) x.1.e x.1.u with
    | none => rfl
    | some p =>
      rcases fold_where _ _ _ hv with h | ⟨y, hy, h⟩
      · cases h
      · have := hgt y hy
        simp
        omega
theorem live_not {l : List Nt} {i : Nat} {n : Nt} (hx : l[i]? = some n) (h2 : n.k ≠ 2) : livB l i = false := by
  unfold livB gone
  rw [hx]
  simp [h2]
end Go.Proofs.YtepngemlaiffgaaDoor.lg
namespace Go.Proofs.YtepngemlaiffgaaDoor.lg
open Go.ChangeShapes Go.WideShapes Go.ChangeAt Go.RowKit
open Go.Proofs.YtepngemlaiffgaaDoor.codec (Bytes)
set_option linter.unusedVariables false
set_option maxRecDepth 100000
set_option linter.unusedSimpArgs false

/-- A note, where its record begins, and where its octets lie. -/
structure Y where
  n : Nt
  p : Nat
  A : Option Addr
  m : Nat
  c : Nat
def cN (y : Y) : List Value := [.int .i64 (y.n.k : Nat), .int .u32 (y.n.e : Nat), .string y.n.s, .int .u32 (y.n.u : Nat), .int .i64 y.n.d, .int .i64 y.n.f, .slice y.A y.m y.c]
def cA (y : Y) : List Value := [.int .i64 (y.n.k : Nat), .int .u32 (y.n.e : Nat), .string y.n.s, .int .u32 (y.n.u : Nat), .int .i64 y.n.d, .int .i64 y.n.f, .slice y.A y.m y.c, .int .i64 (y.p : Nat)]
def cM (y : Y) : List Value := [.int .u32 (y.n.u : Nat), .int .i64 y.n.d, .int .i64 y.n.f, .slice y.A y.m y.c]
def cL (y : Y) : List Value := [.int .u32 (y.n.u : Nat), .int .i64 y.n.d, .int .i64 y.n.f, .slice y.A y.m y.c, .int .u32 (y.n.e : Nat), .int .i64 (y.p : Nat)]
structure Fm (F : Y → List Value) (K : Nat) : Prop where
  len : ∀ y, (F y).length = K
  one : ∀ y, ∀ u ∈ F y, u.oneCell' = true
theorem fN : Fm cN 7 := ⟨fun _ => rfl, fun y u hu => by simp [cN] at hu; rcases hu with rfl | rfl | rfl | rfl | rfl | rfl | rfl <;> rfl⟩
theorem fA : Fm cA 8 := ⟨fun _ => rfl, fun y u hu => by simp [cA] at hu; rcases hu with rfl | rfl | rfl | rfl | rfl | rfl | rfl | rfl <;> rfl⟩
theorem fM : Fm cM 4 := ⟨fun _ => rfl, fun y u hu => by simp [cM] at hu; rcases hu with rfl | rfl | rfl | rfl <;> rfl⟩
theorem fL : Fm cL 6 := ⟨fun _ => rfl, fun y u hu => by simp [cL] at hu; rcases hu with rfl | rfl | rfl | rfl | rfl | rfl <;> rfl⟩
def fl (F : Y → List Value) (ys : List Y) : List Value := ys.flatMap F
theorem fl_snoc (F : Y → List Value) (ys : List Y) (y : Y) : fl F (ys ++ [y]) = fl F ys ++ F y := by simp [fl]
theorem fl_at {F : Y → List Value} {K : Nat} (hF : Fm F K) : ∀ (ys : List Y) (k : Nat) (y : Y), ys[k]? = some y → ∀ j v, (F y)[j]? = some v → (fl F ys)[k * K + j]? = some v
  | [], k, y, h => by simp at h
  | z :: r, 0, y, h => by
    simp at h
    subst h
    intro j v hv
    have hj := (List.getElem?_eq_some_iff.1 hv).1
    rw [Nat.zero_mul, Nat.zero_add, fl, List.flatMap_cons, List.getElem?_append_left hj]
    exact hv
  | z :: r, k + 1, y, h => by
    intro j v hv
    have := fl_at hF r k y (by simpa using h) j v hv
    rw [fl, List.flatMap_cons, List.getElem?_append_right (by rw [hF.len, Nat.add_mul]; omega), hF.len, show (k + 1) * K + j - K = k * K + j by rw [Nat.add_mul]; omega]
    exact this
/-- The octets lie there. -/
def Oct (w : World) (y : Y) : Prop := Bytes w y.A y.m y.n.o ∧ (y.A = none → y.c = 0)
theorem Oct.below {w w' : World} {y : Y} (h : Oct w y) (hb : Below w.heap.size w w') : Oct w' y := ⟨h.1.below h.1.lt hb, h.2⟩
theorem Oct.grown {w w' : World} {y : Y} {row : Option Nat} (h : Oct w y) (hg : w.grownBy w' row) (hne : ∀ ad, y.A = some ad → 0 < y.m → some ad.block ≠ row) : Oct w' y :=
  ⟨h.1.kept fun ad e h0 => hg.block _ (h.1.lt ad e h0) (hne ad e h0), h.2⟩
/-- A row of the call's own. -/
def Own (F : Y → List Value) (K B : Nat) (E : TypeId) (w : World) (v : Value) (ys : List Y) : Prop :=
  w.ownsRow B E K v ys.length (fl F ys) ∧ ∀ y ∈ ys, Oct w y ∧ ∀ ad, y.A = some ad → 0 < y.m → v.ownBlock ≠ some ad.block
theorem Own.nil (F : Y → List Value) (K B : Nat) (E : TypeId) (w : World) : Own F K B E w (.slice none 0 0) [] := ⟨⟨by simp [fl], .inl ⟨rfl, rfl⟩⟩, by simp⟩
theorem Own.grown {F : Y → List Value} {K B : Nat} {E : TypeId} {w w' : World} {v : Value} {ys : List Y} {row : Option Nat} (h : Own F K B E w v ys) (hg : w.grownBy w' row) (hv : ∀ b, row = some b → v.ownBlock ≠ some b) (hne : ∀ y ∈ ys, ∀ ad, y.A = some ad → 0 < y.m → some ad.block ≠ row) : Own F K B E w' v ys := by
  refine ⟨h.1.kept hg ?_, fun y hy => ⟨(h.2 y hy).1.grown hg (hne y hy), (h.2 y hy).2⟩⟩
  cases hr : row with
  | none => cases hb : v.ownBlock <;> simp
  | some b => exact .inr (hv b hr)
theorem Own.below {F : Y → List Value} {K B : Nat} {E : TypeId} {w w' : World} {v : Value} {ys : List Y} (h : Own F K B E w v ys) (hb : Below w.heap.size w w') : Own F K B E w' v ys :=
  h.grown (row := none) ⟨hb.os, hb.tape, hb.output, hb.size, fun i hi _ => hb.block i hi⟩ (fun b e => by cases e) (fun y hy ad e h0 => by simp)
theorem Own.alloc {F : Y → List Value} {K B : Nat} {E : TypeId} {w : World} {v : Value} {ys : List Y} (h : Own F K B E w v ys) (o : Obj) : Own F K B E (w.alloc o) v ys := h.below ((Below.refl _ _).alloc (Nat.le_refl _) _)
theorem Own.lt {F : Y → List Value} {K B : Nat} {E : TypeId} {w : World} {v : Value} {ys : List Y} (h : Own F K B E w v ys) {g : Nat} (e : v.ownBlock = some g) : B ≤ g ∧ g < w.heap.size := h.1.lt g e
theorem lit_at {F : Y → List Value} {w : World} (y : Y) (t : TypeId) (m : Nat × Nat) {g : Nat} (hg : g = w.heap.size) : ∀ j u, (F y)[j]? = some u → (w.alloc (.cells (F y).toArray t m)).cell? ((⟨g, 0, none⟩ : Addr).add j) = some u := by
  intro j u hu
  subst hg
  rw [codec.add_none, Nat.zero_add, World.cell?_alloc_mark]
  simpa using hu
/-- A struct put behind those of the call's own. -/
theorem run_append_own {F : Y → List Value} {K by_ : Nat} {z : Value} (hF : Fm F K) (hK : 0 < K) (hK9 : K ≤ 9) (hby : by_ ≤ 1000) (hz : z.cells.size = K) (T E : TypeId) (hT : Tryd.prog.underlying T = some (.slice E)) (hE : (Tryd.prog.info? E).map (fun i => (i.zero, i.size, i.bytes)) = some (some z, K, by_))
    (w : World) (ty : TypeId) (B : Nat) (v : Value) (ys : List Y) (h : Own F K B E w v ys) (hB : B ≤ w.heap.size) (hn : ys.length ≤ 20000000) (y : Y) (m : Nat × Nat) (g : Nat) (hg : g = w.heap.size)
    (hx : Oct w y) (hA : ∀ ad, y.A = some ad → 0 < y.m → v.ownBlock ≠ some ad.block) :
    ∃ v' w', (Builtin.append_ #[T, T] ty #[v, .slice (some ⟨g, 0, none⟩) 1 1]).run Tryd.prog (w.alloc (.cells (F y).toArray E m)) = .ok v' w' ∧ Own F K B E w' v' (ys ++ [y]) ∧ w.grownBy w' v.ownBlock ∧ (v'.ownBlock = v.ownBlock ∨ ∃ g, v'.ownBlock = some g ∧ w.heap.size ≤ g) := by
  obtain ⟨i0, hi, hz0, hz1, hz2⟩ := info_parts hE
  have ha := h.alloc (.cells (F y).toArray E m)
  have hby2 : (ys.length + 1) * by_ ≤ 20000001 * 1000 := Nat.mul_le_mul (by omega) hby
  obtain ⟨v', w', hr, h1, h2, h3, h4⟩ := run_append_own_at (P := Tryd.prog) (w.alloc (.cells (F y).toArray E m)) B T ty E i0 _ K by_ hT hi hz0 hz1 hz2 hz hK v ys.length (fl F ys) ha.1 ⟨g, 0, none⟩ 1 1 (F y) (by rw [hF.len, Nat.one_mul]) (lit_at y E m hg) (hF.one y) (by unfold maxLen; omega) (by omega) (by simp; omega)
  have hgr : w.grownBy w' v.ownBlock := ⟨h2.os, h2.tape, h2.output, by have := h2.size; simp at this; omega, fun k hk hne => by
    rw [h2.block k (by simp; omega) hne]
    exact Below.heap_alloc _ _ _ hk⟩
  have hat : v'.ownBlock = v.ownBlock ∨ ∃ g, v'.ownBlock = some g ∧ w.heap.size ≤ g := by
    rcases h4 with h4 | h4
    · exact .inl h4
    · exact .inr ⟨_, h4, by simp⟩
  have key : ∀ q : Y, Oct w q → (∀ ad, q.A = some ad → 0 < q.m → v.ownBlock ≠ some ad.block) → Oct w' q ∧ ∀ ad, q.A = some ad → 0 < q.m → v'.ownBlock ≠ some ad.block := by
    intro q hq hne
    refine ⟨hq.grown hgr fun ad e h0 e' => hne ad e h0 e'.symm, fun ad e h0 e' => ?_⟩
    rcases hat with ha | ⟨g', ha, hg'⟩
    · exact hne ad e h0 (ha ▸ e')
    · rw [ha] at e'
      have h1 := hq.1.lt ad e h0
      have h2 := Option.some.inj e'
      omega
  refine ⟨v', w', hr, ⟨?_, fun q hq => ?_⟩, hgr, hat⟩
  · rw [fl_snoc, List.length_append]
    simpa using h1
  · rcases List.mem_append.1 hq with hq | hq
    · exact key q (h.2 q hq).1 (h.2 q hq).2
    · simp at hq
      subst hq
      exact key _ hx hA
theorem wpList_append_own {F : Y → List Value} {K by_ : Nat} {z : Value} (hF : Fm F K) (hK0 : 0 < K) (hK9 : K ≤ 9) (hby : by_ ≤ 1000) (hz : z.cells.size = K) {ops : Array Oper} {rest : List Oper} {o : Oper} {a : Act} {w : World} {Q : Exit → Act → World → Prop} (hgd : o.guard = none) (s q : Operand) (T E : TypeId)
    (ho : o.op = .call { callee := .builtin .append, args := #[s, q], argTypes := #[T, T] }) (hT : Tryd.prog.underlying T = some (.slice E)) (hE : (Tryd.prog.info? E).map (fun i => (i.zero, i.size, i.bytes)) = some (some z, K, by_))
    (B : Nat) (v : Value) (ys : List Y) (hs : a.eval s = v) (h : Own F K B E w v ys) (hB : B ≤ w.heap.size) (hn : ys.length ≤ 20000000) (y : Y) (m : Nat × Nat) (g : Nat) (hg : g = w.heap.size) (hy : a.eval q = .slice (some ⟨g, 0, none⟩) 1 1) (L : Array Value) (hL : L = (F y).toArray)
    (hx : Oct w y) (hA : ∀ ad, y.A = some ad → 0 < y.m → v.ownBlock ≠ some ad.block)
    (hK : ∀ v' w', Own F K B E w' v' (ys ++ [y]) → w.grownBy w' v.ownBlock → (v'.ownBlock = v.ownBlock ∨ ∃ g, v'.ownBlock = some g ∧ w.heap.size ≤ g) → wpList Tryd.prog ops Q rest (a.put o.dst v') w') : wpList Tryd.prog ops Q (o :: rest) a (w.alloc (.cells L E m)) := by
  subst hL
  obtain ⟨v', w', hr, h1, h2, h3⟩ := run_append_own hF hK0 hK9 hby hz T E hT hE w o.type B v ys h hB hn y m g hg hx hA
  refine wpList_plain hgd fun _ hK' => ?_
  unfold Oper.wp execOp
  simp only [ho, resolve, invoke, builtin, Sem.run_bind, Sem.run_pure, Result.andThen_ok, List.map_toArray, List.map_cons, List.map_nil, hs, hy, hr]
  exact hK' _ _ (hK v' w' h1 h2 h3)
/-- What grows a row of the call's own keeps what was before the call. -/
theorem grown_below {W w w' : World} {F : Y → List Value} {K : Nat} {E : TypeId} {v : Value} {ys : List Y} (hb : Below W.heap.size W w) (h : Own F K W.heap.size E w v ys) (hg : w.grownBy w' v.ownBlock) : Below W.heap.size W w' :=
  hb.trans ⟨hg.os, hg.tape, hg.output, hg.size, fun k hk => hg.block k (Nat.lt_of_lt_of_le hk hb.size) (fun e => by
    have := (h.lt e.symm).1
    omega)⟩

/-- A slice that reads so. -/
def Rd (F : Y → List Value) (K : Nat) (w : World) (A : Option Addr) (n : Nat) (ys : List Y) : Prop := ys.length = n ∧ ∀ k, k < n → ∃ b o y, A = some ⟨b, o, none⟩ ∧ ys[k]? = some y ∧ (∀ j v, (F y)[j]? = some v → w.cell? ⟨b, o + k * K + j, none⟩ = some v) ∧ Oct w y
theorem Rd.below {F : Y → List Value} {K : Nat} {w w' : World} {A : Option Addr} {n : Nat} {ys : List Y} (h : Rd F K w A n ys) (hb : Below w.heap.size w w') : Rd F K w' A n ys := by
  refine ⟨h.1, fun k hk => ?_⟩
  obtain ⟨b, o, y, h1, h2, h3, h4⟩ := h.2 k hk
  refine ⟨b, o, y, h1, h2, fun j v hv => ?_, h4.below hb⟩
  have := h3 j v hv
  rw [hb.cell (p := ⟨b, o + k * K + j, none⟩) (block_lt_of_cell this)]
  exact this
theorem Rd.other {F : Y → List Value} {K : Nat} {w w' : World} {A : Option Addr} {n : Nat} {ys : List Y} (h : Rd F K w A n ys) (g : Nat) (hw : ∀ k, k ≠ g → w'.heap[k]? = w.heap[k]?) (hA : ∀ ad, A = some ad → ad.block ≠ g) (hO : ∀ y ∈ ys, ∀ ad, y.A = some ad → 0 < y.m → ad.block ≠ g) : Rd F K w' A n ys := by
  refine ⟨h.1, fun k hk => ?_⟩
  obtain ⟨b, o, y, h1, h2, h3, h4⟩ := h.2 k hk
  refine ⟨b, o, y, h1, h2, fun j v hv => ?_, h4.1.kept fun ad e h0 => hw _ (hO y (List.mem_of_getElem? h2) ad e h0), h4.2⟩
  rw [World.cell?_of_block (w := w) (hw b (hA _ h1))]
  exact h3 j v hv
theorem Rd.take {F : Y → List Value} {K : Nat} {w : World} {A : Option Addr} {n : Nat} {ys : List Y} (h : Rd F K w A n ys) (m : Nat) (hm : m ≤ n) : Rd F K w A m (ys.take m) := by
  refine ⟨by rw [List.length_take, h.1]; omega, fun k hk => ?_⟩
  obtain ⟨b, o, x, h1, h2, h3⟩ := h.2 k (by omega)
  exact ⟨b, o, x, h1, by rw [List.getElem?_take, if_pos hk]; exact h2, h3⟩
theorem Own.rd {F : Y → List Value} {K B : Nat} {E : TypeId} {w : World} {v : Value} {ys : List Y} (hF : Fm F K) (h : Own F K B E w v ys) : ∃ A c, v = .slice A ys.length c ∧ ys.length ≤ c ∧ (A = none → c = 0) ∧ Rd F K w A ys.length ys := by
  rcases h.1.2 with ⟨e, h0⟩ | ⟨g, cap, cur, e, hB, hg, hc, _⟩
  · exact ⟨none, 0, by rw [h0]; exact e, by omega, fun _ => rfl, rfl, fun k hk => by omega⟩
  · refine ⟨_, cap, e, hc, (fun e => by cases e), rfl, fun k hk => ?_⟩
    have hx : ys[k]? = some ys[k] := List.getElem?_eq_getElem hk
    refine ⟨g, 0, ys[k], rfl, hx, fun j u hu => ?_, (h.2 _ (List.getElem_mem hk)).1⟩
    have := h.1.cells (g := g) (by rw [e]; rfl) _ u (fl_at hF ys k _ hx j u hu)
    rw [codec.add_none] at this
    rw [Nat.add_assoc]
    exact this
theorem Rd.empty {F : Y → List Value} {K : Nat} (w : World) : Rd F K w .none 0 [] := ⟨rfl, fun k hk => by omega⟩
theorem Rd.at8 {w : World} {A : Option Addr} {n : Nat} {ys : List Y} (h : Rd cA 8 w A n ys) (k : Nat) (hk : k < n) : ∃ b o y, A = some ⟨b, o, none⟩ ∧ ys[k]? = some y ∧ w.cell? ⟨b, o + k * 8, none⟩ = some (.int .i64 (y.n.k : Nat)) ∧ w.cell? ⟨b, o + k * 8 + 1, none⟩ = some (.int .u32 (y.n.e : Nat)) ∧ w.cell? ⟨b, o + k * 8 + 2, none⟩ = some (.string y.n.s) ∧ w.cell? ⟨b, o + k * 8 + 3, none⟩ = some (.int .u32 (y.n.u : Nat)) ∧ w.cell? ⟨b, o + k * 8 + 4, none⟩ = some (.int .i64 y.n.d) ∧ w.cell? ⟨b, o + k * 8 + 5, none⟩ = some (.int .i64 y.n.f) ∧ w.cell? ⟨b, o + k * 8 + 6, none⟩ = some (.slice y.A y.m y.c) ∧ w.cell? ⟨b, o + k * 8 + 7, none⟩ = some (.int .i64 (y.p : Nat)) ∧ Oct w y := by
  obtain ⟨b, o, y, h1, h2, h3, h4⟩ := h.2 k hk
  exact ⟨b, o, y, h1, h2, h3 0 _ rfl, h3 1 _ rfl, h3 2 _ rfl, h3 3 _ rfl, h3 4 _ rfl, h3 5 _ rfl, h3 6 _ rfl, h3 7 _ rfl, h4⟩
theorem Rd.at7 {w : World} {A : Option Addr} {n : Nat} {ys : List Y} (h : Rd cN 7 w A n ys) (k : Nat) (hk : k < n) : ∃ b o y, A = some ⟨b, o, none⟩ ∧ ys[k]? = some y ∧ w.cell? ⟨b, o + k * 7, none⟩ = some (.int .i64 (y.n.k : Nat)) ∧ w.cell? ⟨b, o + k * 7 + 1, none⟩ = some (.int .u32 (y.n.e : Nat)) ∧ w.cell? ⟨b, o + k * 7 + 2, none⟩ = some (.string y.n.s) ∧ w.cell? ⟨b, o + k * 7 + 3, none⟩ = some (.int .u32 (y.n.u : Nat)) ∧ w.cell? ⟨b, o + k * 7 + 4, none⟩ = some (.int .i64 y.n.d) ∧ w.cell? ⟨b, o + k * 7 + 5, none⟩ = some (.int .i64 y.n.f) ∧ w.cell? ⟨b, o + k * 7 + 6, none⟩ = some (.slice y.A y.m y.c) ∧ Oct w y := by
  obtain ⟨b, o, y, h1, h2, h3, h4⟩ := h.2 k hk
  exact ⟨b, o, y, h1, h2, h3 0 _ rfl, h3 1 _ rfl, h3 2 _ rfl, h3 3 _ rfl, h3 4 _ rfl, h3 5 _ rfl, h3 6 _ rfl, h4⟩
theorem Rd.at4 {w : World} {A : Option Addr} {n : Nat} {ys : List Y} (h : Rd cM 4 w A n ys) (k : Nat) (hk : k < n) : ∃ b o y, A = some ⟨b, o, none⟩ ∧ ys[k]? = some y ∧ w.cell? ⟨b, o + k * 4, none⟩ = some (.int .u32 (y.n.u : Nat)) ∧ w.cell? ⟨b, o + k * 4 + 1, none⟩ = some (.int .i64 y.n.d) ∧ w.cell? ⟨b, o + k * 4 + 2, none⟩ = some (.int .i64 y.n.f) ∧ w.cell? ⟨b, o + k * 4 + 3, none⟩ = some (.slice y.A y.m y.c) ∧ Oct w y := by
  obtain ⟨b, o, y, h1, h2, h3, h4⟩ := h.2 k hk
  exact ⟨b, o, y, h1, h2, h3 0 _ rfl, h3 1 _ rfl, h3 2 _ rfl, h3 3 _ rfl, h4⟩
theorem Rd.at6 {w : World} {A : Option Addr} {n : Nat} {ys : List Y} (h : Rd cL 6 w A n ys) (k : Nat) (hk : k < n) : ∃ b o y, A = some ⟨b, o, none⟩ ∧ ys[k]? = some y ∧ w.cell? ⟨b, o + k * 6, none⟩ = some (.int .u32 (y.n.u : Nat)) ∧ w.cell? ⟨b, o + k * 6 + 1, none⟩ = some (.int .i64 y.n.d) ∧ w.cell? ⟨b, o + k * 6 + 2, none⟩ = some (.int .i64 y.n.f) ∧ w.cell? ⟨b, o + k * 6 + 3, none⟩ = some (.slice y.A y.m y.c) ∧ w.cell? ⟨b, o + k * 6 + 4, none⟩ = some (.int .u32 (y.n.e : Nat)) ∧ w.cell? ⟨b, o + k * 6 + 5, none⟩ = some (.int .i64 (y.p : Nat)) ∧ Oct w y := by
  obtain ⟨b, o, y, h1, h2, h3, h4⟩ := h.2 k hk
  exact ⟨b, o, y, h1, h2, h3 0 _ rfl, h3 1 _ rfl, h3 2 _ rfl, h3 3 _ rfl, h3 4 _ rfl, h3 5 _ rfl, h4⟩
def zN : Value := .agg #[.int .i64 0, .int .u32 0, .string ⟨#[]⟩, .int .u32 0, .int .i64 0, .int .i64 0, .slice none 0 0]
def zA : Value := .agg #[.int .i64 0, .int .u32 0, .string ⟨#[]⟩, .int .u32 0, .int .i64 0, .int .i64 0, .slice none 0 0, .int .i64 0]
def zM : Value := .agg #[.int .u32 0, .int .i64 0, .int .i64 0, .slice none 0 0]
def zL : Value := .agg #[.int .u32 0, .int .i64 0, .int .i64 0, .slice none 0 0, .int .u32 0, .int .i64 0]
theorem infoB : (Tryd.prog.info? 59).map (fun i => (i.zero, i.size, i.bytes)) = some (some zN, 7, 80) := by kernel_rfl
theorem infoM : (Tryd.prog.info? 30).map (fun i => (i.zero, i.size, i.bytes)) = some (some zM, 4, 48) := by kernel_rfl
end Go.Proofs.YtepngemlaiffgaaDoor.lg
namespace Go.Proofs.YtepngemlaiffgaaDoor.lg
set_option linter.unusedVariables false
def nts (ys : List Y) : List Nt := ys.map Y.n
theorem nts_at {ys : List Y} {k : Nat} {y : Y} (h : ys[k]? = some y) : (nts ys)[k]? = some y.n := by rw [nts, List.getElem?_map, h]; rfl
theorem nts_len (ys : List Y) : (nts ys).length = ys.length := List.length_map _
end Go.Proofs.YtepngemlaiffgaaDoor.lg
