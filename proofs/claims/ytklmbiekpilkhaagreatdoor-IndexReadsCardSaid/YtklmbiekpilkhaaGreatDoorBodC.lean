/- When a note is formed, by both: the notes themselves. -/
import Derived.Test.YtklmbiekpilkhaaGreatDoorBodB
namespace Go.Proofs.YtklmbiekpilkhaaGreatDoor.bod
open Go.ChangeShapes Go.WideShapes Go.ChangeAt Go.RowKit
open Go.Proofs.YtklmbiekpilkhaaGreatDoor.codec (Bytes)
set_option linter.unusedVariables false
set_option linter.unusedSimpArgs false
set_option maxRecDepth 100000

theorem boxed {w : World} {o : Obj} {w1 : World} (h : Below (w.alloc o).heap.size (w.alloc o) w1) : w1.heap[w.heap.size]? = some o ∧ Below w.heap.size w w1 := by
  have h0 : Below w.heap.size w (w.alloc o) := (Below.refl _ _).alloc (Nat.le_refl _) _
  refine ⟨?_, h0.trans (h.mono h0.size)⟩
  rw [h.block _ (by simp)]
  exact heap_alloc_new w o
theorem formed_one {e u : Nat} {s : ByteArray} {d f : Int} {n : Nat} : formedB 1 e s u d f n = (decide (e ≠ 0) && (named s && (decide (u = 0) && emptyB d f n))) := by unfold formedB; rw [if_pos rfl]
theorem formed_two {e u : Nat} {s : ByteArray} {d f : Int} {n : Nat} : formedB 2 e s u d f n = (decide (e ≠ 0) && (named s && (decide (u ≠ 0) && fitsB d f n))) := by unfold formedB; rw [if_neg (by decide), if_pos rfl]
theorem formed_three {e u : Nat} {s : ByteArray} {d f : Int} {n : Nat} : formedB 3 e s u d f n = (decide (e ≠ 0) && (decide (s.size = 0) && (decide (u ≠ 0) && emptyB d f n))) := by unfold formedB; rw [if_neg (by decide), if_neg (by decide), if_pos rfl]
theorem formed_other {k : Int} {e u : Nat} {s : ByteArray} {d f : Int} {n : Nat} (h1 : k ≠ 1) (h2 : k ≠ 2) (h3 : k ≠ 3) : formedB k e s u d f n = false := by unfold formedB; rw [if_neg h1, if_neg h2, if_neg h3]
theorem formed1 (w : World) (e u : Nat) (s : ByteArray) (d f : Int) (A : Option Addr) (n c : Nat) (hs : s.size ≤ 100000) (hr : Fit w) :
    Calls Tryz.prog 64 #[.agg #[.int .i64 1, .int .u32 e, .string s, .int .u32 u, .int .i64 d, .int .i64 f, .slice A n c]] w fun x w' => x = .returned (.bool (formedB 1 e s u d f n)) ∧ Below w.heap.size w w' := by
  rw [formed_one]
  have hL := fun w => says_any w u d f A n c
  generalize emptyB d f n = E at *
  have HL := Lib.hid hL
  clear hL
  have HR := Lib.hid (fun (o : Obj) => hr.below ((Below.refl _ _).alloc (Nat.le_refl _) o))
  have HR0 := Lib.hid hr
  clear hr
  by_cases he : e = 0
  · subst he
    rw [decide_eq_false (by omega)]
    go_enter Tryz.func64, Tryz.ntmps64
    go_wp2_with (first
      | fail)
    go_ret
    exact ⟨rfl, (Below.refl _ _).alloc (Nat.le_refl _) _⟩
  · have he1 : ((e : Int) != 0) = true := by rw [bne_iff_ne]; omega
    rw [decide_eq_true he]
    clear he
    have hN := fun w hr => isName_any w s hs hr
    generalize named s = M at *
    have HN := Lib.hid hN
    clear hN hs
    cases M
    · go_enter Tryz.func64, Tryz.ntmps64
      go_wp2_with (first
        | (go_at_call 96; refine (HN.out _ (HR.out _)).mono ?_; rintro x w1 ⟨rfl, hb⟩; have HB1 := Lib.hid (boxed hb); have h3 := cell_at HB1.out.1 3 _ rfl; clear hb))
      go_ret
      exact ⟨rfl, HB1.out.2⟩
    · by_cases hu : u = 0
      · subst hu
        rw [decide_eq_true rfl]
        go_enter Tryz.func64, Tryz.ntmps64
        go_wp2_with (first
          | (go_at_call 96; refine (HN.out _ (HR.out _)).mono ?_; rintro x w1 ⟨rfl, hb⟩; have HB1 := Lib.hid (boxed hb); have h4 := cell_at HB1.out.1 4 _ rfl; have h5 := cell_at HB1.out.1 5 _ rfl; have h6 := cell_at HB1.out.1 6 _ rfl; have h3 := cell_at HB1.out.1 3 _ rfl; clear hb)
          | (go_at_call 97; refine (HL.out _).mono ?_; rintro x w2 ⟨rfl, hb2⟩; have HB2 := Lib.hid (HB1.out.2.trans (hb2.mono HB1.out.2.size)); clear hb2))
        go_ret
        exact ⟨rfl, HB2.out⟩
      · have hu1 : ((u : Int) == 0) = false := by rw [beq_eq_false_iff_ne]; omega
        rw [decide_eq_false hu]
        clear hu
        go_enter Tryz.func64, Tryz.ntmps64
        go_wp2_with (first
          | (go_at_call 96; refine (HN.out _ (HR.out _)).mono ?_; rintro x w1 ⟨rfl, hb⟩; have HB1 := Lib.hid (boxed hb); have h3 := cell_at HB1.out.1 3 _ rfl; clear hb))
        go_ret
        exact ⟨rfl, HB1.out.2⟩
theorem formed2 (w : World) (e u : Nat) (s : ByteArray) (d f : Int) (A : Option Addr) (n c : Nat) (hs : s.size ≤ 100000) (hr : Fit w) :
    Calls Tryz.prog 64 #[.agg #[.int .i64 2, .int .u32 e, .string s, .int .u32 u, .int .i64 d, .int .i64 f, .slice A n c]] w fun x w' => x = .returned (.bool (formedB 2 e s u d f n)) ∧ Below w.heap.size w w' := by
  rw [formed_two]
  have hL := fun w (hr : Fit w) => fits_any w u d f A n c hr
  generalize fitsB d f n = E at *
  have HL := Lib.hid hL
  clear hL
  have HR := Lib.hid (fun (o : Obj) => hr.below ((Below.refl _ _).alloc (Nat.le_refl _) o))
  have HR0 := Lib.hid hr
  clear hr
  by_cases he : e = 0
  · subst he
    rw [decide_eq_false (by omega)]
    go_enter Tryz.func64, Tryz.ntmps64
    go_wp2_with (first
      | fail)
    go_ret
    exact ⟨rfl, (Below.refl _ _).alloc (Nat.le_refl _) _⟩
  · have he1 : ((e : Int) != 0) = true := by rw [bne_iff_ne]; omega
    rw [decide_eq_true he]
    clear he
    have hN := fun w hr => isName_any w s hs hr
    generalize named s = M at *
    have HN := Lib.hid hN
    clear hN hs
    cases M
    · go_enter Tryz.func64, Tryz.ntmps64
      go_wp2_with (first
        | (go_at_call 96; refine (HN.out _ (HR.out _)).mono ?_; rintro x w1 ⟨rfl, hb⟩; have HB1 := Lib.hid (boxed hb); have h3 := cell_at HB1.out.1 3 _ rfl; clear hb))
      go_ret
      exact ⟨rfl, HB1.out.2⟩
    · by_cases hu : u = 0
      · subst hu
        rw [decide_eq_false (by omega)]
        go_enter Tryz.func64, Tryz.ntmps64
        go_wp2_with (first
          | (go_at_call 96; refine (HN.out _ (HR.out _)).mono ?_; rintro x w1 ⟨rfl, hb⟩; have HB1 := Lib.hid (boxed hb); have h3 := cell_at HB1.out.1 3 _ rfl; clear hb))
        go_ret
        exact ⟨rfl, HB1.out.2⟩
      · have hu1 : ((u : Int) != 0) = true := by rw [bne_iff_ne]; omega
        rw [decide_eq_true hu]
        clear hu
        go_enter Tryz.func64, Tryz.ntmps64
        go_wp2_with (first
          | (go_at_call 96; refine (HN.out _ (HR.out _)).mono ?_; rintro x w1 ⟨rfl, hb⟩; have HB1 := Lib.hid (boxed hb); have h4 := cell_at HB1.out.1 4 _ rfl; have h5 := cell_at HB1.out.1 5 _ rfl; have h6 := cell_at HB1.out.1 6 _ rfl; have h3 := cell_at HB1.out.1 3 _ rfl; clear hb)
          | (go_at_call 98; refine (HL.out _ (HR0.out.below HB1.out.2)).mono ?_; rintro x w2 ⟨rfl, hb2⟩; have HB2 := Lib.hid (HB1.out.2.trans (hb2.mono HB1.out.2.size)); clear hb2))
        go_ret
        exact ⟨rfl, HB2.out⟩
theorem formed3 (w : World) (e u : Nat) (s : ByteArray) (d f : Int) (A : Option Addr) (n c : Nat) (hs : s.size ≤ 100000) (hr : Fit w) :
    Calls Tryz.prog 64 #[.agg #[.int .i64 3, .int .u32 e, .string s, .int .u32 u, .int .i64 d, .int .i64 f, .slice A n c]] w fun x w' => x = .returned (.bool (formedB 3 e s u d f n)) ∧ Below w.heap.size w w' := by
  rw [formed_three]
  have hL := fun w => says_any w u d f A n c
  generalize emptyB d f n = E at *
  have HL := Lib.hid hL
  clear hL
  have HR := Lib.hid (fun (o : Obj) => hr.below ((Below.refl _ _).alloc (Nat.le_refl _) o))
  have HR0 := Lib.hid hr
  clear hr
  by_cases he : e = 0
  · subst he
    rw [decide_eq_false (by omega)]
    go_enter Tryz.func64, Tryz.ntmps64
    go_wp2_with (first
      | fail)
    go_ret
    exact ⟨rfl, (Below.refl _ _).alloc (Nat.le_refl _) _⟩
  · have he1 : ((e : Int) != 0) = true := by rw [bne_iff_ne]; omega
    rw [decide_eq_true he]
    clear he
    by_cases hz : s.size = 0
    · have hs1 : s.toList.isEmpty = true := by
        have : s.data = #[] := Array.eq_empty_of_size_eq_zero hz
        simp [ByteArray.toList_eq, this]
      rw [decide_eq_true hz]
      clear hz hs
      by_cases hu : u = 0
      · subst hu
        rw [decide_eq_false (by omega)]
        go_enter Tryz.func64, Tryz.ntmps64
        go_wp2_with (first
          | fail)
        go_ret
        exact ⟨rfl, (Below.refl _ _).alloc (Nat.le_refl _) _⟩
      · have hu1 : ((u : Int) != 0) = true := by rw [bne_iff_ne]; omega
        rw [decide_eq_true hu]
        clear hu
        go_enter Tryz.func64, Tryz.ntmps64
        go_wp2_with (first
          | (go_at_call 97; refine (HL.out _).mono ?_; rintro x w2 ⟨rfl, hb2⟩; have HB2 := Lib.hid (boxed hb2).2; clear hb2))
        go_ret
        exact ⟨rfl, HB2.out⟩
    · have hs1 : s.toList.isEmpty = false := by
        rw [Bool.eq_false_iff]
        intro h
        rw [ByteArray.toList_eq] at h
        have h' : s.data = #[] := by simpa using h
        exact hz (by show s.data.size = 0; rw [h']; rfl)
      rw [decide_eq_false hz]
      clear hz hs
      go_enter Tryz.func64, Tryz.ntmps64
      go_wp2_with (first
        | fail)
      go_ret
      exact ⟨rfl, (Below.refl _ _).alloc (Nat.le_refl _) _⟩
theorem formed_any (w : World) (k : Int) (e u : Nat) (s : ByteArray) (d f : Int) (A : Option Addr) (n c : Nat) (hs : s.size ≤ 100000) (hr : Fit w) :
    Calls Tryz.prog 64 #[.agg #[.int .i64 k, .int .u32 e, .string s, .int .u32 u, .int .i64 d, .int .i64 f, .slice A n c]] w fun x w' => x = .returned (.bool (formedB k e s u d f n)) ∧ Below w.heap.size w w' := by
  by_cases h1 : k = 1
  · subst h1; exact formed1 w e u s d f A n c hs hr
  · by_cases h2 : k = 2
    · subst h2; exact formed2 w e u s d f A n c hs hr
    · by_cases h3 : k = 3
      · subst h3; exact formed3 w e u s d f A n c hs hr
      · rw [formed_other h1 h2 h3]
        have e1 : (k == 1) = false := by rw [beq_eq_false_iff_ne]; exact h1
        have e2 : (k == 2) = false := by rw [beq_eq_false_iff_ne]; exact h2
        have e3 : (k == 3) = false := by rw [beq_eq_false_iff_ne]; exact h3
        clear h1 h2 h3 hr
        go_enter Tryz.func64, Tryz.ntmps64
        go_wp2_with (first
          | fail)
        go_ret
        exact ⟨rfl, (Below.refl _ _).alloc (Nat.le_refl _) _⟩
end Go.Proofs.YtklmbiekpilkhaaGreatDoor.bod
