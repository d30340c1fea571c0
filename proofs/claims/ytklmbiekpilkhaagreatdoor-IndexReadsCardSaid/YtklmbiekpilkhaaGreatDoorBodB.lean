/- When a note is formed, by both: the notes themselves. -/
import Derived.Test.YtklmbiekpilkhaaGreatDoorBodA
namespace Go.Proofs.YtklmbiekpilkhaaGreatDoor.bod
open Go.ChangeShapes Go.WideShapes Go.ChangeAt Go.RowKit
open Go.Proofs.YtklmbiekpilkhaaGreatDoor.codec (Bytes)
set_option linter.unusedVariables false
set_option linter.unusedSimpArgs false
set_option maxRecDepth 100000

theorem cell_at {w : World} {b : Nat} {cs : Array Value} {t : TypeId} {m : Nat × Nat} (h : w.heap[b]? = some (.cells cs t m)) (i : Nat) (v : Value) (hv : cs[i]? = some v) : w.cell? ⟨b, i, none⟩ = some v := by
  simp [World.cell?, h, hv]
theorem says_any (w : World) (u : Nat) (d f : Int) (A : Option Addr) (n c : Nat) :
    Calls Tryz.prog 97 #[.agg #[.int .u32 u, .int .i64 d, .int .i64 f, .slice A n c]] w fun e w' => e = .returned (.bool (emptyB d f n)) ∧ Below w.heap.size w w' := by
  unfold emptyB
  by_cases hd : d = 0
  · subst hd
    by_cases hf : f = 0
    · subst hf
      by_cases hn : n = 0
      · subst hn
        go_enter Tryz.func97, Tryz.ntmps97
        go_wp2
        go_ret
        exact ⟨rfl, (Below.refl _ _).alloc (Nat.le_refl _) _⟩
      · have h1 : ((n : Int) == 0) = false := by rw [beq_eq_false_iff_ne]; omega
        rw [decide_eq_false hn]
        clear hn
        go_enter Tryz.func97, Tryz.ntmps97
        go_wp2
        go_ret
        exact ⟨rfl, (Below.refl _ _).alloc (Nat.le_refl _) _⟩
    · rw [decide_eq_false hf]
      have h1 : (f == 0) = false := by rw [beq_eq_false_iff_ne]; omega
      clear hf
      go_enter Tryz.func97, Tryz.ntmps97
      go_wp2
      go_ret
      exact ⟨rfl, (Below.refl _ _).alloc (Nat.le_refl _) _⟩
  · rw [decide_eq_false hd]
    have h1 : (d == 0) = false := by rw [beq_eq_false_iff_ne]; omega
    clear hd
    go_enter Tryz.func97, Tryz.ntmps97
    go_wp2
    go_ret
    exact ⟨rfl, (Below.refl _ _).alloc (Nat.le_refl _) _⟩
theorem fits_any (w : World) (u : Nat) (d f : Int) (A : Option Addr) (n c : Nat) (hr : Fit w) :
    Calls Tryz.prog 98 #[.agg #[.int .u32 u, .int .i64 d, .int .i64 f, .slice A n c]] w fun e w' => e = .returned (.bool (fitsB d f n)) ∧ Below w.heap.size w w' := by
  unfold fitsB
  have ht := fun w hr => isTime_any w d hr
  have hf := fun w => areFlags_any w f
  generalize decide (0 ≤ d ∧ d ≤ 253402300799) = T at *
  generalize decide (0 ≤ f ∧ f < 32) = F at *
  have HT := Lib.hid ht
  have HF := Lib.hid hf
  have HR := Lib.hid (fun (o : Obj) => hr.below ((Below.refl _ _).alloc (Nat.le_refl _) o))
  clear ht hf hr
  have hBel : ∀ (o : Obj) (w1 : World), Below (w.alloc o).heap.size (w.alloc o) w1 → w1.heap[w.heap.size]? = some o ∧ Below w.heap.size w w1 := by
    intro o w1 h
    have h0 : Below w.heap.size w (w.alloc o) := (Below.refl _ _).alloc (Nat.le_refl _) _
    refine ⟨?_, h0.trans (h.mono h0.size)⟩
    rw [h.block _ (by simp)]
    exact heap_alloc_new w o
  have HB := Lib.hid hBel
  clear hBel
  cases T
  · go_enter Tryz.func98, Tryz.ntmps98
    go_wp2_with (go_at_call 109; refine (HT.out _ (HR.out _)).mono ?_; rintro e w1 ⟨rfl, hb⟩; have HB1 := Lib.hid (HB.out _ _ hb); clear hb)
    go_ret
    exact ⟨rfl, HB1.out.2⟩
  · cases F
    · go_enter Tryz.func98, Tryz.ntmps98
      go_wp2_with (first
        | (go_at_call 109; refine (HT.out _ (HR.out _)).mono ?_; rintro e w1 ⟨rfl, hb⟩; have HB1 := Lib.hid (HB.out _ _ hb); have h2 := cell_at HB1.out.1 2 _ rfl; have h3 := cell_at HB1.out.1 3 _ rfl; clear hb)
        | (go_at_call 110; refine (HF.out _).mono ?_; rintro e w2 ⟨rfl, hw⟩; replace hw := hw.symm; subst hw))
      go_ret
      exact ⟨rfl, HB1.out.2⟩
    · have hn : decide ((n : Int) ≤ 20000) = decide (n ≤ 20000) := by rw [decide_eq_decide]; omega
      rw [← hn]
      clear hn
      go_enter Tryz.func98, Tryz.ntmps98
      go_wp2_with (first
        | (go_at_call 109; refine (HT.out _ (HR.out _)).mono ?_; rintro e w1 ⟨rfl, hb⟩; have HB1 := Lib.hid (HB.out _ _ hb); have h2 := cell_at HB1.out.1 2 _ rfl; have h3 := cell_at HB1.out.1 3 _ rfl; clear hb)
        | (go_at_call 110; refine (HF.out _).mono ?_; rintro e w2 ⟨rfl, hw⟩; replace hw := hw.symm; subst hw))
      all_goals (go_ret; exact ⟨by simp_all, HB1.out.2⟩)
end Go.Proofs.YtklmbiekpilkhaaGreatDoor.bod
