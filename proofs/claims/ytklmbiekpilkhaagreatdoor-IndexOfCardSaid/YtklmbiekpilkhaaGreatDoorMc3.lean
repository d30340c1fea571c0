/- When a note is formed, by both: the notes themselves. -/
import Derived.Test.YtklmbiekpilkhaaGreatDoorMc2
import Derived.Deep.RegionWith
import Derived.Deep.RegionHeld3
import Derived.Test.YtklmbiekpilkhaaGreatDoorMf1
namespace Go.Proofs.YtklmbiekpilkhaaGreatDoor.bod
open Go.ChangeShapes Go.WideShapes Go.ChangeAt Go.RowKit
open Go.Proofs.YtklmbiekpilkhaaGreatDoor.codec (Bytes)
set_option linter.unusedVariables false
set_option linter.unusedSimpArgs false
set_option maxRecDepth 100000

theorem cell_at {w : World} {b : Nat} {cs : Array Value} {t : TypeId} {m : Nat × Nat} (h : w.heap[b]? = some (.cells cs t m)) (i : Nat) (v : Value) (hv : cs[i]? = some v) : w.cell? ⟨b, i, none⟩ = some v := by
  simp [World.cell?, h, hv]
theorem says_any (w : World) (u : Nat) (d f : Int) (A : Option Addr) (n c : Nat) :
    Calls Tryz.prog 97 #[.agg #[.int .u32 u, .int .i64 d, .int .i64 f, .slice A n c]] w fun e w' => e = .returned (.bool (emptyB d f n)) ∧ Below w.heap.size w w' := by
  unfold emptyB
  by_cases hd : d = 0
  · subst hd
    by_cases hf : f = 0
    · subst hf
      by_cases hn : n = 0
      · subst hn
        go_enter Tryz.func97, Tryz.ntmps97
        go_wp2
        go_ret
        exact ⟨rfl, (Below.refl _ _).alloc (Nat.le_refl _) _⟩
      · have h1 : ((n : Int) == 0) = false := by rw [beq_eq_false_iff_ne]; omega
        rw [decide_eq_false hn]
        clear hn
        go_enter Tryz.func97, Tryz.ntmps97
        go_wp2
        go_ret
        exact ⟨rfl, (Below.refl _ _).alloc (Nat.le_refl _) _⟩
    · rw [decide_eq_false hf]
      have h1 : (f == 0) = false := by rw [beq_eq_false_iff_ne]; omega
      clear hf
      go_enter Tryz.func97, Tryz.ntmps97
      go_wp2
      go_ret
      exact ⟨rfl, (Below.refl _ _).alloc (Nat.le_refl _) _⟩
  · rw [decide_eq_false hd]
    have h1 : (d == 0) = false := by rw [beq_eq_false_iff_ne]; omega
    clear hd
    go_enter Tryz.func97, Tryz.ntmps97
    go_wp2
    go_ret
    exact ⟨rfl, (Below.refl _ _).alloc (Nat.le_refl _) _⟩
theorem fits_any (w : World) (u : Nat) (d f : Int) (A : Option Addr) (n c : Nat) (hr : Fit w) :
    Calls Tryz.prog 98 #[.agg #[.int .u32 u, .int .i64 d, .int .i64 f, .slice A n c]] w fun e w' => e = .returned (.bool (fitsB d f n)) ∧ Below w.heap.size w w' := by
  unfold fitsB
  have ht := fun w hr => isTime_any w d hr
  have hf := fun w => areFlags_any w f
  generalize decide (0 ≤ d ∧ d ≤ 253402300799) = T at *
  generalize decide (0 ≤ f ∧ f < 32) = F at *
  have HT := Lib.hid ht
  have HF := Lib.hid hf
  have HR := Lib.hid (fun (o : Obj) => hr.below ((Below.refl _ _).alloc (Nat.le_refl _) o))
  clear ht hf hr
  have hBel : ∀ (o : Obj) (w1 : World), Below (w.alloc o).heap.size (w.alloc o) w1 → w1.heap[w.heap.size]? = some o ∧ Below w.heap.size w w1 := by
    intro o w1 h
    have h0 : Below w.heap.size w (w.alloc o) := (Below.refl _ _).alloc (Nat.le_refl _) _
    refine ⟨?_, h0.trans (h.mono h0.size)⟩
    rw [h.block _ (by simp)]
    exact heap_alloc_new w o
  have HB := Lib.hid hBel
  clear hBel
  cases T
  · go_enter Tryz.func98, Tryz.ntmps98
    go_wp2_with (go_at_call 109; refine (HT.out _ (HR.out _)).mono ?_; rintro e w1 ⟨rfl, hb⟩; have HB1 := Lib.hid (HB.out _ _ hb); clear hb)
    go_ret
    exact ⟨rfl, HB1.out.2⟩
  · cases F
    · go_enter Tryz.func98, Tryz.ntmps98
      go_wp2_with (first
        | (go_at_call 109; refine (HT.out _ (HR.out _)).mono ?_; rintro e w1 ⟨rfl, hb⟩; have HB1 := Lib.hid (HB.out _ _ hb); have h2 := cell_at HB1.out.1 2 _ rfl; have h3 := cell_at HB1.out.1 3 _ rfl; clear hb)
        | (go_at_call 110; refine (HF.out _).mono ?_; rintro e w2 ⟨rfl, hw⟩; replace hw := hw.symm; subst hw))
      go_ret
      exact ⟨rfl, HB1.out.2⟩
    · have hn : decide ((n : Int) ≤ 20000) = decide (n ≤ 20000) := by rw [decide_eq_decide]; omega
      rw [← hn]
      clear hn
      go_enter Tryz.func98, Tryz.ntmps98
      go_wp2_with (first
        | (go_at_call 109; refine (HT.out _ (HR.out _)).mono ?_; rintro e w1 ⟨rfl, hb⟩; have HB1 := Lib.hid (HB.out _ _ hb); have h2 := cell_at HB1.out.1 2 _ rfl; have h3 := cell_at HB1.out.1 3 _ rfl; clear hb)
        | (go_at_call 110; refine (HF.out _).mono ?_; rintro e w2 ⟨rfl, hw⟩; replace hw := hw.symm; subst hw))
      all_goals (go_ret; exact ⟨by simp_all, HB1.out.2⟩)
end Go.Proofs.YtklmbiekpilkhaaGreatDoor.bod
namespace Go.Proofs.YtklmbiekpilkhaaGreatDoor.bod
open Go.ChangeShapes Go.WideShapes Go.ChangeAt Go.RowKit
open Go.Proofs.YtklmbiekpilkhaaGreatDoor.codec (Bytes)
set_option linter.unusedVariables false
set_option linter.unusedSimpArgs false
set_option maxRecDepth 100000

theorem boxed {w : World} {o : Obj} {w1 : World} (h : Below (w.alloc o).heap.size (w.alloc o) w1) : w1.heap[w.heap.size]? = some o ∧ Below w.heap.size w w1 := by
  have h0 : Below w.heap.size w (w.alloc o) := (Below.refl _ _).alloc (Nat.le_refl _) _
  refine ⟨?_, h0.trans (h.mono h0.size)⟩
  rw [h.block _ (by simp)]
  exact heap_alloc_new w o
theorem formed_one {e u : Nat} {s : ByteArray} {d f : Int} {n : Nat} : formedB 1 e s u d f n = (decide (e ≠ 0) && (named s && (decide (u = 0) && emptyB d f n))) := by unfold formedB; rw [if_pos rfl]
theorem formed_two {e u : Nat} {s : ByteArray} {d f : Int} {n : Nat} : formedB 2 e s u d f n = (decide (e ≠ 0) && (named s && (decide (u ≠ 0) && fitsB d f n))) := by unfold formedB; rw [if_neg (by decide), if_pos rfl]
theorem formed_three {e u : Nat} {s : ByteArray} {d f : Int} {n : Nat} : formedB 3 e s u d f n = (decide (e ≠ 0) && (decide (s.size = 0) && (decide (u ≠ 0) && emptyB d f n))) := by unfold formedB; rw [if_neg (by decide), if_neg (by decide), if_pos rfl]
theorem formed_other {k : Int} {e u : Nat} {s : ByteArray} {d f : Int} {n : Nat} (h1 : k ≠ 1) (h2 : k ≠ 2) (h3 : k ≠ 3) : formedB k e s u d f n = false := by unfold formedB; rw [if_neg h1, if_neg h2, if_neg h3]
theorem formed1 (w : World) (e u : Nat) (s : ByteArray) (d f : Int) (A : Option Addr) (n c : Nat) (hs : s.size ≤ 100000) (hr : Fit w) :
    Calls Tryz.prog 64 #[.agg #[.int .i64 1, .int .u32 e, .string s, .int .u32 u, .int .i64 d, .int .i64 f, .slice A n c]] w fun x w' => x = .returned (.bool (formedB 1 e s u d f n)) ∧ Below w.heap.size w w' := by
  rw [formed_one]
  have hL := fun w => says_any w u d f A n c
  generalize emptyB d f n = E at *
  have HL := Lib.hid hL
  clear hL
  have HR := Lib.hid (fun (o : Obj) => hr.below ((Below.refl _ _).alloc (Nat.le_refl _) o))
  have HR0 := Lib.hid hr
  clear hr
  by_cases he : e = 0
  · subst he
    rw [decide_eq_false (by omega)]
    go_enter Tryz.func64, Tryz.ntmps64
    go_wp2_with (first
      | fail)
    go_ret
    exact ⟨rfl, (Below.refl _ _).alloc (Nat.le_refl _) _⟩
  · have he1 : ((e : Int) != 0) = true := by rw [bne_iff_ne]; omega
    rw [decide_eq_true he]
    clear he
    have hN := fun w hr => isName_any w s hs hr
    generalize named s = M at *
    have HN := Lib.hid hN
    clear hN hs
    cases M
    · go_enter Tryz.func64, Tryz.ntmps64
      go_wp2_with (first
        | (go_at_call 96; refine (HN.out _ (HR.out _)).mono ?_; rintro x w1 ⟨rfl, hb⟩; have HB1 := Lib.hid (boxed hb); have h3 := cell_at HB1.out.1 3 _ rfl; clear hb))
      go_ret
      exact ⟨rfl, HB1.out.2⟩
    · by_cases hu : u = 0
      · subst hu
        rw [decide_eq_true rfl]
        go_enter Tryz.func64, Tryz.ntmps64
        go_wp2_with (first
          | (go_at_call 96; refine (HN.out _ (HR.out _)).mono ?_; rintro x w1 ⟨rfl, hb⟩; have HB1 := Lib.hid (boxed hb); have h4 := cell_at HB1.out.1 4 _ rfl; have h5 := cell_at HB1.out.1 5 _ rfl; have h6 := cell_at HB1.out.1 6 _ rfl; have h3 := cell_at HB1.out.1 3 _ rfl; clear hb)
          | (go_at_call 97; refine (HL.out _).mono ?_; rintro x w2 ⟨rfl, hb2⟩; have HB2 := Lib.hid (HB1.out.2.trans (hb2.mono HB1.out.2.size)); clear hb2))
        go_ret
        exact ⟨rfl, HB2.out⟩
      · have hu1 : ((u : Int) == 0) = false := by rw [beq_eq_false_iff_ne]; omega
        rw [decide_eq_false hu]
        clear hu
        go_enter Tryz.func64, Tryz.ntmps64
        go_wp2_with (first
          | (go_at_call 96; refine (HN.out _ (HR.out _)).mono ?_; rintro x w1 ⟨rfl, hb⟩; have HB1 := Lib.hid (boxed hb); have h3 := cell_at HB1.out.1 3 _ rfl; clear hb))
        go_ret
        exact ⟨rfl, HB1.out.2⟩
theorem formed2 (w : World) (e u : Nat) (s : ByteArray) (d f : Int) (A : Option Addr) (n c : Nat) (hs : s.size ≤ 100000) (hr : Fit w) :
    Calls Tryz.prog 64 #[.agg #[.int .i64 2, .int .u32 e, .string s, .int .u32 u, .int .i64 d, .int .i64 f, .slice A n c]] w fun x w' => x = .returned (.bool (formedB 2 e s u d f n)) ∧ Below w.heap.size w w' := by
  rw [formed_two]
  have hL := fun w (hr : Fit w) => fits_any w u d f A n c hr
  generalize fitsB d f n = E at *
  have HL := Lib.hid hL
  clear hL
  have HR := Lib.hid (fun (o : Obj) => hr.below ((Below.refl _ _).alloc (Nat.le_refl _) o))
  have HR0 := Lib.hid hr
  clear hr
  by_cases he : e = 0
  · subst he
    rw [decide_eq_false (by omega)]
    go_enter Tryz.func64, Tryz.ntmps64
    go_wp2_with (first
      | fail)
    go_ret
    exact ⟨rfl, (Below.refl _ _).alloc (Nat.le_refl _) _⟩
  · have he1 : ((e : Int) != 0) = true := by rw [bne_iff_ne]; omega
    rw [decide_eq_true he]
    clear he
    have hN := fun w hr => isName_any w s hs hr
    generalize named s = M at *
    have HN := Lib.hid hN
    clear hN hs
    cases M
    · go_enter Tryz.func64, Tryz.ntmps64
      go_wp2_with (first
        | (go_at_call 96; refine (HN.out _ (HR.out _)).mono ?_; rintro x w1 ⟨rfl, hb⟩; have HB1 := Lib.hid (boxed hb); have h3 := cell_at HB1.out.1 3 _ rfl; clear hb))
      go_ret
      exact ⟨rfl, HB1.out.2⟩
    · by_cases hu : u = 0
      · subst hu
        rw [decide_eq_false (by omega)]
        go_enter Tryz.func64, Tryz.ntmps64
        go_wp2_with (first
          | (go_at_call 96; refine (HN.out _ (HR.out _)).mono ?_; rintro x w1 ⟨rfl, hb⟩; have HB1 := Lib.hid (boxed hb); have h3 := cell_at HB1.out.1 3 _ rfl; clear hb))
        go_ret
        exact ⟨rfl, HB1.out.2⟩
      · have hu1 : ((u : Int) != 0) = true := by rw [bne_iff_ne]; omega
        rw [decide_eq_true hu]
        clear hu
        go_enter Tryz.func64, Tryz.ntmps64
        go_wp2_with (first
          | (go_at_call 96; refine (HN.out _ (HR.out _)).mono ?_; rintro x w1 ⟨rfl, hb⟩; have HB1 := Lib.hid (boxed hb); have h4 := cell_at HB1.out.1 4 _ rfl; have h5 := cell_at HB1.out.1 5 _ rfl; have h6 := cell_at HB1.out.1 6 _ rfl; have h3 := cell_at HB1.out.1 3 _ rfl; clear hb)
          | (go_at_call 98; refine (HL.out _ (HR0.out.below HB1.out.2)).mono ?_; rintro x w2 ⟨rfl, hb2⟩; have HB2 := Lib.hid (HB1.out.2.trans (hb2.mono HB1.out.2.size)); clear hb2))
        go_ret
        exact ⟨rfl, HB2.out⟩
theorem formed3 (w : World) (e u : Nat) (s : ByteArray) (d f : Int) (A : Option Addr) (n c : Nat) (hs : s.size ≤ 100000) (hr : Fit w) :
    Calls Tryz.prog 64 #[.agg #[.int .i64 3, .int .u32 e, .string s, .int .u32 u, .int .i64 d, .int .i64 f, .slice A n c]] w fun x w' => x = .returned (.bool (formedB 3 e s u d f n)) ∧ Below w.heap.size w w' := by
  rw [formed_three]
  have hL := fun w => says_any w u d f A n c
  generalize emptyB d f n = E at *
  have HL := Lib.hid hL
  clear hL
  have HR := Lib.hid (fun (o : Obj) => hr.below ((Below.refl _ _).alloc (Nat.le_refl _) o))
  have HR0 := Lib.hid hr
  clear hr
  by_cases he : e = 0
  · subst he
    rw [decide_eq_false (by omega)]
    go_enter Tryz.func64, Tryz.ntmps64
    go_wp2_with (first
      | fail)
    go_ret
    exact ⟨rfl, (Below.refl _ _).alloc (Nat.le_refl _) _⟩
  · have he1 : ((e : Int) != 0) = true := by rw [bne_iff_ne]; omega
    rw [decide_eq_true he]
    clear he
    by_cases hz : s.size = 0
    · have hs1 : s.toList.isEmpty = true := by
        have : s.data = #[] := Array.eq_empty_of_size_eq_zero hz
        simp [ByteArray.toList_eq, this]
      rw [decide_eq_true hz]
      clear hz hs
      by_cases hu : u = 0
      · subst hu
        rw [decide_eq_false (by omega)]
        go_enter Tryz.func64, Tryz.ntmps64
        go_wp2_with (first
          | fail)
        go_ret
        exact ⟨rfl, (Below.refl _ _).alloc (Nat.le_refl _) _⟩
      · have hu1 : ((u : Int) != 0) = true := by rw [bne_iff_ne]; omega
        rw [decide_eq_true hu]
        clear hu
        go_enter Tryz.func64, Tryz.ntmps64
        go_wp2_with (first
          | (go_at_call 97; refine (HL.out _).mono ?_; rintro x w2 ⟨rfl, hb2⟩; have HB2 := Lib.hid (boxed hb2).2; clear hb2))
        go_ret
        exact ⟨rfl, HB2.out⟩
    · have hs1 : s.toList.isEmpty = false := by
        rw [Bool.eq_false_iff]
        intro h
        rw [ByteArray.toList_eq] at h
        have h' : s.data = #[] := by simpa using h
        exact hz (by show s.data.size = 0; rw [h']; rfl)
      rw [decide_eq_false hz]
      clear hz hs
      go_enter Tryz.func64, Tryz.ntmps64
      go_wp2_with (first
        | fail)
      go_ret
      exact ⟨rfl, (Below.refl _ _).alloc (Nat.le_refl _) _⟩
theorem formed_any (w : World) (k : Int) (e u : Nat) (s : ByteArray) (d f : Int) (A : Option Addr) (n c : Nat) (hs : s.size ≤ 100000) (hr : Fit w) :
    Calls Tryz.prog 64 #[.agg #[.int .i64 k, .int .u32 e, .string s, .int .u32 u, .int .i64 d, .int .i64 f, .slice A n c]] w fun x w' => x = .returned (.bool (formedB k e s u d f n)) ∧ Below w.heap.size w w' := by
  by_cases h1 : k = 1
  · subst h1; exact formed1 w e u s d f A n c hs hr
  · by_cases h2 : k = 2
    · subst h2; exact formed2 w e u s d f A n c hs hr
    · by_cases h3 : k = 3
      · subst h3; exact formed3 w e u s d f A n c hs hr
      · rw [formed_other h1 h2 h3]
        have e1 : (k == 1) = false := by rw [beq_eq_false_iff_ne]; exact h1
        have e2 : (k == 2) = false := by rw [beq_eq_false_iff_ne]; exact h2
        have e3 : (k == 3) = false := by rw [beq_eq_false_iff_ne]; exact h3
        clear h1 h2 h3 hr
        go_enter Tryz.func64, Tryz.ntmps64
        go_wp2_with (first
          | fail)
        go_ret
        exact ⟨rfl, (Below.refl _ _).alloc (Nat.le_refl _) _⟩
end Go.Proofs.YtklmbiekpilkhaaGreatDoor.bod
namespace Go.Proofs.YtklmbiekpilkhaaGreatDoor.bod
open Go.ChangeShapes Go.WideShapes Go.ChangeAt Go.RowKit
open Go.Proofs.YtklmbiekpilkhaaGreatDoor.codec (Bytes OutIs More Touch bytesOf bytesOf_length strOf)
set_option linter.unusedVariables false
set_option linter.unusedSimpArgs false
set_option maxRecDepth 100000

/-- A note at b, and an Out at P that has taken l. -/
def Enc (W : World) (b : Nat) (cs : Array Value) (P : Nat) (l F : List Nat) (w : World) : Prop :=
  w.heap[b]? = some (.cells cs 100 (0, 0)) ∧ OutIs w P l F ∧ (∀ k ∈ F, W.heap.size ≤ k ∧ k ≠ b) ∧ b < w.heap.size ∧ Below W.heap.size W w
theorem Enc.more {W w w' : World} {b P : Nat} {cs : Array Value} {l l' F : List Nat} (h : Enc W b cs P l F w) (m : More w P l' F w') : ∃ F', Enc W b cs P l' F' w' := by
  obtain ⟨hb, ho, hF, hlt, hbel⟩ := h
  obtain ⟨F', o', t, s⟩ := m
  have hsz := t.2.2.2.1
  refine ⟨F', ?_, o', fun k hk => ?_, by omega, hbel.trans (t.toBelow _ hbel.size fun i hi hf => by have := (hF i hf).1; omega)⟩
  · exact (t.2.2.2.2 b hlt (fun hf => (hF b hf).2 rfl)).trans hb
  · rcases s k hk with h | h
    · exact hF k h
    · have := hbel.size
      exact ⟨by omega, by omega⟩
theorem enc_N {W w : World} {b P : Nat} {cs : Array Value} {l F : List Nat} (h : Enc W b cs P l F w) (v n : Nat) (hl : l.length ≤ 9000000) (h1 : 1 ≤ n) (h7 : n ≤ 7) (hv : v < 256 ^ n) :
    Calls Tryz.prog 25 #[.pointer (some ⟨P, 0, none⟩), .int .i64 v, .int .i64 n] w fun e w' => e = .returned (.tuple #[]) ∧ ∃ F', Enc W b cs P (l ++ bytesOf v n) F' w' :=
  (codec.outN_fits w P v n l F h.2.1 hl h1 h7 hv).mono fun _ _ ⟨he, hm⟩ => ⟨he, h.more hm⟩
theorem enc_Text {W w : World} {b P : Nat} {cs : Array Value} {l F : List Nat} (h : Enc W b cs P l F w) (s : ByteArray) (hl : l.length ≤ 5000000) (hs : s.size ≤ 65535) :
    Calls Tryz.prog 24 #[.pointer (some ⟨P, 0, none⟩), .string s] w fun e w' => e = .returned (.tuple #[]) ∧ ∃ F', Enc W b cs P (l ++ txt s) F' w' := by
  have := codec.outText_good w P l F (nums s) h.2.1 hl (nums_lt s) (by rw [nums_length]; exact hs)
  rw [strOf_nums, nums_length] at this
  exact this.mono fun _ _ ⟨he, hm⟩ => ⟨he, h.more hm⟩
theorem enc_Raw {W w : World} {b P n c : Nat} {cs : Array Value} {l F m : List Nat} {A : Option Addr} (h : Enc W b cs P l F w) (hB : Bytes W A n m) (hA : A = none → c = 0) (hn : l.length + n ≤ 10000000) :
    Calls Tryz.prog 85 #[.pointer (some ⟨P, 0, none⟩), .slice A n c] w fun e w' => e = .returned (.tuple #[]) ∧ ∃ F', Enc W b cs P (l ++ m) F' w' :=
  (codec.raw_good w P l F A n c m h.2.1 (hB.below hB.lt h.2.2.2.2) hn hA (fun ad e h0 hF => by have := hB.lt ad e h0; have := (h.2.2.1 _ hF).1; omega)).mono fun _ _ ⟨he, hm⟩ => ⟨he, h.more hm⟩
theorem enc_End {W w : World} {b P : Nat} {cs : Array Value} {l F : List Nat} (h : Enc W b cs P l F w) (N : Nat) (hN : l.length = N) (hl : N ≤ 10000000) :
    Calls Tryz.prog 53 #[.pointer (some ⟨P, 0, none⟩)] w fun e w' => ∃ g, e = .returned (.tuple #[.slice (some ⟨g, 0, none⟩) N N, .int .i64 0]) ∧ W.heap.size ≤ g ∧ Bytes w' (some ⟨g, 0, none⟩) N l ∧ Below W.heap.size W w' := by
  subst hN
  refine (codec.end_good w P l F h.2.1 hl).mono ?_
  rintro e w' ⟨v, rfl, hm⟩
  obtain ⟨g, rfl, hg, hb, hB⟩ := hm.bytes
  have := h.2.2.2.2.size
  exact ⟨g, rfl, by omega, hB, h.2.2.2.2.trans (hb.mono this)⟩
theorem enc_start {W w1 : World} {cs : Array Value} (h : Below (W.alloc (.cells cs 100)).heap.size (W.alloc (.cells cs 100)) w1) :
    Enc W W.heap.size cs w1.heap.size [] [w1.heap.size] (w1.alloc (.cells #[.pointer none, .int .i64 0, .bool false] 79)) := by
  obtain ⟨h1, h2⟩ := boxed h
  have hs : W.heap.size < w1.heap.size := by have := h.size; simp at this; omega
  have h3 : Below w1.heap.size w1 (w1.alloc (.cells #[.pointer none, .int .i64 0, .bool false] 79)) := (Below.refl _ _).alloc (Nat.le_refl _) _
  refine ⟨(h3.block _ hs).trans h1, codec.fresh_new w1, fun k hk => ?_, by have := h3.size; omega, h2.trans (h3.mono h2.size)⟩
  simp at hk
  subst hk
  exact ⟨by omega, by omega⟩
/-- What Encode answers. -/
def EncAns (W : World) (k : Int) (e : Nat) (s : ByteArray) (u : Nat) (d f : Int) (o : List Nat) (x : Ending) (w' : World) : Prop :=
  if formedB k e s u d f o.length then ∃ g N, x = .returned (.tuple #[.slice (some ⟨g, 0, none⟩) N N, .int .i64 0]) ∧ (payL k e s u d f o).length = N ∧ W.heap.size ≤ g ∧ Bytes w' (some ⟨g, 0, none⟩) N (payL k e s u d f o) ∧ Below W.heap.size W w'
  else x = .returned (.tuple #[.slice none 0 0, .int .i64 1]) ∧ Below W.heap.size W w'
end Go.Proofs.YtklmbiekpilkhaaGreatDoor.bod
namespace Go.Proofs.YtklmbiekpilkhaaGreatDoor.bod
open Go.ChangeShapes Go.WideShapes Go.ChangeAt Go.RowKit
open Go.Proofs.YtklmbiekpilkhaaGreatDoor.codec (Bytes bytesOf bytesOf_length strOf strOf_size numOf)
open Go.Proofs.YtklmbiekpilkhaaGreatDoor.rd
set_option linter.unusedVariables false
set_option linter.unusedSimpArgs false
set_option maxRecDepth 100000

/-- A reader at q that has L left, and a note at b. -/
def Dc (W : World) (q g : Nat) (L : Option (List Nat)) (b : Nat) (cs : Array Value) (w : World) : Prop :=
  Rd W q g L w ∧ w.heap[b]? = some (.cells cs 100 (0, 0)) ∧ b ≠ q ∧ b ≠ g ∧ W.heap.size ≤ b
theorem Dc.lt {W w : World} {q g b : Nat} {L : Option (List Nat)} {cs : Array Value} (h : Dc W q g L b cs w) : b < w.heap.size := (Array.getElem?_eq_some_iff.1 h.2.1).1
theorem Dc.touch {W w w' : World} {q g b : Nat} {L L' : Option (List Nat)} {cs : Array Value} (h : Dc W q g L b cs w) (hR : Rd W q g L' w') (ht : codec.Touch (fun i => i = q) w w') : Dc W q g L' b cs w' :=
  ⟨hR, (ht.2.2.2.2 b h.lt h.2.2.1).trans h.2.1, h.2.2⟩
theorem Dc.below {W w w' : World} {q g b : Nat} {L : Option (List Nat)} {cs : Array Value} (h : Dc W q g L b cs w) (hb : Below w.heap.size w w') : Dc W q g L b cs w' :=
  ⟨h.1.below hb, (hb.block b h.lt).trans h.2.1, h.2.2⟩
theorem rd_other {W w : World} {q g b : Nat} {L : Option (List Nat)} (h : Rd W q g L w) (h1 : b ≠ q) (h2 : b ≠ g) (h3 : W.heap.size ≤ b) (i : Nat) (v : Value) : Rd W q g L (w.setCell ⟨b, i, none⟩ v) := by
  obtain ⟨k1, k2, k3, k4, k5⟩ := h
  refine ⟨?_, k2, by simpa using k3, by simpa using k4, k5.setCell (p := ⟨b, i, none⟩) h3 v⟩
  have e1 : (w.setCell ⟨b, i, none⟩ v).heap[q]? = w.heap[q]? := heap_setCell_other _ _ _ _ (Ne.symm h1)
  have e2 : (w.setCell ⟨b, i, none⟩ v).heap[g]? = w.heap[g]? := heap_setCell_other _ _ _ _ (Ne.symm h2)
  cases L with
  | none => exact e1.trans k1
  | some l =>
    obtain ⟨o, c, hi, hc⟩ := k1
    exact ⟨o, c, hi.kept e1 e2, hc⟩
theorem Dc.set {W w : World} {q g b : Nat} {L : Option (List Nat)} {cs cs' : Array Value} (h : Dc W q g L b cs w) (i : Nat) (v : Value) (hc : cs.setIfInBounds i v = cs') : Dc W q g L b cs' (w.setCell ⟨b, i, none⟩ v) :=
  ⟨rd_other h.1 h.2.2.1 h.2.2.2.1 h.2.2.2.2 i v, by rw [heap_setCell_same _ _ _ _ _ _ h.2.1, hc], h.2.2⟩
theorem Dc.cell {W w : World} {q g b : Nat} {L : Option (List Nat)} {cs : Array Value} (h : Dc W q g L b cs w) (i : Nat) (v : Value) (hv : cs[i]? = some v) : w.cell? ⟨b, i, none⟩ = some v := cell_at h.2.1 i v hv
theorem Dc.froz {W w : World} {q g b : Nat} {L : Option (List Nat)} {cs : Array Value} (h : Dc W q g L b cs w) (i : Nat) : w.frozen? ⟨b, i, none⟩ = false := frozen_of_row w b i cs _ h.2.1
theorem dc_N {W w : World} {q g b : Nat} {L : Option (List Nat)} {cs : Array Value} (h : Dc W q g L b cs w) (s : Nat) (h1 : 1 ≤ s) (h7 : s ≤ 7) :
    Calls Tryz.prog 18 #[.pointer (some ⟨q, 0, none⟩), .int .i64 s] w fun e w' => e = .returned (.int .i64 (numOf (got s L) : Nat)) ∧ Dc W q g (rest s L) b cs w' :=
  (rd_N h.1 s h1 h7).mono fun _ _ ⟨he, hR, ht⟩ => ⟨he, h.touch hR ht⟩
theorem dc_Text {W w : World} {q g b : Nat} {L : Option (List Nat)} {cs : Array Value} (h : Dc W q g L b cs w) :
    Calls Tryz.prog 17 #[.pointer (some ⟨q, 0, none⟩)] w fun e w' => e = .returned (.string (TX L)) ∧ Dc W q g (LT L) b cs w' :=
  (rd_Text h.1).mono fun _ _ ⟨he, hR, w1, t1, t2⟩ => ⟨he, hR, ((t2.2.2.2.2 b (Nat.lt_of_lt_of_le h.lt t1.2.2.2.1) h.2.2.1).trans (t1.2.2.2.2 b h.lt h.2.2.1)).trans h.2.1, h.2.2⟩
theorem dc_Left {W w : World} {q g b : Nat} {L : Option (List Nat)} {cs : Array Value} (h : Dc W q g L b cs w) :
    Calls Tryz.prog 63 #[.pointer (some ⟨q, 0, none⟩)] w fun e w' => e = .returned (.int .i64 (leftN L : Nat)) ∧ w = w' := rd_Left h.1
theorem dc_Raw {W w : World} {q g b : Nat} {L : Option (List Nat)} {cs : Array Value} (h : Dc W q g L b cs w) (s : Nat) (hl : ∀ l, L = some l → ∀ b ∈ l, b < 256) :
    Calls Tryz.prog 62 #[.pointer (some ⟨q, 0, none⟩), .int .i64 s] w fun e w' => ∃ g' m, m = (got s L).length ∧ e = .returned (.slice (some ⟨g', 0, none⟩) m m) ∧ b < g' ∧ W.heap.size ≤ g' ∧ Bytes w' (some ⟨g', 0, none⟩) m (got s L) ∧ Dc W q g (rest s L) b cs w' :=
  (rd_Raw h.1 s hl).mono fun _ _ ⟨g', m, hm, he, hg, hB, hR, ht⟩ => ⟨g', m, hm, he, Nat.lt_of_lt_of_le h.lt hg, Nat.le_trans h.2.2.2.2 (Nat.le_trans (Nat.le_of_lt h.lt) hg), hB, h.touch hR ht⟩
theorem dc_Done {W w : World} {q g b : Nat} {L : Option (List Nat)} {cs : Array Value} (h : Dc W q g L b cs w) :
    Calls Tryz.prog 20 #[.pointer (some ⟨q, 0, none⟩)] w fun e w' => e = .returned (.bool (decide (L = some []))) ∧ w = w' := rd_Done h.1
theorem dc_start {W w : World} {q g : Nat} {L : Option (List Nat)} (h : Rd W q g L w) (cs : Array Value) : Dc W q g L w.heap.size cs (w.alloc (.cells cs 100)) :=
  ⟨h.alloc _, heap_alloc_new w _, by have := h.2.2.1; omega, by have := h.2.2.2.1; omega, h.bel.size⟩
theorem results_note {P : Program} {fn : Func} {p q : Tmp} {ty : TypeId} (h : fn.results = #[.cell p ty, .tmp q]) (tmps : Array Value) (w : World) (g : Nat) (t : TypeId) (cs : Array Value) (fr : Nat × Nat) (d : TypeDesc)
    (hp : tmps.getD p undef = .pointer (some ⟨g, 0, none⟩)) (hg : w.heap[g]? = some (.cells cs t fr))
    (hu : P.underlying ty = some d) (hd : (match d with | .struct _ | .array _ _ => true | _ => false) = true) (hi : (P.info? ty).map (·.size) = some cs.size) :
    (results fn tmps).run P w = .ok (.tuple #[.agg cs, tmps.getD q undef]) w := by
  have hp' : tmps[p]?.getD undef = .pointer (some ⟨g, 0, none⟩) := by simpa using hp
  simp [results, h, hp', asAddr, run_loadVar_row w g t ty cs fr d hg hu hd hi]
theorem below_row {B g : Nat} {a w : World} (h : Below B a w) (hg : B ≤ g) (cs : Array Value) : Below B a (w.setRow g cs) :=
  h.trans ⟨rfl, rfl, rfl, by simp, fun k hk => by simp only [World.setRow, Array.getElem?_modify]; rw [if_neg (by omega)]⟩
theorem tx_size {M : Option (List Nat)} (hM : ∀ l, M = some l → ∀ b ∈ l, b < 256) : (TX M).size ≤ 65535 := by
  unfold TX
  rw [strOf_size]
  have h1 := got_len (numOf (got 2 M)) (rest 2 M)
  have h2 := got_num (k := 2) hM
  omega
/-- The cells of a note. -/
def zeroN : Array Value := #[.int .i64 0, .int .u32 0, .string ⟨#[]⟩, .int .u32 0, .int .i64 0, .int .i64 0, .slice none 0 0]
theorem noteSize (cs : Array Value) (h : cs.size = 7) : (Tryz.prog.info? 100).map (·.size) = some cs.size := by
  rw [h]
  kernel_rfl
theorem rd_ep {W w : World} {q g : Nat} {L : List Nat} (h : Rd W q g (some L) w) :
    Calls Tryz.prog 18 #[.pointer (some ⟨q, 0, none⟩), .int .i64 (4 : Nat)] w fun e w' => e = .returned (.int .i64 (epN L : Nat)) ∧ Rd W q g (LA L) w' :=
  (rd_N h 4 (by decide) (by decide)).mono fun _ _ ⟨a, b, _⟩ => ⟨a, b⟩
theorem dc_uid {W w : World} {q g b : Nat} {L : List Nat} {cs : Array Value} (h : Dc W q g (LA L) b cs w) :
    Calls Tryz.prog 18 #[.pointer (some ⟨q, 0, none⟩), .int .i64 (4 : Nat)] w fun e w' => e = .returned (.int .i64 (uidN L : Nat)) ∧ Dc W q g (LU L) b cs w' := dc_N h 4 (by decide) (by decide)
theorem dc_dat {W w : World} {q g b : Nat} {L : List Nat} {cs : Array Value} (h : Dc W q g (LU L) b cs w) :
    Calls Tryz.prog 18 #[.pointer (some ⟨q, 0, none⟩), .int .i64 (6 : Nat)] w fun e w' => e = .returned (.int .i64 (datN L : Nat)) ∧ Dc W q g (LD L) b cs w' := dc_N h 6 (by decide) (by decide)
theorem dc_fla {W w : World} {q g b : Nat} {L : List Nat} {cs : Array Value} (h : Dc W q g (LD L) b cs w) :
    Calls Tryz.prog 18 #[.pointer (some ⟨q, 0, none⟩), .int .i64 (1 : Nat)] w fun e w' => e = .returned (.int .i64 (flaN L : Nat)) ∧ Dc W q g (LF L) b cs w' := dc_N h 1 (by decide) (by decide)
theorem seven {w : World} {g : Nat} {t : TypeId} {cs : Array Value} (h : w.heap[g]? = some (.cells cs t (0, 0))) (hs : cs.size = 7) (v0 v1 v2 v3 v4 v5 v6 : Value) :
    (((((((w.setCell ⟨g, 0, none⟩ v0).setCell ⟨g, 1, none⟩ v1).setCell ⟨g, 2, none⟩ v2).setCell ⟨g, 3, none⟩ v3).setCell ⟨g, 4, none⟩ v4).setCell ⟨g, 5, none⟩ v5).setCell ⟨g, 6, none⟩ v6).heap[g]? = some (.cells #[v0, v1, v2, v3, v4, v5, v6] t (0, 0)) ∧
    (∀ k, k ≠ g → (((((((w.setCell ⟨g, 0, none⟩ v0).setCell ⟨g, 1, none⟩ v1).setCell ⟨g, 2, none⟩ v2).setCell ⟨g, 3, none⟩ v3).setCell ⟨g, 4, none⟩ v4).setCell ⟨g, 5, none⟩ v5).setCell ⟨g, 6, none⟩ v6).heap[k]? = w.heap[k]?) ∧
    ∀ (B : Nat) (a : World), Below B a w → B ≤ g → Below B a (((((((w.setCell ⟨g, 0, none⟩ v0).setCell ⟨g, 1, none⟩ v1).setCell ⟨g, 2, none⟩ v2).setCell ⟨g, 3, none⟩ v3).setCell ⟨g, 4, none⟩ v4).setCell ⟨g, 5, none⟩ v5).setCell ⟨g, 6, none⟩ v6) := by
  refine ⟨?_, fun k hk => by rw [heap_setCell_other _ _ _ _ hk, heap_setCell_other _ _ _ _ hk, heap_setCell_other _ _ _ _ hk, heap_setCell_other _ _ _ _ hk, heap_setCell_other _ _ _ _ hk, heap_setCell_other _ _ _ _ hk, heap_setCell_other _ _ _ _ hk], fun B a hb hg => ((((((hb.setCell (p := ⟨g, 0, none⟩) hg _).setCell (p := ⟨g, 1, none⟩) hg _).setCell (p := ⟨g, 2, none⟩) hg _).setCell (p := ⟨g, 3, none⟩) hg _).setCell (p := ⟨g, 4, none⟩) hg _).setCell (p := ⟨g, 5, none⟩) hg _).setCell (p := ⟨g, 6, none⟩) hg _⟩
  rw [heap_setCell_same _ g 6 _ t _ (heap_setCell_same _ g 5 _ t _ (heap_setCell_same _ g 4 _ t _ (heap_setCell_same _ g 3 _ t _ (heap_setCell_same _ g 2 _ t _ (heap_setCell_same _ g 1 _ t _ (heap_setCell_same _ g 0 _ t _ h))))))]
  obtain ⟨l⟩ := cs
  have hl : l.length = 7 := hs
  match l, hl with
  | [a0, a1, a2, a3, a4, a5, a6], _ => rfl
/-- What Decode answers. -/
def tup (b : Bool) (cs : Array Value) : Value := if b then .tuple #[.agg cs, .int .i64 0] else .tuple #[.agg zeroN, .int .i64 2]
theorem octs_set {W w : World} {q g b : Nat} {L : Option (List Nat)} {cs : Array Value} (h : Dc W q g L b cs w) {g' m : Nat} {l : List Nat} (hg : b < g') (hB : Bytes w (some ⟨g', 0, none⟩) m l) (i : Nat) (v : Value) : Bytes (w.setCell ⟨b, i, none⟩ v) (some ⟨g', 0, none⟩) m l :=
  hB.kept fun ad e hn => by cases e; exact heap_setCell_other _ _ _ _ (by show g' ≠ b; omega)
set_option maxHeartbeats 1000000 in
theorem decode1 (W : World) (A : Option Addr) (n c : Nat) (L : List Nat) (hB : Bytes W A n L) (hn : n ≤ 100000) (hr : Fit W) :
    Calls Tryz.prog 36 #[.int .i64 1, .slice A n c] W fun x w' => x = .returned (tup (ok1 L) #[.int .i64 1, .int .u32 (epN L), .string (TX (LA L)), .int .u32 0, .int .i64 0, .int .i64 0, .slice none 0 0]) ∧ Below W.heap.size W w' := by
  obtain ⟨W1, hW1⟩ : ∃ W1, W1 = W.alloc (.cells zeroN 100) := ⟨_, rfl⟩
  have HBW := Lib.hid (show Below W.heap.size W W1 by rw [hW1]; exact (Below.refl _ _).alloc (Nat.le_refl _) _)
  have HWS := Lib.hid (show W.heap.size < W1.heap.size by rw [hW1]; simp)
  have HRC := Lib.hid (fun (w1 : World) (h : Below W1.heap.size W1 w1) => (boxed (w := W) (o := .cells zeroN 100) (w1 := w1) (by rw [← hW1]; exact h)).1)
  have HFit := Lib.hid (fun (w1 : World) (h : Below W1.heap.size W1 w1) => hr.below (HBW.out.trans (h.mono HBW.out.size)))
  have HNW := Lib.hid (rd_new W1 A n c L (hB.below hB.lt HBW.out) (by omega))
  have hb := hB.2.1
  have HL := Lib.hid hb
  have HEP := Lib.hid (ep_lt hb)
  have HW1 := Lib.hid hW1
  have HOK : Hid (ok1 L = (decide (LT (LA L) = some []) && formedB 1 (epN L) (TX (LA L)) 0 0 0 0)) := rfl
  have hTX := tx_size (ltLA hb)
  have hF := fun w hr => formed_any w 1 (epN L) 0 (TX (LA L)) 0 0 none 0 0 (by omega) hr
  have HF := Lib.hid hF
  clear hW1 hB hn hr hb hF hTX
  go_enter Tryz.func36, Tryz.ntmps36
  go_wp2_with fail
  rw [show (#[.int .i64 0, .int .u32 0, .string ⟨#[]⟩, .int .u32 0, .int .i64 0, .int .i64 0, .slice none 0 0] : Array Value) = zeroN from rfl, ← HW1.out]
  refine HNW.out.mono ?_
  rintro x w1 ⟨q, g, rfl, hR1⟩
  have HR1 := Lib.hid hR1
  clear hR1 HNW
  go_wp2_with fail
  refine (rd_ep HR1.out).mono ?_
  rintro x w2 ⟨rfl, hR2⟩
  have HR2 := Lib.hid hR2
  have he := IntWalk.u32_in (epN L : Nat) (by have := HEP.out; omega)
  clear hR2 HR1
  go_wp2_with fail
  have HD2 := Lib.hid (dc_start HR2.out #[.int .i64 1, .int .u32 (epN L), .string ⟨#[]⟩, .int .u32 0, .int .i64 0, .int .i64 0, .slice none 0 0])
  refine (dc_Text HD2.out).mono ?_
  rintro x w3 ⟨rfl, hD3⟩
  have HD3 := Lib.hid hD3
  generalize w2.heap.size = b at *
  have e2 := HD3.out.cell 2 _ rfl
  have f2 := HD3.out.froz 2
  clear hD3 HD2 he HR2
  go_wp2_with fail
  have HD4 := Lib.hid (HD3.out.set 2 (.string (TX (LA L))) rfl)
  generalize w3.setCell ⟨b, 2, none⟩ (.string (TX (LA L))) = w4 at *
  clear HD3 e2 f2
  have HDn := Lib.hid (dc_Done HD4.out)
  have HK := HOK.out
  clear HOK
  generalize decide (LT (LA L) = some []) = DD at *
  generalize formedB 1 (epN L) (TX (LA L)) 0 0 0 0 = FF at *
  generalize htx : TX (LA L) = tx at *
  have Etx := Lib.hid htx
  clear htx
  generalize hep : epN L = ep at *
  have Eep := Lib.hid hep
  clear hep
  have HK := Lib.hid HK
  refine HDn.out.mono ?_
  rintro x w9 ⟨rfl, rfl⟩
  clear HDn
  cases DD
  · · clear HF
      have r0 := cell_at (HRC.out _ HD4.out.1.bel) 0 _ rfl
      have s0 := frozen_of_row _ _ 0 _ _ (HRC.out _ HD4.out.1.bel)
      have r1 := cell_at (HRC.out _ HD4.out.1.bel) 1 _ rfl
      have s1 := frozen_of_row _ _ 1 _ _ (HRC.out _ HD4.out.1.bel)
      have r2 := cell_at (HRC.out _ HD4.out.1.bel) 2 _ rfl
      have s2 := frozen_of_row _ _ 2 _ _ (HRC.out _ HD4.out.1.bel)
      have r3 := cell_at (HRC.out _ HD4.out.1.bel) 3 _ rfl
      have s3 := frozen_of_row _ _ 3 _ _ (HRC.out _ HD4.out.1.bel)
      have r4 := cell_at (HRC.out _ HD4.out.1.bel) 4 _ rfl
      have s4 := frozen_of_row _ _ 4 _ _ (HRC.out _ HD4.out.1.bel)
      have r5 := cell_at (HRC.out _ HD4.out.1.bel) 5 _ rfl
      have s5 := frozen_of_row _ _ 5 _ _ (HRC.out _ HD4.out.1.bel)
      have r6 := cell_at (HRC.out _ HD4.out.1.bel) 6 _ rfl
      have s6 := frozen_of_row _ _ 6 _ _ (HRC.out _ HD4.out.1.bel)
      go_wp2_with fail
      have h7 := seven (HRC.out _ HD4.out.1.bel) rfl (.int .i64 0) (.int .u32 0) (.string ⟨#[]⟩) (.int .u32 0) (.int .i64 0) (.int .i64 0) (.slice none 0 0)
      exact bodyPost_ret (results_note Tryz.results36 _ _ W.heap.size _ _ _ _ rfl h7.1 Tryz.underlying100 rfl (noteSize _ rfl)) rfl ⟨by rw [show ok1 L = false from HK.out]; rfl, h7.2.2 _ _ (HBW.out.trans (HD4.out.1.bel.mono HBW.out.size)) (Nat.le_refl _)⟩
  · cases FF
    · --A
      have c0 := HD4.out.cell 0 _ rfl
      have c1 := HD4.out.cell 1 _ rfl
      have c2 := HD4.out.cell 2 _ rfl
      have c3 := HD4.out.cell 3 _ rfl
      have c4 := HD4.out.cell 4 _ rfl
      have c5 := HD4.out.cell 5 _ rfl
      have c6 := HD4.out.cell 6 _ rfl
      go_wp2_with (go_at_call 64; refine (HF.out _ (HFit.out _ HD4.out.1.bel)).mono ?_; rintro x w5 ⟨rfl, hb5⟩; have HD5 := Lib.hid (HD4.out.below hb5); clear hb5 c0 c1 c2 c3 c4 c5 c6; have r0 := cell_at (HRC.out _ HD5.out.1.bel) 0 _ rfl; have s0 := frozen_of_row _ _ 0 _ _ (HRC.out _ HD5.out.1.bel); have r1 := cell_at (HRC.out _ HD5.out.1.bel) 1 _ rfl; have s1 := frozen_of_row _ _ 1 _ _ (HRC.out _ HD5.out.1.bel); have r2 := cell_at (HRC.out _ HD5.out.1.bel) 2 _ rfl; have s2 := frozen_of_row _ _ 2 _ _ (HRC.out _ HD5.out.1.bel); have r3 := cell_at (HRC.out _ HD5.out.1.bel) 3 _ rfl; have s3 := frozen_of_row _ _ 3 _ _ (HRC.out _ HD5.out.1.bel); have r4 := cell_at (HRC.out _ HD5.out.1.bel) 4 _ rfl; have s4 := frozen_of_row _ _ 4 _ _ (HRC.out _ HD5.out.1.bel); have r5 := cell_at (HRC.out _ HD5.out.1.bel) 5 _ rfl; have s5 := frozen_of_row _ _ 5 _ _ (HRC.out _ HD5.out.1.bel); have r6 := cell_at (HRC.out _ HD5.out.1.bel) 6 _ rfl; have s6 := frozen_of_row _ _ 6 _ _ (HRC.out _ HD5.out.1.bel))
      have h7 := seven (HRC.out _ HD5.out.1.bel) rfl (.int .i64 0) (.int .u32 0) (.string ⟨#[]⟩) (.int .u32 0) (.int .i64 0) (.int .i64 0) (.slice none 0 0)
      exact bodyPost_ret (results_note Tryz.results36 _ _ W.heap.size _ _ _ _ rfl h7.1 Tryz.underlying100 rfl (noteSize _ rfl)) rfl ⟨by rw [show ok1 L = false from HK.out]; rfl, h7.2.2 _ _ (HBW.out.trans (HD5.out.1.bel.mono HBW.out.size)) (Nat.le_refl _)⟩
    · --B
      have c0 := HD4.out.cell 0 _ rfl
      have c1 := HD4.out.cell 1 _ rfl
      have c2 := HD4.out.cell 2 _ rfl
      have c3 := HD4.out.cell 3 _ rfl
      have c4 := HD4.out.cell 4 _ rfl
      have c5 := HD4.out.cell 5 _ rfl
      have c6 := HD4.out.cell 6 _ rfl
      go_wp2_with (go_at_call 64; refine (HF.out _ (HFit.out _ HD4.out.1.bel)).mono ?_; rintro x w5 ⟨rfl, hb5⟩; have HD5 := Lib.hid (HD4.out.below hb5); clear hb5 c0 c1 c2 c3 c4 c5 c6; have c0 := HD5.out.cell 0 _ rfl; have c1 := HD5.out.cell 1 _ rfl; have c2 := HD5.out.cell 2 _ rfl; have c3 := HD5.out.cell 3 _ rfl; have c4 := HD5.out.cell 4 _ rfl; have c5 := HD5.out.cell 5 _ rfl; have c6 := HD5.out.cell 6 _ rfl; have r0 := cell_at (HRC.out _ HD5.out.1.bel) 0 _ rfl; have s0 := frozen_of_row _ _ 0 _ _ (HRC.out _ HD5.out.1.bel); have r1 := cell_at (HRC.out _ HD5.out.1.bel) 1 _ rfl; have s1 := frozen_of_row _ _ 1 _ _ (HRC.out _ HD5.out.1.bel); have r2 := cell_at (HRC.out _ HD5.out.1.bel) 2 _ rfl; have s2 := frozen_of_row _ _ 2 _ _ (HRC.out _ HD5.out.1.bel); have r3 := cell_at (HRC.out _ HD5.out.1.bel) 3 _ rfl; have s3 := frozen_of_row _ _ 3 _ _ (HRC.out _ HD5.out.1.bel); have r4 := cell_at (HRC.out _ HD5.out.1.bel) 4 _ rfl; have s4 := frozen_of_row _ _ 4 _ _ (HRC.out _ HD5.out.1.bel); have r5 := cell_at (HRC.out _ HD5.out.1.bel) 5 _ rfl; have s5 := frozen_of_row _ _ 5 _ _ (HRC.out _ HD5.out.1.bel); have r6 := cell_at (HRC.out _ HD5.out.1.bel) 6 _ rfl; have s6 := frozen_of_row _ _ 6 _ _ (HRC.out _ HD5.out.1.bel))
      have h7 := seven (HRC.out _ HD5.out.1.bel) rfl (.int .i64 1) (.int .u32 ep) (.string tx) (.int .u32 0) (.int .i64 0) (.int .i64 0) (.slice none 0 0)
      exact bodyPost_ret (results_note Tryz.results36 _ _ W.heap.size _ _ _ _ rfl h7.1 Tryz.underlying100 rfl (noteSize _ rfl)) rfl ⟨by rw [show ok1 L = true from HK.out, Etx.out, Eep.out]; rfl, h7.2.2 _ _ (HBW.out.trans (HD5.out.1.bel.mono HBW.out.size)) (Nat.le_refl _)⟩
set_option maxHeartbeats 1000000 in
theorem decode3 (W : World) (A : Option Addr) (n c : Nat) (L : List Nat) (hB : Bytes W A n L) (hn : n ≤ 100000) (hr : Fit W) :
    Calls Tryz.prog 36 #[.int .i64 3, .slice A n c] W fun x w' => x = .returned (tup (ok3 L) #[.int .i64 3, .int .u32 (epN L), .string ⟨#[]⟩, .int .u32 (uidN L), .int .i64 0, .int .i64 0, .slice none 0 0]) ∧ Below W.heap.size W w' := by
  obtain ⟨W1, hW1⟩ : ∃ W1, W1 = W.alloc (.cells zeroN 100) := ⟨_, rfl⟩
  have HBW := Lib.hid (show Below W.heap.size W W1 by rw [hW1]; exact (Below.refl _ _).alloc (Nat.le_refl _) _)
  have HWS := Lib.hid (show W.heap.size < W1.heap.size by rw [hW1]; simp)
  have HRC := Lib.hid (fun (w1 : World) (h : Below W1.heap.size W1 w1) => (boxed (w := W) (o := .cells zeroN 100) (w1 := w1) (by rw [← hW1]; exact h)).1)
  have HFit := Lib.hid (fun (w1 : World) (h : Below W1.heap.size W1 w1) => hr.below (HBW.out.trans (h.mono HBW.out.size)))
  have HNW := Lib.hid (rd_new W1 A n c L (hB.below hB.lt HBW.out) (by omega))
  have hb := hB.2.1
  have HL := Lib.hid hb
  have HEP := Lib.hid (ep_lt hb)
  have HW1 := Lib.hid hW1
  have HOK : Hid (ok3 L = (decide (LU L = some []) && formedB 3 (epN L) ⟨#[]⟩ (uidN L) 0 0 0)) := rfl
  have hF := fun w hr => formed_any w 3 (epN L) (uidN L) ⟨#[]⟩ 0 0 none 0 0 (by decide) hr
  have HF := Lib.hid hF
  have HU := Lib.hid (uid_lt hb)
  clear hW1 hB hn hr hb hF
  go_enter Tryz.func36, Tryz.ntmps36
  go_wp2_with fail
  rw [show (#[.int .i64 0, .int .u32 0, .string ⟨#[]⟩, .int .u32 0, .int .i64 0, .int .i64 0, .slice none 0 0] : Array Value) = zeroN from rfl, ← HW1.out]
  refine HNW.out.mono ?_
  rintro x w1 ⟨q, g, rfl, hR1⟩
  have HR1 := Lib.hid hR1
  clear hR1 HNW
  go_wp2_with fail
  refine (rd_ep HR1.out).mono ?_
  rintro x w2 ⟨rfl, hR2⟩
  have HR2 := Lib.hid hR2
  have he := IntWalk.u32_in (epN L : Nat) (by have := HEP.out; omega)
  clear hR2 HR1
  go_wp2_with fail
  have HD2 := Lib.hid (dc_start HR2.out #[.int .i64 3, .int .u32 (epN L), .string ⟨#[]⟩, .int .u32 0, .int .i64 0, .int .i64 0, .slice none 0 0])
  refine (dc_uid HD2.out).mono ?_
  rintro x w3 ⟨rfl, hD3⟩
  have HD3 := Lib.hid hD3
  generalize w2.heap.size = b at *
  have e2 := HD3.out.cell 3 _ rfl
  have f2 := HD3.out.froz 3
  clear hD3 HD2 he HR2
  have he := IntWalk.u32_in (uidN L : Nat) (by have := HU.out; omega)
  go_wp2_with fail
  have HD4 := Lib.hid (HD3.out.set 3 (.int .u32 (uidN L)) rfl)
  generalize w3.setCell ⟨b, 3, none⟩ (.int .u32 (uidN L)) = w4 at *
  clear HD3 e2 f2 he
  have HDn := Lib.hid (dc_Done HD4.out)
  have HK := HOK.out
  clear HOK
  generalize decide (LU L = some []) = DD at *
  generalize formedB 3 (epN L) ⟨#[]⟩ (uidN L) 0 0 0 = FF at *
  generalize hui : uidN L = ui at *
  have Eui := Lib.hid hui
  clear hui
  generalize hep : epN L = ep at *
  have Eep := Lib.hid hep
  clear hep
  have HK := Lib.hid HK
  refine HDn.out.mono ?_
  rintro x w9 ⟨rfl, rfl⟩
  clear HDn
  cases DD
  · · clear HF
      have r0 := cell_at (HRC.out _ HD4.out.1.bel) 0 _ rfl
      have s0 := frozen_of_row _ _ 0 _ _ (HRC.out _ HD4.out.1.bel)
      have r1 := cell_at (HRC.out _ HD4.out.1.bel) 1 _ rfl
      have s1 := frozen_of_row _ _ 1 _ _ (HRC.out _ HD4.out.1.bel)
      have r2 := cell_at (HRC.out _ HD4.out.1.bel) 2 _ rfl
      have s2 := frozen_of_row _ _ 2 _ _ (HRC.out _ HD4.out.1.bel)
      have r3 := cell_at (HRC.out _ HD4.out.1.bel) 3 _ rfl
      have s3 := frozen_of_row _ _ 3 _ _ (HRC.out _ HD4.out.1.bel)
      have r4 := cell_at (HRC.out _ HD4.out.1.bel) 4 _ rfl
      have s4 := frozen_of_row _ _ 4 _ _ (HRC.out _ HD4.out.1.bel)
      have r5 := cell_at (HRC.out _ HD4.out.1.bel) 5 _ rfl
      have s5 := frozen_of_row _ _ 5 _ _ (HRC.out _ HD4.out.1.bel)
      have r6 := cell_at (HRC.out _ HD4.out.1.bel) 6 _ rfl
      have s6 := frozen_of_row _ _ 6 _ _ (HRC.out _ HD4.out.1.bel)
      go_wp2_with fail
      have h7 := seven (HRC.out _ HD4.out.1.bel) rfl (.int .i64 0) (.int .u32 0) (.string ⟨#[]⟩) (.int .u32 0) (.int .i64 0) (.int .i64 0) (.slice none 0 0)
      exact bodyPost_ret (results_note Tryz.results36 _ _ W.heap.size _ _ _ _ rfl h7.1 Tryz.underlying100 rfl (noteSize _ rfl)) rfl ⟨by rw [show ok3 L = false from HK.out]; rfl, h7.2.2 _ _ (HBW.out.trans (HD4.out.1.bel.mono HBW.out.size)) (Nat.le_refl _)⟩
  · cases FF
    · --A
      have c0 := HD4.out.cell 0 _ rfl
      have c1 := HD4.out.cell 1 _ rfl
      have c2 := HD4.out.cell 2 _ rfl
      have c3 := HD4.out.cell 3 _ rfl
      have c4 := HD4.out.cell 4 _ rfl
      have c5 := HD4.out.cell 5 _ rfl
      have c6 := HD4.out.cell 6 _ rfl
      go_wp2_with (go_at_call 64; refine (HF.out _ (HFit.out _ HD4.out.1.bel)).mono ?_; rintro x w5 ⟨rfl, hb5⟩; have HD5 := Lib.hid (HD4.out.below hb5); clear hb5 c0 c1 c2 c3 c4 c5 c6; have r0 := cell_at (HRC.out _ HD5.out.1.bel) 0 _ rfl; have s0 := frozen_of_row _ _ 0 _ _ (HRC.out _ HD5.out.1.bel); have r1 := cell_at (HRC.out _ HD5.out.1.bel) 1 _ rfl; have s1 := frozen_of_row _ _ 1 _ _ (HRC.out _ HD5.out.1.bel); have r2 := cell_at (HRC.out _ HD5.out.1.bel) 2 _ rfl; have s2 := frozen_of_row _ _ 2 _ _ (HRC.out _ HD5.out.1.bel); have r3 := cell_at (HRC.out _ HD5.out.1.bel) 3 _ rfl; have s3 := frozen_of_row _ _ 3 _ _ (HRC.out _ HD5.out.1.bel); have r4 := cell_at (HRC.out _ HD5.out.1.bel) 4 _ rfl; have s4 := frozen_of_row _ _ 4 _ _ (HRC.out _ HD5.out.1.bel); have r5 := cell_at (HRC.out _ HD5.out.1.bel) 5 _ rfl; have s5 := frozen_of_row _ _ 5 _ _ (HRC.out _ HD5.out.1.bel); have r6 := cell_at (HRC.out _ HD5.out.1.bel) 6 _ rfl; have s6 := frozen_of_row _ _ 6 _ _ (HRC.out _ HD5.out.1.bel))
      have h7 := seven (HRC.out _ HD5.out.1.bel) rfl (.int .i64 0) (.int .u32 0) (.string ⟨#[]⟩) (.int .u32 0) (.int .i64 0) (.int .i64 0) (.slice none 0 0)
      exact bodyPost_ret (results_note Tryz.results36 _ _ W.heap.size _ _ _ _ rfl h7.1 Tryz.underlying100 rfl (noteSize _ rfl)) rfl ⟨by rw [show ok3 L = false from HK.out]; rfl, h7.2.2 _ _ (HBW.out.trans (HD5.out.1.bel.mono HBW.out.size)) (Nat.le_refl _)⟩
    · --B
      have c0 := HD4.out.cell 0 _ rfl
      have c1 := HD4.out.cell 1 _ rfl
      have c2 := HD4.out.cell 2 _ rfl
      have c3 := HD4.out.cell 3 _ rfl
      have c4 := HD4.out.cell 4 _ rfl
      have c5 := HD4.out.cell 5 _ rfl
      have c6 := HD4.out.cell 6 _ rfl
      go_wp2_with (go_at_call 64; refine (HF.out _ (HFit.out _ HD4.out.1.bel)).mono ?_; rintro x w5 ⟨rfl, hb5⟩; have HD5 := Lib.hid (HD4.out.below hb5); clear hb5 c0 c1 c2 c3 c4 c5 c6; have c0 := HD5.out.cell 0 _ rfl; have c1 := HD5.out.cell 1 _ rfl; have c2 := HD5.out.cell 2 _ rfl; have c3 := HD5.out.cell 3 _ rfl; have c4 := HD5.out.cell 4 _ rfl; have c5 := HD5.out.cell 5 _ rfl; have c6 := HD5.out.cell 6 _ rfl; have r0 := cell_at (HRC.out _ HD5.out.1.bel) 0 _ rfl; have s0 := frozen_of_row _ _ 0 _ _ (HRC.out _ HD5.out.1.bel); have r1 := cell_at (HRC.out _ HD5.out.1.bel) 1 _ rfl; have s1 := frozen_of_row _ _ 1 _ _ (HRC.out _ HD5.out.1.bel); have r2 := cell_at (HRC.out _ HD5.out.1.bel) 2 _ rfl; have s2 := frozen_of_row _ _ 2 _ _ (HRC.out _ HD5.out.1.bel); have r3 := cell_at (HRC.out _ HD5.out.1.bel) 3 _ rfl; have s3 := frozen_of_row _ _ 3 _ _ (HRC.out _ HD5.out.1.bel); have r4 := cell_at (HRC.out _ HD5.out.1.bel) 4 _ rfl; have s4 := frozen_of_row _ _ 4 _ _ (HRC.out _ HD5.out.1.bel); have r5 := cell_at (HRC.out _ HD5.out.1.bel) 5 _ rfl; have s5 := frozen_of_row _ _ 5 _ _ (HRC.out _ HD5.out.1.bel); have r6 := cell_at (HRC.out _ HD5.out.1.bel) 6 _ rfl; have s6 := frozen_of_row _ _ 6 _ _ (HRC.out _ HD5.out.1.bel))
      have h7 := seven (HRC.out _ HD5.out.1.bel) rfl (.int .i64 3) (.int .u32 ep) (.string ⟨#[]⟩) (.int .u32 ui) (.int .i64 0) (.int .i64 0) (.slice none 0 0)
      exact bodyPost_ret (results_note Tryz.results36 _ _ W.heap.size _ _ _ _ rfl h7.1 Tryz.underlying100 rfl (noteSize _ rfl)) rfl ⟨by rw [show ok3 L = true from HK.out, Eui.out, Eep.out]; rfl, h7.2.2 _ _ (HBW.out.trans (HD5.out.1.bel.mono HBW.out.size)) (Nat.le_refl _)⟩
set_option maxHeartbeats 1000000 in
theorem decode0 (W : World) (k : Int) (h1 : k ≠ 1) (h2 : k ≠ 2) (h3 : k ≠ 3) (A : Option Addr) (n c : Nat) (L : List Nat) (hB : Bytes W A n L) (hn : n ≤ 100000) (hr : Fit W) :
    Calls Tryz.prog 36 #[.int .i64 k, .slice A n c] W fun x w' => x = .returned (tup false #[]) ∧ Below W.heap.size W w' := by
  obtain ⟨W1, hW1⟩ : ∃ W1, W1 = W.alloc (.cells zeroN 100) := ⟨_, rfl⟩
  have HBW := Lib.hid (show Below W.heap.size W W1 by rw [hW1]; exact (Below.refl _ _).alloc (Nat.le_refl _) _)
  have HWS := Lib.hid (show W.heap.size < W1.heap.size by rw [hW1]; simp)
  have HRC := Lib.hid (fun (w1 : World) (h : Below W1.heap.size W1 w1) => (boxed (w := W) (o := .cells zeroN 100) (w1 := w1) (by rw [← hW1]; exact h)).1)
  have HFit := Lib.hid (fun (w1 : World) (h : Below W1.heap.size W1 w1) => hr.below (HBW.out.trans (h.mono HBW.out.size)))
  have HNW := Lib.hid (rd_new W1 A n c L (hB.below hB.lt HBW.out) (by omega))
  have hb := hB.2.1
  have HL := Lib.hid hb
  have HEP := Lib.hid (ep_lt hb)
  have HW1 := Lib.hid hW1
  have HOK : Hid (false = false) := rfl
  have hF := fun w hr => formed_any w k (epN L) 0 ⟨#[]⟩ 0 0 none 0 0 (by decide) hr
  rw [formed_other h1 h2 h3] at hF
  have HF := Lib.hid hF
  have e1 : (k == 1) = false := by rw [beq_eq_false_iff_ne]; exact h1
  have e2 : (k == 2) = false := by rw [beq_eq_false_iff_ne]; exact h2
  have e3 : (k == 3) = false := by rw [beq_eq_false_iff_ne]; exact h3
  clear h1 h2 h3 hW1 hB hn hr hb hF
  go_enter Tryz.func36, Tryz.ntmps36
  go_wp2_with fail
  rw [show (#[.int .i64 0, .int .u32 0, .string ⟨#[]⟩, .int .u32 0, .int .i64 0, .int .i64 0, .slice none 0 0] : Array Value) = zeroN from rfl, ← HW1.out]
  refine HNW.out.mono ?_
  rintro x w1 ⟨q, g, rfl, hR1⟩
  have HR1 := Lib.hid hR1
  clear hR1 HNW
  go_wp2_with fail
  refine (rd_ep HR1.out).mono ?_
  rintro x w2 ⟨rfl, hR2⟩
  have HR2 := Lib.hid hR2
  have he := IntWalk.u32_in (epN L : Nat) (by have := HEP.out; omega)
  clear hR2 HR1
  go_wp2_with fail
  have HD2 := Lib.hid (dc_start HR2.out #[.int .i64 k, .int .u32 (epN L), .string ⟨#[]⟩, .int .u32 0, .int .i64 0, .int .i64 0, .slice none 0 0])
  generalize w2.alloc _ = w4 at *
  generalize w2.heap.size = b at *
  clear he HR2
  have HDn := Lib.hid (dc_Done HD2.out)
  have HK := HOK.out
  clear HOK
  generalize decide (LA L = some []) = DD at *
  generalize hep : epN L = ep at *
  have Eep := Lib.hid hep
  clear hep
  have HK := Lib.hid HK
  refine HDn.out.mono ?_
  rintro x w9 ⟨rfl, rfl⟩
  clear HDn
  cases DD
  · · clear HF
      have r0 := cell_at (HRC.out _ HD2.out.1.bel) 0 _ rfl
      have s0 := frozen_of_row _ _ 0 _ _ (HRC.out _ HD2.out.1.bel)
      have r1 := cell_at (HRC.out _ HD2.out.1.bel) 1 _ rfl
      have s1 := frozen_of_row _ _ 1 _ _ (HRC.out _ HD2.out.1.bel)
      have r2 := cell_at (HRC.out _ HD2.out.1.bel) 2 _ rfl
      have s2 := frozen_of_row _ _ 2 _ _ (HRC.out _ HD2.out.1.bel)
      have r3 := cell_at (HRC.out _ HD2.out.1.bel) 3 _ rfl
      have s3 := frozen_of_row _ _ 3 _ _ (HRC.out _ HD2.out.1.bel)
      have r4 := cell_at (HRC.out _ HD2.out.1.bel) 4 _ rfl
      have s4 := frozen_of_row _ _ 4 _ _ (HRC.out _ HD2.out.1.bel)
      have r5 := cell_at (HRC.out _ HD2.out.1.bel) 5 _ rfl
      have s5 := frozen_of_row _ _ 5 _ _ (HRC.out _ HD2.out.1.bel)
      have r6 := cell_at (HRC.out _ HD2.out.1.bel) 6 _ rfl
      have s6 := frozen_of_row _ _ 6 _ _ (HRC.out _ HD2.out.1.bel)
      go_wp2_with fail
      have h7 := seven (HRC.out _ HD2.out.1.bel) rfl (.int .i64 0) (.int .u32 0) (.string ⟨#[]⟩) (.int .u32 0) (.int .i64 0) (.int .i64 0) (.slice none 0 0)
      exact bodyPost_ret (results_note Tryz.results36 _ _ W.heap.size _ _ _ _ rfl h7.1 Tryz.underlying100 rfl (noteSize _ rfl)) rfl ⟨rfl, h7.2.2 _ _ (HBW.out.trans (HD2.out.1.bel.mono HBW.out.size)) (Nat.le_refl _)⟩
  · · --A
      have c0 := HD2.out.cell 0 _ rfl
      have c1 := HD2.out.cell 1 _ rfl
      have c2 := HD2.out.cell 2 _ rfl
      have c3 := HD2.out.cell 3 _ rfl
      have c4 := HD2.out.cell 4 _ rfl
      have c5 := HD2.out.cell 5 _ rfl
      have c6 := HD2.out.cell 6 _ rfl
      go_wp2_with (go_at_call 64; refine (HF.out _ (HFit.out _ HD2.out.1.bel)).mono ?_; rintro x w5 ⟨rfl, hb5⟩; have HD5 := Lib.hid (HD2.out.below hb5); clear hb5 c0 c1 c2 c3 c4 c5 c6; have r0 := cell_at (HRC.out _ HD5.out.1.bel) 0 _ rfl; have s0 := frozen_of_row _ _ 0 _ _ (HRC.out _ HD5.out.1.bel); have r1 := cell_at (HRC.out _ HD5.out.1.bel) 1 _ rfl; have s1 := frozen_of_row _ _ 1 _ _ (HRC.out _ HD5.out.1.bel); have r2 := cell_at (HRC.out _ HD5.out.1.bel) 2 _ rfl; have s2 := frozen_of_row _ _ 2 _ _ (HRC.out _ HD5.out.1.bel); have r3 := cell_at (HRC.out _ HD5.out.1.bel) 3 _ rfl; have s3 := frozen_of_row _ _ 3 _ _ (HRC.out _ HD5.out.1.bel); have r4 := cell_at (HRC.out _ HD5.out.1.bel) 4 _ rfl; have s4 := frozen_of_row _ _ 4 _ _ (HRC.out _ HD5.out.1.bel); have r5 := cell_at (HRC.out _ HD5.out.1.bel) 5 _ rfl; have s5 := frozen_of_row _ _ 5 _ _ (HRC.out _ HD5.out.1.bel); have r6 := cell_at (HRC.out _ HD5.out.1.bel) 6 _ rfl; have s6 := frozen_of_row _ _ 6 _ _ (HRC.out _ HD5.out.1.bel))
      have h7 := seven (HRC.out _ HD5.out.1.bel) rfl (.int .i64 0) (.int .u32 0) (.string ⟨#[]⟩) (.int .u32 0) (.int .i64 0) (.int .i64 0) (.slice none 0 0)
      exact bodyPost_ret (results_note Tryz.results36 _ _ W.heap.size _ _ _ _ rfl h7.1 Tryz.underlying100 rfl (noteSize _ rfl)) rfl ⟨rfl, h7.2.2 _ _ (HBW.out.trans (HD5.out.1.bel.mono HBW.out.size)) (Nat.le_refl _)⟩
end Go.Proofs.YtklmbiekpilkhaaGreatDoor.bod
namespace Go.Proofs.YtklmbiekpilkhaaGreatDoor.bod
open Go.ChangeShapes Go.WideShapes Go.ChangeAt Go.RowKit
open Go.Proofs.YtklmbiekpilkhaaGreatDoor.codec (Bytes)
set_option linter.unusedVariables false
set_option linter.unusedSimpArgs false
set_option maxRecDepth 100000

end Go.Proofs.YtklmbiekpilkhaaGreatDoor.bod
namespace Go.Proofs.YtklmbiekpilkhaaGreatDoor.bod
open Go.ChangeShapes Go.WideShapes Go.ChangeAt Go.RowKit
open Go.Proofs.YtklmbiekpilkhaaGreatDoor.codec (Bytes New vals vals_append vals_length vals_one bytesOf bytesOf_lt bytesOf_length byteAt strOf)
set_option linter.unusedVariables false
set_option linter.unusedSimpArgs false
set_option maxRecDepth 100000

/-- Bytes of the call's own. -/
def Mine (W : World) (v : Value) (M : List Nat) (w : World) : Prop := w.ownsRow W.heap.size 5 1 v M.length (vals M) ∧ Below W.heap.size W w
theorem Mine.below {W w w' : World} {v : Value} {M : List Nat} (h : Mine W v M w) (hb : Below w.heap.size w w') : Mine W v M w' :=
  ⟨h.1.kept (row := none) ⟨hb.os, hb.tape, hb.output, hb.size, fun i hi _ => hb.block i hi⟩ (by cases hv : v.ownBlock <;> simp), h.2.trans (hb.mono h.2.size)⟩
theorem Mine.more {W w w' : World} {v v' : Value} {M M' : List Nat} (h : Mine W v M w) (ho : w'.ownsRow W.heap.size 5 1 v' M'.length (vals M')) (hg : w.grownBy w' v.ownBlock) : Mine W v' M' w' :=
  ⟨ho, h.2.trans ⟨hg.os, hg.tape, hg.output, hg.size, fun i hi => hg.block i (Nat.lt_of_lt_of_le hi h.2.size) (fun e => by have := (h.1.lt _ e.symm).1; omega)⟩⟩
theorem Mine.form {W w : World} {v : Value} {M : List Nat} (h : Mine W v M w) (N : Nat) (hN : M.length = N) (h0 : 0 < N) : ∃ g cap, v = .slice (some ⟨g, 0, none⟩) N cap ∧ N ≤ cap ∧ W.heap.size ≤ g := by
  subst hN
  rcases h.1.2 with ⟨_, h1⟩ | ⟨g, cap, cur, e, hb, _, hc, _⟩
  · omega
  · exact ⟨g, cap, e, hc, hb⟩
theorem Mine.bytes {W w : World} {g N cap : Nat} {M : List Nat} (h : Mine W (.slice (some ⟨g, 0, none⟩) N cap) M w) (hN : M.length = N) (hb : ∀ x ∈ M, x < 256) : Bytes w (some ⟨g, 0, none⟩) N M := codec.own_bytes' h.1 hN hb
theorem Mine.drew {W w : World} {v : Value} {M : List Nat} (h : Mine W v M w) : Mine W v M w.drew := h.below (codec.below_draws (Below.refl _ _) 1)
theorem own_lit (W : World) (l : List Nat) (B n : Nat) (hn : l.length = n) (hl : n ≤ 1000) (hB : B ≤ W.heap.size) : (W.alloc (.cells (vals l).toArray 5)).ownsRow B 5 1 (.slice (some ⟨W.heap.size, 0, none⟩) n n) l.length (vals l) := by
  subst hn
  refine ⟨by simp [vals], .inr ⟨W.heap.size, l.length, _, rfl, hB, heap_alloc_new W _, Nat.le_refl _, by unfold maxLen; omega, by simp [vals], by rw [List.take_of_length_le] <;> simp [vals]⟩⟩
theorem lit_bytes (w : World) (f : Nat) (hf : f < 256) (t : TypeId) (m : Nat × Nat) : Bytes (w.alloc (.cells #[.int .u8 (f : Nat)] t m)) (some ⟨w.heap.size, 0, none⟩) 1 [f] := by
  refine ⟨rfl, fun b hb => by simp at hb; omega, fun _ => ⟨_, 0, rfl, fun i hi => ?_⟩⟩
  obtain rfl : i = 0 := by omega
  exact cell_at (heap_alloc_new w _) 0 _ rfl
/-- The first number is a row of its own. -/
theorem refBytes_mine (w : World) (v n : Nat) (hv : v < 18446744073709551616) (h1 : 1 ≤ n) (hn : n ≤ 100) :
    Calls Tryz.prog 94 #[.int .u64 v, .int .i64 n] w fun e w' => ∃ g, e = .returned (.slice (some ⟨g, 0, none⟩) n n) ∧ Mine w (.slice (some ⟨g, 0, none⟩) n n) (bytesOf v n) w' :=
  (codec.refBytes_any w v n hv h1 hn).mono fun _ _ ⟨he, hr, hb⟩ => ⟨_, he, by
    have := codec.row_owns (v := v) w.heap.size (Nat.le_refl _) (by unfold maxLen; omega) hr
    rw [← bytesOf_length v n] at this
    exact ⟨by simpa [bytesOf_length] using this, hb⟩⟩
theorem refBytes_at (w : World) (v n : Nat) (hv : v < 18446744073709551616) (h1 : 1 ≤ n) (hn : n ≤ 100) :
    Calls Tryz.prog 94 #[.int .u64 v, .int .i64 n] w fun e w' => ∃ g, e = .returned (.slice (some ⟨g, 0, none⟩) n n) ∧ Bytes w' (some ⟨g, 0, none⟩) n (bytesOf v n) ∧ Below w.heap.size w w' :=
  (refBytes_mine w v n hv h1 hn).mono fun _ _ ⟨g, he, hm⟩ => ⟨g, he, hm.bytes (bytesOf_length v n) (bytesOf_lt v n), hm.2⟩
end Go.Proofs.YtklmbiekpilkhaaGreatDoor.bod
namespace Go.Proofs.YtklmbiekpilkhaaGreatDoor.bod
open Go.ChangeShapes Go.WideShapes Go.ChangeAt Go.RowKit
open Go.Proofs.YtklmbiekpilkhaaGreatDoor.codec (Bytes bytesOf bytesOf_length strOf strOf_size numOf)
open Go.Proofs.YtklmbiekpilkhaaGreatDoor.rd
set_option linter.unusedVariables false
set_option linter.unusedSimpArgs false
set_option maxRecDepth 100000

set_option maxHeartbeats 1000000 in
theorem decode2 (W : World) (A : Option Addr) (n c : Nat) (L : List Nat) (hB : Bytes W A n L) (hn : n ≤ 100000) (hr : Fit W) :
    Calls Tryz.prog 36 #[.int .i64 2, .slice A n c] W fun x w' => ∃ gg mm, mm = (octN L).length ∧ x = .returned (tup (ok2 L) #[.int .i64 2, .int .u32 (epN L), .string (TX (LF L)), .int .u32 (uidN L), .int .i64 (datN L), .int .i64 (flaN L), .slice (some ⟨gg, 0, none⟩) mm mm]) ∧ W.heap.size ≤ gg ∧ Bytes w' (some ⟨gg, 0, none⟩) mm (octN L) ∧ Below W.heap.size W w' := by
  obtain ⟨W1, hW1⟩ : ∃ W1, W1 = W.alloc (.cells zeroN 100) := ⟨_, rfl⟩
  have HBW := Lib.hid (show Below W.heap.size W W1 by rw [hW1]; exact (Below.refl _ _).alloc (Nat.le_refl _) _)
  have HWS := Lib.hid (show W.heap.size < W1.heap.size by rw [hW1]; simp)
  have HRC := Lib.hid (fun (w1 : World) (h : Below W1.heap.size W1 w1) => (boxed (w := W) (o := .cells zeroN 100) (w1 := w1) (by rw [← hW1]; exact h)).1)
  have HFit := Lib.hid (fun (w1 : World) (h : Below W1.heap.size W1 w1) => hr.below (HBW.out.trans (h.mono HBW.out.size)))
  have HNW := Lib.hid (rd_new W1 A n c L (hB.below hB.lt HBW.out) (by omega))
  have hb := hB.2.1
  have HL := Lib.hid hb
  have HEP := Lib.hid (ep_lt hb)
  have HW1 := Lib.hid hW1
  have HOK : Hid (ok2 L = (decide (LO L = some []) && formedB 2 (epN L) (TX (LF L)) (uidN L) (datN L) (flaN L) (octN L).length)) := rfl
  have hTX := tx_size (ltLF hb)
  have hF := fun w A n hr => formed_any w 2 (epN L) (uidN L) (TX (LF L)) (datN L) (flaN L) A n n (by omega) hr
  have HF0 := Lib.hid hF
  have HU := Lib.hid (uid_lt hb)
  have HLT := Lib.hid (ltLT hb)
  clear hW1 hB hn hr hb hF hTX
  go_enter Tryz.func36, Tryz.ntmps36
  go_wp2_with fail
  rw [show (#[.int .i64 0, .int .u32 0, .string ⟨#[]⟩, .int .u32 0, .int .i64 0, .int .i64 0, .slice none 0 0] : Array Value) = zeroN from rfl, ← HW1.out]
  refine HNW.out.mono ?_
  rintro x w1 ⟨q, g, rfl, hR1⟩
  have HR1 := Lib.hid hR1
  clear hR1 HNW
  go_wp2_with fail
  refine (rd_ep HR1.out).mono ?_
  rintro x w2 ⟨rfl, hR2⟩
  have HR2 := Lib.hid hR2
  have he := IntWalk.u32_in (epN L : Nat) (by have := HEP.out; omega)
  clear hR2 HR1
  go_wp2_with fail
  have HD2 := Lib.hid (dc_start HR2.out #[.int .i64 2, .int .u32 (epN L), .string ⟨#[]⟩, .int .u32 0, .int .i64 0, .int .i64 0, .slice none 0 0])
  generalize w2.alloc _ = w2' at *
  generalize w2.heap.size = b at *
  clear he HR2
  refine (dc_uid HD2.out).mono ?_
  rintro x w2a ⟨rfl, hD⟩
  have HDa := Lib.hid hD
  have e2 := HDa.out.cell 3 _ rfl
  have f2 := HDa.out.froz 3
  clear hD HD2
  have he := IntWalk.u32_in (uidN L : Nat) (by have := HU.out; omega)
  go_wp2_with fail
  have HD3 := Lib.hid (HDa.out.set (cs' := #[.int .i64 2, .int .u32 (epN L), .string ⟨#[]⟩, .int .u32 (uidN L), .int .i64 0, .int .i64 0, .slice none 0 0]) 3 (.int .u32 (uidN L)) rfl)
  generalize w2a.setCell ⟨b, 3, none⟩ (.int .u32 (uidN L)) = w3 at *
  clear HDa e2 f2
  clear he
  refine (dc_dat HD3.out).mono ?_
  rintro x w3a ⟨rfl, hD⟩
  have HDa := Lib.hid hD
  have e2 := HDa.out.cell 4 _ rfl
  have f2 := HDa.out.froz 4
  clear hD HD3
  go_wp2_with fail
  have HD4 := Lib.hid (HDa.out.set (cs' := #[.int .i64 2, .int .u32 (epN L), .string ⟨#[]⟩, .int .u32 (uidN L), .int .i64 (datN L), .int .i64 0, .slice none 0 0]) 4 (.int .i64 (datN L)) rfl)
  generalize w3a.setCell ⟨b, 4, none⟩ (.int .i64 (datN L)) = w4 at *
  clear HDa e2 f2
  refine (dc_fla HD4.out).mono ?_
  rintro x w4a ⟨rfl, hD⟩
  have HDa := Lib.hid hD
  have e2 := HDa.out.cell 5 _ rfl
  have f2 := HDa.out.froz 5
  clear hD HD4
  go_wp2_with fail
  have HD5 := Lib.hid (HDa.out.set (cs' := #[.int .i64 2, .int .u32 (epN L), .string ⟨#[]⟩, .int .u32 (uidN L), .int .i64 (datN L), .int .i64 (flaN L), .slice none 0 0]) 5 (.int .i64 (flaN L)) rfl)
  generalize w4a.setCell ⟨b, 5, none⟩ (.int .i64 (flaN L)) = w5 at *
  clear HDa e2 f2
  refine (dc_Text HD5.out).mono ?_
  rintro x w5a ⟨rfl, hD⟩
  have HDa := Lib.hid hD
  have e2 := HDa.out.cell 2 _ rfl
  have f2 := HDa.out.froz 2
  clear hD HD5
  go_wp2_with fail
  have HD6 := Lib.hid (HDa.out.set (cs' := #[.int .i64 2, .int .u32 (epN L), .string (TX (LF L)), .int .u32 (uidN L), .int .i64 (datN L), .int .i64 (flaN L), .slice none 0 0]) 2 (.string (TX (LF L))) rfl)
  generalize w5a.setCell ⟨b, 2, none⟩ (.string (TX (LF L))) = w6 at *
  clear HDa e2 f2
  refine (dc_Left HD6.out).mono ?_
  rintro x w6b ⟨rfl, hw⟩
  subst hw
  go_wp2_with fail
  refine (dc_Raw HD6.out (leftN (LT (LF L))) HLT.out).mono ?_
  rintro x w6c ⟨gg, mm, hmm, rfl, hbg, hWg, hO, hD⟩
  have HDa := Lib.hid (show Dc W1 q g (LO L) b _ w6c from hD)
  have HMM := Lib.hid (show mm = (octN L).length from hmm)
  have HGG := Lib.hid (And.intro hbg hWg)
  have HOa := Lib.hid (show Bytes w6c (some ⟨gg, 0, none⟩) mm (octN L) from hO)
  have e2 := HDa.out.cell 6 _ rfl
  have f2 := HDa.out.froz 6
  clear hD HD6 hmm hbg hWg hO
  go_wp2_with fail
  have HD7 := Lib.hid (HDa.out.set (cs' := #[.int .i64 2, .int .u32 (epN L), .string (TX (LF L)), .int .u32 (uidN L), .int .i64 (datN L), .int .i64 (flaN L), .slice (some ⟨gg, 0, none⟩) mm mm]) 6 (.slice (some ⟨gg, 0, none⟩) mm mm) rfl)
  have HO7 := Lib.hid (octs_set HDa.out HGG.out.1 HOa.out 6 (.slice (some ⟨gg, 0, none⟩) mm mm))
  have HF := Lib.hid (HF0.out · (some ⟨gg, 0, none⟩) mm ·)
  rw [← HMM.out] at HOK
  clear HF0
  generalize w6c.setCell ⟨b, 6, none⟩ (.slice (some ⟨gg, 0, none⟩) mm mm) = w7 at *
  clear HDa e2 f2 HOa
  have HDn := Lib.hid (dc_Done HD7.out)
  have HK := HOK.out
  clear HOK
  generalize decide (LO L = some []) = DD at *
  generalize formedB 2 (epN L) (TX (LF L)) (uidN L) (datN L) (flaN L) mm = FF at *
  generalize htx : TX (LF L) = tx at *
  have Etx := Lib.hid htx
  clear htx
  generalize hui : uidN L = ui at *
  have Eui := Lib.hid hui
  clear hui
  generalize hda : (datN L) = da at *
  have Eda := Lib.hid hda
  clear hda
  generalize hfl : (flaN L) = fl at *
  have Efl := Lib.hid hfl
  clear hfl
  generalize hep : epN L = ep at *
  have Eep := Lib.hid hep
  clear hep
  have HK := Lib.hid HK
  refine HDn.out.mono ?_
  rintro x w9 ⟨rfl, rfl⟩
  clear HDn
  cases DD
  · · clear HF
      have r0 := cell_at (HRC.out _ HD7.out.1.bel) 0 _ rfl
      have s0 := frozen_of_row _ _ 0 _ _ (HRC.out _ HD7.out.1.bel)
      have r1 := cell_at (HRC.out _ HD7.out.1.bel) 1 _ rfl
      have s1 := frozen_of_row _ _ 1 _ _ (HRC.out _ HD7.out.1.bel)
      have r2 := cell_at (HRC.out _ HD7.out.1.bel) 2 _ rfl
      have s2 := frozen_of_row _ _ 2 _ _ (HRC.out _ HD7.out.1.bel)
      have r3 := cell_at (HRC.out _ HD7.out.1.bel) 3 _ rfl
      have s3 := frozen_of_row _ _ 3 _ _ (HRC.out _ HD7.out.1.bel)
      have r4 := cell_at (HRC.out _ HD7.out.1.bel) 4 _ rfl
      have s4 := frozen_of_row _ _ 4 _ _ (HRC.out _ HD7.out.1.bel)
      have r5 := cell_at (HRC.out _ HD7.out.1.bel) 5 _ rfl
      have s5 := frozen_of_row _ _ 5 _ _ (HRC.out _ HD7.out.1.bel)
      have r6 := cell_at (HRC.out _ HD7.out.1.bel) 6 _ rfl
      have s6 := frozen_of_row _ _ 6 _ _ (HRC.out _ HD7.out.1.bel)
      go_wp2_with fail
      have h7 := seven (HRC.out _ HD7.out.1.bel) rfl (.int .i64 0) (.int .u32 0) (.string ⟨#[]⟩) (.int .u32 0) (.int .i64 0) (.int .i64 0) (.slice none 0 0)
      exact bodyPost_ret (results_note Tryz.results36 _ _ W.heap.size _ _ _ _ rfl h7.1 Tryz.underlying100 rfl (noteSize _ rfl)) rfl ⟨gg, mm, HMM.out, by rw [show ok2 L = false from HK.out]; rfl, Nat.le_trans HBW.out.size HGG.out.2, HO7.out.kept fun ad e hn => (by cases e; exact h7.2.1 _ (by have := HGG.out.2; have := HWS.out; show gg ≠ _; omega)), h7.2.2 _ _ (HBW.out.trans (HD7.out.1.bel.mono HBW.out.size)) (Nat.le_refl _)⟩
  · cases FF
    · --A
      have c0 := HD7.out.cell 0 _ rfl
      have c1 := HD7.out.cell 1 _ rfl
      have c2 := HD7.out.cell 2 _ rfl
      have c3 := HD7.out.cell 3 _ rfl
      have c4 := HD7.out.cell 4 _ rfl
      have c5 := HD7.out.cell 5 _ rfl
      have c6 := HD7.out.cell 6 _ rfl
      go_wp2_with (go_at_call 64; refine (HF.out _ (HFit.out _ HD7.out.1.bel)).mono ?_; rintro x w5 ⟨rfl, hb5⟩; have HD5 := Lib.hid (HD7.out.below hb5); have HO5 := Lib.hid (HO7.out.below HO7.out.lt hb5); clear hb5 c0 c1 c2 c3 c4 c5 c6; have r0 := cell_at (HRC.out _ HD5.out.1.bel) 0 _ rfl; have s0 := frozen_of_row _ _ 0 _ _ (HRC.out _ HD5.out.1.bel); have r1 := cell_at (HRC.out _ HD5.out.1.bel) 1 _ rfl; have s1 := frozen_of_row _ _ 1 _ _ (HRC.out _ HD5.out.1.bel); have r2 := cell_at (HRC.out _ HD5.out.1.bel) 2 _ rfl; have s2 := frozen_of_row _ _ 2 _ _ (HRC.out _ HD5.out.1.bel); have r3 := cell_at (HRC.out _ HD5.out.1.bel) 3 _ rfl; have s3 := frozen_of_row _ _ 3 _ _ (HRC.out _ HD5.out.1.bel); have r4 := cell_at (HRC.out _ HD5.out.1.bel) 4 _ rfl; have s4 := frozen_of_row _ _ 4 _ _ (HRC.out _ HD5.out.1.bel); have r5 := cell_at (HRC.out _ HD5.out.1.bel) 5 _ rfl; have s5 := frozen_of_row _ _ 5 _ _ (HRC.out _ HD5.out.1.bel); have r6 := cell_at (HRC.out _ HD5.out.1.bel) 6 _ rfl; have s6 := frozen_of_row _ _ 6 _ _ (HRC.out _ HD5.out.1.bel))
      have h7 := seven (HRC.out _ HD5.out.1.bel) rfl (.int .i64 0) (.int .u32 0) (.string ⟨#[]⟩) (.int .u32 0) (.int .i64 0) (.int .i64 0) (.slice none 0 0)
      exact bodyPost_ret (results_note Tryz.results36 _ _ W.heap.size _ _ _ _ rfl h7.1 Tryz.underlying100 rfl (noteSize _ rfl)) rfl ⟨gg, mm, HMM.out, by rw [show ok2 L = false from HK.out]; rfl, Nat.le_trans HBW.out.size HGG.out.2, HO5.out.kept fun ad e hn => (by cases e; exact h7.2.1 _ (by have := HGG.out.2; have := HWS.out; show gg ≠ _; omega)), h7.2.2 _ _ (HBW.out.trans (HD5.out.1.bel.mono HBW.out.size)) (Nat.le_refl _)⟩
    · --B
      have c0 := HD7.out.cell 0 _ rfl
      have c1 := HD7.out.cell 1 _ rfl
      have c2 := HD7.out.cell 2 _ rfl
      have c3 := HD7.out.cell 3 _ rfl
      have c4 := HD7.out.cell 4 _ rfl
      have c5 := HD7.out.cell 5 _ rfl
      have c6 := HD7.out.cell 6 _ rfl
      go_wp2_with (go_at_call 64; refine (HF.out _ (HFit.out _ HD7.out.1.bel)).mono ?_; rintro x w5 ⟨rfl, hb5⟩; have HD5 := Lib.hid (HD7.out.below hb5); have HO5 := Lib.hid (HO7.out.below HO7.out.lt hb5); clear hb5 c0 c1 c2 c3 c4 c5 c6; have c0 := HD5.out.cell 0 _ rfl; have c1 := HD5.out.cell 1 _ rfl; have c2 := HD5.out.cell 2 _ rfl; have c3 := HD5.out.cell 3 _ rfl; have c4 := HD5.out.cell 4 _ rfl; have c5 := HD5.out.cell 5 _ rfl; have c6 := HD5.out.cell 6 _ rfl; have r0 := cell_at (HRC.out _ HD5.out.1.bel) 0 _ rfl; have s0 := frozen_of_row _ _ 0 _ _ (HRC.out _ HD5.out.1.bel); have r1 := cell_at (HRC.out _ HD5.out.1.bel) 1 _ rfl; have s1 := frozen_of_row _ _ 1 _ _ (HRC.out _ HD5.out.1.bel); have r2 := cell_at (HRC.out _ HD5.out.1.bel) 2 _ rfl; have s2 := frozen_of_row _ _ 2 _ _ (HRC.out _ HD5.out.1.bel); have r3 := cell_at (HRC.out _ HD5.out.1.bel) 3 _ rfl; have s3 := frozen_of_row _ _ 3 _ _ (HRC.out _ HD5.out.1.bel); have r4 := cell_at (HRC.out _ HD5.out.1.bel) 4 _ rfl; have s4 := frozen_of_row _ _ 4 _ _ (HRC.out _ HD5.out.1.bel); have r5 := cell_at (HRC.out _ HD5.out.1.bel) 5 _ rfl; have s5 := frozen_of_row _ _ 5 _ _ (HRC.out _ HD5.out.1.bel); have r6 := cell_at (HRC.out _ HD5.out.1.bel) 6 _ rfl; have s6 := frozen_of_row _ _ 6 _ _ (HRC.out _ HD5.out.1.bel))
      have h7 := seven (HRC.out _ HD5.out.1.bel) rfl (.int .i64 2) (.int .u32 ep) (.string tx) (.int .u32 ui) (.int .i64 da) (.int .i64 fl) (.slice (some ⟨gg, 0, none⟩) mm mm)
      exact bodyPost_ret (results_note Tryz.results36 _ _ W.heap.size _ _ _ _ rfl h7.1 Tryz.underlying100 rfl (noteSize _ rfl)) rfl ⟨gg, mm, HMM.out, by rw [show ok2 L = true from HK.out, Eui.out, Eda.out, Efl.out, Etx.out, Eep.out]; rfl, Nat.le_trans HBW.out.size HGG.out.2, HO5.out.kept fun ad e hn => (by cases e; exact h7.2.1 _ (by have := HGG.out.2; have := HWS.out; show gg ≠ _; omega)), h7.2.2 _ _ (HBW.out.trans (HD5.out.1.bel.mono HBW.out.size)) (Nat.le_refl _)⟩
end Go.Proofs.YtklmbiekpilkhaaGreatDoor.bod
namespace Go.Proofs.YtklmbiekpilkhaaGreatDoor.bod
open Go.ChangeShapes Go.WideShapes Go.ChangeAt Go.RowKit
open Go.Proofs.YtklmbiekpilkhaaGreatDoor.codec (Bytes bytesOf bytesOf_length strOf strOf_size numOf)
open Go.Proofs.YtklmbiekpilkhaaGreatDoor.rd
set_option linter.unusedVariables false
set_option linter.unusedSimpArgs false
set_option maxRecDepth 100000

/-- A note that a payload of these bytes says. -/
def Said (W : World) (k : Int) (e u : Nat) (s : ByteArray) (d f : Int) (A : Option Addr) (m : Nat) (o L : List Nat) : Prop :=
  (formedB k e s u d f m = true ∧ payL k e s u d f o = L ∧ e < 4294967296 ∧ u < 4294967296) ∧ Bytes W A m o ∧ (A = none → m = 0)
theorem Said.below {W w : World} {k : Int} {e u : Nat} {s : ByteArray} {d f : Int} {A : Option Addr} {m : Nat} {o L : List Nat} (h : Said W k e u s d f A m o L) (hb : Below W.heap.size W w) : Said w k e u s d f A m o L :=
  ⟨h.1, h.2.1.below h.2.1.lt hb, h.2.2⟩
theorem dec_any (W : World) (k : Int) (A : Option Addr) (n c : Nat) (L : List Nat) (hB : Bytes W A n L) (hn : n ≤ 25000) (hr : Fit W) :
    Calls Tryz.prog 36 #[.int .i64 k, .slice A n c] W fun x w' => (x = .returned (.tuple #[.agg zeroN, .int .i64 2]) ∨ ∃ e u s d f A' m o, x = .returned (.tuple #[.agg #[.int .i64 k, .int .u32 (e : Nat), .string s, .int .u32 (u : Nat), .int .i64 d, .int .i64 f, .slice A' m m], .int .i64 0]) ∧ Said w' k e u s d f A' m o L) ∧ Below W.heap.size W w' := by
  have hb := hB.2.1
  by_cases h1 : k = 1
  · subst h1
    refine (decode1 W A n c L hB (by omega) hr).mono ?_
    rintro x w' ⟨rfl, hw⟩
    refine ⟨?_, hw⟩
    cases h : ok1 L
    · exact Or.inl rfl
    · obtain ⟨k1, k2⟩ := says1 hb h
      exact Or.inr ⟨_, 0, _, _, _, none, 0, [], rfl, ⟨k1, k2, ep_lt hb, by omega⟩, codec.empty_bytes w', fun _ => rfl⟩
  · by_cases h2 : k = 2
    · subst h2
      refine (decode2 W A n c L hB (by omega) hr).mono ?_
      rintro x w' ⟨gg, mm, hmm, rfl, hg, hO, hw⟩
      refine ⟨?_, hw⟩
      cases h : ok2 L
      · exact Or.inl rfl
      · obtain ⟨k1, k2⟩ := says2 hb h
        rw [← hmm] at k1
        exact Or.inr ⟨_, _, _, _, _, some ⟨gg, 0, none⟩, mm, _, rfl, ⟨k1, k2, ep_lt hb, uid_lt hb⟩, hO, fun e => by cases e⟩
    · by_cases h3 : k = 3
      · subst h3
        refine (decode3 W A n c L hB (by omega) hr).mono ?_
        rintro x w' ⟨rfl, hw⟩
        refine ⟨?_, hw⟩
        cases h : ok3 L
        · exact Or.inl rfl
        · obtain ⟨k1, k2⟩ := says3 hb h
          exact Or.inr ⟨_, _, _, _, _, none, 0, [], rfl, ⟨k1, k2, ep_lt hb, uid_lt hb⟩, codec.empty_bytes w', fun _ => rfl⟩
      · refine (decode0 W k h1 h2 h3 A n c L hB (by omega) hr).mono ?_
        rintro x w' ⟨rfl, hw⟩
        exact ⟨Or.inl rfl, hw⟩
theorem formed_size {k : Int} {e u : Nat} {s : ByteArray} {d f : Int} {n : Nat} (h : formedB k e s u d f n = true) : s.size ≤ 60 ∧ n ≤ 20000 := by
  unfold formedB at h
  split at h
  · simp only [emptyB, Bool.and_eq_true, decide_eq_true_eq] at h
    have := named_size h.2.1
    omega
  · split at h
    · simp only [fitsB, Bool.and_eq_true, decide_eq_true_eq] at h
      have := named_size h.2.1
      omega
    · split at h
      · simp only [emptyB, Bool.and_eq_true, decide_eq_true_eq] at h
        omega
      · cases h
theorem payL_pos (k : Int) (e u : Nat) (s : ByteArray) (d f : Int) (o : List Nat) : 0 < (payL k e s u d f o).length := by
  unfold payL
  split
  · simp [bytesOf_length, txt_length]; omega
  · split
    · simp [bytesOf_length, txt_length]; omega
    · simp [bytesOf_length]
end Go.Proofs.YtklmbiekpilkhaaGreatDoor.bod
namespace Go.Proofs.YtklmbiekpilkhaaGreatDoor.bod
open Go.ChangeShapes Go.WideShapes Go.ChangeAt Go.RowKit
open Go.Proofs.YtklmbiekpilkhaaGreatDoor.codec (Bytes bytesOf bytesOf_length strOf strOf_size numOf)
open Go.Proofs.YtklmbiekpilkhaaGreatDoor.frm (frameL frameL_length)
set_option linter.unusedVariables false
set_option linter.unusedSimpArgs false
set_option maxRecDepth 100000

theorem formed_kind {k : Int} {e u : Nat} {s : ByteArray} {d f : Int} {n : Nat} (h : formedB k e s u d f n = true) : 1 ≤ k ∧ k ≤ 3 := by
  by_cases h1 : k = 1
  · omega
  · by_cases h2 : k = 2
    · omega
    · by_cases h3 : k = 3
      · omega
      · rw [formed_other h1 h2 h3] at h
        cases h
theorem frameL_lt {k : Nat} {p : List Nat} (hk : k < 256) (hp : ∀ b ∈ p, b < 256) : ∀ b ∈ frameL k p, b < 256 := by
  intro b hb
  rcases List.mem_append.1 hb with h | h
  · rcases List.mem_append.1 h with h | h
    · rcases List.mem_append.1 h with h | h
      · exact frm.first_lt hk b h
      · exact codec.bytesOf_lt _ _ b h
    · exact frm.dig_lt _ b h
  · exact hp b h
/-- What was encoded is decoded as the same. -/
theorem decode_back (W : World) (k : Int) (e u : Nat) (s : ByteArray) (d f : Int) (g n N : Nat) (o P : List Nat) (he : e < 4294967296) (hu : u < 4294967296) (hr : Fit W) (ho : o.length = n) (hf : formedB k e s u d f n = true) (hP : payL k e s u d f o = P) (hB : Bytes W (some ⟨g, 0, none⟩) N P) :
    Calls Tryz.prog 36 #[.int .i64 k, .slice (some ⟨g, 0, none⟩) N N] W fun x w' => ∃ A' m, x = .returned (.tuple #[.agg #[.int .i64 k, .int .u32 e, .string s, .int .u32 u, .int .i64 d, .int .i64 f, .slice A' m m], .int .i64 0]) ∧ Bytes w' A' m o ∧ Below W.heap.size W w' := by
  subst ho
  have hPl : N ≤ 20077 := by
    have := payL_length hf
    rw [hP] at this
    have := hB.1
    omega
  by_cases h1 : k = 1
  · subst h1
    obtain ⟨k1, k2, k3, k4, k5, k6, k7⟩ := back1 he hf
    rw [hP] at k1 k2 k3
    subst k4 k5 k6 k7
    refine (decode1 W _ N N P hB (by omega) hr).mono ?_
    rintro x w' ⟨rfl, hw⟩
    rw [k1, k2, k3]
    exact ⟨none, 0, rfl, codec.empty_bytes w', hw⟩
  · by_cases h2 : k = 2
    · subst h2
      obtain ⟨k1, k2, k3, k4, k5, k6, k7⟩ := back2 he hu hf
      rw [hP] at k1 k2 k3 k4 k5 k6 k7
      refine (decode2 W _ N N P hB (by omega) hr).mono ?_
      rintro x w' ⟨gg, mm, hmm, rfl, hg, hO, hw⟩
      rw [k1, k2, k3, k4, k5, k6]
      rw [k7] at hO
      exact ⟨some ⟨gg, 0, none⟩, mm, rfl, hO, hw⟩
    · by_cases h3 : k = 3
      · subst h3
        obtain ⟨k1, k2, k3, k4, k5, k6, k7⟩ := back3 he hu hf
        rw [hP] at k1 k2 k3
        subst k4 k5 k6 k7
        refine (decode3 W _ N N P hB (by omega) hr).mono ?_
        rintro x w' ⟨rfl, hw⟩
        rw [k1, k2, k3]
        exact ⟨none, 0, rfl, codec.empty_bytes w', hw⟩
      · rw [formed_other h1 h2 h3] at hf
        cases hf
end Go.Proofs.YtklmbiekpilkhaaGreatDoor.bod
