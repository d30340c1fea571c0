/- What a restart leaves. -/
import Derived.Test.YtedhbcaakdfcbaaN
namespace Go.Proofs.Ytedhbcaakdfcbaa.disk
open Go.ChangeShapes Go.WideShapes Go.ChangeAt Go.RowKit Go.Maps Go.WideMaps
set_option linter.unusedVariables false
set_option linter.unusedSimpArgs false

/-- Numbers that somebody else holds. -/
def Ints (w : World) (A : Option Addr) (n : Nat) (l : List Int) : Prop :=
  l.length = n ∧ (∀ x ∈ l, -9223372036854775808 ≤ x ∧ x < 9223372036854775808) ∧ (0 < n → ∃ b o, A = some ⟨b, o, none⟩ ∧ ∀ i, i < n → w.cell? ⟨b, o + i, none⟩ = some (.int .i64 (l.getD i 0)))
theorem Ints.lt {w : World} {A : Option Addr} {n : Nat} {l : List Int} (h : Ints w A n l) : ∀ ad, A = some ad → 0 < n → ad.block < w.heap.size := by
  rintro ad rfl hn
  obtain ⟨b, o, e, hc⟩ := h.2.2 hn
  cases e
  exact block_lt_of_cell (hc 0 hn)
theorem Ints.kept {w w' : World} {A : Option Addr} {n : Nat} {l : List Int} (h : Ints w A n l) (hA : ∀ ad, A = some ad → 0 < n → w'.heap[ad.block]? = w.heap[ad.block]?) : Ints w' A n l := by
  obtain ⟨h1, h2, h3⟩ := h
  refine ⟨h1, h2, fun hn => ?_⟩
  obtain ⟨b, o, rfl, hc⟩ := h3 hn
  refine ⟨b, o, rfl, fun i hi => ?_⟩
  rw [← hc i hi]
  simp only [World.cell?, hA _ rfl hn]
theorem Ints.touch {F : Nat → Prop} {w w' : World} {A : Option Addr} {n : Nat} {l : List Int} (h : Ints w A n l) (hA : ∀ ad, A = some ad → 0 < n → ¬ F ad.block) (hb : Touch F w w') : Ints w' A n l :=
  h.kept fun ad e hn => hb.2.2.2.2 _ (h.lt ad e hn) (hA ad e hn)
theorem Ints.drewN {w : World} {A : Option Addr} {n : Nat} {l : List Int} (h : Ints w A n l) (q : Nat) : Ints (w.drewN q) A n l := h.kept fun ad e hn => rfl
def keptOf (l : List Int) (i b : Nat) : Int :=
  if l.length = 0 then 0 else
    if (l.getD (i % l.length) 0).tmod ((b : Int) + 1) < 0 then (l.getD (i % l.length) 0).tmod ((b : Int) + 1) + ((b : Int) + 1) else (l.getD (i % l.length) 0).tmod ((b : Int) + 1)
theorem keptOf_range (l : List Int) (i b : Nat) : 0 ≤ keptOf l i b ∧ keptOf l i b ≤ b := by
  unfold keptOf
  have h1 := Int.tmod_lt_of_pos (l.getD (i % l.length) 0) (b := (b : Int) + 1) (by omega)
  have h2 := Int.lt_tmod_of_pos (l.getD (i % l.length) 0) (b := (b : Int) + 1) (by omega)
  split
  · omega
  · split <;> omega
set_option maxRecDepth 50000 in
set_option maxHeartbeats 4000000 in
theorem kept_any (w : World) (A : Option Addr) (n c : Nat) (l : List Int) (i b : Nat) (h : Ints w A n l) (hn : n ≤ 1000000) (hi : i ≤ 1000000) (hb : b ≤ 10000000) :
    Calls Try.prog 40 #[.slice A n c, .int .i64 (i : Nat), .int .i64 (b : Nat)] w fun e w' => e = .returned (.int .i64 (keptOf l i b)) ∧ w' = w := by
  by_cases h0 : n = 0
  · have hv : keptOf l i b = 0 := by simp [keptOf, h.1, h0]
    rw [hv]
    subst h0
    clear h
    go_enter Try.func40, Try.ntmps40
    go_wp2
    go_ret
    exact ⟨rfl, rfl⟩
  · have hpos : 0 < n := by omega
    obtain ⟨g, o, rfl, hc⟩ := h.2.2 hpos
    have hlt : i % n < n := Nat.mod_lt _ hpos
    have hcell := hc (i % n) hlt
    have hx : -9223372036854775808 ≤ l.getD (i % n) 0 ∧ l.getD (i % n) 0 < 9223372036854775808 := by
      have hl := h.1
      have hj : i % n < l.length := by omega
      have e : l.getD (i % n) 0 = l[i % n]'hj := by simp [List.getD, List.getElem?_eq_getElem hj]
      rw [e]
      exact h.2.1 _ (List.getElem_mem _)
    have hk : keptOf l i b = if (l.getD (i % n) 0).tmod ((b : Int) + 1) < 0 then (l.getD (i % n) 0).tmod ((b : Int) + 1) + ((b : Int) + 1) else (l.getD (i % n) 0).tmod ((b : Int) + 1) := by
      have hl := h.1
      unfold keptOf
      rw [hl, if_neg h0]
    rw [hk]
    generalize l.getD (i % n) 0 = x at hcell hx ⊢
    have hmod : (i : Int).tmod (n : Int) = ((i % n : Nat) : Int) := by rw [Int.tmod_eq_emod_of_nonneg (by omega)]; omega
    generalize i % n = j at hmod hlt hcell
    have h1 := Int.tmod_lt_of_pos x (b := (b : Int) + 1) (by omega)
    have h2 := Int.lt_tmod_of_pos x (b := (b : Int) + 1) (by omega)
    clear h hc hk
    go_enter Try.func40, Try.ntmps40
    go_wp2
    all_goals go_ret
    all_goals exact ⟨rfl, rfl⟩
end Go.Proofs.Ytedhbcaakdfcbaa.disk
