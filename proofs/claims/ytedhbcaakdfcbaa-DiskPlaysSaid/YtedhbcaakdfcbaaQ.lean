/- The names of a disk. -/
import Derived.Test.YtedhbcaakdfcbaaP
namespace Go.Proofs.Ytedhbcaakdfcbaa.disk
open Go.ChangeShapes Go.WideShapes Go.ChangeAt Go.RowKit Go.Maps Go.WideMaps Go.Sort Go.Shelf
set_option linter.unusedVariables false
set_option linter.unusedSimpArgs false

/-- These are the names, rising. -/
structure Listed (fm : FM) (ns : List (List UInt8)) : Prop where
  nodup : ns.Nodup
  mem : ∀ x, x ∈ ns ↔ (fm x).isSome = true
  rise : ns.Pairwise (fun a b => a ≤ b)
  le : ∀ x ∈ ns, x.length ≤ maxLen
theorem Listed.same {fm : FM} {ns ns' : List (List UInt8)} (h : Listed fm ns) (h' : Listed fm ns') : ns = ns' := by
  refine List.Perm.eq_of_pairwise (le := fun a b => a ≤ b) (fun a b _ _ h1 h2 => List.le_antisymm h1 h2) h.rise h'.rise ?_
  exact (List.perm_ext_iff_of_nodup h.nodup h'.nodup).2 fun x => (h.mem x).trans (h'.mem x).symm
theorem Dsk.keys {w : World} {base p : Nat} {mb : Option Nat} {D : DataW Value} {c : Cfg} {fm : FM} {N : Nat} (h : Dsk w base p mb D c fm N) : (strKeys D).Nodup ∧ (∀ x, x ∈ strKeys D ↔ (fm x).isSome = true) ∧ ∀ x ∈ strKeys D, x.length ≤ maxLen := by
  cases mb with
  | none =>
    have hD := h.nomap rfl
    subst hD
    refine ⟨by simp [strKeys], fun x => ?_, by simp [strKeys]⟩
    have := h.has x
    rw [← this]
    simp [strKeys, Maps.has_eq]
  | some b =>
    have hown := (h.map b rfl).2.2
    obtain ⟨es, hD, hpw, _⟩ := hown.entries keyed9
    obtain ⟨es', hD', hko⟩ := hown.keysOf
    obtain rfl : es = es' := by rw [hD] at hD'; simpa using hD'
    have hk : ∀ p ∈ es, ∃ x, p.1 = .string x := fun p hp => by obtain ⟨v, hv⟩ := hko p hp; obtain ⟨x, _, hx, _⟩ := Maps.keyOf_str Try.underlying9 hv; exact ⟨x, hx⟩
    have hle := strKeys_le hown Try.underlying9
    have hh := h.has
    subst hD
    refine ⟨?_, fun x => ?_, hle⟩
    · show (es.map fun p => strOf p.1).Nodup
      refine List.pairwise_map.2 (hpw.imp_of_mem fun {p q} hp' hq' hne e => hne ?_)
      obtain ⟨a, ha⟩ := hk p hp'
      obtain ⟨b, hb⟩ := hk q hq'
      rw [ha, hb] at e ⊢
      exact congrArg _ e
    · rw [← hh x, has_eq, List.any_eq_true]
      show x ∈ es.map (fun p => strOf p.1) ↔ _
      rw [List.mem_map]
      constructor
      · rintro ⟨p, hp, e⟩
        obtain ⟨a, ha⟩ := hk p hp
        refine ⟨p, hp, ?_⟩
        rw [ha] at e ⊢
        have : a = x := e
        subst this
        simp [Lit.sameKey]
      · rintro ⟨p, hp, e⟩
        obtain ⟨a, ha⟩ := hk p hp
        refine ⟨p, hp, ?_⟩
        rw [ha] at e ⊢
        simp [Lit.sameKey] at e
        exact e
theorem listed_of {w : World} {base p : Nat} {mb : Option Nat} {D : DataW Value} {c : Cfg} {fm : FM} {N : Nat} (h : Dsk w base p mb D c fm N) {ss : List (List UInt8)} (hp : ss.Perm (strKeys D)) : Listed fm (ss.mergeSort (fun x y => decide (x ≤ y))) := by
  obtain ⟨h1, h2, h3⟩ := h.keys
  have hm := List.mergeSort_perm ss (fun x y => decide (x ≤ y))
  refine ⟨(hm.trans hp).nodup_iff.2 h1, fun x => ((hm.trans hp).mem_iff).trans (h2 x), ?_, fun x hx => h3 x ((hm.trans hp).mem_iff.1 hx)⟩
  have tr : ∀ a b c : List UInt8, leB a b = true → leB b c = true → leB a c = true := fun a b c h1 h2 => by simp only [leB, decide_eq_true_eq] at *; exact List.le_trans h1 h2
  have to : ∀ a b : List UInt8, (leB a b || leB b a) = true := fun a b => by simp only [leB, Bool.or_eq_true, decide_eq_true_eq]; exact List.le_total a b
  exact (List.pairwise_mergeSort tr to ss).imp fun h => by simpa [leB] using h
/-- maps.Keys. -/
theorem keys36 (mb : Option Nat) (W : World) : CallsIn Fence.wide 5 Try.prog 36 #[.map mb] W fun e w' => e = .returned (.func (.func 50) #[] #[.pointer (some ⟨W.heap.size, 0, none⟩)]) ∧ w' = W.alloc (.cells #[.map mb] 52) :=
  AnyZ.keys_in laysK Fence.wide 5 trivial rfl mb W
set_option maxHeartbeats 1000000 in
/-- slices.Sorted of the keys of a disk's map. -/
theorem sorted35 {w : World} {base p : Nat} {mb : Option Nat} {D : DataW Value} {c : Cfg} {fm : FM} {N : Nat} (h : Dsk w base p mb D c fm N) (hN : N ≤ 1000000) :
    CallsIn Fence.wide 5 Try.prog 35 #[.func (.func 50) #[] #[.pointer (some ⟨w.heap.size, 0, none⟩)]] (w.alloc (.cells #[.map mb] 52)) fun e w' => ∃ (v : Value) (ns : List (List UInt8)), e = .returned v ∧ Listed fm ns ∧
      w'.ownsRow (w.heap.size + 1) 9 1 v ns.length (ns.map encStr) ∧ (v = .slice none 0 0 ↔ ns = []) ∧ Below (w.heap.size + 1) (w.alloc (.cells #[.map mb] 52)) w' := by
  have hsz : (w.alloc (.cells #[.map mb] 52)).heap.size = w.heap.size + 1 := Array.size_push _
  have hms : ∀ ss : List (List UInt8), (ss.mergeSort (fun x y => decide (x ≤ y))).length = ss.length := fun ss => List.length_mergeSort ss
  have hnil : ∀ ss : List (List UInt8), ss = [] ↔ (ss.mergeSort (fun x y => decide (x ≤ y))) = [] := fun ss => by rw [← List.length_eq_zero_iff, ← List.length_eq_zero_iff, hms]
  cases mb with
  | none =>
    have hseq : SeqGives Fence.wide 2 Try.prog 50 #[.pointer (some ⟨w.heap.size, 0, none⟩)] encStr (fun ss : List (List UInt8) => ss = []) 0 (w.alloc (.cells #[.map none] 52)) :=
      AnyZ.keys_gives_nil (ρ := numK) { laysK with } Fence.wide _ trivial rfl w.heap.size _ (by simp) (by simp)
    refine (AnyZ.sorted_in laysS Fence.wide 5 trivial trivial trivial trivial rfl (by omega) (sortsIn _) (enters_of Try.func49 (by kernel_rfl) rfl) 50 #[.pointer (some ⟨w.heap.size, 0, none⟩)] trivial (enters_of Try.func50 (by kernel_rfl) rfl) _ 0 (Nat.zero_le _) (by omega) _ hseq).mono ?_
    rintro e w' ⟨v, ss, rfl, e2, q1, q2, q3⟩
    rw [hsz] at q1 q3
    refine ⟨v, _, rfl, listed_of h (ss := ss) (by rw [e2, h.nomap rfl]; exact List.Perm.refl _), by rw [hms]; exact q1, q2.trans (hnil ss), q3⟩
  | some b =>
    have hown := (h.map b rfl).2.2
    have hbl := hown.lt
    have hsD := h.sz
    have hseq : SeqGives Fence.wide 2 Try.prog 50 #[.pointer (some ⟨w.heap.size, 0, none⟩)] encStr (fun ss => ss.Perm (strKeys D)) (Maps.size D) (w.alloc (.cells #[.map (some b)] 52)) :=
      AnyZ.keys_gives (ρ := numK) { laysK with } Fence.wide _ trivial rfl (by omega) w.heap.size b _ D _ (by simp) (by simp) (by
        obtain ⟨es, clock, hb, Ft, hs, hD⟩ := hown
        exact ⟨es, clock, (Below.heap_alloc _ _ b hbl).trans hb, Ft, hs, hD⟩)
    refine (AnyZ.sorted_in laysS Fence.wide 5 trivial trivial trivial trivial rfl (by omega) (sortsIn _) (enters_of Try.func49 (by kernel_rfl) rfl) 50 #[.pointer (some ⟨w.heap.size, 0, none⟩)] trivial (enters_of Try.func50 (by kernel_rfl) rfl) _ _ (by unfold maxLen; omega) (by omega) _ hseq).mono ?_
    rintro e w' ⟨v, ss, rfl, e2, q1, q2, q3⟩
    rw [hsz] at q1 q3
    exact ⟨v, _, rfl, listed_of h e2, by rw [hms]; exact q1, q2.trans (hnil ss), q3⟩
end Go.Proofs.Ytedhbcaakdfcbaa.disk
