/- Bytes as texts, and slices of them; the small ones of package head: low, isSame, isName, goesOn. -/
import Derived.Test.YthofgpddfnajiaaDoorHedM
import Derived.Test.YthofgpddfnajiaaDoorCodA
import Derived.Laws.BytesArg
import Derived.Lib.ConvBytes
namespace Go.Proofs.YthofgpddfnajiaaDoor.hd
open Go.ChangeShapes Go.WideShapes Go.ChangeAt Go.RowKit
open Go.Proofs.YthofgpddfnajiaaDoor.codec (Bytes vals)
set_option linter.unusedVariables false
set_option maxRecDepth 100000
set_option linter.unusedSimpArgs false

def strOf (l : List Nat) : ByteArray := ⟨(l.map UInt8.ofNat).toArray⟩
theorem strOfNums_nat (l : List Nat) : strOfNums (l.map Int.ofNat) = strOf l := by
  simp only [strOfNums, strOf, List.map_map]
  rfl
theorem strOf_size (a : List Nat) : (strOf a).size = a.length := by simp [strOf, ByteArray.size]
theorem no_bytes (w : World) (src e : TypeId) (hs : Tryd.prog.underlying src = some (.slice e)) (he : Tryd.prog.underlying e = some (.int .u8)) (p : Option Addr) (c : Nat) (dst : TypeId) (hd : Tryd.prog.underlying dst = some .string) :
    (convert src dst (.slice p 0 c)).run Tryd.prog w = .ok (.string ⟨#[]⟩) w := by
  rw [run_convert_bytes_string w src dst e _ 0 c hs he hd]
  cases p <;> simp [Conv.bytesToString, loadCells]
  all_goals rfl
/-- Bytes as a text. -/
theorem Bytes.text {w : World} {A : Option Addr} {n : Nat} {l : List Nat} (h : Bytes w A n l) (c : Nat) : (convert 22 9 (.slice A n c)).run Tryd.prog w = .ok (.string (strOf l)) w := by
  rcases Nat.eq_zero_or_pos n with h0 | h0
  · subst h0
    obtain rfl : l = [] := List.eq_nil_of_length_eq_zero h.1
    rw [no_bytes w 22 5 Tryd.underlying22 Tryd.underlying5 A c 9 Tryd.underlying9]
    rfl
  · obtain ⟨b, o, rfl, hc⟩ := h.2.2 h0
    have hl := h.1
    rw [run_convert_bytes_arg (P := Tryd.prog) w 22 5 Tryd.underlying22 Tryd.underlying5 b o n c (l.map Int.ofNat) (by simpa using hl) (fun i hi => by
      rw [hc i hi]
      have hi' : i < l.length := by omega
      simp [List.getD, hi']) 9 Tryd.underlying9, strOfNums_nat]
theorem strOf_inj {a b : List Nat} (ha : ∀ x ∈ a, x < 256) (hb : ∀ x ∈ b, x < 256) (h : strOf a = strOf b) : a = b := by
  unfold strOf at h
  have h1 : a.map UInt8.ofNat = b.map UInt8.ofNat := by
    have := congrArg ByteArray.data h
    simpa using this
  have h2 := congrArg (List.map UInt8.toNat) h1
  simp only [List.map_map] at h2
  have e : ∀ l : List Nat, (∀ x ∈ l, x < 256) → l.map (UInt8.toNat ∘ UInt8.ofNat) = l := by
    intro l hl
    calc l.map (UInt8.toNat ∘ UInt8.ofNat) = l.map id := List.map_congr_left (fun x hx => by simp [Nat.mod_eq_of_lt (hl x hx)])
      _ = l := by simp
  rwa [e a ha, e b hb] at h2
def byt (s : ByteArray) (i : Nat) : Nat := (s.data[i]!).toNat
theorem byt_at (s : ByteArray) (i : Nat) (h : i < s.size) : (s[i]'h).toNat = byt s i := by
  unfold byt
  congr 1
  exact (getElem!_pos s.data i h).symm
theorem byt_lt (s : ByteArray) (i : Nat) : byt s i < 256 := UInt8.toNat_lt _
theorem byt_strOf {l : List Nat} (hl : ∀ x ∈ l, x < 256) {i b : Nat} (h : l[i]? = some b) : byt (strOf l) i = b := by
  obtain ⟨h1, h2⟩ := List.getElem?_eq_some_iff.1 h
  have h3 := hl b (h2 ▸ List.getElem_mem h1)
  unfold byt strOf
  simp [h1, h2]
  omega
/-- A slice that came in, or a part of one. -/
def Sl (w : World) (A : Option Addr) (n c : Nat) (l : List Nat) : Prop := Bytes w A n l ∧ n ≤ c ∧ True ∧ (A = none → c = 0)
theorem Sl.below {w w' : World} {A : Option Addr} {n c : Nat} {l : List Nat} (h : Sl w A n c l) (hb : Below w.heap.size w w') : Sl w' A n c l := ⟨h.1.below h.1.lt hb, h.2⟩
theorem Bytes.part {w : World} {A : Option Addr} {n : Nat} {l : List Nat} (h : Bytes w A n l) (k : Nat) (hk : k ≤ n) : Bytes w A k (l.take k) := by
  obtain ⟨h1, h2, h3⟩ := h
  refine ⟨by rw [List.length_take]; omega, fun b hb => h2 b (List.mem_of_mem_take hb), fun h0 => ?_⟩
  obtain ⟨b, o, e, hc⟩ := h3 (by omega)
  refine ⟨b, o, e, fun i hi => ?_⟩
  rw [hc i (by omega)]
  simp [List.getD, List.getElem?_take, hi]
theorem Bytes.rest {w : World} {A : Option Addr} {n : Nat} {l : List Nat} (h : Bytes w A n l) (k : Nat) (hk : k ≤ n) (A' : Option Addr) (hA : ∀ b o, A = some ⟨b, o, none⟩ → k < n → A' = some ⟨b, o + k, none⟩) : Bytes w A' (n - k) (l.drop k) := by
  obtain ⟨h1, h2, h3⟩ := h
  refine ⟨by rw [List.length_drop]; omega, fun b hb => h2 b (List.mem_of_mem_drop hb), fun h0 => ?_⟩
  obtain ⟨b, o, e, hc⟩ := h3 (by omega)
  refine ⟨b, o + k, hA b o e (by omega), fun i hi => ?_⟩
  rw [Nat.add_assoc, hc (k + i) (by omega)]
  simp [List.getD]
theorem Sl.part {w : World} {A : Option Addr} {n c : Nat} {l : List Nat} (h : Sl w A n c l) (k : Nat) (hk : k ≤ n) : Sl w A k c (l.take k) := ⟨Bytes.part h.1 k hk, by have := h.2.1; omega, h.2.2⟩
theorem Sl.rest {w : World} {A : Option Addr} {n c : Nat} {l : List Nat} (h : Sl w A n c l) (k : Nat) (hk : k ≤ n) : Sl w (if c = k then A else A.map fun x => x.add k) (n - k) (c - k) (l.drop k) := by
  refine ⟨Bytes.rest h.1 k hk _ ?_, by have := h.2.1; omega, trivial, fun e => ?_⟩
  · rintro b o rfl hlt
    rw [if_neg (by have := h.2.1; omega)]
    simp [codec.add_none]
  · split at e
    · omega
    · cases A with
      | none => have := h.2.2.2 rfl; omega
      | some a => simp at e
theorem Sl.none (w : World) : Sl w .none 0 0 [] := ⟨⟨rfl, by simp, fun h => absurd h (Nat.lt_irrefl 0)⟩, Nat.le_refl _, trivial, fun _ => rfl⟩
/-- A letter in small. -/
def lowB (c : Nat) : Nat := if 65 ≤ c ∧ c ≤ 90 then c + 32 else c
set_option maxHeartbeats 400000 in
theorem low_any (w : World) (c : Nat) (hc : c < 256) :
    Calls Tryd.prog 20 #[.int .u8 (c : Nat)] w fun e w' => e = .returned (.int .u8 (lowB c : Nat)) ∧ w = w' := by
  unfold lowB
  by_cases h1 : 65 ≤ c
  · have q1 : decide ((c : Int) < 65) = false := decide_eq_false (by omega)
    by_cases h2 : c ≤ 90
    · have q2 : decide ((90 : Int) < (c : Int)) = false := decide_eq_false (by omega)
      have e1 : IntKind.u8.wrap ((c : Int) + 32) = ((c + 32 : Nat) : Int) := (IntWalk.u8_in _ (by omega)).trans (by omega)
      rw [if_pos ⟨h1, h2⟩]
      go_enter Tryd.func20, Tryd.ntmps20
      go_wp2
      go_ret
      exact ⟨by first | rw [e1] | simp [e1] | simp, rfl⟩
    · have q2 : decide ((90 : Int) < (c : Int)) = true := decide_eq_true (by omega)
      rw [if_neg (by omega)]
      go_enter Tryd.func20, Tryd.ntmps20
      go_wp2
      go_ret
      exact ⟨rfl, rfl⟩
  · have q1 : decide ((c : Int) < 65) = true := decide_eq_true (by omega)
    rw [if_neg (by omega)]
    go_enter Tryd.func20, Tryd.ntmps20
    go_wp2
    go_ret
    exact ⟨rfl, rfl⟩
end Go.Proofs.YthofgpddfnajiaaDoor.hd
