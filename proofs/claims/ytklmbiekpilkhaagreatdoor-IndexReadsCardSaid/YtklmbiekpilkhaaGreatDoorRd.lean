/- An In that is read, whole or bad: what it gives, and what is left. -/
import Derived.Test.YtklmbiekpilkhaaGreatDoorCodI
namespace Go.Proofs.YtklmbiekpilkhaaGreatDoor.rd
open Go.ChangeShapes Go.WideShapes Go.ChangeAt Go.RowKit
open Go.Proofs.YtklmbiekpilkhaaGreatDoor.codec (Bytes vals vals_append vals_length vals_one bytesOf byteAt bytesOf_length bytesOf_lt strOf InIs BadIn numOf)
set_option linter.unusedVariables false
set_option maxRecDepth 100000
set_option linter.unusedSimpArgs false

/-- What the next k bytes are. -/
def got (k : Nat) : Option (List Nat) → List Nat
  | some l => if k ≤ l.length then l.take k else []
  | none => []
/-- What is left behind them. -/
def rest (k : Nat) : Option (List Nat) → Option (List Nat)
  | some l => if k ≤ l.length then some (l.drop k) else none
  | none => none
/-- An In at q over bytes at g, that has L left, or is bad; all else is as it was in W. -/
def Rd (W : World) (q g : Nat) (L : Option (List Nat)) (w : World) : Prop :=
  (match L with | some l => ∃ o c, InIs w q g o c l ∧ c ≤ 10000000 | none => BadIn w q) ∧ W.heap.size ≤ q ∧ q < w.heap.size ∧ g < w.heap.size ∧ Below W.heap.size W w
theorem Rd.bel {W w : World} {q g : Nat} {L : Option (List Nat)} (h : Rd W q g L w) : Below W.heap.size W w := h.2.2.2.2
theorem Rd.at_ {W w : World} {q g : Nat} {L : Option (List Nat)} (h : Rd W q g L w) : ∃ v b, w.heap[q]? = some (.cells #[v, .bool b] 111 (0, 0)) ∧ ∃ A n c, v = .slice A n c := by
  cases L with
  | none => exact ⟨_, _, h.1, _, _, _, rfl⟩
  | some l =>
    obtain ⟨⟨o, c, hi, -⟩, -⟩ := h
    exact ⟨_, _, hi.1, _, _, _, rfl⟩
theorem Rd.below {W w w' : World} {q g : Nat} {L : Option (List Nat)} (h : Rd W q g L w) (hb : Below w.heap.size w w') : Rd W q g L w' := by
  obtain ⟨h1, h2, h3, h4, h5⟩ := h
  refine ⟨?_, h2, Nat.lt_of_lt_of_le h3 hb.size, Nat.lt_of_lt_of_le h4 hb.size, h5.trans (hb.mono h5.size)⟩
  cases L with
  | none => exact (hb.block q h3).trans h1
  | some l =>
    obtain ⟨o, c, hi, hc⟩ := h1
    exact ⟨o, c, hi.kept (hb.block q h3) (hb.block g h4), hc⟩
theorem Rd.alloc {W w : World} {q g : Nat} {L : Option (List Nat)} (h : Rd W q g L w) (o : Obj) : Rd W q g L (w.alloc o) := h.below ((Below.refl _ _).alloc (Nat.le_refl _) _)
theorem Rd.drewN {W w : World} {q g : Nat} {L : Option (List Nat)} (h : Rd W q g L w) (n : Nat) : Rd W q g L (w.drewN n) := h.below (codec.below_draws (Below.refl _ _) n)
theorem rd_new (W : World) (A : Option Addr) (n c : Nat) (l : List Nat) (h : Bytes W A n l) (hn : n ≤ 10000000) :
    Calls Tryz.prog 38 #[.slice A n c] W fun e w' => ∃ q g, e = .returned (.pointer (some ⟨q, 0, none⟩)) ∧ Rd W q g (some l) w' :=
  (codec.newIn_any W A n c l h hn).mono fun _ w' ⟨he, hi, hb⟩ => ⟨_, _, he, ⟨_, _, hi, hn⟩, by omega, hi.facts.2.2.2, by have := hi.facts.2.2.2; omega, hb⟩
/-- Bytes that lie elsewhere stay. -/
theorem keep {W w w' : World} {q g a n : Nat} {L : Option (List Nat)} {o : Nat} {l : List Nat} (h : Rd W q g L w) (hB : Bytes w (some ⟨a, o, none⟩) n l) (ht : codec.Touch (fun i => i = q) w w') : Bytes w' (some ⟨a, o, none⟩) n l := by
  refine hB.touch (fun ad e hn hq => ?_) ht
  cases e
  obtain ⟨v, b, hv, A, k, c, rfl⟩ := h.at_
  obtain ⟨b', o', e, hc⟩ := hB.2.2 hn
  cases e
  have hc0 := hc 0 hn
  have hq' : a = q := hq
  subst hq'
  simp only [World.cell?, hv, Nat.add_zero] at hc0
  rcases o with _ | _ | o
  · simp at hc0
  · simp at hc0
  · simp at hc0
theorem rd_next {W w : World} {q g : Nat} {L : Option (List Nat)} (h : Rd W q g L w) (k : Nat) :
    ∃ A n c, n = (got k L).length ∧ n ≤ 10000000 ∧ (∀ w', Rd W q g (rest k L) w' ∧ codec.Touch (fun i => i = q) w w' → Bytes w' A n (got k L)) ∧
      Calls Tryz.prog 39 #[.pointer (some ⟨q, 0, none⟩), .int .i64 k, .bool true] w fun e w' => e = .returned (.slice A n c) ∧ Rd W q g (rest k L) w' ∧ codec.Touch (fun i => i = q) w w' := by
  obtain ⟨h1, h2, h3, h4, h5⟩ := h
  have hT : ∀ {w'}, codec.Touch (fun i => i = q) w w' → q < w'.heap.size ∧ g < w'.heap.size ∧ Below W.heap.size W w' := fun ht =>
    ⟨Nat.lt_of_lt_of_le h3 ht.2.2.2.1, Nat.lt_of_lt_of_le h4 ht.2.2.2.1, h5.trans (ht.toBelow _ h5.size (fun i hi e => by omega))⟩
  cases L with
  | none =>
    refine ⟨none, 0, 0, rfl, by omega, fun w' _ => codec.empty_bytes w', (codec.next_bad w q k true h1).mono ?_⟩
    rintro e w' ⟨rfl, rfl⟩
    exact ⟨rfl, ⟨h1, h2, h3, h4, h5⟩, codec.Touch.refl _ _⟩
  | some l =>
    obtain ⟨o, c, hi, hc⟩ := h1
    by_cases hk : k ≤ l.length
    · have hg : got k (some l) = l.take k := by simp [got, hk]
      have hr : rest k (some l) = some (l.drop k) := by simp [rest, hk]
      rw [hg, hr]
      have hcl := hi.2.2.1
      refine ⟨some ⟨g, o, none⟩, k, c, by simp; omega, by omega, fun w' hw => codec.taken hi hk hw.2, (codec.next_good w q g o c k l hi hk hc).mono ?_⟩
      rintro e w' ⟨rfl, o', c', hi', ht, hc'⟩
      obtain ⟨t1, t2, t3⟩ := hT ht
      exact ⟨rfl, ⟨⟨o', c', hi', by omega⟩, h2, t1, t2, t3⟩, ht⟩
    · have hg : got k (some l) = [] := by simp [got, hk]
      have hr : rest k (some l) = none := by simp [rest, hk]
      rw [hg, hr]
      refine ⟨none, 0, 0, rfl, by omega, fun w' _ => codec.empty_bytes w', (codec.next_fails w q g o c k true l hi (fun _ => by omega)).mono ?_⟩
      rintro e w' ⟨rfl, hb, ht⟩
      obtain ⟨t1, t2, t3⟩ := hT ht
      exact ⟨rfl, ⟨hb, h2, t1, t2, t3⟩, ht⟩
theorem rd_N {W w : World} {q g : Nat} {L : Option (List Nat)} (h : Rd W q g L w) (s : Nat) (h1 : 1 ≤ s) (h7 : s ≤ 7) :
    Calls Tryz.prog 18 #[.pointer (some ⟨q, 0, none⟩), .int .i64 s] w fun e w' => e = .returned (.int .i64 (numOf (got s L) : Nat)) ∧ Rd W q g (rest s L) w' ∧ codec.Touch (fun i => i = q) w w' := by
  obtain ⟨A, n, c, hn, hn2, hB, hC⟩ := rd_next h s
  refine codec.inN_loop w _ c n (got s L) s true A _ (by simp; omega) hB ?_ hC
  rw [hn]
  cases L with
  | none => simp [got]
  | some l =>
    simp only [got]
    split
    · simp; omega
    · simp
theorem rd_Raw {W w : World} {q g : Nat} {L : Option (List Nat)} (h : Rd W q g L w) (s : Nat) (hl : ∀ l, L = some l → ∀ b ∈ l, b < 256) :
    Calls Tryz.prog 62 #[.pointer (some ⟨q, 0, none⟩), .int .i64 s] w fun e w' => ∃ g' m, m = (got s L).length ∧ e = .returned (.slice (some ⟨g', 0, none⟩) m m) ∧ w.heap.size ≤ g' ∧ Bytes w' (some ⟨g', 0, none⟩) m (got s L) ∧ Rd W q g (rest s L) w' ∧ codec.Touch (fun i => i = q) w w' := by
  obtain ⟨A, n, c, hn, hn2, hB, hC⟩ := rd_next h s
  refine (codec.raw_any w _ c n (got s L) s A _ hB hn2 (by rw [show decide ((0 : Int) ≤ (s : Nat)) = true by simp]; exact hC)).mono ?_
  rintro e w' ⟨w1, rfl, ⟨hR, ht⟩, rfl⟩
  have hsm : ∀ b ∈ got s L, b < 256 := by
    intro b hb
    cases L with
    | none => simp [got] at hb
    | some l =>
      simp only [got] at hb
      split at hb
      · exact hl l rfl b (List.mem_of_mem_take hb)
      · simp at hb
  refine ⟨_, n, hn, rfl, ht.2.2.2.1, ?_, hR.alloc _, ht.alloc _⟩
  rw [hn]
  exact codec.alloc_bytes w1 _ hsm
set_option maxHeartbeats 400000 in
theorem rd_Done {W w : World} {q g : Nat} {L : Option (List Nat)} (h : Rd W q g L w) :
    Calls Tryz.prog 20 #[.pointer (some ⟨q, 0, none⟩)] w fun e w' => e = .returned (.bool (decide (L = some []))) ∧ w = w' := by
  cases L with
  | none =>
    obtain ⟨h0, h1, hlt⟩ := h.1.facts
    clear h
    go_enter Tryz.func20, Tryz.ntmps20
    go_wp2_with fail
    go_ret
    exact ⟨rfl, rfl⟩
  | some l =>
    obtain ⟨o, c, hi, hc⟩ := h.1
    obtain ⟨h0, h1, hf, hlt⟩ := hi.facts
    clear h hi
    by_cases hn : l.length = 0
    · obtain rfl := List.eq_nil_of_length_eq_zero hn
      have hd : decide (some ([] : List Nat) = some []) = true := by simp
      rw [hd]
      simp at h0
      go_enter Tryz.func20, Tryz.ntmps20
      go_wp2_with fail
      go_ret
      exact ⟨rfl, rfl⟩
    · have hd : decide (some l = some []) = false := by
        cases l with
        | nil => simp at hn
        | cons a b => simp
      rw [hd]
      generalize l.length = m at *
      have hmz : ((m : Int) == 0) = false := by simp; omega
      go_enter Tryz.func20, Tryz.ntmps20
      go_wp2_with fail
      go_ret
      exact ⟨rfl, rfl⟩
/-- What is left is bytes. -/
theorem rest_lt {L : Option (List Nat)} (k : Nat) (hl : ∀ l, L = some l → ∀ b ∈ l, b < 256) : ∀ l, rest k L = some l → ∀ b ∈ l, b < 256 := by
  intro l hr b hb
  cases L with
  | none => simp [rest] at hr
  | some m =>
    simp only [rest] at hr
    split at hr
    · cases hr
      exact hl m rfl b (List.mem_of_mem_drop hb)
    · simp at hr
theorem str_ne {T S : ByteArray} (h : T ≠ S) : (T.toList == S.data.toList) = false := by
  rw [beq_eq_false_iff_ne, ByteArray.toList_eq]
  intro e
  apply h
  obtain ⟨⟨t⟩⟩ := T
  obtain ⟨⟨u⟩⟩ := S
  simp at e
  rw [e]
theorem bytes_take {w : World} {A : Option Addr} {n : Nat} {l : List Nat} (h : Bytes w A n l) (k : Nat) (hk : k ≤ n) : Bytes w A k (l.take k) := by
  refine ⟨by rw [List.length_take, h.1]; omega, fun b hb => h.2.1 b (List.mem_of_mem_take hb), fun h0 => ?_⟩
  obtain ⟨b, o, rfl, hc⟩ := h.2.2 (by omega)
  refine ⟨b, o, rfl, fun i hi => ?_⟩
  rw [hc i (by omega)]
  simp [List.getD, hi]
theorem bytes_drop {w : World} {b o : Nat} {n : Nat} {l : List Nat} (h : Bytes w (some ⟨b, o, none⟩) n l) (k : Nat) (hk : k < n) : Bytes w (some ⟨b, o + k, none⟩) (n - k) (l.drop k) := by
  refine ⟨by rw [List.length_drop, h.1], fun x hx => h.2.1 x (List.mem_of_mem_drop hx), fun h0 => ?_⟩
  obtain ⟨b, o, e, hc⟩ := h.2.2 (by omega)
  cases e
  refine ⟨_, _, rfl, fun i hi => ?_⟩
  rw [Nat.add_assoc, hc (k + i) (by omega)]
  simp [List.getD]
end Go.Proofs.YtklmbiekpilkhaaGreatDoor.rd
