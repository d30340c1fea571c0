/- Trees: when they are formed, walked. -/
import Derived.Test.YtklmbiekpilkhaaGreatDoorIdxM
import Derived.Test.YtklmbiekpilkhaaGreatDoorRow
import Derived.Test.YtklmbiekpilkhaaGreatDoorNamC
namespace Go.Proofs.YtklmbiekpilkhaaGreatDoor.idx
open Go.ChangeShapes Go.WideShapes Go.ChangeAt Go.RowKit
open Go.Proofs.YtklmbiekpilkhaaGreatDoor.row
set_option linter.unusedVariables false
set_option maxRecDepth 100000
set_option linter.unusedSimpArgs false

def cP (p : P) : List Value := [.int .i64 p.n, .string p.s]
def cE (e : E) : List Value := [.int .u32 (e.u : Nat), .int .i64 e.a]
def cS (s : ByteArray) : List Value := [.string s]
theorem fP : Fm cP 2 := ⟨fun _ => rfl, fun y u hu => by simp [cP] at hu; rcases hu with rfl | rfl <;> rfl⟩
theorem fE : Fm cE 2 := ⟨fun _ => rfl, fun y u hu => by simp [cE] at hu; rcases hu with rfl | rfl <;> rfl⟩
theorem fS : Fm cS 1 := ⟨fun _ => rfl, fun y u hu => by simp [cS] at hu; subst hu; rfl⟩
theorem flS (l : List ByteArray) : fl cS l = l.map Value.string := by
  induction l with
  | nil => rfl
  | cons x r ih => rw [fl, List.flatMap_cons, List.map_cons, ← ih]; rfl
theorem atP {w : World} {A : Option Addr} {n : Nat} {ys : List P} (h : Rd cP 2 w A n ys) (k : Nat) (hk : k < n) : ∃ b o y, A = some ⟨b, o, none⟩ ∧ ys[k]? = some y ∧ w.cell? ⟨b, o + k * 2, none⟩ = some (.int .i64 y.n) ∧ w.cell? ⟨b, o + k * 2 + 1, none⟩ = some (.string y.s) := by
  obtain ⟨b, o, y, h1, h2, h3⟩ := h.2 k hk
  exact ⟨b, o, y, h1, h2, h3 0 _ rfl, h3 1 _ rfl⟩
theorem atE {w : World} {A : Option Addr} {n : Nat} {ys : List E} (h : Rd cE 2 w A n ys) (k : Nat) (hk : k < n) : ∃ b o y, A = some ⟨b, o, none⟩ ∧ ys[k]? = some y ∧ w.cell? ⟨b, o + k * 2, none⟩ = some (.int .u32 (y.u : Nat)) ∧ w.cell? ⟨b, o + k * 2 + 1, none⟩ = some (.int .i64 y.a) := by
  obtain ⟨b, o, y, h1, h2, h3⟩ := h.2 k hk
  exact ⟨b, o, y, h1, h2, h3 0 _ rfl, h3 1 _ rfl⟩
theorem atS {w : World} {A : Option Addr} {n : Nat} {ys : List ByteArray} (h : Rd cS 1 w A n ys) (k : Nat) (hk : k < n) : ∃ b o y, A = some ⟨b, o, none⟩ ∧ ys[k]? = some y ∧ w.cell? ⟨b, o + k, none⟩ = some (.string y) := by
  obtain ⟨b, o, y, h1, h2, h3⟩ := h.2 k hk
  exact ⟨b, o, y, h1, h2, by have := h3 0 _ rfl; simpa using this⟩
theorem map_at {α β : Type} {ys : List α} {k : Nat} {y : α} (f : α → β) (h : ys[k]? = some y) : (ys.map f)[k]? = some (f y) := by rw [List.getElem?_map, h]; rfl

/-- A name of any length: what is as it should be. -/
theorem norm_long (w : World) (s : ByteArray) (hs : ¬ s.size ≤ 60) :
    Calls Tryz.prog 68 #[.string s] w fun e w' => e = .returned (.tuple #[.string ⟨#[]⟩, .bool false]) ∧ Below w.heap.size w w' := by
  have hI : Calls Tryz.prog 99 #[.string s] w fun e w' => e = .returned (.bool false) ∧ Below w.heap.size w w' := by
    go_enter Tryz.func99, Tryz.ntmps99
    go_wp2
    go_ret
    exact ⟨rfl, Below.refl _ _⟩
  have HI := Lib.hid hI
  clear hI
  go_enter Tryz.func68, Tryz.ntmps68
  go_wp2_with (go_at_call 99; refine HI.out.mono ?_; rintro e w1 ⟨rfl, hb⟩)
  go_ret2
  exact ⟨rfl, hb⟩
theorem norm_all (w : World) (s : ByteArray) (hr : nam.Room w) :
    Calls Tryz.prog 68 #[.string s] w fun e w' => e = .returned (.tuple #[.string (nam.normS s), .bool (nam.normOk s)]) ∧ Below w.heap.size w w' := by
  by_cases hs : s.size ≤ 60
  · exact nam.normR w s (by omega) hr
  · have h0 : nam.normOk s = false := by simp [nam.normOk, hs]
    have h1 : nam.normS s = ⟨#[]⟩ := by simp [nam.normS, h0]
    rw [h0, h1]
    exact norm_long w s hs
theorem isName_any (w : World) (s : ByteArray) (hr : nam.Room w) :
    Calls Tryz.prog 41 #[.string s] w fun e w' => e = .returned (.bool (bod.named s)) ∧ Below w.heap.size w w' := by
  have hN := norm_all w s hr
  unfold bod.named
  generalize nam.normS s = t at *
  generalize nam.normOk s = b at *
  have HN := Lib.hid hN
  clear hN hr
  cases b
  · go_enter Tryz.func41, Tryz.ntmps41
    go_wp2_with (go_at_call 68; refine HN.out.mono ?_; rintro e w1 ⟨rfl, hb⟩)
    go_ret
    exact ⟨rfl, hb⟩
  · by_cases hts : t = s
    · subst hts
      rw [decide_eq_true rfl]
      go_enter Tryz.func41, Tryz.ntmps41
      go_wp2_with (go_at_call 68; refine HN.out.mono ?_; rintro e w1 ⟨rfl, hb⟩)
      go_ret
      exact ⟨rfl, hb⟩
    · rw [decide_eq_false hts]
      have hne := rd.str_ne hts
      clear hts
      go_enter Tryz.func41, Tryz.ntmps41
      go_wp2_with (go_at_call 68; refine HN.out.mono ?_; rintro e w1 ⟨rfl, hb⟩)
      go_ret
      exact ⟨by simpa [ByteArray.toList_eq] using hne, hb⟩
theorem number_any (w : World) (m : Int) (s : ByteArray) :
    Calls Tryz.prog 47 #[.agg #[.int .i64 m, .string s]] w fun e w' => e = .returned (.int .i64 m) ∧ Below w.heap.size w w' := by
  go_enter Tryz.func47, Tryz.ntmps47
  go_wp2
  go_ret
  exact ⟨rfl, (Below.refl _ _).alloc (Nat.le_refl _) _⟩
def wrongP (p : P) : Bool := decide (16 ≤ p.n) || !bod.named p.s
theorem wrongP_any (w : World) (m : Int) (s : ByteArray) (hr : nam.Room w) :
    Calls Tryz.prog 45 #[.agg #[.int .i64 m, .string s]] w fun e w' => e = .returned (.bool (wrongP ⟨m, s⟩)) ∧ Below w.heap.size w w' := by
  have HN := Lib.hid (isName_any (w.alloc (.cells #[.int .i64 m, .string s] 68)) s (hr.below ((Below.refl _ _).alloc (Nat.le_refl _) _)))
  unfold wrongP
  clear hr
  by_cases hm : 16 ≤ m
  · have hd : decide ((16 : Int) ≤ m) = true := decide_eq_true hm
    rw [hd]
    go_enter Tryz.func45, Tryz.ntmps45
    go_wp2
    go_ret
    exact ⟨rfl, (Below.refl _ _).alloc (Nat.le_refl _) _⟩
  · have hd : decide ((16 : Int) ≤ m) = false := decide_eq_false hm
    rw [hd]
    go_enter Tryz.func45, Tryz.ntmps45
    go_wp2_with (go_at_call 41; refine HN.out.mono ?_; rintro e w1 ⟨rfl, hb⟩)
    go_ret
    exact ⟨rfl, (boxed hb).2⟩
end Go.Proofs.YtklmbiekpilkhaaGreatDoor.idx
