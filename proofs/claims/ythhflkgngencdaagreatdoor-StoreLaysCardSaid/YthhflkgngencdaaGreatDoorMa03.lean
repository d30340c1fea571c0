/- What the parts of package name answer: letters, parts, names, what is above. -/
import Derived.Test.YthhflkgngencdaaGreatDoorRows
import Derived.Test.YthhflkgngencdaaGreatDoorMa01
import Derived.Test.YthhflkgngencdaaGreatDoorMa02
import Derived.WalkKit
import Derived.ProofKit
import Derived.OpenShut
import Derived.ShutString
import Derived.ChangeOld
import Derived.Below
import Derived.Outline
import Derived.WalkSpells
import Derived.Lib.Hide
import Derived.Deep.QuietTactic
import Derived.BigQuiet
import Derived.Deep.OwnRows
import Derived.Deep.WholeRow
import Derived.StillTailTactics
import Derived.Deep.RegionLaw
import Derived.Shelf.Vars
import Derived.Test.YthhflkgngencdaaGreatDoorMa00
import Derived.Maps.OwnSet
import Derived.Maps.OwnOps
import Derived.Sort.OwnSorted
import Derived.Laws.BitsAllLaws
namespace Go.Proofs.YthhflkgngencdaaGreatDoor.nam
open Go.ChangeShapes Go.WideShapes Go.ChangeAt Go.RowKit
open Go.Lib (countB splitB)
set_option linter.unusedVariables false
set_option linter.unusedSimpArgs false

theorem nameByte_any (w : World) (c : Nat) (hc : c < 256) :
    Calls Tryz.prog 257 #[.int .u8 (c : Nat)] w fun e w' => e = .returned (.bool (nameB c)) ∧ w' = w := by
  go_enter Tryz.func257, Tryz.ntmps257
  go_wp2
  all_goals (go_ret; refine ⟨congrArg (fun b => Ending.returned (Value.bool b)) ?_, rfl⟩; rw [Bool.eq_iff_iff]; simp [nameB] at * <;> omega)

theorem part_any (w : World) (s : ByteArray) (hs : s.size ≤ 100000) :
    Calls Tryz.prog 235 #[.string s] w fun e w' => e = .returned (.bool (partL s.data.toList)) ∧ w' = w := by
  go_enter Tryz.func235, Tryz.ntmps235
  go_wp2
  go_loop [6] (fun i => ∃ k : Nat, k ≤ s.size ∧ i = .int .i64 k ∧ Hid (∀ j, j < k → nameB (byt s j) = true)) (fun i => s.size - (intOf i).toNat)
  case atStart => exact ⟨0, Nat.zero_le _, rfl, fun j h => absurd h (Nat.not_lt_zero _)⟩
  case round =>
    obtain ⟨k, hk, rfl, hh⟩ := hrel
    go_wp2_with (go_at_call 257; refine (nameByte_any _ _ (UInt8.toNat_lt _)).mono ?_; rintro e w' ⟨rfl, rfl⟩)
    · have hlt : k < s.size := by assumption
      have h : (!nameB (s[k]).toNat) = true := by assumption
      rw [byt_at] at h
      go_ret
      rw [part_bad s k hlt (by simpa using h)]
      exact ⟨rfl, rfl⟩
    · have hlt : k < s.size := by assumption
      have h : (!nameB (s[k]).toNat) = false := by assumption
      rw [byt_at] at h
      refine ⟨⟨k + 1, hlt, by simp, fun j hj => ?_⟩, by simp [intOf]; omega⟩
      rcases Nat.lt_succ_iff_lt_or_eq.1 hj with h' | rfl
      · exact hh.out j h'
      · simpa using h
    · have hlt : ¬ k < s.size := by assumption
      go_ret
      rw [part_end s (fun j hj => hh.out j (by omega)), Lib.toList_data, Lib.size_eq]
      refine ⟨congrArg (fun b => Ending.returned (Value.bool b)) ?_, rfl⟩
      cases s.data.toList <;> simp

theorem split_any (w : World) (s : ByteArray) (m : Int) (hs : s.size ≤ 100000) (hm : w.cell? ⟨9, 0, none⟩ = some (.int .i64 m)) :
    Calls Tryz.prog 234 #[.string s, .string ⟨#[47]⟩] w fun e w' => ∃ L : List ByteArray, Hid ((L.all fun t => partL t.data.toList) = goodL s.data.toList) ∧ L.length ≤ 1000000 ∧ e = .returned (.slice (some ⟨w.heap.size, 0, none⟩) L.length L.length) ∧
      Below w.heap.size w w' ∧ (∀ (k : Nat) t, L[k]? = some t → w'.cell? ⟨w.heap.size, k, none⟩ = some (.string t)) ∧ ∀ t ∈ L, t.size ≤ 100000 := by
  refine (Tryz.strings_Split s ⟨#[47]⟩ m w (by omega) hm (by decide)).mono ?_
  rintro e w' ⟨rfl, rfl⟩
  have hl : (splitB ⟨#[47]⟩ 0 (countB s ⟨#[47]⟩) s).length = countB s ⟨#[47]⟩ + 1 := Lib.splitB_all ⟨#[47]⟩ (by decide) 0 _ s rfl
  have hc : countB s ⟨#[47]⟩ ≤ s.size := Lib.countB_le ⟨#[47]⟩ (by decide) s.size s (Nat.le_refl _)
  refine ⟨splitB ⟨#[47]⟩ 0 (countB s ⟨#[47]⟩) s, split_goodB s, by omega, by rw [hl], (Below.refl _ _).alloc (Nat.le_refl _) _, fun k t ht => ?_, fun t ht => ?_⟩
  · simp only [World.cell?]
    rw [heap_alloc_new]
    simp [ht]
  · have := splitB_size _ _ s t ht
    omega

set_option maxHeartbeats 1600000 in
theorem name_any (w : World) (s : ByteArray) (m : Int) (hs : s.size ≤ 100000) (hm : w.cell? ⟨9, 0, none⟩ = some (.int .i64 m)) :
    Calls Tryz.prog 207 #[.string s] w fun e w' => e = .returned (.bool (normOk s)) ∧ Below w.heap.size w w' := by
  by_cases h60 : s.size ≤ 60
  · have e60 : normOk s = goodL s.data.toList := by simp [normOk, h60]
    rw [e60]
    go_enter Tryz.func207, Tryz.ntmps207
    go_wp2_with (go_at_call 234; refine (split_any w s m hs hm).mono ?_; rintro e w1 ⟨L, hL, hlen, rfl, hb, hcell, hsz⟩; have HC := Lib.hid hcell; clear hcell)
    go_loop [11] (fun i => ∃ k : Nat, k ≤ L.length ∧ i = .int .i64 k ∧ Hid (∀ (j : Nat) t, L[j]? = some t → j < k → partL t.data.toList = true)) (fun i => L.length - (intOf i).toNat)
    case atStart => exact ⟨0, Nat.zero_le _, rfl, fun j t _ h => absurd h (Nat.not_lt_zero _)⟩
    case round =>
      obtain ⟨k, hk, rfl, hh⟩ := hrel
      by_cases hkl : k < L.length
      · obtain ⟨t, ht⟩ : ∃ t, L[k]? = some t := ⟨_, List.getElem?_eq_getElem hkl⟩
        have hc := HC.out k t ht
        have hts := hsz t (List.mem_of_getElem? ht)
        have HT := Lib.hid ht
        clear ht
        go_wp2_with (go_at_call 235; refine (part_any _ t hts).mono ?_; rintro e w2 ⟨rfl, rfl⟩)
        · have h : (!partL t.data.toList) = true := by assumption
          go_ret
          refine ⟨congrArg (fun b => Ending.returned (Value.bool b)) ?_, hb⟩
          rw [← hL.out]
          symm
          rw [List.all_eq_false]
          exact ⟨t, List.mem_of_getElem? HT.out, by simpa using h⟩
        · have h : (!partL t.data.toList) = false := by assumption
          refine ⟨⟨k + 1, hkl, by simp, fun j u hu hj => ?_⟩, by simp [intOf]; omega⟩
          rcases Nat.lt_succ_iff_lt_or_eq.1 hj with h' | rfl
          · exact hh.out j u hu h'
          · rw [HT.out] at hu
            cases hu
            simpa using h
      · go_wp2
        go_ret
        refine ⟨congrArg (fun b => Ending.returned (Value.bool b)) ?_, hb⟩
        rw [← hL.out]
        symm
        rw [List.all_eq_true]
        intro t ht
        obtain ⟨j, hj⟩ := List.mem_iff_getElem?.1 ht
        exact hh.out j t hj (by have := (List.getElem?_eq_some_iff.1 hj).1; omega)
  · have e60 : normOk s = false := by simp [normOk, h60]
    rw [e60]
    go_enter Tryz.func207, Tryz.ntmps207
    go_wp2
    go_ret
    exact ⟨rfl, Below.refl _ _⟩

theorem clone_any (w : World) (s : ByteArray) (hs : s.size ≤ 100000) :
    Calls Tryz.prog 104 #[.string s] w fun e w' => e = .returned (.string s) ∧ Below w.heap.size w w' := by
  go_enter Tryz.func104, Tryz.ntmps104
  go_wp2_with (go_at_call 152; refine (Tryz.stringslite_Clone s w (by omega)).mono ?_; rintro e w1 ⟨rfl, hb⟩)
  go_ret
  exact ⟨rfl, hb⟩

theorem fold_any (w : World) (s : ByteArray) (hs : s.size ≤ 100000) (hn : normOk s = true) :
    Calls Tryz.prog 208 #[.string s, .string ⟨#[73, 78, 66, 79, 88]⟩] w fun e w' => e = .returned (.bool (alike s inbox)) ∧ w' = w := by
  refine (Tryz.strings_EqualFold s INBOX w (by omega) (normOk_ascii s hn) INBOX_ascii).mono ?_
  rintro e w' ⟨rfl, rfl⟩
  rw [fold_inbox]
  exact ⟨rfl, rfl⟩

theorem norm_any (w : World) (s : ByteArray) (m : Int) (hs : s.size ≤ 100000) (hm : w.cell? ⟨9, 0, none⟩ = some (.int .i64 m)) :
    Calls Tryz.prog 181 #[.string s] w fun e w' => e = .returned (.tuple #[.string (normS s), .bool (normOk s)]) ∧ Below w.heap.size w w' := by
  unfold normS
  cases hn : normOk s
  · simp only [Bool.false_eq_true, if_false]
    go_enter Tryz.func181, Tryz.ntmps181
    go_wp2_with (go_at_call 207; refine (name_any w s m hs hm).mono ?_; rintro e w1 ⟨rfl, hb⟩; rw [hn])
    go_ret2
    exact ⟨rfl, hb⟩
  · simp only [if_true]
    cases ha : alike s inbox
    · simp only [Bool.false_eq_true, if_false]
      go_enter Tryz.func181, Tryz.ntmps181
      go_wp2_with (first | (go_at_call 207; refine (name_any w s m hs hm).mono ?_; rintro e w1 ⟨rfl, hb⟩; rw [hn]) | (go_at_call 208; refine (fold_any _ s hs hn).mono ?_; rintro e w2 ⟨rfl, rfl⟩; rw [ha]) | (go_at_call 104; refine (clone_any _ s hs).mono ?_; rintro e w3 ⟨rfl, hb3⟩))
      go_ret2
      exact ⟨rfl, hb.trans (hb3.mono hb.size)⟩
    · simp only [if_true]
      go_enter Tryz.func181, Tryz.ntmps181
      go_wp2_with (first | (go_at_call 207; refine (name_any w s m hs hm).mono ?_; rintro e w1 ⟨rfl, hb⟩; rw [hn]) | (go_at_call 208; refine (fold_any _ s hs hn).mono ?_; rintro e w2 ⟨rfl, rfl⟩; rw [ha]))
      go_ret2
      exact ⟨rfl, hb⟩

theorem small_any (w : World) (c : Nat) (hc : c < 256) :
    Calls Tryz.prog 113 #[.int .u8 (c : Nat)] w fun e w' => e = .returned (.int .u8 (low c : Nat)) ∧ w' = w := by
  unfold low
  by_cases h : 65 ≤ c ∧ c ≤ 90
  · rw [if_pos h]
    go_enter Tryz.func113, Tryz.ntmps113
    go_wp2
    go_ret
    exact ⟨by congr 1, rfl⟩
  · rw [if_neg h]
    go_enter Tryz.func113, Tryz.ntmps113
    go_wp2
    all_goals first | (exfalso; omega) | (go_ret; exact ⟨rfl, rfl⟩)

/-- The world has drawn, and nothing else. -/
def Drew (w w' : World) : Prop := ∃ n, w' = w.drewN n
theorem Drew.drewN {w w' : World} (h : Drew w w') (q : Nat) : Drew w (w'.drewN q) := by
  obtain ⟨n, rfl⟩ := h
  exact ⟨n + q, by rw [World.drewN_drewN]⟩
theorem Drew.below {w w' : World} (h : Drew w w') (B : Nat) : Below B w w' := by
  obtain ⟨n, rfl⟩ := h
  exact ⟨rfl, rfl, rfl, Nat.le_refl _, fun _ _ => rfl⟩

end Go.Proofs.YthhflkgngencdaaGreatDoor.nam
namespace Go.Proofs.YthhflkgngencdaaGreatDoor.nam
open Go.ChangeShapes Go.WideShapes Go.ChangeAt Go.RowKit
set_option linter.unusedVariables false
set_option linter.unusedSimpArgs false

end Go.Proofs.YthhflkgngencdaaGreatDoor.nam
namespace Go.Proofs.YthhflkgngencdaaGreatDoor.nam
open Go.ChangeShapes Go.WideShapes Go.ChangeAt Go.RowKit
set_option linter.unusedVariables false
set_option linter.unusedSimpArgs false

/-- What the library's search asks of its own variable. -/
def Room (w : World) : Prop := ∃ m, w.cell? ⟨9, 0, none⟩ = some (.int .i64 m)
theorem Room.below {w w' : World} (h : Room w) (hb : Below w.heap.size w w') : Room w' := by
  obtain ⟨m, hm⟩ := h
  exact ⟨m, (hb.cell (block_lt_of_cell hm)).trans hm⟩

theorem normR (w : World) (s : ByteArray) (hs : s.size ≤ 100000) (hr : Room w) :
    Calls Tryz.prog 181 #[.string s] w fun e w' => e = .returned (.tuple #[.string (normS s), .bool (normOk s)]) ∧ Below w.heap.size w w' := by
  obtain ⟨m, hm⟩ := hr
  exact norm_any w s m hs hm

theorem Room.of_shape {w : World} (h : w.ShapedOpen Tryz.prog) : Room w :=
  cell_of_shapedOpen_int (t := 3) (zero := #[.int .i64 0]) h (of_decide_eq_true (by kernel_rfl)) (by kernel_rfl) rfl (by kernel_rfl) (by kernel_rfl) Tryz.underlying3
end Go.Proofs.YthhflkgngencdaaGreatDoor.nam
namespace Go.Proofs.YthhflkgngencdaaGreatDoor.idx
open Go.ChangeShapes Go.WideShapes Go.ChangeAt Go.RowKit
open Go.Proofs.YthhflkgngencdaaGreatDoor.row
set_option linter.unusedVariables false
set_option maxRecDepth 100000
set_option linter.unusedSimpArgs false

def cP (p : P) : List Value := [.int .i64 p.n, .string p.s]
def cE (e : E) : List Value := [.int .u32 (e.u : Nat), .int .i64 e.a]
def cS (s : ByteArray) : List Value := [.string s]
theorem fE : Fm cE 2 := ⟨fun _ => rfl, fun y u hu => by simp [cE] at hu; rcases hu with rfl | rfl <;> rfl⟩
theorem fS : Fm cS 1 := ⟨fun _ => rfl, fun y u hu => by simp [cS] at hu; subst hu; rfl⟩
theorem flS (l : List ByteArray) : fl cS l = l.map Value.string := by
  induction l with
  | nil => rfl
  | cons x r ih => rw [fl, List.flatMap_cons, List.map_cons, ← ih]; rfl
theorem atP {w : World} {A : Option Addr} {n : Nat} {ys : List P} (h : Rd cP 2 w A n ys) (k : Nat) (hk : k < n) : ∃ b o y, A = some ⟨b, o, none⟩ ∧ ys[k]? = some y ∧ w.cell? ⟨b, o + k * 2, none⟩ = some (.int .i64 y.n) ∧ w.cell? ⟨b, o + k * 2 + 1, none⟩ = some (.string y.s) := by
  obtain ⟨b, o, y, h1, h2, h3⟩ := h.2 k hk
  exact ⟨b, o, y, h1, h2, h3 0 _ rfl, h3 1 _ rfl⟩
theorem atE {w : World} {A : Option Addr} {n : Nat} {ys : List E} (h : Rd cE 2 w A n ys) (k : Nat) (hk : k < n) : ∃ b o y, A = some ⟨b, o, none⟩ ∧ ys[k]? = some y ∧ w.cell? ⟨b, o + k * 2, none⟩ = some (.int .u32 (y.u : Nat)) ∧ w.cell? ⟨b, o + k * 2 + 1, none⟩ = some (.int .i64 y.a) := by
  obtain ⟨b, o, y, h1, h2, h3⟩ := h.2 k hk
  exact ⟨b, o, y, h1, h2, h3 0 _ rfl, h3 1 _ rfl⟩
theorem atS {w : World} {A : Option Addr} {n : Nat} {ys : List ByteArray} (h : Rd cS 1 w A n ys) (k : Nat) (hk : k < n) : ∃ b o y, A = some ⟨b, o, none⟩ ∧ ys[k]? = some y ∧ w.cell? ⟨b, o + k, none⟩ = some (.string y) := by
  obtain ⟨b, o, y, h1, h2, h3⟩ := h.2 k hk
  exact ⟨b, o, y, h1, h2, by have := h3 0 _ rfl; simpa using this⟩
theorem map_at {α β : Type} {ys : List α} {k : Nat} {y : α} (f : α → β) (h : ys[k]? = some y) : (ys.map f)[k]? = some (f y) := by rw [List.getElem?_map, h]; rfl

/-- A name of any length: what is as it should be. -/
theorem norm_long (w : World) (s : ByteArray) (hs : ¬ s.size ≤ 60) :
    Calls Tryz.prog 181 #[.string s] w fun e w' => e = .returned (.tuple #[.string ⟨#[]⟩, .bool false]) ∧ Below w.heap.size w w' := by
  have hI : Calls Tryz.prog 207 #[.string s] w fun e w' => e = .returned (.bool false) ∧ Below w.heap.size w w' := by
    go_enter Tryz.func207, Tryz.ntmps207
    go_wp2
    go_ret
    exact ⟨rfl, Below.refl _ _⟩
  have HI := Lib.hid hI
  clear hI
  go_enter Tryz.func181, Tryz.ntmps181
  go_wp2_with (go_at_call 207; refine HI.out.mono ?_; rintro e w1 ⟨rfl, hb⟩)
  go_ret2
  exact ⟨rfl, hb⟩
theorem norm_all (w : World) (s : ByteArray) (hr : nam.Room w) :
    Calls Tryz.prog 181 #[.string s] w fun e w' => e = .returned (.tuple #[.string (nam.normS s), .bool (nam.normOk s)]) ∧ Below w.heap.size w w' := by
  by_cases hs : s.size ≤ 60
  · exact nam.normR w s (by omega) hr
  · have h0 : nam.normOk s = false := by simp [nam.normOk, hs]
    have h1 : nam.normS s = ⟨#[]⟩ := by simp [nam.normS, h0]
    rw [h0, h1]
    exact norm_long w s hs
theorem isName_any (w : World) (s : ByteArray) (hr : nam.Room w) :
    Calls Tryz.prog 132 #[.string s] w fun e w' => e = .returned (.bool (bod.named s)) ∧ Below w.heap.size w w' := by
  have hN := norm_all w s hr
  unfold bod.named
  generalize nam.normS s = t at *
  generalize nam.normOk s = b at *
  have HN := Lib.hid hN
  clear hN hr
  cases b
  · go_enter Tryz.func132, Tryz.ntmps132
    go_wp2_with (go_at_call 181; refine HN.out.mono ?_; rintro e w1 ⟨rfl, hb⟩)
    go_ret
    exact ⟨rfl, hb⟩
  · by_cases hts : t = s
    · subst hts
      rw [decide_eq_true rfl]
      go_enter Tryz.func132, Tryz.ntmps132
      go_wp2_with (go_at_call 181; refine HN.out.mono ?_; rintro e w1 ⟨rfl, hb⟩)
      go_ret
      exact ⟨rfl, hb⟩
    · rw [decide_eq_false hts]
      have hne := rd.str_ne hts
      clear hts
      go_enter Tryz.func132, Tryz.ntmps132
      go_wp2_with (go_at_call 181; refine HN.out.mono ?_; rintro e w1 ⟨rfl, hb⟩)
      go_ret
      exact ⟨by simpa [ByteArray.toList_eq] using hne, hb⟩
theorem number_any (w : World) (m : Int) (s : ByteArray) :
    Calls Tryz.prog 134 #[.agg #[.int .i64 m, .string s]] w fun e w' => e = .returned (.int .i64 m) ∧ Below w.heap.size w w' := by
  go_enter Tryz.func134, Tryz.ntmps134
  go_wp2
  go_ret
  exact ⟨rfl, (Below.refl _ _).alloc (Nat.le_refl _) _⟩
def wrongP (p : P) : Bool := decide (16 ≤ p.n) || !bod.named p.s
theorem wrongP_any (w : World) (m : Int) (s : ByteArray) (hr : nam.Room w) :
    Calls Tryz.prog 131 #[.agg #[.int .i64 m, .string s]] w fun e w' => e = .returned (.bool (wrongP ⟨m, s⟩)) ∧ Below w.heap.size w w' := by
  have HN := Lib.hid (isName_any (w.alloc (.cells #[.int .i64 m, .string s] 100)) s (hr.below ((Below.refl _ _).alloc (Nat.le_refl _) _)))
  unfold wrongP
  clear hr
  by_cases hm : 16 ≤ m
  · have hd : decide ((16 : Int) ≤ m) = true := decide_eq_true hm
    rw [hd]
    go_enter Tryz.func131, Tryz.ntmps131
    go_wp2
    go_ret
    exact ⟨rfl, (Below.refl _ _).alloc (Nat.le_refl _) _⟩
  · have hd : decide ((16 : Int) ≤ m) = false := decide_eq_false hm
    rw [hd]
    go_enter Tryz.func131, Tryz.ntmps131
    go_wp2_with (go_at_call 132; refine HN.out.mono ?_; rintro e w1 ⟨rfl, hb⟩)
    go_ret
    exact ⟨rfl, (boxed hb).2⟩
end Go.Proofs.YthhflkgngencdaaGreatDoor.idx
namespace Go.Proofs.YthhflkgngencdaaGreatDoor.sto
open Go.ChangeShapes Go.WideShapes Go.ChangeAt Go.RowKit
open Go.Proofs.YthhflkgngencdaaGreatDoor.row
open Go.Proofs.YthhflkgngencdaaGreatDoor.idx (E cE fE)
open Go.Maps (Keyed IsMap)
set_option linter.unusedVariables false
set_option maxRecDepth 100000
set_option linter.unusedSimpArgs false

/-- Of two marks of one UID the first one counts. -/
def firstM (es : List E) (u : Nat) : Option Int := (es.find? fun e => decide (e.u = u)).map E.a
theorem firstM_snoc (es : List E) (e : E) (u : Nat) : firstM (es ++ [e]) u = (firstM es u).or (if e.u = u then some e.a else none) := by
  unfold firstM
  rw [List.find?_append]
  cases h : es.find? fun e => decide (e.u = u) with
  | some x => rfl
  | none =>
    by_cases hu : e.u = u
    · simp [hu]
    · simp [hu]
def okA (es : List E) : Prop := ∀ e ∈ es, e.u < 4294967296 ∧ 0 ≤ e.a ∧ e.a ≤ 1000000
theorem lawU : Keyed Tryz.prog 39 := Go.Maps.int_keyed Tryz.underlying39
theorem wfU {n : Nat} (h : n < 4294967296) : (Lit.int .u32 (n : Nat)).wf = true := by
  simp [Lit.wf, IntKind.min, IntKind.max, IntKind.signed, IntKind.bits]
  omega
theorem keyOf_u {u : Nat} (hu : u < 4294967296) : keyOf Tryz.prog 39 (.int .u32 (u : Nat)) = some (.int .u32 (u : Nat)) := Go.Maps.keyOf_int_mk Tryz.underlying39 (wfU hu)
theorem zeroI (w : World) : (zeroValue 3).run Tryz.prog w = .ok (.int .i64 0) w := by kernel_rfl
/-- What the map holds. -/
def GF (D : DataW Unit) (l : List E) : Prop := IsMap D ∧ ∀ u : Nat, u < 4294967296 → Maps.has D (.int .u32 (u : Nat)) = (firstM l u).isSome ∧ ∀ a, firstM l u = some a → D.atKey (.int .u32 (u : Nat)) (.lit (.int .i64 0)) = .lit (.int .i64 a)
theorem GF.start : GF (.map []) [] := ⟨Maps.isMap_empty, fun u _ => ⟨rfl, fun p h => by cases h⟩⟩
theorem GF.same {D : DataW Unit} {l : List E} {x : E} (h : GF D l) (hs : (firstM l x.u).isSome = true) : GF D (l ++ [x]) := by
  refine ⟨h.1, fun u hu => ?_⟩
  rw [firstM_snoc]
  have h2 := h.2 u hu
  by_cases hx : x.u = u
  · subst hx
    obtain ⟨a, ha⟩ := Option.isSome_iff_exists.1 hs
    rw [ha] at h2 ⊢
    exact h2
  · rw [if_neg hx, Option.or_none]
    exact h2
theorem lit_u {u u' : Nat} (h : u ≠ u') : (Lit.int .u32 (u : Nat)) ≠ .int .u32 (u' : Nat) := fun e => h (by cases e; rfl)
theorem GF.put {D : DataW Unit} {l : List E} {x : E} (h : GF D l) (hn : firstM l x.u = none) (hu : x.u < 4294967296) : GF (D.put (.int .u32 (x.u : Nat)) (.lit (.int .i64 x.a))) (l ++ [x]) := by
  have hk := lawU.key (keyOf_u hu)
  refine ⟨h.1.put _ _, fun u hu' => ?_⟩
  rw [firstM_snoc]
  by_cases hc : x.u = u
  · subst hc
    rw [hn, if_pos rfl, Maps.has_put_same h.1 hk, Maps.atKey_put_same h.1 hk]
    exact ⟨rfl, fun p hp => by cases hp; rfl⟩
  · have hne := lit_u (fun hh : u = x.u => hc hh.symm)
    rw [if_neg hc, Option.or_none, Maps.has_put_other hne, Maps.atKey_put_other hne]
    exact h.2 u hu'
def FSt (W : World) (mb : Nat) (l : List E) (k : Nat) (w : World) : Prop := ∃ D : DataW Unit, w.ownsMap Tryz.prog 39 (plainElem Tryz.prog 3) mb k D ∧ GF D (l.take k) ∧ Below W.heap.size W w ∧ W.heap.size ≤ mb
theorem FSt.alloc {W : World} {mb : Nat} {l : List E} {k : Nat} {w : World} (h : FSt W mb l k w) (o : Obj) : FSt W mb l k (w.alloc o) := by
  obtain ⟨D, h1, h2, h3, h4⟩ := h
  exact ⟨D, h1.alloc o, h2, h3.alloc h3.size o, h4⟩
theorem FSt.skip {W : World} {mb : Nat} {l : List E} {k : Nat} {w : World} {x : E} (h : FSt W mb l k w) (hx : l[k]? = some x) (hs : (firstM (l.take k) x.u).isSome = true) : FSt W mb l (k + 1) w := by
  obtain ⟨D, h1, h2, h3', h4⟩ := h
  exact ⟨D, h1.mono (Nat.le_succ _), by rw [idx.take_next hx]; exact h2.same hs, h3', h4⟩
set_option maxHeartbeats 1000000 in
theorem flagsBy_any (W : World) (A : Option Addr) (n c : Nat) (es : List E) (hR : Rd cE 2 W A n es) (hn : n ≤ 1000000) (hok : okA es) :
    Calls Tryz.prog 172 #[.slice A n c] W fun x w' => ∃ mb, x = .returned (.map (some mb)) ∧ FSt W mb es n w' := by
  have HR := Lib.hid hR
  have HO := Lib.hid hok
  have HS0 : Hid (FSt W W.heap.size es 0 (W.alloc (.map #[] 0))) := Lib.hid ⟨_, World.ownsMap_made _ _ _ _, GF.start, (Below.refl _ _).alloc (Nat.le_refl _) _, Nat.le_refl _⟩
  clear hR hok
  have hmm := @run_makeMap Tryz.prog
  go_enter Tryz.func172, Tryz.ntmps172
  go_wp2
  clear hmm
  go_loopw [11] (fun i wr => ∃ k : Nat, k ≤ n ∧ i = .int .i64 k ∧ Hid (FSt W W.heap.size es k wr)) (fun i _ => n - (intOf i).toNat)
  case atStart => exact ⟨0, Nat.zero_le _, rfl, HS0⟩
  case round =>
    obtain ⟨k, hk, rfl, HS⟩ := hrel
    by_cases hlt : k < n
    · obtain ⟨D, g1, g2, g3, g4⟩ := HS.out
      obtain ⟨b, o, ⟨u, a⟩, rfl, hx, hc⟩ := (HR.out.below g3).2 k hlt
      have c0 := hc 0 _ rfl
      have c1 := hc 1 _ rfl
      have hyo := HO.out _ (List.mem_of_getElem? hx)
      have HX := Lib.hid hx
      simp only [Nat.add_zero] at c0 c1 hyo
      have hU := hyo.1
      have hlt' : (k : Int) < (n : Int) := by omega
      obtain ⟨hhas, -⟩ := g2.2 u hU
      have G1 := Lib.hid g1
      have G2 := Lib.hid g2
      have G3 := Lib.hid g3
      have HKY := Lib.hid (keyOf_u hU)
      have HA : Hid (0 ≤ a ∧ a ≤ 1000000) := Lib.hid hyo.2
      clear hx hc g1 g2 g3 g4 hyo
      cases hf : firstM (es.take k) u with
      | none =>
        rw [hf] at hhas
        simp only [Option.isSome_none] at hhas
        have HGP : Hid (GF (D.put (.int .u32 (u : Nat)) (.lit (.int .i64 a))) (es.take (k + 1))) := Lib.hid (by rw [idx.take_next HX.out]; exact GF.put (x := ⟨u, a⟩) G2.out hf hU)
        clear hf hU
        go_wp2_with (first
          | (at_lookup; refine wpList_lookup_own_ok_int (H := Unit) _ rfl _ _ 239 rfl 39 3 .i64 lawU Tryz.underlying239 Tryz.underlying3 (zeroI _) W.heap.size k D rfl (G1.out.alloc _) _ _ rfl HKY.out ?_; intro cc hat hwc; clear hat hwc)
          | (at_mapUpdate; refine wpList_mapUpdate_own _ rfl _ _ _ 239 rfl 39 3 lawU Tryz.underlying239 (plainElem Tryz.prog 3) W.heap.size k D rfl (G1.out.alloc _) (by unfold maxLen; omega) _ _ _ rfl rfl HKY.out _ [] (plainElem_int Tryz.underlying3 (WalkArith.wf_i64 (by have := HA.out; omega))) ?_; intro w1 hown1 hgrow1; have HS1 : Hid (FSt W W.heap.size es (k + 1) w1) := Lib.hid ⟨_, hown1, HGP.out, (G3.out.alloc G3.out.size _).trans ⟨hgrow1.os, hgrow1.tape, hgrow1.output, hgrow1.size, fun i hi => hgrow1.block i (by have := G3.out.size; simp; omega) (fun e => by have := Option.some.inj e; omega)⟩, Nat.le_refl _⟩; clear hown1 hgrow1))
        go_roundw
        case rel => first | exact ⟨k + 1, by omega, by go_num, HS1⟩ | ((repeat apply Exists.intro); exact ⟨⟨k + 1, by omega, by go_num, HS1⟩, rfl⟩)
        case measure => (show n - ((k : Int) + 1).toNat < n - k; omega)
      | some v =>
        rw [hf] at hhas
        simp only [Option.isSome_some] at hhas
        have HSk := Lib.hid (HS.out.skip HX.out (by show (firstM (es.take k) u).isSome = true; rw [hf]; rfl))
        clear hf hU
        go_wp2_with (at_lookup; refine wpList_lookup_own_ok_int (H := Unit) _ rfl _ _ 239 rfl 39 3 .i64 lawU Tryz.underlying239 Tryz.underlying3 (zeroI _) W.heap.size k D rfl (G1.out.alloc _) _ _ rfl HKY.out ?_; intro cc hat hwc; clear hat hwc)
        go_roundw
        case rel => first | exact ⟨k + 1, by omega, by go_num, Lib.hid (HSk.out.alloc _)⟩ | ((repeat apply Exists.intro); exact ⟨⟨k + 1, by omega, by go_num, Lib.hid (HSk.out.alloc _)⟩, rfl⟩)
        case measure => (show n - ((k : Int) + 1).toNat < n - k; omega)
    · obtain rfl : k = n := by omega
      go_wp2
      go_ret
      exact ⟨_, rfl, HS.out⟩
end Go.Proofs.YthhflkgngencdaaGreatDoor.sto
namespace Go.Proofs.YthhflkgngencdaaGreatDoor.idx
open Go.ChangeShapes Go.WideShapes Go.ChangeAt Go.RowKit
open Go.Proofs.YthhflkgngencdaaGreatDoor.row
set_option linter.unusedVariables false
set_option maxRecDepth 100000
set_option linter.unusedSimpArgs false

set_option maxHeartbeats 1000000 in
theorem riseP_any (W : World) (A : Option Addr) (n c : Nat) (ps : List P) (hR : Rd cP 2 W A n ps) (hn : n ≤ 1000000) :
    Calls Tryz.prog 133 #[.slice A n c, .int .i64 0, .func (.func 134) #[] #[]] W fun e w' => e = .returned (.bool (up (-1) (ps.map P.n)).2) ∧ Below W.heap.size W w' := by
  have HR := Lib.hid hR
  clear hR
  go_enter Tryz.func133, Tryz.ntmps133
  go_wp2
  go_loopw [7, 15] (fun s i wr => ∃ k : Nat, k ≤ n ∧ i = .int .i64 k ∧ s = .int .i64 (up (-1) ((ps.map P.n).take k)).1 ∧ Hid ((up (-1) ((ps.map P.n).take k)).2 = true) ∧ Hid (Below W.heap.size W wr)) (fun _ i _ => n - (intOf i).toNat)
  case atStart => exact ⟨0, Nat.zero_le _, rfl, rfl, Lib.hid rfl, Lib.hid (Below.refl _ _)⟩
  case round =>
    obtain ⟨k, hk, rfl, rfl, HU, HB⟩ := hrel
    by_cases hlt : k < n
    · obtain ⟨b, o, ⟨m, s⟩, rfl, hx, c0, c1⟩ := atP (HR.out.below HB.out) k hlt
      have hT := congrArg (up (-1)) (take_next (map_at P.n hx))
      simp only [up_snoc, HU.out, Bool.true_and] at hT
      have HT := Lib.hid hT
      simp only at c0 c1
      have hlt' : (k : Int) < (n : Int) := by omega
      have HN := Lib.hid (fun w => number_any w m s)
      clear hx hT
      generalize (up (-1) ((ps.map P.n).take k)).1 = g at *
      by_cases hg : g < m
      · have hd : decide (m ≤ g) = false := decide_eq_false (by omega)
        have HS := Lib.hid (show (up (-1) ((ps.map P.n).take (k + 1))) = (m, true) by rw [HT.out, decide_eq_true hg])
        clear HT hg
        go_wp2_with (go_at_call 134; refine (HN.out _).mono ?_; rintro e w1 ⟨rfl, hb⟩; have HB1 := Lib.hid (boxed hb).2; clear hb)
        go_roundw
        case rel => first | exact ⟨k + 1, by omega, by go_num, by rw [HS.out], Lib.hid (by rw [HS.out]), Lib.hid (HB.out.trans (HB1.out.mono HB.out.size))⟩ | ((repeat apply Exists.intro); exact ⟨⟨k + 1, by omega, by go_num, by rw [HS.out], Lib.hid (by rw [HS.out]), Lib.hid (HB.out.trans (HB1.out.mono HB.out.size))⟩, rfl⟩)
        case measure => (show n - ((k : Int) + 1).toNat < n - k; omega)
      · have hd : decide (m ≤ g) = true := decide_eq_true (by omega)
        have HS := Lib.hid (show (up (-1) (ps.map P.n)).2 = false from up_stop (i := k + 1) (by rw [HT.out, decide_eq_false hg]))
        clear HT hg
        go_wp2_with (go_at_call 134; refine (HN.out _).mono ?_; rintro e w1 ⟨rfl, hb⟩; have HB1 := Lib.hid (boxed hb).2; clear hb)
        go_ret
        exact ⟨by rw [HS.out]; rfl, HB.out.trans (HB1.out.mono HB.out.size)⟩
    · obtain rfl : k = n := by omega
      have HE : Hid ((ps.map P.n).take k = ps.map P.n) := Lib.hid (List.take_of_length_le (by rw [List.length_map, HR.out.1]; omega))
      go_wp2
      go_ret
      exact ⟨by rw [← HE.out, HU.out]; rfl, HB.out⟩
theorem any_no {α : Type} {p : α → Bool} {l : List α} (h : ∀ (j : Nat) (x : α), l[j]? = some x → p x = false) : l.any p = false := by
  rw [List.any_eq_false]
  intro x hx
  obtain ⟨j, hj⟩ := List.mem_iff_getElem?.1 hx
  rw [h j x hj]
  exact Bool.false_ne_true
theorem any_yes {α : Type} {p : α → Bool} {l : List α} {j : Nat} {x : α} (hx : l[j]? = some x) (h : p x = true) : l.any p = true := List.any_eq_true.2 ⟨x, List.mem_of_getElem? hx, h⟩
set_option maxHeartbeats 1000000 in
theorem indexFP_any (W : World) (A : Option Addr) (n c : Nat) (ps : List P) (hR : Rd cP 2 W A n ps) (hn : n ≤ 1000000) (hr : nam.Room W) :
    Calls Tryz.prog 148 #[.slice A n c, .func (.func 131) #[] #[]] W fun e w' => (∃ z : Int, e = .returned (.int .i64 z) ∧ decide (0 ≤ z) = ps.any wrongP) ∧ Below W.heap.size W w' := by
  have HR := Lib.hid hR
  have Hr := Lib.hid hr
  clear hR hr
  go_enter Tryz.func148, Tryz.ntmps148
  go_wp2
  go_loopw [8] (fun i wr => ∃ k : Nat, k ≤ n ∧ i = .int .i64 k ∧ Hid (∀ j x, j < k → ps[j]? = some x → wrongP x = false) ∧ Hid (Below W.heap.size W wr)) (fun i _ => n - (intOf i).toNat)
  case atStart => exact ⟨0, Nat.zero_le _, rfl, Lib.hid (fun j x h => absurd h (Nat.not_lt_zero _)), Lib.hid (Below.refl _ _)⟩
  case round =>
    obtain ⟨k, hk, rfl, HU, HB⟩ := hrel
    by_cases hlt : k < n
    · obtain ⟨b, o, ⟨m, s⟩, rfl, hx, c0, c1⟩ := atP (HR.out.below HB.out) k hlt
      simp only at c0 c1
      have hlt' : (k : Int) < (n : Int) := by omega
      have hW := wrongP_any wr m s (Hr.out.below HB.out)
      have HX := Lib.hid hx
      clear hx
      cases hp : wrongP ⟨m, s⟩
      · rw [hp] at hW
        have HW := Lib.hid hW
        have HP := Lib.hid hp
        clear hW hp
        go_wp2_with (go_at_call 131; refine HW.out.mono ?_; rintro e w1 ⟨rfl, hb⟩; have HB1 := Lib.hid hb; clear hb)
        go_roundw
        case rel =>
          have hU : ∀ j x, j < k + 1 → ps[j]? = some x → wrongP x = false := fun j x hj hx => by
            rcases Nat.lt_succ_iff_lt_or_eq.1 hj with h | rfl
            · exact HU.out j x h hx
            · rw [HX.out] at hx
              cases hx
              exact HP.out
          first | exact ⟨k + 1, by omega, by go_num, Lib.hid hU, Lib.hid (HB.out.trans (HB1.out.mono HB.out.size))⟩ | ((repeat apply Exists.intro); exact ⟨⟨k + 1, by omega, by go_num, Lib.hid hU, Lib.hid (HB.out.trans (HB1.out.mono HB.out.size))⟩, rfl⟩)
        case measure => (show n - ((k : Int) + 1).toNat < n - k; omega)
      · rw [hp] at hW
        have HW := Lib.hid hW
        have HP := Lib.hid (any_yes HX.out hp)
        clear hW hp
        go_wp2_with (go_at_call 131; refine HW.out.mono ?_; rintro e w1 ⟨rfl, hb⟩; have HB1 := Lib.hid hb; clear hb)
        go_ret
        exact ⟨⟨_, rfl, by rw [HP.out]; exact decide_eq_true (by omega)⟩, HB.out.trans (HB1.out.mono HB.out.size)⟩
    · obtain rfl : k = n := by omega
      have hA : ps.any wrongP = false := any_no fun j x hx => HU.out j x (by have := (List.getElem?_eq_some_iff.1 hx).1; have := HR.out.1; omega) hx
      have HA := Lib.hid hA
      clear hA
      go_wp2
      go_ret
      exact ⟨⟨_, rfl, by rw [HA.out]; rfl⟩, HB.out⟩
theorem containsP_any (W : World) (A : Option Addr) (n c : Nat) (ps : List P) (hR : Rd cP 2 W A n ps) (hn : n ≤ 1000000) (hr : nam.Room W) :
    Calls Tryz.prog 100 #[.slice A n c, .func (.func 131) #[] #[]] W fun e w' => e = .returned (.bool (ps.any wrongP)) ∧ Below W.heap.size W w' := by
  have HI := Lib.hid (indexFP_any W A n c ps hR hn hr)
  clear hR hr
  go_enter Tryz.func100, Tryz.ntmps100
  go_wp2_with (go_at_call 148; refine HI.out.mono ?_; rintro e w1 ⟨⟨z, rfl, hz⟩, hb⟩; have HB1 := Lib.hid hb; have HZ := Lib.hid hz; clear hb hz)
  go_ret
  exact ⟨by rw [← HZ.out]; rfl, HB1.out⟩
/-- The names of a tree, one by one. -/
def NS (W : World) (ps : List P) (k : Nat) (v : Value) (w : World) : Prop := Own cS 1 W.heap.size 9 w v ((ps.map P.s).take k) ∧ Below W.heap.size W w
theorem infoS : (Tryz.prog.info? 9).map (fun i => (i.zero, i.size, i.bytes)) = some (some (.string ⟨#[]⟩), 1, 16) := by kernel_rfl
set_option maxHeartbeats 1000000 in
theorem names_any (W : World) (A : Option Addr) (n c : Nat) (ps : List P) (hR : Rd cP 2 W A n ps) (hn : n ≤ 1000000) :
    Calls Tryz.prog 136 #[.slice A n c] W fun e w' => ∃ v, e = .returned v ∧ Own cS 1 W.heap.size 9 w' v (ps.map P.s) ∧ Below W.heap.size W w' := by
  have HR := Lib.hid hR
  clear hR
  go_enter Tryz.func136, Tryz.ntmps136
  go_wp2
  go_loopw [3, 8] (fun v i wr => ∃ k : Nat, k ≤ n ∧ i = .int .i64 k ∧ Hid (NS W ps k v wr)) (fun _ i _ => n - (intOf i).toNat)
  case atStart => exact ⟨0, Nat.zero_le _, rfl, Lib.hid ⟨Own.nil _ _ _ _ _, Below.refl _ _⟩⟩
  case round =>
    obtain ⟨k, hk, rfl, HS⟩ := hrel
    by_cases hlt : k < n
    · obtain ⟨b, o, ⟨m, s⟩, rfl, hx, c0, c1⟩ := atP (HR.out.below HS.out.2) k hlt
      simp only at c0 c1
      have hlt' : (k : Int) < (n : Int) := by omega
      have HT := Lib.hid (take_next (map_at P.s hx))
      have HL : Hid (((ps.map P.s).take k).length ≤ 20000000) := Lib.hid (by rw [List.length_take]; omega)
      have HO := Lib.hid (HS.out.1.alloc (.cells #[.int .i64 m, .string s] 100))
      have HB := Lib.hid (HS.out.2.alloc HS.out.2.size (.cells #[.int .i64 m, .string s] 100))
      clear hx
      go_wp2_with (at_builtin; refine row.wpList_append_own fS (by decide) (by decide) (by_ := 16) (by decide) (z := .string ⟨#[]⟩) rfl rfl (.tmp 12) (.tmp 15) 57 9 rfl Tryz.underlying57 infoS W.heap.size u3 _ rfl HO.out HB.out.size HL.out s (0, 0) _ (by simp) rfl _ rfl ?_; intro v1 w1 ho hg h3; have HS1 := Lib.hid (show NS W ps (k + 1) v1 w1 from ⟨by rw [HT.out]; exact ho, grown_below HB.out HO.out hg⟩); clear ho hg h3)
      go_roundw
      case rel => first | exact ⟨k + 1, by omega, by go_num, HS1⟩ | ((repeat apply Exists.intro); exact ⟨⟨k + 1, by omega, by go_num, HS1⟩, rfl⟩)
      case measure => (show n - ((k : Int) + 1).toNat < n - k; omega)
    · obtain rfl : k = n := by omega
      have HE : Hid ((ps.map P.s).take k = ps.map P.s) := Lib.hid (List.take_of_length_le (by rw [List.length_map, HR.out.1]; omega))
      go_wp2
      go_ret
      exact ⟨_, rfl, by rw [← HE.out]; exact HS.out.1, HS.out.2⟩
end Go.Proofs.YthhflkgngencdaaGreatDoor.idx
namespace Go.Proofs.YthhflkgngencdaaGreatDoor.idx
open Go.ChangeShapes Go.WideShapes Go.ChangeAt Go.RowKit Go.Sort
open Go.Proofs.YthhflkgngencdaaGreatDoor.row
set_option linter.unusedVariables false
set_option maxRecDepth 100000
set_option linter.unusedSimpArgs false

def isBox (x : ByteArray) : Bool := decide (x = nam.INBOX)
set_option maxHeartbeats 1000000 in
theorem indexS_any (W : World) (A : Option Addr) (n c : Nat) (ss : List ByteArray) (hR : Rd cS 1 W A n ss) (hn : n ≤ 1000000) :
    Calls Tryz.prog 78 #[.slice A n c, .string ⟨#[73, 78, 66, 79, 88]⟩] W fun e w' => (∃ z : Int, e = .returned (.int .i64 z) ∧ decide (0 ≤ z) = ss.any isBox) ∧ Below W.heap.size W w' := by
  have HR := Lib.hid hR
  clear hR
  go_enter Tryz.func78, Tryz.ntmps78
  go_wp2
  go_loopw [8] (fun i wr => ∃ k : Nat, k ≤ n ∧ i = .int .i64 k ∧ Hid (∀ j x, j < k → ss[j]? = some x → isBox x = false) ∧ Hid (Below W.heap.size W wr)) (fun i _ => n - (intOf i).toNat)
  case atStart => exact ⟨0, Nat.zero_le _, rfl, Lib.hid (fun j x h => absurd h (Nat.not_lt_zero _)), Lib.hid (Below.refl _ _)⟩
  case round =>
    obtain ⟨k, hk, rfl, HU, HB⟩ := hrel
    by_cases hlt : k < n
    · obtain ⟨b, o, s, rfl, hx, c0⟩ := atS (HR.out.below HB.out) k hlt
      have hlt' : (k : Int) < (n : Int) := by omega
      have HX := Lib.hid hx
      clear hx
      by_cases hs : s = nam.INBOX
      · subst hs
        have HP := Lib.hid (any_yes HX.out (p := isBox) (decide_eq_true rfl))
        have hc1 : wr.cell? ⟨b, o + k, none⟩ = some (.string ⟨#[73, 78, 66, 79, 88]⟩) := c0
        clear c0
        go_wp2
        go_ret
        exact ⟨⟨_, rfl, by rw [HP.out]; exact decide_eq_true (by omega)⟩, HB.out⟩
      · have HP := Lib.hid (show isBox s = false from decide_eq_false hs)
        have hne : (([73, 78, 66, 79, 88] : List UInt8) == s.toList) = false := by
          have := rd.str_ne (T := nam.INBOX) (S := s) (fun e => hs e.symm)
          rw [ByteArray.toList_eq] at this
          rw [ByteArray.toList_eq]
          exact this
        clear hs
        have hU : ∀ j x, j < k + 1 → ss[j]? = some x → isBox x = false := fun j x hj hx => by
          rcases Nat.lt_succ_iff_lt_or_eq.1 hj with h | rfl
          · exact HU.out j x h hx
          · rw [HX.out] at hx
            cases hx
            exact HP.out
        have HU1 := Lib.hid hU
        clear hU
        go_wp2
        go_roundw
        case rel => first | exact ⟨k + 1, by omega, by go_num, HU1, HB⟩ | ((repeat apply Exists.intro); exact ⟨⟨k + 1, by omega, by go_num, HU1, HB⟩, rfl⟩)
        case measure => (show n - ((k : Int) + 1).toNat < n - k; omega)
    · obtain rfl : k = n := by omega
      have hA : ss.any isBox = false := any_no fun j x hx => HU.out j x (by have := (List.getElem?_eq_some_iff.1 hx).1; have := HR.out.1; omega) hx
      have HA := Lib.hid hA
      clear hA
      go_wp2
      go_ret
      exact ⟨⟨_, rfl, by rw [HA.out]; rfl⟩, HB.out⟩
theorem containsS_any (W : World) (A : Option Addr) (n c : Nat) (ss : List ByteArray) (hR : Rd cS 1 W A n ss) (hn : n ≤ 1000000) :
    Calls Tryz.prog 37 #[.slice A n c, .string ⟨#[73, 78, 66, 79, 88]⟩] W fun e w' => e = .returned (.bool (ss.any isBox)) ∧ Below W.heap.size W w' := by
  have HI := Lib.hid (indexS_any W A n c ss hR hn)
  clear hR
  go_enter Tryz.func37, Tryz.ntmps37
  go_wp2_with (go_at_call 78; refine HI.out.mono ?_; rintro e w1 ⟨⟨z, rfl, hz⟩, hb⟩; have HB1 := Lib.hid hb; have HZ := Lib.hid hz; clear hb hz)
  go_ret
  exact ⟨by rw [← HZ.out]; rfl, HB1.out⟩
/-- A text out of its bytes. -/
def ofRaw (l : List UInt8) : ByteArray := ⟨l.toArray⟩
theorem ofRaw_raw (s : ByteArray) : ofRaw (rawL s) = s := by
  obtain ⟨⟨s⟩⟩ := s
  rfl
theorem map_ofRaw (l : List (List UInt8)) : l.map encStr = (l.map ofRaw).map Value.string := by
  rw [List.map_map]
  rfl
theorem names_raw (l : List ByteArray) : l.map Value.string = (l.map rawL).map encStr := by
  rw [List.map_map]
  exact List.map_congr_left fun s _ => by show Value.string s = Value.string (ofRaw (rawL s)); rw [ofRaw_raw]
theorem any_box (l : List ByteArray) (ts : List (List UInt8)) (h : ts = (l.map rawL).mergeSort fun x y => decide (x ≤ y)) : ts.any (isBox ∘ ofRaw) = l.any isBox := by
  rw [h, any_sorted, List.any_map]
  refine congrArg (List.any l) (funext fun s => ?_)
  show isBox (ofRaw (rawL s)) = isBox s
  rw [ofRaw_raw]
theorem nodup_box (l : List ByteArray) (ts : List (List UInt8)) (h : ts = (l.map rawL).mergeSort fun x y => decide (x ≤ y)) (n : Nat) (hn : l.length = n) : decide ((Lib.compact ts).length = n) = decide l.Nodup := by
  have := sorted_nodup (l.map rawL)
  rw [← h, List.length_map, hn, nodup_raw] at this
  exact this
theorem holds_at {w : World} {g : Nat} {cur : Array Value} {ss : List (List UInt8)} (hb : w.heap[g]? = some (.cells cur 9 (0, 0))) (ht : cur.toList.take (ss.length * 1) = ss.map encStr) : Holds encStr w g 0 ss.toArray :=
  holds_of_block hb (by rwa [Nat.mul_one] at ht)
theorem row_rd {w : World} {B g n cap : Nat} {zs : List ByteArray} (h : w.ownsRow B 9 1 (.slice (some ⟨g, 0, none⟩) n cap) n (zs.map Value.string)) (hn : zs.length = n) : Rd cS 1 w (some ⟨g, 0, none⟩) n zs := by
  refine ⟨hn, fun k hk => ⟨g, 0, zs[k], rfl, List.getElem?_eq_getElem (by omega), fun j v hv => ?_⟩⟩
  cases j with
  | zero =>
    simp [cS] at hv
    subst hv
    have := World.ownsRow.cells h (g := g) rfl k (.string zs[k]) (by rw [List.getElem?_map, List.getElem?_eq_getElem (by omega)]; rfl)
    rw [codec.add_none] at this
    simpa using this
  | succ j => simp [cS] at hv
theorem clone_row (w : World) (B g n cap : Nat) (ts : List (List UInt8)) (h : w.ownsRow B 9 1 (.slice (some ⟨g, 0, none⟩) n cap) n (ts.map encStr)) (hn : n ≤ 1000000) :
    Calls Tryz.prog 183 #[.slice (some ⟨g, 0, none⟩) n cap] w fun e w' => ∃ g2 c2, e = .returned (.slice (some ⟨g2, 0, none⟩) n c2) ∧ w.heap.size ≤ g2 ∧ g2 < w'.heap.size ∧ Below w.heap.size w w' ∧ Holds encStr w' g2 0 ts.toArray ∧ n ≤ c2 := by
  have ht : ts.length = n := by have := h.1; rw [List.length_map] at this; omega
  have hR := row_rd (zs := ts.map ofRaw) (by rw [← map_ofRaw]; exact h) (by rw [List.length_map]; exact ht)
  refine (Tryz.slices_Clone_string g 0 n cap (ts.map ofRaw) w (by rw [List.length_map]; omega) (by omega) (fun j hj => ?_)).mono ?_
  · rw [List.length_map] at hj
    obtain ⟨b, o, y, h1, h2, h3⟩ := hR.2 j (by omega)
    cases h1
    have := h3 0 _ rfl
    rw [List.getD, h2]
    simpa using this
  · rintro e w' ⟨v, rfl, ho, hne, hb⟩
    rw [List.take_of_length_le (by rw [List.length_map]; omega), ← map_ofRaw] at ho
    rcases ho.2 with ⟨h0, _⟩ | ⟨g2, c2, cur, h0, hB, hg, h1, h2, h3, h4⟩
    · exact absurd h0 hne
    · subst h0
      exact ⟨g2, c2, rfl, hB, (Array.getElem?_eq_some_iff.1 hg).1, hb, holds_at hg (by rw [ht]; exact h4), h1⟩
theorem below_put {B g q : Nat} (w : World) (d : Array (List UInt8)) (hB : B ≤ g) : Below B w (putRow encStr (Sort.ahead w q) g 0 d) := by
  refine ⟨rfl, rfl, rfl, by simp [putRow, mapBlock, Sort.ahead], fun k hk => ?_⟩
  have : g ≠ k := by omega
  simp [putRow, mapBlock, Sort.ahead, Array.getElem?_modify, this]
theorem compact_row (w : World) (g n c : Nat) (ts : List (List UInt8)) (hH : Holds encStr w g 0 ts.toArray) (ht : ts.length = n) (hn : n ≤ 1000000) (hc : n ≤ c) (B : Nat) (hB : B ≤ g) :
    Calls Tryz.prog 182 #[.slice (some ⟨g, 0, none⟩) n c] w fun e w' => e = .returned (.slice (some ⟨g, 0, none⟩) (Lib.compact ts).length c) ∧ Below B w w' := by
  subst ht
  refine (Tryz.slices_Compact_string g 0 c ts w hH (by omega) hc).mono ?_
  rintro e w' ⟨rfl, q, rfl⟩
  exact ⟨rfl, below_put w _ hB⟩
set_option maxHeartbeats 2000000 in
/-- A row of one name or more. -/
theorem boxes_many (W : World) (B g n cap : Nat) (cur : Array Value) (l : List ByteArray) (hl : l.length = n) (hn : n ≤ 1000000) (hB : B ≤ g) (hg : W.heap[g]? = some (.cells cur 9 (0, 0))) (h1 : n ≤ cap) (h2 : cap ≤ maxLen) (h3 : cur.size = cap * 1) (h4 : cur.toList.take (n * 1) = l.map Value.string) :
    Calls Tryz.prog 135 #[.slice (some ⟨g, 0, none⟩) n cap] W fun e w' => e = .returned (.bool (boxesB l)) ∧ Below B W w' := by
  obtain ⟨ts, hts⟩ : ∃ ts, ts = (l.map rawL).mergeSort fun x y => decide (x ≤ y) := ⟨_, rfl⟩
  have hlt : g < W.heap.size := (Array.getElem?_eq_some_iff.1 hg).1
  have hrl : (l.map rawL).length = n := by rw [List.length_map, hl]
  have htl : ts.length = n := by rw [hts, List.length_mergeSort, hrl]
  have HH : Holds encStr W g 0 (l.map rawL).toArray := holds_at hg (by rw [hrl, h4, names_raw])
  have hS := Tryz.slices_Sort_string g 0 cap (l.map rawL) W HH hlt (by omega)
  rw [hrl, ← hts] at hS
  have HS := Lib.hid hS
  have HO := Lib.hid (fun (m : Nat) (os : Array Obj) => (ownsRow_sorted (w := W) (base := B) (g := g) (cap := cap) (n := m) (e := 9) (os := os) (cur := cur) (ss := l.map rawL) (ts := ts) (by rw [htl, hrl]) hB hg (by omega) h2 h3))
  have HG := Lib.hid (fun (m : Nat) (os : Array Obj) => grownBy_sorted (w := W) (g := g) (n := m) (os := os) ts.toArray)
  have HTL := Lib.hid htl
  have HAB := Lib.hid (any_box l ts hts)
  have HND := Lib.hid (nodup_box l ts hts n hl)
  have HRL := Lib.hid hrl
  clear hS HH hg h4 h3 h2 hts htl hrl hl
  go_enter Tryz.func135, Tryz.ntmps135
  have HC := Lib.hid (fun (w : World) (h : w.ownsRow B 9 1 (.slice (some ⟨g, 0, none⟩) n cap) n (ts.map encStr)) => clone_row w B g n cap ts h hn)
  have HK := Lib.hid (fun (w : World) (g2 c2 B2 : Nat) (hH : Holds encStr w g2 0 ts.toArray) (hc : n ≤ c2) (hB : B2 ≤ g2) => compact_row w g2 n c2 ts hH HTL.out hn hc B2 hB)
  have HX := Lib.hid (fun (w : World) (h : Rd cS 1 w (some ⟨g, 0, none⟩) n (ts.map ofRaw)) => containsS_any w _ n cap _ h hn)
  generalize (Lib.compact ts).length = m at *
  by_cases hm : m = n
  · have HND1 := Lib.hid (show l.Nodup from of_decide_eq_true (by rw [← HND.out, decide_eq_true hm]))
    subst hm
    go_wp2_with (first
      | (go_at_call 48; refine HS.out.mono ?_; rintro e w1 ⟨rfl, q, os, hw⟩; have hr1 := HO.out q os; have hg1 := HG.out q os; rw [← hw, HRL.out] at hr1; rw [← hw] at hg1; have HR1 := Lib.hid hr1; have HG1 := Lib.hid hg1; clear hr1 hg1 hw)
      | (go_at_call 183; refine (HC.out w1 HR1.out).mono ?_; rintro e w2 ⟨g2, c2, rfl, hg2, hg3, hb2, hH2, hc2⟩; have HB2 := Lib.hid hb2; have HK2 := Lib.hid (HK.out w2 g2 c2 w1.heap.size hH2 hc2 hg2); clear hg2 hg3 hb2 hH2)
      | (go_at_call 182; refine HK2.out.mono ?_; rintro e w3 ⟨rfl, hb3⟩; have HB3 := Lib.hid (HB2.out.trans hb3); have HX3 := Lib.hid (HX.out w3 ((row_rd (zs := ts.map ofRaw) (by rw [← map_ofRaw]; exact HR1.out) (by rw [List.length_map]; exact HTL.out)).below HB3.out)); clear hb3)
      | (go_at_call 37; refine HX3.out.mono ?_; rintro e w4 ⟨rfl, hb4⟩; have HB4 := Lib.hid (HB3.out.trans (hb4.mono HB3.out.size)); clear hb4))
    go_ret
    refine ⟨?_, ?_⟩
    · rw [HAB.out]
      unfold boxesB
      rw [decide_eq_true HND1.out, Bool.true_and]
      rfl
    · have h0 : Below B W w1 := ⟨HG1.out.os, HG1.out.tape, HG1.out.output, HG1.out.size, fun k hk => HG1.out.block k (by omega) (fun e => by cases e; omega)⟩
      exact h0.trans (HB4.out.mono (by have := HG1.out.size; omega))
  · have HND1 := Lib.hid (show decide l.Nodup = false by rw [← HND.out, decide_eq_false hm])
    have hmn : ((m : Int) == (n : Int)) = false := by rw [beq_eq_false_iff_ne]; omega
    go_wp2_with (first
      | (go_at_call 48; refine HS.out.mono ?_; rintro e w1 ⟨rfl, q, os, hw⟩; have hr1 := HO.out q os; have hg1 := HG.out q os; rw [← hw, HRL.out] at hr1; rw [← hw] at hg1; have HR1 := Lib.hid hr1; have HG1 := Lib.hid hg1; clear hr1 hg1 hw)
      | (go_at_call 183; refine (HC.out w1 HR1.out).mono ?_; rintro e w2 ⟨g2, c2, rfl, hg2, hg3, hb2, hH2, hc2⟩; have HB2 := Lib.hid hb2; have HK2 := Lib.hid (HK.out w2 g2 c2 w1.heap.size hH2 hc2 hg2); clear hg2 hg3 hb2 hH2)
      | (go_at_call 182; refine HK2.out.mono ?_; rintro e w3 ⟨rfl, hb3⟩; have HB3 := Lib.hid (HB2.out.trans hb3); clear hb3))
    go_ret
    refine ⟨?_, ?_⟩
    · unfold boxesB
      rw [HND1.out, Bool.false_and]
      rfl
    · have h0 : Below B W w1 := ⟨HG1.out.os, HG1.out.tape, HG1.out.output, HG1.out.size, fun k hk => HG1.out.block k (by omega) (fun e => by cases e; omega)⟩
      exact h0.trans (HB3.out.mono (by have := HG1.out.size; omega))
theorem boxes_none (W : World) : Calls Tryz.prog 135 #[.slice none 0 0] W fun e w' => e = .returned (.bool (boxesB [])) ∧ Below W.heap.size W w' := by
  have HS := Lib.hid (Tryz.slices_Sort_string_none none 0 W)
  have HC := Lib.hid (Tryz.slices_Clone_string_nil 0 0 W)
  have HK := Lib.hid (Tryz.slices_Compact_string_empty none 0 W)
  have HX := Lib.hid (containsS_any W none 0 0 [] (Rd.empty W) (by omega))
  go_enter Tryz.func135, Tryz.ntmps135
  go_wp2_with (first
    | (go_at_call 48; refine HS.out.mono ?_; rintro e w1 ⟨rfl, rfl⟩)
    | (go_at_call 183; refine HC.out.mono ?_; rintro e w2 ⟨rfl, rfl⟩)
    | (go_at_call 182; refine HK.out.mono ?_; rintro e w3 ⟨rfl, rfl⟩)
    | (go_at_call 37; refine HX.out.mono ?_; rintro e w4 ⟨rfl, hb4⟩; have HB4 := Lib.hid hb4; clear hb4))
  go_ret
  exact ⟨rfl, HB4.out⟩
theorem boxes_any (W : World) (B : Nat) (v : Value) (l : List ByteArray) (h : Own cS 1 B 9 W v l) (hB : B ≤ W.heap.size) (hn : l.length ≤ 1000000) :
    Calls Tryz.prog 135 #[v] W fun e w' => e = .returned (.bool (boxesB l)) ∧ Below B W w' := by
  have h0 := h
  unfold Own at h0
  rw [flS] at h0
  rcases h0.2 with ⟨rfl, h1⟩ | ⟨g, cap, cur, rfl, hBg, hg, h1, h2, h3, h4⟩
  · obtain rfl := List.eq_nil_of_length_eq_zero h1
    exact (boxes_none W).mono fun _ _ ⟨he, hb⟩ => ⟨he, hb.mono hB⟩
  · exact boxes_many W B g l.length cap cur l rfl hn hBg hg h1 h2 h3 h4
set_option maxHeartbeats 2000000 in
theorem formedTree_any (W : World) (A : Option Addr) (n c : Nat) (ps : List P) (hR : Rd cP 2 W A n ps) (hn : n ≤ 1000000) (hr : nam.Room W) :
    Calls Tryz.prog 91 #[.slice A n c] W fun e w' => e = .returned (.bool (treeB ps)) ∧ Below W.heap.size W w' := by
  have HI := Lib.hid (riseP_any W A n c ps hR hn)
  have HC := Lib.hid (fun (w : World) (hb : Below W.heap.size W w) => containsP_any w A n c ps (hR.below hb) hn (hr.below hb))
  have HN := Lib.hid (fun (w : World) (hb : Below W.heap.size W w) => names_any w A n c ps (hR.below hb) hn)
  have HL := Lib.hid hR.1
  clear hR hr
  have hT : treeB ps = ((up (-1) (ps.map P.n)).2 && (!(ps.any wrongP) && boxesB (ps.map P.s))) := rfl
  rw [hT]
  cases h1 : (up (-1) (ps.map P.n)).2
  · rw [h1] at HI
    clear h1 hT
    go_enter Tryz.func91, Tryz.ntmps91
    go_wp2_with (go_at_call 133; refine HI.out.mono ?_; rintro e w1 ⟨rfl, hb⟩; have HB1 := Lib.hid hb; clear hb)
    go_ret
    exact ⟨rfl, HB1.out⟩
  · rw [h1] at HI
    cases h2 : ps.any wrongP
    · rw [h2] at HC
      clear h1 h2 hT
      go_enter Tryz.func91, Tryz.ntmps91
      go_wp2_with (first
        | (go_at_call 133; refine HI.out.mono ?_; rintro e w1 ⟨rfl, hb⟩; have HB1 := Lib.hid hb; clear hb)
        | (go_at_call 100; refine (HC.out w1 HB1.out).mono ?_; rintro e w2 ⟨rfl, hb⟩; have HB2 := Lib.hid (HB1.out.trans (hb.mono HB1.out.size)); clear hb)
        | (go_at_call 136; refine (HN.out w2 HB2.out).mono ?_; rintro e w3 ⟨v, rfl, ho, hb⟩; have HB3 := Lib.hid hb; have HO3 := Lib.hid ho; clear hb ho)
        | (go_at_call 135; refine (boxes_any w3 w2.heap.size v _ HO3.out HB3.out.size (by rw [List.length_map, HL.out]; exact hn)).mono ?_; rintro e w4 ⟨rfl, hb⟩; have HB4 := Lib.hid (HB2.out.trans ((HB3.out.trans hb).mono HB2.out.size)); clear hb))
      go_ret
      exact ⟨rfl, HB4.out⟩
    · rw [h2] at HC
      clear h1 h2 hT
      go_enter Tryz.func91, Tryz.ntmps91
      go_wp2_with (first
        | (go_at_call 133; refine HI.out.mono ?_; rintro e w1 ⟨rfl, hb⟩; have HB1 := Lib.hid hb; clear hb)
        | (go_at_call 100; refine (HC.out w1 HB1.out).mono ?_; rintro e w2 ⟨rfl, hb⟩; have HB2 := Lib.hid (HB1.out.trans (hb.mono HB1.out.size)); clear hb))
      go_ret
      exact ⟨rfl, HB2.out⟩
end Go.Proofs.YthhflkgngencdaaGreatDoor.idx
namespace Go.Proofs.YthhflkgngencdaaGreatDoor.crcPlain

/-- One bit's crcStep. -/
def crcStep (c : Nat) : Nat := if c % 2 = 1 then (c / 2) ^^^ 3988292384 else c / 2
/-- k crcSteps. -/
def crcSteps (c : Nat) : Nat → Nat
  | 0 => c
  | k + 1 => crcStep (crcSteps c k)
/-- A byte's crcStep. -/
def crcTurn (c b : Nat) : Nat := crcSteps (c ^^^ b) 8
/-- All bytes. -/
def crcRun (l : List Nat) : Nat := l.foldl crcTurn 4294967295
theorem xor_lt32 {a b : Nat} (ha : a < 4294967296) (hb : b < 4294967296) : a ^^^ b < 4294967296 := Nat.xor_lt_two_pow (n := 32) ha hb
theorem crcStep_lt {c : Nat} (h : c < 4294967296) : crcStep c < 4294967296 := by
  unfold crcStep
  split
  · exact xor_lt32 (by omega) (by omega)
  · omega
theorem crcSteps_lt {c : Nat} (h : c < 4294967296) : ∀ k, crcSteps c k < 4294967296
  | 0 => h
  | k + 1 => crcStep_lt (crcSteps_lt h k)
theorem crcTurn_lt {c b : Nat} (h : c < 4294967296) (hb : b < 256) : crcTurn c b < 4294967296 := crcSteps_lt (xor_lt32 h (by omega)) 8
theorem fold_lt (l : List Nat) : ∀ {c : Nat}, c < 4294967296 → (∀ b ∈ l, b < 256) → l.foldl crcTurn c < 4294967296 := by
  induction l with
  | nil => intro c h _; exact h
  | cons b r ih => intro c h hb; exact ih (crcTurn_lt h (hb b (by simp))) (fun x hx => hb x (by simp [hx]))
theorem crcRun_lt {l : List Nat} (hb : ∀ b ∈ l, b < 256) : crcRun l < 4294967296 := fold_lt l (by omega) hb

theorem crcRun_snoc (l : List Nat) (b : Nat) : crcRun (l ++ [b]) = crcTurn (crcRun l) b := by simp [crcRun]
end Go.Proofs.YthhflkgngencdaaGreatDoor.crcPlain
namespace Go.Proofs.YthhflkgngencdaaGreatDoor.crc
open Go.ChangeShapes Go.WideShapes Go.ChangeAt Go.RowKit Go.Proofs.YthhflkgngencdaaGreatDoor.crcPlain
open Go.Proofs.YthhflkgngencdaaGreatDoor.codec (Bytes vals vals_append vals_length vals_one bytesOf byteAt bytesOf_length bytesOf_lt Fits strOf getD_lt256)
set_option linter.unusedVariables false
set_option maxRecDepth 100000

theorem ret_int {k : IntKind} {a b : Int} (h : a = b) : Ending.returned (.int k a) = .returned (.int k b) := by rw [h]
theorem Bytes_at2 {w : World} {A : Option Addr} {n : Nat} {l : List Nat} (h : Bytes w A n l) {k : Nat} (hk : k < n) :
    ∃ b o x, A = some ⟨b, o, none⟩ ∧ x < 256 ∧ l.take (k + 1) = l.take k ++ [x] ∧ w.cell? ⟨b, o + k, none⟩ = some (.int .u8 (x : Nat)) := by
  obtain ⟨hl, hb, hc⟩ := h
  obtain ⟨b, o, rfl, hd⟩ := hc (by omega)
  have hk' : k < l.length := by omega
  refine ⟨b, o, l[k], rfl, hb _ (List.getElem_mem hk'), ?_, ?_⟩
  · rw [List.take_succ_eq_append_getElem hk']
  · rw [hd k hk]; simp [List.getD, hk']

theorem take_bytes {l : List Nat} (h : ∀ b ∈ l, b < 256) (k : Nat) : ∀ b ∈ l.take k, b < 256 := fun b hb => h b (List.mem_of_mem_take hb)

theorem xor_i (a b : Nat) (ha : a < 4294967296) (hb : b < 4294967296) : bits .xor .u32 (a : Int) (b : Int) = ((a ^^^ b : Nat) : Int) := u32_xor_nat a b ha hb
theorem and1_i (a : Nat) (ha : a < 4294967296) : bits .and .u32 (a : Int) 1 = ((a % 2 : Nat) : Int) := by
  have := u32_and_nat a 1 ha (by omega)
  rw [nat_mask1] at this
  exact this

theorem poly_i (a : Nat) (ha : a < 4294967296) : bits .xor .u32 ((a : Int) / 2) 3988292384 = ((a / 2 ^^^ 3988292384 : Nat) : Int) := by
  have := u32_xor_nat (a / 2) 3988292384 (by omega) (by omega)
  exact this

set_option maxHeartbeats 1000000 in
theorem crc_any (A : Option Addr) (n c : Nat) (l : List Nat) (w : World) (h : Bytes w A n l) (hn : n ≤ maxLen) :
    Calls Tryz.prog 187 #[.slice A n c] w fun e w' => e = .returned (.int .u32 ((crcRun l ^^^ 4294967295 : Nat) : Int)) ∧ w = w' := by
  unfold maxLen at hn
  have HB := Lib.hid h
  have hlen := Lib.hid h.1
  have hb256 := Lib.hid h.2.1
  clear h
  go_enter Tryz.func187, Tryz.ntmps187
  go_wp2
  go_loop [3, 5, 6, 9] (fun s _ _ i => ∃ k : Nat, k ≤ n ∧ i = .int .i64 k ∧ s = .int .u32 (crcRun (l.take k) : Nat)) (fun _ _ _ i => n - (intOf i).toNat)
  case atStart => exact ⟨0, Nat.zero_le _, rfl, rfl⟩
  case round =>
    obtain ⟨k, hk, rfl, rfl⟩ := hrel
    by_cases hlt : k < n
    · obtain ⟨b, o, x, rfl, hx, htk, hcell⟩ := Bytes_at2 HB.out hlt
      have HT := Lib.hid htk
      clear htk
      have hC : crcRun (l.take k) < 4294967296 := crcRun_lt (take_bytes hb256.out k)
      have HX := Lib.hid (xor_i (crcRun (l.take k)) x hC (by omega))
      have HN : Hid (crcRun (l.take (k + 1)) = crcTurn (crcRun (l.take k)) x) := by rw [HT.out, crcRun_snoc]; exact rfl
      generalize crcRun (l.take k) = C at *
      have hX : C ^^^ x < 4294967296 := xor_lt32 hC (by omega)
      go_wp2
      rw [HX.out]
      go_loop [3, 6, 17] (fun s _ i => ∃ j : Nat, j ≤ 8 ∧ i = .int .i64 j ∧ s = .int .u32 (crcSteps (C ^^^ x) j : Nat)) (fun _ _ i => 8 - (intOf i).toNat)
      case atStart => exact ⟨0, Nat.zero_le _, rfl, rfl⟩
      case round =>
        obtain ⟨j, hj, rfl, rfl⟩ := hrel
        have hS : crcSteps (C ^^^ x) j < 4294967296 := crcSteps_lt hX j
        by_cases hj8 : j < 8
        · have HS : Hid (crcSteps (C ^^^ x) (j + 1) = crcStep (crcSteps (C ^^^ x) j)) := rfl
          generalize crcSteps (C ^^^ x) j = S at *
          have HA := Lib.hid (and1_i S hS)
          have HP := Lib.hid (poly_i S hS)
          by_cases hp : S % 2 = 1
          · have hA : bits .and .u32 (S : Int) 1 = 1 := by rw [HA.out, hp]; rfl
            go_wp2
            go_round
            case rel => exact ⟨j + 1, by omega, by go_num, by rw [HS.out, crcStep, if_pos hp]; exact congrArg _ HP.out⟩
            case measure => simp [intOf]; omega
          · have hA : bits .and .u32 (S : Int) 1 = 0 := by rw [HA.out, show S % 2 = 0 by omega]; rfl
            go_wp2
            go_round
            case rel => exact ⟨j + 1, by omega, by go_num, by rw [HS.out, crcStep, if_neg hp]; rfl⟩
            case measure => simp [intOf]; omega
        · obtain rfl : j = 8 := by omega
          go_wp2
          go_round
          case rel => exact ⟨k + 1, by omega, by go_num, by rw [HN.out, crcTurn]⟩
          case measure => simp [intOf]; omega
    · obtain rfl : k = n := by omega
      have hC : crcRun (l.take k) < 4294967296 := crcRun_lt (take_bytes hb256.out k)
      have HX := Lib.hid (xor_i (crcRun (l.take k)) 4294967295 hC (by omega))
      go_wp2
      go_ret
      refine ⟨ret_int ?_, rfl⟩
      have e : l.take k = l := List.take_of_length_le (by have := hlen.out; omega)
      have h := HX.out
      rw [e] at h ⊢
      exact h


theorem Bytes_lit (w : World) (l : List Nat) (hl : ∀ b ∈ l, b < 256) (e : TypeId) (m : Nat × Nat) :
    Bytes (w.alloc (.cells (l.map fun b => Value.int .u8 (b : Nat)).toArray e m)) (some ⟨w.heap.size, 0, none⟩) l.length l := by
  refine ⟨rfl, hl, fun _ => ⟨_, _, rfl, fun i hi => ?_⟩⟩
  rw [World.cell?_alloc_mark]
  simp [List.getD, hi]

/-- The CRC of bytes. -/
def crcOf (l : List Nat) : Nat := crcPlain.crcRun l ^^^ 4294967295
theorem crcOf_lt {l : List Nat} (h : ∀ b ∈ l, b < 256) : crcOf l < 4294967296 := crcPlain.xor_lt32 (crcPlain.crcRun_lt h) (by omega)
theorem crc_prog (A : Option Addr) (n c : Nat) (l : List Nat) (w : World) (h : Bytes w A n l) (hn : n ≤ maxLen) :
    Calls Tryz.prog 187 #[.slice A n c] w fun e w' => e = .returned (.int .u32 (crcOf l : Nat)) ∧ w = w' := crc_any A n c l w h hn
end Go.Proofs.YthhflkgngencdaaGreatDoor.crc
