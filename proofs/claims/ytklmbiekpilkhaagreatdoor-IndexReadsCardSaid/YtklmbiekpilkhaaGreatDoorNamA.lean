/- What the parts of package name answer: letters, parts, names, what is above. -/
import Derived.Test.YtklmbiekpilkhaaGreatDoorRows
import Derived.Test.YtklmbiekpilkhaaGreatDoorNamM
import Derived.Test.YtklmbiekpilkhaaGreatDoorIdxS
import Derived.WalkKit
import Derived.ProofKit
import Derived.OpenShut
import Derived.ShutString
import Derived.ChangeOld
import Derived.Below
import Derived.Outline
import Derived.WalkSpells
import Derived.Lib.Hide
import Derived.Deep.QuietTactic
import Derived.BigQuiet
import Derived.Deep.OwnRows
import Derived.Deep.WholeRow
import Derived.StillTailTactics
import Derived.Deep.RegionLaw
namespace Go.Proofs.YtklmbiekpilkhaaGreatDoor.nam
open Go.ChangeShapes Go.WideShapes Go.ChangeAt Go.RowKit
open Go.Lib (countB splitB)
set_option linter.unusedVariables false
set_option linter.unusedSimpArgs false

theorem nameByte_any (w : World) (c : Nat) (hc : c < 256) :
    Calls Tryz.prog 128 #[.int .u8 (c : Nat)] w fun e w' => e = .returned (.bool (nameB c)) ∧ w' = w := by
  go_enter Tryz.func128, Tryz.ntmps128
  go_wp2
  all_goals (go_ret; refine ⟨congrArg (fun b => Ending.returned (Value.bool b)) ?_, rfl⟩; rw [Bool.eq_iff_iff]; simp [nameB] at * <;> omega)

theorem part_any (w : World) (s : ByteArray) (hs : s.size ≤ 100000) :
    Calls Tryz.prog 112 #[.string s] w fun e w' => e = .returned (.bool (partL s.data.toList)) ∧ w' = w := by
  go_enter Tryz.func112, Tryz.ntmps112
  go_wp2
  go_loop [6] (fun i => ∃ k : Nat, k ≤ s.size ∧ i = .int .i64 k ∧ Hid (∀ j, j < k → nameB (byt s j) = true)) (fun i => s.size - (intOf i).toNat)
  case atStart => exact ⟨0, Nat.zero_le _, rfl, fun j h => absurd h (Nat.not_lt_zero _)⟩
  case round =>
    obtain ⟨k, hk, rfl, hh⟩ := hrel
    go_wp2_with (go_at_call 128; refine (nameByte_any _ _ (UInt8.toNat_lt _)).mono ?_; rintro e w' ⟨rfl, rfl⟩)
    · have hlt : k < s.size := by assumption
      have h : (!nameB (s[k]).toNat) = true := by assumption
      rw [byt_at] at h
      go_ret
      rw [part_bad s k hlt (by simpa using h)]
      exact ⟨rfl, rfl⟩
    · have hlt : k < s.size := by assumption
      have h : (!nameB (s[k]).toNat) = false := by assumption
      rw [byt_at] at h
      refine ⟨⟨k + 1, hlt, by simp, fun j hj => ?_⟩, by simp [intOf]; omega⟩
      rcases Nat.lt_succ_iff_lt_or_eq.1 hj with h' | rfl
      · exact hh.out j h'
      · simpa using h
    · have hlt : ¬ k < s.size := by assumption
      go_ret
      rw [part_end s (fun j hj => hh.out j (by omega)), Lib.toList_data, Lib.size_eq]
      refine ⟨congrArg (fun b => Ending.returned (Value.bool b)) ?_, rfl⟩
      cases s.data.toList <;> simp

def slash : ByteArray := ⟨#[47]⟩
theorem split_any (w : World) (s : ByteArray) (m : Int) (hs : s.size ≤ 100000) (hm : w.cell? ⟨6, 0, none⟩ = some (.int .i64 m)) :
    Calls Tryz.prog 111 #[.string s, .string ⟨#[47]⟩] w fun e w' => ∃ L : List ByteArray, Hid ((L.all fun t => partL t.data.toList) = goodL s.data.toList) ∧ L.length ≤ 1000000 ∧ e = .returned (.slice (some ⟨w.heap.size, 0, none⟩) L.length L.length) ∧
      Below w.heap.size w w' ∧ (∀ (k : Nat) t, L[k]? = some t → w'.cell? ⟨w.heap.size, k, none⟩ = some (.string t)) ∧ ∀ t ∈ L, t.size ≤ 100000 := by
  refine (Tryz.strings_Split s ⟨#[47]⟩ m w (by omega) hm (by decide)).mono ?_
  rintro e w' ⟨rfl, rfl⟩
  have hl : (splitB ⟨#[47]⟩ 0 (countB s ⟨#[47]⟩) s).length = countB s ⟨#[47]⟩ + 1 := Lib.splitB_all ⟨#[47]⟩ (by decide) 0 _ s rfl
  have hc : countB s ⟨#[47]⟩ ≤ s.size := Lib.countB_le ⟨#[47]⟩ (by decide) s.size s (Nat.le_refl _)
  refine ⟨splitB ⟨#[47]⟩ 0 (countB s ⟨#[47]⟩) s, split_goodB s, by omega, by rw [hl], (Below.refl _ _).alloc (Nat.le_refl _) _, fun k t ht => ?_, fun t ht => ?_⟩
  · simp only [World.cell?]
    rw [heap_alloc_new]
    simp [ht]
  · have := splitB_size _ _ s t ht
    omega

set_option maxHeartbeats 1600000 in
theorem name_any (w : World) (s : ByteArray) (m : Int) (hs : s.size ≤ 100000) (hm : w.cell? ⟨6, 0, none⟩ = some (.int .i64 m)) :
    Calls Tryz.prog 99 #[.string s] w fun e w' => e = .returned (.bool (normOk s)) ∧ Below w.heap.size w w' := by
  by_cases h60 : s.size ≤ 60
  · have e60 : normOk s = goodL s.data.toList := by simp [normOk, h60]
    rw [e60]
    go_enter Tryz.func99, Tryz.ntmps99
    go_wp2_with (go_at_call 111; refine (split_any w s m hs hm).mono ?_; rintro e w1 ⟨L, hL, hlen, rfl, hb, hcell, hsz⟩; have HC := Lib.hid hcell; clear hcell)
    go_loop [11] (fun i => ∃ k : Nat, k ≤ L.length ∧ i = .int .i64 k ∧ Hid (∀ (j : Nat) t, L[j]? = some t → j < k → partL t.data.toList = true)) (fun i => L.length - (intOf i).toNat)
    case atStart => exact ⟨0, Nat.zero_le _, rfl, fun j t _ h => absurd h (Nat.not_lt_zero _)⟩
    case round =>
      obtain ⟨k, hk, rfl, hh⟩ := hrel
      by_cases hkl : k < L.length
      · obtain ⟨t, ht⟩ : ∃ t, L[k]? = some t := ⟨_, List.getElem?_eq_getElem hkl⟩
        have hc := HC.out k t ht
        have hts := hsz t (List.mem_of_getElem? ht)
        have HT := Lib.hid ht
        clear ht
        go_wp2_with (go_at_call 112; refine (part_any _ t hts).mono ?_; rintro e w2 ⟨rfl, rfl⟩)
        · have h : (!partL t.data.toList) = true := by assumption
          go_ret
          refine ⟨congrArg (fun b => Ending.returned (Value.bool b)) ?_, hb⟩
          rw [← hL.out]
          symm
          rw [List.all_eq_false]
          exact ⟨t, List.mem_of_getElem? HT.out, by simpa using h⟩
        · have h : (!partL t.data.toList) = false := by assumption
          refine ⟨⟨k + 1, hkl, by simp, fun j u hu hj => ?_⟩, by simp [intOf]; omega⟩
          rcases Nat.lt_succ_iff_lt_or_eq.1 hj with h' | rfl
          · exact hh.out j u hu h'
          · rw [HT.out] at hu
            cases hu
            simpa using h
      · go_wp2
        go_ret
        refine ⟨congrArg (fun b => Ending.returned (Value.bool b)) ?_, hb⟩
        rw [← hL.out]
        symm
        rw [List.all_eq_true]
        intro t ht
        obtain ⟨j, hj⟩ := List.mem_iff_getElem?.1 ht
        exact hh.out j t hj (by have := (List.getElem?_eq_some_iff.1 hj).1; omega)
  · have e60 : normOk s = false := by simp [normOk, h60]
    rw [e60]
    go_enter Tryz.func99, Tryz.ntmps99
    go_wp2
    go_ret
    exact ⟨rfl, Below.refl _ _⟩

theorem clone_any (w : World) (s : ByteArray) (hs : s.size ≤ 100000) :
    Calls Tryz.prog 27 #[.string s] w fun e w' => e = .returned (.string s) ∧ Below w.heap.size w w' := by
  go_enter Tryz.func27, Tryz.ntmps27
  go_wp2_with (go_at_call 55; refine (Tryz.stringslite_Clone s w (by omega)).mono ?_; rintro e w1 ⟨rfl, hb⟩)
  go_ret
  exact ⟨rfl, hb⟩

theorem fold_any (w : World) (s : ByteArray) (hs : s.size ≤ 100000) (hn : normOk s = true) :
    Calls Tryz.prog 100 #[.string s, .string ⟨#[73, 78, 66, 79, 88]⟩] w fun e w' => e = .returned (.bool (alike s inbox)) ∧ w' = w := by
  refine (Tryz.strings_EqualFold s INBOX w (by omega) (normOk_ascii s hn) INBOX_ascii).mono ?_
  rintro e w' ⟨rfl, rfl⟩
  rw [fold_inbox]
  exact ⟨rfl, rfl⟩

theorem norm_any (w : World) (s : ByteArray) (m : Int) (hs : s.size ≤ 100000) (hm : w.cell? ⟨6, 0, none⟩ = some (.int .i64 m)) :
    Calls Tryz.prog 68 #[.string s] w fun e w' => e = .returned (.tuple #[.string (normS s), .bool (normOk s)]) ∧ Below w.heap.size w w' := by
  unfold normS
  cases hn : normOk s
  · simp only [Bool.false_eq_true, if_false]
    go_enter Tryz.func68, Tryz.ntmps68
    go_wp2_with (go_at_call 99; refine (name_any w s m hs hm).mono ?_; rintro e w1 ⟨rfl, hb⟩; rw [hn])
    go_ret2
    exact ⟨rfl, hb⟩
  · simp only [if_true]
    cases ha : alike s inbox
    · simp only [Bool.false_eq_true, if_false]
      go_enter Tryz.func68, Tryz.ntmps68
      go_wp2_with (first | (go_at_call 99; refine (name_any w s m hs hm).mono ?_; rintro e w1 ⟨rfl, hb⟩; rw [hn]) | (go_at_call 100; refine (fold_any _ s hs hn).mono ?_; rintro e w2 ⟨rfl, rfl⟩; rw [ha]) | (go_at_call 27; refine (clone_any _ s hs).mono ?_; rintro e w3 ⟨rfl, hb3⟩))
      go_ret2
      exact ⟨rfl, hb.trans (hb3.mono hb.size)⟩
    · simp only [if_true]
      go_enter Tryz.func68, Tryz.ntmps68
      go_wp2_with (first | (go_at_call 99; refine (name_any w s m hs hm).mono ?_; rintro e w1 ⟨rfl, hb⟩; rw [hn]) | (go_at_call 100; refine (fold_any _ s hs hn).mono ?_; rintro e w2 ⟨rfl, rfl⟩; rw [ha]))
      go_ret2
      exact ⟨rfl, hb⟩

/-- The world has drawn, and nothing else. -/
def Drew (w w' : World) : Prop := ∃ n, w' = w.drewN n
theorem Drew.refl (w : World) : Drew w w := ⟨0, rfl⟩
theorem Drew.drewN {w w' : World} (h : Drew w w') (q : Nat) : Drew w (w'.drewN q) := by
  obtain ⟨n, rfl⟩ := h
  exact ⟨n + q, by rw [World.drewN_drewN]⟩
theorem Drew.below {w w' : World} (h : Drew w w') (B : Nat) : Below B w w' := by
  obtain ⟨n, rfl⟩ := h
  exact ⟨rfl, rfl, rfl, Nat.le_refl _, fun _ _ => rfl⟩

end Go.Proofs.YtklmbiekpilkhaaGreatDoor.nam
