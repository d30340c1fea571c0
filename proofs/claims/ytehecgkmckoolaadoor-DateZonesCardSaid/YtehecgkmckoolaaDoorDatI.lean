/- A text's time, as the document reads it. -/
import Derived.Test.YtehecgkmckoolaaDoorDatH
namespace Go.Proofs.YtehecgkmckoolaaDoor.dat
open Go.ChangeShapes Go.WideShapes Go.ChangeAt Go.RowKit
open Go.Lib (dg itoa byteCells strCells)
set_option linter.unusedVariables false
set_option linter.unusedSimpArgs false

/-- The signs stand where they must. -/
def Marks (s : ByteArray) : Prop := s.size = 26 ∧ byt s 2 = 45 ∧ byt s 6 = 45 ∧ byt s 11 = 32 ∧ byt s 14 = 58 ∧ byt s 17 = 58 ∧ byt s 20 = 32 ∧ (byt s 21 = 43 ∨ byt s 21 = 45)
theorem Fm.marks {s : ByteArray} {d m y h i e zh zm : Nat} (f : Fm s d m y h i e zh zm) : Marks s := ⟨f.size, f.b2, f.b6, f.b11, f.b14, f.b17, f.b20, f.b21⟩
set_option maxRecDepth 100000 in
set_option maxHeartbeats 3200000 in
theorem rparse_marks (w : World) (s : ByteArray) (hz : s.size ≤ 1000) (hm : ¬ Marks s) : Calls Tryd.prog 11 #[.string s] w (Ans w s) := by
  have hpar : Par s 0 false := par_none fun d m y h i e zh zm f _ _ _ _ => hm f.marks
  have HPAR := Lib.hid hpar
  clear hpar
  unfold Marks at hm
  by_cases hs : s.size = 26
  · have hs1 : ((s.size : Int) != 26) = false := by rw [hs]; rfl
    obtain ⟨b2, hb2⟩ : ∃ b, byt s 2 = b := ⟨_, rfl⟩
    have e2 : (s[2]).toNat = b2 := by rw [byt_at]; exact hb2
    obtain ⟨b6, hb6⟩ : ∃ b, byt s 6 = b := ⟨_, rfl⟩
    have e6 : (s[6]).toNat = b6 := by rw [byt_at]; exact hb6
    obtain ⟨b11, hb11⟩ : ∃ b, byt s 11 = b := ⟨_, rfl⟩
    have e11 : (s[11]).toNat = b11 := by rw [byt_at]; exact hb11
    obtain ⟨b14, hb14⟩ : ∃ b, byt s 14 = b := ⟨_, rfl⟩
    have e14 : (s[14]).toNat = b14 := by rw [byt_at]; exact hb14
    obtain ⟨b17, hb17⟩ : ∃ b, byt s 17 = b := ⟨_, rfl⟩
    have e17 : (s[17]).toNat = b17 := by rw [byt_at]; exact hb17
    obtain ⟨b20, hb20⟩ : ∃ b, byt s 20 = b := ⟨_, rfl⟩
    have e20 : (s[20]).toNat = b20 := by rw [byt_at]; exact hb20
    obtain ⟨b21, hb21⟩ : ∃ b, byt s 21 = b := ⟨_, rfl⟩
    have e21 : (s[21]).toNat = b21 := by rw [byt_at]; exact hb21
    rw [hb2, hb6, hb11, hb14, hb17, hb20, hb21] at hm
    clear hb2 hb6 hb11 hb14 hb17 hb20 hb21
    by_cases n2 : b2 = 45
    rotate_left
    · have f2 : ((b2 : Int) != 45) = true := by rw [bne_iff_ne]; omega
      clear hm n2
      go_enter Tryd.func11, Tryd.ntmps11
      go_wp2
      go_ret2
      exact Ans.mk 0 false rfl HPAR.out (Below.refl _ _)
    have f2 : ((b2 : Int) != 45) = false := by rw [bne_eq_false_iff_eq]; omega
    by_cases n6 : b6 = 45
    rotate_left
    · have f6 : ((b6 : Int) != 45) = true := by rw [bne_iff_ne]; omega
      clear hm n6
      go_enter Tryd.func11, Tryd.ntmps11
      go_wp2
      go_ret2
      exact Ans.mk 0 false rfl HPAR.out (Below.refl _ _)
    have f6 : ((b6 : Int) != 45) = false := by rw [bne_eq_false_iff_eq]; omega
    by_cases n11 : b11 = 32
    rotate_left
    · have f11 : ((b11 : Int) != 32) = true := by rw [bne_iff_ne]; omega
      clear hm n11
      go_enter Tryd.func11, Tryd.ntmps11
      go_wp2
      go_ret2
      exact Ans.mk 0 false rfl HPAR.out (Below.refl _ _)
    have f11 : ((b11 : Int) != 32) = false := by rw [bne_eq_false_iff_eq]; omega
    by_cases n14 : b14 = 58
    rotate_left
    · have f14 : ((b14 : Int) != 58) = true := by rw [bne_iff_ne]; omega
      clear hm n14
      go_enter Tryd.func11, Tryd.ntmps11
      go_wp2
      go_ret2
      exact Ans.mk 0 false rfl HPAR.out (Below.refl _ _)
    have f14 : ((b14 : Int) != 58) = false := by rw [bne_eq_false_iff_eq]; omega
    by_cases n17 : b17 = 58
    rotate_left
    · have f17 : ((b17 : Int) != 58) = true := by rw [bne_iff_ne]; omega
      clear hm n17
      go_enter Tryd.func11, Tryd.ntmps11
      go_wp2
      go_ret2
      exact Ans.mk 0 false rfl HPAR.out (Below.refl _ _)
    have f17 : ((b17 : Int) != 58) = false := by rw [bne_eq_false_iff_eq]; omega
    by_cases n20 : b20 = 32
    rotate_left
    · have f20 : ((b20 : Int) != 32) = true := by rw [bne_iff_ne]; omega
      clear hm n20
      go_enter Tryd.func11, Tryd.ntmps11
      go_wp2
      go_ret2
      exact Ans.mk 0 false rfl HPAR.out (Below.refl _ _)
    have f20 : ((b20 : Int) != 32) = false := by rw [bne_eq_false_iff_eq]; omega
    have f21 : ((b21 : Int) != 43) = true := by rw [bne_iff_ne]; omega
    have g21 : ((b21 : Int) != 45) = true := by rw [bne_iff_ne]; omega
    clear hm n2 n6 n11 n14 n17 n20
    go_enter Tryd.func11, Tryd.ntmps11
    go_wp2
    go_ret2
    exact Ans.mk 0 false rfl HPAR.out (Below.refl _ _)
  · have hs1 : ((s.size : Int) != 26) = true := by rw [bne_iff_ne]; omega
    clear hm
    go_enter Tryd.func11, Tryd.ntmps11
    go_wp2
    go_ret2
    exact Ans.mk 0 false rfl HPAR.out (Below.refl _ _)
end Go.Proofs.YtehecgkmckoolaaDoor.dat
