/- A set, as the program reads it. -/
import Derived.Test.YtcepcamedmiinaaGreatDoorMb1
import Derived.Test.YtcepcamedmiinaaGreatDoorMb3
namespace Go.Proofs.YtcepcamedmiinaaGreatDoor.sq
open Go.ChangeShapes Go.WideShapes Go.ChangeAt Go.RowKit
open Go.Proofs.YtcepcamedmiinaaGreatDoor.row
set_option linter.unusedVariables false
set_option maxRecDepth 100000
set_option linter.unusedSimpArgs false

/-- What reading a set answers. -/
def SetAns (W : World) (o : Option (List X)) (e : Ending) (w' : World) : Prop :=
  Below W.heap.size W w' ∧ ((o = none ∧ e = .returned (.tuple #[.slice none 0 0, .bool false])) ∨ ∃ xs A c, o = some xs ∧ e = .returned (.tuple #[.slice A xs.length c, .bool true]) ∧ Rd cX 2 w' A xs.length xs ∧ xs.length ≤ 100 ∧ ∀ a, A = some a → W.heap.size ≤ a.block ∧ a.block < w'.heap.size)
/-- What is left to read. -/
def left : Value → Value → Nat
  | .string b, .bool m => b.size + (if m then 1 else 0)
  | _, _ => 0
theorem infoSp : (Tryz.prog.info? 96).map (fun i => (i.zero, i.size, i.bytes)) = some (some (.agg #[.int .u32 0, .int .u32 0]), 2, 8) := by kernel_rfl
/-- Parts that have been read. -/
def PS (W : World) (l : List UInt8) (r : ByteArray) (acc : List X) (mo : Bool) (v : Value) (w : World) : Prop :=
  Own cX 2 W.heap.size 96 w v acc ∧ Below W.heap.size W w ∧ acc.length ≤ 100 ∧ runL (splitC 44 l) [] = if mo then runL (splitC 44 r.data.toList) acc else some acc
theorem own_slice {α : Type} {F : α → List Value} {K B : Nat} {E : TypeId} {w : World} {v : Value} {ys : List α} (h : Own F K B E w v ys) : ∃ A c, v = .slice A ys.length c := by
  rcases h.2 with ⟨e, h0⟩ | ⟨g, cap, cur, e, hB, hg, hc, _⟩
  · exact ⟨none, 0, by rw [h0]; exact e⟩
  · exact ⟨_, cap, e⟩
set_option maxHeartbeats 2000000 in
theorem parse_any (W : World) (s : ByteArray) (hs : s.size ≤ 140737488355328) (hr : Room W) :
    Calls Tryz.prog 55 #[.string s] W fun e w' => SetAns W (setL s.data.toList) e w' := by
  rw [← runL_set]
  have HRm := Lib.hid hr
  clear hr
  go_enter Tryz.func55, Tryz.ntmps55
  go_wp2
  go_loopw [0, 4, 5] (fun x v y wr => ∃ (r : ByteArray) (acc : List X) (mo : Bool), r.size ≤ s.size ∧ x = .string r ∧ y = .bool mo ∧ Hid (PS W s.data.toList r acc mo v wr)) (fun x v y _ => left x y)
  case atStart => exact ⟨s, [], true, Nat.le_refl _, rfl, rfl, Lib.hid ⟨Own.nil _ _ _ _ _, Below.refl _ _, by simp, rfl⟩⟩
  case round =>
    obtain ⟨r, acc, mo, hrs, rfl, rfl, HP⟩ := hrel
    have HO := Lib.hid HP.out.1
    have HB := Lib.hid HP.out.2.1
    have HL := Lib.hid HP.out.2.2.1
    have HQ := Lib.hid HP.out.2.2.2
    cases mo
    · go_wp2
      go_ret2
      have HW := Lib.hid HO.out
      obtain ⟨A, c, rfl, _, _, hR⟩ := HO.out.rd fX
      exact ⟨HB.out, .inr ⟨acc, A, c, HQ.out, rfl, hR, HL.out, fun a ha => HW.out.lt (by rw [ha]; rfl)⟩⟩
    · have HC := Lib.hid (cut_any wr r 44 (by omega) (HRm.out.below HB.out))
      go_wp2_with fail
      refine HC.out.mono ?_
      rintro e w2 ⟨a, b, rfl, ha, hb, hz, hbel⟩
      have HB2 := Lib.hid (HB.out.trans (hbel.mono HB.out.size))
      have HO2 := Lib.hid (HO.out.below hbel)
      have HA := Lib.hid (And.intro ha (And.intro hb hz))
      have HPt := Lib.hid (part_any w2 a (by omega) (HRm.out.below HB2.out))
      clear ha hb hz hbel
      go_wp2_with fail
      refine HPt.out.mono ?_
      rintro e w3 ⟨f, t, rfl, hx, hbel⟩
      have HB3 := Lib.hid (HB2.out.trans (hbel.mono HB2.out.size))
      have HO3 := Lib.hid (HO2.out.below hbel)
      have HX := Lib.hid hx
      obtain ⟨A3, c3, hv3⟩ := own_slice HO3.out
      have HV3 := Lib.hid hv3
      obtain ⟨ln, hln⟩ : ∃ ln, ln = acc.length := ⟨_, rfl⟩
      rw [← hln] at hv3
      subst hv3
      have HLn := Lib.hid hln
      clear hx hbel hln
      have HS := Lib.hid (splitC_cut 44 r.data.toList)
      rw [HA.out.1.symm, HA.out.2.1.symm] at HS
      generalize (cutC 44 r.data.toList).2.2 = m at *
      have HR1 := Lib.hid (show runL (splitC 44 s.data.toList) [] = runL (a.data.toList :: (if m then splitC 44 b.data.toList else [])) acc by have h9 := HQ.out; simp only [if_true] at h9; rw [h9, HS.out])
      cases hp : partL a.data.toList with
      | none =>
        have HN := Lib.hid (show runL (splitC 44 s.data.toList) [] = none by rw [HR1.out, runL, hp])
        rw [Option.isSome_none]
        clear hp
        go_wp2_with fail
        go_ret2
        exact ⟨HB3.out.alloc HB3.out.size _, .inl ⟨HN.out, rfl⟩⟩
      | some x =>
        obtain rfl := HX.out x hp
        rw [Option.isSome_some]
        by_cases h100 : ln = 100
        · have HN := Lib.hid (show runL (splitC 44 s.data.toList) [] = none by rw [HR1.out, runL, hp]; exact if_pos (by rw [← HLn.out]; exact h100))
          have q1 : ((ln : Int) == 100) = true := by rw [beq_iff_eq]; omega
          clear hp h100
          go_wp2_with fail
          go_ret2
          exact ⟨HB3.out.alloc HB3.out.size _, .inl ⟨HN.out, rfl⟩⟩
        · have HN := Lib.hid (show runL (splitC 44 s.data.toList) [] = if m then runL (splitC 44 b.data.toList) (acc ++ [⟨f, t⟩]) else some (acc ++ [⟨f, t⟩]) by rw [HR1.out, runL, hp]; simp only; rw [if_neg (by rw [← HLn.out]; exact h100)]; cases m <;> rfl)
          have q1 : ((ln : Int) == 100) = false := by rw [beq_eq_false_iff_ne]; omega
          have HL2 := Lib.hid (show (acc ++ [(⟨f, t⟩ : X)]).length ≤ 100 by rw [List.length_append]; have := HL.out; have := HLn.out; simp; omega)
          have HO4 := Lib.hid (HO3.out.alloc (.cells #[.int .u32 (f : Nat), .int .u32 (t : Nat)] 96))
          have HB4 := Lib.hid (HB3.out.alloc HB3.out.size (.cells #[.int .u32 (f : Nat), .int .u32 (t : Nat)] 96))
          have HM : Hid (acc.length ≤ 20000000) := Lib.hid (by have := HL.out; omega)
          clear hp h100
          go_wp2_with (at_builtin; refine row.wpList_append_own fX (by decide) (by decide) (by_ := 8) (by decide) (z := .agg #[.int .u32 0, .int .u32 0]) rfl rfl (.tmp 28) (.tmp 30) 77 96 rfl Tryz.underlying77 infoSp W.heap.size (.slice A3 ln c3) _ rfl HO4.out HB4.out.size HM.out ⟨f, t⟩ (0, 0) _ (by simp) rfl _ rfl ?_; intro v1 w1 ho hg h3; have HS1 := Lib.hid (show PS W s.data.toList b (acc ++ [⟨f, t⟩]) m v1 w1 from ⟨ho, grown_below HB4.out HO4.out hg, HL2.out, HN.out⟩); clear ho hg h3)
          have HZ := HA.out.2.2
          go_roundw
          case rel => first | exact ⟨b, acc ++ [⟨f, t⟩], m, by omega, rfl, rfl, HS1⟩ | ((repeat apply Exists.intro); exact ⟨⟨b, acc ++ [⟨f, t⟩], m, by omega, rfl, rfl, HS1⟩, rfl⟩)
          case measure => (show b.size + (if m then 1 else 0) < r.size + 1; omega)
end Go.Proofs.YtcepcamedmiinaaGreatDoor.sq
