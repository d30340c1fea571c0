/- A disk in memory: what it is, and its smallest parts. -/
import Derived.Test.YtedhbcaakdfcbaaA
import Derived.Shelf.Pu.Clone
namespace Go.Proofs.Ytedhbcaakdfcbaa.disk
open Go.ChangeShapes Go.WideShapes Go.ChangeAt Go.RowKit Go.Maps Go.WideMaps Go.Shelf
set_option linter.unusedVariables false
set_option linter.unusedSimpArgs false

def numC : Ren := ⟨fun | 25 => 55 | n => n, fun | 37 => 33 | 47 => 98 | n => n, fun n => n⟩
theorem laysC : LaysPu.n25 Try.prog numC where
  mixed := by kernel_rfl
  f25 := by kernel_rfl
  t0 := by kernel_rfl
  a0 := fun _ => by kernel_rfl
  z0 := fun _ => by kernel_rfl
  v0 := fun _ => by kernel_rfl
  i0 := by kernel_rfl
  t3 := by kernel_rfl
  a3 := fun _ => by kernel_rfl
  z3 := fun _ => by kernel_rfl
  v3 := fun _ => by kernel_rfl
  i3 := by kernel_rfl
  t4 := by kernel_rfl
  a4 := fun _ => by kernel_rfl
  z4 := fun _ => by kernel_rfl
  v4 := fun _ => by kernel_rfl
  i4 := by kernel_rfl
  t5 := by kernel_rfl
  a5 := fun _ => by kernel_rfl
  z5 := fun _ => by kernel_rfl
  v5 := fun _ => by kernel_rfl
  i5 := by kernel_rfl
  t9 := by kernel_rfl
  a9 := fun _ => by kernel_rfl
  z9 := fun _ => by kernel_rfl
  v9 := fun _ => by kernel_rfl
  i9 := by kernel_rfl
  t37 := by kernel_rfl
  a37 := fun _ => by kernel_rfl
  z37 := fun _ => by kernel_rfl
  v37 := fun _ => by kernel_rfl
  i37 := by kernel_rfl
  t47 := by kernel_rfl
  a47 := fun _ => by kernel_rfl
  z47 := fun _ => by kernel_rfl
  v47 := fun _ => by kernel_rfl
  i47 := by kernel_rfl

set_option maxHeartbeats 400000 in
theorem strClone_any (w : World) (s : ByteArray) (hs : s.size ≤ 281474976710656) : Calls Try.prog 51 #[.string s] w fun e w' => e = .returned (.string s) ∧ Below w.heap.size w w' := by
  have H := Lib.hid (AnyPu.stringslite_Clone laysC s w hs)
  go_enter Try.func51, Try.ntmps51
  go_wp2_with (go_at_call 55; refine H.out.mono ?_; rintro e w1 ⟨rfl, hb⟩)
  go_ret
  exact ⟨rfl, hb⟩

/-- An element of a map, as it is. -/
def raw (v : Value) : Option (DataW Value × List MemPlace) := some (.held v, [])
/-- No file. -/
abbrev noFile : Value := .agg #[.slice none 0 0, .int .i64 0, .bool false]
theorem zero64 (w : World) : (zeroValue 64).run Try.prog w = .ok noFile w := by kernel_rfl
theorem keyed9 : Keyed Try.prog 9 := string_keyed Try.underlying9
/-- What a map has under a name. -/
def At (D : DataW Value) (s : List UInt8) : Value := match D.atKey (.string s) (.held noFile) with | .held v => v | _ => noFile
/-- All elements are held. -/
def Held (D : DataW Value) : Prop := ∀ s, ∃ v, D.atKey (.string s) (.held noFile) = .held v
theorem At_eq {D : DataW Value} (h : Held D) (s : List UInt8) : D.atKey (.string s) (.held noFile) = .held (At D s) := by
  obtain ⟨v, hv⟩ := h s
  simp [At, hv]
theorem look_at {w : World} {b n : Nat} {D : DataW Value} (h : w.ownsMap Try.prog 9 raw b n D) (hD : Held D) (s : ByteArray) (hs : s.size ≤ maxLen) :
    (Instr.lookup 52 (.map (some b)) (.string s) false).run Try.prog w = .ok (At D s.data.toList) w := by
  obtain ⟨v, ps, hr, hv⟩ := h.lookup keyed9 Try.underlying52 (zero64 w) (zd := .held noFile) (zp := []) rfl (keyOf_string_mk Try.underlying9 hs)
  rw [hr]
  rw [At_eq hD] at hv
  simp [raw] at hv
  rw [hv.1]
theorem look_ok_at {w : World} {b n : Nat} {D : DataW Value} (h : w.ownsMap Try.prog 9 raw b n D) (hD : Held D) (s : ByteArray) (hs : s.size ≤ maxLen) :
    (Instr.lookup 52 (.map (some b)) (.string s) true).run Try.prog w = .ok (.tuple #[At D s.data.toList, .bool (has D (.string s.data.toList))]) w := by
  obtain ⟨v, ps, hr, hv⟩ := h.look_ok keyed9 Try.underlying52 (zero64 w) (zd := .held noFile) (zp := []) rfl (keyOf_string_mk Try.underlying9 hs)
  rw [hr]
  rw [At_eq hD] at hv
  simp [raw] at hv
  rw [hv.1]
end Go.Proofs.Ytedhbcaakdfcbaa.disk
