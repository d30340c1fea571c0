/- What single keys ask of a message. -/
import Derived.Test.YtcepcamedmiinaaGreatDoorMe3
import Derived.Test.YtcepcamedmiinaaGreatDoorMe4
import Derived.Test.YtcepcamedmiinaaGreatDoorMb5
import Derived.Deep.RegionHeld3
namespace Go.Proofs.YtcepcamedmiinaaGreatDoor.sea
open Go.ChangeShapes Go.WideShapes Go.ChangeAt Go.RowKit Go.Maps Go.WideMaps
open Go.Proofs.YtcepcamedmiinaaGreatDoor.codec (Bytes vals)
open Go.Proofs.YtcepcamedmiinaaGreatDoor.row (Rd Fm)
open Go.Proofs.YtcepcamedmiinaaGreatDoor.hd (Sl)
set_option linter.unusedVariables false
set_option maxRecDepth 100000
set_option linter.unusedSimpArgs false

theorem field_any (n0 mb : Nat) (D : Md) (nm : ByteArray) (hnm : nm = nSUBJECT ∨ nm = nFROM ∨ nm = nTO) (w : World) (h : MS n0 mb D w) :
    Calls Tryz.prog 34 #[.pointer (some ⟨mb, 0, none⟩), .string nm] w (FieldAns n0 mb D nm w) := by
  obtain ⟨dt, A, on, oc, sa, se, fm, hM⟩ := h
  rcases hM.2.2.2.2.2.2.2.1 with e | ⟨fb, n, M, e, h1, h2, h3, h4, h5, h6⟩
  · subst e
    exact field_zero n0 mb D nm hnm w dt A on oc sa se hM
  · subst e
    cases hno : hs M nm with
    | false => exact field_one n0 mb D nm hnm w dt A on oc sa se fb n M hM h1 h2 h3 h4 h5 h6 hno
    | true =>
      obtain ⟨g, k1, k2, k3, k4, k5, k6⟩ := h6 nm hno
      exact field_old n0 mb D nm (by rcases hnm with rfl | rfl | rfl <;> decide) w dt A on oc sa se fb n M hM h3 h5 hno g k1 k6
/-- What asking a key of a message answers. -/
def EvAns (n0 mb : Nat) (D : Md) (b : Bool) (w : World) (e : Ending) (w' : World) : Prop :=
  e = .returned (.bool b) ∧ MS n0 mb D w' ∧ Gone n0 mb w w'
theorem drew_below (w : World) : Below w.heap.size w w.drew := codec.below_draws (Below.refl _ _) 1
theorem ev_all (n0 mb : Nat) (D : Md) (w : World) (h : MS n0 mb D w) : Calls Tryz.prog 29 #[.pointer (some ⟨mb, 0, none⟩)] w (EvAns n0 mb D true w) := by
  go_enter Tryz.func29, Tryz.ntmps29
  go_wp2
  go_ret
  exact ⟨rfl, h, Gone.refl _ _ _⟩
set_option maxHeartbeats 2000000 in
theorem ev_fld (n0 mb : Nat) (D : Md) (w : World) (h : MS n0 mb D w) (q1 q2 g n : Nat) (nm : ByteArray) (wd : List Nat) (a1 : q1 < n0) (a2 : q2 < n0) (a3 : g < n0) (a5 : Box w q1 (.string nm) 9) (a6 : Box w q2 (.slice (some ⟨g, 0, none⟩) n n) 37) (a7 : Bytes w (some ⟨g, 0, none⟩) n wd) (a8 : n ≤ 140737488355328) (a9 : nm = nSUBJECT ∨ nm = nFROM ∨ nm = nTO) :
    Calls Tryz.prog 33 #[.pointer (some ⟨mb, 0, none⟩), .pointer (some ⟨q1, 0, none⟩), .pointer (some ⟨q2, 0, none⟩)] w (EvAns n0 mb D (fldF nm wd D) w) := by
  have hsz := h.size
  have hd := h.below (drew_below w)
  have HF := Lib.hid (field_any n0 mb D nm a9 w.drew hd)
  have b1 : w.drew.cell? ⟨q1, 0, none⟩ = some (.string nm) := a5.cell
  have b2 : w.drew.cell? ⟨q2, 0, none⟩ = some (.slice (some ⟨g, 0, none⟩) n n) := a6.cell
  have HBx := Lib.hid (show Box w.drew q2 (.slice (some ⟨g, 0, none⟩) n n) 37 from a6)
  have HBy := Lib.hid (show Bytes w.drew (some ⟨g, 0, none⟩) n wd from a7)
  have HLt := Lib.hid (And.intro a2 (And.intro a3 a8))
  have hol : D.oct.length ≤ 60000 := by
    obtain ⟨dt, A, on, oc, sa, se, fm, hM⟩ := h
    have := hM.2.1.1.1
    have := hM.2.2.1
    omega
  have HV := Lib.hid (fldV_len nm D.oct hol)
  have HD0 := Lib.hid (show Gone n0 mb w w.drew from gone_of hsz (drew_below w))
  clear h hd a1 a2 a3 a5 a6 a7 a8 a9 hsz hol
  go_enter Tryz.func33, Tryz.ntmps33
  go_wp2_with fail
  go_region_law (first
    | ((try go_simp); go_at_call 34; refine HF.out.mono ?_; rintro e w2 ⟨g2, n2, rfl, k1, k2, k3⟩; have hx2 := HBx.out.keep (k2.bel.block _ HLt.out.1); have c2 := hx2.cell; have HK := Lib.hid (And.intro k1 (And.intro k2 (And.intro k3 (HBy.out.below (fun ad e _ => by cases e; exact HLt.out.2.1) k2.bel)))); clear k1 k2 k3 hx2)
    | ((try go_simp); go_at_call 35; refine (has_any _ g2 n2 g n (fldB nm D.oct) _ wd HK.out.2.2.1 HK.out.2.2.2 (by have := HK.out.2.2.1.1; have := HV.out; omega) HLt.out.2.2 HK.out.1.env.room).mono ?_; rintro e w3 ⟨rfl, hb⟩; have HB3 := Lib.hid hb; clear hb))
  all_goals
    go_wp2
    go_ret
    exact ⟨rfl, HK.out.1.below HB3.out, HD0.out.trans (HK.out.2.1.trans (gone_of HK.out.1.size HB3.out))⟩
set_option maxHeartbeats 2000000 in
theorem ev_bod (n0 mb : Nat) (D : Md) (w : World) (h : MS n0 mb D w) (q g n : Nat) (wd : List Nat) (a2 : q < n0) (a3 : g < n0) (a6 : Box w q (.slice (some ⟨g, 0, none⟩) n n) 37) (a7 : Bytes w (some ⟨g, 0, none⟩) n wd) (a8 : n ≤ 140737488355328) :
    Calls Tryz.prog 36 #[.pointer (some ⟨mb, 0, none⟩), .pointer (some ⟨q, 0, none⟩)] w (EvAns n0 mb D (bodF wd D) w) := by
  have hsz := h.size
  have hd := h.below (drew_below w)
  have HF := Lib.hid (text_any n0 mb D w.drew hd)
  have b2 : w.drew.cell? ⟨q, 0, none⟩ = some (.slice (some ⟨g, 0, none⟩) n n) := a6.cell
  have HBx := Lib.hid (show Box w.drew q (.slice (some ⟨g, 0, none⟩) n n) 37 from a6)
  have HBy := Lib.hid (show Bytes w.drew (some ⟨g, 0, none⟩) n wd from a7)
  have HLt := Lib.hid (And.intro a2 (And.intro a3 a8))
  have hol : D.oct.length ≤ 60000 := by
    obtain ⟨dt, A, on, oc, sa, se, fm, hM⟩ := h
    have := hM.2.1.1.1
    have := hM.2.2.1
    omega
  have HV := Lib.hid (show (bodL D.oct).length ≤ 60000 from by first | (unfold bodL; rw [lowL_len, List.length_drop]; omega) | (rw [lowL_len]; omega))
  have HD0 := Lib.hid (show Gone n0 mb w w.drew from gone_of hsz (drew_below w))
  clear h hd a2 a3 a6 a7 a8 hsz hol
  go_enter Tryz.func36, Tryz.ntmps36
  go_wp2_with fail
  go_region_law (first
    | ((try go_simp); go_at_call 38; refine HF.out.mono ?_; rintro e w2 ⟨g2, n2, rfl, k1, k2, k3⟩; have hx2 := HBx.out.keep (k2.bel.block _ HLt.out.1); have c2 := hx2.cell; have HK := Lib.hid (And.intro k1 (And.intro k2 (And.intro k3 (HBy.out.below (fun ad e _ => by cases e; exact HLt.out.2.1) k2.bel)))); clear k1 k2 k3 hx2)
    | ((try go_simp); go_at_call 37; refine (contains_any _ g2 n2 g n _ wd HK.out.2.2.1 HK.out.2.2.2 (by have := HK.out.2.2.1.1; have := HV.out; omega) HLt.out.2.2 HK.out.1.env.room).mono ?_; rintro e w3 ⟨rfl, q3, rfl⟩))
  all_goals
    go_wp2
    go_ret
    exact ⟨rfl, HK.out.1.below (codec.below_draws (Below.refl _ _) _), HD0.out.trans (HK.out.2.1.trans (gone_of HK.out.1.size (codec.below_draws (Below.refl _ _) _)))⟩
set_option maxHeartbeats 2000000 in
theorem ev_txt (n0 mb : Nat) (D : Md) (w : World) (h : MS n0 mb D w) (q g n : Nat) (wd : List Nat) (a2 : q < n0) (a3 : g < n0) (a6 : Box w q (.slice (some ⟨g, 0, none⟩) n n) 37) (a7 : Bytes w (some ⟨g, 0, none⟩) n wd) (a8 : n ≤ 140737488355328) :
    Calls Tryz.prog 39 #[.pointer (some ⟨mb, 0, none⟩), .pointer (some ⟨q, 0, none⟩)] w (EvAns n0 mb D (txtF wd D) w) := by
  have hsz := h.size
  have hd := h.below (drew_below w)
  have HF := Lib.hid (octets_any n0 mb D w.drew hd)
  have b2 : w.drew.cell? ⟨q, 0, none⟩ = some (.slice (some ⟨g, 0, none⟩) n n) := a6.cell
  have HBx := Lib.hid (show Box w.drew q (.slice (some ⟨g, 0, none⟩) n n) 37 from a6)
  have HBy := Lib.hid (show Bytes w.drew (some ⟨g, 0, none⟩) n wd from a7)
  have HLt := Lib.hid (And.intro a2 (And.intro a3 a8))
  have hol : D.oct.length ≤ 60000 := by
    obtain ⟨dt, A, on, oc, sa, se, fm, hM⟩ := h
    have := hM.2.1.1.1
    have := hM.2.2.1
    omega
  have HV := Lib.hid (show (lowL D.oct).length ≤ 60000 from by first | (unfold bodL; rw [lowL_len, List.length_drop]; omega) | (rw [lowL_len]; omega))
  have HD0 := Lib.hid (show Gone n0 mb w w.drew from gone_of hsz (drew_below w))
  clear h hd a2 a3 a6 a7 a8 hsz hol
  go_enter Tryz.func39, Tryz.ntmps39
  go_wp2_with fail
  go_region_law (first
    | ((try go_simp); go_at_call 40; refine HF.out.mono ?_; rintro e w2 ⟨g2, n2, rfl, k1, k2, k3⟩; have hx2 := HBx.out.keep (k2.bel.block _ HLt.out.1); have c2 := hx2.cell; have HK := Lib.hid (And.intro k1 (And.intro k2 (And.intro k3 (HBy.out.below (fun ad e _ => by cases e; exact HLt.out.2.1) k2.bel)))); clear k1 k2 k3 hx2)
    | ((try go_simp); go_at_call 37; refine (contains_any _ g2 n2 g n _ wd HK.out.2.2.1 HK.out.2.2.2 (by have := HK.out.2.2.1.1; have := HV.out; omega) HLt.out.2.2 HK.out.1.env.room).mono ?_; rintro e w3 ⟨rfl, q3, rfl⟩))
  all_goals
    go_wp2
    go_ret
    exact ⟨rfl, HK.out.1.below (codec.below_draws (Below.refl _ _) _), HD0.out.trans (HK.out.2.1.trans (gone_of HK.out.1.size (codec.below_draws (Below.refl _ _) _)))⟩
set_option maxHeartbeats 2000000 in
theorem ev_big (n0 mb : Nat) (D : Md) (w : World) (h : MS n0 mb D w) (q : Nat) (z : Int) (a6 : Box w q (.int .i64 z) 3) :
    Calls Tryz.prog 42 #[.pointer (some ⟨mb, 0, none⟩), .pointer (some ⟨q, 0, none⟩)] w (EvAns n0 mb D (bigF z D) w) := by
  have hsz := h.size
  have hd := h.below (drew_below w)
  obtain ⟨dt, A, on, oc, sa, se, fm, hM⟩ := h
  have hl : D.oct.length = on := hM.2.1.1.1
  obtain ⟨c0, c2, c3, c4, c5, c6, c7, c8, c9, fz⟩ := hM.cells
  have b3 : w.drew.cell? ⟨mb, 3, none⟩ = some (.slice A on oc) := c3
  have b2 : w.drew.cell? ⟨q, 0, none⟩ = some (.int .i64 z) := a6.cell
  have b2' := a6.cell
  have HD := Lib.hid hd
  have HD0 := Lib.hid (show Gone n0 mb w w.drew from gone_of hsz (drew_below w))
  have HL := Lib.hid hl
  clear hM hd a6 hsz hl c0 c2 c4 c5 c6 c7 c8 c9 fz
  go_enter Tryz.func42, Tryz.ntmps42
  go_wp2_with fail
  go_region
  all_goals
    go_wp2
    go_ret
    exact ⟨by unfold bigF; rw [HL.out]; rfl, HD.out, HD0.out⟩
set_option maxHeartbeats 2000000 in
theorem ev_sml (n0 mb : Nat) (D : Md) (w : World) (h : MS n0 mb D w) (q : Nat) (z : Int) (a6 : Box w q (.int .i64 z) 3) :
    Calls Tryz.prog 43 #[.pointer (some ⟨mb, 0, none⟩), .pointer (some ⟨q, 0, none⟩)] w (EvAns n0 mb D (smlF z D) w) := by
  have hsz := h.size
  have hd := h.below (drew_below w)
  obtain ⟨dt, A, on, oc, sa, se, fm, hM⟩ := h
  have hl : D.oct.length = on := hM.2.1.1.1
  obtain ⟨c0, c2, c3, c4, c5, c6, c7, c8, c9, fz⟩ := hM.cells
  have b3 : w.drew.cell? ⟨mb, 3, none⟩ = some (.slice A on oc) := c3
  have b2 : w.drew.cell? ⟨q, 0, none⟩ = some (.int .i64 z) := a6.cell
  have b2' := a6.cell
  have HD := Lib.hid hd
  have HD0 := Lib.hid (show Gone n0 mb w w.drew from gone_of hsz (drew_below w))
  have HL := Lib.hid hl
  clear hM hd a6 hsz hl c0 c2 c4 c5 c6 c7 c8 c9 fz
  go_enter Tryz.func43, Tryz.ntmps43
  go_wp2_with fail
  go_region
  all_goals
    go_wp2
    go_ret
    exact ⟨by unfold smlF; rw [HL.out]; rfl, HD.out, HD0.out⟩
set_option maxHeartbeats 2000000 in
theorem ev_uid (n0 mb : Nat) (D : Md) (w : World) (h : MS n0 mb D w) (q : Nat) (S : Option Addr) (c n : Nat) (xs : List sq.X) (a6 : Box w q (.slice S n c) 77) (a7 : Rd sq.cX 2 w S n xs) (a8 : n ≤ 100) :
    Calls Tryz.prog 45 #[.pointer (some ⟨mb, 0, none⟩), .pointer (some ⟨q, 0, none⟩)] w (EvAns n0 mb D (uidF xs D) w) := by
  have hsz := h.size
  have hd := h.below (drew_below w)
  have HD := Lib.hid hd
  obtain ⟨dt, A, on, oc, sa, se, fm, hM⟩ := h
  obtain ⟨c0, c2, c3, c4, c5, c6, c7, c8, c9, fz⟩ := hM.cells
  have b0 : w.drew.cell? ⟨mb, 0, none⟩ = some (.int .u32 (D.uid : Nat)) := c0
  have b4 : w.drew.cell? ⟨mb, 4, none⟩ = some (.int .u32 (D.num : Nat)) := c4
  have b5 : w.drew.cell? ⟨mb, 5, none⟩ = some (.int .u32 (D.ln : Nat)) := c5
  have b6 : w.drew.cell? ⟨mb, 6, none⟩ = some (.int .u32 (D.lu : Nat)) := c6
  have b2 : w.drew.cell? ⟨q, 0, none⟩ = some (.slice S n c) := a6.cell
  have HH := Lib.hid (sq.has_any w.drew S n c xs D.uid D.lu a7 (by omega))
  have HD0 := Lib.hid (show Gone n0 mb w w.drew from gone_of hsz (drew_below w))
  clear hM hd a6 a7 a8 hsz c0 c2 c3 c4 c5 c6 c7 c8 c9 fz
  go_enter Tryz.func45, Tryz.ntmps45
  go_wp2_with fail
  go_region_law ((try go_simp); go_at_call 46; refine HH.out.mono ?_; rintro e w3 ⟨rfl, hb⟩; have HB3 := Lib.hid hb; clear hb)
  all_goals
    go_wp2
    go_ret
    exact ⟨rfl, HD.out.below HB3.out, HD0.out.trans (gone_of HD.out.size HB3.out)⟩
set_option maxHeartbeats 2000000 in
theorem ev_set (n0 mb : Nat) (D : Md) (w : World) (h : MS n0 mb D w) (q : Nat) (S : Option Addr) (c n : Nat) (xs : List sq.X) (a6 : Box w q (.slice S n c) 77) (a7 : Rd sq.cX 2 w S n xs) (a8 : n ≤ 100) :
    Calls Tryz.prog 61 #[.pointer (some ⟨mb, 0, none⟩), .pointer (some ⟨q, 0, none⟩)] w (EvAns n0 mb D (setF xs D) w) := by
  have hsz := h.size
  have hd := h.below (drew_below w)
  have HD := Lib.hid hd
  obtain ⟨dt, A, on, oc, sa, se, fm, hM⟩ := h
  obtain ⟨c0, c2, c3, c4, c5, c6, c7, c8, c9, fz⟩ := hM.cells
  have b0 : w.drew.cell? ⟨mb, 0, none⟩ = some (.int .u32 (D.uid : Nat)) := c0
  have b4 : w.drew.cell? ⟨mb, 4, none⟩ = some (.int .u32 (D.num : Nat)) := c4
  have b5 : w.drew.cell? ⟨mb, 5, none⟩ = some (.int .u32 (D.ln : Nat)) := c5
  have b6 : w.drew.cell? ⟨mb, 6, none⟩ = some (.int .u32 (D.lu : Nat)) := c6
  have b2 : w.drew.cell? ⟨q, 0, none⟩ = some (.slice S n c) := a6.cell
  have HH := Lib.hid (sq.has_any w.drew S n c xs D.num D.ln a7 (by omega))
  have HD0 := Lib.hid (show Gone n0 mb w w.drew from gone_of hsz (drew_below w))
  clear hM hd a6 a7 a8 hsz c0 c2 c3 c4 c5 c6 c7 c8 c9 fz
  go_enter Tryz.func61, Tryz.ntmps61
  go_wp2_with fail
  go_region_law ((try go_simp); go_at_call 46; refine HH.out.mono ?_; rintro e w3 ⟨rfl, hb⟩; have HB3 := Lib.hid hb; clear hb)
  all_goals
    go_wp2
    go_ret
    exact ⟨rfl, HD.out.below HB3.out, HD0.out.trans (gone_of HD.out.size HB3.out)⟩
set_option maxHeartbeats 2000000 in
theorem ev_flg (n0 mb : Nat) (D : Md) (w : World) (h : MS n0 mb D w) (q1 q2 : Nat) (nm : ByteArray) (fl : Int) (wo : Bool) (t : TypeId) (a5 : w.heap[q1]? = some (.cells #[.string nm, .int .i64 fl] t (0, 0))) (a6 : Box w q2 (.bool wo) 4) :
    Calls Tryz.prog 60 #[.pointer (some ⟨mb, 0, none⟩), .pointer (some ⟨q1, 0, none⟩), .pointer (some ⟨q2, 0, none⟩)] w (EvAns n0 mb D (flgF fl wo D) w) := by
  have hsz := h.size
  have hd := h.below (drew_below w)
  have HD := Lib.hid hd
  obtain ⟨dt, A, on, oc, sa, se, fm, hM⟩ := h
  obtain ⟨c0, c2, c3, c4, c5, c6, c7, c8, c9, fz⟩ := hM.cells
  have b2 : w.drew.cell? ⟨mb, 2, none⟩ = some (.int .i64 D.flags) := c2
  have b3 : w.drew.cell? ⟨q1, 0 + 1, none⟩ = some (.int .i64 fl) := sq.cell_at a5 1 _ rfl
  have b3' : w.drew.cell? ⟨q1, 1, none⟩ = some (.int .i64 fl) := sq.cell_at a5 1 _ rfl
  have b4 : w.drew.cell? ⟨q2, 0, none⟩ = some (.bool wo) := a6.cell
  have HD0 := Lib.hid (show Gone n0 mb w w.drew from gone_of hsz (drew_below w))
  clear hM hd a5 a6 hsz c0 c2 c3 c4 c5 c6 c7 c8 c9 fz
  go_enter Tryz.func60, Tryz.ntmps60
  go_wp2_with fail
  go_region
  all_goals
    go_wp2
    go_ret
    exact ⟨rfl, HD.out, HD0.out⟩
end Go.Proofs.YtcepcamedmiinaaGreatDoor.sea
