/- What keys ask of a message, however they are made. -/
import Derived.Test.YtcepcamedmiinaaGreatDoorMe5
import Derived.Shelf.Abstract
namespace Go.Proofs.YtcepcamedmiinaaGreatDoor.sea
open Go.ChangeShapes Go.WideShapes Go.ChangeAt Go.RowKit Go.Maps Go.WideMaps
open Go.Proofs.YtcepcamedmiinaaGreatDoor.codec (Bytes vals)
open Go.Proofs.YtcepcamedmiinaaGreatDoor.row (Rd Fm)
open Go.Proofs.YtcepcamedmiinaaGreatDoor.hd (Sl)
set_option linter.unusedVariables false
set_option maxRecDepth 100000
set_option linter.unusedSimpArgs false

theorem ent29 : Enters Tryz.prog 29 := enters_of Tryz.func29 (by kernel_rfl) rfl
theorem ent30 : Enters Tryz.prog 30 := enters_of Tryz.func30 (by kernel_rfl) rfl
theorem ent31 : Enters Tryz.prog 31 := enters_of Tryz.func31 (by kernel_rfl) rfl
theorem ent33 : Enters Tryz.prog 33 := enters_of Tryz.func33 (by kernel_rfl) rfl
theorem ent36 : Enters Tryz.prog 36 := enters_of Tryz.func36 (by kernel_rfl) rfl
theorem ent39 : Enters Tryz.prog 39 := enters_of Tryz.func39 (by kernel_rfl) rfl
theorem ent42 : Enters Tryz.prog 42 := enters_of Tryz.func42 (by kernel_rfl) rfl
theorem ent43 : Enters Tryz.prog 43 := enters_of Tryz.func43 (by kernel_rfl) rfl
theorem ent45 : Enters Tryz.prog 45 := enters_of Tryz.func45 (by kernel_rfl) rfl
theorem ent61 : Enters Tryz.prog 61 := enters_of Tryz.func61 (by kernel_rfl) rfl
theorem ent60 : Enters Tryz.prog 60 := enters_of Tryz.func60 (by kernel_rfl) rfl
theorem ent21 : Enters Tryz.prog 21 := enters_of Tryz.func21 (by kernel_rfl) rfl
/-- A function that asks so much of a message, in this world. -/
def Asks (n0 mb : Nat) (D : Md) (w : World) (fn : Nat) (caps : Array Value) (b : Bool) : Prop :=
  Enters Tryz.prog fn ∧ Calls Tryz.prog fn (#[.pointer (some ⟨mb, 0, none⟩)] ++ caps) w (EvAns n0 mb D b w)
set_option maxHeartbeats 1000000 in
theorem ev_not (n0 mb : Nat) (D : Md) (w : World) (q fn : Nat) (caps : Array Value) (b : Bool) (a1 : Box w q (.func (.func fn) #[] caps) 43) (h : Asks n0 mb D w fn caps b) :
    Calls Tryz.prog 30 #[.pointer (some ⟨mb, 0, none⟩), .pointer (some ⟨q, 0, none⟩)] w (EvAns n0 mb D (!b) w) := by
  have b0 := a1.cell
  have e1 : ∀ args w, (callFunc fn args).run Tryz.prog w = .ok (.enter fn args) w := h.1
  have HC := Lib.hid h.2
  clear a1 h
  go_enter Tryz.func30, Tryz.ntmps30
  go_wp2_with fail
  refine HC.out.mono ?_
  rintro e w1 ⟨rfl, hM, hb⟩
  have HD := Lib.hid (And.intro hM hb)
  clear hM hb
  go_wp2
  go_ret
  exact ⟨rfl, HD.out⟩
set_option maxHeartbeats 1000000 in
theorem ev_or (n0 mb : Nat) (D : Md) (w : World) (q1 q2 fn1 fn2 : Nat) (caps1 caps2 : Array Value) (b1 b2 : Bool) (l2 : q2 < n0) (a1 : Box w q1 (.func (.func fn1) #[] caps1) 43) (a2 : Box w q2 (.func (.func fn2) #[] caps2) 43) (h1 : Asks n0 mb D w fn1 caps1 b1) (h2 : ∀ w', Gone n0 mb w w' → MS n0 mb D w' → Asks n0 mb D w' fn2 caps2 b2) :
    Calls Tryz.prog 31 #[.pointer (some ⟨mb, 0, none⟩), .pointer (some ⟨q1, 0, none⟩), .pointer (some ⟨q2, 0, none⟩)] w (EvAns n0 mb D (b1 || b2) w) := by
  have b0 := a1.cell
  have e1 : ∀ args w, (callFunc fn1 args).run Tryz.prog w = .ok (.enter fn1 args) w := h1.1
  have HC := Lib.hid h1.2
  have H2 := Lib.hid h2
  have HBx := Lib.hid a2
  have HLt := Lib.hid l2
  clear a1 h1 h2 a2 l2
  cases b1 with
  | true =>
    go_enter Tryz.func31, Tryz.ntmps31
    go_wp2_with fail
    refine HC.out.mono ?_
    rintro e w1 ⟨rfl, hM, hb⟩
    have HD := Lib.hid (And.intro hM hb)
    clear hM hb
    go_wp2
    go_ret
    exact ⟨rfl, HD.out⟩
  | false =>
    go_enter Tryz.func31, Tryz.ntmps31
    go_wp2_with fail
    refine HC.out.mono ?_
    rintro e w1 ⟨rfl, hM, hb⟩
    have HD := Lib.hid (And.intro hM hb)
    have h2 := H2.out w1 hb hM
    have e2 : ∀ args w, (callFunc fn2 args).run Tryz.prog w = .ok (.enter fn2 args) w := h2.1
    have HC2 := Lib.hid h2.2
    have b5 := (HBx.out.keep (hb.bel.block _ HLt.out)).cell
    clear hM hb h2
    go_wp2_with fail
    refine HC2.out.mono ?_
    rintro e w2 ⟨rfl, hM, hb⟩
    have HD2 := Lib.hid (And.intro hM hb)
    clear hM hb
    go_wp2
    go_ret
    exact ⟨rfl, HD2.out.1, HD.out.2.trans HD2.out.2⟩
set_option maxHeartbeats 1000000 in
theorem ev_one (n0 mb : Nat) (D : Md) (w : World) (qm fn : Nat) (caps : Array Value) (b : Bool) (a1 : Box w qm (.pointer (some ⟨mb, 0, none⟩)) 49) (h : Asks n0 mb D w fn caps b) :
    Calls Tryz.prog 23 #[.func (.func fn) #[] caps, .pointer (some ⟨qm, 0, none⟩)] w (EvAns n0 mb D (!b) w) := by
  have b0 := a1.cell
  have e1 : ∀ args w, (callFunc fn args).run Tryz.prog w = .ok (.enter fn args) w := h.1
  have HC := Lib.hid h.2
  clear a1 h
  go_enter Tryz.func23, Tryz.ntmps23
  go_wp2_with fail
  refine HC.out.mono ?_
  rintro e w1 ⟨rfl, hM, hb⟩
  have HD := Lib.hid (And.intro hM hb)
  clear hM hb
  go_wp2
  go_ret
  exact ⟨rfl, HD.out⟩
theorem vk_at {w : World} {b n : Nat} {ys : List Vk} (h : Rd cV 1 w (some ⟨b, 0, none⟩) n ys) (k : Nat) (hk : k < n) : ∃ y, ys[k]? = some y ∧ w.cell? ⟨b, k, none⟩ = some (.func (.func y.fn) #[] y.caps) := by
  obtain ⟨b', o, y, h1, h2, h3⟩ := h.2 k hk
  cases h1
  have := h3 0 _ rfl
  rw [show 0 + k * 1 + 0 = k by omega] at this
  exact ⟨y, h2, this⟩
theorem all_false {ys : List Vk} {D : Md} {k : Nat} {y : Vk} (h : ys[k]? = some y) (hy : y.g D = false) : (ys.all fun y => y.g D) = false := by
  rw [List.all_eq_false]
  exact ⟨y, List.mem_of_getElem? h, by rw [hy]; exact Bool.false_ne_true⟩
theorem all_true {ys : List Vk} {D : Md} (h : ∀ (j : Nat) (y : Vk), ys[j]? = some y → y.g D = true) : (ys.all fun y => y.g D) = true := by
  rw [List.all_eq_true]
  intro y hy
  obtain ⟨j, hj⟩ := List.mem_iff_getElem?.1 hy
  exact h j y hj
def IxAns (n0 mb : Nat) (D : Md) (b : Bool) (w : World) (e : Ending) (w' : World) : Prop :=
  (∃ z : Int, e = .returned (.int .i64 z) ∧ decide (0 ≤ z) = b) ∧ MS n0 mb D w' ∧ Gone n0 mb w w'
set_option maxHeartbeats 4000000 in
theorem index_any (n0 mb : Nat) (D : Md) (W : World) (hM : MS n0 mb D W) (qm b m c : Nat) (ys : List Vk) (hq : Box W qm (.pointer (some ⟨mb, 0, none⟩)) 49) (hqm : qm ≠ mb) (hb : b < n0) (hR : Rd cV 1 W (some ⟨b, 0, none⟩) m ys) (hm : m ≤ 1000) (hA : ∀ y ∈ ys, ∀ w', Gone n0 mb W w' → MS n0 mb D w' → Asks n0 mb D w' y.fn y.caps (y.g D)) :
    Calls Tryz.prog 28 #[.slice (some ⟨b, 0, none⟩) m c, .func (.func 23) #[] #[.pointer (some ⟨qm, 0, none⟩)]] W (IxAns n0 mb D (!(ys.all fun y => y.g D)) W) := by
  have HR := Lib.hid hR
  have HQ := Lib.hid (fun w' (h : Gone n0 mb W w') => (show Box w' qm (.pointer (some ⟨mb, 0, none⟩)) 49 from h.fr qm _ _ _ hqm hq))
  have HA := Lib.hid hA
  have HMb := Lib.hid hb
  have H0 := Lib.hid hM
  clear hR hq hqm hA hb hM
  go_enter Tryz.func28, Tryz.ntmps28
  go_wp2
  go_loopw [8] (fun i wr => ∃ k : Nat, k ≤ m ∧ i = .int .i64 k ∧ Hid (∀ j y, j < k → ys[j]? = some y → y.g D = true) ∧ Hid (MS n0 mb D wr ∧ Gone n0 mb W wr)) (fun i _ => m - (intOf i).toNat)
  case atStart => exact ⟨0, Nat.zero_le _, rfl, Lib.hid (fun j x h => absurd h (Nat.not_lt_zero _)), Lib.hid ⟨H0.out, Gone.refl _ _ _⟩⟩
  case round =>
    obtain ⟨k, hk, rfl, HU, HB⟩ := hrel
    by_cases hlt : k < m
    · obtain ⟨y, hx, c0⟩ := vk_at (rdAll_keep HR.out (fun a ha => by cases ha; exact HB.out.2.bel.block _ HMb.out)) k hlt
      have hlt' : (k : Int) < (m : Int) := by omega
      have hmem : y ∈ ys := List.mem_of_getElem? hx
      have hW := ev_one n0 mb D wr qm y.fn y.caps (y.g D) (HQ.out wr HB.out.2) (HA.out y hmem wr HB.out.2 HB.out.1)
      have HX := Lib.hid hx
      clear hx hmem
      cases hp : y.g D with
      | true =>
        rw [hp] at hW
        have HW := Lib.hid hW
        have HP := Lib.hid hp
        clear hW hp
        go_wp2_with (go_at_call 23; refine HW.out.mono ?_; rintro e w1 ⟨rfl, hM1, hb1⟩; have HB1 := Lib.hid (And.intro hM1 hb1); clear hM1 hb1)
        go_roundw
        case rel =>
          have hU : ∀ j x, j < k + 1 → ys[j]? = some x → x.g D = true := fun j x hj hx => by
            rcases Nat.lt_succ_iff_lt_or_eq.1 hj with h | rfl
            · exact HU.out j x h hx
            · rw [HX.out] at hx
              cases hx
              exact HP.out
          first | exact ⟨k + 1, by omega, by go_num, Lib.hid hU, Lib.hid ⟨HB1.out.1, HB.out.2.trans HB1.out.2⟩⟩ | ((repeat apply Exists.intro); exact ⟨⟨k + 1, by omega, by go_num, Lib.hid hU, Lib.hid ⟨HB1.out.1, HB.out.2.trans HB1.out.2⟩⟩, rfl⟩)
        case measure => (show m - ((k : Int) + 1).toNat < m - k; omega)
      | false =>
        rw [hp] at hW
        have HW := Lib.hid hW
        have HP := Lib.hid (all_false HX.out hp)
        clear hW hp
        go_wp2_with (go_at_call 23; refine HW.out.mono ?_; rintro e w1 ⟨rfl, hM1, hb1⟩; have HB1 := Lib.hid (And.intro hM1 hb1); clear hM1 hb1)
        go_ret
        exact ⟨⟨_, rfl, by rw [HP.out]; exact decide_eq_true (by omega)⟩, HB1.out.1, HB.out.2.trans HB1.out.2⟩
    · obtain rfl : k = m := by omega
      have hAl := all_true (ys := ys) (D := D) (fun j x hx => HU.out j x (by have := (List.getElem?_eq_some_iff.1 hx).1; have := HR.out.1; omega) hx)
      have HAl := Lib.hid hAl
      clear hAl
      go_wp2
      go_ret
      exact ⟨⟨_, rfl, by rw [HAl.out]; rfl⟩, HB.out⟩
set_option maxHeartbeats 1000000 in
theorem contF_any (n0 mb : Nat) (D : Md) (W : World) (hM : MS n0 mb D W) (qm b m c : Nat) (ys : List Vk) (hq : Box W qm (.pointer (some ⟨mb, 0, none⟩)) 49) (hqm : qm ≠ mb) (hb : b < n0) (hR : Rd cV 1 W (some ⟨b, 0, none⟩) m ys) (hm : m ≤ 1000) (hA : ∀ y ∈ ys, ∀ w', Gone n0 mb W w' → MS n0 mb D w' → Asks n0 mb D w' y.fn y.caps (y.g D)) :
    Calls Tryz.prog 22 #[.slice (some ⟨b, 0, none⟩) m c, .func (.func 23) #[] #[.pointer (some ⟨qm, 0, none⟩)]] W (EvAns n0 mb D (!(ys.all fun y => y.g D)) W) := by
  have HI := Lib.hid (index_any n0 mb D W hM qm b m c ys hq hqm hb hR hm hA)
  clear hM hq hR hA
  generalize (ys.all fun y => y.g D) = al at *
  go_enter Tryz.func22, Tryz.ntmps22
  go_wp2_with fail
  refine HI.out.mono ?_
  rintro e w1 ⟨⟨z, rfl, hz⟩, hM1, hb1⟩
  have HZ := Lib.hid hz
  have HB1 := Lib.hid (And.intro hM1 hb1)
  clear hz hM1 hb1
  go_wp2
  go_ret
  exact ⟨by rw [← HZ.out]; rfl, HB1.out⟩
set_option maxHeartbeats 1000000 in
theorem ev_keys (n0 mb : Nat) (D : Md) (W : World) (hM : MS n0 mb D W) (q b m c : Nat) (ys : List Vk) (hq : Box W q (.slice (some ⟨b, 0, none⟩) m c) 61) (hb : b < n0) (hR : Rd cV 1 W (some ⟨b, 0, none⟩) m ys) (hm : m ≤ 1000) (hA : ∀ y ∈ ys, ∀ w', Gone n0 mb W w' → MS n0 mb D w' → Asks n0 mb D w' y.fn y.caps (y.g D)) :
    Calls Tryz.prog 21 #[.pointer (some ⟨mb, 0, none⟩), .pointer (some ⟨q, 0, none⟩)] W (EvAns n0 mb D (ys.all fun y => y.g D) W) := by
  obtain ⟨w1, hw1⟩ : ∃ w1, w1 = W.alloc (.cells #[.pointer (some ⟨mb, 0, none⟩)] 49) := ⟨_, rfl⟩
  have hb1 : Below W.heap.size W w1 := by rw [hw1]; exact (Below.refl _ _).alloc (Nat.le_refl _) _
  have hg1 : Gone n0 mb W w1 := gone_of hM.size hb1
  have hlt : mb < W.heap.size := by
    obtain ⟨_, _, _, _, _, _, _, h⟩ := hM
    exact h.lt.1
  have hcF := contF_any n0 mb D w1 (hM.below hb1) W.heap.size b m c ys (by rw [hw1]; exact box_new _ _ _) (by omega) hb (rdAll_keep hR (fun a ha => by cases ha; exact hg1.bel.block _ hb)) hm (fun y hy w' hg hM' => hA y hy w' (hg1.trans hg) hM')
  have HC := Lib.hid hcF
  have b0 : w1.cell? ⟨q, 0, none⟩ = some (.slice (some ⟨b, 0, none⟩) m c) := (hq.keep (hb1.block _ hq.lt)).cell
  have HW1 := Lib.hid hw1
  have HG := Lib.hid hg1
  clear hM hq hR hA hw1 hb1 hcF hg1 hb hlt
  generalize (ys.all fun y => y.g D) = al at *
  go_enter Tryz.func21, Tryz.ntmps21
  go_upto_region 1 with fail
  rw [← HW1.out]
  go_wp2_with fail
  refine HC.out.mono ?_
  rintro e w2 ⟨rfl, hM2, hb2⟩
  have HB2 := Lib.hid (And.intro hM2 hb2)
  clear hM2 hb2
  go_wp2
  go_ret
  exact ⟨by simp, HB2.out.1, HG.out.trans HB2.out.2⟩
/-- What any key asks of a message. -/
theorem eval_any (n0 mb : Nat) (D : Md) : ∀ (n : Nat) (w : World) (y : Vk) (f : Md → Bool), KeyAt (fun x => x < n0) n w (fv y) f → MS n0 mb D w → Asks n0 mb D w y.fn y.caps (f D)
  | 0, w, y, f, h, _ => h.elim
  | n + 1, w, y, f, h, hM => by
    have keep : ∀ {w' : World} {v : Value} {g : Md → Bool}, Gone n0 mb w w' → KeyAt (fun x => x < n0) n w v g → KeyAt (fun x => x < n0) n w' v g := fun hg hk => hk.keep (fun x hx _ => hg.bel.block x hx) hg.bel.size (fun x hx _ => hx)
    obtain ⟨fn, caps, g⟩ := y
    rcases h with h | h
    · generalize hv : fv ⟨fn, caps, g⟩ = v at h
      cases h with
      | all => cases hv; exact ⟨ent29, ev_all n0 mb D w hM⟩
      | fld q1 q2 g n nm wd a1 a2 a3 a4 a5 a6 a7 a8 a9 => cases hv; exact ⟨ent33, ev_fld n0 mb D w hM q1 q2 g n nm wd a1 a2 a3 a5 a6 a7 a8 a9⟩
      | bod q g n wd a2 a3 a4 a6 a7 a8 => cases hv; exact ⟨ent36, ev_bod n0 mb D w hM q g n wd a2 a3 a6 a7 a8⟩
      | txt q g n wd a2 a3 a4 a6 a7 a8 => cases hv; exact ⟨ent39, ev_txt n0 mb D w hM q g n wd a2 a3 a6 a7 a8⟩
      | big q z a1 a2 => cases hv; exact ⟨ent42, ev_big n0 mb D w hM q z a2⟩
      | sml q z a1 a2 => cases hv; exact ⟨ent43, ev_sml n0 mb D w hM q z a2⟩
      | uid q A c n xs a1 a2 a3 a4 a5 => cases hv; exact ⟨ent45, ev_uid n0 mb D w hM q A c n xs a2 a4 a5⟩
      | set q A c n xs a1 a2 a3 a4 a5 => cases hv; exact ⟨ent61, ev_set n0 mb D w hM q A c n xs a2 a4 a5⟩
      | flg q1 q2 nm fl wo t a1 a2 a3 a4 => cases hv; exact ⟨ent60, ev_flg n0 mb D w hM q1 q2 nm fl wo t a3 a4⟩
    · generalize hv : fv ⟨fn, caps, g⟩ = v at h
      cases h with
      | not q v1 f1 a1 a2 a3 =>
        cases hv
        obtain ⟨y1, rfl, _⟩ := a3.form
        exact ⟨ent30, ev_not n0 mb D w q y1.fn y1.caps (f1 D) a2 (eval_any n0 mb D n w y1 f1 a3 hM)⟩
      | or q1 q2 v1 v2 f1 f2 a1 a2 a3 a4 a5 a6 =>
        cases hv
        obtain ⟨y1, rfl, _⟩ := a5.form
        obtain ⟨y2, rfl, _⟩ := a6.form
        exact ⟨ent31, ev_or n0 mb D w q1 q2 y1.fn y2.fn y1.caps y2.caps (f1 D) (f2 D) a2 a3 a4 (eval_any n0 mb D n w y1 f1 a5 hM) (fun w' hg hM' => eval_any n0 mb D n w' y2 f2 (keep hg a6) hM')⟩
      | keys q b m c ys a1 a2 a3 a4 a5 a6 a7 =>
        cases hv
        exact ⟨ent21, ev_keys n0 mb D w hM q b m c ys a4 a2 a6 a5 (fun y hy w' hg hM' => eval_any n0 mb D n w' y y.g (keep hg (a7 y hy)) hM')⟩
end Go.Proofs.YtcepcamedmiinaaGreatDoor.sea
