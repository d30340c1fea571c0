/- A key by its name: flags, and sets; all names. -/
import Derived.Test.YtcepcamedmiinaaGreatDoorMd1
namespace Go.Proofs.YtcepcamedmiinaaGreatDoor.sea
open Go.ChangeShapes Go.WideShapes Go.ChangeAt Go.RowKit
open Go.Proofs.YtcepcamedmiinaaGreatDoor.codec (Bytes vals)
open Go.Proofs.YtcepcamedmiinaaGreatDoor.row
set_option linter.unusedVariables false
set_option maxRecDepth 100000
set_option linter.unusedSimpArgs false

def nmF (k : Nat) : ByteArray := (five.getD k (⟨#[]⟩, 0)).1
def flF (k : Nat) : Int := (five.getD k (⟨#[]⟩, 0)).2
theorem five_cases {k : Nat} (h : k < 5) : k = 0 ∨ k = 1 ∨ k = 2 ∨ k = 3 ∨ k = 4 := by omega
theorem five_index (k : Nat) (hk : k < 5) (w : World) : (Instr.index 101 (.agg flags10) (.int .i64 (k : Nat))).run Tryz.prog w = .ok (.agg #[.string (nmF k), .int .i64 (flF k)]) w := by
  rcases five_cases hk with rfl | rfl | rfl | rfl | rfl <;> kernel_rfl
theorem flag_no {s : ByteArray} (h : ∀ j, j < 5 → nmF j ≠ restUN s) : flagOf s = none := by
  unfold flagOf
  rw [List.find?_eq_none]
  intro x hx
  obtain ⟨i, hi, rfl⟩ := List.mem_iff_getElem.1 hx
  have := h i hi
  unfold nmF at this
  rw [List.getD, List.getElem?_eq_getElem hi] at this
  simpa using this
theorem flag_yes {s : ByteArray} {k : Nat} (hk : k < 5) (h : ∀ j, j < k → nmF j ≠ restUN s) (hy : nmF k = restUN s) : flagOf s = some (nmF k, flF k) := by
  unfold flagOf
  rw [← hy]
  rcases five_cases hk with rfl | rfl | rfl | rfl | rfl <;> decide +kernel
theorem str_eq {a b : ByteArray} (h : (a.toList == b.toList) = true) : a = b := by
  have h1 := beq_iff_eq.1 h
  rw [Lib.toList_data, Lib.toList_data] at h1
  exact ByteArray.ext (Array.toList_inj.1 h1)
theorem str_neq {a b : ByteArray} (h : (a.toList == b.toList) = false) : a ≠ b := fun e => by
  subst e
  rw [beq_self_eq_true] at h
  cases h
set_option maxHeartbeats 2000000 in
theorem flagOrSet_any (n : Nat) (w : World) (p : Nat) (s : ByteArray) (l : List Tk) (b : Bool) (h : ST w p l b) (hs : s.size ≤ 140737488355328) :
    Calls Tryz.prog 47 #[.pointer (some ⟨p, 0, none⟩), .string s] w (KeyAns (n + 1) w p ⟨lv.own s, l, b || !lv.isOwn s⟩) := by
  have HC := Lib.hid (fun w => Tryz.strings_CutPrefix s ⟨#[85, 78]⟩ w)
  have HS := Lib.hid h
  have HZ := Lib.hid hs
  have HF := Lib.hid (fun k hk w => five_index k hk w)
  have eR : (⟨(Lib.trimPrefix s.data.toList (⟨#[85, 78]⟩ : ByteArray).data.toList).toArray⟩ : ByteArray) = restUN s := rfl
  have eU : Lib.hasPrefix s.data.toList (⟨#[85, 78]⟩ : ByteArray).data.toList = isUN s := rfl
  rw [eR, eU] at HC
  obtain ⟨R, hR⟩ : ∃ R, R = restUN s := ⟨_, rfl⟩
  rw [← hR] at HC
  obtain ⟨u, hu⟩ : ∃ u, u = isUN s := ⟨_, rfl⟩
  rw [← hu] at HC
  have HR := Lib.hid hR
  have HU := Lib.hid hu
  have HBx := Lib.hid (box_new w (.bool u) 4)
  have HS1 := Lib.hid (h.alloc (.cells #[.bool u] 4))
  have HT1 := Lib.hid (touch_alloc (p := p) w (.cells #[.bool u] 4))
  obtain ⟨t, fr, hI⟩ := HS1.out.env.five
  have HI := Lib.hid hI
  have hsz := size_alloc w (.cells #[.bool u] 4)
  have HSz := Lib.hid hsz
  clear h hs eR eU hR hu hI hsz
  go_enter Tryz.func47, Tryz.ntmps47
  go_wp2_with (first
    | (go_at_call 59; refine (HC.out _).mono ?_; rintro e w2 ⟨rfl, hw⟩; replace hw := hw.symm; subst hw)
    | (refine wpList_load_row rfl 101 (.global 0) rfl 0 rfl t flags10 fr _ HI.out Tryz.underlying101 rfl rfl ?_))
  generalize w.alloc (.cells #[.bool u] 4) = W1 at *
  go_loopw [16] (fun i wr => ∃ k : Nat, k ≤ 5 ∧ i = .int .i64 k ∧ Hid (∀ j, j < k → nmF j ≠ R) ∧ Hid (Below W1.heap.size W1 wr)) (fun i _ => 5 - (intOf i).toNat)
  case atStart => exact ⟨0, by decide, rfl, Lib.hid (fun j hj => by omega), Lib.hid (Below.refl _ _)⟩
  case round =>
    obtain ⟨k, hk, rfl, HN, HB⟩ := hrel
    by_cases hk5 : k < 5
    · have hI := HF.out k hk5
      have l1 : (k : Int) < 5 := by omega
      have HW := Lib.hid hk5
      obtain ⟨nm, hnm⟩ : ∃ nm, nm = nmF k := ⟨_, rfl⟩
      obtain ⟨fl, hfl⟩ : ∃ fl, fl = flF k := ⟨_, rfl⟩
      rw [← hnm, ← hfl] at hI
      have HNm := Lib.hid hnm
      have HFl := Lib.hid hfl
      clear hnm hfl
      have HS2 := Lib.hid ((HS1.out.below HB.out).alloc (.cells #[.string nm, .int .i64 fl] 100))
      have HB2 := Lib.hid (HB.out.alloc HB.out.size (.cells #[.string nm, .int .i64 fl] 100))
      have HX := Lib.hid (show (wr.alloc (.cells #[.string nm, .int .i64 fl] 100)).heap[wr.heap.size]? = some (.cells #[.string nm, .int .i64 fl] 100 (0, 0)) from heap_alloc_new _ _)
      go_wp2_with fail
      · have hq : (nm.toList == R.toList) = true := by assumption
        have hq2 := str_eq hq
        have hf := flag_yes (s := s) (k := k) HW.out (fun j hj => by rw [← HR.out]; exact HN.out j hj) (by rw [← HR.out, ← HNm.out]; exact hq2)
        go_ret
        have hz := HB.out.size
        have hw := HSz.out
        refine ⟨⟨_, _, fun _ => true⟩, rfl, ?_, touch_trans HT1.out (below_touch _ HB2.out), fun hb => .inl ?_⟩
        · show ST _ p l (b || !((flagOf s).isSome || isSetS s))
          rw [hf]
          simpa using HS2.out
        · show Leaf _ _ _ (match flagOf s with | some x => flgF x.2 (isUN s) | none => setF (spans s))
          rw [hf]
          show Leaf _ _ _ (flgF (flF k) (isUN s))
          rw [← HFl.out, ← HU.out]
          exact .flg wr.heap.size w.heap.size nm fl u _ (show w.heap.size ≤ _ by omega) (Nat.le_refl _) HX.out (HBx.out.keep (HB2.out.block _ (by omega)))
      · have hq : (nm.toList == R.toList) = false := by assumption
        have hq2 := str_neq hq
        refine ⟨⟨k + 1, by omega, by go_num, Lib.hid (fun j hj => ?_), HB2⟩, ?_⟩
        · by_cases e : j = k
          · subst e; rw [← HNm.out]; exact hq2
          · exact HN.out j (by omega)
        · show 5 - ((k : Int) + 1).toNat < 5 - k
          omega
    · obtain rfl : k = 5 := by omega
      have HFn := Lib.hid (flag_no (s := s) (fun j hj => by rw [← HR.out]; exact HN.out j hj))
      have HS2 := Lib.hid (HS1.out.below HB.out)
      have HX := Lib.hid (set_any wr p s l b HS2.out HZ.out)
      go_wp2_with fail
      refine HX.out.mono ?_
      rintro e w2 ⟨A, c, m, rfl, h4, h5, h6⟩
      have H4 := Lib.hid h4
      have H5 := Lib.hid h5
      have H6 := Lib.hid h6
      clear h4 h5 h6
      go_wp2
      go_ret
      have hz := HB.out.size
      have hw := HSz.out
      have hz2 := H5.out.2.2.2.1
      have hf := HFn.out
      refine ⟨⟨_, _, fun _ => true⟩, rfl, ?_, touch_trans (touch_trans (touch_trans HT1.out (below_touch _ HB.out)) H5.out) (touch_alloc _ _), fun hb => .inl ?_⟩
      · show ST _ p l (b || !((flagOf s).isSome || isSetS s))
        rw [hf]
        exact H4.out.alloc _
      · have hb2 : isSetS s = true := by
          have h9 : (b || !((flagOf s).isSome || isSetS s)) = false := hb
          rw [hf] at h9
          simp at h9
          exact h9.2
        obtain ⟨k1, k2, k3⟩ := H6.out hb2
        show Leaf _ _ _ (match flagOf s with | some x => flgF x.2 (isUN s) | none => setF (spans s))
        rw [hf]
        exact .set w2.heap.size A c m _ (show w.heap.size ≤ _ by omega) (box_new _ _ _) (fun a ha => ⟨show w.heap.size ≤ _ by have := (k3 a ha).1; omega, by rw [size_alloc]; have := (k3 a ha).2; omega⟩) (rdAll_keep k1 fun a ha => alloc_keeps _ _ _ (k3 a ha).2) k2
theorem named_other (V : Lv Md) (rec : List Tk → Bool → Rs Md) {nm : ByteArray} (h : ∀ x ∈ [nALL, nNOT, nOR, nSUBJECT, nFROM, nTO, nBODY, nTEXT, nLARGER, nSMALLER, nUID], nm ≠ x) (l : List Tk) (b : Bool) : namedP V rec nm l b = ⟨V.own nm, l, b || !V.isOwn nm⟩ := by
  unfold namedP
  simp only [List.mem_cons, List.not_mem_nil, or_false, forall_eq_or_imp, forall_eq] at h
  obtain ⟨h1, h2, h3, h4, h5, h6, h7, h8, h9, h10, h11⟩ := h
  rw [if_neg h1, if_neg h2, if_neg h3, if_neg (by rintro (h | h | h) <;> contradiction), if_neg h7, if_neg h8, if_neg h9, if_neg h10, if_neg h11]
set_option maxHeartbeats 2000000 in
theorem named_rest (n d : Nat) (w : World) (p : Nat) (nm : ByteArray) (l : List Tk) (b : Bool) (h : ST w p l b) (hs : nm.size ≤ 140737488355328) (hn : ∀ x ∈ [nALL, nNOT, nOR, nSUBJECT, nFROM, nTO, nBODY, nTEXT, nLARGER, nSMALLER, nUID], nm ≠ x) :
    Calls Tryz.prog 25 #[.pointer (some ⟨p, 0, none⟩), .string nm, .int .i64 (d : Nat)] w (KeyAns (n + 1) w p ⟨lv.own nm, l, b || !lv.isOwn nm⟩) := by
  have HS := Lib.hid (h.alloc (.cells #[.string nm] 9))
  have HK := Lib.hid (flagOrSet_any n _ p nm l b HS.out hs)
  have ne : ∀ x : ByteArray, nm ≠ x → (nm.toList == x.data.toList) = false := fun x hx => by
    rw [beq_eq_false_iff_ne]
    intro e
    rw [Lib.toList_data] at e
    exact hx (ByteArray.ext (Array.toList_inj.1 e))
  have f1 : (nm.toList == [65, 76, 76]) = false := ne nALL (hn _ (by simp))
  have f2 : (nm.toList == [78, 79, 84]) = false := ne nNOT (hn _ (by simp))
  have f3 : (nm.toList == [79, 82]) = false := ne nOR (hn _ (by simp))
  have f4 : (nm.toList == [83, 85, 66, 74, 69, 67, 84]) = false := ne nSUBJECT (hn _ (by simp))
  have f5 : (nm.toList == [70, 82, 79, 77]) = false := ne nFROM (hn _ (by simp))
  have f6 : (nm.toList == [84, 79]) = false := ne nTO (hn _ (by simp))
  have f7 : (nm.toList == [66, 79, 68, 89]) = false := ne nBODY (hn _ (by simp))
  have f8 : (nm.toList == [84, 69, 88, 84]) = false := ne nTEXT (hn _ (by simp))
  have f9 : (nm.toList == [76, 65, 82, 71, 69, 82]) = false := ne nLARGER (hn _ (by simp))
  have f10 : (nm.toList == [83, 77, 65, 76, 76, 69, 82]) = false := ne nSMALLER (hn _ (by simp))
  have f11 : (nm.toList == [85, 73, 68]) = false := ne nUID (hn _ (by simp))
  clear h hs hn ne
  go_enter Tryz.func25, Tryz.ntmps25
  go_wp2_with fail
  refine HK.out.mono ?_
  rintro e w1 ⟨y, rfl, hs, ht, hk⟩
  have HS1 := Lib.hid hs
  have HT := Lib.hid ht
  have HA := Lib.hid hk
  clear hs ht hk
  have hf : fv y = .func (.func y.fn) #[] y.caps := rfl
  rw [hf]
  go_wp2
  go_ret
  exact ⟨y, rfl, HS1.out, touch_trans (touch_alloc _ _) HT.out, fun hb => (HA.out hb).keep (fun _ _ _ => rfl) (Nat.le_refl _) (fun b hF _ => by have : (w.alloc (.cells #[.string nm] 9)).heap.size ≤ b := hF; rw [size_alloc] at this; show w.heap.size ≤ b; omega)⟩
/-- A key of any name. -/
theorem named_any (n d : Nat) (hd : d ≤ 100) (w : World) (p : Nat) (nm : ByteArray) (l : List Tk) (b : Bool) (h : ST w p l b) (hs : nm.size ≤ 140737488355328) (hK : nm = nNOT ∨ nm = nOR → KeyC n (d + 1)) :
    Calls Tryz.prog 25 #[.pointer (some ⟨p, 0, none⟩), .string nm, .int .i64 (d : Nat)] w (KeyAns (n + 1) w p (namedP lv (keyP lv n (d + 1)) nm l b)) := by
  by_cases e1 : nm = nALL
  · subst e1; exact named_all n d w p l b h
  by_cases e2 : nm = nNOT
  · subst e2; exact named_not n d hd (hK (.inl rfl)) w p l b h
  by_cases e3 : nm = nOR
  · subst e3; exact named_or n d hd (hK (.inr rfl)) w p l b h
  by_cases e4 : nm = nSUBJECT
  · subst e4; exact named_subject n d w p l b h
  by_cases e5 : nm = nFROM
  · subst e5; exact named_from n d w p l b h
  by_cases e6 : nm = nTO
  · subst e6; exact named_to n d w p l b h
  by_cases e7 : nm = nBODY
  · subst e7; exact named_body n d w p l b h
  by_cases e8 : nm = nTEXT
  · subst e8; exact named_text n d w p l b h
  by_cases e9 : nm = nLARGER
  · subst e9; exact named_larger n d w p l b h
  by_cases e10 : nm = nSMALLER
  · subst e10; exact named_smaller n d w p l b h
  by_cases e11 : nm = nUID
  · subst e11; exact named_uid n d w p l b h
  have hn : ∀ x ∈ [nALL, nNOT, nOR, nSUBJECT, nFROM, nTO, nBODY, nTEXT, nLARGER, nSMALLER, nUID], nm ≠ x := by
    simp only [List.mem_cons, List.not_mem_nil, or_false, forall_eq_or_imp, forall_eq]
    exact ⟨e1, e2, e3, e4, e5, e6, e7, e8, e9, e10, e11⟩
  rw [named_other lv (keyP lv n (d + 1)) hn]
  exact named_rest n d w p nm l b h hs hn
end Go.Proofs.YtcepcamedmiinaaGreatDoor.sea
namespace Go.Proofs.YtcepcamedmiinaaGreatDoor.sea
open Go.ChangeShapes Go.WideShapes Go.ChangeAt Go.RowKit
open Go.Proofs.YtcepcamedmiinaaGreatDoor.codec (Bytes vals)
open Go.Proofs.YtcepcamedmiinaaGreatDoor.row
set_option linter.unusedVariables false
set_option maxRecDepth 100000
set_option linter.unusedSimpArgs false

theorem step_append_own {α : Type} {F : α → List Value} {K by_ : Nat} {z : Value} (hF : Fm F K) (hK0 : 0 < K) (hK9 : K ≤ 9) (hby : by_ ≤ 1000) (hz : z.cells.size = K) {ops : Array Oper} {o : Oper} {a : Act} {w : World} {K' : Act → World → Prop} {Q : Exit → Act → World → Prop} {X : Prop} (hgd : o.guard = none) (s q : Operand) (T E : TypeId)
    (ho : o.op = .call { callee := .builtin .append, args := #[s, q], argTypes := #[T, T] }) (hT : Tryz.prog.underlying T = some (.slice E)) (hE : (Tryz.prog.info? E).map (fun i => (i.zero, i.size, i.bytes)) = some (some z, K, by_))
    (B : Nat) (v : Value) (ys : List α) (hs : a.eval s = v) (h : row.Own F K B E w v ys) (hB : B ≤ w.heap.size) (hn : ys.length ≤ 20000000) (y : α) (m : Nat × Nat) (g : Nat) (hg : g = w.heap.size) (hy : a.eval q = .slice (some ⟨g, 0, none⟩) 1 1) (L : Array Value) (hL : L = (F y).toArray)
    (hK : ∀ v' w', row.Own F K B E w' v' (ys ++ [y]) → w.grownBy w' v.ownBlock → (v'.ownBlock = v.ownBlock ∨ ∃ g, v'.ownBlock = some g ∧ w.heap.size ≤ g) → K' (a.put o.dst v') w') :
    if Region.wanted o (yielded ops a.tmps) = true then Oper.wp Tryz.prog o a (w.alloc (.cells L E m)) K' Q else X := by
  have hw : Region.wanted o (yielded ops a.tmps) = true := by simp [Region.wanted, hgd]
  rw [if_pos hw]
  subst hL
  obtain ⟨v', w', hr, h1, h2, h3⟩ := row.run_append_own hF hK0 hK9 hby hz T E hT hE w o.type B v ys h hB hn y m g hg
  unfold Oper.wp execOp
  simp only [ho, resolve, invoke, builtin, Sem.run_bind, Sem.run_pure, Result.andThen_ok, List.map_toArray, List.map_cons, List.map_nil, hs, hy, hr]
  exact hK v' w' h1 h2 h3
/-- How much a reader may still do. -/
def left (w : World) (p : Nat) : Nat :=
  match w.cell? ⟨p, 0, none⟩, w.cell? ⟨p, 0 + 1, none⟩ with
  | some (.slice _ m _), some (.bool b) => 2 * m + (if b then 0 else 1)
  | _, _ => 0
theorem RS.left {w : World} {p : Nat} {l : List Tk} {b : Bool} (h : RS w p l b) : left w p = 2 * l.length + (if b then 0 else 1) := by
  obtain ⟨R, m, d, h1, h2, h3, h4, h5, h6, h7⟩ := h
  obtain ⟨c0, c1, _⟩ := facts h7
  unfold sea.left
  rw [c0, c1, h4.1]
theorem own_form {B : Nat} {E : TypeId} {w : World} {v : Value} {ys : List Vk} (h : row.Own cV 1 B E w v ys) (h0 : 0 < ys.length) : ∃ g m c, v = .slice (some ⟨g, 0, none⟩) m c ∧ B ≤ g ∧ g < w.heap.size := by
  rcases h.2 with ⟨e, h1⟩ | ⟨g, cap, cur, e, hB, hg, hc, _⟩
  · omega
  · exact ⟨g, _, cap, e, hB, (Array.getElem?_eq_some_iff.1 hg).1⟩
/-- Keys that have been read so far. -/
def LS (n d : Nat) (W : World) (p q : Nat) (R : Rs Md) (k : Nat) (l : List Tk) (b : Bool) (ys : List Vk) (g m c : Nat) (w : World) : Prop :=
  ST w p l b ∧ row.Own cV 1 W.heap.size 43 w (.slice (some ⟨g, 0, none⟩) m c) ys ∧ g ≠ q ∧ W.heap.size ≤ g ∧ Box w q (.slice (some ⟨g, 0, none⟩) m c) 61 ∧ codec.Touch (· = p) W w ∧ W.heap.size ≤ q ∧ p < W.heap.size ∧
  (b = false → l.length < k ∧ ∀ y ∈ ys, KeyAt (fun x => W.heap.size ≤ x ∧ x ≠ q ∧ x ≠ g) n w (fv y) y.g) ∧ ys.length + k = 201 ∧ R = loopP (keyP lv n d) k (fun m => ys.all fun y => y.g m) l b
theorem LS.below {n d : Nat} {W : World} {p q : Nat} {R : Rs Md} {k : Nat} {l : List Tk} {b : Bool} {ys : List Vk} {g m c : Nat} {w w' : World} (h : LS n d W p q R k l b ys g m c w) (hb : Below w.heap.size w w') : LS n d W p q R k l b ys g m c w' := by
  obtain ⟨h1, h2, h3, h4, h5, h6, h7, h8, h9, h10, h11⟩ := h
  exact ⟨h1.below hb, h2.below hb, h3, h4, h5.keep (hb.block _ h5.lt), touch_trans h6 (below_touch _ hb), h7, h8, fun e => ⟨(h9 e).1, fun y hy => ((h9 e).2 y hy).keep (fun x _ hx => hb.block x hx) hb.size (fun x hx _ => hx)⟩, h10, h11⟩
/-- One key more. -/
theorem LS.next {n d : Nat} {W : World} {p q : Nat} {R : Rs Md} {k : Nat} {l : List Tk} {b : Bool} {ys : List Vk} {g m c : Nat} {w w1 w2 : World} {y : Vk} {g2 m2 c2 : Nat} (h : LS n d W p q R (k + 1) l b ys g m c w) (hgo : goesB l b = true)
    (hs : ST w1 p (keyP lv n d l b).l (keyP lv n d l b).b) (ht : codec.Touch (· = p) w w1) (hk : (keyP lv n d l b).b = false → KeyAt (Since w) n w1 (fv y) (keyP lv n d l b).f)
    (ho : row.Own cV 1 W.heap.size 43 w2 (.slice (some ⟨g2, 0, none⟩) m2 c2) (ys ++ [⟨y.fn, y.caps, (keyP lv n d l b).f⟩])) (hg : w1.grownBy w2 (some g)) (hg2 : g2 = g ∨ w1.heap.size ≤ g2) :
    LS n d W p q R k (keyP lv n d l b).l (keyP lv n d l b).b (ys ++ [⟨y.fn, y.caps, (keyP lv n d l b).f⟩]) g2 m2 c2 (w2.setCell ⟨q, 0, none⟩ (.slice (some ⟨g2, 0, none⟩) m2 c2)) := by
  obtain ⟨h1, h2, h3, h4, h5, h6, h7, h8, h9, h10, h11⟩ := h
  have hK := key_sound lv n d
  have hqw := h5.lt
  have hsz := ht.2.2.2.1
  have hgw : g < w.heap.size := (h2.lt (g := g) rfl).2
  have hp := h1.1.lt
  have hne : g2 ≠ q := by
    rcases hg2 with e | e
    · omega
    · omega
  have t12 : codec.Touch (fun x => x = g) w1 w2 := ⟨hg.os, hg.tape, hg.output, hg.size, fun x hx hn => hg.block x hx (fun e => hn (by cases e; rfl))⟩
  have t23 : codec.Touch (fun x => x = q) w2 (w2.setCell ⟨q, 0, none⟩ (.slice (some ⟨g2, 0, none⟩) m2 c2)) := codec.Touch.setCell (F := fun x => x = q) (codec.Touch.refl (fun x => x = q) w2) ⟨q, 0, none⟩ (.inr rfl) _
  have hs2 := t12.2.2.2.1
  have hs3 := t23.2.2.2.1
  have hb1 : Box w1 q (.slice (some ⟨g, 0, none⟩) m c) 61 := h5.keep (ht.2.2.2.2 q hqw (by omega))
  have hb2 : Box w2 q (.slice (some ⟨g, 0, none⟩) m c) 61 := hb1.keep (t12.2.2.2.2 q (by omega) (by omega))
  refine ⟨(hs.touch t12 (fun i hi e => by omega)).touch t23 (fun i hi e => by omega), ho.touch t23 (fun x e hx => ?_), hne, ?_, ?_, ?_, h7, h8, fun hb => ?_, by rw [List.length_append, List.length_singleton]; omega, ?_⟩
  · have e2 : x = g2 := by cases e; rfl
    omega
  · rcases hg2 with e | e <;> omega
  · unfold Box at hb2 ⊢
    rw [heap_setCell_same w2 q 0 _ _ _ hb2]
    rfl
  · refine ⟨by rw [t23.1, t12.1, ht.1, h6.1], by rw [t23.2.1, t12.2.1, ht.2.1, h6.2.1], by rw [t23.2.2.1, t12.2.2.1, ht.2.2.1, h6.2.2.1], by have := h6.2.2.2.1; omega, fun x hx hn => ?_⟩
    have hx0 := h6.2.2.2.1
    rw [t23.2.2.2.2 x (by omega) (by omega), t12.2.2.2.2 x (by omega) (by omega), ht.2.2.2.2 x (by omega) hn]
    exact h6.2.2.2.2 x hx hn
  · have hb0 := hK.good _ _ hb
    have hl := hK.less l b hb
    have h90 := h9 hb0
    refine ⟨by omega, fun z hz => ?_⟩
    rcases List.mem_append.1 hz with hz | hz
    · refine (h90.2 z hz).keep (fun x hx hxs => ?_) (by omega) (fun x hx hxs => ⟨hx.1, hx.2.1, ?_⟩)
      · rw [t23.2.2.2.2 x (by omega) hx.2.1, t12.2.2.2.2 x (by omega) hx.2.2, ht.2.2.2.2 x hxs (by have := hx.1; omega)]
      · rcases hg2 with e | e
        · rw [e]; exact hx.2.2
        · omega
    · rw [List.mem_singleton.1 hz]
      refine (hk hb).keep (fun x hx hxs => ?_) (by omega) (fun x hx hxs => ⟨?_, ?_, ?_⟩)
      · have hx1 : w.heap.size ≤ x := hx
        rw [t23.2.2.2.2 x (by omega) (by omega), t12.2.2.2.2 x (by omega) (by omega)]
      · have hx1 : w.heap.size ≤ x := hx
        have := h6.2.2.2.1
        omega
      · have hx1 : w.heap.size ≤ x := hx
        omega
      · have hx1 : w.heap.size ≤ x := hx
        rcases hg2 with e | e <;> omega
  · rw [h11, loop_next k _ hgo]
    congr 1
    funext m
    simp [List.all_append]
/-- The first key. -/
theorem LS.first {n d : Nat} {W : World} {p : Nat} {l : List Tk} {b : Bool} {w1 : World} {y : Vk} (hl : l.length ≤ 200) (hpW : p < W.heap.size)
    (hs : ST w1 p (keyP lv n d l b).l (keyP lv n d l b).b) (ht : codec.Touch (· = p) W w1) (hk : (keyP lv n d l b).b = false → KeyAt (Since W) n w1 (fv y) (keyP lv n d l b).f) :
    LS n d W p (w1.heap.size + 1) (keysOf (keyP lv n d) l b) 200 (keyP lv n d l b).l (keyP lv n d l b).b [⟨y.fn, y.caps, (keyP lv n d l b).f⟩] w1.heap.size 1 1 ((w1.alloc (.cells #[fv y] 43)).alloc (.cells #[.slice (some ⟨w1.heap.size, 0, none⟩) 1 1] 61)) := by
  have hK := key_sound lv n d
  have hsz := ht.2.2.2.1
  have e1 : (w1.alloc (.cells #[fv y] 43)).heap[w1.heap.size]? = some (.cells #[fv y] 43 (0, 0)) := heap_alloc_new _ _
  have hb : Below w1.heap.size w1 ((w1.alloc (.cells #[fv y] 43)).alloc (.cells #[.slice (some ⟨w1.heap.size, 0, none⟩) 1 1] 61)) := ((Below.refl _ _).alloc (Nat.le_refl _) _).alloc (by rw [size_alloc]; omega) _
  have e2 : ((w1.alloc (.cells #[fv y] 43)).alloc (.cells #[.slice (some ⟨w1.heap.size, 0, none⟩) 1 1] 61)).heap[w1.heap.size]? = some (.cells #[fv y] 43 (0, 0)) := by
    rw [alloc_keeps _ _ _ (by rw [size_alloc]; omega)]; exact e1
  refine ⟨hs.below hb, ⟨rfl, .inr ⟨w1.heap.size, 1, #[fv y], rfl, hsz, e2, Nat.le_refl _, by decide, rfl, rfl⟩⟩, by omega, hsz, ?_, touch_trans ht (below_touch _ hb), by omega, hpW, fun hb0 => ⟨?_, fun z hz => ?_⟩, rfl, ?_⟩
  · have := box_new (w1.alloc (.cells #[fv y] 43)) (.slice (some ⟨w1.heap.size, 0, none⟩) 1 1) 61
    rw [size_alloc] at this
    exact this
  · have := hK.less l b hb0
    omega
  · rw [List.mem_singleton.1 hz]
    refine (hk hb0).keep (fun x hx hxs => hb.block x hxs) hb.size (fun x hx hxs => ⟨hx, ?_, ?_⟩) <;> omega
  · unfold keysOf
    congr 1
    funext m
    simp
end Go.Proofs.YtcepcamedmiinaaGreatDoor.sea
