/- What stands between signs, as the document parts it. -/
import Derived.Test.YtmooeadeihgbdaaSqN
import Derived.Test.YtmooeadeihgbdaaSqA
namespace Go.Proofs.Ytmooeadeihgbdaa.sq
open Go.ChangeShapes Go.WideShapes Go.ChangeAt Go.RowKit
open Go.Proofs.Ytmooeadeihgbdaa.row
set_option linter.unusedVariables false
set_option maxRecDepth 100000
set_option linter.unusedSimpArgs false

def cS (s : ByteArray) : List Value := [.string s]
theorem fS : Fm cS 1 := ⟨fun _ => rfl, fun y u hu => by simp [cS] at hu; subst hu; rfl⟩
theorem flS (l : List ByteArray) : fl cS l = l.map Value.string := by
  induction l with
  | nil => rfl
  | cons x r ih => rw [fl, List.flatMap_cons, List.map_cons, ← ih]; rfl
theorem infoS : (Try.prog.info? 9).map (fun i => (i.zero, i.size, i.bytes)) = some (some (.string ⟨#[]⟩), 1, 16) := by kernel_rfl
theorem own_len {α : Type} {F : α → List Value} {K B : Nat} {E : TypeId} {w : World} {A : Option Addr} {m c : Nat} {ys : List α} (h : Own F K B E w (.slice A m c) ys) : ys.length = m := by
  rcases h.2 with ⟨e, h0⟩ | ⟨g, cap, cur, e, hB, _⟩
  · simp at e
    omega
  · simp at e
    omega
theorem own_form {α : Type} {F : α → List Value} {K B : Nat} {E : TypeId} {w : World} {v : Value} {ys : List α} (h : Own F K B E w v ys) (hm : 0 < ys.length) : ∃ g c, v = .slice (some ⟨g, 0, none⟩) ys.length c ∧ B ≤ g ∧ g < w.heap.size := by
  rcases h.2 with ⟨e, h0⟩ | ⟨g, cap, cur, e, hB, hg, _⟩
  · omega
  · exact ⟨g, cap, e, hB, (Array.getElem?_eq_some_iff.1 hg).1⟩
/-- A text of the row is another one. -/
theorem own_put {B g m c k : Nat} {w : World} {ys : List ByteArray} {y' : ByteArray} (h : Own cS 1 B 9 w (.slice (some ⟨g, 0, none⟩) m c) ys) :
    Own cS 1 B 9 (w.setCell ⟨g, k, none⟩ (.string y')) (.slice (some ⟨g, 0, none⟩) m c) (ys.set k y') ∧ w.grownBy (w.setCell ⟨g, k, none⟩ (.string y')) (some g) := by
  have hlen := own_len h
  have h' : World.ownsRow w B 9 1 (.slice (some ⟨g, 0, none⟩) m c) m (fl cS ys) := hlen ▸ h
  obtain ⟨s1, s2⟩ := World.ownsRow.stored h' k (.string y')
  refine ⟨?_, s2⟩
  unfold Own
  rw [List.length_set, hlen, flS, List.map_set, ← flS]
  exact s1
theorem own_cell {B g m c k : Nat} {w : World} {ys : List ByteArray} {y : ByteArray} (h : Own cS 1 B 9 w (.slice (some ⟨g, 0, none⟩) m c) ys) (hk : ys[k]? = some y) :
    w.cell? ⟨g, k, none⟩ = some (.string y) ∧ w.frozen? ⟨g, k, none⟩ = false := by
  have hlen := own_len h
  have h' : World.ownsRow w B 9 1 (.slice (some ⟨g, 0, none⟩) m c) m (fl cS ys) := hlen ▸ h
  have hk2 := (List.getElem?_eq_some_iff.1 hk).1
  refine ⟨?_, h'.frozenAt k⟩
  rw [h'.cellAt k (by omega), flS, List.getElem?_map, hk]
  rfl
def toL (s : ByteArray) : List UInt8 := s.data.toList
/-- What has been parted, and what is left. -/
def SS (W : World) (c : UInt8) (s : ByteArray) (k : Nat) (ps : List ByteArray) (cur : ByteArray) (v : Value) (w : World) : Prop :=
  Own cS 1 W.heap.size 9 w v (ps ++ [cur]) ∧ Below W.heap.size W w ∧ ps.length ≤ k ∧ cur.size ≤ k ∧
  splitC c (toL s) = ps.map toL ++ ((toL cur ++ (splitC c ((toL s).drop k)).headD []) :: (splitC c ((toL s).drop k)).tail)
theorem toL_add (a s : ByteArray) (k : Nat) (b : UInt8) (hb : (toL s)[k]? = some b) : toL (a ++ s.extract k (k + 1)) = toL a ++ [b] := by
  unfold toL at *
  rw [ByteArray.data_append, Array.toList_append, ByteArray.data_extract, Array.toList_extract]
  congr 1
  have h1 := (List.getElem?_eq_some_iff.1 hb).1
  have h2 := (List.getElem?_eq_some_iff.1 hb).2
  simp only [List.extract_eq_take_drop]
  rw [List.drop_eq_getElem_cons h1, h2, show k + 1 - k = 1 by omega]
  rfl
theorem split_same {c b : UInt8} {l : List UInt8} {k : Nat} (h : l[k]? = some b) (hb : b = c) : splitC c (l.drop k) = [] :: splitC c (l.drop (k + 1)) := by
  obtain ⟨h1, h2⟩ := List.getElem?_eq_some_iff.1 h
  rw [List.drop_eq_getElem_cons h1, h2, splitC, if_pos hb]
theorem split_other {c b : UInt8} {l : List UInt8} {k : Nat} (h : l[k]? = some b) (hb : b ≠ c) : splitC c (l.drop k) = (b :: (splitC c (l.drop (k + 1))).headD []) :: (splitC c (l.drop (k + 1))).tail := by
  obtain ⟨h1, h2⟩ := List.getElem?_eq_some_iff.1 h
  rw [List.drop_eq_getElem_cons h1, h2, splitC, if_neg hb]
theorem head_tail {α : Type} {l : List α} (h : l ≠ []) (d : α) : l.headD d :: l.tail = l := by
  cases l with
  | nil => exact absurd rfl h
  | cons a r => rfl
/-- What parting answers. -/
def SplitAns (W : World) (c : UInt8) (s : ByteArray) (e : Ending) (w' : World) : Prop :=
  ∃ A c' ps, e = .returned (.slice A ps.length c') ∧ Rd cS 1 w' A ps.length ps ∧ ps.map toL = splitC c (toL s) ∧ Below W.heap.size W w'
set_option maxHeartbeats 4000000 in
theorem split_any (W : World) (s : ByteArray) (c : UInt8) (hs : s.size ≤ 1000000) :
    Calls Try.prog 15 #[.string s, .int .u8 (c.toNat : Nat)] W fun e w' => SplitAns W c s e w' := by
  have HS0 := Lib.hid (show SS W c s 0 [] ⟨#[]⟩ (.slice (some ⟨W.heap.size, 0, none⟩) 1 1) (W.alloc (.cells #[.string ⟨#[]⟩] 9)) from
    ⟨World.ownsRow_lit W #[.string ⟨#[]⟩] 1 (Nat.le_refl _) (by decide) rfl, (Below.refl _ _).alloc (Nat.le_refl _) _, Nat.le_refl _, Nat.le_refl _, by
      rw [List.drop_zero, List.map_nil, List.nil_append, show toL ⟨#[]⟩ = [] from rfl, List.nil_append, head_tail (splitC_ne _ _)]⟩)
  obtain ⟨cn, hcn⟩ : ∃ cn, cn = c.toNat := ⟨_, rfl⟩
  rw [← hcn]
  have HCn := Lib.hid hcn
  clear hcn
  go_enter Try.func15, Try.ntmps15
  go_wp2
  go_loopw [5, 10] (fun v i wr => ∃ (k : Nat) (ps : List ByteArray) (cur : ByteArray), k ≤ s.size ∧ i = .int .i64 k ∧ Hid (SS W c s k ps cur v wr)) (fun _ i _ => s.size - (intOf i).toNat)
  case atStart => exact ⟨0, [], ⟨#[]⟩, Nat.zero_le _, rfl, HS0⟩
  case round =>
    obtain ⟨k, ps, cur, hk, rfl, HS⟩ := hrel
    by_cases hkl : k < s.size
    · obtain ⟨b, hb, hbb⟩ := byt_some s k hkl
      have e1 : (s[k]).toNat = b.toNat := by rw [byt_at, hbb]
      have HBt := Lib.hid (show (toL s)[k]? = some b from hb)
      obtain ⟨bn, hbn⟩ : ∃ bn, bn = b.toNat := ⟨_, rfl⟩
      rw [← hbn] at e1
      have hO := HS.out.1
      have HB := Lib.hid HS.out.2.1
      obtain ⟨n1, hn1⟩ : ∃ n1, n1 = ps.length + 1 := ⟨_, rfl⟩
      obtain ⟨g, cp, hv, hg, hgl⟩ := own_form hO (by rw [List.length_append]; simp)
      rw [show (ps ++ [cur]).length = n1 by rw [List.length_append, hn1]; rfl] at hv
      subst hv
      have HO := Lib.hid hO
      have HK := Lib.hid (show ps.length ≤ k from HS.out.2.2.1)
      have HKc := Lib.hid (show cur.size ≤ k from HS.out.2.2.2.1)
      by_cases hbc : b = c
      · have q1 : ((bn : Int) == (cn : Int)) = true := by rw [beq_iff_eq, hbn, HCn.out, hbc]
        have HSp := Lib.hid (show splitC c (toL s) = (ps ++ [cur]).map toL ++ ((toL ⟨#[]⟩ ++ (splitC c ((toL s).drop (k + 1))).headD []) :: (splitC c ((toL s).drop (k + 1))).tail) by
          rw [HS.out.2.2.2.2, split_same HBt.out hbc, List.map_append]
          show ps.map toL ++ ((toL cur ++ []) :: splitC c ((toL s).drop (k + 1))) = _
          rw [show toL ⟨#[]⟩ = [] from rfl, List.nil_append, head_tail (splitC_ne _ _), List.append_nil, List.append_assoc]
          rfl)
        have HL : Hid ((ps ++ [cur]).length ≤ 20000000) := Lib.hid (by rw [List.length_append]; have := HK.out; simp; omega)
        have HKk := Lib.hid (show (ps ++ [cur]).length ≤ k + 1 by rw [List.length_append]; have := HK.out; simp; omega)
        clear hb hbb hbn hbc hn1 hO
        go_wp2_with (at_builtin; refine row.wpList_append_own fS (by decide) (by decide) (by_ := 16) (by decide) (z := .string ⟨#[]⟩) rfl rfl (.tmp 18) (.tmp 19) 44 9 rfl Try.underlying44 infoS W.heap.size (.slice (some ⟨g, 0, none⟩) n1 cp) _ rfl HO.out HB.out.size HL.out ⟨#[]⟩ (0, 0) _ (by simp) rfl _ rfl ?_; intro v1 w1 ho hgr h3; have HS1 := Lib.hid (show SS W c s (k + 1) (ps ++ [cur]) ⟨#[]⟩ v1 w1 from ⟨ho, grown_below HB.out HO.out hgr, HKk.out, Nat.zero_le _, HSp.out⟩); clear ho hgr h3)
        go_roundw
        case rel => first | exact ⟨k + 1, ps ++ [cur], ⟨#[]⟩, by omega, by go_num, HS1⟩ | ((repeat apply Exists.intro); exact ⟨⟨k + 1, ps ++ [cur], ⟨#[]⟩, by omega, by go_num, HS1⟩, rfl⟩)
        case measure => (show s.size - ((k : Int) + 1).toNat < s.size - k; omega)
      · have q1 : ((bn : Int) == (cn : Int)) = false := by
          rw [beq_eq_false_iff_ne, hbn, HCn.out]
          exact fun h => hbc (UInt8.toNat.inj (by omega))
        obtain ⟨p, hp⟩ : ∃ p, p = ps.length := ⟨_, rfl⟩
        have HSp := Lib.hid (show splitC c (toL s) = ps.map toL ++ ((toL (cur ++ s.extract k (k + 1)) ++ (splitC c ((toL s).drop (k + 1))).headD []) :: (splitC c ((toL s).drop (k + 1))).tail) by
          rw [HS.out.2.2.2.2, split_other HBt.out hbc, toL_add _ _ _ _ HBt.out]
          simp)
        have HPut := Lib.hid (own_put (k := p) (y' := cur ++ s.extract k (k + 1)) hO)
        obtain ⟨d0, z0⟩ := own_cell (k := p) (y := cur) hO (by rw [hp, List.getElem?_append_right (Nat.le_refl _), Nat.sub_self]; rfl)
        have HEq := Lib.hid (show (ps ++ [cur]).set p (cur ++ s.extract k (k + 1)) = ps ++ [cur ++ s.extract k (k + 1)] by rw [hp, List.set_append_right _ _ (Nat.le_refl _), Nat.sub_self]; rfl)
        have HCs := Lib.hid (show (cur ++ s.extract k (k + 1)).size ≤ k + 1 by rw [ByteArray.size_append, ByteArray.size_extract]; have := HKc.out; omega)
        have HS1 := Lib.hid (show SS W c s (k + 1) ps (cur ++ s.extract k (k + 1)) (.slice (some ⟨g, 0, none⟩) n1 cp) (wr.setCell ⟨g, p, none⟩ (.string (cur ++ s.extract k (k + 1)))) from ⟨by rw [← HEq.out]; exact HPut.out.1, HB.out.setCell (p := ⟨g, p, none⟩) hg _, by have := HK.out; omega, HCs.out, HSp.out⟩)
        have hpn : (p : Int) < (n1 : Int) := by omega
        have e2 : IntKind.i64.wrap ((n1 : Int) - 1) = (p : Int) := (IntWalk.i64_in _ (by have := HK.out; omega)).trans (by omega)
        have e3 : IntKind.i64.wrap ((k : Int) + 1) = (k : Int) + 1 := IntWalk.i64_in _ (by omega)
        have hk1 : (k : Int) + 1 ≤ (s.size : Int) := by omega
        have t1 : ((k : Int) + 1).toNat = k + 1 := by omega
        have b1 : (0 : Int) ≤ (k : Int) + 1 := by omega
        have hcat : ∀ w, (Op.stringOp .add cur (s.extract k (k + 1))).run Try.prog w = .ok (.string (cur ++ s.extract k (k + 1))) w := fun w => run_string_add_sum w _ _ (by
          have h1 := HKc.out
          have h2 : (s.extract k (k + 1)).size ≤ 1 := by rw [ByteArray.size_extract]; omega
          omega)
        have b2 : (k : Int) ≤ (k : Int) + 1 := by omega
        clear hb hbb hbn hbc hn1 hO hp
        go_wp2_with fail
        go_still_tail 16, (by kernel_rfl)
        clear e2 e3 t1 b1 b2 hk1 hcat
        go_wp2_with fail
        have HS2 := Lib.hid (show SS W c s (k + 1) ps (cur ++ s.extract k (k + 1)) (.slice (some ⟨g, 0, none⟩) n1 cp) (wr.setCell ⟨g, p, none⟩ (.string (cur ++ s.extract k (k + 1)))).drew from ⟨HS1.out.1.below (codec.below_draws (Below.refl _ _) 1), codec.below_draws HS1.out.2.1 1, HS1.out.2.2⟩)
        go_roundw
        case rel => first | exact ⟨k + 1, ps, cur ++ s.extract k (k + 1), by omega, by go_num, HS2⟩ | ((repeat apply Exists.intro); exact ⟨⟨k + 1, ps, cur ++ s.extract k (k + 1), by omega, by go_num, HS2⟩, rfl⟩)
        case measure => (show s.size - ((k : Int) + 1).toNat < s.size - k; omega)
    · obtain rfl : k = s.size := by omega
      have HE := Lib.hid HS.out.2.2.2.2
      have hO := HS.out.1
      have HB := Lib.hid HS.out.2.1
      obtain ⟨A, c', rfl, _, _, hR⟩ := hO.rd fS
      have HR := Lib.hid hR
      have HN := Lib.hid (show (ps ++ [cur]).map toL = splitC c (toL s) by
        rw [HE.out, List.drop_of_length_le (by rw [show (toL s).length = s.size from len_eq s]; exact Nat.le_refl _)]
        show _ = ps.map toL ++ ((toL cur ++ []) :: [])
        rw [List.append_nil, List.map_append]
        rfl)
      clear hO hR
      go_wp2
      go_ret
      exact ⟨A, c', _, rfl, HR.out, HN.out, HB.out⟩
end Go.Proofs.Ytmooeadeihgbdaa.sq
