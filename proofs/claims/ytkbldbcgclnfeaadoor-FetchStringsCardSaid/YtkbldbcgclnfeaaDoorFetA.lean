/- A string of an answer as the program makes it: whether quotes may hold it, and in quotes. -/
import Derived.Test.YtkbldbcgclnfeaaDoorLexA
import Derived.Test.YtkbldbcgclnfeaaDoorFetM
import Derived.Lib.AppendStr
import Derived.Lib.UnsafeStr
import Derived.OwnWalk
import Derived.Laws.OwnMore
import Derived.Laws.IdiomStrings
namespace Go.Proofs.YtkbldbcgclnfeaaDoor.fet
open Go.ChangeShapes hiding strOf
open Go.WideShapes Go.ChangeAt Go.RowKit
open Go.Lib (byteCells)
open Go.Proofs.YtkbldbcgclnfeaaDoor.lx
set_option linter.unusedVariables false
set_option linter.unusedSimpArgs false
set_option maxRecDepth 100000

theorem info5 : ∃ i, Tryd.prog.info? 5 = some i ∧ i.zero = some (.int .u8 0) ∧ i.size = 1 ∧ i.bytes = 1 := by
  have h : (Tryd.prog.info? 5).map (fun i => (i.zero, i.size, i.bytes)) = some (some (.int .u8 0), 1, 1) := by kernel_rfl
  cases hq : Tryd.prog.info? 5 with
  | none => rw [hq] at h; cases h
  | some i =>
    rw [hq] at h
    simp only [Option.map_some, Option.some.injEq, Prod.mk.injEq] at h
    exact ⟨i, rfl, h.1, h.2.1, h.2.2⟩
theorem str_append (a b : List Nat) : strOf a ++ strOf b = strOf (a ++ b) := by
  apply ByteArray.ext
  rw [ByteArray.data_append]
  simp [strOf]
theorem cat_run (a b : List Nat) (hl : a.length + b.length ≤ 9000000) (X Y Z : ByteArray) (hX : X = strOf a) (hY : Y = strOf b) (hZ : Z = strOf (a ++ b)) : ∀ w, (Op.stringOp .add X Y).run Tryd.prog w = .ok (.string Z) w := fun w => by
  rw [hX, hY, hZ, ← str_append]
  exact run_string_add_sum w _ _ (by rw [strOf_size, strOf_size]; omega)
theorem strOf_bytes (s : ByteArray) : ∃ T : List Nat, s = strOf T ∧ ∀ x ∈ T, x < 256 := by
  refine ⟨s.data.toList.map UInt8.toNat, ?_, fun x hx => ?_⟩
  · apply ByteArray.ext
    unfold strOf
    simp only [List.map_map]
    have e : (UInt8.ofNat ∘ UInt8.toNat) = id := by funext x; simp
    rw [e, List.map_id]
  · obtain ⟨y, -, rfl⟩ := List.mem_map.1 hx
    exact UInt8.toNat_lt y
theorem char_at {S : ByteArray} {l : List Nat} (hS : S = strOf l) (hl : ∀ x ∈ l, x < 256) {k : Nat} (hk : k < S.size) : ∃ x, l[k]? = some x ∧ x < 256 ∧ (S[k]'hk).toNat = x := by
  subst hS
  have h1 : k < l.length := by rw [strOf_size] at hk; exact hk
  refine ⟨l[k], List.getElem?_eq_getElem h1, hl _ (List.getElem_mem h1), ?_⟩
  rw [byt_at]
  exact byt_strOf hl (List.getElem?_eq_getElem h1)
/-- The slice v holds the bytes l, in a block of the call's own. -/
def Bu (W0 : World) (B : Nat) (v : Value) (l : List Nat) (w : World) : Prop := w.ownsRow B 5 1 v l.length (byteCells (octs l)) ∧ Below B W0 w ∧ B ≤ w.heap.size
theorem Bu.grown {W0 w w' : World} {B : Nat} {v v' : Value} {l l' : List Nat} (h : Bu W0 B v l w) (ho : w'.ownsRow B 5 1 v' l'.length (byteCells (octs l'))) (hg : w.grownBy w' v.ownBlock) : Bu W0 B v' l' w' :=
  ⟨ho, h.2.1.grown hg h.2.2 (fun k hk => (h.1.lt k hk).1), Nat.le_trans h.2.2 hg.size⟩
theorem cells_one (l : List UInt8) : ∀ u ∈ byteCells l, u.oneCell' = true := by
  intro u hu
  simp only [byteCells, List.mem_map] at hu
  obtain ⟨b, -, rfl⟩ := hu
  rfl
theorem octs_append (a b : List Nat) : octs (a ++ b) = octs a ++ octs b := by simp [octs]
theorem octs_length (a : List Nat) : (octs a).length = a.length := by simp [octs]
/-- A byte that the statement itself has laid. -/
theorem step_lit {ops : Array Oper} {rest : List Oper} {o : Oper} {a : Act} {Q : Exit → Act → World → Prop} (hgd : o.guard = none) (s x : Operand)
    (ho : o.op = .call { callee := .builtin .append, args := #[s, x], argTypes := #[27, 27] })
    (W0 w0 : World) (B : Nat) (v : Value) (l : List Nat) (c : Nat) (cs : Array Value) (hc : c < 256) (hcs : cs = #[.int .u8 (c : Nat)]) (hb : Bu W0 B v l w0) (hs : a.eval s = v)
    (hx : a.eval x = .slice (some ⟨w0.heap.size, 0, none⟩) 1 1) (hl : l.length ≤ 100000000)
    (h : ∀ v' w', Bu W0 B v' (l ++ [c]) w' → wpList Tryd.prog ops Q rest (a.put o.dst v') w') : wpList Tryd.prog ops Q (o :: rest) a (w0.alloc (.cells cs 5)) := by
  subst hcs
  obtain ⟨i, h1, h2, h3, h4⟩ := info5
  have hb1 : (w0.alloc (.cells #[.int .u8 (c : Nat)] 5)).ownsRow B 5 1 v l.length (byteCells (octs l)) := hb.1.alloc _
  have hB2 : Below B W0 (w0.alloc (.cells #[.int .u8 (c : Nat)] 5)) := hb.2.1.alloc hb.2.2 _
  have hB3 : B ≤ (w0.alloc (.cells #[.int .u8 (c : Nat)] 5)).heap.size := Nat.le_trans hb.2.2 ((Below.refl 0 w0).alloc (Nat.zero_le _) _).size
  refine wpList_append_own _ hgd s x 27 ho B 5 i (.int .u8 0) 1 1 Tryd.underlying27 h1 h2 h3 h4 rfl (by decide) v l.length (byteCells (octs l)) hs hb1 ⟨w0.heap.size, 0, none⟩ 1 1 [.int .u8 (c : Nat)] hx rfl ?_ (by intro u hu; simp at hu; subst hu; rfl) (by unfold maxLen; omega) (by omega) hB3 ?_
  · intro j u hj
    match j, hj with
    | 0, hj => simp at hj; subst hj; simp [Addr.add]
  · intro v' w' ho' hg _
    have hB : Bu W0 B v l (w0.alloc (.cells #[.int .u8 (c : Nat)] 5)) := ⟨hb1, hB2, hB3⟩
    refine h v' w' (hB.grown ?_ hg)
    have e : byteCells (octs (l ++ [c])) = byteCells (octs l) ++ [.int .u8 (c : Nat)] := by
      simp [octs, byteCells, Nat.mod_eq_of_lt hc]
    rw [List.length_append, e]
    exact ho'
theorem Bu.text {W0 w : World} {B : Nat} {v : Value} {l : List Nat} (h : Bu W0 B v l w) (h0 : 0 < l.length) : (convert 27 9 v).run Tryd.prog w = .ok (.string (strOf l)) w := by
  obtain ⟨hl, h⟩ := h.1
  rcases h with ⟨-, h⟩ | ⟨g, cap, cur, rfl, -, hg, h2, -, h4, h5⟩
  · omega
  · have e0 : strOf l = ⟨(octs l).toArray⟩ := rfl
    have hlen := octs_length l
    rw [e0, ← hlen]
    refine Go.run_convert_bytes_back (P := Tryd.prog) w 27 9 5 ⟨g, 0, none⟩ cap (octs l) Tryd.underlying27 Tryd.underlying5 Tryd.underlying9 (fun j hj => ?_)
    have e : ((⟨g, 0, none⟩ : Addr).add j) = ⟨g, j, none⟩ := by simp [Addr.add]; intro h; exact h.symm
    rw [e]
    simp only [World.cell?, hg]
    have h6 : (cur.toList.take (l.length * 1))[j]? = some (.int .u8 ((octs l)[j].toNat : Int)) := by rw [h5]; simp [byteCells, hj]
    rw [List.getElem?_take] at h6
    split at h6
    · simpa using h6
    · cases h6
set_option maxHeartbeats 2000000 in
theorem fits_any (W : World) (S : ByteArray) (l : List Nat) (hS : S = strOf l) (hl : ∀ x ∈ l, x < 256) (hn : l.length ≤ 1000000) :
    Calls Tryd.prog 9 #[.string S] W fun e w' => e = .returned (.bool (plainL l)) ∧ w' = W := by
  have hz : S.size = l.length := by rw [hS, strOf_size]
  have HL := Lib.hid hl
  have HS := Lib.hid hS
  have HZ := Lib.hid hz
  have hn2 : S.size ≤ 1000000 := by omega
  clear hS hl hz hn
  go_enter Tryd.func9, Tryd.ntmps9
  go_wp2
  go_loop [6] (fun vi => ∃ k : Nat, k ≤ S.size ∧ vi = .int .i64 k ∧ Hid (plainL (l.take k) = true)) (fun vi => S.size - (intOf vi).toNat)
  case atStart => exact ⟨0, Nat.zero_le _, rfl, Lib.hid rfl⟩
  case round =>
    obtain ⟨k, hk, rfl, HP⟩ := hrel
    have e0 : IntKind.i64.wrap ((k : Int) + 1) = (k : Int) + 1 := IntWalk.i64_in _ (by omega)
    by_cases hlt : k < S.size
    · have hlt' : (k : Int) < (S.size : Int) := by omega
      obtain ⟨x, hx, hx2, hg⟩ := char_at HS.out HL.out hlt
      by_cases h1 : x < 32
      · have HE := Lib.hid (plain_not hx (show okB x = false by simp [okB]; omega))
        have q1 : decide (x < 32) = true := decide_eq_true h1
        have q2 : decide ((x : Int) < 32) = true := decide_eq_true (by omega)
        clear hx
        go_wp2_with fail
        go_ret
        exact ⟨by rw [HE.out]; rfl, rfl⟩
      · have q1 : decide (x < 32) = false := decide_eq_false h1
        have q2 : decide ((x : Int) < 32) = false := decide_eq_false (by omega)
        by_cases h2 : 126 < x
        · have HE := Lib.hid (plain_not hx (show okB x = false by simp [okB]; omega))
          have q3 : decide (126 < x) = true := decide_eq_true h2
          have q4 : decide ((126 : Int) < (x : Int)) = true := decide_eq_true (by omega)
          clear hx
          go_wp2_with fail
          go_ret
          exact ⟨by rw [HE.out]; rfl, rfl⟩
        · have q3 : decide (126 < x) = false := decide_eq_false h2
          have q4 : decide ((126 : Int) < (x : Int)) = false := decide_eq_false (by omega)
          have HE := Lib.hid (show plainL (l.take (k + 1)) = true by rw [plain_take hx, HP.out]; simp [okB]; omega)
          clear hx
          go_wp2_with fail
          go_round
          case rel => first | exact ⟨k + 1, by omega, by go_num, HE⟩ | ((repeat apply Exists.intro); exact ⟨⟨k + 1, by omega, by go_num, HE⟩, rfl⟩)
          case measure => (show S.size - ((k : Int) + 1).toNat < S.size - k; omega)
    · obtain rfl : k = S.size := by omega
      have HE := Lib.hid (show plainL l = true by
        have := HP.out
        rwa [List.take_of_length_le (by rw [HZ.out]; exact Nat.le_refl _)] at this)
      go_wp2_with fail
      go_ret
      exact ⟨by rw [HE.out]; rfl, rfl⟩
set_option maxHeartbeats 4000000 in
theorem quoted_any (W : World) (S : ByteArray) (l : List Nat) (hS : S = strOf l) (hl : ∀ x ∈ l, x < 256) (hn : l.length ≤ 1000000) :
    Calls Tryd.prog 10 #[.string S] W fun e w' => e = .returned (.string (strOf (quoL l))) ∧ Below W.heap.size W w' := by
  have hz : S.size = l.length := by rw [hS, strOf_size]
  have HL := Lib.hid hl
  have HS := Lib.hid hS
  have HZ := Lib.hid hz
  have hn2 : S.size ≤ 1000000 := by omega
  clear hS hl hz hn
  obtain ⟨i0, hi0, hz0, hz1, hz2⟩ := info5
  have e3 : IntKind.i64.wrap ((S.size : Int) + 2) = (S.size : Int) + 2 := IntWalk.i64_in _ (by omega)
  go_enter Tryd.func10, Tryd.ntmps10
  go_wp2_with (at_make; refine wpList_make_own W rfl _ _ 27 rfl W.heap.size 5 i0 (.int .u8 0) 1 Tryd.underlying27 hi0 hz0 hz1 _ _ _ (S.size + 2) rfl rfl ?c1 ?c2 ?c3 ?c4 ?_)
  case c1 => simp
  case c2 => rw [hz2]; omega
  case c3 => unfold maxLen; omega
  case c4 => exact Nat.le_refl _
  intro w1 hown hgrow
  have H0 : Bu W W.heap.size (.slice (some ⟨W.heap.size, 0, none⟩) 0 (S.size + 2)) [] w1 := ⟨hown, (Below.refl _ _).grown hgrow (Nat.le_refl _) (fun k hk => by cases hk), hgrow.size⟩
  have H0h := Lib.hid H0
  clear hown hgrow hi0 hz0 hz1 hz2 H0 e3
  go_wp2_with (at_builtin; refine step_lit rfl _ _ rfl W _ W.heap.size _ [] 34 _ (by decide) rfl H0h.out rfl rfl (by simp) ?_; intro v1 w2 hB1)
  have HB1 := Lib.hid (show Bu W W.heap.size v1 (34 :: esc (l.take 0)) w2 by simpa [esc] using hB1)
  clear hB1
  go_wp2_with fail
  go_loopw [3, 14] (fun v i wr => ∃ k : Nat, k ≤ S.size ∧ i = .int .i64 k ∧ Hid (Bu W W.heap.size v (34 :: esc (l.take k)) wr)) (fun _ i _ => S.size - (intOf i).toNat)
  case atStart => exact ⟨0, Nat.zero_le _, rfl, HB1⟩
  case round =>
    obtain ⟨k, hk, rfl, HB⟩ := hrel
    have e0 : IntKind.i64.wrap ((k : Int) + 1) = (k : Int) + 1 := IntWalk.i64_in _ (by omega)
    have hel : (34 :: esc (l.take k)).length ≤ 10000000 := by
      have h1 := esc_len (l.take k)
      have h2 : (l.take k).length ≤ k := by rw [List.length_take]; omega
      simp only [List.length_cons]
      omega
    have HEl := Lib.hid hel
    clear hel
    by_cases hlt : k < S.size
    · have hlt' : (k : Int) < (S.size : Int) := by omega
      obtain ⟨x, hx, hx2, hg⟩ := char_at HS.out HL.out hlt
      have HT := Lib.hid (esc_take hx)
      clear hx
      by_cases hq : x = 34 ∨ x = 92
      · have HT2 : Hid (esc (l.take (k + 1)) = esc (l.take k) ++ [92, x]) := Lib.hid (by rw [HT.out, if_pos hq])
        rcases hq with rfl | rfl
        all_goals (
          clear hx2
          go_wp2_with (at_builtin; first
            | (refine step_lit rfl _ _ rfl W _ W.heap.size _ (34 :: esc (l.take k)) 92 _ (by decide) rfl HB.out rfl rfl (by have := HEl.out; omega) ?_; intro v1 w3 hB1; have HB1b := Lib.hid hB1; clear hB1)
            | (refine step_lit rfl _ _ rfl W _ W.heap.size _ (34 :: esc (l.take k) ++ [92]) _ _ (by decide) rfl HB1b.out rfl rfl (by have := HEl.out; simp at this ⊢; omega) ?_; intro v2 w4 hB2; have HB2 := Lib.hid (show Bu W W.heap.size v2 (34 :: esc (l.take (k + 1))) w4 by rw [HT2.out]; simpa using hB2); clear hB2))
          go_roundw
          case rel => first | exact ⟨k + 1, by omega, by go_num, HB2⟩ | ((repeat apply Exists.intro); exact ⟨⟨k + 1, by omega, by go_num, HB2⟩, rfl⟩)
          case measure => (show S.size - ((k : Int) + 1).toNat < S.size - k; omega))
      · have HT2 : Hid (esc (l.take (k + 1)) = esc (l.take k) ++ [x]) := Lib.hid (by rw [HT.out, if_neg hq])
        have q1 : ((x : Int) == 34) = false := by rw [beq_eq_false_iff_ne]; omega
        have q2 : ((x : Int) == 92) = false := by rw [beq_eq_false_iff_ne]; omega
        have q3 : ¬ x = 34 := by omega
        have q4 : ¬ x = 92 := by omega
        clear hq
        go_wp2_with (at_builtin; refine step_lit rfl _ _ rfl W _ W.heap.size _ (34 :: esc (l.take k)) x _ hx2 rfl HB.out rfl rfl (by have := HEl.out; omega) ?_; intro v2 w4 hB2; have HB2 := Lib.hid (show Bu W W.heap.size v2 (34 :: esc (l.take (k + 1))) w4 by rw [HT2.out]; simpa using hB2); clear hB2)
        go_roundw
        case rel => first | exact ⟨k + 1, by omega, by go_num, HB2⟩ | ((repeat apply Exists.intro); exact ⟨⟨k + 1, by omega, by go_num, HB2⟩, rfl⟩)
        case measure => (show S.size - ((k : Int) + 1).toNat < S.size - k; omega)
    · obtain rfl : k = S.size := by omega
      have HBe := Lib.hid (show esc (l.take S.size) = esc l by rw [List.take_of_length_le (by rw [HZ.out]; exact Nat.le_refl _)])
      go_wp2_with (at_builtin; refine step_lit rfl _ _ rfl W _ W.heap.size _ (34 :: esc (l.take S.size)) 34 _ (by decide) rfl HB.out rfl rfl (by have := HEl.out; omega) ?_; intro v2 w4 hB2; have hcv := hB2.text (by simp); have HB2 := Lib.hid hB2.2.1; clear hB2)
      go_ret
      exact ⟨by rw [HBe.out]; rfl, HB2.out⟩
end Go.Proofs.YtkbldbcgclnfeaaDoor.fet
