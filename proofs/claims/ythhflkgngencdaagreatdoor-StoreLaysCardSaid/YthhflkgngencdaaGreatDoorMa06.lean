/- A time's text, as the program writes it. -/
import Derived.Test.YthhflkgngencdaaGreatDoorMa05
import Derived.Lib.AppendStr
import Derived.OwnWalk
import Derived.Laws.OwnMore
import Derived.Laws.IdiomStrings
import Derived.Lib.AppendIntMem
import Derived.Test.YthhflkgngencdaaGreatDoorMa02
import Derived.Test.YthhflkgngencdaaGreatDoorMa03
import Derived.Test.YthhflkgngencdaaGreatDoorMa04
import Derived.Lib.LaidTab
namespace Go.Proofs.YthhflkgngencdaaGreatDoor.dat
open Go.ChangeShapes Go.WideShapes Go.ChangeAt Go.RowKit
open Go.Lib (dg itoa byteCells strCells)
set_option linter.unusedVariables false
set_option linter.unusedSimpArgs false

theorem info5 : ∃ i, Tryz.prog.info? 5 = some i ∧ i.zero = some (.int .u8 0) ∧ i.size = 1 ∧ i.bytes = 1 := by
  have h : (Tryz.prog.info? 5).map (fun i => (i.zero, i.size, i.bytes)) = some (some (.int .u8 0), 1, 1) := by kernel_rfl
  cases hq : Tryz.prog.info? 5 with
  | none => rw [hq] at h; cases h
  | some i =>
    rw [hq] at h
    simp only [Option.map_some, Option.some.injEq, Prod.mk.injEq] at h
    exact ⟨i, rfl, h.1, h.2.1, h.2.2⟩
/-- The slice v holds the bytes l, in a block of the call's own. -/
def Bu (W0 : World) (B : Nat) (v : Value) (l : List UInt8) (w : World) : Prop := w.ownsRow B 5 1 v l.length (byteCells l) ∧ Below B W0 w ∧ B ≤ w.heap.size
theorem Bu.grown {W0 w w' : World} {B : Nat} {v v' : Value} {l l' : List UInt8} (h : Bu W0 B v l w) (ho : w'.ownsRow B 5 1 v' l'.length (byteCells l')) (hg : w.grownBy w' v.ownBlock) : Bu W0 B v' l' w' :=
  ⟨ho, h.2.1.grown hg h.2.2 (fun k hk => (h.1.lt k hk).1), Nat.le_trans h.2.2 hg.size⟩
theorem Bu.alloc {W0 w : World} {B : Nat} {v : Value} {l : List UInt8} (h : Bu W0 B v l w) (o : Obj) : Bu W0 B v l (w.alloc o) :=
  ⟨h.1.alloc o, h.2.1.alloc h.2.2 o, Nat.le_trans h.2.2 ((Below.refl 0 w).alloc (Nat.zero_le _) o).size⟩
theorem Bu.made (w : World) (cur : Array Value) (cap : Nat) (hm : cap ≤ maxLen) (hs : cur.size = cap * 1) : Bu w w.heap.size (.slice (some ⟨w.heap.size, 0, none⟩) 0 cap) [] (w.alloc (.cells cur 5)) :=
  ⟨World.ownsRow_made w cur cap (Nat.le_refl _) hm hs, (Below.refl _ _).alloc (Nat.le_refl _) _, by simp⟩
theorem cells_one (l : List UInt8) : ∀ u ∈ byteCells l, u.oneCell' = true := by
  intro u hu
  simp only [byteCells, List.mem_map] at hu
  obtain ⟨b, -, rfl⟩ := hu
  rfl
/-- Bytes that the statement itself has laid. -/
theorem step_lit {ops : Array Oper} {rest : List Oper} {o : Oper} {a : Act} {Q : Exit → Act → World → Prop} (hgd : o.guard = none) (s x : Operand)
    (ho : o.op = .call { callee := .builtin .append, args := #[s, x], argTypes := #[40, 40] })
    (W0 w0 : World) (B : Nat) (v : Value) (l new : List UInt8) (cs : Array Value) (m : Nat) (hcs : cs = (byteCells new).toArray) (hm : m = new.length) (hb : Bu W0 B v l w0) (hs : a.eval s = v)
    (hx : a.eval x = .slice (some ⟨w0.heap.size, 0, none⟩) m m) (hl : l.length + new.length ≤ 1000)
    (h : ∀ v' w', Bu W0 B v' (l ++ new) w' → wpList Tryz.prog ops Q rest (a.put o.dst v') w') : wpList Tryz.prog ops Q (o :: rest) a (w0.alloc (.cells cs 5)) := by
  subst hcs
  subst hm
  obtain ⟨i, h1, h2, h3, h4⟩ := info5
  have hb' := hb.alloc (.cells (byteCells new).toArray 5)
  refine wpList_append_own _ hgd s x 40 ho B 5 i (.int .u8 0) 1 1 Tryz.underlying40 h1 h2 h3 h4 rfl (by decide) v l.length (byteCells l) hs hb'.1 ⟨w0.heap.size, 0, none⟩ new.length new.length (byteCells new) hx (by simp [byteCells]) ?_ (cells_one _) (by unfold maxLen; omega) (by omega) hb'.2.2 ?_
  · intro j u hu
    have e : ((⟨w0.heap.size, 0, none⟩ : Addr).add j) = ⟨w0.heap.size, j, none⟩ := by simp [Addr.add]; intro h; exact h.symm
    rw [e]
    simp only [World.cell?]
    rw [heap_alloc_new]
    simpa using hu
  · intro v' w' ho' hg _
    refine h v' w' (hb'.grown ?_ hg)
    rw [List.length_append]
    simpa [byteCells] using ho'
/-- A text's bytes. -/
theorem step_str {ops : Array Oper} {rest : List Oper} {o : Oper} {a : Act} {Q : Exit → Act → World → Prop} {w : World} (hgd : o.guard = none) (s x : Operand)
    (ho : o.op = .call { callee := .builtin .append, args := #[s, x], argTypes := #[40, 9] })
    (W0 : World) (B : Nat) (v : Value) (l new : List UInt8) (hb : Bu W0 B v l w) (hs : a.eval s = v) (hx : a.eval x = .string ⟨new.toArray⟩) (hl : l.length + new.length ≤ 1000)
    (h : ∀ v' w', Bu W0 B v' (l ++ new) w' → wpList Tryz.prog ops Q rest (a.put o.dst v') w') : wpList Tryz.prog ops Q (o :: rest) a w := by
  obtain ⟨i, h1, h2, h3, h4⟩ := info5
  have hz : (⟨new.toArray⟩ : ByteArray).size = new.length := rfl
  refine Lib.wpList_append_own_string w hgd s x 40 9 ho B 5 i Tryz.underlying40 Tryz.underlying9 h1 h2 h3 h4 v l.length (byteCells l) hs hb.1 ⟨new.toArray⟩ hx (by rw [hz]; unfold maxLen; omega) (by rw [hz]; omega) hb.2.2 ?_
  intro v' w' ho' hg _
  refine h v' w' (hb.grown ?_ hg)
  rw [List.length_append]
  rw [hz, Lib.strCells_toArray] at ho'
  simpa [byteCells] using ho'
theorem Bu.text {W0 w : World} {B : Nat} {v : Value} {l : List UInt8} (h : Bu W0 B v l w) (h0 : 0 < l.length) : (convert 40 9 v).run Tryz.prog w = .ok (.string ⟨l.toArray⟩) w := by
  obtain ⟨hl, h⟩ := h.1
  rcases h with ⟨-, h⟩ | ⟨g, cap, cur, rfl, -, hg, h2, -, h4, h5⟩
  · omega
  · refine Go.run_convert_bytes_back (P := Tryz.prog) w 40 9 5 ⟨g, 0, none⟩ cap l Tryz.underlying40 Tryz.underlying5 Tryz.underlying9 (fun j hj => ?_)
    have e : ((⟨g, 0, none⟩ : Addr).add j) = ⟨g, j, none⟩ := by simp [Addr.add]; intro h; exact h.symm
    rw [e]
    simp only [World.cell?, hg]
    have h6 : (cur.toList.take (l.length * 1))[j]? = some (.int .u8 (l[j].toNat : Int)) := by rw [h5]; simp [byteCells, hj]
    rw [List.getElem?_take] at h6
    split at h6
    · simpa using h6
    · cases h6

theorem two_any (W0 w : World) (B : Nat) (v : Value) (l : List UInt8) (n : Nat) (hn : n < 100) (hl : l.length ≤ 100) (hb : Bu W0 B v l w) :
    Calls Tryz.prog 269 #[v, .int .i64 n] w fun e w' => ∃ v', e = .returned v' ∧ Bu W0 B v' (l ++ two n) w' := by
  have hd := fun w => digit_any w n (by omega)
  have hq : ((48 : Int) + (n : Int) / 10) = ((dg n 1).toNat : Int) := by rw [dg_nat, show 10 ^ 1 = 10 from rfl]; omega
  obtain ⟨x, hx⟩ : ∃ x, dg n 0 = x := ⟨_, rfl⟩
  obtain ⟨y, hy⟩ : ∃ y, dg n 1 = y := ⟨_, rfl⟩
  have e : two n = [y, x] := by unfold two; rw [hx, hy]
  rw [e]
  rw [hx] at hd
  rw [hy] at hq
  have HQ := Lib.hid hq
  have HB := Lib.hid hb
  clear hx hy e hq hb
  go_enter Tryz.func269, Tryz.ntmps269
  go_wp2_with (first | (go_at_call 266; refine (hd _).mono ?_; rintro e w' ⟨rfl, rfl⟩) | (at_builtin; refine step_lit rfl _ _ rfl W0 _ B v l [y, x] _ 2 (by rw [HQ.out]; rfl) rfl HB.out rfl rfl (by simp; omega) ?_; intro v1 w1 hB1))
  go_ret
  exact ⟨_, rfl, hB1⟩
end Go.Proofs.YthhflkgngencdaaGreatDoor.dat
namespace Go.Proofs.YthhflkgngencdaaGreatDoor.dat
open Go.ChangeShapes Go.WideShapes Go.ChangeAt Go.RowKit
open Go.Lib (dg itoa byteCells strCells)
set_option linter.unusedVariables false
set_option linter.unusedSimpArgs false

/-- What the library's decimal numeral asks of its own table. -/
def Tens (w : World) : Prop := Lib.TabBelow Tryz.prog w.heap.size w "internal/strconv.uint64pow10" .u64 Lib.pow10Tab
theorem Tens.on {w w' : World} (h : Tens w) (hb : Below w.heap.size w w') : Lib.TabBelow Tryz.prog w.heap.size w' "internal/strconv.uint64pow10" .u64 Lib.pow10Tab := Lib.TabBelow.on h hb
theorem itoa_step (W0 w : World) (v : Value) (l : List UInt8) (Y : Nat) (h0 : 1000 ≤ Y) (h1 : Y ≤ 9999) (hl : l.length ≤ 100) (hb : Bu W0 W0.heap.size v l w) (ht : Tens W0) :
    Calls Tryz.prog 268 #[v, .int .i64 Y, .int .i64 10] w fun e w' => ∃ v', e = .returned v' ∧ Bu W0 W0.heap.size v' (l ++ four Y) w' := by
  have hi := itoa_four h0 h1
  refine (Tryz.strconv_AppendInt_10 W0.heap.size l.length Y (by omega) (by omega) v (byteCells l) w hb.1 hb.2.2 (by omega) (ht.on hb.2.1)).mono ?_
  rintro e w' ⟨v', rfl, ho, hbl, -⟩
  rw [hi] at ho
  refine ⟨v', rfl, ?_, hb.2.1.trans hbl, Nat.le_trans hb.2.2 hbl.size⟩
  rw [List.length_append]
  simpa [byteCells] using ho
theorem print_none (w : World) (t : Int) (h : ¬ (0 ≤ t ∧ t ≤ 253402300799)) :
    Calls Tryz.prog 244 #[.int .i64 t] w fun e w' => e = .returned (.string ⟨#[]⟩) ∧ Below w.heap.size w w' := by
  have hi := fun w => isTime_any w t
  rw [decide_eq_false h] at hi
  go_enter Tryz.func244, Tryz.ntmps244
  go_wp2_with (go_at_call 263; refine (hi _).mono ?_; rintro e w' ⟨rfl, rfl⟩)
  go_ret
  exact ⟨rfl, Below.refl _ _⟩
theorem make26 (w : World) : ∃ w2, (Instr.makeSlice 40 (.int .i64 0) (.int .i64 26)).run Tryz.prog w = .ok (.slice (some ⟨w.heap.size, 0, none⟩) 0 26) w2 ∧ Bu w w.heap.size (.slice (some ⟨w.heap.size, 0, none⟩) 0 26) [] w2 := by
  obtain ⟨i, h1, h2, h3, h4⟩ := info5
  obtain ⟨w2, hr, ho, hg⟩ := run_makeSlice_owned w w.heap.size 40 5 i (.int .u8 0) 1 Tryz.underlying40 h1 h2 h3 .i64 .i64 26 (by omega) (by omega) (by unfold maxLen; omega) (Nat.le_refl _)
  exact ⟨w2, hr, ho, (Below.refl _ _).grown hg (Nat.le_refl _) (fun k hk => by cases hk), hg.size⟩
set_option maxHeartbeats 1600000 in
theorem print_any (w : World) (t Y M D : Nat) (h1 : t ≤ 253402300799) (hc : Civ ((t / 86400 : Nat) : Int) Y M D) (ht : Tens w) :
    Calls Tryz.prog 244 #[.int .i64 t] w fun e w' => e = .returned (.string ⟨(textL Y M D (t % 86400)).toArray⟩) ∧ Below w.heap.size w w' := by
  have hi := fun w => isTime_any w t
  rw [decide_eq_true (by omega)] at hi
  have hci := fun w => civil_any w _ Y M D hc (by omega) (by omega)
  have hd31 := (daysN_pos Y M).2
  have hD := hc.d1; have hD0 := hc.d0; have hY0 := hc.y0; have hY1 := hc.y1; have hM0 := hc.m0; have hM1 := hc.m1
  have hte := fun w => tens_any w D (by omega)
  have hdi := fun w => digit_any w D (by omega)
  have hmn := fun w => monthName_any w M hM0 hM1
  have hnl := nameL_length hM0 hM1
  have h2a := fun (w1 : World) (v : Value) (l : List UInt8) (hl : l.length ≤ 100) (hb : Bu w w.heap.size v l w1) => two_any w w1 w.heap.size v l (t % 86400 / 3600) (by omega) hl hb
  have h2b := fun (w1 : World) (v : Value) (l : List UInt8) (hl : l.length ≤ 100) (hb : Bu w w.heap.size v l w1) => two_any w w1 w.heap.size v l (t % 3600 / 60) (by omega) hl hb
  have h2c := fun (w1 : World) (v : Value) (l : List UInt8) (hl : l.length ≤ 100) (hb : Bu w w.heap.size v l w1) => two_any w w1 w.heap.size v l (t % 60) (by omega) hl hb
  simp only [show ((t % 86400 / 3600 : Nat) : Int) = (t : Int) % 86400 / 3600 by omega] at h2a
  simp only [show ((t % 3600 / 60 : Nat) : Int) = (t : Int) % 3600 / 60 by omega] at h2b
  simp only [show ((t % 60 : Nat) : Int) = (t : Int) % 60 by omega] at h2c
  have hit := fun (w1 : World) (v : Value) (l : List UInt8) (hl : l.length ≤ 100) (hb : Bu w w.heap.size v l w1) => itoa_step w w1 v l Y (by omega) hY1 hl hb ht
  have hD' : D ≤ 31 := by omega
  have hres : textL Y M D (t % 86400) = tensB D :: dg D 0 :: 45 :: (nameL M ++ 45 :: (four Y ++ 32 :: (two (t % 86400 / 3600) ++ 58 :: (two (t % 3600 / 60) ++ 58 :: (two (t % 60) ++ [32, 43, 48, 48, 48, 48]))))) := by
    unfold textL headL
    rw [show t % 86400 / 60 % 60 = t % 3600 / 60 by omega, show t % 86400 % 60 = t % 60 by omega]
    simp
  have HI := Lib.hid hi; have HCI := Lib.hid hci; have HTE := Lib.hid hte; have HDI := Lib.hid hdi; have HMN := Lib.hid hmn; have H2A := Lib.hid h2a; have H2B := Lib.hid h2b; have H2C := Lib.hid h2c; have HIT := Lib.hid hit; have HRES := Lib.hid hres
  clear hi hci hte hdi hmn h2a h2b h2c hit hres hc hD hd31 ht
  obtain ⟨nm, hnm⟩ : ∃ nm, nameL M = nm := ⟨_, rfl⟩
  rw [hnm] at HMN HRES hnl
  clear hnm
  obtain ⟨w2, hmk, hB⟩ := make26 w
  go_enter Tryz.func244, Tryz.ntmps244
  go_wp2_with (first
    | (at_builtin; refine step_lit rfl _ _ rfl w _ w.heap.size _ _ [tensB D, dg D 0, 45] _ 3 rfl rfl hB rfl rfl (by simp) ?_; clear hB; intro v1 w3 hB)
    | (at_builtin; refine step_str rfl _ _ rfl w w.heap.size _ _ nm hB rfl rfl (by simp [hnl]) ?_; clear hB; intro v1 w3 hB)
    | (at_builtin; refine step_lit rfl _ _ rfl w _ w.heap.size _ _ [45] _ 1 rfl rfl hB rfl rfl (by simp [hnl]) ?_; clear hB; intro v1 w3 hB)
    | (at_builtin; refine step_lit rfl _ _ rfl w _ w.heap.size _ _ [32] _ 1 rfl rfl hB rfl rfl (by simp [hnl, four]) ?_; clear hB; intro v1 w3 hB)
    | (at_builtin; refine step_lit rfl _ _ rfl w _ w.heap.size _ _ [58] _ 1 rfl rfl hB rfl rfl (by simp [hnl, four, two]) ?_; clear hB; intro v1 w3 hB)
    | (at_builtin; refine step_str rfl _ _ rfl w w.heap.size _ _ [32, 43, 48, 48, 48, 48] hB rfl rfl (by simp [hnl, four, two]) ?_; clear hB; intro v1 w3 hB; have hcv := hB.text (by simp))
    | (go_at_call 268; refine (HIT.out _ _ _ (by simp [hnl]) hB).mono ?_; clear hB; rintro e w' ⟨v1, rfl, hB⟩)
    | (go_at_call 269; with_reducible refine Calls.mono (H2A.out _ _ _ (by simp [hnl, four, two]) hB) ?_; clear hB; rintro e w' ⟨v1, rfl, hB⟩)
    | (go_at_call 269; with_reducible refine Calls.mono (H2B.out _ _ _ (by simp [hnl, four, two]) hB) ?_; clear hB; rintro e w' ⟨v1, rfl, hB⟩)
    | (go_at_call 269; with_reducible refine Calls.mono (H2C.out _ _ _ (by simp [hnl, four, two]) hB) ?_; clear hB; rintro e w' ⟨v1, rfl, hB⟩)
    | (go_at_call 267; refine (HMN.out _).mono ?_; rintro e w' ⟨rfl, hw⟩; replace hw := hw.symm; subst hw)
    | (go_at_call 263; refine (HI.out _).mono ?_; rintro e w' ⟨rfl, hw⟩; replace hw := hw.symm; subst hw)
    | (go_at_call 264; refine (HCI.out _).mono ?_; rintro e w' ⟨rfl, hw⟩; replace hw := hw.symm; subst hw)
    | (go_at_call 265; refine (HTE.out _).mono ?_; rintro e w' ⟨rfl, hw⟩; replace hw := hw.symm; subst hw)
    | (go_at_call 266; refine (HDI.out _).mono ?_; rintro e w' ⟨rfl, hw⟩; replace hw := hw.symm; subst hw))
  go_ret
  refine ⟨?_, hB.2.1⟩
  rw [HRES.out]
  rfl

end Go.Proofs.YthhflkgngencdaaGreatDoor.dat
namespace Go.Proofs.YthhflkgngencdaaGreatDoor.bod
open Go.ChangeShapes Go.WideShapes Go.ChangeAt Go.RowKit
open Go.Proofs.YthhflkgngencdaaGreatDoor.codec (Bytes)
set_option linter.unusedVariables false
set_option linter.unusedSimpArgs false
set_option maxRecDepth 100000

/-- What the walk asks of the library's own variables. -/
structure Fit (w : World) : Prop where
  room : nam.Room w
  tens : dat.Tens w
theorem Fit.below {w w' : World} (h : Fit w) (hb : Below w.heap.size w w') : Fit w' := ⟨h.room.below hb, Lib.tabBelow_of_tabIs (h.tens w' hb)⟩
theorem isName_any (w : World) (s : ByteArray) (hs : s.size ≤ 100000) (hr : Fit w) :
    Calls Tryz.prog 194 #[.string s] w fun e w' => e = .returned (.bool (named s)) ∧ Below w.heap.size w w' := by
  have hN := nam.normR w s hs hr.room
  unfold named
  generalize nam.normS s = t at *
  generalize nam.normOk s = b at *
  have HN := Lib.hid hN
  clear hN hr
  cases b
  · go_enter Tryz.func194, Tryz.ntmps194
    go_wp2_with (go_at_call 181; refine HN.out.mono ?_; rintro e w1 ⟨rfl, hb⟩)
    go_ret
    exact ⟨rfl, hb⟩
  · by_cases hts : t = s
    · subst hts
      rw [decide_eq_true rfl]
      go_enter Tryz.func194, Tryz.ntmps194
      go_wp2_with (go_at_call 181; refine HN.out.mono ?_; rintro e w1 ⟨rfl, hb⟩)
      go_ret
      exact ⟨rfl, hb⟩
    · rw [decide_eq_false hts]
      have hne := rd.str_ne hts
      clear hts
      go_enter Tryz.func194, Tryz.ntmps194
      go_wp2_with (go_at_call 181; refine HN.out.mono ?_; rintro e w1 ⟨rfl, hb⟩)
      go_ret
      exact ⟨by simpa [ByteArray.toList_eq] using hne, hb⟩
theorem isTime_any (w : World) (d : Int) (hr : Fit w) :
    Calls Tryz.prog 218 #[.int .i64 d] w fun e w' => e = .returned (.bool (decide (0 ≤ d ∧ d ≤ 253402300799))) ∧ Below w.heap.size w w' := by
  by_cases hd : 0 ≤ d ∧ d ≤ 253402300799
  · rw [decide_eq_true hd]
    obtain ⟨n, rfl⟩ := Int.eq_ofNat_of_zero_le hd.1
    obtain ⟨Y, M, D, hc⟩ := dat.civ_at ((n / 86400 : Nat) : Int) (by omega) (by omega)
    have hP := dat.print_any w n Y M D (by omega) hc hr.tens
    have hlen : 0 < (dat.textL Y M D (n % 86400)).length := by simp [dat.textL]
    generalize dat.textL Y M D (n % 86400) = T at *
    have hT : T.isEmpty = false := by cases T with
      | nil => simp at hlen
      | cons => rfl
    have HP := Lib.hid hP
    have HT := Lib.hid hT
    clear hP hT hlen hc hr hd
    go_enter Tryz.func218, Tryz.ntmps218
    go_wp2_with (go_at_call 244; refine HP.out.mono ?_; rintro e w1 ⟨rfl, hb⟩)
    go_ret
    exact ⟨by have := HT.out; simpa [ByteArray.toList_eq] using this, hb⟩
  · rw [decide_eq_false hd]
    have HP := Lib.hid (dat.print_none w d hd)
    clear hd hr
    go_enter Tryz.func218, Tryz.ntmps218
    go_wp2_with (go_at_call 244; refine HP.out.mono ?_; rintro e w1 ⟨rfl, hb⟩)
    go_ret
    exact ⟨rfl, hb⟩
theorem put_five (f : Int) : flg.chgN (flg.five 0) (flg.five f) (flg.kind 0) = flg.five f := rfl
theorem areFlags_any (w : World) (f : Int) :
    Calls Tryz.prog 219 #[.int .i64 f] w fun e w' => e = .returned (.bool (decide (0 ≤ f ∧ f < 32))) ∧ w' = w := by
  have hC := flg.change_any w 0 f 0
  rw [put_five] at hC
  have hv : decide ((flg.five f : Int) = f) = decide (0 ≤ f ∧ f < 32) := by
    rw [decide_eq_decide]
    unfold flg.five
    omega
  rw [← hv]
  generalize flg.five f = g at *
  have HC := Lib.hid hC
  clear hC hv
  go_enter Tryz.func219, Tryz.ntmps219
  go_wp2_with (go_at_call 112; refine HC.out.mono ?_; rintro e w1 ⟨rfl, hw⟩; replace hw := hw.symm; subst hw)
  go_ret
  exact ⟨by rfl, rfl⟩
end Go.Proofs.YthhflkgngencdaaGreatDoor.bod
namespace Go.Proofs.YthhflkgngencdaaGreatDoor.bod
open Go.ChangeShapes Go.WideShapes Go.ChangeAt Go.RowKit
open Go.Proofs.YthhflkgngencdaaGreatDoor.codec (Bytes)
set_option linter.unusedVariables false
set_option linter.unusedSimpArgs false
set_option maxRecDepth 100000

theorem cell_at {w : World} {b : Nat} {cs : Array Value} {t : TypeId} {m : Nat × Nat} (h : w.heap[b]? = some (.cells cs t m)) (i : Nat) (v : Value) (hv : cs[i]? = some v) : w.cell? ⟨b, i, none⟩ = some v := by
  simp [World.cell?, h, hv]
theorem says_any (w : World) (u : Nat) (d f : Int) (A : Option Addr) (n c : Nat) :
    Calls Tryz.prog 195 #[.agg #[.int .u32 u, .int .i64 d, .int .i64 f, .slice A n c]] w fun e w' => e = .returned (.bool (emptyB d f n)) ∧ Below w.heap.size w w' := by
  unfold emptyB
  by_cases hd : d = 0
  · subst hd
    by_cases hf : f = 0
    · subst hf
      by_cases hn : n = 0
      · subst hn
        go_enter Tryz.func195, Tryz.ntmps195
        go_wp2
        go_ret
        exact ⟨rfl, (Below.refl _ _).alloc (Nat.le_refl _) _⟩
      · have h1 : ((n : Int) == 0) = false := by rw [beq_eq_false_iff_ne]; omega
        rw [decide_eq_false hn]
        clear hn
        go_enter Tryz.func195, Tryz.ntmps195
        go_wp2
        go_ret
        exact ⟨rfl, (Below.refl _ _).alloc (Nat.le_refl _) _⟩
    · rw [decide_eq_false hf]
      have h1 : (f == 0) = false := by rw [beq_eq_false_iff_ne]; omega
      clear hf
      go_enter Tryz.func195, Tryz.ntmps195
      go_wp2
      go_ret
      exact ⟨rfl, (Below.refl _ _).alloc (Nat.le_refl _) _⟩
  · rw [decide_eq_false hd]
    have h1 : (d == 0) = false := by rw [beq_eq_false_iff_ne]; omega
    clear hd
    go_enter Tryz.func195, Tryz.ntmps195
    go_wp2
    go_ret
    exact ⟨rfl, (Below.refl _ _).alloc (Nat.le_refl _) _⟩
theorem fits_any (w : World) (u : Nat) (d f : Int) (A : Option Addr) (n c : Nat) (hr : Fit w) :
    Calls Tryz.prog 196 #[.agg #[.int .u32 u, .int .i64 d, .int .i64 f, .slice A n c]] w fun e w' => e = .returned (.bool (fitsB d f n)) ∧ Below w.heap.size w w' := by
  unfold fitsB
  have ht := fun w hr => isTime_any w d hr
  have hf := fun w => areFlags_any w f
  generalize decide (0 ≤ d ∧ d ≤ 253402300799) = T at *
  generalize decide (0 ≤ f ∧ f < 32) = F at *
  have HT := Lib.hid ht
  have HF := Lib.hid hf
  have HR := Lib.hid (fun (o : Obj) => hr.below ((Below.refl _ _).alloc (Nat.le_refl _) o))
  clear ht hf hr
  have hBel : ∀ (o : Obj) (w1 : World), Below (w.alloc o).heap.size (w.alloc o) w1 → w1.heap[w.heap.size]? = some o ∧ Below w.heap.size w w1 := by
    intro o w1 h
    have h0 : Below w.heap.size w (w.alloc o) := (Below.refl _ _).alloc (Nat.le_refl _) _
    refine ⟨?_, h0.trans (h.mono h0.size)⟩
    rw [h.block _ (by simp)]
    exact heap_alloc_new w o
  have HB := Lib.hid hBel
  clear hBel
  cases T
  · go_enter Tryz.func196, Tryz.ntmps196
    go_wp2_with (go_at_call 218; refine (HT.out _ (HR.out _)).mono ?_; rintro e w1 ⟨rfl, hb⟩; have HB1 := Lib.hid (HB.out _ _ hb); clear hb)
    go_ret
    exact ⟨rfl, HB1.out.2⟩
  · cases F
    · go_enter Tryz.func196, Tryz.ntmps196
      go_wp2_with (first
        | (go_at_call 218; refine (HT.out _ (HR.out _)).mono ?_; rintro e w1 ⟨rfl, hb⟩; have HB1 := Lib.hid (HB.out _ _ hb); have h2 := cell_at HB1.out.1 2 _ rfl; have h3 := cell_at HB1.out.1 3 _ rfl; clear hb)
        | (go_at_call 219; refine (HF.out _).mono ?_; rintro e w2 ⟨rfl, hw⟩; replace hw := hw.symm; subst hw))
      go_ret
      exact ⟨rfl, HB1.out.2⟩
    · have hn : decide ((n : Int) ≤ 20000) = decide (n ≤ 20000) := by rw [decide_eq_decide]; omega
      rw [← hn]
      clear hn
      go_enter Tryz.func196, Tryz.ntmps196
      go_wp2_with (first
        | (go_at_call 218; refine (HT.out _ (HR.out _)).mono ?_; rintro e w1 ⟨rfl, hb⟩; have HB1 := Lib.hid (HB.out _ _ hb); have h2 := cell_at HB1.out.1 2 _ rfl; have h3 := cell_at HB1.out.1 3 _ rfl; clear hb)
        | (go_at_call 219; refine (HF.out _).mono ?_; rintro e w2 ⟨rfl, hw⟩; replace hw := hw.symm; subst hw))
      all_goals (go_ret; exact ⟨by simp_all, HB1.out.2⟩)
end Go.Proofs.YthhflkgngencdaaGreatDoor.bod
namespace Go.Proofs.YthhflkgngencdaaGreatDoor.bod
open Go.ChangeShapes Go.WideShapes Go.ChangeAt Go.RowKit
open Go.Proofs.YthhflkgngencdaaGreatDoor.codec (Bytes)
set_option linter.unusedVariables false
set_option linter.unusedSimpArgs false
set_option maxRecDepth 100000

theorem boxed {w : World} {o : Obj} {w1 : World} (h : Below (w.alloc o).heap.size (w.alloc o) w1) : w1.heap[w.heap.size]? = some o ∧ Below w.heap.size w w1 := by
  have h0 : Below w.heap.size w (w.alloc o) := (Below.refl _ _).alloc (Nat.le_refl _) _
  refine ⟨?_, h0.trans (h.mono h0.size)⟩
  rw [h.block _ (by simp)]
  exact heap_alloc_new w o
theorem formed_one {e u : Nat} {s : ByteArray} {d f : Int} {n : Nat} : formedB 1 e s u d f n = (decide (e ≠ 0) && (named s && (decide (u = 0) && emptyB d f n))) := by unfold formedB; rw [if_pos rfl]
theorem formed_two {e u : Nat} {s : ByteArray} {d f : Int} {n : Nat} : formedB 2 e s u d f n = (decide (e ≠ 0) && (named s && (decide (u ≠ 0) && fitsB d f n))) := by unfold formedB; rw [if_neg (by decide), if_pos rfl]
theorem formed_three {e u : Nat} {s : ByteArray} {d f : Int} {n : Nat} : formedB 3 e s u d f n = (decide (e ≠ 0) && (decide (s.size = 0) && (decide (u ≠ 0) && emptyB d f n))) := by unfold formedB; rw [if_neg (by decide), if_neg (by decide), if_pos rfl]
theorem formed_other {k : Int} {e u : Nat} {s : ByteArray} {d f : Int} {n : Nat} (h1 : k ≠ 1) (h2 : k ≠ 2) (h3 : k ≠ 3) : formedB k e s u d f n = false := by unfold formedB; rw [if_neg h1, if_neg h2, if_neg h3]
theorem formed1 (w : World) (e u : Nat) (s : ByteArray) (d f : Int) (A : Option Addr) (n c : Nat) (hs : s.size ≤ 100000) (hr : Fit w) :
    Calls Tryz.prog 155 #[.agg #[.int .i64 1, .int .u32 e, .string s, .int .u32 u, .int .i64 d, .int .i64 f, .slice A n c]] w fun x w' => x = .returned (.bool (formedB 1 e s u d f n)) ∧ Below w.heap.size w w' := by
  rw [formed_one]
  have hL := fun w => says_any w u d f A n c
  generalize emptyB d f n = E at *
  have HL := Lib.hid hL
  clear hL
  have HR := Lib.hid (fun (o : Obj) => hr.below ((Below.refl _ _).alloc (Nat.le_refl _) o))
  have HR0 := Lib.hid hr
  clear hr
  by_cases he : e = 0
  · subst he
    rw [decide_eq_false (by omega)]
    go_enter Tryz.func155, Tryz.ntmps155
    go_wp2_with (first
      | fail)
    go_ret
    exact ⟨rfl, (Below.refl _ _).alloc (Nat.le_refl _) _⟩
  · have he1 : ((e : Int) != 0) = true := by rw [bne_iff_ne]; omega
    rw [decide_eq_true he]
    clear he
    have hN := fun w hr => isName_any w s hs hr
    generalize named s = M at *
    have HN := Lib.hid hN
    clear hN hs
    cases M
    · go_enter Tryz.func155, Tryz.ntmps155
      go_wp2_with (first
        | (go_at_call 194; refine (HN.out _ (HR.out _)).mono ?_; rintro x w1 ⟨rfl, hb⟩; have HB1 := Lib.hid (boxed hb); have h3 := cell_at HB1.out.1 3 _ rfl; clear hb))
      go_ret
      exact ⟨rfl, HB1.out.2⟩
    · by_cases hu : u = 0
      · subst hu
        rw [decide_eq_true rfl]
        go_enter Tryz.func155, Tryz.ntmps155
        go_wp2_with (first
          | (go_at_call 194; refine (HN.out _ (HR.out _)).mono ?_; rintro x w1 ⟨rfl, hb⟩; have HB1 := Lib.hid (boxed hb); have h4 := cell_at HB1.out.1 4 _ rfl; have h5 := cell_at HB1.out.1 5 _ rfl; have h6 := cell_at HB1.out.1 6 _ rfl; have h3 := cell_at HB1.out.1 3 _ rfl; clear hb)
          | (go_at_call 195; refine (HL.out _).mono ?_; rintro x w2 ⟨rfl, hb2⟩; have HB2 := Lib.hid (HB1.out.2.trans (hb2.mono HB1.out.2.size)); clear hb2))
        go_ret
        exact ⟨rfl, HB2.out⟩
      · have hu1 : ((u : Int) == 0) = false := by rw [beq_eq_false_iff_ne]; omega
        rw [decide_eq_false hu]
        clear hu
        go_enter Tryz.func155, Tryz.ntmps155
        go_wp2_with (first
          | (go_at_call 194; refine (HN.out _ (HR.out _)).mono ?_; rintro x w1 ⟨rfl, hb⟩; have HB1 := Lib.hid (boxed hb); have h3 := cell_at HB1.out.1 3 _ rfl; clear hb))
        go_ret
        exact ⟨rfl, HB1.out.2⟩
theorem formed2 (w : World) (e u : Nat) (s : ByteArray) (d f : Int) (A : Option Addr) (n c : Nat) (hs : s.size ≤ 100000) (hr : Fit w) :
    Calls Tryz.prog 155 #[.agg #[.int .i64 2, .int .u32 e, .string s, .int .u32 u, .int .i64 d, .int .i64 f, .slice A n c]] w fun x w' => x = .returned (.bool (formedB 2 e s u d f n)) ∧ Below w.heap.size w w' := by
  rw [formed_two]
  have hL := fun w (hr : Fit w) => fits_any w u d f A n c hr
  generalize fitsB d f n = E at *
  have HL := Lib.hid hL
  clear hL
  have HR := Lib.hid (fun (o : Obj) => hr.below ((Below.refl _ _).alloc (Nat.le_refl _) o))
  have HR0 := Lib.hid hr
  clear hr
  by_cases he : e = 0
  · subst he
    rw [decide_eq_false (by omega)]
    go_enter Tryz.func155, Tryz.ntmps155
    go_wp2_with (first
      | fail)
    go_ret
    exact ⟨rfl, (Below.refl _ _).alloc (Nat.le_refl _) _⟩
  · have he1 : ((e : Int) != 0) = true := by rw [bne_iff_ne]; omega
    rw [decide_eq_true he]
    clear he
    have hN := fun w hr => isName_any w s hs hr
    generalize named s = M at *
    have HN := Lib.hid hN
    clear hN hs
    cases M
    · go_enter Tryz.func155, Tryz.ntmps155
      go_wp2_with (first
        | (go_at_call 194; refine (HN.out _ (HR.out _)).mono ?_; rintro x w1 ⟨rfl, hb⟩; have HB1 := Lib.hid (boxed hb); have h3 := cell_at HB1.out.1 3 _ rfl; clear hb))
      go_ret
      exact ⟨rfl, HB1.out.2⟩
    · by_cases hu : u = 0
      · subst hu
        rw [decide_eq_false (by omega)]
        go_enter Tryz.func155, Tryz.ntmps155
        go_wp2_with (first
          | (go_at_call 194; refine (HN.out _ (HR.out _)).mono ?_; rintro x w1 ⟨rfl, hb⟩; have HB1 := Lib.hid (boxed hb); have h3 := cell_at HB1.out.1 3 _ rfl; clear hb))
        go_ret
        exact ⟨rfl, HB1.out.2⟩
      · have hu1 : ((u : Int) != 0) = true := by rw [bne_iff_ne]; omega
        rw [decide_eq_true hu]
        clear hu
        go_enter Tryz.func155, Tryz.ntmps155
        go_wp2_with (first
          | (go_at_call 194; refine (HN.out _ (HR.out _)).mono ?_; rintro x w1 ⟨rfl, hb⟩; have HB1 := Lib.hid (boxed hb); have h4 := cell_at HB1.out.1 4 _ rfl; have h5 := cell_at HB1.out.1 5 _ rfl; have h6 := cell_at HB1.out.1 6 _ rfl; have h3 := cell_at HB1.out.1 3 _ rfl; clear hb)
          | (go_at_call 196; refine (HL.out _ (HR0.out.below HB1.out.2)).mono ?_; rintro x w2 ⟨rfl, hb2⟩; have HB2 := Lib.hid (HB1.out.2.trans (hb2.mono HB1.out.2.size)); clear hb2))
        go_ret
        exact ⟨rfl, HB2.out⟩
theorem formed3 (w : World) (e u : Nat) (s : ByteArray) (d f : Int) (A : Option Addr) (n c : Nat) (hs : s.size ≤ 100000) (hr : Fit w) :
    Calls Tryz.prog 155 #[.agg #[.int .i64 3, .int .u32 e, .string s, .int .u32 u, .int .i64 d, .int .i64 f, .slice A n c]] w fun x w' => x = .returned (.bool (formedB 3 e s u d f n)) ∧ Below w.heap.size w w' := by
  rw [formed_three]
  have hL := fun w => says_any w u d f A n c
  generalize emptyB d f n = E at *
  have HL := Lib.hid hL
  clear hL
  have HR := Lib.hid (fun (o : Obj) => hr.below ((Below.refl _ _).alloc (Nat.le_refl _) o))
  have HR0 := Lib.hid hr
  clear hr
  by_cases he : e = 0
  · subst he
    rw [decide_eq_false (by omega)]
    go_enter Tryz.func155, Tryz.ntmps155
    go_wp2_with (first
      | fail)
    go_ret
    exact ⟨rfl, (Below.refl _ _).alloc (Nat.le_refl _) _⟩
  · have he1 : ((e : Int) != 0) = true := by rw [bne_iff_ne]; omega
    rw [decide_eq_true he]
    clear he
    by_cases hz : s.size = 0
    · have hs1 : s.toList.isEmpty = true := by
        have : s.data = #[] := Array.eq_empty_of_size_eq_zero hz
        simp [ByteArray.toList_eq, this]
      rw [decide_eq_true hz]
      clear hz hs
      by_cases hu : u = 0
      · subst hu
        rw [decide_eq_false (by omega)]
        go_enter Tryz.func155, Tryz.ntmps155
        go_wp2_with (first
          | fail)
        go_ret
        exact ⟨rfl, (Below.refl _ _).alloc (Nat.le_refl _) _⟩
      · have hu1 : ((u : Int) != 0) = true := by rw [bne_iff_ne]; omega
        rw [decide_eq_true hu]
        clear hu
        go_enter Tryz.func155, Tryz.ntmps155
        go_wp2_with (first
          | (go_at_call 195; refine (HL.out _).mono ?_; rintro x w2 ⟨rfl, hb2⟩; have HB2 := Lib.hid (boxed hb2).2; clear hb2))
        go_ret
        exact ⟨rfl, HB2.out⟩
    · have hs1 : s.toList.isEmpty = false := by
        rw [Bool.eq_false_iff]
        intro h
        rw [ByteArray.toList_eq] at h
        have h' : s.data = #[] := by simpa using h
        exact hz (by show s.data.size = 0; rw [h']; rfl)
      rw [decide_eq_false hz]
      clear hz hs
      go_enter Tryz.func155, Tryz.ntmps155
      go_wp2_with (first
        | fail)
      go_ret
      exact ⟨rfl, (Below.refl _ _).alloc (Nat.le_refl _) _⟩
theorem formed_any (w : World) (k : Int) (e u : Nat) (s : ByteArray) (d f : Int) (A : Option Addr) (n c : Nat) (hs : s.size ≤ 100000) (hr : Fit w) :
    Calls Tryz.prog 155 #[.agg #[.int .i64 k, .int .u32 e, .string s, .int .u32 u, .int .i64 d, .int .i64 f, .slice A n c]] w fun x w' => x = .returned (.bool (formedB k e s u d f n)) ∧ Below w.heap.size w w' := by
  by_cases h1 : k = 1
  · subst h1; exact formed1 w e u s d f A n c hs hr
  · by_cases h2 : k = 2
    · subst h2; exact formed2 w e u s d f A n c hs hr
    · by_cases h3 : k = 3
      · subst h3; exact formed3 w e u s d f A n c hs hr
      · rw [formed_other h1 h2 h3]
        have e1 : (k == 1) = false := by rw [beq_eq_false_iff_ne]; exact h1
        have e2 : (k == 2) = false := by rw [beq_eq_false_iff_ne]; exact h2
        have e3 : (k == 3) = false := by rw [beq_eq_false_iff_ne]; exact h3
        clear h1 h2 h3 hr
        go_enter Tryz.func155, Tryz.ntmps155
        go_wp2_with (first
          | fail)
        go_ret
        exact ⟨rfl, (Below.refl _ _).alloc (Nat.le_refl _) _⟩
end Go.Proofs.YthhflkgngencdaaGreatDoor.bod
namespace Go.Proofs.YthhflkgngencdaaGreatDoor.bod
open Go.ChangeShapes Go.WideShapes Go.ChangeAt Go.RowKit
open Go.Proofs.YthhflkgngencdaaGreatDoor.codec (Bytes OutIs More Touch bytesOf bytesOf_length strOf)
set_option linter.unusedVariables false
set_option linter.unusedSimpArgs false
set_option maxRecDepth 100000

/-- A note at b, and an Out at P that has taken l. -/
def Enc (W : World) (b : Nat) (cs : Array Value) (P : Nat) (l F : List Nat) (w : World) : Prop :=
  w.heap[b]? = some (.cells cs 149 (0, 0)) ∧ OutIs w P l F ∧ (∀ k ∈ F, W.heap.size ≤ k ∧ k ≠ b) ∧ b < w.heap.size ∧ Below W.heap.size W w
theorem Enc.more {W w w' : World} {b P : Nat} {cs : Array Value} {l l' F : List Nat} (h : Enc W b cs P l F w) (m : More w P l' F w') : ∃ F', Enc W b cs P l' F' w' := by
  obtain ⟨hb, ho, hF, hlt, hbel⟩ := h
  obtain ⟨F', o', t, s⟩ := m
  have hsz := t.2.2.2.1
  refine ⟨F', ?_, o', fun k hk => ?_, by omega, hbel.trans (t.toBelow _ hbel.size fun i hi hf => by have := (hF i hf).1; omega)⟩
  · exact (t.2.2.2.2 b hlt (fun hf => (hF b hf).2 rfl)).trans hb
  · rcases s k hk with h | h
    · exact hF k h
    · have := hbel.size
      exact ⟨by omega, by omega⟩
theorem enc_N {W w : World} {b P : Nat} {cs : Array Value} {l F : List Nat} (h : Enc W b cs P l F w) (v n : Nat) (hl : l.length ≤ 9000000) (h1 : 1 ≤ n) (h7 : n ≤ 7) (hv : v < 256 ^ n) :
    Calls Tryz.prog 92 #[.pointer (some ⟨P, 0, none⟩), .int .i64 v, .int .i64 n] w fun e w' => e = .returned (.tuple #[]) ∧ ∃ F', Enc W b cs P (l ++ bytesOf v n) F' w' :=
  (codec.outN_fits w P v n l F h.2.1 hl h1 h7 hv).mono fun _ _ ⟨he, hm⟩ => ⟨he, h.more hm⟩
theorem enc_Text {W w : World} {b P : Nat} {cs : Array Value} {l F : List Nat} (h : Enc W b cs P l F w) (s : ByteArray) (hl : l.length ≤ 5000000) (hs : s.size ≤ 65535) :
    Calls Tryz.prog 93 #[.pointer (some ⟨P, 0, none⟩), .string s] w fun e w' => e = .returned (.tuple #[]) ∧ ∃ F', Enc W b cs P (l ++ txt s) F' w' := by
  have := codec.outText_good w P l F (nums s) h.2.1 hl (nums_lt s) (by rw [nums_length]; exact hs)
  rw [strOf_nums, nums_length] at this
  exact this.mono fun _ _ ⟨he, hm⟩ => ⟨he, h.more hm⟩
theorem enc_Raw {W w : World} {b P n c : Nat} {cs : Array Value} {l F m : List Nat} {A : Option Addr} (h : Enc W b cs P l F w) (hB : Bytes W A n m) (hA : A = none → c = 0) (hn : l.length + n ≤ 10000000) :
    Calls Tryz.prog 168 #[.pointer (some ⟨P, 0, none⟩), .slice A n c] w fun e w' => e = .returned (.tuple #[]) ∧ ∃ F', Enc W b cs P (l ++ m) F' w' :=
  (codec.raw_good w P l F A n c m h.2.1 (hB.below hB.lt h.2.2.2.2) hn hA (fun ad e h0 hF => by have := hB.lt ad e h0; have := (h.2.2.1 _ hF).1; omega)).mono fun _ _ ⟨he, hm⟩ => ⟨he, h.more hm⟩
theorem enc_End {W w : World} {b P : Nat} {cs : Array Value} {l F : List Nat} (h : Enc W b cs P l F w) (N : Nat) (hN : l.length = N) (hl : N ≤ 10000000) :
    Calls Tryz.prog 140 #[.pointer (some ⟨P, 0, none⟩)] w fun e w' => ∃ g, e = .returned (.tuple #[.slice (some ⟨g, 0, none⟩) N N, .int .i64 0]) ∧ W.heap.size ≤ g ∧ Bytes w' (some ⟨g, 0, none⟩) N l ∧ Below W.heap.size W w' := by
  subst hN
  refine (codec.end_good w P l F h.2.1 hl).mono ?_
  rintro e w' ⟨v, rfl, hm⟩
  obtain ⟨g, rfl, hg, hb, hB⟩ := hm.bytes
  have := h.2.2.2.2.size
  exact ⟨g, rfl, by omega, hB, h.2.2.2.2.trans (hb.mono this)⟩
theorem enc_start {W w1 : World} {cs : Array Value} (h : Below (W.alloc (.cells cs 149)).heap.size (W.alloc (.cells cs 149)) w1) :
    Enc W W.heap.size cs w1.heap.size [] [w1.heap.size] (w1.alloc (.cells #[.pointer none, .int .i64 0, .bool false] 154)) := by
  obtain ⟨h1, h2⟩ := boxed h
  have hs : W.heap.size < w1.heap.size := by have := h.size; simp at this; omega
  have h3 : Below w1.heap.size w1 (w1.alloc (.cells #[.pointer none, .int .i64 0, .bool false] 154)) := (Below.refl _ _).alloc (Nat.le_refl _) _
  refine ⟨(h3.block _ hs).trans h1, codec.fresh_new w1, fun k hk => ?_, by have := h3.size; omega, h2.trans (h3.mono h2.size)⟩
  simp at hk
  subst hk
  exact ⟨by omega, by omega⟩
/-- What Encode answers. -/
def EncAns (W : World) (k : Int) (e : Nat) (s : ByteArray) (u : Nat) (d f : Int) (o : List Nat) (x : Ending) (w' : World) : Prop :=
  if formedB k e s u d f o.length then ∃ g N, x = .returned (.tuple #[.slice (some ⟨g, 0, none⟩) N N, .int .i64 0]) ∧ (payL k e s u d f o).length = N ∧ W.heap.size ≤ g ∧ Bytes w' (some ⟨g, 0, none⟩) N (payL k e s u d f o) ∧ Below W.heap.size W w'
  else x = .returned (.tuple #[.slice none 0 0, .int .i64 1]) ∧ Below W.heap.size W w'
theorem encode_none (W : World) (k : Int) (e u : Nat) (s : ByteArray) (d f : Int) (A : Option Addr) (n c : Nat) (o : List Nat) (hs : s.size ≤ 100000) (hr : Fit W) (hf : formedB k e s u d f n = false) :
    Calls Tryz.prog 127 #[.agg #[.int .i64 k, .int .u32 e, .string s, .int .u32 u, .int .i64 d, .int .i64 f, .slice A n c]] W fun x w' => x = .returned (.tuple #[.slice none 0 0, .int .i64 1]) ∧ Below W.heap.size W w' := by
  have hF := fun w hr => formed_any w k e u s d f A n c hs hr
  rw [hf] at hF
  have HF := Lib.hid hF
  have HR := Lib.hid (fun (o : Obj) => hr.below ((Below.refl _ _).alloc (Nat.le_refl _) o))
  clear hF hr hf hs
  go_enter Tryz.func127, Tryz.ntmps127
  go_wp2_with (go_at_call 155; refine (HF.out _ (HR.out _)).mono ?_; rintro x w1 ⟨rfl, hb⟩; have HB := Lib.hid (boxed hb).2; clear hb)
  go_ret2
  exact ⟨rfl, HB.out⟩
theorem encode1 (W : World) (e u : Nat) (s : ByteArray) (d f : Int) (A : Option Addr) (n c : Nat) (hs : s.size ≤ 60) (he : e < 4294967296) (hr : Fit W) (hf : formedB 1 e s u d f n = true) :
    Calls Tryz.prog 127 #[.agg #[.int .i64 1, .int .u32 e, .string s, .int .u32 u, .int .i64 d, .int .i64 f, .slice A n c]] W fun x w' => ∃ g, x = .returned (.tuple #[.slice (some ⟨g, 0, none⟩) (6 + s.size) (6 + s.size), .int .i64 0]) ∧ W.heap.size ≤ g ∧ Bytes w' (some ⟨g, 0, none⟩) (6 + s.size) (bytesOf e 4 ++ txt s) ∧ Below W.heap.size W w' := by
  have hF := fun w hr => formed_any w 1 e u s d f A n c (by omega) hr
  rw [hf] at hF
  have HF := Lib.hid hF
  have HR := Lib.hid (fun (o : Obj) => hr.below ((Below.refl _ _).alloc (Nat.le_refl _) o))
  obtain ⟨cs, hcs⟩ : ∃ cs : Array Value, cs = #[.int .i64 1, .int .u32 e, .string s, .int .u32 u, .int .i64 d, .int .i64 f, .slice A n c] := ⟨_, rfl⟩
  have HCS := Lib.hid hcs
  have HS := Lib.hid hs
  clear hF hr hf hcs hs
  go_enter Tryz.func127, Tryz.ntmps127
  go_wp2_with (go_at_call 155; refine (HF.out _ (HR.out _)).mono ?_; rintro x w1 ⟨rfl, hb⟩; rw [← HCS.out] at hb; have HE := Lib.hid (enc_start hb); have h1 := cell_at HE.out.1 1 _ (by rw [HCS.out]; rfl); clear hb)
  refine (enc_N HE.out e 4 (by simp) (by omega) (by omega) (by omega)).mono ?_
  rintro x w2 ⟨rfl, F2, hE2⟩
  have HE2 := Lib.hid hE2
  have g0 := cell_at hE2.1 0 _ (by rw [HCS.out]; rfl)
  have g2 := cell_at hE2.1 2 _ (by rw [HCS.out]; rfl)
  clear hE2 HE h1
  go_wp2_with fail
  refine (enc_Text HE2.out s (by simp [bytesOf_length]) (by have := HS.out; omega)).mono ?_
  rintro x w3 ⟨rfl, F3, hE3⟩
  have HE3 := Lib.hid hE3
  clear hE3 HE2 g0 g2
  go_wp2_with fail
  refine (enc_End HE3.out (6 + s.size) (by simp [bytesOf_length, txt_length]; omega) (by have := HS.out; omega)).mono ?_
  rintro x w4 ⟨g, rfl, hg, hB, hb⟩
  have HX := Lib.hid (And.intro hg (And.intro hB hb))
  clear hg hB hb HE3
  go_wp2_with fail
  go_ret2
  exact ⟨g, rfl, HX.out.1, by have := HX.out.2.1; simpa using this, HX.out.2.2⟩
theorem encode3 (W : World) (e u : Nat) (s : ByteArray) (d f : Int) (A : Option Addr) (n c : Nat) (hs : s.size ≤ 60) (he : e < 4294967296) (hu : u < 4294967296) (hr : Fit W) (hf : formedB 3 e s u d f n = true) :
    Calls Tryz.prog 127 #[.agg #[.int .i64 3, .int .u32 e, .string s, .int .u32 u, .int .i64 d, .int .i64 f, .slice A n c]] W fun x w' => ∃ g, x = .returned (.tuple #[.slice (some ⟨g, 0, none⟩) 8 8, .int .i64 0]) ∧ W.heap.size ≤ g ∧ Bytes w' (some ⟨g, 0, none⟩) 8 (bytesOf e 4 ++ bytesOf u 4) ∧ Below W.heap.size W w' := by
  have hF := fun w hr => formed_any w 3 e u s d f A n c (by omega) hr
  rw [hf] at hF
  have HF := Lib.hid hF
  have HR := Lib.hid (fun (o : Obj) => hr.below ((Below.refl _ _).alloc (Nat.le_refl _) o))
  obtain ⟨cs, hcs⟩ : ∃ cs : Array Value, cs = #[.int .i64 3, .int .u32 e, .string s, .int .u32 u, .int .i64 d, .int .i64 f, .slice A n c] := ⟨_, rfl⟩
  have HCS := Lib.hid hcs
  clear hF hr hf hcs hs
  go_enter Tryz.func127, Tryz.ntmps127
  go_wp2_with (go_at_call 155; refine (HF.out _ (HR.out _)).mono ?_; rintro x w1 ⟨rfl, hb⟩; rw [← HCS.out] at hb; have HE := Lib.hid (enc_start hb); have h1 := cell_at HE.out.1 1 _ (by rw [HCS.out]; rfl); clear hb)
  refine (enc_N HE.out e 4 (by simp) (by omega) (by omega) (by omega)).mono ?_
  rintro x w2 ⟨rfl, F2, hE2⟩
  have HE2 := Lib.hid hE2
  have g0 := cell_at hE2.1 0 _ (by rw [HCS.out]; rfl)
  have g3 := cell_at hE2.1 3 _ (by rw [HCS.out]; rfl)
  clear hE2 HE h1
  go_wp2_with fail
  refine (enc_N HE2.out u 4 (by simp [bytesOf_length]) (by omega) (by omega) (by omega)).mono ?_
  rintro x w3 ⟨rfl, F3, hE3⟩
  have HE3 := Lib.hid hE3
  clear hE3 HE2 g0 g3
  go_wp2_with fail
  refine (enc_End HE3.out 8 (by simp [bytesOf_length]) (by omega)).mono ?_
  rintro x w4 ⟨g, rfl, hg, hB, hb⟩
  have HX := Lib.hid (And.intro hg (And.intro hB hb))
  clear hg hB hb HE3
  go_wp2_with fail
  go_ret2
  exact ⟨g, rfl, HX.out.1, by have := HX.out.2.1; simpa using this, HX.out.2.2⟩
theorem encode2 (W : World) (e u : Nat) (s : ByteArray) (d f : Nat) (A : Option Addr) (n c : Nat) (o : List Nat) (hs : s.size ≤ 60) (he : e < 4294967296) (hu : u < 4294967296) (hd : d < 281474976710656) (hfl : f < 256) (hn : n ≤ 20000) (hr : Fit W) (hf : formedB 2 e s u d f n = true) (hB : Bytes W A n o) (hA : A = none → c = 0) (N : Nat) (hN : 17 + s.size + n = N) :
    Calls Tryz.prog 127 #[.agg #[.int .i64 2, .int .u32 e, .string s, .int .u32 u, .int .i64 d, .int .i64 f, .slice A n c]] W fun x w' => ∃ g, x = .returned (.tuple #[.slice (some ⟨g, 0, none⟩) N N, .int .i64 0]) ∧ W.heap.size ≤ g ∧ Bytes w' (some ⟨g, 0, none⟩) N (bytesOf e 4 ++ (bytesOf u 4 ++ (bytesOf d 6 ++ (bytesOf f 1 ++ (txt s ++ o))))) ∧ Below W.heap.size W w' := by
  have hF := fun w hr => formed_any w 2 e u s d f A n c (by omega) hr
  rw [hf] at hF
  have HF := Lib.hid hF
  have HR := Lib.hid (fun (o : Obj) => hr.below ((Below.refl _ _).alloc (Nat.le_refl _) o))
  obtain ⟨cs, hcs⟩ : ∃ cs : Array Value, cs = #[.int .i64 2, .int .u32 e, .string s, .int .u32 u, .int .i64 d, .int .i64 f, .slice A n c] := ⟨_, rfl⟩
  have HCS := Lib.hid hcs
  have HS := Lib.hid (And.intro hs (And.intro hn (And.intro hd (And.intro hfl hN))))
  have HBy := Lib.hid (And.intro hB hA)
  clear hF hr hf hcs hs hn hd hfl hN hB hA
  go_enter Tryz.func127, Tryz.ntmps127
  go_wp2_with (go_at_call 155; refine (HF.out _ (HR.out _)).mono ?_; rintro x w1 ⟨rfl, hb⟩; rw [← HCS.out] at hb; have HE := Lib.hid (enc_start hb); have h1 := cell_at HE.out.1 1 _ (by rw [HCS.out]; rfl); clear hb)
  refine (enc_N HE.out e 4 (by simp) (by omega) (by omega) (by omega)).mono ?_
  rintro x w2 ⟨rfl, F2, hE2⟩
  have HE2 := Lib.hid hE2
  have g0 := cell_at hE2.1 0 _ (by rw [HCS.out]; rfl)
  have g3 := cell_at hE2.1 3 _ (by rw [HCS.out]; rfl)
  clear hE2 HE h1
  go_wp2_with fail
  refine (enc_N HE2.out u 4 (by simp [bytesOf_length]) (by omega) (by omega) (by omega)).mono ?_
  rintro x w3 ⟨rfl, F3, hE3⟩
  have HE3 := Lib.hid hE3
  have g4 := cell_at hE3.1 4 _ (by rw [HCS.out]; rfl)
  clear hE3 HE2 g0 g3
  go_wp2_with fail
  refine (enc_N HE3.out d 6 (by simp [bytesOf_length]) (by omega) (by omega) (by have := HS.out; omega)).mono ?_
  rintro x w4 ⟨rfl, F4, hE4⟩
  have HE4 := Lib.hid hE4
  have g5 := cell_at hE4.1 5 _ (by rw [HCS.out]; rfl)
  clear hE4 HE3 g4
  go_wp2_with fail
  refine (enc_N HE4.out f 1 (by simp [bytesOf_length]) (by omega) (by omega) (by have := HS.out; omega)).mono ?_
  rintro x w5 ⟨rfl, F5, hE5⟩
  have HE5 := Lib.hid hE5
  have g2 := cell_at hE5.1 2 _ (by rw [HCS.out]; rfl)
  clear hE5 HE4 g5
  go_wp2_with fail
  refine (enc_Text HE5.out s (by simp [bytesOf_length]) (by have := HS.out; omega)).mono ?_
  rintro x w6 ⟨rfl, F6, hE6⟩
  have HE6 := Lib.hid hE6
  have g6 := cell_at hE6.1 6 _ (by rw [HCS.out]; rfl)
  clear hE6 HE5 g2
  go_wp2_with fail
  refine (enc_Raw HE6.out HBy.out.1 HBy.out.2 (by have := HS.out; simp [bytesOf_length, txt_length]; omega)).mono ?_
  rintro x w7 ⟨rfl, F7, hE7⟩
  have HE7 := Lib.hid hE7
  clear hE7 HE6 g6
  go_wp2_with fail
  refine (enc_End HE7.out N (by have := HS.out; have := HBy.out.1.1; simp [bytesOf_length, txt_length]; omega) (by have := HS.out; omega)).mono ?_
  rintro x w8 ⟨g, rfl, hg, hB, hb⟩
  have HX := Lib.hid (And.intro hg (And.intro hB hb))
  clear hg hB hb HE7
  go_wp2_with fail
  go_ret2
  exact ⟨g, rfl, HX.out.1, by have := HX.out.2.1; simpa using this, HX.out.2.2⟩
theorem encode_any (W : World) (k : Int) (e u : Nat) (s : ByteArray) (d f : Int) (A : Option Addr) (n c : Nat) (o : List Nat) (hs : s.size ≤ 100000) (he : e < 4294967296) (hu : u < 4294967296) (hr : Fit W) (hB : Bytes W A n o) (hA : A = none → c = 0) :
    Calls Tryz.prog 127 #[.agg #[.int .i64 k, .int .u32 e, .string s, .int .u32 u, .int .i64 d, .int .i64 f, .slice A n c]] W (EncAns W k e s u d f o) := by
  have hln : o.length = n := hB.1
  unfold EncAns
  rw [hln]
  cases hf : formedB k e s u d f n
  · exact encode_none W k e u s d f A n c o hs hr hf
  · have hf0 := hf
    unfold formedB at hf
    split at hf
    · rename_i hk
      subst hk
      simp only [Bool.and_eq_true] at hf
      have h60 := named_size hf.2.1
      refine (encode1 W e u s d f A n c h60 he hr hf0).mono ?_
      rintro x w' ⟨g, rfl, hg, hBy, hb⟩
      exact ⟨g, _, rfl, by simp [payL, bytesOf_length, txt_length]; omega, hg, by simpa [payL] using hBy, hb⟩
    · split at hf
      · rename_i hk
        subst hk
        simp only [fitsB, Bool.and_eq_true, decide_eq_true_eq] at hf
        have h60 := named_size hf.2.1
        obtain ⟨-, -, -, ⟨h4, h5⟩, ⟨h6, h7⟩, h8⟩ := hf
        obtain ⟨d, rfl⟩ := Int.eq_ofNat_of_zero_le h4
        obtain ⟨f, rfl⟩ := Int.eq_ofNat_of_zero_le h6
        refine (encode2 W e u s d f A n c o h60 he hu (by omega) (by omega) h8 hr hf0 hB hA _ rfl).mono ?_
        rintro x w' ⟨g, rfl, hg, hBy, hb⟩
        exact ⟨g, _, rfl, by simp [payL, bytesOf_length, txt_length, hln]; omega, hg, by simpa [payL] using hBy, hb⟩
      · split at hf
        · rename_i hk
          subst hk
          simp only [Bool.and_eq_true, decide_eq_true_eq] at hf
          refine (encode3 W e u s d f A n c (by omega) he hu hr hf0).mono ?_
          rintro x w' ⟨g, rfl, hg, hBy, hb⟩
          exact ⟨g, _, rfl, by simp [payL, bytesOf_length], hg, by simpa [payL] using hBy, hb⟩
        · cases hf
end Go.Proofs.YthhflkgngencdaaGreatDoor.bod
