/- A time's text, as the program writes it. -/
import Derived.Test.YtklmbiekpilkhaaGreatDoorDatB
import Derived.Lib.AppendStr
import Derived.OwnWalk
import Derived.Laws.OwnMore
import Derived.Laws.IdiomStrings
namespace Go.Proofs.YtklmbiekpilkhaaGreatDoor.dat
open Go.ChangeShapes Go.WideShapes Go.ChangeAt Go.RowKit
open Go.Lib (dg itoa byteCells strCells)
set_option linter.unusedVariables false
set_option linter.unusedSimpArgs false

theorem info5 : ∃ i, Tryz.prog.info? 5 = some i ∧ i.zero = some (.int .u8 0) ∧ i.size = 1 ∧ i.bytes = 1 := by
  have h : (Tryz.prog.info? 5).map (fun i => (i.zero, i.size, i.bytes)) = some (some (.int .u8 0), 1, 1) := by kernel_rfl
  cases hq : Tryz.prog.info? 5 with
  | none => rw [hq] at h; cases h
  | some i =>
    rw [hq] at h
    simp only [Option.map_some, Option.some.injEq, Prod.mk.injEq] at h
    exact ⟨i, rfl, h.1, h.2.1, h.2.2⟩
/-- The slice v holds the bytes l, in a block of the call's own. -/
def Bu (W0 : World) (B : Nat) (v : Value) (l : List UInt8) (w : World) : Prop := w.ownsRow B 5 1 v l.length (byteCells l) ∧ Below B W0 w ∧ B ≤ w.heap.size
theorem Bu.grown {W0 w w' : World} {B : Nat} {v v' : Value} {l l' : List UInt8} (h : Bu W0 B v l w) (ho : w'.ownsRow B 5 1 v' l'.length (byteCells l')) (hg : w.grownBy w' v.ownBlock) : Bu W0 B v' l' w' :=
  ⟨ho, h.2.1.grown hg h.2.2 (fun k hk => (h.1.lt k hk).1), Nat.le_trans h.2.2 hg.size⟩
theorem Bu.alloc {W0 w : World} {B : Nat} {v : Value} {l : List UInt8} (h : Bu W0 B v l w) (o : Obj) : Bu W0 B v l (w.alloc o) :=
  ⟨h.1.alloc o, h.2.1.alloc h.2.2 o, Nat.le_trans h.2.2 ((Below.refl 0 w).alloc (Nat.zero_le _) o).size⟩
theorem Bu.made (w : World) (cur : Array Value) (cap : Nat) (hm : cap ≤ maxLen) (hs : cur.size = cap * 1) : Bu w w.heap.size (.slice (some ⟨w.heap.size, 0, none⟩) 0 cap) [] (w.alloc (.cells cur 5)) :=
  ⟨World.ownsRow_made w cur cap (Nat.le_refl _) hm hs, (Below.refl _ _).alloc (Nat.le_refl _) _, by simp⟩
theorem cells_one (l : List UInt8) : ∀ u ∈ byteCells l, u.oneCell' = true := by
  intro u hu
  simp only [byteCells, List.mem_map] at hu
  obtain ⟨b, -, rfl⟩ := hu
  rfl
/-- Bytes that the statement itself has laid. -/
theorem step_lit {ops : Array Oper} {rest : List Oper} {o : Oper} {a : Act} {Q : Exit → Act → World → Prop} (hgd : o.guard = none) (s x : Operand)
    (ho : o.op = .call { callee := .builtin .append, args := #[s, x], argTypes := #[22, 22] })
    (W0 w0 : World) (B : Nat) (v : Value) (l new : List UInt8) (cs : Array Value) (m : Nat) (hcs : cs = (byteCells new).toArray) (hm : m = new.length) (hb : Bu W0 B v l w0) (hs : a.eval s = v)
    (hx : a.eval x = .slice (some ⟨w0.heap.size, 0, none⟩) m m) (hl : l.length + new.length ≤ 1000)
    (h : ∀ v' w', Bu W0 B v' (l ++ new) w' → wpList Tryz.prog ops Q rest (a.put o.dst v') w') : wpList Tryz.prog ops Q (o :: rest) a (w0.alloc (.cells cs 5)) := by
  subst hcs
  subst hm
  obtain ⟨i, h1, h2, h3, h4⟩ := info5
  have hb' := hb.alloc (.cells (byteCells new).toArray 5)
  refine wpList_append_own _ hgd s x 22 ho B 5 i (.int .u8 0) 1 1 Tryz.underlying22 h1 h2 h3 h4 rfl (by decide) v l.length (byteCells l) hs hb'.1 ⟨w0.heap.size, 0, none⟩ new.length new.length (byteCells new) hx (by simp [byteCells]) ?_ (cells_one _) (by unfold maxLen; omega) (by omega) hb'.2.2 ?_
  · intro j u hu
    have e : ((⟨w0.heap.size, 0, none⟩ : Addr).add j) = ⟨w0.heap.size, j, none⟩ := by simp [Addr.add]; intro h; exact h.symm
    rw [e]
    simp only [World.cell?]
    rw [heap_alloc_new]
    simpa using hu
  · intro v' w' ho' hg _
    refine h v' w' (hb'.grown ?_ hg)
    rw [List.length_append]
    simpa [byteCells] using ho'
/-- A text's bytes. -/
theorem step_str {ops : Array Oper} {rest : List Oper} {o : Oper} {a : Act} {Q : Exit → Act → World → Prop} {w : World} (hgd : o.guard = none) (s x : Operand)
    (ho : o.op = .call { callee := .builtin .append, args := #[s, x], argTypes := #[22, 9] })
    (W0 : World) (B : Nat) (v : Value) (l new : List UInt8) (hb : Bu W0 B v l w) (hs : a.eval s = v) (hx : a.eval x = .string ⟨new.toArray⟩) (hl : l.length + new.length ≤ 1000)
    (h : ∀ v' w', Bu W0 B v' (l ++ new) w' → wpList Tryz.prog ops Q rest (a.put o.dst v') w') : wpList Tryz.prog ops Q (o :: rest) a w := by
  obtain ⟨i, h1, h2, h3, h4⟩ := info5
  have hz : (⟨new.toArray⟩ : ByteArray).size = new.length := rfl
  refine Lib.wpList_append_own_string w hgd s x 22 9 ho B 5 i Tryz.underlying22 Tryz.underlying9 h1 h2 h3 h4 v l.length (byteCells l) hs hb.1 ⟨new.toArray⟩ hx (by rw [hz]; unfold maxLen; omega) (by rw [hz]; omega) hb.2.2 ?_
  intro v' w' ho' hg _
  refine h v' w' (hb.grown ?_ hg)
  rw [List.length_append]
  rw [hz, Lib.strCells_toArray] at ho'
  simpa [byteCells] using ho'
theorem Bu.text {W0 w : World} {B : Nat} {v : Value} {l : List UInt8} (h : Bu W0 B v l w) (h0 : 0 < l.length) : (convert 22 9 v).run Tryz.prog w = .ok (.string ⟨l.toArray⟩) w := by
  obtain ⟨hl, h⟩ := h.1
  rcases h with ⟨-, h⟩ | ⟨g, cap, cur, rfl, -, hg, h2, -, h4, h5⟩
  · omega
  · refine Go.run_convert_bytes_back (P := Tryz.prog) w 22 9 5 ⟨g, 0, none⟩ cap l Tryz.underlying22 Tryz.underlying5 Tryz.underlying9 (fun j hj => ?_)
    have e : ((⟨g, 0, none⟩ : Addr).add j) = ⟨g, j, none⟩ := by simp [Addr.add]; intro h; exact h.symm
    rw [e]
    simp only [World.cell?, hg]
    have h6 : (cur.toList.take (l.length * 1))[j]? = some (.int .u8 (l[j].toNat : Int)) := by rw [h5]; simp [byteCells, hj]
    rw [List.getElem?_take] at h6
    split at h6
    · simpa using h6
    · cases h6

theorem two_any (W0 w : World) (B : Nat) (v : Value) (l : List UInt8) (n : Nat) (hn : n < 100) (hl : l.length ≤ 100) (hb : Bu W0 B v l w) :
    Calls Tryz.prog 144 #[v, .int .i64 n] w fun e w' => ∃ v', e = .returned v' ∧ Bu W0 B v' (l ++ two n) w' := by
  have hd := fun w => digit_any w n (by omega)
  have hq : ((48 : Int) + (n : Int) / 10) = ((dg n 1).toNat : Int) := by rw [dg_nat, show 10 ^ 1 = 10 from rfl]; omega
  obtain ⟨x, hx⟩ : ∃ x, dg n 0 = x := ⟨_, rfl⟩
  obtain ⟨y, hy⟩ : ∃ y, dg n 1 = y := ⟨_, rfl⟩
  have e : two n = [y, x] := by unfold two; rw [hx, hy]
  rw [e]
  rw [hx] at hd
  rw [hy] at hq
  have HQ := Lib.hid hq
  have HB := Lib.hid hb
  clear hx hy e hq hb
  go_enter Tryz.func144, Tryz.ntmps144
  go_wp2_with (first | (go_at_call 141; refine (hd _).mono ?_; rintro e w' ⟨rfl, rfl⟩) | (at_builtin; refine step_lit rfl _ _ rfl W0 _ B v l [y, x] _ 2 (by rw [HQ.out]; rfl) rfl HB.out rfl rfl (by simp; omega) ?_; intro v1 w1 hB1))
  go_ret
  exact ⟨_, rfl, hB1⟩
end Go.Proofs.YtklmbiekpilkhaaGreatDoor.dat
