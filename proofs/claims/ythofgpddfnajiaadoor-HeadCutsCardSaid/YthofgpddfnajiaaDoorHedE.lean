/- Where a head ends, as the document says. -/
import Derived.Test.YthofgpddfnajiaaDoorHedD
import Derived.Deep.CutBlock
import Derived.Deep.RegionHeld3
namespace Go.Proofs.YthofgpddfnajiaaDoor.hd
open Go.ChangeShapes Go.WideShapes Go.ChangeAt Go.RowKit
open Go.Proofs.YthofgpddfnajiaaDoor.row
open Go.Proofs.YthofgpddfnajiaaDoor.codec (Bytes vals)
set_option linter.unusedVariables false
set_option maxRecDepth 100000
set_option linter.unusedSimpArgs false

theorem step_append_own {α : Type} {F : α → List Value} {K by_ : Nat} {z : Value} (hF : Fm F K) (hK0 : 0 < K) (hK9 : K ≤ 9) (hby : by_ ≤ 1000) (hz : z.cells.size = K) {ops : Array Oper} {o : Oper} {a : Act} {w : World} {K' : Act → World → Prop} {Q : Exit → Act → World → Prop} {X : Prop} (hgd : o.guard = none) (s q : Operand) (T E : TypeId)
    (ho : o.op = .call { callee := .builtin .append, args := #[s, q], argTypes := #[T, T] }) (hT : Tryd.prog.underlying T = some (.slice E)) (hE : (Tryd.prog.info? E).map (fun i => (i.zero, i.size, i.bytes)) = some (some z, K, by_))
    (B : Nat) (v : Value) (ys : List α) (hs : a.eval s = v) (h : Own F K B E w v ys) (hB : B ≤ w.heap.size) (hn : ys.length ≤ 20000000) (y : α) (m : Nat × Nat) (g : Nat) (hg : g = w.heap.size) (hy : a.eval q = .slice (some ⟨g, 0, none⟩) 1 1) (L : Array Value) (hL : L = (F y).toArray)
    (hK : ∀ v' w', Own F K B E w' v' (ys ++ [y]) → w.grownBy w' v.ownBlock → (v'.ownBlock = v.ownBlock ∨ ∃ g, v'.ownBlock = some g ∧ w.heap.size ≤ g) → K' (a.put o.dst v') w') :
    if Region.wanted o (yielded ops a.tmps) = true then Oper.wp Tryd.prog o a (w.alloc (.cells L E m)) K' Q else X := by
  have hw : Region.wanted o (yielded ops a.tmps) = true := by simp [Region.wanted, hgd]
  rw [if_pos hw]
  subst hL
  obtain ⟨v', w', hr, h1, h2, h3⟩ := row.run_append_own hF hK0 hK9 hby hz T E hT hE w o.type B v ys h hB hn y m g hg
  unfold Oper.wp execOp
  simp only [ho, resolve, invoke, builtin, Sem.run_bind, Sem.run_pure, Result.andThen_ok, List.map_toArray, List.map_cons, List.map_nil, hs, hy, hr]
  exact hK v' w' h1 h2 h3
/-- What the document has read of a head. -/
def HS (W : World) (l : List Nat) (p : Nat) (b : Bool) (ys : List (ByteArray × ByteArray)) (v : Value) (w : World) : Prop :=
  Own cF 2 W.heap.size 35 w v ys ∧ Below W.heap.size W w ∧ ys.length ≤ p ∧ (∀ y ∈ ys, y.2.size ≤ p) ∧ (b = true → ys ≠ []) ∧ headN l = p + headN (l.drop p)
def HeadAns (W : World) (l : List Nat) (e : Ending) (w' : World) : Prop := ∃ u, e = .returned (.tuple #[.int .i64 (headN l : Nat), u]) ∧ Below W.heap.size W w'
theorem byte_at {w : World} {b o n k : Nat} {l : List Nat} (h : Bytes w (some ⟨b, o, none⟩) n l) (hk : k < n) : ∃ x : Nat, l[k]? = some x ∧ x < 256 ∧ w.cell? ⟨b, o + k, none⟩ = some (.int .u8 (x : Nat)) := by
  obtain ⟨h1, h2, h3⟩ := h
  obtain ⟨b', o', e, hc⟩ := h3 (by omega)
  cases e
  have hkl : k < l.length := by omega
  refine ⟨l[k], List.getElem?_eq_getElem hkl, h2 _ (List.getElem_mem hkl), ?_⟩
  rw [hc k hk]
  simp [List.getD, hkl]
theorem strOf_take (l : List Nat) (m : Nat) : (strOf l).extract 0 m = strOf (l.take m) := by
  apply ByteArray.ext
  rw [ByteArray.data_extract]
  unfold strOf
  simp [List.map_take]
theorem last_byte {l : List Nat} {m : Nat} (hm : l.length = m + 1) : l.getLast? = l[m]? := by rw [List.getLast?_eq_getElem?, hm, Nat.add_sub_cancel]
theorem HS.next {W : World} {l : List Nat} {p q : Nat} {b b' : Bool} {ys : List (ByteArray × ByteArray)} {v : Value} {w : World} (h : HS W l p b ys v w) (hpq : p ≤ q) (hb : b' = true → b = true) (hq : headN l = q + headN (l.drop q)) : HS W l q b' ys v w :=
  ⟨h.1, h.2.1, Nat.le_trans h.2.2.1 hpq, fun y hy => Nat.le_trans (h.2.2.2.1 y hy) hpq, fun e => h.2.2.2.2.1 (hb e), hq⟩
theorem infoFd : (Tryd.prog.info? 35).map (fun i => (i.zero, i.size, i.bytes)) = some (some (.agg #[.string ⟨#[]⟩, .string ⟨#[]⟩]), 2, 32) := by kernel_rfl
theorem HS.longer {W : World} {l : List Nat} {p q N cp g m : Nat} {ys : List (ByteArray × ByteArray)} {y : ByteArray × ByteArray} {s : ByteArray} {w : World} (h : HS W l p true ys (.slice (some ⟨g, 0, none⟩) N cp) w) (hy : ys[m]? = some y) (hg : W.heap.size ≤ g) (hpq : p ≤ q) (hs : y.2.size + s.size ≤ q) (hq : headN l = q + headN (l.drop q)) :
    HS W l q true (ys.set m (y.1, y.2 ++ s)) (.slice (some ⟨g, 0, none⟩) N cp) (w.setCell ⟨g, m * 2 + 1, none⟩ (.string (y.2 ++ s))) := by
  obtain ⟨h1, h2, h3, h4, h5, h6⟩ := h
  refine ⟨(own_put h1 hy _).1, h2.setCell (p := ⟨g, m * 2 + 1, none⟩) hg _, by rw [List.length_set]; omega, fun z hz => ?_, fun _ e => h5 rfl ?_, hq⟩
  · rcases List.mem_or_eq_of_mem_set hz with h | rfl
    · exact Nat.le_trans (h4 z h) hpq
    · show (y.2 ++ s).size ≤ q
      rw [ByteArray.size_append]
      exact hs
  · have := congrArg List.length e
    rw [List.length_set] at this
    exact List.eq_nil_of_length_eq_zero this
theorem HS.more {W : World} {l : List Nat} {p q : Nat} {b : Bool} {ys : List (ByteArray × ByteArray)} {v v' : Value} {y : ByteArray × ByteArray} {w w' : World} (h : HS W l p b ys v w) (hO : Own cF 2 W.heap.size 35 w' v' (ys ++ [y])) (hB : Below W.heap.size W w') (hpq : p < q) (hy : y.2.size ≤ q) (hq : headN l = q + headN (l.drop q)) :
    HS W l q true (ys ++ [y]) v' w' := by
  obtain ⟨h1, h2, h3, h4, h5, h6⟩ := h
  refine ⟨hO, hB, by rw [List.length_append]; simp; omega, fun z hz => ?_, fun _ => by simp, hq⟩
  rcases List.mem_append.1 hz with h | h
  · have := h4 z h; omega
  · simp at h
    subst h
    exact hy
set_option maxHeartbeats 4000000 in
theorem refHead_any (W : World) (A : Option Addr) (n c : Nat) (l : List Nat) (hB : Sl W A n c l) (hn : n ≤ 10000) :
    Calls Tryd.prog 6 #[.slice A n c] W fun e w' => HeadAns W l e w' := by
  have HS0 := Lib.hid (show HS W l 0 false [] (.slice none 0 0) W from ⟨Own.nil _ _ _ _ _, Below.refl _ _, Nat.le_refl _, by simp, by simp, by simp⟩)
  have HSl := Lib.hid hB
  have hnc : n ≤ c := hB.2.1
  have HL := Lib.hid hB.1.1
  clear hB
  go_enter Tryd.func6, Tryd.ntmps6
  go_wp2
  go_loopw [4, 5, 6] (fun v bo i wr => ∃ (p : Nat) (b : Bool) (ys : List (ByteArray × ByteArray)), p ≤ n ∧ i = .int .i64 p ∧ bo = .bool b ∧ Hid (HS W l p b ys v wr)) (fun _ _ i _ => n - (intOf i).toNat)
  case atStart => exact ⟨0, false, [], Nat.zero_le _, rfl, rfl, HS0⟩
  case round =>
    obtain ⟨p, b, ys, hp, rfl, rfl, HS1⟩ := hrel
    by_cases hlt : p < n
    · have hlt' : (p : Int) < (n : Int) := by omega
      have hBy := (HSl.out.below HS1.out.2.1).1
      obtain ⟨bk, o, rfl, -⟩ := hBy.2.2 (by omega)
      have HBy := Lib.hid hBy
      obtain ⟨K, hK⟩ : ∃ K, K = p + lf (l.drop p) := ⟨_, rfl⟩
      have hKn : K ≤ n := by have := lf_le (l.drop p); rw [List.length_drop, HL.out] at this; omega
      have hpK : p ≤ K := by omega
      have HK := Lib.hid hK
      clear hBy hK
      go_upto_block 2 with fail
      go_cut [7] from 12 to 181 (fun s7 wx => s7 = .int .i64 (K : Nat) ∧ wx = wr)
      case first =>
        as_aux_lemma =>
          go_wp2_with fail
          go_loopw [7] (fun i wx => ∃ k : Nat, k ≤ n ∧ i = .int .i64 k ∧ Hid (K = k + lf (l.drop k)) ∧ wx = wr) (fun i _ => n - (intOf i).toNat)
          case atStart => exact ⟨p, hp, rfl, HK, rfl⟩
          case round =>
            obtain ⟨k, hk, rfl, HKk, rfl⟩ := hrel
            by_cases hkl : k < n
            · obtain ⟨x, hx, hx2, c0⟩ := byte_at HBy.out hkl
              have hkl' : (k : Int) < (n : Int) := by omega
              by_cases h10 : x = 10
              · subst h10
                have hKk : K = k := by have := HKk.out; rw [lf_drop_hit hx] at this; omega
                have HKe := Lib.hid hKk
                clear hx hKk
                go_wp2_with fail
                go_meet
                exact ⟨by rw [HKe.out], rfl⟩
              · have q1 : ((x : Int) == 10) = false := by rw [beq_eq_false_iff_ne]; omega
                have HK2 := Lib.hid (show K = k + 1 + lf (l.drop (k + 1)) by rw [HKk.out, lf_drop_miss hx h10]; omega)
                clear hx h10 hx2
                go_wp2_with fail
                go_roundw
                case rel => first | exact ⟨k + 1, by omega, by go_num, HK2, trivial⟩ | exact ⟨k + 1, by omega, by go_num, HK2, rfl⟩
                case measure => (show n - ((k : Int) + 1).toNat < n - k; omega)
            · obtain rfl : k = n := by omega
              have hKk : K = k := by have := HKk.out; rw [lf_drop_end (by rw [HL.out]; exact Nat.le_refl _)] at this; omega
              have HKe := Lib.hid hKk
              clear hKk
              go_wp2_with fail
              go_meet
              exact ⟨by rw [HKe.out], rfl⟩
      case rest =>
        obtain ⟨rfl, hw⟩ := hcut; replace hw := hw.symm; subst hw
        have hcp : ¬ c = p := by omega
        have hpKi : (p : Int) ≤ (K : Int) := by omega
        have hKc : (K : Int) ≤ (c : Int) := by omega
        obtain ⟨L0, hL0⟩ : ∃ L0, L0 = (l.drop p).take (lf (l.drop p)) := ⟨_, rfl⟩
        have hKp : K - p = lf (l.drop p) := by have := HK.out; omega
        have hB0 : Bytes wr (some ⟨bk, o + p, none⟩) (K - p) L0 := by
          rw [hL0, hKp]
          exact Bytes.part (Bytes.rest HBy.out p (by omega) _ (fun b o e _ => by cases e; rfl)) _ (by have := lf_le (l.drop p); rw [List.length_drop, HL.out] at this; exact this)
        have HL0b := Lib.hid hB0.2.1
        obtain ⟨s0, hs0⟩ : ∃ s0, s0 = strOf L0 := ⟨_, rfl⟩
        have HS0q := Lib.hid hs0
        have hs0z : s0.size = K - p := by rw [hs0, strOf_size]; exact hB0.1
        have HS0z := Lib.hid (show s0.size ≤ 10000 ∧ s0.size = K - p from ⟨by omega, hs0z⟩)
        have hcv : (convert 22 9 (.slice (some ⟨bk, o + p, none⟩) (K - p) (c - p))).run Tryd.prog wr = .ok (.string s0) wr := by rw [hs0]; exact Bytes.text hB0 _
        obtain ⟨q, hq⟩ : ∃ q, q = p + nx (l.drop p) := ⟨_, rfl⟩
        have hqm : q = min (K + 1) n := by rw [hq, HK.out]; unfold nx; rw [List.length_drop, HL.out]; omega
        have hpq : p < q := by omega
        have hqn : q ≤ n := by omega
        have HQK := Lib.hid (show q ≤ K + 1 ∧ K ≤ q from ⟨by omega, by omega⟩)
        have hmin : (if (n : Int) < (K : Int) + 1 then (n : Int) else (K : Int) + 1) = (q : Int) := by split <;> omega
        obtain ⟨z, hz⟩ : ∃ z, decide (K < n) = z := ⟨_, rfl⟩
        have HZ := Lib.hid hz
        have HQ := Lib.hid hq
        have HLN := Lib.hid (show ln (l.drop p) = chop L0 by rw [hL0]; rfl)
        obtain ⟨s1, hs1⟩ : ∃ s1, s1 = strOf (chop L0) := ⟨_, rfl⟩
        have HS1q := Lib.hid hs1
        have HS1z := Lib.hid (show s1.size ≤ K - p ∧ s1.size = (ln (l.drop p)).length from ⟨by rw [hs1, strOf_size]; have := chop_le L0; have := hB0.1; omega, by rw [HLN.out, hs1, strOf_size]⟩)
        have HKp := Lib.hid hKp
        have hKn1 : IntKind.i64.wrap ((K : Int) + 1) = (K : Int) + 1 := IntWalk.i64_in _ (by omega)
        have HHn := Lib.hid hn
        clear hL0 hKp hB0 hs0 hs0z hqm hq hs1
        go_upto_region 11 with fail
        try rw [hmin]
        try rw [hz]
        clear hcv hmin hKn1
        go_cut [63] from 12 to 181 (fun s wx => s = .bool (z && decide (L0.getLast? = some 13)) ∧ wx = wr)
        case first =>
          as_aux_lemma =>
            cases z with
            | false =>
              go_wp2_with fail
              go_meet
              exact ⟨by simp, rfl⟩
            | true =>
              by_cases h0 : s0.size = 0
              · have e2 : decide (0 < s0.size) = false := decide_eq_false (by omega)
                have HE := Lib.hid (show ¬ L0.getLast? = some 13 by
                  rw [List.eq_nil_of_length_eq_zero (show L0.length = 0 by rw [← strOf_size, ← HS0q.out]; exact h0)]
                  simp)
                clear h0
                go_wp2_with fail
                go_meet
                exact ⟨by simp [HE.out], rfl⟩
              · obtain ⟨m, hm⟩ : ∃ m, s0.size = m + 1 := ⟨s0.size - 1, by omega⟩
                have hms' : m < s0.size := by omega
                have e0 : IntKind.i64.wrap ((s0.size : Int) - 1) = (m : Int) := (IntWalk.i64_in _ (by have := HS0z.out; omega)).trans (by omega)
                have e1 : (s0[m]'hms').toNat = byt s0 m := byt_at s0 m hms'
                have e2 : decide (0 < s0.size) = true := decide_eq_true (by omega)
                have hms : (m : Int) < (s0.size : Int) := by omega
                obtain ⟨x, hx⟩ : ∃ x, x = byt s0 m := ⟨_, rfl⟩
                rw [← hx] at e1
                have HX := Lib.hid (show (L0.getLast? = some 13) ↔ x = 13 by
                  rw [last_byte (show L0.length = m + 1 by rw [← strOf_size, ← HS0q.out]; exact hm)]
                  have hL : m < L0.length := by rw [← strOf_size, ← HS0q.out]; exact hms'
                  have h1 : L0[m]? = some L0[m] := List.getElem?_eq_getElem hL
                  have h2 := byt_strOf HL0b.out h1
                  rw [h1, hx, HS0q.out, h2]
                  simp)
                have HM := Lib.hid hm
                clear hm hx h0
                by_cases h13 : x = 13
                · have HE := Lib.hid (HX.out.2 h13)
                  subst h13
                  go_wp2_with fail
                  go_meet
                  exact ⟨by simp [HE.out], rfl⟩
                · have q1 : ((x : Int) == 13) = false := by rw [beq_eq_false_iff_ne]; omega
                  have HE := Lib.hid (show ¬ L0.getLast? = some 13 from fun h => h13 (HX.out.1 h))
                  clear h13
                  go_wp2_with fail
                  go_meet
                  exact ⟨by simp [HE.out], rfl⟩
        case rest =>
          obtain ⟨rfl, hw⟩ := hcut; replace hw := hw.symm; subst hw
          obtain ⟨f, hf⟩ : ∃ f, f = decide (L0.getLast? = some 13) := ⟨_, rfl⟩
          rw [← hf]
          have HF := Lib.hid hf
          clear hf
          go_upto_if 63 with fail
          go_cut [8] from 12 to 181 (fun s wx => s = .string s1 ∧ wx = wr)
          case first =>
            as_aux_lemma =>
              cases f with
              | false =>
                have HEq := Lib.hid (show s0 = s1 by rw [HS0q.out, HS1q.out]; unfold chop; rw [if_neg (of_decide_eq_false HF.out.symm)])
                cases z with
                | true =>
                  go_wp2_with fail
                  go_meet
                  exact ⟨by rw [HEq.out], rfl⟩
                | false =>
                  by_cases h0 : s0.size = 0
                  · have e2 : decide (0 < s0.size) = false := decide_eq_false (by omega)
                    clear h0
                    go_wp2_with fail
                    go_meet
                    exact ⟨by rw [HEq.out], rfl⟩
                  · obtain ⟨m, hm⟩ : ∃ m, s0.size = m + 1 := ⟨s0.size - 1, by omega⟩
                    have hms' : m < s0.size := by omega
                    have e0 : IntKind.i64.wrap ((s0.size : Int) - 1) = (m : Int) := (IntWalk.i64_in _ (by have := HS0z.out; omega)).trans (by omega)
                    have e1 : (s0[m]'hms').toNat = byt s0 m := byt_at s0 m hms'
                    have e2 : decide (0 < s0.size) = true := decide_eq_true (by omega)
                    have hms : (m : Int) < (s0.size : Int) := by omega
                    obtain ⟨x, hx⟩ : ∃ x, x = byt s0 m := ⟨_, rfl⟩
                    rw [← hx] at e1
                    have HX := Lib.hid (show (L0.getLast? = some 13) ↔ x = 13 by
                      rw [last_byte (show L0.length = m + 1 by rw [← strOf_size, ← HS0q.out]; exact hm)]
                      have hL : m < L0.length := by rw [← strOf_size, ← HS0q.out]; exact hms'
                      have h1 : L0[m]? = some L0[m] := List.getElem?_eq_getElem hL
                      have h2 := byt_strOf HL0b.out h1
                      rw [h1, hx, HS0q.out, h2]
                      simp)
                    have HM := Lib.hid hm
                    have h13 : ¬ x = 13 := fun h => (of_decide_eq_false HF.out.symm) (HX.out.2 h)
                    have q1 : ((x : Int) == 13) = false := by rw [beq_eq_false_iff_ne]; omega
                    clear hm hx h0 h13
                    go_wp2_with fail
                    go_meet
                    exact ⟨by rw [HEq.out], rfl⟩
              | true =>
                have hlast := of_decide_eq_true HF.out.symm
                have h0 : ¬ s0.size = 0 := fun h => by
                  rw [List.eq_nil_of_length_eq_zero (show L0.length = 0 by rw [← strOf_size, ← HS0q.out]; exact h)] at hlast
                  simp at hlast
                obtain ⟨m, hm⟩ : ∃ m, s0.size = m + 1 := ⟨s0.size - 1, by omega⟩
                have hms' : m < s0.size := by omega
                have e0 : IntKind.i64.wrap ((s0.size : Int) - 1) = (m : Int) := (IntWalk.i64_in _ (by have := HS0z.out; omega)).trans (by omega)
                have e1 : (s0[m]'hms').toNat = byt s0 m := byt_at s0 m hms'
                have e2 : decide (0 < s0.size) = true := decide_eq_true (by omega)
                have hms : (m : Int) < (s0.size : Int) := by omega
                obtain ⟨x, hx⟩ : ∃ x, x = byt s0 m := ⟨_, rfl⟩
                rw [← hx] at e1
                have HX := Lib.hid (show (L0.getLast? = some 13) ↔ x = 13 by
                  rw [last_byte (show L0.length = m + 1 by rw [← strOf_size, ← HS0q.out]; exact hm)]
                  have hL : m < L0.length := by rw [← strOf_size, ← HS0q.out]; exact hms'
                  have h1 : L0[m]? = some L0[m] := List.getElem?_eq_getElem hL
                  have h2 := byt_strOf HL0b.out h1
                  rw [h1, hx, HS0q.out, h2]
                  simp)
                have HM := Lib.hid hm
                have h13 : x = 13 := HX.out.1 hlast
                have HEq := Lib.hid (show s0.extract 0 m = s1 by
                  rw [HS0q.out, HS1q.out, strOf_take]
                  unfold chop
                  rw [if_pos hlast, show L0.length - 1 = m by rw [← strOf_size, ← HS0q.out, hm]; rfl])
                have hms2 : (m : Int) ≤ (s0.size : Int) := by omega
                clear hm hx h0 hlast
                subst h13
                cases z with
                | true =>
                  go_wp2_with fail
                  go_meet
                  exact ⟨by rw [HEq.out], rfl⟩
                | false =>
                  go_wp2_with fail
                  go_meet
                  exact ⟨by rw [HEq.out], rfl⟩
          case rest =>
            obtain ⟨rfl, hw⟩ := hcut; replace hw := hw.symm; subst hw
            go_upto_region 15 with fail
            go_cut [99] from 12 to 181 (fun s wx => s = .bool (z && decide (s1.size = 0)) ∧ wx = wr)
            case first =>
              as_aux_lemma =>
                cases z with
                | false =>
                  go_wp2_with fail
                  go_meet
                  exact ⟨by simp, rfl⟩
                | true =>
                  by_cases h0 : s1.size = 0
                  · have hem := empty_yes h0
                    have hK1 : K - p ≤ 1 := by
                      have h1 := chop_nil (l := L0) (by rw [← HLN.out]; exact List.eq_nil_of_length_eq_zero (by rw [← HS1z.out.2]; exact h0))
                      rw [← strOf_size, ← HS0q.out, HS0z.out.2] at h1
                      exact h1
                    have e3 : IntKind.i64.wrap ((K : Int) - (p : Int)) = (K : Int) - (p : Int) := IntWalk.i64_in _ (by omega)
                    have e4 : (K : Int) - (p : Int) ≤ 1 := by omega
                    have HH0 := Lib.hid h0
                    clear h0
                    go_wp2_with fail
                    go_meet
                    exact ⟨by simp [HH0.out], rfl⟩
                  · have hem := empty_no h0
                    have HH0 := Lib.hid h0
                    clear h0
                    go_wp2_with fail
                    go_meet
                    exact ⟨by simp [HH0.out], rfl⟩
            case rest =>
              obtain ⟨rfl, hw⟩ := hcut; replace hw := hw.symm; subst hw
              obtain ⟨f2, hf2⟩ : ∃ f2, f2 = (z && decide (s1.size = 0)) := ⟨_, rfl⟩
              rw [← hf2]
              have HF2 := Lib.hid hf2
              clear hf2
              cases f2 with
              | true =>
                have HE := Lib.hid (show headN l = q by
                  have h1 := HF2.out
                  simp at h1
                  have h2 := headN_step (by rw [HL.out]; exact hlt) HS1.out.2.2.2.2.2
                  rw [h2, ← HS1z.out.2, h1.2, ← HQ.out]
                  rfl)
                have HT := Lib.hid (trimmed_any wr W.heap.size _ ys HS1.out.1 (by have := HS1.out.2.2.1; omega) (fun y hy => by have := HS1.out.2.2.2.1 y hy; omega))
                have HB := Lib.hid HS1.out.2.1
                go_wp2_with fail
                refine HT.out.mono ?_
                rintro e w2 ⟨⟨u, rfl⟩, hb⟩
                have HB2 := Lib.hid (HB.out.trans hb)
                clear hb
                go_wp2_with fail
                go_ret2
                exact ⟨u, by rw [HE.out]; rfl, HB2.out⟩
              | false =>
                have HN := Lib.hid (show headN l = q + headN (l.drop q) by
                  have h2 := headN_step (by rw [HL.out]; exact hlt) HS1.out.2.2.2.2.2
                  rw [← HQ.out] at h2
                  by_cases h0 : s1.size = 0
                  · have h1 := HF2.out
                    have hzf : z = false := by simpa [h0] using h1.symm
                    have hKz : ¬ (K < n) := of_decide_eq_false (HZ.out.trans hzf)
                    have := HQK.out
                    rw [h2, ← HS1z.out.2, h0, List.drop_of_length_le (by rw [HL.out]; omega), headN_nil]
                    rfl
                  · rw [h2, leftN, if_pos (decide_eq_true (by rw [← HS1z.out.2]; omega))])
                clear hz
                go_upto_region 18 with fail
                go_cut [115] from 12 to 181 (fun s wx => (∃ b2, s = .bool b2) ∧ wx = wr)
                case first =>
                  as_aux_lemma =>
                    by_cases h0 : s1.size = 0
                    · have hem := empty_yes h0
                      clear h0
                      go_wp2_with fail
                      go_meet
                      exact ⟨⟨_, rfl⟩, rfl⟩
                    · have hem := empty_no h0
                      have hms' : 0 < s1.size := by omega
                      have e1 : (s1[0]'hms').toNat = byt s1 0 := byt_at s1 0 hms'
                      have hms : (0 : Int) < (s1.size : Int) := by omega
                      obtain ⟨x, hx⟩ : ∃ x, x = byt s1 0 := ⟨_, rfl⟩
                      rw [← hx] at e1
                      clear hx h0
                      by_cases h1 : x = 32
                      · subst h1
                        go_wp2_with fail
                        go_meet
                        exact ⟨⟨_, rfl⟩, rfl⟩
                      · have q1 : ((x : Int) == 32) = false := by rw [beq_eq_false_iff_ne]; omega
                        clear h1
                        go_wp2_with fail
                        go_meet
                        exact ⟨⟨_, rfl⟩, rfl⟩
                case rest =>
                  obtain ⟨⟨b2, rfl⟩, hw⟩ := hcut; replace hw := hw.symm; subst hw
                  have hs1z : s1.size ≤ 10000 := by have := HS1z.out.1; have := HS0z.out; omega
                  cases b2 with
                  | true =>
                    cases b with
                    | true =>
                      have hne : ys ≠ [] := HS1.out.2.2.2.2.1 rfl
                      obtain ⟨m, hm⟩ : ∃ m, ys.length = m + 1 := ⟨ys.length - 1, by have := List.length_pos_iff.2 hne; omega⟩
                      obtain ⟨g, cp, hv, hg, hgl⟩ := own_form HS1.out.1 (by omega)
                      subst hv
                      obtain ⟨N, hN⟩ : ∃ N, N = ys.length := ⟨_, rfl⟩
                      rw [← hN] at HS1 ⊢
                      obtain ⟨y, hy⟩ : ∃ y, ys[m]? = some y := ⟨_, List.getElem?_eq_getElem (by omega)⟩
                      obtain ⟨c0, z0⟩ := own_cell HS1.out.1 hy
                      have hmN : (m : Int) < (N : Int) := by omega
                      have hNp : N ≤ p := by rw [hN]; exact HS1.out.2.2.1
                      have e2 : IntKind.i64.wrap ((N : Int) - 1) = (m : Int) := (IntWalk.i64_in _ (by omega)).trans (by omega)
                      have hy2 := HS1.out.2.2.2.1 y (List.mem_of_getElem? hy)
                      have hcat : ∀ w, (Op.stringOp .add y.2 s1).run Tryd.prog w = .ok (.string (y.2 ++ s1)) w := fun w => run_string_add_sum w _ _ (by omega)
                      have HSn := Lib.hid (HS1.out.longer hy hg (Nat.le_of_lt hpq) (show y.2.size + s1.size ≤ q by have := HS1z.out.1; have := HQK.out; omega) HN.out)
                      clear hne hm hg hgl hN hy hNp hy2 hs1z
                      go_wp2_with fail
                      go_roundw
                      case rel => first | exact ⟨q, true, ys.set m (y.1, y.2 ++ s1), hqn, by go_num, rfl, HSn⟩ | ((repeat apply Exists.intro); exact ⟨⟨q, true, ys.set m (y.1, y.2 ++ s1), hqn, by go_num, rfl, HSn⟩, rfl⟩)
                      case measure => (show n - ((q : Int)).toNat < n - p; omega)
                    | false =>
                      have HSn := Lib.hid (HS1.out.next (q := q) (b' := false) (Nat.le_of_lt hpq) (fun e => e) HN.out)
                      go_wp2_with fail
                      go_roundw
                      case rel => first | exact ⟨q, false, ys, hqn, by go_num, rfl, HSn⟩ | ((repeat apply Exists.intro); exact ⟨⟨q, false, ys, hqn, by go_num, rfl, HSn⟩, rfl⟩)
                      case measure => (show n - ((q : Int)).toNat < n - p; omega)
                  | false =>
                    go_upto_block 4 with fail
                    go_cut [11] from 12 to 181 (fun s wx => (∃ k : Nat, s = .int .i64 k ∧ k ≤ s1.size) ∧ wx = wr)
                    case first =>
                      as_aux_lemma =>
                        go_wp2_with fail
                        go_loopw [11] (fun i wx => ∃ k : Nat, k ≤ s1.size ∧ i = .int .i64 k ∧ wx = wr) (fun i _ => s1.size - (intOf i).toNat)
                        case atStart => exact ⟨0, Nat.zero_le _, rfl, rfl⟩
                        case round =>
                          obtain ⟨k, hk, rfl, rfl⟩ := hrel
                          by_cases hkl : k < s1.size
                          · have hkl' : (k : Int) < (s1.size : Int) := by omega
                            have e1 : (s1[k]'hkl).toNat = byt s1 k := byt_at s1 k hkl
                            obtain ⟨x, hx⟩ : ∃ x, x = byt s1 k := ⟨_, rfl⟩
                            rw [← hx] at e1
                            clear hx
                            by_cases h1 : x = 58
                            · subst h1
                              go_wp2_with fail
                              go_meet
                              exact ⟨⟨k, rfl, hk⟩, rfl⟩
                            · have q1 : ((x : Int) == 58) = false := by rw [beq_eq_false_iff_ne]; omega
                              have q1p : ((x : Int) != 58) = true := by rw [bne_iff_ne]; omega
                              by_cases h2 : x < 33
                              · have q2 : ¬ ((33 : Int) ≤ (x : Int)) := by omega
                                clear h1
                                go_wp2_with fail
                                go_meet
                                exact ⟨⟨k, rfl, hk⟩, rfl⟩
                              · have q2 : (33 : Int) ≤ (x : Int) := by omega
                                by_cases h3 : 126 < x
                                · have q3 : (126 : Int) < (x : Int) := by omega
                                  clear h1 h2
                                  go_wp2_with fail
                                  go_meet
                                  exact ⟨⟨k, rfl, hk⟩, rfl⟩
                                · have q3 : ¬ ((126 : Int) < (x : Int)) := by omega
                                  clear h1 h2 h3
                                  go_wp2_with fail
                                  go_roundw
                                  case rel => first | exact ⟨k + 1, by omega, by go_num, trivial⟩ | exact ⟨k + 1, by omega, by go_num, rfl⟩ | exact ⟨k + 1, by omega, by go_num⟩
                                  case measure => (show s1.size - ((k : Int) + 1).toNat < s1.size - k; omega)
                          · obtain rfl : k = s1.size := by omega
                            go_wp2_with fail
                            go_meet
                            exact ⟨⟨_, rfl, Nat.le_refl _⟩, rfl⟩
                    case rest =>
                      obtain ⟨⟨k, rfl, hk⟩, hw⟩ := hcut; replace hw := hw.symm; subst hw
                      go_upto_region 24 with fail
                      go_cut [5] from 12 to 181 (fun s wx => (∃ b3, s = .bool b3 ∧ Hid (b3 = true → k < s1.size)) ∧ wx = wr)
                      case first =>
                        as_aux_lemma =>
                          by_cases hk0 : k = 0
                          · subst hk0
                            go_wp2_with fail
                            go_meet
                            exact ⟨⟨_, rfl, Lib.hid (fun e => by cases e)⟩, rfl⟩
                          · have q0 : decide (0 < k) = true := decide_eq_true (by omega)
                            have q0' : (0 : Int) < (k : Int) := by omega
                            by_cases hkl : k < s1.size
                            · have hkl' : (k : Int) < (s1.size : Int) := by omega
                              have e1 : (s1[k]'hkl).toNat = byt s1 k := byt_at s1 k hkl
                              obtain ⟨x, hx⟩ : ∃ x, x = byt s1 k := ⟨_, rfl⟩
                              rw [← hx] at e1
                              clear hx hk0
                              go_wp2_with fail
                              go_meet
                              exact ⟨⟨_, rfl, Lib.hid (fun _ => hkl)⟩, rfl⟩
                            · have hke : k = s1.size := by omega
                              have q4 : decide (k < s1.size) = false := decide_eq_false hkl
                              clear hk0 hke hkl
                              go_wp2_with fail
                              go_meet
                              exact ⟨⟨_, rfl, Lib.hid (fun e => by cases e)⟩, rfl⟩
                      case rest =>
                        obtain ⟨⟨b3, rfl, HK3⟩, hw⟩ := hcut; replace hw := hw.symm; subst hw
                        cases b3 with
                        | false =>
                          have HSn := Lib.hid (HS1.out.next (q := q) (b' := false) (Nat.le_of_lt hpq) (fun e => by cases e) HN.out)
                          go_wp2_with fail
                          go_roundw
                          case rel => first | exact ⟨q, false, ys, hqn, by go_num, rfl, HSn⟩ | ((repeat apply Exists.intro); exact ⟨⟨q, false, ys, hqn, by go_num, rfl, HSn⟩, rfl⟩)
                          case measure => (show n - ((q : Int)).toNat < n - p; omega)
                        | true =>
                          have hkl : k < s1.size := HK3.out rfl
                          have hkl1 : (k : Int) ≤ (s1.size : Int) := by omega
                          have hkl2 : (k : Int) + 1 ≤ (s1.size : Int) := by omega
                          have e3 : IntKind.i64.wrap ((k : Int) + 1) = (k : Int) + 1 := IntWalk.i64_in _ (by omega)
                          have t1 : ((k : Int) + 1).toNat = k + 1 := by omega
                          have b1 : (0 : Int) ≤ (k : Int) + 1 := by omega
                          have HSz := Lib.hid (show (s1.extract (k + 1) s1.size).size ≤ q by rw [ByteArray.size_extract]; have := HS1z.out.1; have := HQK.out; omega)
                          have HLn : Hid (ys.length ≤ 20000000) := Lib.hid (by have := HS1.out.2.2.1; omega)
                          clear hk hs1z
                          go_upto_region 26 with fail
                          have HOd := Lib.hid (show Own cF 2 W.heap.size 35 wr.drew u4 ys from HS1.out.1.below (codec.below_draws (Below.refl _ _) 1))
                          have HBd := Lib.hid (show Below W.heap.size W wr.drew from codec.below_draws HS1.out.2.1 1)
                          refine wp_region_noPanic ?_
                          refine wp_region_held_drew (S := fun _ => True) (by kernel_rfl) trivial (fun hHeld => ?_)
                          refine wpAnyH_take (i := 0) (v := ?_) rfl (by kernel_rfl) (by kernel_rfl) (by kernel_rfl) (fun _ _ _ h => h) (Or.inl ⟨by kernel_rfl, ?_⟩) hHeld ?_
                          rotate_left
                          · (intro w' hw'; go_simp; first | done | with_reducible rfl)
                          refine wpAnyH_take (i := 1) (v := ?_) rfl (by kernel_rfl) (by kernel_rfl) (by kernel_rfl) (fun _ _ _ h => h) (Or.inl ⟨by kernel_rfl, ?_⟩) hHeld ?_
                          rotate_left
                          · (intro w' hw'; go_simp; first | done | with_reducible rfl)
                          refine wpAnyH_take (i := 2) (v := ?_) rfl (by kernel_rfl) (by kernel_rfl) (by kernel_rfl) (fun _ _ _ h => h) (Or.inl ⟨by kernel_rfl, ?_⟩) hHeld ?_
                          rotate_left
                          · (intro w' hw'; go_simp; first | done | with_reducible rfl)
                          refine wpAnyH_take (i := 3) (v := ?_) rfl (by kernel_rfl) (by kernel_rfl) (by kernel_rfl) (fun _ _ _ h => h) (Or.inl ⟨by kernel_rfl, ?_⟩) hHeld ?_
                          rotate_left
                          · (intro w' hw'; go_simp; first | done | with_reducible rfl)
                          refine wpAnyH_take (i := 4) (v := ?_) rfl (by kernel_rfl) (by kernel_rfl) (by kernel_rfl) (fun _ _ _ h => h) (Or.inl ⟨by kernel_rfl, ?_⟩) hHeld ?_
                          rotate_left
                          · (intro w' hw'; go_simp; first | done | with_reducible rfl)
                          refine wpAnyH_take (i := 5) (v := ?_) rfl (by kernel_rfl) (by kernel_rfl) (by kernel_rfl) (fun _ _ _ h => h) (Or.inl ⟨by kernel_rfl, ?_⟩) hHeld ?_
                          rotate_left
                          · (intro w' hw'; go_simp; first | done | with_reducible rfl)
                          refine wpAnyH_take (i := 6) (v := ?_) rfl (by kernel_rfl) (by kernel_rfl) (by kernel_rfl) (fun _ _ _ h => h) (Or.inl ⟨by kernel_rfl, ?_⟩) hHeld ?_
                          rotate_left
                          · (intro w' hw'; go_simp; first | done | with_reducible rfl)
                          refine wpAnyH_take (i := 7) (v := ?_) rfl (by kernel_rfl) (by kernel_rfl) (by kernel_rfl) (fun _ _ _ h => h) (Or.inl ⟨by kernel_rfl, ?_⟩) hHeld ?_
                          rotate_left
                          · (intro w' hw'; go_simp; first | done | with_reducible rfl)
                          refine wpAnyH_take (i := 8) (v := ?_) rfl (by kernel_rfl) (by kernel_rfl) (by kernel_rfl) (fun _ _ _ h => h) (Or.inl ⟨by kernel_rfl, ?_⟩) hHeld ?_
                          rotate_left
                          · (intro w' hw'; go_simp; first | done | with_reducible rfl)
                          generalize wr.drew = w6 at *
                          refine wpAnyH_ready (rs := [9]) (by kernel_rfl) (by simp) ?_
                          refine AllReadyH.cons rfl (fun K hK => ?_) AllReadyH.nil
                          go_simp
                          refine hK.out _ _ trivial (fun hH1 => ?_)
                          clear hK K hHeld
                          refine wpAnyH_ready (rs := [10]) (by kernel_rfl) (by simp) ?_
                          refine AllReadyH.cons rfl (fun K hK => ?_) AllReadyH.nil
                          refine step_append_own fF (by decide) (by decide) (by_ := 32) (by decide) (z := .agg #[.string ⟨#[]⟩, .string ⟨#[]⟩]) rfl rfl (.tmp 171) (.tmp 180) 26 35 rfl Tryd.underlying26 infoFd W.heap.size u4 ys (by simp [Act.eval, Act.put]) HOd.out HBd.out.size HLn.out (s1.extract 0 k, s1.extract (k + 1) s1.size) (0, 0) w6.heap.size rfl (by simp [Act.eval, Act.put]) _ rfl ?_
                          intro v7 w7 ho7 hg7 hat7
                          have HSn := Lib.hid (HS1.out.more ho7 (grown_below HBd.out HOd.out hg7) hpq HSz.out HN.out)
                          clear ho7 hg7 hat7
                          refine hK.out _ _ trivial (fun hH2 => ?_)
                          clear hK K hH1
                          refine wpAnyH_take (i := 11) (v := ?_) rfl (by kernel_rfl) (by kernel_rfl) (by kernel_rfl) (fun _ _ _ h => h) (Or.inl ⟨by kernel_rfl, ?_⟩) hH2 ?_
                          rotate_left
                          · (intro w' hw'; go_simp; first | done | with_reducible rfl)
                          refine wpAnyH_done (by kernel_rfl) ?_ _
                          refine NoPanic.normal ?_
                          go_simp
                          go_wp2_with fail
                          go_roundw
                          case rel => first | exact ⟨q, true, ys ++ [(s1.extract 0 k, s1.extract (k + 1) s1.size)], hqn, by go_num, rfl, HSn⟩ | ((repeat apply Exists.intro); exact ⟨⟨q, true, ys ++ [(s1.extract 0 k, s1.extract (k + 1) s1.size)], hqn, by go_num, rfl, HSn⟩, rfl⟩)
                          case measure => (show n - ((q : Int)).toNat < n - p; omega)
    · obtain rfl : p = n := by omega
      have HT := Lib.hid (trimmed_any wr W.heap.size _ ys HS1.out.1 (by have := HS1.out.2.2.1; omega) (fun y hy => by have := HS1.out.2.2.2.1 y hy; omega))
      have HE := Lib.hid (show headN l = p by rw [HS1.out.2.2.2.2.2, List.drop_of_length_le (by rw [HL.out]; exact Nat.le_refl _), headN_nil, Nat.add_zero])
      have HB := Lib.hid HS1.out.2.1
      go_wp2_with fail
      refine HT.out.mono ?_
      rintro e w2 ⟨⟨u, rfl⟩, hb⟩
      have HB2 := Lib.hid (HB.out.trans hb)
      clear hb
      go_wp2_with fail
      go_ret2
      exact ⟨u, by rw [HE.out]; rfl, HB2.out⟩
end Go.Proofs.YthofgpddfnajiaaDoor.hd
