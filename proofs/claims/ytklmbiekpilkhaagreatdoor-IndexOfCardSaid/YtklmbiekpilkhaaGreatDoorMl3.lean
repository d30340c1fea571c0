/- What the document makes of notes. -/
import Derived.Test.YtklmbiekpilkhaaGreatDoorMl2
import Derived.Deep.DeepCutAuto
import Derived.Tactics2
namespace Go.Proofs.YtklmbiekpilkhaaGreatDoor.lg
open Go.ChangeShapes Go.WideShapes Go.ChangeAt Go.RowKit
open Go.Proofs.YtklmbiekpilkhaaGreatDoor.codec (Bytes vals)
open Go.Proofs.YtklmbiekpilkhaaGreatDoor.bod (cell_at)
set_option linter.unusedVariables false
set_option maxRecDepth 100000
set_option linter.unusedSimpArgs false

/-- The document's mailbox under way, in block r + 1. -/
def OS (W1 : World) (r : Nat) (S : ByteArray) (E X : Nat) (v : Value) (zs : List Y) (w : World) : Prop :=
  w.heap[r + 1]? = some (.cells #[.string S, .int .u32 (E : Nat), .int .u32 (X : Nat), v] 56 (0, 0)) ∧ Own cM 4 (r + 2) 60 w v zs ∧ (∀ y ∈ zs, ∀ ad, y.A = some ad → 0 < y.m → ad.block < r) ∧ Below (r + 1) W1 w ∧ r + 2 ≤ w.heap.size
theorem OS.below {W1 : World} {r : Nat} {S : ByteArray} {E X : Nat} {v : Value} {zs : List Y} {w w' : World} (h : OS W1 r S E X v zs w) (hb : Below w.heap.size w w') : OS W1 r S E X v zs w' := by
  obtain ⟨h1, h2, h3, h4, h5⟩ := h
  exact ⟨by rw [hb.block _ (by omega)]; exact h1, h2.below hb, h3, h4.trans (hb.mono (by omega)), Nat.le_trans h5 hb.size⟩
theorem OS.alloc {W1 : World} {r : Nat} {S : ByteArray} {E X : Nat} {v : Value} {zs : List Y} {w : World} (h : OS W1 r S E X v zs w) (o : Obj) : OS W1 r S E X v zs (w.alloc o) := h.below ((Below.refl _ _).alloc (Nat.le_refl _) _)
theorem OS.drewN {W1 : World} {r : Nat} {S : ByteArray} {E X : Nat} {v : Value} {zs : List Y} {w : World} (h : OS W1 r S E X v zs w) (q : Nat) : OS W1 r S E X v zs (w.drewN q) := h.below (codec.below_draws (Below.refl _ _) q)
theorem OS.vne {W1 : World} {r : Nat} {S : ByteArray} {E X : Nat} {v : Value} {zs : List Y} {w : World} (h : OS W1 r S E X v zs w) : v.ownBlock ≠ some (r + 1) := fun e => by
  have := (h.2.1.lt e).1
  omega
theorem OS.own {W1 : World} {r : Nat} {S : ByteArray} {E X : Nat} {v : Value} {zs : List Y} {w : World} (h : OS W1 r S E X v zs w) (j : Nat) (u : Value) : Own cM 4 (r + 2) 60 (w.setCell ⟨r + 1, j, none⟩ u) v zs :=
  h.2.1.below_other h.vne (fun y hy ad e h0 e' => by have := h.2.2.1 y hy ad e h0; omega)
theorem OS.setS {W1 : World} {r : Nat} {S S' : ByteArray} {E X : Nat} {v : Value} {zs : List Y} {w : World} (h : OS W1 r S E X v zs w) : OS W1 r S' E X v zs (w.setCell ⟨r + 1, 0, none⟩ (.string S')) :=
  ⟨by rw [heap_setCell_same _ _ _ _ _ _ h.1]; rfl, h.own 0 _, h.2.2.1, h.2.2.2.1.setCell (Nat.le_refl _) _, by simpa using h.2.2.2.2⟩
theorem OS.setE {W1 : World} {r : Nat} {S : ByteArray} {E E' X : Nat} {v : Value} {zs : List Y} {w : World} (h : OS W1 r S E X v zs w) : OS W1 r S E' X v zs (w.setCell ⟨r + 1, 1, none⟩ (.int .u32 (E' : Nat))) :=
  ⟨by rw [heap_setCell_same _ _ _ _ _ _ h.1]; rfl, h.own 1 _, h.2.2.1, h.2.2.2.1.setCell (Nat.le_refl _) _, by simpa using h.2.2.2.2⟩
theorem OS.setX {W1 : World} {r : Nat} {S : ByteArray} {E X X' : Nat} {v : Value} {zs : List Y} {w : World} (h : OS W1 r S E X v zs w) : OS W1 r S E X' v zs (w.setCell ⟨r + 1, 2, none⟩ (.int .u32 (X' : Nat))) :=
  ⟨by rw [heap_setCell_same _ _ _ _ _ _ h.1]; rfl, h.own 2 _, h.2.2.1, h.2.2.2.1.setCell (Nat.le_refl _) _, by simpa using h.2.2.2.2⟩
/-- What the document answers. -/
def OfAns (W : World) (ns : List Nt) (e : Ending) (w' : World) : Prop := ∃ A n c qs, e = .returned (.tuple #[.agg #[.string (nmL ns), .int .u32 (boxE ns : Nat), .int .u32 (boxX ns : Nat), .slice A n c], .bool (cl (epo ns) (lives ns)).2]) ∧ Rd cM 4 w' A n qs ∧ n ≤ c ∧ nts qs = boxed ns ∧ Below W.heap.size W w'
/-- Is one gone by what stands ahead of j? -/
def gto (t : Nt) (l : List Nt) (i j : Nat) : Bool := decide (t.k ≠ 2) || ((l.take j).drop (i + 1)).any fun q => decide (q.k = 3 ∧ q.e = t.e ∧ q.u = t.u)
theorem gto_start (t : Nt) (l : List Nt) (i : Nat) : gto t l i (i + 1) = decide (t.k ≠ 2) := by
  unfold gto
  rw [List.drop_eq_nil_of_le (by simp; omega)]
  simp
theorem gto_step {t : Nt} {l : List Nt} {i j : Nat} {q : Nt} (hj : i + 1 ≤ j) (hq : l[j]? = some q) : gto t l i (j + 1) = (gto t l i j || decide (q.k = 3 ∧ q.e = t.e ∧ q.u = t.u)) := by
  have hl := (List.getElem?_eq_some_iff.1 hq).1
  unfold gto
  rw [take_next hq, List.drop_append, List.any_append, Bool.or_assoc]
  have : i + 1 - (l.take j).length = 0 := by rw [List.length_take]; omega
  rw [this]
  simp
theorem gto_end {t : Nt} {l : List Nt} {i : Nat} (ht : l[i]? = some t) : livB l i = !gto t l i l.length := by
  unfold livB gone gto
  rw [ht, List.take_length]
theorem natmax (a b : Nat) : ((max a b : Nat) : Int) = max (a : Int) (b : Int) := by omega
theorem natmax1 (a b : Nat) : ((max a (b + 1) : Nat) : Int) = max (a : Int) ((b : Int) + 1) := by omega
theorem OS.push {W1 : World} {r : Nat} {S : ByteArray} {E X : Nat} {v v' : Value} {zs : List Y} {w w' : World} {y : Y} (h : OS W1 r S E X v zs w) (ho : Own cM 4 (r + 2) 60 w' v' (zs ++ [y])) (hg : w.grownBy w' v.ownBlock) (hy : ∀ ad, y.A = some ad → 0 < y.m → ad.block < r) :
    OS W1 r S E X v' (zs ++ [y]) (w'.setCell ⟨r + 1, 3, none⟩ v') ∧ w'.heap[r + 1]? = some (.cells #[.string S, .int .u32 (E : Nat), .int .u32 (X : Nat), v] 56 (0, 0)) := by
  obtain ⟨h1, h2, h3, h4, h5⟩ := h
  have hv : ∀ k, k < r + 2 → some k ≠ v.ownBlock := fun k hk e => by have := (h2.lt e.symm).1; omega
  have hb : w'.heap[r + 1]? = some (.cells #[.string S, .int .u32 (E : Nat), .int .u32 (X : Nat), v] 56 (0, 0)) := by rw [hg.block _ (by omega) (hv _ (by omega))]; exact h1
  have hall : ∀ z ∈ zs ++ [y], ∀ ad, z.A = some ad → 0 < z.m → ad.block < r := by
    intro z hz ad e h0
    rcases List.mem_append.1 hz with hz | hz
    · exact h3 z hz ad e h0
    · simp at hz
      subst hz
      exact hy ad e h0
  refine ⟨⟨by rw [heap_setCell_same _ _ _ _ _ _ hb]; rfl, ho.below_other (fun e => by have := (ho.lt e).1; omega) (fun z hz ad e h0 e' => by have := hall z hz ad e h0; omega), hall, (h4.trans ⟨hg.os, hg.tape, hg.output, hg.size, fun k hk => hg.block k (by omega) (hv k (by omega))⟩).setCell (Nat.le_refl _) _, by have := hg.size; simp; omega⟩, hb⟩
theorem OS.step {W1 : World} {r g m c k : Nat} {S : ByteArray} {E X : Nat} {qs : List Y} {w : World} (h : OS W1 r S E X (.slice (some ⟨g, 0, none⟩) m c) (ruY qs k) w) (hk : k < (ruY qs k).length) : OS W1 r S E X (.slice (some ⟨g, 0, none⟩) m c) (ruY qs (k + 1)) (w.setCell ⟨g, k * 4, none⟩ (.int .u32 ((k + 1 : Nat) : Nat))) := by
  obtain ⟨h1, h2, h3, h5, h6⟩ := h
  have hy : (ruY qs k)[k]? = some (ruY qs k)[k] := List.getElem?_eq_getElem hk
  have hlen := h2.len'
  obtain ⟨s1, s2⟩ := World.ownsRow.stored (hlen ▸ h2.1) (k * 4) (.int .u32 ((k + 1 : Nat) : Nat))
  have hg := (h2.lt (g := g) rfl).1
  have hgp : r + 1 ≠ g := by omega
  have hst := ruY_step hy
  have hmem : ∀ y ∈ ruY qs (k + 1), ∃ z ∈ ruY qs k, y.A = z.A ∧ y.m = z.m ∧ y.c = z.c ∧ y.n.o = z.n.o := by
    intro y hy'
    rw [hst] at hy'
    rcases List.mem_or_eq_of_mem_set hy' with h | h
    · exact ⟨y, h, rfl, rfl, rfl, rfl⟩
    · exact ⟨_, List.getElem_mem hk, by rw [h]; rfl, by rw [h]; rfl, by rw [h]; rfl, by rw [h]; rfl⟩
  refine ⟨by rw [heap_setCell_other _ _ _ _ hgp]; exact h1, ⟨?_, fun y hy' => ?_⟩, fun y hy' ad e h0 => ?_, h5.setCell (p := ⟨g, k * 4, none⟩) (by show r + 1 ≤ g; omega) _, by simpa using h6⟩
  · rw [hst, ← fl_set _ k (k + 1) _ hy, List.length_set, hlen]
    exact s1
  · obtain ⟨z, hz, e1, e2, e3, e4⟩ := hmem y hy'
    obtain ⟨o1, o2⟩ := h2.2 z hz
    have o3 := o1.grown s2 (fun ad e h0 e' => o2 ad e h0 e'.symm)
    unfold Oct at *
    rw [e1, e2, e3, e4]
    exact ⟨o3, o2⟩
  · obtain ⟨z, hz, e1, e2, _⟩ := hmem y hy'
    exact h3 z hz ad (e1 ▸ e) (e2 ▸ h0)
/-- The mailbox, copied into the result. -/
theorem OS.done {W W1 : World} {r m c : Nat} {A : Option Addr} {S : ByteArray} {E X : Nat} {zs : List Y} {w : World} (h : OS W1 r S E X (.slice A m c) zs w) (hbw : Below r W W1) (hr : r = W.heap.size) (hz : ∀ w1, Below (r + 1) W1 w1 → w1.heap[r]? = some (.cells #[.string ⟨#[]⟩, .int .u32 0, .int .u32 0, .slice none 0 0] 56 (0, 0))) :
    let w' := (((w.setCell ⟨r, 0, none⟩ (.string S)).setCell ⟨r, 1, none⟩ (.int .u32 (E : Nat))).setCell ⟨r, 2, none⟩ (.int .u32 (X : Nat))).setCell ⟨r, 3, none⟩ (.slice A m c)
    w'.heap[r]? = some (.cells #[.string S, .int .u32 (E : Nat), .int .u32 (X : Nat), .slice A m c] 56 (0, 0)) ∧ Rd cM 4 w' A m zs ∧ m ≤ c ∧ Below W.heap.size W w' := by
  obtain ⟨h1, h2, h3, h5, h6⟩ := h
  obtain ⟨k1, k2, k3⟩ := four (hz _ h5) rfl (.string S) (.int .u32 (E : Nat)) (.int .u32 (X : Nat)) (.slice A m c)
  obtain ⟨A6, c6, e6, hc6, -, hR6⟩ := h2.rd fM
  have hm : m = zs.length := by simp at e6; exact e6.2.1
  have ha : A = A6 := by simp at e6; exact e6.1
  have hcc : c = c6 := by simp at e6; exact e6.2.2
  rw [← hm, ← ha] at hR6
  refine ⟨k1, hR6.other _ k2 (fun ad e e' => ?_) (fun y hy ad e h0 e' => ?_), by omega, k3 _ _ (hr ▸ hbw.trans (h5.mono (by omega))) (by omega)⟩
  · have h1 := (h2.lt (g := ad.block) (by rw [e]; rfl)).1
    omega
  · have h1 := h3 y hy ad e h0
    omega
/-- What was made of the first notes. -/
def OL (W1 : World) (r : Nat) (ys : List Y) (k : Nat) (w : World) : Prop := ∃ v, OS W1 r (nmL (nts ys)) (epo (nts ys)) (rnx (epo (nts ys)) ((nts ys).take k)) v (pick ys (livB (nts ys)) k) w
set_option maxHeartbeats 4000000 in
theorem of_any (W : World) (A : Option Addr) (n c : Nat) (ys : List Y) (hR : Rd cN 7 W A n ys) (hn : n ≤ 16000000) (hok : ∀ y ∈ ys, y.n.ok) :
    Calls Tryz.prog 15 #[.slice A n c] W fun x w' => OfAns W (nts ys) x w' := by
  obtain ⟨r, hr⟩ : ∃ r, r = W.heap.size := ⟨_, rfl⟩
  obtain ⟨W1, hW1⟩ : ∃ W1, W1 = (W.alloc (.cells #[.string ⟨#[]⟩, .int .u32 0, .int .u32 0, .slice none 0 0] 56)).alloc (.cells #[.string ⟨#[]⟩, .int .u32 0, .int .u32 1, .slice none 0 0] 56) := ⟨_, rfl⟩
  have HBW := Lib.hid (show Below r W W1 by rw [hW1, hr]; exact ((Below.refl _ _).alloc (Nat.le_refl _) _).alloc (by simp) _)
  have HWS := Lib.hid (show r + 2 = W1.heap.size by rw [hW1, hr]; simp)
  have HRC := Lib.hid (fun (w1 : World) (h : Below (r + 1) W1 w1) => show w1.heap[r]? = some (.cells #[.string ⟨#[]⟩, .int .u32 0, .int .u32 0, .slice none 0 0] 56 (0, 0)) from (h.block _ (by omega)).trans (by rw [hW1, hr, heap_alloc_old _ _ (by simp)]; exact heap_alloc_new _ _))
  have hp0 : W1.heap[r + 1]? = some (.cells #[.string ⟨#[]⟩, .int .u32 0, .int .u32 1, .slice none 0 0] 56 (0, 0)) := by rw [hW1, hr]; have := heap_alloc_new (W.alloc (.cells #[.string ⟨#[]⟩, .int .u32 0, .int .u32 0, .slice none 0 0] 56)) (.cells #[.string ⟨#[]⟩, .int .u32 0, .int .u32 1, .slice none 0 0] 56); simpa using this
  have HS0 : Hid (OS W1 r (nmL []) (epo []) 1 (.slice none 0 0) [] W1) := Lib.hid ⟨hp0, Own.nil _ _ _ _ _, by simp, Below.refl _ _, by rw [← HWS.out]; omega⟩
  have HRd := Lib.hid (fun (w' : World) (h : Below (r + 1) W1 w') => hR.below (hr ▸ (HBW.out.trans (h.mono (by omega)))))
  have HOld := Lib.hid (show ∀ (k : Nat) (y : Y), ys[k]? = some y → ∀ ad, y.A = some ad → 0 < y.m → ad.block < r from fun k y hy ad e h0 => by
    have hk : k < n := by rw [← hR.1]; exact (List.getElem?_eq_some_iff.1 hy).1
    obtain ⟨b, o, z, h1, h2, h3, h4⟩ := hR.2 k hk
    rw [hy] at h2
    cases h2
    rw [hr]
    exact h4.1.lt ad e h0)
  have HBlk := Lib.hid (show ∀ b o, A = some ⟨b, o, none⟩ → 0 < n → b < r from fun b o e h0 => by
    obtain ⟨b', o', z, h1, h2, h3, h4⟩ := hR.2 0 h0
    rw [e] at h1
    cases h1
    rw [hr]
    exact block_lt_of_cell (h3 0 _ rfl))
  have HL := Lib.hid (show (nts ys).length = n by rw [nts_len, hR.1])
  have HO := Lib.hid hok
  have HW1 := Lib.hid hW1
  have HR0 := Lib.hid hr
  clear hW1 hp0 hR hok hr
  go_enter Tryz.func15, Tryz.ntmps15
  go_wp2_with fail
  rw [← HW1.out, ← HR0.out]
  go_loopw [17] (fun i wr => ∃ k : Nat, k ≤ n ∧ i = .int .i64 k ∧ Hid (OS W1 r (nmL ((nts ys).take k)) (epo ((nts ys).take k)) 1 (.slice none 0 0) [] wr)) (fun i _ => n - (intOf i).toNat)
  case atStart => exact ⟨0, Nat.zero_le _, rfl, HS0⟩
  case round =>
    obtain ⟨k, hk, rfl, HS⟩ := hrel
    by_cases hlt : k < n
    · have hos := HS.out
      obtain ⟨b, o, y, rfl, hx, c0, c1, c2, c3, c4, c5, c6, hoc⟩ := (HRd.out _ hos.2.2.2.1).at7 k hlt
      have HT := Lib.hid ((congrArg epo (take_next (nts_at hx))).trans (epo_snoc _ _))
      have HT2 := Lib.hid ((congrArg nmL (take_next (nts_at hx))).trans (nmL_snoc _ _))
      have hyo := (HO.out y (List.mem_of_getElem? hx)).parts
      obtain ⟨⟨tk, te, ts, tu, td, tf, to_⟩, a, A', m', c'⟩ := y
      simp only [] at c0 c1 c2 c3 c4 c5 c6 HT HT2 hyo
      have d1 := cell_at hos.1 1 _ rfl
      have f1 := frozen_of_row _ _ 1 _ _ hos.1
      have f0 := frozen_of_row _ _ 0 _ _ hos.1
      have d0 := cell_at hos.1 0 _ rfl
      have hlt' : (k : Int) < (n : Int) := by omega
      have hbr : b < r := HBlk.out b o rfl (by omega)
      have hbr1 : ¬ b = r + 1 := by omega
      clear hx hoc hos
      by_cases h3 : tk = 3
      · subst h3
        have HE : Hid (nmL ((nts ys).take (k + 1)) = nmL ((nts ys).take k)) := by rw [HT2.out]; exact Lib.hid (if_pos rfl)
        clear HT2 hyo
        go_wp2_with fail
        go_still_tail 9, (by kernel_rfl)
        go_wp2_with fail
        have HS1 : Hid (OS W1 r (nmL ((nts ys).take (k + 1))) (epo ((nts ys).take (k + 1))) 1 (.slice none 0 0) [] (wr.setCell ⟨r + 1, 1, none⟩ (.int .u32 (max ((epo ((nts ys).take k) : Nat) : Int) (te : Int)))).drew) := by
          rw [HE.out, HT.out, ← natmax]
          exact Lib.hid (HS.out.setE.drewN 1)
        go_roundw
        case rel => first | exact ⟨k + 1, by omega, by go_num, HS1⟩ | ((repeat apply Exists.intro); exact ⟨⟨k + 1, by omega, by go_num, HS1⟩, rfl⟩)
        case measure => (show n - ((k : Int) + 1).toNat < n - k; omega)
      · have h3' : decide ((tk : Int) < 3) = true := by rw [decide_eq_true_iff]; omega
        have HE : Hid (nmL ((nts ys).take (k + 1)) = ts) := by rw [HT2.out]; exact Lib.hid (if_neg h3)
        clear HT2 h3 hyo
        go_wp2_with fail
        go_still_tail 9, (by kernel_rfl)
        go_wp2_with fail
        have HS1 : Hid (OS W1 r (nmL ((nts ys).take (k + 1))) (epo ((nts ys).take (k + 1))) 1 (.slice none 0 0) [] ((wr.setCell ⟨r + 1, 1, none⟩ (.int .u32 (max ((epo ((nts ys).take k) : Nat) : Int) (te : Int)))).setCell ⟨r + 1, 0, none⟩ (.string ts)).drew) := by
          rw [HE.out, HT.out, ← natmax]
          exact Lib.hid (HS.out.setE.setS.drewN 1)
        go_roundw
        case rel => first | exact ⟨k + 1, by omega, by go_num, HS1⟩ | ((repeat apply Exists.intro); exact ⟨⟨k + 1, by omega, by go_num, HS1⟩, rfl⟩)
        case measure => (show n - ((k : Int) + 1).toNat < n - k; omega)
    · obtain rfl : k = n := by omega
      have HTK : Hid ((nts ys).take k = nts ys) := Lib.hid (List.take_of_length_le (by rw [HL.out]; omega))
      have hos := HS.out
      rw [HTK.out] at hos
      have HL0 : Hid (OL W1 r ys 0 wr) := Lib.hid ⟨_, hos⟩
      have HKK := Lib.hid (And.intro hk hk)
      clear hos HTK HS hlt hk HKK
      go_wp2_with fail
      go_loopw [6, 7, 44] (fun cn la i wr => ∃ j : Nat, j ≤ k ∧ i = .int .i64 j ∧ cn = .bool (cl (epo (nts ys)) (pick (nts ys) (livB (nts ys)) j)).2 ∧ la = .int .u32 ((cl (epo (nts ys)) (pick (nts ys) (livB (nts ys)) j)).1 : Nat) ∧ Hid (OL W1 r ys j wr)) (fun _ _ i _ => k - (intOf i).toNat)
      case atStart => exact ⟨0, Nat.zero_le _, rfl, rfl, rfl, HL0⟩
      case round =>
        obtain ⟨j, hj, rfl, rfl, rfl, HS⟩ := hrel
        obtain ⟨v, hos⟩ := HS.out
        by_cases hlt : j < k
        · obtain ⟨b, o, y, rfl, hx, c0, c1, c2, c3, c4, c5, c6, hoc⟩ := (HRd.out _ hos.2.2.2.1).at7 j hlt
          have hyo := (HO.out y (List.mem_of_getElem? hx)).parts
          obtain ⟨⟨tk, te, ts, tu, td, tf, to_⟩, a, A', m', c'⟩ := y
          simp only [] at c0 c1 c2 c3 c4 c5 c6 hyo
          have HX := Lib.hid hx
          have HOS := Lib.hid hos
          have HYO := Lib.hid hyo
          have hbr : b < r := HBlk.out b o rfl (by omega)
          have hbr1 : ¬ b = r + 1 := by omega
          have hlt' : (j : Int) < (k : Int) := by omega
          have hgt := hos.2.2.2.2
          clear hx hoc hos hyo
          obtain ⟨B15, hB15⟩ : ∃ B, B = decide (1 < tk ∧ te = epo (nts ys)) := ⟨_, rfl⟩
          have HB15 := Lib.hid hB15
          clear hB15
          go_upto_region 15 with (fail)
          go_cut [60] from 45 to 144 (fun s wx => s = .bool B15 ∧ Hid (OS W1 r (nmL (nts ys)) (epo (nts ys)) (rnx (epo (nts ys)) ((nts ys).take j)) v (pick ys (livB (nts ys)) j) wx) ∧ Hid (wx.heap[wr.heap.size]? = some (.cells #[.int .i64 (tk : Nat), .int .u32 (te : Nat), .string ts, .int .u32 (tu : Nat), .int .i64 td, .int .i64 tf, .slice A' m' c'] 62 (0, 0))))
          case first =>
            have d1 := cell_at HOS.out.1 1 _ rfl
            have hpw : r + 1 < wr.heap.size := by omega
            by_cases h1 : tk = 1
            · subst h1
              have hb : B15 = false := by rw [HB15.out]; simp
              subst hb
              go_wp2_with fail
              go_meet
              exact ⟨rfl, Lib.hid (HOS.out.alloc _), Lib.hid (heap_alloc_new _ _)⟩
            · have h1' : decide ((1 : Int) < (tk : Int)) = true := by have := HYO.out; rw [decide_eq_true_iff]; omega
              by_cases hE : te = epo (nts ys)
              · have hE' : ((te : Int) == ((epo (nts ys) : Nat) : Int)) = true := by rw [beq_iff_eq]; omega
                have hb : B15 = true := by have := HYO.out; rw [HB15.out, decide_eq_true_iff]; omega
                subst hb
                clear hE h1
                go_wp2_with fail
                go_meet
                exact ⟨rfl, Lib.hid (HOS.out.alloc _), Lib.hid (heap_alloc_new _ _)⟩
              · have hE' : ((te : Int) == ((epo (nts ys) : Nat) : Int)) = false := by rw [beq_eq_false_iff_ne]; omega
                have hb : B15 = false := by rw [HB15.out, decide_eq_false_iff_not]; omega
                subst hb
                clear hE h1
                go_wp2_with fail
                go_meet
                exact ⟨rfl, Lib.hid (HOS.out.alloc _), Lib.hid (heap_alloc_new _ _)⟩
          case rest =>
            obtain ⟨rfl, HO5, HN5⟩ := hcut
            have HP9 := Lib.hid hgt
            have HVP := Lib.hid (show ∀ g, v.ownBlock = some g → g < wr.heap.size from fun g e => (HOS.out.2.1.lt e).2)
            generalize wr.heap.size = p9 at *
            have hpp : ¬ p9 = r + 1 := by omega
            have hpp' : ¬ r + 1 = p9 := by omega
            have HRX := Lib.hid ((congrArg (rnx (epo (nts ys))) (take_next (nts_at HX.out))).trans (rnx_snoc _ _ _))
            clear c0 c1 c2 c3 c4 c5 c6
            go_upto_if 60 with (fail)
            go_cut [] from 45 to 144 (fun wx => Hid (OS W1 r (nmL (nts ys)) (epo (nts ys)) (rnx (epo (nts ys)) ((nts ys).take (j + 1))) v (pick ys (livB (nts ys)) j) wx) ∧ Hid (wx.heap[p9]? = some (.cells #[.int .i64 (tk : Nat), .int .u32 (te : Nat), .string ts, .int .u32 (tu : Nat), .int .i64 td, .int .i64 tf, .slice A' m' c'] 62 (0, 0))))
            case first =>
              cases B15 with
              | false =>
                have HRX2 : Hid (rnx (epo (nts ys)) ((nts ys).take (j + 1)) = rnx (epo (nts ys)) ((nts ys).take j)) := by rw [HRX.out]; exact Lib.hid (if_neg (of_decide_eq_false HB15.out.symm))
                go_wp2_with fail
                go_meet
                exact ⟨by rw [HRX2.out]; exact HO5, HN5⟩
              | true =>
                have HRX2 : Hid (rnx (epo (nts ys)) ((nts ys).take (j + 1)) = max (rnx (epo (nts ys)) ((nts ys).take j)) (if tu < 4294967295 then tu + 1 else tu)) := by rw [HRX.out]; exact Lib.hid (if_pos (of_decide_eq_true HB15.out.symm))
                have e3 := cell_at HN5.out 3 _ rfl
                have d2 := cell_at HO5.out.1 2 _ rfl
                have f2 := frozen_of_row _ _ 2 _ _ HO5.out.1
                by_cases hu : tu < 4294967295
                · have hu' : decide ((tu : Int) < 4294967295) = true := by rw [decide_eq_true_iff]; omega
                  rw [if_pos hu] at HRX2
                  go_wp2_with fail
                  go_meet
                  exact ⟨by rw [HRX2.out, ← natmax1]; exact Lib.hid HO5.out.setX, by rw [← natmax1]; exact Lib.hid ((heap_setCell_other _ _ _ _ (by show p9 ≠ r + 1; omega)).trans HN5.out)⟩
                · have hu' : decide ((tu : Int) < 4294967295) = false := by rw [decide_eq_false_iff_not]; omega
                  rw [if_neg hu] at HRX2
                  go_wp2_with fail
                  go_meet
                  exact ⟨by rw [HRX2.out, ← natmax]; exact Lib.hid HO5.out.setX, by rw [← natmax]; exact Lib.hid ((heap_setCell_other _ _ _ _ (by show p9 ≠ r + 1; omega)).trans HN5.out)⟩
            case rest =>
              obtain ⟨HO6, HN6⟩ := hcut
              clear HRX HO5 HN5 HB15
              have e0 := cell_at HN6.out 0 _ rfl
              have hp9 : p9 < wc.heap.size := block_lt_of_cell e0
              obtain ⟨T, hT⟩ : ∃ T : Nt, T = ⟨tk, te, ts, tu, td, tf, to_⟩ := ⟨_, rfl⟩
              have HTT := Lib.hid hT
              have HG0 : Hid (gto T (nts ys) j (j + 1) = ((tk : Int) != 2)) := by
                rw [gto_start, hT]
                exact Lib.hid (show decide (tk ≠ 2) = ((tk : Int) != 2) by rw [Bool.eq_iff_iff, decide_eq_true_iff, bne_iff_ne]; omega)
              clear hT
              go_wp2_with fail
              go_loopw [11, 12] (fun g i wr2 => ∃ q d : Nat, j + 1 ≤ q ∧ q ≤ k ∧ i = .int .i64 q ∧ g = .bool (gto T (nts ys) j q) ∧ wr2 = wc.drewN d) (fun _ i _ => k - (intOf i).toNat)
              case atStart => exact ⟨j + 1, 0, Nat.le_refl _, by omega, by go_num, by rw [HG0.out], rfl⟩
              case round =>
                obtain ⟨q, d, hq1, hq2, rfl, rfl, rfl⟩ := hrel
                by_cases hqk : q < k
                · have HOq := HO6.out.drewN d
                  obtain ⟨b', o', z, hb', hz, c0, c1, c2, c3, c4, c5, c6, -⟩ := (HRd.out _ HOq.2.2.2.1).at7 q hqk
                  obtain ⟨rfl, rfl⟩ : b' = b ∧ o' = o := by simp at hb'; omega
                  have HGS := Lib.hid ((show ∀ T' : Nt, T' = ⟨tk, te, ts, tu, td, tf, to_⟩ → gto T' (nts ys) j (q + 1) = (gto T' (nts ys) j q || decide (z.n.k = 3 ∧ z.n.e = te ∧ z.n.u = tu)) from fun T' h => by subst h; exact gto_step hq1 (nts_at hz)) T HTT.out)
                  obtain ⟨⟨zk, ze, zs, zu, zd, zf, zo⟩, za, zA, zm, zc⟩ := z
                  have e1 : (wc.drewN d).cell? ⟨p9, 1, none⟩ = some (.int .u32 (te : Nat)) := cell_at (w := wc.drewN d) HN6.out 1 _ rfl
                  have e3 : (wc.drewN d).cell? ⟨p9, 3, none⟩ = some (.int .u32 (tu : Nat)) := cell_at (w := wc.drewN d) HN6.out 3 _ rfl
                  simp only [] at c0 c1 c2 c3 c4 c5 c6 HGS
                  obtain ⟨gv, hgv⟩ : ∃ gv, gv = gto T (nts ys) j q := ⟨_, rfl⟩
                  rw [← hgv] at HGS ⊢
                  have hq' : (q : Int) < (k : Int) := by omega
                  generalize hWq : wc.drewN d = Wq at *
                  have HWq := Lib.hid hWq
                  clear hz hb' HOq hgv hWq hqk e0
                  cases gv with
                  | true =>
                    have HG1 : Hid (gto T (nts ys) j (q + 1) = true) := by rw [HGS.out]; exact Lib.hid (Bool.true_or _)
                    clear HGS
                    go_wp2_with fail
                    go_quiet (fail)
                    have HQ : Hid (Wq.drewN nq = wc.drewN (d + nq)) := by
                      show _ = _
                      rw [← HWq.out, World.drewN_drewN]
                    clear c0 c1 c2 c3 c4 c5 c6 e1 e3 HWq
                    generalize Wq.drewN nq = W2 at *
                    go_wp2_with fail
                    go_roundw
                    case rel => first | exact ⟨q + 1, d + nq, by omega, by omega, by go_num, by rw [HG1.out], HQ.out⟩ | ((repeat apply Exists.intro); exact ⟨⟨q + 1, d + nq, by omega, by omega, by go_num, by rw [HG1.out], HQ.out⟩, rfl⟩)
                    case measure => (show k - ((q : Int) + 1).toNat < k - q; omega)
                  | false =>
                    by_cases h3 : zk = 3
                    · subst h3
                      by_cases h4 : ze = te
                      · have h4' : ((ze : Int) == (te : Int)) = true := by rw [beq_iff_eq]; omega
                        by_cases h5 : zu = tu
                        · have h5' : ((zu : Int) == (tu : Int)) = true := by rw [beq_iff_eq]; omega
                          have HG1 : Hid (gto T (nts ys) j (q + 1) = true) := by rw [HGS.out]; exact Lib.hid (by rw [Bool.false_or, decide_eq_true_iff]; exact ⟨rfl, h4, h5⟩)
                          clear HGS h4 h5
                          go_wp2_with fail
                          go_quiet (fail)
                          have HQ : Hid (Wq.drewN nq = wc.drewN (d + nq)) := by
                            show _ = _
                            rw [← HWq.out, World.drewN_drewN]
                          clear c0 c1 c2 c3 c4 c5 c6 e1 e3 HWq
                          generalize Wq.drewN nq = W2 at *
                          go_wp2_with fail
                          go_roundw
                          case rel => first | exact ⟨q + 1, d + nq, by omega, by omega, by go_num, by rw [HG1.out], HQ.out⟩ | ((repeat apply Exists.intro); exact ⟨⟨q + 1, d + nq, by omega, by omega, by go_num, by rw [HG1.out], HQ.out⟩, rfl⟩)
                          case measure => (show k - ((q : Int) + 1).toNat < k - q; omega)
                        · have h5' : ((zu : Int) == (tu : Int)) = false := by rw [beq_eq_false_iff_ne]; omega
                          have HG1 : Hid (gto T (nts ys) j (q + 1) = false) := by rw [HGS.out]; exact Lib.hid (by rw [Bool.false_or, decide_eq_false_iff_not]; exact fun h => h5 h.2.2)
                          clear HGS h4 h5
                          go_wp2_with fail
                          go_quiet (fail)
                          have HQ : Hid (Wq.drewN nq = wc.drewN (d + nq)) := by
                            show _ = _
                            rw [← HWq.out, World.drewN_drewN]
                          clear c0 c1 c2 c3 c4 c5 c6 e1 e3 HWq
                          generalize Wq.drewN nq = W2 at *
                          go_wp2_with fail
                          go_roundw
                          case rel => first | exact ⟨q + 1, d + nq, by omega, by omega, by go_num, by rw [HG1.out], HQ.out⟩ | ((repeat apply Exists.intro); exact ⟨⟨q + 1, d + nq, by omega, by omega, by go_num, by rw [HG1.out], HQ.out⟩, rfl⟩)
                          case measure => (show k - ((q : Int) + 1).toNat < k - q; omega)
                      · have h4' : ((ze : Int) == (te : Int)) = false := by rw [beq_eq_false_iff_ne]; omega
                        have HG1 : Hid (gto T (nts ys) j (q + 1) = false) := by rw [HGS.out]; exact Lib.hid (by rw [Bool.false_or, decide_eq_false_iff_not]; exact fun h => h4 h.2.1)
                        clear HGS h4
                        go_wp2_with fail
                        go_quiet (fail)
                        have HQ : Hid (Wq.drewN nq = wc.drewN (d + nq)) := by
                          show _ = _
                          rw [← HWq.out, World.drewN_drewN]
                        clear c0 c1 c2 c3 c4 c5 c6 e1 e3 HWq
                        generalize Wq.drewN nq = W2 at *
                        go_wp2_with fail
                        go_roundw
                        case rel => first | exact ⟨q + 1, d + nq, by omega, by omega, by go_num, by rw [HG1.out], HQ.out⟩ | ((repeat apply Exists.intro); exact ⟨⟨q + 1, d + nq, by omega, by omega, by go_num, by rw [HG1.out], HQ.out⟩, rfl⟩)
                        case measure => (show k - ((q : Int) + 1).toNat < k - q; omega)
                    · have h3' : ((zk : Int) == 3) = false := by rw [beq_eq_false_iff_ne]; omega
                      have HG1 : Hid (gto T (nts ys) j (q + 1) = false) := by rw [HGS.out]; exact Lib.hid (by rw [Bool.false_or, decide_eq_false_iff_not]; exact fun h => h3 h.1)
                      clear HGS h3
                      go_wp2_with fail
                      go_quiet (fail)
                      have HQ : Hid (Wq.drewN nq = wc.drewN (d + nq)) := by
                        show _ = _
                        rw [← HWq.out, World.drewN_drewN]
                      clear c0 c1 c2 c3 c4 c5 c6 e1 e3 HWq
                      generalize Wq.drewN nq = W2 at *
                      go_wp2_with fail
                      go_roundw
                      case rel => first | exact ⟨q + 1, d + nq, by omega, by omega, by go_num, by rw [HG1.out], HQ.out⟩ | ((repeat apply Exists.intro); exact ⟨⟨q + 1, d + nq, by omega, by omega, by go_num, by rw [HG1.out], HQ.out⟩, rfl⟩)
                      case measure => (show k - ((q : Int) + 1).toNat < k - q; omega)
                · obtain rfl : q = k := by omega
                  have HLV : Hid (livB (nts ys) j = !gto T (nts ys) j q) := by
                    have h := gto_end (nts_at HX.out)
                    rw [HL.out, ← HTT.out] at h
                    exact Lib.hid h
                  obtain ⟨gv, hgv⟩ : ∃ gv, gv = gto T (nts ys) j q := ⟨_, rfl⟩
                  rw [← hgv] at HLV ⊢
                  clear hgv e0 hqk
                  cases gv with
                  | true =>
                    have HPY : Hid (pick ys (livB (nts ys)) (j + 1) = pick ys (livB (nts ys)) j) := Lib.hid (pick_no HLV.out)
                    have HPN : Hid (pick (nts ys) (livB (nts ys)) (j + 1) = pick (nts ys) (livB (nts ys)) j) := Lib.hid (pick_no HLV.out)
                    go_wp2_with fail
                    go_roundw
                    case rel => first | exact ⟨j + 1, by omega, by go_num, by rw [HPN.out], by rw [HPN.out], Lib.hid ⟨v, by rw [HPY.out]; exact HO6.out.drewN d⟩⟩ | ((repeat apply Exists.intro); exact ⟨⟨j + 1, by omega, by go_num, by rw [HPN.out], by rw [HPN.out], Lib.hid ⟨v, by rw [HPY.out]; exact HO6.out.drewN d⟩⟩, rfl⟩)
                    case measure => (show q - ((j : Int) + 1).toNat < q - j; omega)
                  | false =>
                    have HPY : Hid (pick ys (livB (nts ys)) (j + 1) = pick ys (livB (nts ys)) j ++ [⟨⟨tk, te, ts, tu, td, tf, to_⟩, a, A', m', c'⟩]) := Lib.hid (pick_yes HX.out HLV.out)
                    have HCL : Hid (cl (epo (nts ys)) (pick (nts ys) (livB (nts ys)) (j + 1)) = stp (epo (nts ys)) (cl (epo (nts ys)) (pick (nts ys) (livB (nts ys)) j)) ⟨tk, te, ts, tu, td, tf, to_⟩) := Lib.hid (by rw [pick_yes (nts_at HX.out) HLV.out, cl_snoc])
                    have HOQ := Lib.hid (HO6.out.drewN d)
                    have hNQ : (wc.drewN d).heap[p9]? = some (.cells #[.int .i64 (tk : Nat), .int .u32 (te : Nat), .string ts, .int .u32 (tu : Nat), .int .i64 td, .int .i64 tf, .slice A' m' c'] 62 (0, 0)) := HN6.out
                    have n0 := cell_at hNQ 0 _ rfl
                    have n1 := cell_at hNQ 1 _ rfl
                    have n2 := cell_at hNQ 2 _ rfl
                    have n3 := cell_at hNQ 3 _ rfl
                    have n4 := cell_at hNQ 4 _ rfl
                    have n5 := cell_at hNQ 5 _ rfl
                    have n6 := cell_at hNQ 6 _ rfl
                    have c3 := cell_at HOQ.out.1 3 _ rfl
                    have c1 := cell_at HOQ.out.1 1 _ rfl
                    have HNQ := Lib.hid hNQ
                    have HPW := Lib.hid (show p9 < (wc.drewN d).heap.size from hp9)
                    have HNE := Lib.hid (show some p9 ≠ v.ownBlock from fun e => Nat.lt_irrefl _ (HVP.out _ e.symm))
                    have HOLD := Lib.hid (show ∀ ad, A' = some ad → 0 < m' → ad.block < r from fun ad e h0 => HOld.out j _ HX.out ad e h0)
                    have HOA := Lib.hid (show ∀ ad, A' = some ad → 0 < m' → v.ownBlock ≠ some ad.block from fun ad e h0 e' => by
                      have h1 := HOLD.out ad e h0
                      have h2 := (HOQ.out.2.1.lt e').1
                      omega)
                    obtain ⟨b', o', z', hb', hz', -, hoct'⟩ := (HRd.out _ HOQ.out.2.2.2.1).2 j (by omega)
                    have HOCT : Hid (Oct (wc.drewN d) ⟨⟨tk, te, ts, tu, td, tf, to_⟩, a, A', m', c'⟩) := by
                      rw [HX.out] at hz'
                      cases hz'
                      exact Lib.hid hoct'
                    obtain ⟨L, hL⟩ : ∃ L, L = (cl (epo (nts ys)) (pick (nts ys) (livB (nts ys)) j)).1 := ⟨_, rfl⟩
                    obtain ⟨C, hC⟩ : ∃ C, C = (cl (epo (nts ys)) (pick (nts ys) (livB (nts ys)) j)).2 := ⟨_, rfl⟩
                    have hLC : cl (epo (nts ys)) (pick (nts ys) (livB (nts ys)) j) = (L, C) := by rw [hL, hC]
                    rw [hLC] at HCL ⊢
                    simp only [stp] at HCL
                    simp only []
                    have hlt2 : (j : Int) < (q : Int) := by omega
                    clear hL hC hLC hz' hoct' hb' hNQ
                    have hU := HYO.out.2.2.2.2.2.2
                    by_cases k1 : te = epo (nts ys)
                    · have k1' : ((te : Int) != ((epo (nts ys) : Nat) : Int)) = false := by rw [bne_eq_false_iff_eq]; omega
                      by_cases k2 : L < tu
                      · have k2' : decide (tu ≤ L) = false := by rw [decide_eq_false_iff_not]; omega
                        by_cases k3 : tu < 4294967295
                        · have k3' : ((tu : Int) == 4294967295) = false := by rw [beq_eq_false_iff_ne]; omega
                          have HC : Hid (cl (epo (nts ys)) (pick (nts ys) (livB (nts ys)) (j + 1)) = (tu, C)) := by rw [HCL.out]; exact Lib.hid (by rw [decide_eq_true ⟨k1, k2, k3⟩, Bool.and_true])
                          clear k1 k2 k3 HCL hU
                          go_wp2_with (at_builtin; refine wpList_append_own fM (by decide) (by decide) (by decide) rfl rfl (.tmp 117) (.tmp 120) 54 60 rfl Tryz.underlying54 infoM (r + 2) v _ rfl HOQ.out.2.1 HOQ.out.2.2.2.2 (by have := pick_len ys (livB (nts ys)) j; omega) ⟨⟨tk, te, ts, tu, td, tf, to_⟩, a, A', m', c'⟩ (0, 0) _ rfl rfl _ rfl HOCT.out HOA.out ?_; intro v' w2 ho hgr hat; obtain ⟨A2, c2, hv2, -⟩ := ho.rd fM; generalize (pick ys (livB (nts ys)) j ++ [(⟨⟨tk, te, ts, tu, td, tf, to_⟩, a, A', m', c'⟩ : Y)]).length = m2 at hv2; subst hv2; obtain ⟨hos2, hb2⟩ := OS.push HOQ.out ho hgr HOLD.out; have HS2 := Lib.hid hos2; have HPB := Lib.hid ((hgr.block p9 HPW.out HNE.out).trans HNQ.out); have x1 := cell_at hb2 1 _ rfl; have x3 := cell_at hb2 3 _ rfl; have y3 := frozen_of_row _ _ 3 _ _ hb2; have z1 := cell_at HPB.out 1 _ rfl; have z3 := cell_at HPB.out 3 _ rfl; clear ho hgr hat hos2 hb2 c1 c3 n0 n1 n2 n3 n4 n5 n6)
                          go_roundw
                          case rel => first | exact ⟨j + 1, by omega, by go_num, by rw [HC.out], by rw [HC.out], Lib.hid ⟨_, by rw [HPY.out]; exact HS2.out⟩⟩ | ((repeat apply Exists.intro); exact ⟨⟨j + 1, by omega, by go_num, by rw [HC.out], by rw [HC.out], Lib.hid ⟨_, by rw [HPY.out]; exact HS2.out⟩⟩, rfl⟩)
                          case measure => (show q - ((j : Int) + 1).toNat < q - j; omega)
                        · have k3' : ((tu : Int) == 4294967295) = true := by rw [beq_iff_eq]; omega
                          have HC : Hid (cl (epo (nts ys)) (pick (nts ys) (livB (nts ys)) (j + 1)) = (tu, false)) := by rw [HCL.out]; exact Lib.hid (by rw [decide_eq_false (fun h => k3 h.2.2), Bool.and_false])
                          clear k1 k2 k3 HCL hU
                          go_wp2_with (at_builtin; refine wpList_append_own fM (by decide) (by decide) (by decide) rfl rfl (.tmp 117) (.tmp 120) 54 60 rfl Tryz.underlying54 infoM (r + 2) v _ rfl HOQ.out.2.1 HOQ.out.2.2.2.2 (by have := pick_len ys (livB (nts ys)) j; omega) ⟨⟨tk, te, ts, tu, td, tf, to_⟩, a, A', m', c'⟩ (0, 0) _ rfl rfl _ rfl HOCT.out HOA.out ?_; intro v' w2 ho hgr hat; obtain ⟨A2, c2, hv2, -⟩ := ho.rd fM; generalize (pick ys (livB (nts ys)) j ++ [(⟨⟨tk, te, ts, tu, td, tf, to_⟩, a, A', m', c'⟩ : Y)]).length = m2 at hv2; subst hv2; obtain ⟨hos2, hb2⟩ := OS.push HOQ.out ho hgr HOLD.out; have HS2 := Lib.hid hos2; have HPB := Lib.hid ((hgr.block p9 HPW.out HNE.out).trans HNQ.out); have x1 := cell_at hb2 1 _ rfl; have x3 := cell_at hb2 3 _ rfl; have y3 := frozen_of_row _ _ 3 _ _ hb2; have z1 := cell_at HPB.out 1 _ rfl; have z3 := cell_at HPB.out 3 _ rfl; clear ho hgr hat hos2 hb2 c1 c3 n0 n1 n2 n3 n4 n5 n6)
                          go_roundw
                          case rel => first | exact ⟨j + 1, by omega, by go_num, by rw [HC.out], by rw [HC.out], Lib.hid ⟨_, by rw [HPY.out]; exact HS2.out⟩⟩ | ((repeat apply Exists.intro); exact ⟨⟨j + 1, by omega, by go_num, by rw [HC.out], by rw [HC.out], Lib.hid ⟨_, by rw [HPY.out]; exact HS2.out⟩⟩, rfl⟩)
                          case measure => (show q - ((j : Int) + 1).toNat < q - j; omega)
                      · have k2' : decide (tu ≤ L) = true := by rw [decide_eq_true_iff]; omega
                        have HC : Hid (cl (epo (nts ys)) (pick (nts ys) (livB (nts ys)) (j + 1)) = (tu, false)) := by rw [HCL.out]; exact Lib.hid (by rw [decide_eq_false (fun h => k2 h.2.1), Bool.and_false])
                        clear k1 k2 HCL hU
                        go_wp2_with (at_builtin; refine wpList_append_own fM (by decide) (by decide) (by decide) rfl rfl (.tmp 117) (.tmp 120) 54 60 rfl Tryz.underlying54 infoM (r + 2) v _ rfl HOQ.out.2.1 HOQ.out.2.2.2.2 (by have := pick_len ys (livB (nts ys)) j; omega) ⟨⟨tk, te, ts, tu, td, tf, to_⟩, a, A', m', c'⟩ (0, 0) _ rfl rfl _ rfl HOCT.out HOA.out ?_; intro v' w2 ho hgr hat; obtain ⟨A2, c2, hv2, -⟩ := ho.rd fM; generalize (pick ys (livB (nts ys)) j ++ [(⟨⟨tk, te, ts, tu, td, tf, to_⟩, a, A', m', c'⟩ : Y)]).length = m2 at hv2; subst hv2; obtain ⟨hos2, hb2⟩ := OS.push HOQ.out ho hgr HOLD.out; have HS2 := Lib.hid hos2; have HPB := Lib.hid ((hgr.block p9 HPW.out HNE.out).trans HNQ.out); have x1 := cell_at hb2 1 _ rfl; have x3 := cell_at hb2 3 _ rfl; have y3 := frozen_of_row _ _ 3 _ _ hb2; have z1 := cell_at HPB.out 1 _ rfl; have z3 := cell_at HPB.out 3 _ rfl; clear ho hgr hat hos2 hb2 c1 c3 n0 n1 n2 n3 n4 n5 n6)
                        go_roundw
                        case rel => first | exact ⟨j + 1, by omega, by go_num, by rw [HC.out], by rw [HC.out], Lib.hid ⟨_, by rw [HPY.out]; exact HS2.out⟩⟩ | ((repeat apply Exists.intro); exact ⟨⟨j + 1, by omega, by go_num, by rw [HC.out], by rw [HC.out], Lib.hid ⟨_, by rw [HPY.out]; exact HS2.out⟩⟩, rfl⟩)
                        case measure => (show q - ((j : Int) + 1).toNat < q - j; omega)
                    · have k1' : ((te : Int) != ((epo (nts ys) : Nat) : Int)) = true := by rw [bne_iff_ne]; omega
                      have HC : Hid (cl (epo (nts ys)) (pick (nts ys) (livB (nts ys)) (j + 1)) = (tu, false)) := by rw [HCL.out]; exact Lib.hid (by rw [decide_eq_false (fun h => k1 h.1), Bool.and_false])
                      clear k1 HCL hU
                      go_wp2_with (at_builtin; refine wpList_append_own fM (by decide) (by decide) (by decide) rfl rfl (.tmp 117) (.tmp 120) 54 60 rfl Tryz.underlying54 infoM (r + 2) v _ rfl HOQ.out.2.1 HOQ.out.2.2.2.2 (by have := pick_len ys (livB (nts ys)) j; omega) ⟨⟨tk, te, ts, tu, td, tf, to_⟩, a, A', m', c'⟩ (0, 0) _ rfl rfl _ rfl HOCT.out HOA.out ?_; intro v' w2 ho hgr hat; obtain ⟨A2, c2, hv2, -⟩ := ho.rd fM; generalize (pick ys (livB (nts ys)) j ++ [(⟨⟨tk, te, ts, tu, td, tf, to_⟩, a, A', m', c'⟩ : Y)]).length = m2 at hv2; subst hv2; obtain ⟨hos2, hb2⟩ := OS.push HOQ.out ho hgr HOLD.out; have HS2 := Lib.hid hos2; have HPB := Lib.hid ((hgr.block p9 HPW.out HNE.out).trans HNQ.out); have x1 := cell_at hb2 1 _ rfl; have x3 := cell_at hb2 3 _ rfl; have y3 := frozen_of_row _ _ 3 _ _ hb2; have z1 := cell_at HPB.out 1 _ rfl; have z3 := cell_at HPB.out 3 _ rfl; clear ho hgr hat hos2 hb2 c1 c3 n0 n1 n2 n3 n4 n5 n6)
                      go_roundw
                      case rel => first | exact ⟨j + 1, by omega, by go_num, by rw [HC.out], by rw [HC.out], Lib.hid ⟨_, by rw [HPY.out]; exact HS2.out⟩⟩ | ((repeat apply Exists.intro); exact ⟨⟨j + 1, by omega, by go_num, by rw [HC.out], by rw [HC.out], Lib.hid ⟨_, by rw [HPY.out]; exact HS2.out⟩⟩, rfl⟩)
                      case measure => (show q - ((j : Int) + 1).toNat < q - j; omega)
        · obtain rfl : j = k := by omega
          have HLIV : Hid (pick (nts ys) (livB (nts ys)) j = lives (nts ys)) := Lib.hid (by unfold lives; rw [HL.out])
          have HZN : Hid (nts (pick ys (livB (nts ys)) j) = lives (nts ys)) := Lib.hid (by unfold nts; rw [pick_map]; exact HLIV.out)
          have htk : (nts ys).take j = nts ys := List.take_of_length_le (by rw [HL.out]; omega)
          rw [htk, rnx_eq (fun t ht => by
            obtain ⟨y, hy, rfl⟩ := List.mem_map.1 ht
            exact HO.out y hy)] at hos
          obtain ⟨A2, c2, hv2, -⟩ := hos.2.1.rd fM
          obtain ⟨m2, hm2⟩ : ∃ m2, m2 = (pick ys (livB (nts ys)) j).length := ⟨_, rfl⟩
          rw [← hm2] at hv2
          subst hv2
          have HML : Hid (m2 = (lives (nts ys)).length) := Lib.hid (by rw [hm2, ← HZN.out, nts_len])
          have hmj : m2 ≤ j := by rw [hm2]; exact pick_len _ _ _
          clear hm2 htk
          rw [HLIV.out]
          obtain ⟨S, hS⟩ : ∃ S, S = nmL (nts ys) := ⟨_, rfl⟩
          obtain ⟨E, hE⟩ : ∃ E, E = epo (nts ys) := ⟨_, rfl⟩
          have hEl : E < 4294967296 := by
            rw [hE]
            exact epo_lt (fun t ht => by
              obtain ⟨y, hy, rfl⟩ := List.mem_map.1 ht
              exact HO.out y hy)
          rw [← hS, ← hE] at hos
          rw [← hE]
          obtain ⟨X2, hX2⟩ : ∃ X2, X2 = nxt (top E (nts ys)) := ⟨_, rfl⟩
          rw [← hX2] at hos
          obtain ⟨CC, hCC⟩ : ∃ CC, CC = (cl E (lives (nts ys))).2 := ⟨_, rfl⟩
          rw [← hCC]
          have HSS := Lib.hid hS
          have HEE := Lib.hid hE
          have HX2 := Lib.hid hX2
          have HCC : Hid ((cl (epo (nts ys)) (lives (nts ys))).2 = CC) := Lib.hid (by rw [hCC, hE])
          have HOS := Lib.hid hos
          have a0 := cell_at hos.1 0 _ rfl
          have a1 := cell_at hos.1 1 _ rfl
          have a2 := cell_at hos.1 2 _ rfl
          have a3 := cell_at hos.1 3 _ rfl
          have f1 := frozen_of_row _ _ 1 _ _ hos.1
          have hXR := HRC.out _ hos.2.2.2.1
          have r0 := cell_at hXR 0 _ rfl
          have s0 := frozen_of_row _ _ 0 _ _ hXR
          have r1 := cell_at hXR 1 _ rfl
          have s1 := frozen_of_row _ _ 1 _ _ hXR
          have r2 := cell_at hXR 2 _ rfl
          have s2 := frozen_of_row _ _ 2 _ _ hXR
          have r3 := cell_at hXR 3 _ rfl
          have s3 := frozen_of_row _ _ 3 _ _ hXR
          clear hos hXR hS hE hX2 hCC HS
          cases CC with
          | true =>
            go_wp2_with fail
            obtain ⟨k1, k2, k3, k4⟩ := HOS.out.done HBW.out HR0.out HRC.out
            refine bodyPost_ret (frm.results_cell_tmp Tryz.results15 _ _ r _ _ _ _ rfl k1 Tryz.underlying56 rfl (boxSize _ rfl)) rfl ⟨A2, m2, c2, _, ?_, k2, k3, ?_, k4⟩
            · rw [HCC.out]
              unfold boxE boxX
              rw [HCC.out, if_pos rfl, if_pos rfl, ← HEE.out, ← HX2.out, ← HSS.out]
              rfl
            · unfold lg.boxed
              rw [HCC.out, if_pos rfl, HZN.out]
          | false =>
            by_cases hmx : E < 4294967295
            · have hmx' : decide ((E : Int) < 4294967295) = true := by rw [decide_eq_true_iff]; omega
              obtain ⟨E2, hE2⟩ : ∃ E2, E2 = E + 1 := ⟨_, rfl⟩
              have HE2 : Hid (E2 = min (epo (nts ys)) 4294967294 + 1) := Lib.hid (by rw [← HEE.out]; omega)
              have HST : Hid (OS W1 r S E2 X2 (.slice A2 m2 c2) (ruY (pick ys (livB (nts ys)) j) 0) (wr.setCell ⟨r + 1, 1, none⟩ (.int .u32 ((E : Int) + 1)))) := by
                rw [show ((E : Int) + 1) = ((E2 : Nat) : Int) by omega]
                exact Lib.hid HOS.out.setE
              clear hE2
              go_wp2_with fail
              go_loopw [157] (fun i wr => ∃ q : Nat, q ≤ m2 ∧ i = .int .i64 q ∧ Hid (OS W1 r S E2 X2 (.slice A2 m2 c2) (ruY (pick ys (livB (nts ys)) j) q) wr)) (fun i _ => m2 - (intOf i).toNat)
              case atStart => exact ⟨0, Nat.zero_le _, rfl, HST⟩
              case round =>
                obtain ⟨q, hq, rfl, HS⟩ := hrel
                obtain ⟨l1, l2, l3, l4, l5⟩ := HS.out
                have a3 := cell_at l1 3 _ rfl
                by_cases hlt : q < m2
                · have hlen : (ruY (pick ys (livB (nts ys)) j) q).length = m2 := l2.len'
                  obtain ⟨g, rfl, hg⟩ := l2.form' (by omega)
                  have hkl : q < (ruY (pick ys (livB (nts ys)) j) q).length := by omega
                  have hyk : (ruY (pick ys (livB (nts ys)) j) q)[q]? = some (ruY (pick ys (livB (nts ys)) j) q)[q] := List.getElem?_eq_getElem hkl
                  have hcl := (hlen ▸ l2.1 : World.ownsRow wr (r + 2) 60 4 (.slice (some ⟨g, 0, none⟩) m2 c2) m2 (fl cM (ruY (pick ys (livB (nts ys)) j) q))).cellAt (q * 4) (by omega)
                  have hfz := (hlen ▸ l2.1 : World.ownsRow wr (r + 2) 60 4 (.slice (some ⟨g, 0, none⟩) m2 c2) m2 (fl cM (ruY (pick ys (livB (nts ys)) j) q))).frozenAt (q * 4)
                  have hca : (fl cM (ruY (pick ys (livB (nts ys)) j) q))[q * 4]? = some (.int .u32 ((ruY (pick ys (livB (nts ys)) j) q)[q].n.u : Nat)) := fl_at fM _ q _ hyk 0 _ rfl
                  rw [hca] at hcl
                  obtain ⟨uu, huu⟩ : ∃ uu, uu = (ruY (pick ys (livB (nts ys)) j) q)[q].n.u := ⟨_, rfl⟩
                  rw [← huu] at hcl
                  have HN2 := Lib.hid (HS.out.step hkl)
                  have hlt' : (q : Int) < (m2 : Int) := by omega
                  have hgp : ¬ g = r + 1 := by omega
                  have e32 := IntWalk.u32_in ((q : Int) + 1) (by omega)
                  clear l1 l2 l3 l4 l5 hca huu hyk hlen hkl
                  go_wp2_with fail
                  go_roundw
                  case rel => first | exact ⟨q + 1, by omega, by go_num, by simpa using HN2⟩ | ((repeat apply Exists.intro); exact ⟨⟨q + 1, by omega, by go_num, by simpa using HN2⟩, rfl⟩)
                  case measure => (show m2 - ((q : Int) + 1).toNat < m2 - q; omega)
                · obtain rfl : q = m2 := by omega
                  have a0 := cell_at l1 0 _ rfl
                  have a1 := cell_at l1 1 _ rfl
                  have a2 := cell_at l1 2 _ rfl
                  have g2 := frozen_of_row _ _ 2 _ _ l1
                  have hX2 := HRC.out _ l4
                  have r0 := cell_at hX2 0 _ rfl
                  have s0 := frozen_of_row _ _ 0 _ _ hX2
                  have r1 := cell_at hX2 1 _ rfl
                  have s1 := frozen_of_row _ _ 1 _ _ hX2
                  have r2 := cell_at hX2 2 _ rfl
                  have s2 := frozen_of_row _ _ 2 _ _ hX2
                  have r3 := cell_at hX2 3 _ rfl
                  have s3 := frozen_of_row _ _ 3 _ _ hX2
                  have e32 := IntWalk.u32_in ((q : Int) + 1) (by omega)
                  clear l1 l2 l3 l4 l5 hX2
                  go_wp2_with fail
                  obtain ⟨k1, k2, k3, k4⟩ := (HS.out.setX (X' := q + 1)).done HBW.out HR0.out HRC.out
                  refine bodyPost_ret (frm.results_cell_tmp Tryz.results15 _ _ r _ _ _ _ rfl (by simpa using k1) Tryz.underlying56 rfl (boxSize _ rfl)) rfl ⟨A2, q, c2, _, ?_, by simpa using k2, k3, ?_, by simpa using k4⟩
                  · rw [HCC.out]
                    unfold boxE boxX
                    rw [HCC.out, if_neg (by simp), if_neg (by simp), ← HE2.out, ← HML.out, Int.natCast_add, ← HSS.out]
                    rfl
                  · unfold lg.boxed
                    rw [HCC.out, if_neg (by simp), ruY_nts, HZN.out, HML.out]
            · have hmx' : decide ((E : Int) < 4294967295) = false := by rw [decide_eq_false_iff_not]; omega
              obtain ⟨E2, hE2⟩ : ∃ E2, E2 = E := ⟨_, rfl⟩
              have HE2 : Hid (E2 = min (epo (nts ys)) 4294967294 + 1) := Lib.hid (by rw [← HEE.out]; omega)
              have HST : Hid (OS W1 r S E2 X2 (.slice A2 m2 c2) (ruY (pick ys (livB (nts ys)) j) 0) wr) := by
                rw [hE2]
                exact Lib.hid HOS.out
              clear hmx hE2
              go_wp2_with fail
              go_loopw [157] (fun i wr => ∃ q : Nat, q ≤ m2 ∧ i = .int .i64 q ∧ Hid (OS W1 r S E2 X2 (.slice A2 m2 c2) (ruY (pick ys (livB (nts ys)) j) q) wr)) (fun i _ => m2 - (intOf i).toNat)
              case atStart => exact ⟨0, Nat.zero_le _, rfl, HST⟩
              case round =>
                obtain ⟨q, hq, rfl, HS⟩ := hrel
                obtain ⟨l1, l2, l3, l4, l5⟩ := HS.out
                have a3 := cell_at l1 3 _ rfl
                by_cases hlt : q < m2
                · have hlen : (ruY (pick ys (livB (nts ys)) j) q).length = m2 := l2.len'
                  obtain ⟨g, rfl, hg⟩ := l2.form' (by omega)
                  have hkl : q < (ruY (pick ys (livB (nts ys)) j) q).length := by omega
                  have hyk : (ruY (pick ys (livB (nts ys)) j) q)[q]? = some (ruY (pick ys (livB (nts ys)) j) q)[q] := List.getElem?_eq_getElem hkl
                  have hcl := (hlen ▸ l2.1 : World.ownsRow wr (r + 2) 60 4 (.slice (some ⟨g, 0, none⟩) m2 c2) m2 (fl cM (ruY (pick ys (livB (nts ys)) j) q))).cellAt (q * 4) (by omega)
                  have hfz := (hlen ▸ l2.1 : World.ownsRow wr (r + 2) 60 4 (.slice (some ⟨g, 0, none⟩) m2 c2) m2 (fl cM (ruY (pick ys (livB (nts ys)) j) q))).frozenAt (q * 4)
                  have hca : (fl cM (ruY (pick ys (livB (nts ys)) j) q))[q * 4]? = some (.int .u32 ((ruY (pick ys (livB (nts ys)) j) q)[q].n.u : Nat)) := fl_at fM _ q _ hyk 0 _ rfl
                  rw [hca] at hcl
                  obtain ⟨uu, huu⟩ : ∃ uu, uu = (ruY (pick ys (livB (nts ys)) j) q)[q].n.u := ⟨_, rfl⟩
                  rw [← huu] at hcl
                  have HN2 := Lib.hid (HS.out.step hkl)
                  have hlt' : (q : Int) < (m2 : Int) := by omega
                  have hgp : ¬ g = r + 1 := by omega
                  have e32 := IntWalk.u32_in ((q : Int) + 1) (by omega)
                  clear l1 l2 l3 l4 l5 hca huu hyk hlen hkl
                  go_wp2_with fail
                  go_roundw
                  case rel => first | exact ⟨q + 1, by omega, by go_num, by simpa using HN2⟩ | ((repeat apply Exists.intro); exact ⟨⟨q + 1, by omega, by go_num, by simpa using HN2⟩, rfl⟩)
                  case measure => (show m2 - ((q : Int) + 1).toNat < m2 - q; omega)
                · obtain rfl : q = m2 := by omega
                  have a0 := cell_at l1 0 _ rfl
                  have a1 := cell_at l1 1 _ rfl
                  have a2 := cell_at l1 2 _ rfl
                  have g2 := frozen_of_row _ _ 2 _ _ l1
                  have hX2 := HRC.out _ l4
                  have r0 := cell_at hX2 0 _ rfl
                  have s0 := frozen_of_row _ _ 0 _ _ hX2
                  have r1 := cell_at hX2 1 _ rfl
                  have s1 := frozen_of_row _ _ 1 _ _ hX2
                  have r2 := cell_at hX2 2 _ rfl
                  have s2 := frozen_of_row _ _ 2 _ _ hX2
                  have r3 := cell_at hX2 3 _ rfl
                  have s3 := frozen_of_row _ _ 3 _ _ hX2
                  have e32 := IntWalk.u32_in ((q : Int) + 1) (by omega)
                  clear l1 l2 l3 l4 l5 hX2
                  go_wp2_with fail
                  obtain ⟨k1, k2, k3, k4⟩ := (HS.out.setX (X' := q + 1)).done HBW.out HR0.out HRC.out
                  refine bodyPost_ret (frm.results_cell_tmp Tryz.results15 _ _ r _ _ _ _ rfl (by simpa using k1) Tryz.underlying56 rfl (boxSize _ rfl)) rfl ⟨A2, q, c2, _, ?_, by simpa using k2, k3, ?_, by simpa using k4⟩
                  · rw [HCC.out]
                    unfold boxE boxX
                    rw [HCC.out, if_neg (by simp), if_neg (by simp), ← HE2.out, ← HML.out, Int.natCast_add, ← HSS.out]
                    rfl
                  · unfold lg.boxed
                    rw [HCC.out, if_neg (by simp), ruY_nts, HZN.out, HML.out]
end Go.Proofs.YtklmbiekpilkhaaGreatDoor.lg
