/- What the document makes of notes. -/
import Derived.Test.YtfmdhcjniikfdaaGreatDoorLbp8
import Derived.Deep.DeepCutAuto
import Derived.Tactics2
/- What the document makes of notes. -/
namespace Go.Proofs.YtfmdhcjniikfdaaGreatDoor.lg
open Go.ChangeShapes Go.WideShapes Go.ChangeAt Go.RowKit
open Go.Proofs.YtfmdhcjniikfdaaGreatDoor.codec (Bytes vals)
open Go.Proofs.YtfmdhcjniikfdaaGreatDoor.bod (cell_at)
set_option linter.unusedVariables false
set_option maxRecDepth 100000
set_option linter.unusedSimpArgs false

/-- The document's mailbox under way, in block r + 1. -/
def OS (W1 : World) (r : Nat) (S : ByteArray) (E X : Nat) (v : Value) (zs : List Y) (w : World) : Prop :=
  w.heap[r + 1]? = some (.cells #[.string S, .int .u32 (E : Nat), .int .u32 (X : Nat), v] 35 (0, 0)) ∧ Own cM 4 (r + 2) 47 w v zs ∧ (∀ y ∈ zs, ∀ ad, y.A = some ad → 0 < y.m → ad.block < r) ∧ Below (r + 1) W1 w ∧ r + 2 ≤ w.heap.size
theorem OS.below {W1 : World} {r : Nat} {S : ByteArray} {E X : Nat} {v : Value} {zs : List Y} {w w' : World} (h : OS W1 r S E X v zs w) (hb : Below w.heap.size w w') : OS W1 r S E X v zs w' := by
  obtain ⟨h1, h2, h3, h4, h5⟩ := h
  exact ⟨by rw [hb.block _ (by omega)]; exact h1, h2.below hb, h3, h4.trans (hb.mono (by omega)), Nat.le_trans h5 hb.size⟩
theorem OS.alloc {W1 : World} {r : Nat} {S : ByteArray} {E X : Nat} {v : Value} {zs : List Y} {w : World} (h : OS W1 r S E X v zs w) (o : Obj) : OS W1 r S E X v zs (w.alloc o) := h.below ((Below.refl _ _).alloc (Nat.le_refl _) _)
theorem OS.drewN {W1 : World} {r : Nat} {S : ByteArray} {E X : Nat} {v : Value} {zs : List Y} {w : World} (h : OS W1 r S E X v zs w) (q : Nat) : OS W1 r S E X v zs (w.drewN q) := h.below (codec.below_draws (Below.refl _ _) q)
theorem OS.vne {W1 : World} {r : Nat} {S : ByteArray} {E X : Nat} {v : Value} {zs : List Y} {w : World} (h : OS W1 r S E X v zs w) : v.ownBlock ≠ some (r + 1) := fun e => by
  have := (h.2.1.lt e).1
  omega
theorem OS.own {W1 : World} {r : Nat} {S : ByteArray} {E X : Nat} {v : Value} {zs : List Y} {w : World} (h : OS W1 r S E X v zs w) (j : Nat) (u : Value) : Own cM 4 (r + 2) 47 (w.setCell ⟨r + 1, j, none⟩ u) v zs :=
  h.2.1.below_other h.vne (fun y hy ad e h0 e' => by have := h.2.2.1 y hy ad e h0; omega)
theorem OS.setS {W1 : World} {r : Nat} {S S' : ByteArray} {E X : Nat} {v : Value} {zs : List Y} {w : World} (h : OS W1 r S E X v zs w) : OS W1 r S' E X v zs (w.setCell ⟨r + 1, 0, none⟩ (.string S')) :=
  ⟨by rw [heap_setCell_same _ _ _ _ _ _ h.1]; rfl, h.own 0 _, h.2.2.1, h.2.2.2.1.setCell (Nat.le_refl _) _, by simpa using h.2.2.2.2⟩
theorem OS.setE {W1 : World} {r : Nat} {S : ByteArray} {E E' X : Nat} {v : Value} {zs : List Y} {w : World} (h : OS W1 r S E X v zs w) : OS W1 r S E' X v zs (w.setCell ⟨r + 1, 1, none⟩ (.int .u32 (E' : Nat))) :=
  ⟨by rw [heap_setCell_same _ _ _ _ _ _ h.1]; rfl, h.own 1 _, h.2.2.1, h.2.2.2.1.setCell (Nat.le_refl _) _, by simpa using h.2.2.2.2⟩
theorem OS.setX {W1 : World} {r : Nat} {S : ByteArray} {E X X' : Nat} {v : Value} {zs : List Y} {w : World} (h : OS W1 r S E X v zs w) : OS W1 r S E X' v zs (w.setCell ⟨r + 1, 2, none⟩ (.int .u32 (X' : Nat))) :=
  ⟨by rw [heap_setCell_same _ _ _ _ _ _ h.1]; rfl, h.own 2 _, h.2.2.1, h.2.2.2.1.setCell (Nat.le_refl _) _, by simpa using h.2.2.2.2⟩
/-- What the document answers. -/
def OfAns (W : World) (ns : List Nt) (e : Ending) (w' : World) : Prop := ∃ A n c qs, e = .returned (.tuple #[.agg #[.string (nmL ns), .int .u32 (boxE ns : Nat), .int .u32 (boxX ns : Nat), .slice A n c], .bool (cl (epo ns) (lives ns)).2]) ∧ Rd cM 4 w' A n qs ∧ n ≤ c ∧ nts qs = boxed ns ∧ Below W.heap.size W w'
/-- Is one gone by what stands ahead of j? -/
def gto (t : Nt) (l : List Nt) (i j : Nat) : Bool := decide (t.k ≠ 2) || ((l.take j).drop (i + 1)).any fun q => decide (q.k = 3 ∧ q.e = t.e ∧ q.u = t.u)
theorem gto_start (t : Nt) (l : List Nt) (i : Nat) : gto t l i (i + 1) = decide (t.k ≠ 2) := by
  unfold gto
  rw [List.drop_eq_nil_of_le (by simp; omega)]
  simp
theorem gto_step {t : Nt} {l : List Nt} {i j : Nat} {q : Nt} (hj : i + 1 ≤ j) (hq : l[j]? = some q) : gto t l i (j + 1) = (gto t l i j || decide (q.k = 3 ∧ q.e = t.e ∧ q.u = t.u)) := by
  have hl := (List.getElem?_eq_some_iff.1 hq).1
  unfold gto
  rw [take_next hq, List.drop_append, List.any_append, Bool.or_assoc]
  have : i + 1 - (l.take j).length = 0 := by rw [List.length_take]; omega
  rw [this]
  simp
theorem gto_end {t : Nt} {l : List Nt} {i : Nat} (ht : l[i]? = some t) : livB l i = !gto t l i l.length := by
  unfold livB gone gto
  rw [ht, List.take_length]
theorem natmax (a b : Nat) : ((max a b : Nat) : Int) = max (a : Int) (b : Int) := by omega
theorem natmax1 (a b : Nat) : ((max a (b + 1) : Nat) : Int) = max (a : Int) ((b : Int) + 1) := by omega
theorem OS.push {W1 : World} {r : Nat} {S : ByteArray} {E X : Nat} {v v' : Value} {zs : List Y} {w w' : World} {y : Y} (h : OS W1 r S E X v zs w) (ho : Own cM 4 (r + 2) 47 w' v' (zs ++ [y])) (hg : w.grownBy w' v.ownBlock) (hy : ∀ ad, y.A = some ad → 0 < y.m → ad.block < r) :
    OS W1 r S E X v' (zs ++ [y]) (w'.setCell ⟨r + 1, 3, none⟩ v') ∧ w'.heap[r + 1]? = some (.cells #[.string S, .int .u32 (E : Nat), .int .u32 (X : Nat), v] 35 (0, 0)) := by
  obtain ⟨h1, h2, h3, h4, h5⟩ := h
  have hv : ∀ k, k < r + 2 → some k ≠ v.ownBlock := fun k hk e => by have := (h2.lt e.symm).1; omega
  have hb : w'.heap[r + 1]? = some (.cells #[.string S, .int .u32 (E : Nat), .int .u32 (X : Nat), v] 35 (0, 0)) := by rw [hg.block _ (by omega) (hv _ (by omega))]; exact h1
  have hall : ∀ z ∈ zs ++ [y], ∀ ad, z.A = some ad → 0 < z.m → ad.block < r := by
    intro z hz ad e h0
    rcases List.mem_append.1 hz with hz | hz
    · exact h3 z hz ad e h0
    · simp at hz
      subst hz
      exact hy ad e h0
  refine ⟨⟨by rw [heap_setCell_same _ _ _ _ _ _ hb]; rfl, ho.below_other (fun e => by have := (ho.lt e).1; omega) (fun z hz ad e h0 e' => by have := hall z hz ad e h0; omega), hall, (h4.trans ⟨hg.os, hg.tape, hg.output, hg.size, fun k hk => hg.block k (by omega) (hv k (by omega))⟩).setCell (Nat.le_refl _) _, by have := hg.size; simp; omega⟩, hb⟩
theorem OS.step {W1 : World} {r g m c k : Nat} {S : ByteArray} {E X : Nat} {qs : List Y} {w : World} (h : OS W1 r S E X (.slice (some ⟨g, 0, none⟩) m c) (ruY qs k) w) (hk : k < (ruY qs k).length) : OS W1 r S E X (.slice (some ⟨g, 0, none⟩) m c) (ruY qs (k + 1)) (w.setCell ⟨g, k * 4, none⟩ (.int .u32 ((k + 1 : Nat) : Nat))) := by
  obtain ⟨h1, h2, h3, h5, h6⟩ := h
  have hy : (ruY qs k)[k]? = some (ruY qs k)[k] := List.getElem?_eq_getElem hk
  have hlen := h2.len'
  obtain ⟨s1, s2⟩ := World.ownsRow.stored (hlen ▸ h2.1) (k * 4) (.int .u32 ((k + 1 : Nat) : Nat))
  have hg := (h2.lt (g := g) rfl).1
  have hgp : r + 1 ≠ g := by omega
  have hst := ruY_step hy
  have hmem : ∀ y ∈ ruY qs (k + 1), ∃ z ∈ ruY qs k, y.A = z.A ∧ y.m = z.m ∧ y.c = z.c ∧ y.n.o = z.n.o := by
    intro y hy'
    rw [hst] at hy'
    rcases List.mem_or_eq_of_mem_set hy' with h | h
    · exact ⟨y, h, rfl, rfl, rfl, rfl⟩
    · exact ⟨_, List.getElem_mem hk, by rw [h]; rfl, by rw [h]; rfl, by rw [h]; rfl, by rw [h]; rfl⟩
  refine ⟨by rw [heap_setCell_other _ _ _ _ hgp]; exact h1, ⟨?_, fun y hy' => ?_⟩, fun y hy' ad e h0 => ?_, h5.setCell (p := ⟨g, k * 4, none⟩) (by show r + 1 ≤ g; omega) _, by simpa using h6⟩
  · rw [hst, ← fl_set _ k (k + 1) _ hy, List.length_set, hlen]
    exact s1
  · obtain ⟨z, hz, e1, e2, e3, e4⟩ := hmem y hy'
    obtain ⟨o1, o2⟩ := h2.2 z hz
    have o3 := o1.grown s2 (fun ad e h0 e' => o2 ad e h0 e'.symm)
    unfold Oct at *
    rw [e1, e2, e3, e4]
    exact ⟨o3, o2⟩
  · obtain ⟨z, hz, e1, e2, _⟩ := hmem y hy'
    exact h3 z hz ad (e1 ▸ e) (e2 ▸ h0)
/-- The mailbox, copied into the result. -/
theorem OS.done {W W1 : World} {r m c : Nat} {A : Option Addr} {S : ByteArray} {E X : Nat} {zs : List Y} {w : World} (h : OS W1 r S E X (.slice A m c) zs w) (hbw : Below r W W1) (hr : r = W.heap.size) (hz : ∀ w1, Below (r + 1) W1 w1 → w1.heap[r]? = some (.cells #[.string ⟨#[]⟩, .int .u32 0, .int .u32 0, .slice none 0 0] 35 (0, 0))) :
    let w' := (((w.setCell ⟨r, 0, none⟩ (.string S)).setCell ⟨r, 1, none⟩ (.int .u32 (E : Nat))).setCell ⟨r, 2, none⟩ (.int .u32 (X : Nat))).setCell ⟨r, 3, none⟩ (.slice A m c)
    w'.heap[r]? = some (.cells #[.string S, .int .u32 (E : Nat), .int .u32 (X : Nat), .slice A m c] 35 (0, 0)) ∧ Rd cM 4 w' A m zs ∧ m ≤ c ∧ Below W.heap.size W w' := by
  obtain ⟨h1, h2, h3, h5, h6⟩ := h
  obtain ⟨k1, k2, k3⟩ := four (hz _ h5) rfl (.string S) (.int .u32 (E : Nat)) (.int .u32 (X : Nat)) (.slice A m c)
  obtain ⟨A6, c6, e6, hc6, -, hR6⟩ := h2.rd fM
  have hm : m = zs.length := by simp at e6; exact e6.2.1
  have ha : A = A6 := by simp at e6; exact e6.1
  have hcc : c = c6 := by simp at e6; exact e6.2.2
  rw [← hm, ← ha] at hR6
  refine ⟨k1, hR6.other _ k2 (fun ad e e' => ?_) (fun y hy ad e h0 e' => ?_), by omega, k3 _ _ (hr ▸ hbw.trans (h5.mono (by omega))) (by omega)⟩
  · have h1 := (h2.lt (g := ad.block) (by rw [e]; rfl)).1
    omega
  · have h1 := h3 y hy ad e h0
    omega
/-- What was made of the first notes. -/
def OL (W1 : World) (r : Nat) (ys : List Y) (k : Nat) (w : World) : Prop := ∃ v, OS W1 r (nmL (nts ys)) (epo (nts ys)) (rnx (epo (nts ys)) ((nts ys).take k)) v (pick ys (livB (nts ys)) k) w
set_option maxHeartbeats 4000000 in
theorem of_any (W : World) (A : Option Addr) (n c : Nat) (ys : List Y) (hR : Rd cN 7 W A n ys) (hn : n ≤ 16000000) (hok : ∀ y ∈ ys, y.n.ok) :
    Calls Tryz.prog 9 #[.slice A n c] W fun x w' => OfAns W (nts ys) x w' := by
  obtain ⟨r, hr⟩ : ∃ r, r = W.heap.size := ⟨_, rfl⟩
  obtain ⟨W1, hW1⟩ : ∃ W1, W1 = (W.alloc (.cells #[.string ⟨#[]⟩, .int .u32 0, .int .u32 0, .slice none 0 0] 35)).alloc (.cells #[.string ⟨#[]⟩, .int .u32 0, .int .u32 1, .slice none 0 0] 35) := ⟨_, rfl⟩
  have HBW := Lib.hid (show Below r W W1 by rw [hW1, hr]; exact ((Below.refl _ _).alloc (Nat.le_refl _) _).alloc (by simp) _)
  have HWS := Lib.hid (show r + 2 = W1.heap.size by rw [hW1, hr]; simp)
  have HRC := Lib.hid (fun (w1 : World) (h : Below (r + 1) W1 w1) => show w1.heap[r]? = some (.cells #[.string ⟨#[]⟩, .int .u32 0, .int .u32 0, .slice none 0 0] 35 (0, 0)) from (h.block _ (by omega)).trans (by rw [hW1, hr, heap_alloc_old _ _ (by simp)]; exact heap_alloc_new _ _))
  have hp0 : W1.heap[r + 1]? = some (.cells #[.string ⟨#[]⟩, .int .u32 0, .int .u32 1, .slice none 0 0] 35 (0, 0)) := by rw [hW1, hr]; have := heap_alloc_new (W.alloc (.cells #[.string ⟨#[]⟩, .int .u32 0, .int .u32 0, .slice none 0 0] 35)) (.cells #[.string ⟨#[]⟩, .int .u32 0, .int .u32 1, .slice none 0 0] 35); simpa using this
  have HS0 : Hid (OS W1 r (nmL []) (epo []) 1 (.slice none 0 0) [] W1) := Lib.hid ⟨hp0, Own.nil _ _ _ _ _, by simp, Below.refl _ _, by rw [← HWS.out]; omega⟩
  have HRd := Lib.hid (fun (w' : World) (h : Below (r + 1) W1 w') => hR.below (hr ▸ (HBW.out.trans (h.mono (by omega)))))
  have HOld := Lib.hid (show ∀ (k : Nat) (y : Y), ys[k]? = some y → ∀ ad, y.A = some ad → 0 < y.m → ad.block < r from fun k y hy ad e h0 => by
    have hk : k < n := by rw [← hR.1]; exact (List.getElem?_eq_some_iff.1 hy).1
    obtain ⟨b, o, z, h1, h2, h3, h4⟩ := hR.2 k hk
    rw [hy] at h2
    cases h2
    rw [hr]
    exact h4.1.lt ad e h0)
  have HBlk := Lib.hid (show ∀ b o, A = some ⟨b, o, none⟩ → 0 < n → b < r from fun b o e h0 => by
    obtain ⟨b', o', z, h1, h2, h3, h4⟩ := hR.2 0 h0
    rw [e] at h1
    cases h1
    rw [hr]
    exact block_lt_of_cell (h3 0 _ rfl))
  have HL := Lib.hid (show (nts ys).length = n by rw [nts_len, hR.1])
  have HO := Lib.hid hok
  have HW1 := Lib.hid hW1
  have HR0 := Lib.hid hr
  clear hW1 hp0 hR hok hr
  go_enter Tryz.func9, Tryz.ntmps9
  go_wp2_with fail
  rw [← HW1.out, ← HR0.out]
  go_loopw [17] (fun i wr => ∃ k : Nat, k ≤ n ∧ i = .int .i64 k ∧ Hid (OS W1 r (nmL ((nts ys).take k)) (epo ((nts ys).take k)) 1 (.slice none 0 0) [] wr)) (fun i _ => n - (intOf i).toNat)
  case atStart => exact ⟨0, Nat.zero_le _, rfl, HS0⟩
  case round =>
    obtain ⟨k, hk, rfl, HS⟩ := hrel
    by_cases hlt : k < n
    · have hos := HS.out
      obtain ⟨b, o, y, rfl, hx, c0, c1, c2, c3, c4, c5, c6, hoc⟩ := (HRd.out _ hos.2.2.2.1).at7 k hlt
      have HT := Lib.hid ((congrArg epo (take_next (nts_at hx))).trans (epo_snoc _ _))
      have HT2 := Lib.hid ((congrArg nmL (take_next (nts_at hx))).trans (nmL_snoc _ _))
      have hyo := (HO.out y (List.mem_of_getElem? hx)).parts
      obtain ⟨⟨tk, te, ts, tu, td, tf, to_⟩, a, A', m', c'⟩ := y
      simp only [] at c0 c1 c2 c3 c4 c5 c6 HT HT2 hyo
      have d1 := cell_at hos.1 1 _ rfl
      have f1 := frozen_of_row _ _ 1 _ _ hos.1
      have f0 := frozen_of_row _ _ 0 _ _ hos.1
      have d0 := cell_at hos.1 0 _ rfl
      have hlt' : (k : Int) < (n : Int) := by omega
      have hbr : b < r := HBlk.out b o rfl (by omega)
      have hbr1 : ¬ b = r + 1 := by omega
      clear hx hoc hos
      by_cases h3 : tk = 3
      · subst h3
        have HE : Hid (nmL ((nts ys).take (k + 1)) = nmL ((nts ys).take k)) := by rw [HT2.out]; exact Lib.hid (if_pos rfl)
        clear HT2 hyo
        go_wp2_with fail
        go_still_tail 9, (by kernel_rfl)
        go_wp2_with fail
        have HS1 : Hid (OS W1 r (nmL ((nts ys).take (k + 1))) (epo ((nts ys).take (k + 1))) 1 (.slice none 0 0) [] (wr.setCell ⟨r + 1, 1, none⟩ (.int .u32 (max ((epo ((nts ys).take k) : Nat) : Int) (te : Int)))).drew) := by
          rw [HE.out, HT.out, ← natmax]
          exact Lib.hid (HS.out.setE.drewN 1)
        go_roundw
        case rel => first | exact ⟨k + 1, by omega, by go_num, HS1⟩ | ((repeat apply Exists.intro); exact ⟨⟨k + 1, by omega, by go_num, HS1⟩, rfl⟩)
        case measure => (show n - ((k : Int) + 1).toNat < n - k; omega)
      · have h3' : decide ((tk : Int) < 3) = true := by rw [decide_eq_true_iff]; omega
        have HE : Hid (nmL ((nts ys).take (k + 1)) = ts) := by rw [HT2.out]; exact Lib.hid (if_neg h3)
        clear HT2 h3 hyo
        go_wp2_with fail
        go_still_tail 9, (by kernel_rfl)
        go_wp2_with fail
        have HS1 : Hid (OS W1 r (nmL ((nts ys).take (k + 1))) (epo ((nts ys).take (k + 1))) 1 (.slice none 0 0) [] ((wr.setCell ⟨r + 1, 1, none⟩ (.int .u32 (max ((epo ((nts ys).take k) : Nat) : Int) (te : Int)))).setCell ⟨r + 1, 0, none⟩ (.string ts)).drew) := by
          rw [HE.out, HT.out, ← natmax]
          exact Lib.hid (HS.out.setE.setS.drewN 1)
        go_roundw
        case rel => first | exact ⟨k + 1, by omega, by go_num, HS1⟩ | ((repeat apply Exists.intro); exact ⟨⟨k + 1, by omega, by go_num, HS1⟩, rfl⟩)
        case measure => (show n - ((k : Int) + 1).toNat < n - k; omega)
    · obtain rfl : k = n := by omega
      have HTK : Hid ((nts ys).take k = nts ys) := Lib.hid (List.take_of_length_le (by rw [HL.out]; omega))
      have hos := HS.out
      rw [HTK.out] at hos
      have HL0 : Hid (OL W1 r ys 0 wr) := Lib.hid ⟨_, hos⟩
      have HKK := Lib.hid (And.intro hk hk)
      clear hos HTK HS hlt hk HKK
      go_wp2_with fail
      go_loopw [6, 7, 44] (fun cn la i wr => ∃ j : Nat, j ≤ k ∧ i = .int .i64 j ∧ cn = .bool (cl (epo (nts ys)) (pick (nts ys) (livB (nts ys)) j)).2 ∧ la = .int .u32 ((cl (epo (nts ys)) (pick (nts ys) (livB (nts ys)) j)).1 : Nat) ∧ Hid (OL W1 r ys j wr)) (fun _ _ i _ => k - (intOf i).toNat)
      case atStart => exact ⟨0, Nat.zero_le _, rfl, rfl, rfl, HL0⟩
      case round =>
        obtain ⟨j, hj, rfl, rfl, rfl, HS⟩ := hrel
        obtain ⟨v, hos⟩ := HS.out
        by_cases hlt : j < k
        · obtain ⟨b, o, y, rfl, hx, c0, c1, c2, c3, c4, c5, c6, hoc⟩ := (HRd.out _ hos.2.2.2.1).at7 j hlt
          have hyo := (HO.out y (List.mem_of_getElem? hx)).parts
          obtain ⟨⟨tk, te, ts, tu, td, tf, to_⟩, a, A', m', c'⟩ := y
          simp only [] at c0 c1 c2 c3 c4 c5 c6 hyo
          have HX := Lib.hid hx
          have HOS := Lib.hid hos
          have HYO := Lib.hid hyo
          have hbr : b < r := HBlk.out b o rfl (by omega)
          have hbr1 : ¬ b = r + 1 := by omega
          have hlt' : (j : Int) < (k : Int) := by omega
          have hgt := hos.2.2.2.2
          clear hx hoc hos hyo
          obtain ⟨B15, hB15⟩ : ∃ B, B = decide (1 < tk ∧ te = epo (nts ys)) := ⟨_, rfl⟩
          have HB15 := Lib.hid hB15
          clear hB15
          go_upto_region 15 with (fail)
          go_cut [60] from 45 to 144 (fun s wx => s = .bool B15 ∧ Hid (OS W1 r (nmL (nts ys)) (epo (nts ys)) (rnx (epo (nts ys)) ((nts ys).take j)) v (pick ys (livB (nts ys)) j) wx) ∧ Hid (wx.heap[wr.heap.size]? = some (.cells #[.int .i64 (tk : Nat), .int .u32 (te : Nat), .string ts, .int .u32 (tu : Nat), .int .i64 td, .int .i64 tf, .slice A' m' c'] 51 (0, 0))))
          case first =>
            have d1 := cell_at HOS.out.1 1 _ rfl
            have hpw : r + 1 < wr.heap.size := by omega
            by_cases h1 : tk = 1
            · subst h1
              have hb : B15 = false := by rw [HB15.out]; simp
              subst hb
              go_wp2_with fail
              go_meet
              exact ⟨rfl, Lib.hid (HOS.out.alloc _), Lib.hid (heap_alloc_new _ _)⟩
            · have h1' : decide ((1 : Int) < (tk : Int)) = true := by have := HYO.out; rw [decide_eq_true_iff]; omega
              by_cases hE : te = epo (nts ys)
              · have hE' : ((te : Int) == ((epo (nts ys) : Nat) : Int)) = true := by rw [beq_iff_eq]; omega
                have hb : B15 = true := by have := HYO.out; rw [HB15.out, decide_eq_true_iff]; omega
                subst hb
                clear hE h1
                go_wp2_with fail
                go_meet
                exact ⟨rfl, Lib.hid (HOS.out.alloc _), Lib.hid (heap_alloc_new _ _)⟩
              · have hE' : ((te : Int) == ((epo (nts ys) : Nat) : Int)) = false := by rw [beq_eq_false_iff_ne]; omega
                have hb : B15 = false := by rw [HB15.out, decide_eq_false_iff_not]; omega
                subst hb
                clear hE h1
                go_wp2_with fail
                go_meet
                exact ⟨rfl, Lib.hid (HOS.out.alloc _), Lib.hid (heap_alloc_new _ _)⟩
          case rest =>
            obtain ⟨rfl, HO5, HN5⟩ := hcut
            have HP9 := Lib.hid hgt
            have HVP := Lib.hid (show ∀ g, v.ownBlock = some g → g < wr.heap.size from fun g e => (HOS.out.2.1.lt e).2)
            generalize wr.heap.size = p9 at *
            have hpp : ¬ p9 = r + 1 := by omega
            have hpp' : ¬ r + 1 = p9 := by omega
            have HRX := Lib.hid ((congrArg (rnx (epo (nts ys))) (take_next (nts_at HX.out))).trans (rnx_snoc _ _ _))
            clear c0 c1 c2 c3 c4 c5 c6
            go_upto_if 60 with (fail)
            go_cut [] from 45 to 144 (fun wx => Hid (OS W1 r (nmL (nts ys)) (epo (nts ys)) (rnx (epo (nts ys)) ((nts ys).take (j + 1))) v (pick ys (livB (nts ys)) j) wx) ∧ Hid (wx.heap[p9]? = some (.cells #[.int .i64 (tk : Nat), .int .u32 (te : Nat), .string ts, .int .u32 (tu : Nat), .int .i64 td, .int .i64 tf, .slice A' m' c'] 51 (0, 0))))
            case first =>
              cases B15 with
              | false =>
                have HRX2 : Hid (rnx (epo (nts ys)) ((nts ys).take (j + 1)) = rnx (epo (nts ys)) ((nts ys).take j)) := by rw [HRX.out]; exact Lib.hid (if_neg (of_decide_eq_false HB15.out.symm))
                go_wp2_with fail
                go_meet
                exact ⟨by rw [HRX2.out]; exact HO5, HN5⟩
              | true =>
                have HRX2 : Hid (rnx (epo (nts ys)) ((nts ys).take (j + 1)) = max (rnx (epo (nts ys)) ((nts ys).take j)) (if tu < 4294967295 then tu + 1 else tu)) := by rw [HRX.out]; exact Lib.hid (if_pos (of_decide_eq_true HB15.out.symm))
                have e3 := cell_at HN5.out 3 _ rfl
                have d2 := cell_at HO5.out.1 2 _ rfl
                have f2 := frozen_of_row _ _ 2 _ _ HO5.out.1
                by_cases hu : tu < 4294967295
                · have hu' : decide ((tu : Int) < 4294967295) = true := by rw [decide_eq_true_iff]; omega
                  rw [if_pos hu] at HRX2
                  go_wp2_with fail
                  go_meet
                  exact ⟨by rw [HRX2.out, ← natmax1]; exact Lib.hid HO5.out.setX, by rw [← natmax1]; exact Lib.hid ((heap_setCell_other _ _ _ _ (by show p9 ≠ r + 1; omega)).trans HN5.out)⟩
                · have hu' : decide ((tu : Int) < 4294967295) = false := by rw [decide_eq_false_iff_not]; omega
                  rw [if_neg hu] at HRX2
                  go_wp2_with fail
                  go_meet
                  exact ⟨by rw [HRX2.out, ← natmax]; exact Lib.hid HO5.out.setX, by rw [← natmax]; exact Lib.hid ((heap_setCell_other _ _ _ _ (by show p9 ≠ r + 1; omega)).trans HN5.out)⟩
            case rest =>
              obtain ⟨HO6, HN6⟩ := hcut
              clear HRX HO5 HN5 HB15
              have e0 := cell_at HN6.out 0 _ rfl
              have hp9 : p9 < wc.heap.size := block_lt_of_cell e0
              obtain ⟨T, hT⟩ : ∃ T : Nt, T = ⟨tk, te, ts, tu, td, tf, to_⟩ := ⟨_, rfl⟩
              have HTT := Lib.hid hT
              have HG0 : Hid (gto T (nts ys) j (j + 1) = ((tk : Int) != 2)) := by
                rw [gto_start, hT]
                exact Lib.hid (show decide (tk ≠ 2) = ((tk : Int) != 2) by rw [Bool.eq_iff_iff, decide_eq_true_iff, bne_iff_ne]; omega)
              clear hT
              go_wp2_with fail
              go_loopw [11, 12] (fun g i wr2 => ∃ q d : Nat, j + 1 ≤ q ∧ q ≤ k ∧ i = .int .i64 q ∧ g = .bool (gto T (nts ys) j q) ∧ wr2 = wc.drewN d) (fun _ i _ => k - (intOf i).toNat)
              case atStart => exact ⟨j + 1, 0, Nat.le_refl _, by omega, by go_num, by rw [HG0.out], rfl⟩
              case round =>
                obtain ⟨q, d, hq1, hq2, rfl, rfl, rfl⟩ := hrel
                by_cases hqk : q < k
                · have HOq := HO6.out.drewN d
                  obtain ⟨b', o', z, hb', hz, c0, c1, c2, c3, c4, c5, c6, -⟩ := (HRd.out _ HOq.2.2.2.1).at7 q hqk
                  obtain ⟨rfl, rfl⟩ : b' = b ∧ o' = o := by simp at hb'; omega
                  have HGS := Lib.hid ((show ∀ T' : Nt, T' = ⟨tk, te, ts, tu, td, tf, to_⟩ → gto T' (nts ys) j (q + 1) = (gto T' (nts ys) j q || decide (z.n.k = 3 ∧ z.n.e = te ∧ z.n.u = tu)) from fun T' h => by subst h; exact gto_step hq1 (nts_at hz)) T HTT.out)
                  obtain ⟨⟨zk, ze, zs, zu, zd, zf, zo⟩, za, zA, zm, zc⟩ := z
                  have e1 : (wc.drewN d).cell? ⟨p9, 1, none⟩ = some (.int .u32 (te : Nat)) := cell_at (w := wc.drewN d) HN6.out 1 _ rfl
                  have e3 : (wc.drewN d).cell? ⟨p9, 3, none⟩ = some (.int .u32 (tu : Nat)) := cell_at (w := wc.drewN d) HN6.out 3 _ rfl
                  simp only [] at c0 c1 c2 c3 c4 c5 c6 HGS
                  obtain ⟨gv, hgv⟩ : ∃ gv, gv = gto T (nts ys) j q := ⟨_, rfl⟩
                  rw [← hgv] at HGS ⊢
                  have hq' : (q : Int) < (k : Int) := by omega
                  generalize hWq : wc.drewN d = Wq at *
                  have HWq := Lib.hid hWq
                  clear hz hb' HOq hgv hWq hqk e0
                  cases gv with
                  | true =>
                    have HG1 : Hid (gto T (nts ys) j (q + 1) = true) := by rw [HGS.out]; exact Lib.hid (Bool.true_or _)
                    clear HGS
                    go_wp2_with fail
                    go_quiet (fail)
                    have HQ : Hid (Wq.drewN nq = wc.drewN (d + nq)) := by
                      show _ = _
                      rw [← HWq.out, World.drewN_drewN]
                    clear c0 c1 c2 c3 c4 c5 c6 e1 e3 HWq
                    generalize Wq.drewN nq = W2 at *
                    go_wp2_with fail
                    go_roundw
                    case rel => first | exact ⟨q + 1, d + nq, by omega, by omega, by go_num, by rw [HG1.out], HQ.out⟩ | ((repeat apply Exists.intro); exact ⟨⟨q + 1, d + nq, by omega, by omega, by go_num, by rw [HG1.out], HQ.out⟩, rfl⟩)
                    case measure => (show k - ((q : Int) + 1).toNat < k - q; omega)
                  | false =>
                    by_cases h3 : zk = 3
                    · subst h3
                      by_cases h4 : ze = te
                      · have h4' : ((ze : Int) == (te : Int)) = true := by rw [beq_iff_eq]; omega
                        by_cases h5 : zu = tu
                        · have h5' : ((zu : Int) == (tu : Int)) = true := by rw [beq_iff_eq]; omega
                          have HG1 : Hid (gto T (nts ys) j (q + 1) = true) := by rw [HGS.out]; exact Lib.hid (by rw [Bool.false_or, decide_eq_true_iff]; exact ⟨rfl, h4, h5⟩)
                          clear HGS h4 h5
                          go_wp2_with fail
                          go_quiet (fail)
                          have HQ : Hid (Wq.drewN nq = wc.drewN (d + nq)) := by
                            show _ = _
                            rw [← HWq.out, World.drewN_drewN]
                          clear c0 c1 c2 c3 c4 c5 c6 e1 e3 HWq
                          generalize Wq.drewN nq = W2 at *
                          go_wp2_with fail
                          go_roundw
                          case rel => first | exact ⟨q + 1, d + nq, by omega, by omega, by go_num, by rw [HG1.out], HQ.out⟩ | ((repeat apply Exists.intro); exact ⟨⟨q + 1, d + nq, by omega, by omega, by go_num, by rw [HG1.out], HQ.out⟩, rfl⟩)
                          case measure => (show k - ((q : Int) + 1).toNat < k - q; omega)
                        · have h5' : ((zu : Int) == (tu : Int)) = false := by rw [beq_eq_false_iff_ne]; omega
                          have HG1 : Hid (gto T (nts ys) j (q + 1) = false) := by rw [HGS.out]; exact Lib.hid (by rw [Bool.false_or, decide_eq_false_iff_not]; exact fun h => h5 h.2.2)
                          clear HGS h4 h5
                          go_wp2_with fail
                          go_quiet (fail)
                          have HQ : Hid (Wq.drewN nq = wc.drewN (d + nq)) := by
                            show _ = _
                            rw [← HWq.out, World.drewN_drewN]
                          clear c0 c1 c2 c3 c4 c5 c6 e1 e3 HWq
                          generalize Wq.drewN nq = W2 at *
                          go_wp2_with fail
                          go_roundw
                          case rel => first | exact ⟨q + 1, d + nq, by omega, by omega, by go_num, by rw [HG1.out], HQ.out⟩ | ((repeat apply Exists.intro); exact ⟨⟨q + 1, d + nq, by omega, by omega, by go_num, by rw [HG1.out], HQ.out⟩, rfl⟩)
                          case measure => (show k - ((q : Int) + 1).toNat < k - q; omega)
                      · have h4' : ((ze : Int) == (te : Int)) = false := by rw [beq_eq_false_iff_ne]; omega
                        have HG1 : Hid (gto T (nts ys) j (q + 1) = false) := by rw [HGS.out]; exact Lib.hid (by rw [Bool.false_or, decide_eq_false_iff_not]; exact fun h => h4 h.2.1)
                        clear HGS h4
                        go_wp2_with fail
                        go_quiet (fail)
                        have HQ : Hid (Wq.drewN nq = wc.drewN (d + nq)) := by
                          show _ = _
                          rw [← HWq.out, World.drewN_drewN]
                        clear c0 c1 c2 c3 c4 c5 c6 e1 e3 HWq
                        generalize Wq.drewN nq = W2 at *
                        go_wp2_with fail
                        go_roundw
                        case rel => first | exact ⟨q + 1, d + nq, by omega, by omega, by go_num, by rw [HG1.out], HQ.out⟩ | ((repeat apply Exists.intro); exact ⟨⟨q + 1, d + nq, by omega, by omega, by go_num, by rw [HG1.out], HQ.out⟩, rfl⟩)
                        case measure => (show k - ((q : Int) + 1).toNat < k - q; omega)
                    · have h3' : ((zk : Int) == 3) = false := by rw [beq_eq_false_iff_ne]; omega
                      have HG1 : Hid (gto T (nts ys) j (q + 1) = false) := by rw [HGS.out]; exact Lib.hid (by rw [Bool.false_or, decide_eq_false_iff_not]; exact fun h => h3 h.1)
                      clear HGS h3
                      go_wp2_with fail
                      go_quiet (fail)
                      have HQ : Hid (Wq.drewN nq = wc.drewN (d + nq)) := by
                        show _ = _
                        rw [← HWq.out, World.drewN_drewN]
                      clear c0 c1 c2 c3 c4 c5 c6 e1 e3 HWq
                      generalize Wq.drewN nq = W2 at *
                      go_wp2_with fail
                      go_roundw
                      case rel => first | exact ⟨q + 1, d + nq, by omega, by omega, by go_num, by rw [HG1.out], HQ.out⟩ | ((repeat apply Exists.intro); exact ⟨⟨q + 1, d + nq, by omega, by omega, by go_num, by rw [HG1.out], HQ.out⟩, rfl⟩)
                      case measure => (show k - ((q : Int) + 1).toNat < k - q; omega)
                · obtain rfl : q = k := by omega
                  have HLV : Hid (livB (nts ys) j = !gto T (nts ys) j q) := by
                    have h := gto_end (nts_at HX.out)
                    rw [HL.out, ← HTT.out] at h
                    exact Lib.hid h
                  obtain ⟨gv, hgv⟩ : ∃ gv, gv = gto T (nts ys) j q := ⟨_, rfl⟩
                  rw [← hgv] at HLV ⊢
                  clear hgv e0 hqk
                  cases gv with
                  | true =>
                    have HPY : Hid (pick ys (livB (nts ys)) (j + 1) = pick ys (livB (nts ys)) j) := Lib.hid (pick_no HLV.out)
                    have HPN : Hid (pick (nts ys) (livB (nts ys)) (j + 1) = pick (nts ys) (livB (nts ys)) j) := Lib.hid (pick_no HLV.out)
                    go_wp2_with fail
                    go_roundw
                    case rel => first | exact ⟨j + 1, by omega, by go_num, by rw [HPN.out], by rw [HPN.out], Lib.hid ⟨v, by rw [HPY.out]; exact HO6.out.drewN d⟩⟩ | ((repeat apply Exists.intro); exact ⟨⟨j + 1, by omega, by go_num, by rw [HPN.out], by rw [HPN.out], Lib.hid ⟨v, by rw [HPY.out]; exact HO6.out.drewN d⟩⟩, rfl⟩)
                    case measure => (show q - ((j : Int) + 1).toNat < q - j; omega)
                  | false =>
                    have HPY : Hid (pick ys (livB (nts ys)) (j + 1) = pick ys (livB (nts ys)) j ++ [⟨⟨tk, te, ts, tu, td, tf, to_⟩, a, A', m', c'⟩]) := Lib.hid (pick_yes HX.out HLV.out)
                    have HCL : Hid (cl (epo (nts ys)) (pick (nts ys) (livB (nts ys)) (j + 1)) = stp (epo (nts ys)) (cl (epo (nts ys)) (pick (nts ys) (livB (nts ys)) j)) ⟨tk, te, ts, tu, td, tf, to_⟩) := Lib.hid (by rw [pick_yes (nts_at HX.out) HLV.out, cl_snoc])
                    have HOQ := Lib.hid (HO6.out.drewN d)
                    have hNQ : (wc.drewN d).heap[p9]? = some (.cells #[.int .i64 (tk : Nat), .int .u32 (te : Nat), .string ts, .int .u32 (tu : Nat), .int .i64 td, .int .i64 tf, .slice A' m' c'] 51 (0, 0)) := HN6.out
                    have n0 := cell_at hNQ 0 _ rfl
                    have n1 := cell_at hNQ 1 _ rfl
                    have n2 := cell_at hNQ 2 _ rfl
                    have n3 := cell_at hNQ 3 _ rfl
                    have n4 := cell_at hNQ 4 _ rfl
                    have n5 := cell_at hNQ 5 _ rfl
                    have n6 := cell_at hNQ 6 _ rfl
                    have c3 := cell_at HOQ.out.1 3 _ rfl
                    have c1 := cell_at HOQ.out.1 1 _ rfl
                    have HNQ := Lib.hid hNQ
                    have HPW := Lib.hid (show p9 < (wc.drewN d).heap.size from hp9)
                    have HNE := Lib.hid (show some p9 ≠ v.ownBlock from fun e => Nat.lt_irrefl _ (HVP.out _ e.symm))
                    have HOLD := Lib.hid (show ∀ ad, A' = some ad → 0 < m' → ad.block < r from fun ad e h0 => HOld.out j _ HX.out ad e h0)
                    have HOA := Lib.hid (show ∀ ad, A' = some ad → 0 < m' → v.ownBlock ≠ some ad.block from fun ad e h0 e' => by
                      have h1 := HOLD.out ad e h0
                      have h2 := (HOQ.out.2.1.lt e').1
                      omega)
                    obtain ⟨b', o', z', hb', hz', -, hoct'⟩ := (HRd.out _ HOQ.out.2.2.2.1).2 j (by omega)
                    have HOCT : Hid (Oct (wc.drewN d) ⟨⟨tk, te, ts, tu, td, tf, to_⟩, a, A', m', c'⟩) := by
                      rw [HX.out] at hz'
                      cases hz'
                      exact Lib.hid hoct'
                    obtain ⟨L, hL⟩ : ∃ L, L = (cl (epo (nts ys)) (pick (nts ys) (livB (nts ys)) j)).1 := ⟨_, rfl⟩
                    obtain ⟨C, hC⟩ : ∃ C, C = (cl (epo (nts ys)) (pick (nts ys) (livB (nts ys)) j)).2 := ⟨_, rfl⟩
                    have hLC : cl (epo (nts ys)) (pick (nts ys) (livB (nts ys)) j) = (L, C) := by rw [hL, hC]
                    rw [hLC] at HCL ⊢
                    simp only [stp] at HCL
                    simp only []
                    have hlt2 : (j : Int) < (q : Int) := by omega
                    clear hL hC hLC hz' hoct' hb' hNQ
                    have hU := HYO.out.2.2.2.2.2.2
                    by_cases k1 : te = epo (nts ys)
                    · have k1' : ((te : Int) != ((epo (nts ys) : Nat) : Int)) = false := by rw [bne_eq_false_iff_eq]; omega
                      by_cases k2 : L < tu
                      · have k2' : decide (tu ≤ L) = false := by rw [decide_eq_false_iff_not]; omega
                        by_cases k3 : tu < 4294967295
                        · have k3' : ((tu : Int) == 4294967295) = false := by rw [beq_eq_false_iff_ne]; omega
                          have HC : Hid (cl (epo (nts ys)) (pick (nts ys) (livB (nts ys)) (j + 1)) = (tu, C)) := by rw [HCL.out]; exact Lib.hid (by rw [decide_eq_true ⟨k1, k2, k3⟩, Bool.and_true])
                          clear k1 k2 k3 HCL hU
                          go_wp2_with (at_builtin; refine wpList_append_own fM (by decide) (by decide) (by decide) rfl rfl (.tmp 117) (.tmp 120) 33 47 rfl Tryz.underlying33 infoM (r + 2) v _ rfl HOQ.out.2.1 HOQ.out.2.2.2.2 (by have := pick_len ys (livB (nts ys)) j; omega) ⟨⟨tk, te, ts, tu, td, tf, to_⟩, a, A', m', c'⟩ (0, 0) _ rfl rfl _ rfl HOCT.out HOA.out ?_; intro v' w2 ho hgr hat; obtain ⟨A2, c2, hv2, -⟩ := ho.rd fM; generalize (pick ys (livB (nts ys)) j ++ [(⟨⟨tk, te, ts, tu, td, tf, to_⟩, a, A', m', c'⟩ : Y)]).length = m2 at hv2; subst hv2; obtain ⟨hos2, hb2⟩ := OS.push HOQ.out ho hgr HOLD.out; have HS2 := Lib.hid hos2; have HPB := Lib.hid ((hgr.block p9 HPW.out HNE.out).trans HNQ.out); have x1 := cell_at hb2 1 _ rfl; have x3 := cell_at hb2 3 _ rfl; have y3 := frozen_of_row _ _ 3 _ _ hb2; have z1 := cell_at HPB.out 1 _ rfl; have z3 := cell_at HPB.out 3 _ rfl; clear ho hgr hat hos2 hb2 c1 c3 n0 n1 n2 n3 n4 n5 n6)
                          go_roundw
                          case rel => first | exact ⟨j + 1, by omega, by go_num, by rw [HC.out], by rw [HC.out], Lib.hid ⟨_, by rw [HPY.out]; exact HS2.out⟩⟩ | ((repeat apply Exists.intro); exact ⟨⟨j + 1, by omega, by go_num, by rw [HC.out], by rw [HC.out], Lib.hid ⟨_, by rw [HPY.out]; exact HS2.out⟩⟩, rfl⟩)
                          case measure => (show q - ((j : Int) + 1).toNat < q - j; omega)
                        · have k3' : ((tu : Int) == 4294967295) = true := by rw [beq_iff_eq]; omega
                          have HC : Hid (cl (epo (nts ys)) (pick (nts ys) (livB (nts ys)) (j + 1)) = (tu, false)) := by rw [HCL.out]; exact Lib.hid (by rw [decide_eq_false (fun h => k3 h.2.2), Bool.and_false])
                          clear k1 k2 k3 HCL hU
                          go_wp2_with (at_builtin; refine wpList_append_own fM (by decide) (by decide) (by decide) rfl rfl (.tmp 117) (.tmp 120) 33 47 rfl Tryz.underlying33 infoM (r + 2) v _ rfl HOQ.out.2.1 HOQ.out.2.2.2.2 (by have := pick_len ys (livB (nts ys)) j; omega) ⟨⟨tk, te, ts, tu, td, tf, to_⟩, a, A', m', c'⟩ (0, 0) _ rfl rfl _ rfl HOCT.out HOA.out ?_; intro v' w2 ho hgr hat; obtain ⟨A2, c2, hv2, -⟩ := ho.rd fM; generalize (pick ys (livB (nts ys)) j ++ [(⟨⟨tk, te, ts, tu, td, tf, to_⟩, a, A', m', c'⟩ : Y)]).length = m2 at hv2; subst hv2; obtain ⟨hos2, hb2⟩ := OS.push HOQ.out ho hgr HOLD.out; have HS2 := Lib.hid hos2; have HPB := Lib.hid ((hgr.block p9 HPW.out HNE.out).trans HNQ.out); have x1 := cell_at hb2 1 _ rfl; have x3 := cell_at hb2 3 _ rfl; have y3 := frozen_of_row _ _ 3 _ _ hb2; have z1 := cell_at HPB.out 1 _ rfl; have z3 := cell_at HPB.out 3 _ rfl; clear ho hgr hat hos2 hb2 c1 c3 n0 n1 n2 n3 n4 n5 n6)
                          go_roundw
                          case rel => first | exact ⟨j + 1, by omega, by go_num, by rw [HC.out], by rw [HC.out], Lib.hid ⟨_, by rw [HPY.out]; exact HS2.out⟩⟩ | ((repeat apply Exists.intro); exact ⟨⟨j + 1, by omega, by go_num, by rw [HC.out], by rw [HC.out], Lib.hid ⟨_, by rw [HPY.out]; exact HS2.out⟩⟩, rfl⟩)
                          case measure => (show q - ((j : Int) + 1).toNat < q - j; omega)
                      · have k2' : decide (tu ≤ L) = true := by rw [decide_eq_true_iff]; omega
                        have HC : Hid (cl (epo (nts ys)) (pick (nts ys) (livB (nts ys)) (j + 1)) = (tu, false)) := by rw [HCL.out]; exact Lib.hid (by rw [decide_eq_false (fun h => k2 h.2.1), Bool.and_false])
                        clear k1 k2 HCL hU
                        go_wp2_with (at_builtin; refine wpList_append_own fM (by decide) (by decide) (by decide) rfl rfl (.tmp 117) (.tmp 120) 33 47 rfl Tryz.underlying33 infoM (r + 2) v _ rfl HOQ.out.2.1 HOQ.out.2.2.2.2 (by have := pick_len ys (livB (nts ys)) j; omega) ⟨⟨tk, te, ts, tu, td, tf, to_⟩, a, A', m', c'⟩ (0, 0) _ rfl rfl _ rfl HOCT.out HOA.out ?_; intro v' w2 ho hgr hat; obtain ⟨A2, c2, hv2, -⟩ := ho.rd fM; generalize (pick ys (livB (nts ys)) j ++ [(⟨⟨tk, te, ts, tu, td, tf, to_⟩, a, A', m', c'⟩ : Y)]).length = m2 at hv2; subst hv2; obtain ⟨hos2, hb2⟩ := OS.push HOQ.out ho hgr HOLD.out; have HS2 := Lib.hid hos2; have HPB := Lib.hid ((hgr.block p9 HPW.out HNE.out).trans HNQ.out); have x1 := cell_at hb2 1 _ rfl; have x3 := cell_at hb2 3 _ rfl; have y3 := frozen_of_row _ _ 3 _ _ hb2; have z1 := cell_at HPB.out 1 _ rfl; have z3 := cell_at HPB.out 3 _ rfl; clear ho hgr hat hos2 hb2 c1 c3 n0 n1 n2 n3 n4 n5 n6)
                        go_roundw
                        case rel => first | exact ⟨j + 1, by omega, by go_num, by rw [HC.out], by rw [HC.out], Lib.hid ⟨_, by rw [HPY.out]; exact HS2.out⟩⟩ | ((repeat apply Exists.intro); exact ⟨⟨j + 1, by omega, by go_num, by rw [HC.out], by rw [HC.out], Lib.hid ⟨_, by rw [HPY.out]; exact HS2.out⟩⟩, rfl⟩)
                        case measure => (show q - ((j : Int) + 1).toNat < q - j; omega)
                    · have k1' : ((te : Int) != ((epo (nts ys) : Nat) : Int)) = true := by rw [bne_iff_ne]; omega
                      have HC : Hid (cl (epo (nts ys)) (pick (nts ys) (livB (nts ys)) (j + 1)) = (tu, false)) := by rw [HCL.out]; exact Lib.hid (by rw [decide_eq_false (fun h => k1 h.1), Bool.and_false])
                      clear k1 HCL hU
                      go_wp2_with (at_builtin; refine wpList_append_own fM (by decide) (by decide) (by decide) rfl rfl (.tmp 117) (.tmp 120) 33 47 rfl Tryz.underlying33 infoM (r + 2) v _ rfl HOQ.out.2.1 HOQ.out.2.2.2.2 (by have := pick_len ys (livB (nts ys)) j; omega) ⟨⟨tk, te, ts, tu, td, tf, to_⟩, a, A', m', c'⟩ (0, 0) _ rfl rfl _ rfl HOCT.out HOA.out ?_; intro v' w2 ho hgr hat; obtain ⟨A2, c2, hv2, -⟩ := ho.rd fM; generalize (pick ys (livB (nts ys)) j ++ [(⟨⟨tk, te, ts, tu, td, tf, to_⟩, a, A', m', c'⟩ : Y)]).length = m2 at hv2; subst hv2; obtain ⟨hos2, hb2⟩ := OS.push HOQ.out ho hgr HOLD.out; have HS2 := Lib.hid hos2; have HPB := Lib.hid ((hgr.block p9 HPW.out HNE.out).trans HNQ.out); have x1 := cell_at hb2 1 _ rfl; have x3 := cell_at hb2 3 _ rfl; have y3 := frozen_of_row _ _ 3 _ _ hb2; have z1 := cell_at HPB.out 1 _ rfl; have z3 := cell_at HPB.out 3 _ rfl; clear ho hgr hat hos2 hb2 c1 c3 n0 n1 n2 n3 n4 n5 n6)
                      go_roundw
                      case rel => first | exact ⟨j + 1, by omega, by go_num, by rw [HC.out], by rw [HC.out], Lib.hid ⟨_, by rw [HPY.out]; exact HS2.out⟩⟩ | ((repeat apply Exists.intro); exact ⟨⟨j + 1, by omega, by go_num, by rw [HC.out], by rw [HC.out], Lib.hid ⟨_, by rw [HPY.out]; exact HS2.out⟩⟩, rfl⟩)
                      case measure => (show q - ((j : Int) + 1).toNat < q - j; omega)
        · obtain rfl : j = k := by omega
          have HLIV : Hid (pick (nts ys) (livB (nts ys)) j = lives (nts ys)) := Lib.hid (by unfold lives; rw [HL.out])
          have HZN : Hid (nts (pick ys (livB (nts ys)) j) = lives (nts ys)) := Lib.hid (by unfold nts; rw [pick_map]; exact HLIV.out)
          have htk : (nts ys).take j = nts ys := List.take_of_length_le (by rw [HL.out]; omega)
          rw [htk, rnx_eq (fun t ht => by
            obtain ⟨y, hy, rfl⟩ := List.mem_map.1 ht
            exact HO.out y hy)] at hos
          obtain ⟨A2, c2, hv2, -⟩ := hos.2.1.rd fM
          obtain ⟨m2, hm2⟩ : ∃ m2, m2 = (pick ys (livB (nts ys)) j).length := ⟨_, rfl⟩
          rw [← hm2] at hv2
          subst hv2
          have HML : Hid (m2 = (lives (nts ys)).length) := Lib.hid (by rw [hm2, ← HZN.out, nts_len])
          have hmj : m2 ≤ j := by rw [hm2]; exact pick_len _ _ _
          clear hm2 htk
          rw [HLIV.out]
          obtain ⟨S, hS⟩ : ∃ S, S = nmL (nts ys) := ⟨_, rfl⟩
          obtain ⟨E, hE⟩ : ∃ E, E = epo (nts ys) := ⟨_, rfl⟩
          have hEl : E < 4294967296 := by
            rw [hE]
            exact epo_lt (fun t ht => by
              obtain ⟨y, hy, rfl⟩ := List.mem_map.1 ht
              exact HO.out y hy)
          rw [← hS, ← hE] at hos
          rw [← hE]
          obtain ⟨X2, hX2⟩ : ∃ X2, X2 = nxt (top E (nts ys)) := ⟨_, rfl⟩
          rw [← hX2] at hos
          obtain ⟨CC, hCC⟩ : ∃ CC, CC = (cl E (lives (nts ys))).2 := ⟨_, rfl⟩
          rw [← hCC]
          have HSS := Lib.hid hS
          have HEE := Lib.hid hE
          have HX2 := Lib.hid hX2
          have HCC : Hid ((cl (epo (nts ys)) (lives (nts ys))).2 = CC) := Lib.hid (by rw [hCC, hE])
          have HOS := Lib.hid hos
          have a0 := cell_at hos.1 0 _ rfl
          have a1 := cell_at hos.1 1 _ rfl
          have a2 := cell_at hos.1 2 _ rfl
          have a3 := cell_at hos.1 3 _ rfl
          have f1 := frozen_of_row _ _ 1 _ _ hos.1
          have hXR := HRC.out _ hos.2.2.2.1
          have r0 := cell_at hXR 0 _ rfl
          have s0 := frozen_of_row _ _ 0 _ _ hXR
          have r1 := cell_at hXR 1 _ rfl
          have s1 := frozen_of_row _ _ 1 _ _ hXR
          have r2 := cell_at hXR 2 _ rfl
          have s2 := frozen_of_row _ _ 2 _ _ hXR
          have r3 := cell_at hXR 3 _ rfl
          have s3 := frozen_of_row _ _ 3 _ _ hXR
          clear hos hXR hS hE hX2 hCC HS
          cases CC with
          | true =>
            go_wp2_with fail
            obtain ⟨k1, k2, k3, k4⟩ := HOS.out.done HBW.out HR0.out HRC.out
            refine bodyPost_ret (frm.results_cell_tmp Tryz.results9 _ _ r _ _ _ _ rfl k1 Tryz.underlying35 rfl (boxSize _ rfl)) rfl ⟨A2, m2, c2, _, ?_, k2, k3, ?_, k4⟩
            · rw [HCC.out]
              unfold boxE boxX
              rw [HCC.out, if_pos rfl, if_pos rfl, ← HEE.out, ← HX2.out, ← HSS.out]
              rfl
            · unfold lg.boxed
              rw [HCC.out, if_pos rfl, HZN.out]
          | false =>
            by_cases hmx : E < 4294967295
            · have hmx' : decide ((E : Int) < 4294967295) = true := by rw [decide_eq_true_iff]; omega
              obtain ⟨E2, hE2⟩ : ∃ E2, E2 = E + 1 := ⟨_, rfl⟩
              have HE2 : Hid (E2 = min (epo (nts ys)) 4294967294 + 1) := Lib.hid (by rw [← HEE.out]; omega)
              have HST : Hid (OS W1 r S E2 X2 (.slice A2 m2 c2) (ruY (pick ys (livB (nts ys)) j) 0) (wr.setCell ⟨r + 1, 1, none⟩ (.int .u32 ((E : Int) + 1)))) := by
                rw [show ((E : Int) + 1) = ((E2 : Nat) : Int) by omega]
                exact Lib.hid HOS.out.setE
              clear hE2
              go_wp2_with fail
              go_loopw [157] (fun i wr => ∃ q : Nat, q ≤ m2 ∧ i = .int .i64 q ∧ Hid (OS W1 r S E2 X2 (.slice A2 m2 c2) (ruY (pick ys (livB (nts ys)) j) q) wr)) (fun i _ => m2 - (intOf i).toNat)
              case atStart => exact ⟨0, Nat.zero_le _, rfl, HST⟩
              case round =>
                obtain ⟨q, hq, rfl, HS⟩ := hrel
                obtain ⟨l1, l2, l3, l4, l5⟩ := HS.out
                have a3 := cell_at l1 3 _ rfl
                by_cases hlt : q < m2
                · have hlen : (ruY (pick ys (livB (nts ys)) j) q).length = m2 := l2.len'
                  obtain ⟨g, rfl, hg⟩ := l2.form' (by omega)
                  have hkl : q < (ruY (pick ys (livB (nts ys)) j) q).length := by omega
                  have hyk : (ruY (pick ys (livB (nts ys)) j) q)[q]? = some (ruY (pick ys (livB (nts ys)) j) q)[q] := List.getElem?_eq_getElem hkl
                  have hcl := (hlen ▸ l2.1 : World.ownsRow wr (r + 2) 47 4 (.slice (some ⟨g, 0, none⟩) m2 c2) m2 (fl cM (ruY (pick ys (livB (nts ys)) j) q))).cellAt (q * 4) (by omega)
                  have hfz := (hlen ▸ l2.1 : World.ownsRow wr (r + 2) 47 4 (.slice (some ⟨g, 0, none⟩) m2 c2) m2 (fl cM (ruY (pick ys (livB (nts ys)) j) q))).frozenAt (q * 4)
                  have hca : (fl cM (ruY (pick ys (livB (nts ys)) j) q))[q * 4]? = some (.int .u32 ((ruY (pick ys (livB (nts ys)) j) q)[q].n.u : Nat)) := fl_at fM _ q _ hyk 0 _ rfl
                  rw [hca] at hcl
                  obtain ⟨uu, huu⟩ : ∃ uu, uu = (ruY (pick ys (livB (nts ys)) j) q)[q].n.u := ⟨_, rfl⟩
                  rw [← huu] at hcl
                  have HN2 := Lib.hid (HS.out.step hkl)
                  have hlt' : (q : Int) < (m2 : Int) := by omega
                  have hgp : ¬ g = r + 1 := by omega
                  have e32 := IntWalk.u32_in ((q : Int) + 1) (by omega)
                  clear l1 l2 l3 l4 l5 hca huu hyk hlen hkl
                  go_wp2_with fail
                  go_roundw
                  case rel => first | exact ⟨q + 1, by omega, by go_num, by simpa using HN2⟩ | ((repeat apply Exists.intro); exact ⟨⟨q + 1, by omega, by go_num, by simpa using HN2⟩, rfl⟩)
                  case measure => (show m2 - ((q : Int) + 1).toNat < m2 - q; omega)
                · obtain rfl : q = m2 := by omega
                  have a0 := cell_at l1 0 _ rfl
                  have a1 := cell_at l1 1 _ rfl
                  have a2 := cell_at l1 2 _ rfl
                  have g2 := frozen_of_row _ _ 2 _ _ l1
                  have hX2 := HRC.out _ l4
                  have r0 := cell_at hX2 0 _ rfl
                  have s0 := frozen_of_row _ _ 0 _ _ hX2
                  have r1 := cell_at hX2 1 _ rfl
                  have s1 := frozen_of_row _ _ 1 _ _ hX2
                  have r2 := cell_at hX2 2 _ rfl
                  have s2 := frozen_of_row _ _ 2 _ _ hX2
                  have r3 := cell_at hX2 3 _ rfl
                  have s3 := frozen_of_row _ _ 3 _ _ hX2
                  have e32 := IntWalk.u32_in ((q : Int) + 1) (by omega)
                  clear l1 l2 l3 l4 l5 hX2
                  go_wp2_with fail
                  obtain ⟨k1, k2, k3, k4⟩ := (HS.out.setX (X' := q + 1)).done HBW.out HR0.out HRC.out
                  refine bodyPost_ret (frm.results_cell_tmp Tryz.results9 _ _ r _ _ _ _ rfl (by simpa using k1) Tryz.underlying35 rfl (boxSize _ rfl)) rfl ⟨A2, q, c2, _, ?_, by simpa using k2, k3, ?_, by simpa using k4⟩
                  · rw [HCC.out]
                    unfold boxE boxX
                    rw [HCC.out, if_neg (by simp), if_neg (by simp), ← HE2.out, ← HML.out, Int.natCast_add, ← HSS.out]
                    rfl
                  · unfold lg.boxed
                    rw [HCC.out, if_neg (by simp), ruY_nts, HZN.out, HML.out]
            · have hmx' : decide ((E : Int) < 4294967295) = false := by rw [decide_eq_false_iff_not]; omega
              obtain ⟨E2, hE2⟩ : ∃ E2, E2 = E := ⟨_, rfl⟩
              have HE2 : Hid (E2 = min (epo (nts ys)) 4294967294 + 1) := Lib.hid (by rw [← HEE.out]; omega)
              have HST : Hid (OS W1 r S E2 X2 (.slice A2 m2 c2) (ruY (pick ys (livB (nts ys)) j) 0) wr) := by
                rw [hE2]
                exact Lib.hid HOS.out
              clear hmx hE2
              go_wp2_with fail
              go_loopw [157] (fun i wr => ∃ q : Nat, q ≤ m2 ∧ i = .int .i64 q ∧ Hid (OS W1 r S E2 X2 (.slice A2 m2 c2) (ruY (pick ys (livB (nts ys)) j) q) wr)) (fun i _ => m2 - (intOf i).toNat)
              case atStart => exact ⟨0, Nat.zero_le _, rfl, HST⟩
              case round =>
                obtain ⟨q, hq, rfl, HS⟩ := hrel
                obtain ⟨l1, l2, l3, l4, l5⟩ := HS.out
                have a3 := cell_at l1 3 _ rfl
                by_cases hlt : q < m2
                · have hlen : (ruY (pick ys (livB (nts ys)) j) q).length = m2 := l2.len'
                  obtain ⟨g, rfl, hg⟩ := l2.form' (by omega)
                  have hkl : q < (ruY (pick ys (livB (nts ys)) j) q).length := by omega
                  have hyk : (ruY (pick ys (livB (nts ys)) j) q)[q]? = some (ruY (pick ys (livB (nts ys)) j) q)[q] := List.getElem?_eq_getElem hkl
                  have hcl := (hlen ▸ l2.1 : World.ownsRow wr (r + 2) 47 4 (.slice (some ⟨g, 0, none⟩) m2 c2) m2 (fl cM (ruY (pick ys (livB (nts ys)) j) q))).cellAt (q * 4) (by omega)
                  have hfz := (hlen ▸ l2.1 : World.ownsRow wr (r + 2) 47 4 (.slice (some ⟨g, 0, none⟩) m2 c2) m2 (fl cM (ruY (pick ys (livB (nts ys)) j) q))).frozenAt (q * 4)
                  have hca : (fl cM (ruY (pick ys (livB (nts ys)) j) q))[q * 4]? = some (.int .u32 ((ruY (pick ys (livB (nts ys)) j) q)[q].n.u : Nat)) := fl_at fM _ q _ hyk 0 _ rfl
                  rw [hca] at hcl
                  obtain ⟨uu, huu⟩ : ∃ uu, uu = (ruY (pick ys (livB (nts ys)) j) q)[q].n.u := ⟨_, rfl⟩
                  rw [← huu] at hcl
                  have HN2 := Lib.hid (HS.out.step hkl)
                  have hlt' : (q : Int) < (m2 : Int) := by omega
                  have hgp : ¬ g = r + 1 := by omega
                  have e32 := IntWalk.u32_in ((q : Int) + 1) (by omega)
                  clear l1 l2 l3 l4 l5 hca huu hyk hlen hkl
                  go_wp2_with fail
                  go_roundw
                  case rel => first | exact ⟨q + 1, by omega, by go_num, by simpa using HN2⟩ | ((repeat apply Exists.intro); exact ⟨⟨q + 1, by omega, by go_num, by simpa using HN2⟩, rfl⟩)
                  case measure => (show m2 - ((q : Int) + 1).toNat < m2 - q; omega)
                · obtain rfl : q = m2 := by omega
                  have a0 := cell_at l1 0 _ rfl
                  have a1 := cell_at l1 1 _ rfl
                  have a2 := cell_at l1 2 _ rfl
                  have g2 := frozen_of_row _ _ 2 _ _ l1
                  have hX2 := HRC.out _ l4
                  have r0 := cell_at hX2 0 _ rfl
                  have s0 := frozen_of_row _ _ 0 _ _ hX2
                  have r1 := cell_at hX2 1 _ rfl
                  have s1 := frozen_of_row _ _ 1 _ _ hX2
                  have r2 := cell_at hX2 2 _ rfl
                  have s2 := frozen_of_row _ _ 2 _ _ hX2
                  have r3 := cell_at hX2 3 _ rfl
                  have s3 := frozen_of_row _ _ 3 _ _ hX2
                  have e32 := IntWalk.u32_in ((q : Int) + 1) (by omega)
                  clear l1 l2 l3 l4 l5 hX2
                  go_wp2_with fail
                  obtain ⟨k1, k2, k3, k4⟩ := (HS.out.setX (X' := q + 1)).done HBW.out HR0.out HRC.out
                  refine bodyPost_ret (frm.results_cell_tmp Tryz.results9 _ _ r _ _ _ _ rfl (by simpa using k1) Tryz.underlying35 rfl (boxSize _ rfl)) rfl ⟨A2, q, c2, _, ?_, by simpa using k2, k3, ?_, by simpa using k4⟩
                  · rw [HCC.out]
                    unfold boxE boxX
                    rw [HCC.out, if_neg (by simp), if_neg (by simp), ← HE2.out, ← HML.out, Int.natCast_add, ← HSS.out]
                    rfl
                  · unfold lg.boxed
                    rw [HCC.out, if_neg (by simp), ruY_nts, HZN.out, HML.out]
end Go.Proofs.YtfmdhcjniikfdaaGreatDoor.lg
/- Two mailboxes alike; the notes of bytes. -/
namespace Go.Proofs.YtfmdhcjniikfdaaGreatDoor.lg
open Go.ChangeShapes Go.WideShapes Go.ChangeAt Go.RowKit
open Go.Proofs.YtfmdhcjniikfdaaGreatDoor.codec (Bytes vals)
open Go.Proofs.YtfmdhcjniikfdaaGreatDoor.bod (cell_at Fit)
set_option linter.unusedVariables false
set_option maxRecDepth 100000
set_option linter.unusedSimpArgs false

set_option maxHeartbeats 4000000 in
theorem sameBox_true (W : World) (S : ByteArray) (E X : Nat) (A B : Option Addr) (n c d : Nat) (xs zs : List Y) (hA : Rd cM 4 W A n xs) (hB : Rd cM 4 W B n zs) (he : nts xs = nts zs) (hn : n ≤ 16000000) :
    Calls Tryz.prog 11 #[.agg #[.string S, .int .u32 E, .int .u32 X, .slice A n c], .agg #[.string S, .int .u32 E, .int .u32 X, .slice B n d]] W fun x w' => x = .returned (.bool true) ∧ Below W.heap.size W w' := by
  obtain ⟨W1, hW1⟩ : ∃ W1, W1 = (W.alloc (.cells #[.string S, .int .u32 E, .int .u32 X, .slice A n c] 35)).alloc (.cells #[.string S, .int .u32 E, .int .u32 X, .slice B n d] 35) := ⟨_, rfl⟩
  have HBW := Lib.hid (show Below W.heap.size W W1 by rw [hW1]; exact ((Below.refl _ _).alloc (Nat.le_refl _) _).alloc (by simp) _)
  have HP1 := Lib.hid (fun (w' : World) (h : Below W1.heap.size W1 w') => show w'.heap[W.heap.size]? = some (.cells #[.string S, .int .u32 E, .int .u32 X, .slice A n c] 35 (0, 0)) from (h.block _ (by rw [hW1]; simp; omega)).trans (by rw [hW1, heap_alloc_old _ _ (by simp)]; exact heap_alloc_new _ _))
  have HP2 := Lib.hid (fun (w' : World) (h : Below W1.heap.size W1 w') => show w'.heap[W.heap.size + 1]? = some (.cells #[.string S, .int .u32 E, .int .u32 X, .slice B n d] 35 (0, 0)) from (h.block _ (by rw [hW1]; simp)).trans (by rw [hW1]; have := heap_alloc_new (W.alloc (.cells #[.string S, .int .u32 E, .int .u32 X, .slice A n c] 35)) (.cells #[.string S, .int .u32 E, .int .u32 X, .slice B n d] 35); simpa using this))
  have HRA := Lib.hid (fun (w' : World) (h : Below W1.heap.size W1 w') => hA.below (HBW.out.trans (h.mono HBW.out.size)))
  have HRB := Lib.hid (fun (w' : World) (h : Below W1.heap.size W1 w') => hB.below (HBW.out.trans (h.mono HBW.out.size)))
  have HE := Lib.hid he
  have HW1 := Lib.hid hW1
  clear hW1 hA hB he
  go_enter Tryz.func11, Tryz.ntmps11
  go_wp2_with fail
  rw [← HW1.out]
  go_loopw [37] (fun i wr => ∃ k : Nat, k ≤ n ∧ i = .int .i64 k ∧ Hid (Below W1.heap.size W1 wr)) (fun i _ => n - (intOf i).toNat)
  case atStart => exact ⟨0, Nat.zero_le _, rfl, Lib.hid (Below.refl _ _)⟩
  case round =>
    obtain ⟨k, hk, rfl, HB⟩ := hrel
    by_cases hlt : k < n
    · obtain ⟨b, o, x, rfl, hx, e0, e1, e2, e3, hox⟩ := (HRA.out _ HB.out).at4 k hlt
      obtain ⟨b', o', z, rfl, hz, f0, f1, f2, f3, hoz⟩ := (HRB.out _ HB.out).at4 k hlt
      have hxz : x.n = z.n := by
        have h1 := nts_at hx
        rw [HE.out, nts_at hz] at h1
        exact (Option.some.inj h1).symm
      obtain ⟨⟨tk, te, ts, tu, td, tf, to_⟩, a1, A1, m1, c1⟩ := x
      obtain ⟨zn, a2, A2, m2, c2⟩ := z
      simp only [] at hxz
      subst hxz
      simp only [] at e0 e1 e2 e3 f0 f1 f2 f3
      have lt1 := block_lt_of_cell e0
      have lt2 := block_lt_of_cell f0
      have HCX := Lib.hid (fun (w' : World) (hw : Below wr.heap.size wr w') => And.intro ((hw.cell (p := ⟨b, o + k * 4, none⟩) lt1).trans e0) (And.intro ((hw.cell (p := ⟨b, o + k * 4 + 1, none⟩) lt1).trans e1) (And.intro ((hw.cell (p := ⟨b, o + k * 4 + 2, none⟩) lt1).trans e2) ((hw.cell (p := ⟨b, o + k * 4 + 3, none⟩) lt1).trans e3))))
      have HCZ := Lib.hid (fun (w' : World) (hw : Below wr.heap.size wr w') => And.intro ((hw.cell (p := ⟨b', o' + k * 4, none⟩) lt2).trans f0) (And.intro ((hw.cell (p := ⟨b', o' + k * 4 + 1, none⟩) lt2).trans f1) (And.intro ((hw.cell (p := ⟨b', o' + k * 4 + 2, none⟩) lt2).trans f2) ((hw.cell (p := ⟨b', o' + k * 4 + 3, none⟩) lt2).trans f3))))
      have HBX := Lib.hid (fun (w' : World) (hw : Below wr.heap.size wr w') => hox.1.below hox.1.lt hw)
      have HBZ := Lib.hid (fun (w' : World) (hw : Below wr.heap.size wr w') => hoz.1.below hoz.1.lt hw)
      have HST := Lib.hid (show Below wr.heap.size wr wr.drew from codec.below_draws (Below.refl _ _) 1)
      have hlt' : (k : Int) < (n : Int) := by omega
      clear hx hz e0 e1 e2 e3 f0 f1 f2 f3 hox hoz lt1 lt2
      go_wp2_with fail
      refine wp_region_noPanic ?_
      refine wp_region_held_drew (S := fun w' => Below wr.heap.size wr w') (by kernel_rfl) HST.out (fun hHeld => ?_)
      refine wpAnyH_take (i := 0) (v := ?_) rfl (by kernel_rfl) (by kernel_rfl) (by kernel_rfl) (fun _ _ _ h => h) (Or.inl ⟨by kernel_rfl, ?_⟩) hHeld ?_
      rotate_left
      · (intro w' hw'; go_simp; first | done | with_reducible rfl)
      refine wpAnyH_take (i := 1) (v := ?_) rfl (by kernel_rfl) (by kernel_rfl) (by kernel_rfl) (fun _ _ _ h => h) (Or.inl ⟨by kernel_rfl, ?_⟩) hHeld ?_
      rotate_left
      · (intro w' hw'; have c3 := cell_at (HP1.out _ (HB.out.trans (hw'.mono HB.out.size))) 3 _ rfl; go_simp; first | done | with_reducible rfl)
      refine wpAnyH_take (i := 2) (v := ?_) rfl (by kernel_rfl) (by kernel_rfl) (by kernel_rfl) (fun _ _ _ h => h) (Or.inl ⟨by kernel_rfl, ?_⟩) hHeld ?_
      rotate_left
      · (intro w' hw'; go_simp; first | done | with_reducible rfl)
      refine wpAnyH_take (i := 3) (v := ?_) rfl (by kernel_rfl) (by kernel_rfl) (by kernel_rfl) (fun _ _ _ h => h) (Or.inl ⟨by kernel_rfl, ?_⟩) hHeld ?_
      rotate_left
      · (intro w' hw'; go_simp; first | done | with_reducible rfl)
      refine wpAnyH_take (i := 4) (v := ?_) rfl (by kernel_rfl) (by kernel_rfl) (by kernel_rfl) (fun _ _ _ h => h) (Or.inl ⟨by kernel_rfl, ?_⟩) hHeld ?_
      rotate_left
      · (intro w' hw'; obtain ⟨x0, x1, x2, x3⟩ := HCX.out _ hw'; go_simp; first | done | with_reducible rfl)
      refine wpAnyH_take (i := 5) (v := ?_) rfl (by kernel_rfl) (by kernel_rfl) (by kernel_rfl) (fun _ _ _ h => h) (Or.inl ⟨by kernel_rfl, ?_⟩) hHeld ?_
      rotate_left
      · (intro w' hw'; go_simp; first | done | with_reducible rfl)
      refine wpAnyH_take (i := 6) (v := ?_) rfl (by kernel_rfl) (by kernel_rfl) (by kernel_rfl) (fun _ _ _ h => h) (Or.inl ⟨by kernel_rfl, ?_⟩) hHeld ?_
      rotate_left
      · (intro w' hw'; have c3 := cell_at (HP2.out _ (HB.out.trans (hw'.mono HB.out.size))) 3 _ rfl; go_simp; first | done | with_reducible rfl)
      refine wpAnyH_take (i := 7) (v := ?_) rfl (by kernel_rfl) (by kernel_rfl) (by kernel_rfl) (fun _ _ _ h => h) (Or.inl ⟨by kernel_rfl, ?_⟩) hHeld ?_
      rotate_left
      · (intro w' hw'; go_simp; first | done | with_reducible rfl)
      refine wpAnyH_take (i := 8) (v := ?_) rfl (by kernel_rfl) (by kernel_rfl) (by kernel_rfl) (fun _ _ _ h => h) (Or.inl ⟨by kernel_rfl, ?_⟩) hHeld ?_
      rotate_left
      · (intro w' hw'; go_simp; first | done | with_reducible rfl)
      refine wpAnyH_take (i := 9) (v := ?_) rfl (by kernel_rfl) (by kernel_rfl) (by kernel_rfl) (fun _ _ _ h => h) (Or.inl ⟨by kernel_rfl, ?_⟩) hHeld ?_
      rotate_left
      · (intro w' hw'; obtain ⟨x0, x1, x2, x3⟩ := HCZ.out _ hw'; go_simp; first | done | with_reducible rfl)
      refine wpAnyH_ready (rs := [10]) (by kernel_rfl) (by simp) ?_
      refine AllReadyH.cons rfl (fun K hK => ?_) AllReadyH.nil
      go_simp
      refine (bod.same_true _ tu td tf A1 A2 m1 c1 m2 c2 to_ (HBX.out _ hHeld) (HBZ.out _ hHeld)).mono ?_
      rintro x w5 ⟨rfl, hb5⟩
      have hS5 := hHeld.trans (hb5.mono hHeld.size)
      clear hb5
      go_wp2_with fail
      refine hK.out _ _ hS5 (fun hH1 => ?_)
      clear hK K hHeld
      refine wpAnyH_take (i := 11) (v := ?_) rfl (by kernel_rfl) (by kernel_rfl) (by kernel_rfl) (fun _ _ _ h => h) (Or.inl ⟨by kernel_rfl, ?_⟩) hH1 ?_
      rotate_left
      · (intro w' hw'; go_simp; first | done | with_reducible rfl)
      refine wpAnyH_done (by kernel_rfl) ?_ _
      refine NoPanic.normal ?_
      go_simp
      go_wp2_with fail
      go_roundw
      case rel => first | exact ⟨k + 1, by omega, by go_num, Lib.hid (HB.out.trans (hS5.mono HB.out.size))⟩ | ((repeat apply Exists.intro); exact ⟨⟨k + 1, by omega, by go_num, Lib.hid (HB.out.trans (hS5.mono HB.out.size))⟩, rfl⟩)
      case measure => (show n - ((k : Int) + 1).toNat < n - k; omega)
    · obtain rfl : k = n := by omega
      go_wp2_with fail
      go_ret
      exact ⟨rfl, HBW.out.trans (HB.out.mono HBW.out.size)⟩
end Go.Proofs.YtfmdhcjniikfdaaGreatDoor.lg
/- The notes of bytes, as the law reads them. -/
namespace Go.Proofs.YtfmdhcjniikfdaaGreatDoor.lg
open Go.ChangeShapes Go.WideShapes Go.ChangeAt Go.RowKit
open Go.Proofs.YtfmdhcjniikfdaaGreatDoor.codec (Bytes vals)
open Go.Proofs.YtfmdhcjniikfdaaGreatDoor.bod (cell_at Fit)
open Go.Proofs.YtfmdhcjniikfdaaGreatDoor.frm (R X Reads Recs scan)
set_option linter.unusedVariables false
set_option maxRecDepth 100000
set_option linter.unusedSimpArgs false

def cP (y : Y) : List Value := [.int .i64 (y.p : Nat)]
theorem fP : Fm cP 1 := ⟨fun _ => rfl, fun y u hu => by simp [cP] at hu; subst hu; rfl⟩
theorem infoI : (Tryz.prog.info? 3).map (fun i => (i.zero, i.size, i.bytes)) = some (some (.int .i64 0), 1, 8) := by kernel_rfl
/-- The notes, and where they begin, of the first records. -/
def NS2 (W1 : World) (rs : List R) (k : Nat) (v va : Value) (w : World) : Prop := ∃ ys, Own cN 7 W1.heap.size 51 w v ys ∧ Own cP 1 W1.heap.size 3 w va ys ∧ (∀ g, v.ownBlock = some g → va.ownBlock ≠ some g) ∧ Below W1.heap.size W1 w ∧ ys.map Y.np = notesR (rs.take k) ∧ ys.length ≤ k
theorem NS2.start (W1 : World) (rs : List R) : NS2 W1 rs 0 (.slice none 0 0) (.slice none 0 0) W1 := ⟨[], Own.nil _ _ _ _ _, Own.nil _ _ _ _ _, (fun g e => by cases e), Below.refl _ _, rfl, Nat.le_refl _⟩
theorem NS2.below {W1 : World} {rs : List R} {k : Nat} {v va : Value} {w w' : World} (h : NS2 W1 rs k v va w) (hb : Below w.heap.size w w') : NS2 W1 rs k v va w' := by
  obtain ⟨ys, h1, h2, h3, h4, h5⟩ := h
  exact ⟨ys, h1.below hb, h2.below hb, h3, h4.trans (hb.mono h4.size), h5⟩
theorem NS2.skip {W1 : World} {rs : List R} {k : Nat} {v va : Value} {w : World} {r : R} (h : NS2 W1 rs k v va w) (hr : rs[k]? = some r) (hd : dec r.kind r.pay = none) : NS2 W1 rs (k + 1) v va w := by
  obtain ⟨ys, h1, h2, h3, h4, h5, h6⟩ := h
  exact ⟨ys, h1, h2, h3, h4, by rw [take_next hr, notesR_snoc, h5]; simp [noteOf, hd], by omega⟩
theorem grownOf {w w' : World} (hb : Below w.heap.size w w') (row : Option Nat) : w.grownBy w' row := ⟨hb.os, hb.tape, hb.output, hb.size, fun i hi _ => hb.block i hi⟩
/-- What the first of two appends leaves of the other row. -/
theorem two_first {B : Nat} {T T' : TypeId} {w w2 : World} {v v' va : Value} {ys : List Y} {y : Y} (h1 : Own cN 7 B T w v ys) (h2 : Own cP 1 B T' w va ys) (h3 : ∀ g, v.ownBlock = some g → va.ownBlock ≠ some g) (hg : w.grownBy w2 v.ownBlock) : Own cP 1 B T' w2 va ys :=
  h2.grown hg (fun b e => h3 b e) (fun z hz ad e h0 e' => (h1.2 z hz).2 ad e h0 e'.symm)
theorem NS2.more {W1 : World} {rs : List R} {k : Nat} {v va v' va' : Value} {w w2 w3 : World} {r : R} {t : Nt} {ys : List Y} {A : Option Addr} {m c : Nat} (hr : rs[k]? = some r) (hd : dec r.kind r.pay = some t)
    (h1 : Own cN 7 W1.heap.size 51 w v ys) (h2 : Own cP 1 W1.heap.size 3 w va ys) (h3 : ∀ g, v.ownBlock = some g → va.ownBlock ≠ some g) (h4 : Below W1.heap.size W1 w) (h5 : ys.map Y.np = notesR (rs.take k)) (h6 : ys.length ≤ k)
    (hA : ∀ ad, A = some ad → 0 < m → va.ownBlock ≠ some ad.block)
    (ho : Own cN 7 W1.heap.size 51 w2 v' (ys ++ [⟨t, r.at_, A, m, c⟩])) (hg : w.grownBy w2 v.ownBlock) (hat : v'.ownBlock = v.ownBlock ∨ ∃ g, v'.ownBlock = some g ∧ w.heap.size ≤ g)
    (ho2 : Own cP 1 W1.heap.size 3 w3 va' (ys ++ [⟨t, r.at_, A, m, c⟩])) (hg2 : w2.grownBy w3 va.ownBlock) (hat2 : va'.ownBlock = va.ownBlock ∨ ∃ g, va'.ownBlock = some g ∧ w2.heap.size ≤ g) : NS2 W1 rs (k + 1) v' va' w3 := by
  have hva : ∀ g, va.ownBlock = some g → g < w.heap.size := fun g e => (h2.lt e).2
  have hv2 : ∀ g, v'.ownBlock = some g → g < w2.heap.size := fun g e => (ho.lt e).2
  have hne : ∀ g, v'.ownBlock = some g → va.ownBlock ≠ some g := fun g e e' => by
    rcases hat with hat | ⟨q, hat, hq⟩
    · exact h3 g (hat ▸ e) e'
    · rw [hat] at e
      have := hva g e'
      have := Option.some.inj e
      omega
  refine ⟨_, ho.grown hg2 (fun b e e' => hne b e' e) (fun z hz ad e h0 e' => ?_), ho2, fun g e e' => ?_, grown_below (grown_below h4 h1 hg) (two_first (y := ⟨t, r.at_, A, m, c⟩) (v' := v') h1 h2 h3 hg) hg2, ?_, by simp; omega⟩
  · rcases List.mem_append.1 hz with hz | hz
    · exact (h2.2 z hz).2 ad e h0 e'.symm
    · simp at hz
      subst hz
      exact hA ad e h0 e'.symm
  · rcases hat2 with hat2 | ⟨q, hat2, hq⟩
    · exact hne g e (hat2 ▸ e')
    · rw [hat2] at e'
      have := hv2 g e
      have := Option.some.inj e'
      omega
  · rw [List.map_append, h5, take_next hr, notesR_snoc]
    simp [noteOf, hd, Y.np]
set_option maxHeartbeats 8000000 in
theorem notes_any (W : World) (A : Option Addr) (n c : Nat) (l : List Nat) (hB : Bytes W A n l) (hc : n ≤ c) (hn : n ≤ 40000) (hr : Fit W) :
    Calls Tryz.prog 8 #[.slice A n c] W fun x w' => ∃ A' m' c' va ys, x = .returned (.tuple #[.slice A' m' c', va, .int .i64 ((scan l 0 0).2 : Nat)]) ∧ Rd cN 7 w' A' m' ys ∧ m' ≤ 40000 ∧ ys.map Y.np = notesL l ∧ Below W.heap.size W w' := by
  have HSC := Lib.hid (frm.refScan_any W A n c l hB hc hn)
  have HB := Lib.hid hB
  have HF := Lib.hid hr
  have HN := Lib.hid hn
  have HSG := Lib.hid (scan_good l)
  have HSL := Lib.hid (frm.scan_length l)
  clear hB hc hn hr
  go_enter Tryz.func8, Tryz.ntmps8
  go_wp2_with fail
  refine HSC.out.mono ?_
  rintro e W1 ⟨v, torn, rfl, xs, hrr, hb1, hs⟩
  obtain ⟨A1, c1, rfl, hc1, hR1⟩ := hrr.reads
  have hxl : xs.length ≤ 40000 := by
    have h1 := HSL.out
    rw [hs] at h1
    have h2 := HB.out.1
    have h3 := HN.out
    simp at h1
    omega
  have HXS := Lib.hid hs
  have HB1 := Lib.hid hb1
  have HR1 := Lib.hid hR1
  have HFit := Lib.hid (fun (w' : World) (h : Below W1.heap.size W1 w') => HF.out.below (hb1.trans (h.mono hb1.size)))
  have HP := Lib.hid (show ∀ x ∈ xs, x.r.pay.length ≤ 30000 from fun x hx => (HSG.out.1 x.r (by rw [hs]; exact List.mem_map.2 ⟨x, hx, rfl⟩)).short)
  have HXL : Hid ((xs.map X.r).length = xs.length) := Lib.hid (List.length_map _)
  have HS0 := Lib.hid (NS2.start W1 (xs.map X.r))
  clear hrr hb1 hs hR1 hc1 HSC
  generalize hN : xs.length = N at *
  clear hN
  go_wp2_with fail
  go_loopw [7, 8, 19] (fun v va i wr => ∃ k : Nat, k ≤ N ∧ i = .int .i64 k ∧ Hid (NS2 W1 (xs.map X.r) k v va wr)) (fun _ _ i _ => N - (intOf i).toNat)
  case atStart => exact ⟨0, Nat.zero_le _, rfl, HS0⟩
  case round =>
    obtain ⟨k, hk, rfl, HS⟩ := hrel
    by_cases hlt : k < N
    · obtain ⟨ys, s1, s2, s3, s4, s5, s6⟩ := HS.out
      obtain ⟨b, o, x, rfl, hx, c0, c1', c2, cB⟩ := (readsBelow HR1.out s4).2 k hlt
      have hpl := HP.out x (List.mem_of_getElem? hx)
      have hxr : (xs.map X.r)[k]? = some x.r := by rw [List.getElem?_map, hx]; rfl
      obtain ⟨⟨a, kd, pay⟩, Ax, nx, cx⟩ := x
      simp only [] at c0 c1' c2 cB hpl hxr
      have hnx : nx ≤ 100000 := by have := cB.1; omega
      have HXR := Lib.hid hxr
      have hblt := block_lt_of_cell c0
      have HCX := Lib.hid (fun (w' : World) (hw : Below wr.heap.size wr w') => And.intro ((hw.cell (p := ⟨b, o + k * 3, none⟩) hblt).trans c0) (And.intro ((hw.cell (p := ⟨b, o + k * 3 + 1, none⟩) hblt).trans c1') ((hw.cell (p := ⟨b, o + k * 3 + 2, none⟩) hblt).trans c2)))
      have HBX := Lib.hid (fun (w' : World) (hw : Below wr.heap.size wr w') => cB.below cB.lt hw)
      have HFit := Lib.hid (fun (w' : World) (hw : Below wr.heap.size wr w') => HFit.out w' (s4.trans (hw.mono s4.size)))
      have HST := Lib.hid (show Below wr.heap.size wr wr.drew from codec.below_draws (Below.refl _ _) 1)
      have HW14 := Lib.hid s4
      have hlt' : (k : Int) < (N : Int) := by omega
      cases hd : dec kd pay with
      | none =>
        have HD := Lib.hid hd
        have HSk := Lib.hid (HS.out.skip hxr hd)
        clear hx hxr hd s1 s2 s3 s4 s5 s6 cB hpl c0 c1' c2 hblt HXR
        go_upto_region 7 with (fail)
        go_cut [10, 11] from 20 to 50 (fun s10 s11 wx => ∃ p : Nat, s10 = .pointer (some ⟨p, 0, none⟩) ∧ s11 = .int .i64 2 ∧ Hid (Below wr.heap.size wr wx))
        case first =>
            refine wp_region_noPanic ?_
            refine wp_region_held_drew (S := fun w' => Below wr.heap.size wr w') (by kernel_rfl) HST.out (fun hHeld => ?_)
            refine wpAnyH_take (i := 0) (v := ?_) rfl (by kernel_rfl) (by kernel_rfl) (by kernel_rfl) (fun _ _ _ h => h) (Or.inl ⟨by kernel_rfl, ?_⟩) hHeld ?_
            rotate_left
            · (intro w' hw'; go_simp; first | done | with_reducible rfl)
            refine wpAnyH_take (i := 1) (v := ?_) rfl (by kernel_rfl) (by kernel_rfl) (by kernel_rfl) (fun _ _ _ h => h) (Or.inl ⟨by kernel_rfl, ?_⟩) hHeld ?_
            rotate_left
            · (intro w' hw'; go_simp; first | done | with_reducible rfl)
            refine wpAnyH_take (i := 2) (v := ?_) rfl (by kernel_rfl) (by kernel_rfl) (by kernel_rfl) (fun _ _ _ h => h) (Or.inl ⟨by kernel_rfl, ?_⟩) hHeld ?_
            rotate_left
            · (intro w' hw'; go_simp; first | done | with_reducible rfl)
            refine wpAnyH_take (i := 3) (v := ?_) rfl (by kernel_rfl) (by kernel_rfl) (by kernel_rfl) (fun _ _ _ h => h) (Or.inl ⟨by kernel_rfl, ?_⟩) hHeld ?_
            rotate_left
            · (intro w' hw'; go_simp; first | done | with_reducible rfl)
            refine wpAnyH_take (i := 4) (v := ?_) rfl (by kernel_rfl) (by kernel_rfl) (by kernel_rfl) (fun _ _ _ h => h) (Or.inl ⟨by kernel_rfl, ?_⟩) hHeld ?_
            rotate_left
            · (intro w' hw'; obtain ⟨x0, x1, x2⟩ := HCX.out _ hw'; go_simp; first | done | with_reducible rfl)
            refine wpAnyH_take (i := 5) (v := ?_) rfl (by kernel_rfl) (by kernel_rfl) (by kernel_rfl) (fun _ _ _ h => h) (Or.inl ⟨by kernel_rfl, ?_⟩) hHeld ?_
            rotate_left
            · (intro w' hw'; go_simp; first | done | with_reducible rfl)
            refine wpAnyH_take (i := 6) (v := ?_) rfl (by kernel_rfl) (by kernel_rfl) (by kernel_rfl) (fun _ _ _ h => h) (Or.inl ⟨by kernel_rfl, ?_⟩) hHeld ?_
            rotate_left
            · (intro w' hw'; go_simp; first | done | with_reducible rfl)
            refine wpAnyH_take (i := 7) (v := ?_) rfl (by kernel_rfl) (by kernel_rfl) (by kernel_rfl) (fun _ _ _ h => h) (Or.inl ⟨by kernel_rfl, ?_⟩) hHeld ?_
            rotate_left
            · (intro w' hw'; go_simp; first | done | with_reducible rfl)
            refine wpAnyH_take (i := 8) (v := ?_) rfl (by kernel_rfl) (by kernel_rfl) (by kernel_rfl) (fun _ _ _ h => h) (Or.inl ⟨by kernel_rfl, ?_⟩) hHeld ?_
            rotate_left
            · (intro w' hw'; go_simp; first | done | with_reducible rfl)
            refine wpAnyH_take (i := 9) (v := ?_) rfl (by kernel_rfl) (by kernel_rfl) (by kernel_rfl) (fun _ _ _ h => h) (Or.inl ⟨by kernel_rfl, ?_⟩) hHeld ?_
            rotate_left
            · (intro w' hw'; obtain ⟨x0, x1, x2⟩ := HCX.out _ hw'; go_simp; first | done | with_reducible rfl)
            refine wpAnyH_ready (rs := [10, 14]) (by kernel_rfl) (by simp) ?_
            refine AllReadyH.cons rfl (fun K hK => ?_) (AllReadyH.cons rfl (fun K hK => ?_) AllReadyH.nil)
            · go_simp
              refine (dec_none _ kd Ax nx cx pay (HBX.out _ hHeld) hnx (HFit.out _ hHeld) HD.out).mono ?_
              rintro x w5 ⟨rfl, hb5⟩
              have hS5 := hHeld.trans (hb5.mono hHeld.size)
              go_wp2_with fail
              refine hK.out _ _ hS5 (fun hH1 => ?_)
              clear hK K
              refine wpAnyH_take (i := 11) (v := ?_) rfl (by kernel_rfl) (by kernel_rfl) (by kernel_rfl) (fun _ _ _ h => h) (Or.inl ⟨by kernel_rfl, ?_⟩) hH1 ?_
              rotate_left
              · (intro w' hw'; go_simp; first | done | with_reducible rfl)
              refine wpAnyH_take (i := 12) (v := ?_) rfl (by kernel_rfl) (by kernel_rfl) (by kernel_rfl) (fun _ _ _ h => h) (Or.inl ⟨by kernel_rfl, ?_⟩) hH1 ?_
              rotate_left
              · (intro w' hw'; go_simp; first | done | with_reducible rfl)
              refine wpAnyH_take (i := 13) (v := ?_) rfl (by kernel_rfl) (by kernel_rfl) (by kernel_rfl) (fun _ _ _ h => h) (Or.inl ⟨by kernel_rfl, ?_⟩) hH1 ?_
              rotate_left
              · (intro w' hw'; go_simp; first | done | with_reducible rfl)
              have hS2 := hS5.alloc hS5.size (.cells #[.int .i64 0, .int .u32 0, .string ⟨#[]⟩, .int .u32 0, .int .i64 0, .int .i64 0, .slice none 0 0] 67)
              refine wpAnyH_ready (rs := [14]) (by kernel_rfl) (by simp) ?_
              refine AllReadyH.cons rfl (fun K hK => ?_) AllReadyH.nil
              go_simp
              refine hK _ _ hS2 (fun hH2 => ?_)
              clear hK K hH1
              have hS3 := hS5.alloc hS5.size (.cells #[.int .i64 0, .int .u32 0, .string ⟨#[]⟩, .int .u32 0, .int .i64 0, .int .i64 0, .slice none 0 0] 67)
              refine wpAnyH_ready (rs := [15]) (by kernel_rfl) (by simp) ?_
              refine AllReadyH.cons rfl (fun K hK => ?_) AllReadyH.nil
              go_simp
              refine hK _ _ hS3 (fun hH3 => ?_)
              clear hK K hH2
              refine wpAnyH_take (i := 16) (v := ?_) rfl (by kernel_rfl) (by kernel_rfl) (by kernel_rfl) (fun _ _ _ h => h) (Or.inl ⟨by kernel_rfl, ?_⟩) hH3 ?_
              rotate_left
              · (intro w' hw'; go_simp; first | done | with_reducible rfl)
              have HHP := Lib.hid (heap_alloc_new w5 (.cells #[.int .i64 0, .int .u32 0, .string ⟨#[]⟩, .int .u32 0, .int .i64 0, .int .i64 0, .slice none 0 0] 67))
              have HLP := Lib.hid (show wr.heap.size ≤ w5.heap.size from hS5.size)
              clear hb5 hHeld hS2
              generalize w5.alloc (.cells #[.int .i64 0, .int .u32 0, .string ⟨#[]⟩, .int .u32 0, .int .i64 0, .int .i64 0, .slice none 0 0] 67) = w6 at *
              generalize w5.heap.size = p at *
              refine wpAnyH_done (by kernel_rfl) ?_ _
              refine NoPanic.normal ?_
              go_simp
              clear hH3 hS5
              go_wp2_with fail
              go_meet
              exact ⟨p, rfl, rfl, Lib.hid hS3⟩
            · have hS0 : Below wr.heap.size wr (wr.alloc (.cells #[.int .i64 0, .int .u32 0, .string ⟨#[]⟩, .int .u32 0, .int .i64 0, .int .i64 0, .slice none 0 0] 67)).drew := ((Below.refl _ _).alloc (Nat.le_refl _) _).drew
              go_simp
              refine hK _ _ hS0 (fun hH0 => ?_)
              clear hK K hHeld
              have hz0 : (wr.alloc (.cells #[.int .i64 0, .int .u32 0, .string ⟨#[]⟩, .int .u32 0, .int .i64 0, .int .i64 0, .slice none 0 0] 67)).drew.heap[wr.heap.size]? = some (.cells #[.int .i64 0, .int .u32 0, .string ⟨#[]⟩, .int .u32 0, .int .i64 0, .int .i64 0, .slice none 0 0] 67 (0, 0)) := heap_alloc_new wr _
              have hz1 : wr.heap.size < (wr.alloc (.cells #[.int .i64 0, .int .u32 0, .string ⟨#[]⟩, .int .u32 0, .int .i64 0, .int .i64 0, .slice none 0 0] 67)).drew.heap.size := by simp
              generalize (wr.alloc (.cells #[.int .i64 0, .int .u32 0, .string ⟨#[]⟩, .int .u32 0, .int .i64 0, .int .i64 0, .slice none 0 0] 67)).drew = w4 at *
              refine wpAnyH_ready (rs := [10]) (by kernel_rfl) (by simp) ?_
              refine AllReadyH.cons rfl (fun K hK => ?_) AllReadyH.nil
              go_simp
              refine (dec_none _ kd Ax nx cx pay (HBX.out _ hH0) hnx (HFit.out _ hH0) HD.out).mono ?_
              rintro x w5 ⟨rfl, hb5⟩
              have hS5 := hS0.trans (hb5.mono hS0.size)
              have hz5 := (hb5.block _ hz1).trans hz0
              go_wp2_with fail
              refine hK.out _ _ hS5 (fun hH1 => ?_)
              clear hK K
              refine wpAnyH_take (i := 11) (v := ?_) rfl (by kernel_rfl) (by kernel_rfl) (by kernel_rfl) (fun _ _ _ h => h) (Or.inl ⟨by kernel_rfl, ?_⟩) hH1 ?_
              rotate_left
              · (intro w' hw'; go_simp; first | done | with_reducible rfl)
              refine wpAnyH_take (i := 12) (v := ?_) rfl (by kernel_rfl) (by kernel_rfl) (by kernel_rfl) (fun _ _ _ h => h) (Or.inl ⟨by kernel_rfl, ?_⟩) hH1 ?_
              rotate_left
              · (intro w' hw'; go_simp; first | done | with_reducible rfl)
              refine wpAnyH_take (i := 13) (v := ?_) rfl (by kernel_rfl) (by kernel_rfl) (by kernel_rfl) (fun _ _ _ h => h) (Or.inl ⟨by kernel_rfl, ?_⟩) hH1 ?_
              rotate_left
              · (intro w' hw'; go_simp; first | done | with_reducible rfl)
              have h7 := bod.seven hz5 rfl (.int .i64 0) (.int .u32 0) (.string ⟨#[]⟩) (.int .u32 0) (.int .i64 0) (.int .i64 0) (.slice none 0 0)
              have hS3 := h7.2.2 _ _ hS5 (Nat.le_refl _)
              have e0 := cell_at hz5 0 _ rfl
              have f0 := frozen_of_row _ _ 0 _ _ hz5
              have e1 := cell_at hz5 1 _ rfl
              have f1 := frozen_of_row _ _ 1 _ _ hz5
              have e2 := cell_at hz5 2 _ rfl
              have f2 := frozen_of_row _ _ 2 _ _ hz5
              have e3 := cell_at hz5 3 _ rfl
              have f3 := frozen_of_row _ _ 3 _ _ hz5
              have e4 := cell_at hz5 4 _ rfl
              have f4 := frozen_of_row _ _ 4 _ _ hz5
              have e5 := cell_at hz5 5 _ rfl
              have f5 := frozen_of_row _ _ 5 _ _ hz5
              have e6 := cell_at hz5 6 _ rfl
              have f6 := frozen_of_row _ _ 6 _ _ hz5
              refine wpAnyH_ready (rs := [15]) (by kernel_rfl) (by simp) ?_
              refine AllReadyH.cons rfl (fun K hK => ?_) AllReadyH.nil
              go_simp
              refine hK _ _ hS3 (fun hH3 => ?_)
              clear hK K hH1 hH0
              refine wpAnyH_take (i := 16) (v := ?_) rfl (by kernel_rfl) (by kernel_rfl) (by kernel_rfl) (fun _ _ _ h => h) (Or.inl ⟨by kernel_rfl, ?_⟩) hH3 ?_
              rotate_left
              · (intro w' hw'; go_simp; first | done | with_reducible rfl)
              have HHP := Lib.hid h7.1
              have HLP := Lib.hid (Nat.le_refl wr.heap.size)
              clear h7 hb5 hS0 hz0 hz1 hz5 e0 e1 e2 e3 e4 e5 e6 f0 f1 f2 f3 f4 f5 f6 hS5
              generalize ((((((((((((((w5).setCell ⟨wr.heap.size, 0, none⟩ (.int .i64 0))).setCell ⟨wr.heap.size, 1, none⟩ (.int .u32 0))).setCell ⟨wr.heap.size, 2, none⟩ (.string ⟨#[]⟩))).setCell ⟨wr.heap.size, 3, none⟩ (.int .u32 0))).setCell ⟨wr.heap.size, 4, none⟩ (.int .i64 0))).setCell ⟨wr.heap.size, 5, none⟩ (.int .i64 0))).setCell ⟨wr.heap.size, 6, none⟩ (.slice none 0 0)) = w6 at *
              obtain ⟨p, hp⟩ : ∃ p, p = wr.heap.size := ⟨_, rfl⟩
              rw [← hp] at HHP ⊢
              have HLP : Hid (wr.heap.size ≤ p) := Lib.hid (by omega)
              clear hp
              refine wpAnyH_done (by kernel_rfl) ?_ _
              refine NoPanic.normal ?_
              go_simp
              clear hH3
              go_wp2_with fail
              go_meet
              exact ⟨p, rfl, rfl, Lib.hid hS3⟩
        case rest =>
          obtain ⟨p, rfl, rfl, HBc⟩ := hcut
          have HS2 := Lib.hid (HSk.out.below HBc.out)
          clear hnx
          go_wp2_with fail
          go_roundw
          case rel => first | exact ⟨k + 1, by omega, by go_num, HS2⟩ | ((repeat apply Exists.intro); exact ⟨⟨k + 1, by omega, by go_num, HS2⟩, rfl⟩)
          case measure => (show N - ((k : Int) + 1).toNat < N - k; omega)
      | some t =>
        obtain ⟨tk, te, ts, tu, td, tf, to_⟩ := t
        have HD := Lib.hid hd
        clear hx hxr hd s1 s2 s3 s4 s5 s6 cB hpl c0 c1' c2 hblt
        go_upto_region 7 with (fail)
        go_cut [10, 11] from 20 to 50 (fun s10 s11 wx => ∃ (p : Nat) (A' : Option Addr) (m' c' : Nat), s10 = .pointer (some ⟨p, 0, none⟩) ∧ s11 = .int .i64 0 ∧ Hid (Below wr.heap.size wr wx) ∧ Hid (wx.heap[p]? = some (.cells #[.int .i64 (tk : Nat), .int .u32 (te : Nat), .string ts, .int .u32 (tu : Nat), .int .i64 td, .int .i64 tf, .slice A' m' c'] 67 (0, 0))) ∧ Hid (Bytes wx A' m' to_ ∧ (A' = none → c' = 0) ∧ ∀ ad, A' = some ad → wr.heap.size ≤ ad.block) ∧ Hid (wr.heap.size ≤ p))
        case first =>
            refine wp_region_noPanic ?_
            refine wp_region_held_drew (S := fun w' => Below wr.heap.size wr w') (by kernel_rfl) HST.out (fun hHeld => ?_)
            refine wpAnyH_take (i := 0) (v := ?_) rfl (by kernel_rfl) (by kernel_rfl) (by kernel_rfl) (fun _ _ _ h => h) (Or.inl ⟨by kernel_rfl, ?_⟩) hHeld ?_
            rotate_left
            · (intro w' hw'; go_simp; first | done | with_reducible rfl)
            refine wpAnyH_take (i := 1) (v := ?_) rfl (by kernel_rfl) (by kernel_rfl) (by kernel_rfl) (fun _ _ _ h => h) (Or.inl ⟨by kernel_rfl, ?_⟩) hHeld ?_
            rotate_left
            · (intro w' hw'; go_simp; first | done | with_reducible rfl)
            refine wpAnyH_take (i := 2) (v := ?_) rfl (by kernel_rfl) (by kernel_rfl) (by kernel_rfl) (fun _ _ _ h => h) (Or.inl ⟨by kernel_rfl, ?_⟩) hHeld ?_
            rotate_left
            · (intro w' hw'; go_simp; first | done | with_reducible rfl)
            refine wpAnyH_take (i := 3) (v := ?_) rfl (by kernel_rfl) (by kernel_rfl) (by kernel_rfl) (fun _ _ _ h => h) (Or.inl ⟨by kernel_rfl, ?_⟩) hHeld ?_
            rotate_left
            · (intro w' hw'; go_simp; first | done | with_reducible rfl)
            refine wpAnyH_take (i := 4) (v := ?_) rfl (by kernel_rfl) (by kernel_rfl) (by kernel_rfl) (fun _ _ _ h => h) (Or.inl ⟨by kernel_rfl, ?_⟩) hHeld ?_
            rotate_left
            · (intro w' hw'; obtain ⟨x0, x1, x2⟩ := HCX.out _ hw'; go_simp; first | done | with_reducible rfl)
            refine wpAnyH_take (i := 5) (v := ?_) rfl (by kernel_rfl) (by kernel_rfl) (by kernel_rfl) (fun _ _ _ h => h) (Or.inl ⟨by kernel_rfl, ?_⟩) hHeld ?_
            rotate_left
            · (intro w' hw'; go_simp; first | done | with_reducible rfl)
            refine wpAnyH_take (i := 6) (v := ?_) rfl (by kernel_rfl) (by kernel_rfl) (by kernel_rfl) (fun _ _ _ h => h) (Or.inl ⟨by kernel_rfl, ?_⟩) hHeld ?_
            rotate_left
            · (intro w' hw'; go_simp; first | done | with_reducible rfl)
            refine wpAnyH_take (i := 7) (v := ?_) rfl (by kernel_rfl) (by kernel_rfl) (by kernel_rfl) (fun _ _ _ h => h) (Or.inl ⟨by kernel_rfl, ?_⟩) hHeld ?_
            rotate_left
            · (intro w' hw'; go_simp; first | done | with_reducible rfl)
            refine wpAnyH_take (i := 8) (v := ?_) rfl (by kernel_rfl) (by kernel_rfl) (by kernel_rfl) (fun _ _ _ h => h) (Or.inl ⟨by kernel_rfl, ?_⟩) hHeld ?_
            rotate_left
            · (intro w' hw'; go_simp; first | done | with_reducible rfl)
            refine wpAnyH_take (i := 9) (v := ?_) rfl (by kernel_rfl) (by kernel_rfl) (by kernel_rfl) (fun _ _ _ h => h) (Or.inl ⟨by kernel_rfl, ?_⟩) hHeld ?_
            rotate_left
            · (intro w' hw'; obtain ⟨x0, x1, x2⟩ := HCX.out _ hw'; go_simp; first | done | with_reducible rfl)
            refine wpAnyH_ready (rs := [10, 14]) (by kernel_rfl) (by simp) ?_
            refine AllReadyH.cons rfl (fun K hK => ?_) (AllReadyH.cons rfl (fun K hK => ?_) AllReadyH.nil)
            · go_simp
              refine (dec_some _ kd Ax nx cx pay (HBX.out _ hHeld) hnx (HFit.out _ hHeld) _ HD.out).mono ?_
              rintro x w5 ⟨A', m', c', rfl, hnew⟩
              have hb5 := hnew.2.2.2
              have hS5 := hHeld.trans (hb5.mono hHeld.size)
              go_wp2_with fail
              refine hK.out _ _ hS5 (fun hH1 => ?_)
              clear hK K
              refine wpAnyH_take (i := 11) (v := ?_) rfl (by kernel_rfl) (by kernel_rfl) (by kernel_rfl) (fun _ _ _ h => h) (Or.inl ⟨by kernel_rfl, ?_⟩) hH1 ?_
              rotate_left
              · (intro w' hw'; go_simp; first | done | with_reducible rfl)
              refine wpAnyH_take (i := 12) (v := ?_) rfl (by kernel_rfl) (by kernel_rfl) (by kernel_rfl) (fun _ _ _ h => h) (Or.inl ⟨by kernel_rfl, ?_⟩) hH1 ?_
              rotate_left
              · (intro w' hw'; go_simp; first | done | with_reducible rfl)
              refine wpAnyH_take (i := 13) (v := ?_) rfl (by kernel_rfl) (by kernel_rfl) (by kernel_rfl) (fun _ _ _ h => h) (Or.inl ⟨by kernel_rfl, ?_⟩) hH1 ?_
              rotate_left
              · (intro w' hw'; go_simp; first | done | with_reducible rfl)
              have hS2 := hS5.alloc hS5.size (.cells #[.int .i64 0, .int .u32 0, .string ⟨#[]⟩, .int .u32 0, .int .i64 0, .int .i64 0, .slice none 0 0] 67)
              refine wpAnyH_ready (rs := [14]) (by kernel_rfl) (by simp) ?_
              refine AllReadyH.cons rfl (fun K hK => ?_) AllReadyH.nil
              go_simp
              refine hK _ _ hS2 (fun hH2 => ?_)
              clear hK K hH1
              have hS3 := hS5.alloc hS5.size (.cells #[.int .i64 (tk : Nat), .int .u32 (te : Nat), .string ts, .int .u32 (tu : Nat), .int .i64 td, .int .i64 tf, .slice A' m' c'] 67)
              refine wpAnyH_ready (rs := [15]) (by kernel_rfl) (by simp) ?_
              refine AllReadyH.cons rfl (fun K hK => ?_) AllReadyH.nil
              go_simp
              refine hK _ _ hS3 (fun hH3 => ?_)
              clear hK K hH2
              refine wpAnyH_take (i := 16) (v := ?_) rfl (by kernel_rfl) (by kernel_rfl) (by kernel_rfl) (fun _ _ _ h => h) (Or.inl ⟨by kernel_rfl, ?_⟩) hH3 ?_
              rotate_left
              · (intro w' hw'; go_simp; first | done | with_reducible rfl)
              have HHP := Lib.hid (heap_alloc_new w5 (.cells #[.int .i64 (tk : Nat), .int .u32 (te : Nat), .string ts, .int .u32 (tu : Nat), .int .i64 td, .int .i64 tf, .slice A' m' c'] 67))
              have HLP := Lib.hid (show wr.heap.size ≤ w5.heap.size from hS5.size)
              have HNW : Hid (Bytes (w5.alloc (.cells #[.int .i64 (tk : Nat), .int .u32 (te : Nat), .string ts, .int .u32 (tu : Nat), .int .i64 td, .int .i64 tf, .slice A' m' c'] 67)) A' m' to_ ∧ (A' = none → c' = 0) ∧ ∀ ad, A' = some ad → wr.heap.size ≤ ad.block) := Lib.hid ⟨hnew.1.alloc _, hnew.2.1, fun ad e => Nat.le_trans hHeld.size (hnew.2.2.1 ad e)⟩
              have HPN := Lib.hid (show True from trivial)
              clear hnew
              clear hb5 hHeld hS2
              generalize w5.alloc (.cells #[.int .i64 (tk : Nat), .int .u32 (te : Nat), .string ts, .int .u32 (tu : Nat), .int .i64 td, .int .i64 tf, .slice A' m' c'] 67) = w6 at *
              generalize w5.heap.size = p at *
              refine wpAnyH_done (by kernel_rfl) ?_ _
              refine NoPanic.normal ?_
              go_simp
              clear hH3 hS5
              go_wp2_with fail
              go_meet
              exact ⟨p, A', m', c', rfl, rfl, Lib.hid hS3, HHP, HNW, HLP⟩
            · have hS0 : Below wr.heap.size wr (wr.alloc (.cells #[.int .i64 0, .int .u32 0, .string ⟨#[]⟩, .int .u32 0, .int .i64 0, .int .i64 0, .slice none 0 0] 67)).drew := ((Below.refl _ _).alloc (Nat.le_refl _) _).drew
              go_simp
              refine hK _ _ hS0 (fun hH0 => ?_)
              clear hK K hHeld
              have hz0 : (wr.alloc (.cells #[.int .i64 0, .int .u32 0, .string ⟨#[]⟩, .int .u32 0, .int .i64 0, .int .i64 0, .slice none 0 0] 67)).drew.heap[wr.heap.size]? = some (.cells #[.int .i64 0, .int .u32 0, .string ⟨#[]⟩, .int .u32 0, .int .i64 0, .int .i64 0, .slice none 0 0] 67 (0, 0)) := heap_alloc_new wr _
              have hz1 : wr.heap.size < (wr.alloc (.cells #[.int .i64 0, .int .u32 0, .string ⟨#[]⟩, .int .u32 0, .int .i64 0, .int .i64 0, .slice none 0 0] 67)).drew.heap.size := by simp
              generalize (wr.alloc (.cells #[.int .i64 0, .int .u32 0, .string ⟨#[]⟩, .int .u32 0, .int .i64 0, .int .i64 0, .slice none 0 0] 67)).drew = w4 at *
              refine wpAnyH_ready (rs := [10]) (by kernel_rfl) (by simp) ?_
              refine AllReadyH.cons rfl (fun K hK => ?_) AllReadyH.nil
              go_simp
              refine (dec_some _ kd Ax nx cx pay (HBX.out _ hH0) hnx (HFit.out _ hH0) _ HD.out).mono ?_
              rintro x w5 ⟨A', m', c', rfl, hnew⟩
              have hb5 := hnew.2.2.2
              have hS5 := hS0.trans (hb5.mono hS0.size)
              have hz5 := (hb5.block _ hz1).trans hz0
              go_wp2_with fail
              refine hK.out _ _ hS5 (fun hH1 => ?_)
              clear hK K
              refine wpAnyH_take (i := 11) (v := ?_) rfl (by kernel_rfl) (by kernel_rfl) (by kernel_rfl) (fun _ _ _ h => h) (Or.inl ⟨by kernel_rfl, ?_⟩) hH1 ?_
              rotate_left
              · (intro w' hw'; go_simp; first | done | with_reducible rfl)
              refine wpAnyH_take (i := 12) (v := ?_) rfl (by kernel_rfl) (by kernel_rfl) (by kernel_rfl) (fun _ _ _ h => h) (Or.inl ⟨by kernel_rfl, ?_⟩) hH1 ?_
              rotate_left
              · (intro w' hw'; go_simp; first | done | with_reducible rfl)
              refine wpAnyH_take (i := 13) (v := ?_) rfl (by kernel_rfl) (by kernel_rfl) (by kernel_rfl) (fun _ _ _ h => h) (Or.inl ⟨by kernel_rfl, ?_⟩) hH1 ?_
              rotate_left
              · (intro w' hw'; go_simp; first | done | with_reducible rfl)
              have h7 := bod.seven hz5 rfl (.int .i64 (tk : Nat)) (.int .u32 (te : Nat)) (.string ts) (.int .u32 (tu : Nat)) (.int .i64 td) (.int .i64 tf) (.slice A' m' c')
              have hS3 := h7.2.2 _ _ hS5 (Nat.le_refl _)
              have e0 := cell_at hz5 0 _ rfl
              have f0 := frozen_of_row _ _ 0 _ _ hz5
              have e1 := cell_at hz5 1 _ rfl
              have f1 := frozen_of_row _ _ 1 _ _ hz5
              have e2 := cell_at hz5 2 _ rfl
              have f2 := frozen_of_row _ _ 2 _ _ hz5
              have e3 := cell_at hz5 3 _ rfl
              have f3 := frozen_of_row _ _ 3 _ _ hz5
              have e4 := cell_at hz5 4 _ rfl
              have f4 := frozen_of_row _ _ 4 _ _ hz5
              have e5 := cell_at hz5 5 _ rfl
              have f5 := frozen_of_row _ _ 5 _ _ hz5
              have e6 := cell_at hz5 6 _ rfl
              have f6 := frozen_of_row _ _ 6 _ _ hz5
              refine wpAnyH_ready (rs := [15]) (by kernel_rfl) (by simp) ?_
              refine AllReadyH.cons rfl (fun K hK => ?_) AllReadyH.nil
              go_simp
              refine hK _ _ hS3 (fun hH3 => ?_)
              clear hK K hH1 hH0
              refine wpAnyH_take (i := 16) (v := ?_) rfl (by kernel_rfl) (by kernel_rfl) (by kernel_rfl) (fun _ _ _ h => h) (Or.inl ⟨by kernel_rfl, ?_⟩) hH3 ?_
              rotate_left
              · (intro w' hw'; go_simp; first | done | with_reducible rfl)
              have HHP := Lib.hid h7.1
              have HLP := Lib.hid (Nat.le_refl wr.heap.size)
              have HNW : Hid (Bytes ((((((((((((((w5).setCell ⟨wr.heap.size, 0, none⟩ (.int .i64 (tk : Nat)))).setCell ⟨wr.heap.size, 1, none⟩ (.int .u32 (te : Nat)))).setCell ⟨wr.heap.size, 2, none⟩ (.string ts))).setCell ⟨wr.heap.size, 3, none⟩ (.int .u32 (tu : Nat)))).setCell ⟨wr.heap.size, 4, none⟩ (.int .i64 td))).setCell ⟨wr.heap.size, 5, none⟩ (.int .i64 tf))).setCell ⟨wr.heap.size, 6, none⟩ (.slice A' m' c')) A' m' to_ ∧ (A' = none → c' = 0) ∧ ∀ ad, A' = some ad → wr.heap.size ≤ ad.block) := Lib.hid ⟨hnew.1.kept fun ad e h0 => h7.2.1 _ (by have h1 := hnew.2.2.1 ad e; omega), hnew.2.1, fun ad e => Nat.le_trans hS0.size (hnew.2.2.1 ad e)⟩
              clear hnew
              clear h7 hb5 hS0 hz0 hz1 hz5 e0 e1 e2 e3 e4 e5 e6 f0 f1 f2 f3 f4 f5 f6 hS5
              generalize ((((((((((((((w5).setCell ⟨wr.heap.size, 0, none⟩ (.int .i64 (tk : Nat)))).setCell ⟨wr.heap.size, 1, none⟩ (.int .u32 (te : Nat)))).setCell ⟨wr.heap.size, 2, none⟩ (.string ts))).setCell ⟨wr.heap.size, 3, none⟩ (.int .u32 (tu : Nat)))).setCell ⟨wr.heap.size, 4, none⟩ (.int .i64 td))).setCell ⟨wr.heap.size, 5, none⟩ (.int .i64 tf))).setCell ⟨wr.heap.size, 6, none⟩ (.slice A' m' c')) = w6 at *
              obtain ⟨p, hp⟩ : ∃ p, p = wr.heap.size := ⟨_, rfl⟩
              rw [← hp] at HHP ⊢
              have HLP : Hid (wr.heap.size ≤ p) := Lib.hid (by omega)
              clear hp
              refine wpAnyH_done (by kernel_rfl) ?_ _
              refine NoPanic.normal ?_
              go_simp
              clear hH3
              go_wp2_with fail
              go_meet
              exact ⟨p, A', m', c', rfl, rfl, Lib.hid hS3, HHP, HNW, HLP⟩
        case rest =>
          obtain ⟨p, A', m', c', rfl, rfl, HBc, HHP, HNW, HLP⟩ := hcut
          obtain ⟨ys, s1, s2, s3, s4, s5, s6⟩ := HS.out
          have S1 := Lib.hid (s1.below HBc.out)
          have S2 := Lib.hid (s2.below HBc.out)
          have S3 := Lib.hid s3
          have S4 := Lib.hid (s4.trans (HBc.out.mono s4.size))
          have S5 := Lib.hid s5
          have S6 := Lib.hid s6
          have HA1 := Lib.hid (show ∀ ad, A' = some ad → 0 < m' → u7.ownBlock ≠ some ad.block from fun ad e h0 e' => by
            have h1 := HNW.out.2.2 ad e
            have h2 := (s1.lt e').2
            omega)
          have HA2 := Lib.hid (show ∀ ad, A' = some ad → 0 < m' → u8.ownBlock ≠ some ad.block from fun ad e h0 e' => by
            have h1 := HNW.out.2.2 ad e
            have h2 := (s2.lt e').2
            omega)
          have q0 := cell_at HHP.out 0 _ rfl
          have q1 := cell_at HHP.out 1 _ rfl
          have q2 := cell_at HHP.out 2 _ rfl
          have q3 := cell_at HHP.out 3 _ rfl
          have q4 := cell_at HHP.out 4 _ rfl
          have q5 := cell_at HHP.out 5 _ rfl
          have q6 := cell_at HHP.out 6 _ rfl
          have hx0 := (HCX.out _ HBc.out).1
          have hpc := block_lt_of_cell q0
          have hbw : b < W1.heap.size := by
            obtain ⟨b', o', x', e1, _, e3, _⟩ := HR1.out.2 k hlt
            cases e1
            exact block_lt_of_cell e3
          have HRC := Lib.hid (fun (w2 : World) (hw : Below W1.heap.size W1 w2) => show w2.cell? ⟨b, o + k * 3, none⟩ = some (.int .i64 (a : Nat)) from by
            rw [← hx0, hw.cell (p := ⟨b, o + k * 3, none⟩) hbw, S4.out.cell (p := ⟨b, o + k * 3, none⟩) hbw])
          clear s1 s2 s3 s4 s5 s6 hnx
          go_wp2_with (first
            | (at_builtin; refine wpList_append_own fN (by decide) (by decide) (by decide) rfl rfl (.tmp 38) (.tmp 40) 29 51 rfl Tryz.underlying29 infoN W1.heap.size u7 ys rfl S1.out S4.out.size (by have := S6.out; omega) ⟨⟨tk, te, ts, tu, td, tf, to_⟩, a, A', m', c'⟩ (0, 0) _ rfl rfl _ rfl ⟨HNW.out.1, HNW.out.2.1⟩ HA1.out ?_; intro v' w2 ho hgr hat; have HO1 := Lib.hid (And.intro ho (And.intro hgr hat)); have HP2 := Lib.hid (two_first (y := ⟨⟨tk, te, ts, tu, td, tf, to_⟩, a, A', m', c'⟩) (v' := v') S1.out S2.out S3.out hgr); have HB2 := Lib.hid (grown_below S4.out S1.out hgr); have hx2 := HRC.out _ HB2.out; clear ho hgr hat)
            | (at_builtin; refine wpList_append_own fP (by decide) (by decide) (by decide) rfl rfl (.tmp 42) (.tmp 48) 30 3 rfl Tryz.underlying30 infoI W1.heap.size u8 ys rfl HP2.out HB2.out.size (by have := S6.out; omega) ⟨⟨tk, te, ts, tu, td, tf, to_⟩, a, A', m', c'⟩ (0, 0) _ rfl rfl _ rfl ((HO1.out.1.2 _ (by simp)).1) HA2.out ?_; intro va' w3 ho2 hgr2 hat2; have HS3 := Lib.hid (NS2.more HXR.out HD.out S1.out S2.out S3.out S4.out S5.out S6.out HA2.out HO1.out.1 HO1.out.2.1 HO1.out.2.2 ho2 hgr2 hat2); clear ho2 hgr2 hat2))
          go_roundw
          case rel => first | exact ⟨k + 1, by omega, by go_num, HS3⟩ | ((repeat apply Exists.intro); exact ⟨⟨k + 1, by omega, by go_num, HS3⟩, rfl⟩)
          case measure => (show N - ((k : Int) + 1).toNat < N - k; omega)
    · obtain rfl : k = N := by omega
      obtain ⟨ys, s1, s2, s3, s4, s5, s6⟩ := HS.out
      obtain ⟨A2, c2, rfl, hc2, -, hR2⟩ := s1.rd fN
      have HR2 := Lib.hid hR2
      have HE := Lib.hid (And.intro s5 (And.intro s6 s4))
      clear s1 s2 s3 s4 s5 s6 hc2 hR2
      go_wp2_with fail
      go_ret3
      refine ⟨A2, ys.length, c2, u8, ys, ?_, HR2.out, ?_, ?_, HB1.out.trans (HE.out.2.2.mono HB1.out.size)⟩
      · rw [HXS.out]
        rfl
      · have h1 := HE.out.2.1
        omega
      · have h1 := HE.out.1
        rw [List.take_of_length_le (by rw [HXL.out]; omega)] at h1
        unfold notesL
        rw [HXS.out]
        exact h1
end Go.Proofs.YtfmdhcjniikfdaaGreatDoor.lg
/- Awake; the law on what is read. -/
namespace Go.Proofs.YtfmdhcjniikfdaaGreatDoor.lg
open Go.ChangeShapes Go.WideShapes Go.ChangeAt Go.RowKit
open Go.Proofs.YtfmdhcjniikfdaaGreatDoor.codec (Bytes vals)
open Go.Proofs.YtfmdhcjniikfdaaGreatDoor.bod (cell_at Fit)
open Go.Proofs.YtfmdhcjniikfdaaGreatDoor.frm (R X Reads Recs scan)
set_option linter.unusedVariables false
set_option maxRecDepth 100000
set_option linter.unusedSimpArgs false

theorem ntsL_nil : ntsL [] = [] := by
  unfold ntsL notesL
  rw [frm.scan_end [] 0 0 (Nat.le_refl _)]
  rfl
theorem read_nil (W : World) (hL : sumDoor.Laid W) (hr : Fit W) :
    Calls Tryz.prog 7 #[.slice none 0 0] W fun e w' => ∃ A n c, e = .returned (.agg #[.string ByteArray.empty, .int .u32 0, .int .u32 1, .slice A n c, .int .i64 0, .bool true]) ∧ Below W.heap.size W w' := by
  refine (read_any W none 0 0 [] (codec.empty_bytes W) (Nat.le_refl _) (by omega) hL hr).mono ?_
  rintro e w' ⟨A, n, c, zs, rfl, -, -, -, -, -, hb⟩
  refine ⟨A, n, c, ?_, hb⟩
  rw [ntsL_nil, frm.scan_end [] 0 0 (Nat.le_refl _)]
  rfl
set_option maxHeartbeats 1000000 in
theorem awake_any (W : World) (hL : sumDoor.Laid W) (hr : Fit W) :
    Calls Tryz.prog 6 #[] W fun e w' => e = .returned (.bool true) ∧ Below W.heap.size W w' := by
  have HR := Lib.hid (read_nil W hL hr)
  clear hL hr
  go_enter Tryz.func6, Tryz.ntmps6
  go_wp2_with fail
  refine HR.out.mono ?_
  rintro e w1 ⟨A, n, c, rfl, hb⟩
  have HB := Lib.hid hb
  clear hb HR
  go_wp2_with fail
  go_ret
  exact ⟨rfl, HB.out.alloc HB.out.size _⟩
set_option maxHeartbeats 4000000 in
theorem reads_long (W : World) (n c : Nat) (A : Option Addr) (hn : 30000 < n) (hL : sumDoor.Laid W) (hr : Fit W) :
    Calls Tryz.prog 3 #[.slice A n c] W fun e w' => e = .returned (.bool true) ∧ Below W.heap.size W w' := by
  have HW := Lib.hid (awake_any W hL hr)
  have HL := Lib.hid hL
  have HR := Lib.hid hr
  have hn' : decide ((30000 : Int) < (n : Int)) = true := by rw [decide_eq_true_iff]; omega
  clear hL hr hn
  go_enter Tryz.func3, Tryz.ntmps3
  go_wp2_with fail
  refine HW.out.mono ?_
  rintro e w1 ⟨rfl, hb⟩
  have HB1 := Lib.hid hb
  have HW1 := Lib.hid (awake_any w1 (HL.out.below HL.out.lt hb) (HR.out.below hb))
  clear hb
  go_wp2_with fail
  refine HW1.out.mono ?_
  rintro e w2 ⟨rfl, hb⟩
  have HB2 := Lib.hid hb
  clear hb
  go_wp2_with fail
  go_ret
  exact ⟨rfl, HB1.out.trans (HB2.out.mono HB1.out.size)⟩
set_option maxHeartbeats 8000000 in
theorem reads_mid (W : World) (n c : Nat) (A : Option Addr) (S : ByteArray) (E X T EB XB : Nat) (CL : Bool) (ns bl : List Nt) (hn : n ≤ 30000) (HW : Hid (Calls Tryz.prog 6 #[] W fun e w' => e = .returned (.bool true) ∧ Below W.heap.size W w')) (hcl : CL = true → EB = E ∧ XB = X) (HBL : Hid (bl.length = (lives ns).length))
    (HRD : Hid (∀ w, Below W.heap.size W w → Calls Tryz.prog 7 #[.slice A n c] w fun e w' => ∃ A1 n1 c1 zs, e = .returned (.agg #[.string S, .int .u32 (E : Nat), .int .u32 (X : Nat), .slice A1 n1 c1, .int .i64 (T : Nat), .bool CL]) ∧ Rd cL 6 w' A1 n1 zs ∧ n1 ≤ 30000 ∧ nts zs = lives ns ∧ Below w.heap.size w w'))
    (HNT : Hid (∀ w, Below W.heap.size W w → Calls Tryz.prog 8 #[.slice A n c] w fun e w' => ∃ A2 n2 c2 va ys, e = .returned (.tuple #[.slice A2 n2 c2, va, .int .i64 (T : Nat)]) ∧ Rd cN 7 w' A2 n2 ys ∧ n2 ≤ 40000 ∧ nts ys = ns ∧ Below w.heap.size w w'))
    (HOF : Hid (∀ w A2 n2 c2 ys, Rd cN 7 w A2 n2 ys → n2 ≤ 40000 → nts ys = ns → Calls Tryz.prog 9 #[.slice A2 n2 c2] w fun e w' => ∃ A3 n3 c3 qs, e = .returned (.tuple #[.agg #[.string S, .int .u32 (EB : Nat), .int .u32 (XB : Nat), .slice A3 n3 c3], .bool CL]) ∧ Rd cM 4 w' A3 n3 qs ∧ nts qs = bl ∧ Below w.heap.size w w'))
    (HBX : Hid (∀ w A1 n1 c1 zs, Rd cL 6 w A1 n1 zs → n1 ≤ 16000000 → nts zs = lives ns → Calls Tryz.prog 10 #[.agg #[.string S, .int .u32 (E : Nat), .int .u32 (X : Nat), .slice A1 n1 c1, .int .i64 (T : Nat), .bool CL]] w fun e w' => BoxAns w S EB XB bl e w')) :
    Calls Tryz.prog 3 #[.slice A n c] W fun e w' => e = .returned (.bool true) ∧ Below W.heap.size W w' := by
  have hn' : decide ((30000 : Int) < (n : Int)) = false := by rw [decide_eq_false_iff_not]; omega
  clear hn
  cases CL with
  | true =>
    obtain ⟨rfl, rfl⟩ := hcl rfl
    clear hcl
    go_enter Tryz.func3, Tryz.ntmps3
    go_wp2_with fail
    refine HW.out.mono ?_
    rintro e w1 ⟨rfl, hb1⟩
    have HB1 := Lib.hid hb1
    clear hb1 HW
    go_wp2_with fail
    refine (HRD.out w1 HB1.out).mono ?_
    rintro e w2 ⟨A1, n1, c1, zs, rfl, hR1, hn1, hz, hb2⟩
    obtain ⟨w3, hw3⟩ : ∃ w3, w3 = w2.alloc (.cells #[.string S, .int .u32 (EB : Nat), .int .u32 (XB : Nat), .slice A1 n1 c1, .int .i64 (T : Nat), .bool true] 27) := ⟨_, rfl⟩
    have HW3 := Lib.hid hw3
    have hb23 : Below w2.heap.size w2 w3 := by rw [hw3]; exact (Below.refl _ _).alloc (Nat.le_refl _) _
    have HLC := Lib.hid (fun (w' : World) (h : Below w3.heap.size w3 w') => (bod.boxed (w := w2) (o := .cells #[.string S, .int .u32 (EB : Nat), .int .u32 (XB : Nat), .slice A1 n1 c1, .int .i64 (T : Nat), .bool true] 27) (w1 := w') (by rw [← hw3]; exact h)).1)
    have HB3 := Lib.hid (HB1.out.trans ((hb2.trans (hb23.mono hb2.size)).mono HB1.out.size))
    have HR1 := Lib.hid (hR1.below hb23)
    have HZ := Lib.hid hz
    have HN1 := Lib.hid hn1
    have HL23 := Lib.hid (show w2.heap.size < w3.heap.size by rw [hw3]; simp)
    have HZN := Lib.hid (show n1 = (lives ns).length by rw [← hz, nts_len, hR1.1])
    clear hR1 hn1 hz hb2 hw3 hb23
    go_wp2_with fail
    rw [← HW3.out]
    generalize w2.heap.size = p3 at *
    refine (HNT.out w3 HB3.out).mono ?_
    rintro e w4 ⟨A2, n2, c2, va, ys, rfl, hR2, hn2, hy, hb4⟩
    have HB4 := Lib.hid hb4
    have HO2 := Lib.hid (HOF.out w4 A2 n2 c2 ys hR2 hn2 hy)
    have HR2 := Lib.hid (HR1.out.below hb4)
    clear hR2 hn2 hy hb4 HR1 HOF HRD HNT
    go_wp2_with fail
    refine HO2.out.mono ?_
    rintro e w5 ⟨A3, n3, c3, q3, rfl, hR3, hq3, hb5⟩
    obtain ⟨w6, hw6⟩ : ∃ w6, w6 = w5.alloc (.cells #[.string S, .int .u32 (EB : Nat), .int .u32 (XB : Nat), .slice A3 n3 c3] 35) := ⟨_, rfl⟩
    have HW6 := Lib.hid hw6
    have hb56 : Below w5.heap.size w5 w6 := by rw [hw6]; exact (Below.refl _ _).alloc (Nat.le_refl _) _
    have HWC := Lib.hid (fun (w' : World) (h : Below w6.heap.size w6 w') => (bod.boxed (w := w5) (o := .cells #[.string S, .int .u32 (EB : Nat), .int .u32 (XB : Nat), .slice A3 n3 c3] 35) (w1 := w') (by rw [← hw6]; exact h)).1)
    have hb46 : Below w4.heap.size w4 w6 := hb5.trans (hb56.mono hb5.size)
    have HB6 := Lib.hid (HB4.out.trans (hb46.mono HB4.out.size))
    have HR3 := Lib.hid (hR3.below hb56)
    have HQ3 := Lib.hid hq3
    have HN3 : Hid (n3 = n1) := Lib.hid (by rw [HZN.out, ← HBL.out, ← hq3, nts_len, hR3.1])
    have HR4 := Lib.hid (HR2.out.below hb46)
    have HL56 := Lib.hid (show w5.heap.size < w6.heap.size ∧ w3.heap.size ≤ w5.heap.size by rw [hw6]; exact ⟨by simp, Nat.le_trans HB4.out.size hb5.size⟩)
    have h3 := HLC.out w6 HB6.out
    have l0 := cell_at h3 0 _ rfl
    have l1 := cell_at h3 1 _ rfl
    have l2 := cell_at h3 2 _ rfl
    have l3 := cell_at h3 3 _ rfl
    have l4 := cell_at h3 4 _ rfl
    have l5 := cell_at h3 5 _ rfl
    rw [hw6] at l0 l1 l2 l3 l4 l5
    clear hR3 hq3 hb5 hw6 hb56 hb46 h3 HO2 HR2
    go_wp2_with fail
    rw [← HW6.out]
    clear l0 l1 l2 l3 l4 l5
    generalize w5.heap.size = p5 at *
    refine (HBX.out w6 A1 n1 c1 zs HR4.out (by have := HN1.out; omega) HZ.out).mono ?_
    rintro e w7 ⟨A7, n7, c7, q7, rfl, hR7, hc7, hq7, hb7⟩
    obtain ⟨w8, hw8⟩ : ∃ w8, w8 = w7.alloc (.cells #[.string S, .int .u32 (EB : Nat), .int .u32 (XB : Nat), .slice A7 n7 c7] 35) := ⟨_, rfl⟩
    have HW8 := Lib.hid hw8
    have hb78 : Below w7.heap.size w7 w8 := by rw [hw8]; exact (Below.refl _ _).alloc (Nat.le_refl _) _
    have hb68 : Below w6.heap.size w6 w8 := hb7.trans (hb78.mono hb7.size)
    have HB8 := Lib.hid (HB6.out.trans (hb68.mono HB6.out.size))
    have h8 : w8.heap[w7.heap.size]? = some (.cells #[.string S, .int .u32 (EB : Nat), .int .u32 (XB : Nat), .slice A7 n7 c7] 35 (0, 0)) := by rw [hw8]; exact heap_alloc_new _ _
    have h3 := HLC.out w8 HB8.out
    have h5 := HWC.out w8 hb68
    have hn3 := HN3.out
    have hn7 : n7 = n1 := by rw [HZN.out, ← HBL.out, ← hq7, nts_len, hR7.1]
    subst hn3
    subst hn7
    have HSM := Lib.hid (sameBox_true w8 S EB XB A7 A3 n7 c7 c3 q7 q3 (hR7.below hb78) (HR3.out.below hb68) (by rw [hq7, HQ3.out]) (by have := HN1.out; omega))
    have l0 := cell_at h3 0 _ rfl
    have l1 := cell_at h3 1 _ rfl
    have l2 := cell_at h3 2 _ rfl
    have l3 := cell_at h3 3 _ rfl
    have l4 := cell_at h3 4 _ rfl
    have l5 := cell_at h3 5 _ rfl
    have m0 := cell_at h5 0 _ rfl
    have m1 := cell_at h5 1 _ rfl
    have m2 := cell_at h5 2 _ rfl
    have m3 := cell_at h5 3 _ rfl
    have x0 := cell_at h8 0 _ rfl
    have x1 := cell_at h8 1 _ rfl
    have x2 := cell_at h8 2 _ rfl
    have x3 := cell_at h8 3 _ rfl
    have HB18 := Lib.hid (HB3.out.trans (HB8.out.mono HB3.out.size))
    have HH3 := Lib.hid (fun (w' : World) (h : Below w8.heap.size w8 w') => And.intro (HLC.out w' (HB8.out.trans (h.mono HB8.out.size))) (HWC.out w' (hb68.trans (h.mono hb68.size))))
    rw [hw8] at l0 l1 l2 l3 l4 l5 m0 m1 m2 m3 x0 x1 x2 x3
    clear hR7 hc7 hq7 hb7 hw8 hb78 hb68 h8 h3 h5
    go_wp2_with fail
    rw [← HW8.out]
    clear l0 l1 l2 l3 l4 l5 m0 m1 m2 m3 x0 x1 x2 x3
    refine HSM.out.mono ?_
    rintro e w9 ⟨rfl, hb9⟩
    obtain ⟨h3, h5⟩ := HH3.out w9 hb9
    have l1 := cell_at h3 1 _ rfl
    have l2 := cell_at h3 2 _ rfl
    have m1 := cell_at h5 1 _ rfl
    have m2 := cell_at h5 2 _ rfl
    have HB9 := Lib.hid (HB18.out.trans (hb9.mono HB18.out.size))
    clear hb9 h3 h5
    go_wp2_with fail
    go_ret
    exact ⟨rfl, HB9.out⟩
  | false =>
    clear hcl
    go_enter Tryz.func3, Tryz.ntmps3
    go_wp2_with fail
    refine HW.out.mono ?_
    rintro e w1 ⟨rfl, hb1⟩
    have HB1 := Lib.hid hb1
    clear hb1 HW
    go_wp2_with fail
    refine (HRD.out w1 HB1.out).mono ?_
    rintro e w2 ⟨A1, n1, c1, zs, rfl, hR1, hn1, hz, hb2⟩
    obtain ⟨w3, hw3⟩ : ∃ w3, w3 = w2.alloc (.cells #[.string S, .int .u32 (E : Nat), .int .u32 (X : Nat), .slice A1 n1 c1, .int .i64 (T : Nat), .bool false] 27) := ⟨_, rfl⟩
    have HW3 := Lib.hid hw3
    have hb23 : Below w2.heap.size w2 w3 := by rw [hw3]; exact (Below.refl _ _).alloc (Nat.le_refl _) _
    have HLC := Lib.hid (fun (w' : World) (h : Below w3.heap.size w3 w') => (bod.boxed (w := w2) (o := .cells #[.string S, .int .u32 (E : Nat), .int .u32 (X : Nat), .slice A1 n1 c1, .int .i64 (T : Nat), .bool false] 27) (w1 := w') (by rw [← hw3]; exact h)).1)
    have HB3 := Lib.hid (HB1.out.trans ((hb2.trans (hb23.mono hb2.size)).mono HB1.out.size))
    have HR1 := Lib.hid (hR1.below hb23)
    have HZ := Lib.hid hz
    have HN1 := Lib.hid hn1
    have HL23 := Lib.hid (show w2.heap.size < w3.heap.size by rw [hw3]; simp)
    have HZN := Lib.hid (show n1 = (lives ns).length by rw [← hz, nts_len, hR1.1])
    clear hR1 hn1 hz hb2 hw3 hb23
    go_wp2_with fail
    rw [← HW3.out]
    generalize w2.heap.size = p3 at *
    refine (HNT.out w3 HB3.out).mono ?_
    rintro e w4 ⟨A2, n2, c2, va, ys, rfl, hR2, hn2, hy, hb4⟩
    have HB4 := Lib.hid hb4
    have HO2 := Lib.hid (HOF.out w4 A2 n2 c2 ys hR2 hn2 hy)
    have HR2 := Lib.hid (HR1.out.below hb4)
    clear hR2 hn2 hy hb4 HR1 HOF HRD HNT
    go_wp2_with fail
    refine HO2.out.mono ?_
    rintro e w5 ⟨A3, n3, c3, q3, rfl, hR3, hq3, hb5⟩
    obtain ⟨w6, hw6⟩ : ∃ w6, w6 = w5.alloc (.cells #[.string S, .int .u32 (EB : Nat), .int .u32 (XB : Nat), .slice A3 n3 c3] 35) := ⟨_, rfl⟩
    have HW6 := Lib.hid hw6
    have hb56 : Below w5.heap.size w5 w6 := by rw [hw6]; exact (Below.refl _ _).alloc (Nat.le_refl _) _
    have HWC := Lib.hid (fun (w' : World) (h : Below w6.heap.size w6 w') => (bod.boxed (w := w5) (o := .cells #[.string S, .int .u32 (EB : Nat), .int .u32 (XB : Nat), .slice A3 n3 c3] 35) (w1 := w') (by rw [← hw6]; exact h)).1)
    have hb46 : Below w4.heap.size w4 w6 := hb5.trans (hb56.mono hb5.size)
    have HB6 := Lib.hid (HB4.out.trans (hb46.mono HB4.out.size))
    have HR3 := Lib.hid (hR3.below hb56)
    have HQ3 := Lib.hid hq3
    have HN3 : Hid (n3 = n1) := Lib.hid (by rw [HZN.out, ← HBL.out, ← hq3, nts_len, hR3.1])
    have HR4 := Lib.hid (HR2.out.below hb46)
    have HL56 := Lib.hid (show w5.heap.size < w6.heap.size ∧ w3.heap.size ≤ w5.heap.size by rw [hw6]; exact ⟨by simp, Nat.le_trans HB4.out.size hb5.size⟩)
    have h3 := HLC.out w6 HB6.out
    have l0 := cell_at h3 0 _ rfl
    have l1 := cell_at h3 1 _ rfl
    have l2 := cell_at h3 2 _ rfl
    have l3 := cell_at h3 3 _ rfl
    have l4 := cell_at h3 4 _ rfl
    have l5 := cell_at h3 5 _ rfl
    rw [hw6] at l0 l1 l2 l3 l4 l5
    clear hR3 hq3 hb5 hw6 hb56 hb46 h3 HO2 HR2
    go_wp2_with fail
    rw [← HW6.out]
    clear l0 l1 l2 l3 l4 l5
    generalize w5.heap.size = p5 at *
    refine (HBX.out w6 A1 n1 c1 zs HR4.out (by have := HN1.out; omega) HZ.out).mono ?_
    rintro e w7 ⟨A7, n7, c7, q7, rfl, hR7, hc7, hq7, hb7⟩
    obtain ⟨w8, hw8⟩ : ∃ w8, w8 = w7.alloc (.cells #[.string S, .int .u32 (EB : Nat), .int .u32 (XB : Nat), .slice A7 n7 c7] 35) := ⟨_, rfl⟩
    have HW8 := Lib.hid hw8
    have hb78 : Below w7.heap.size w7 w8 := by rw [hw8]; exact (Below.refl _ _).alloc (Nat.le_refl _) _
    have hb68 : Below w6.heap.size w6 w8 := hb7.trans (hb78.mono hb7.size)
    have HB8 := Lib.hid (HB6.out.trans (hb68.mono HB6.out.size))
    have h8 : w8.heap[w7.heap.size]? = some (.cells #[.string S, .int .u32 (EB : Nat), .int .u32 (XB : Nat), .slice A7 n7 c7] 35 (0, 0)) := by rw [hw8]; exact heap_alloc_new _ _
    have h3 := HLC.out w8 HB8.out
    have h5 := HWC.out w8 hb68
    have hn3 := HN3.out
    have hn7 : n7 = n1 := by rw [HZN.out, ← HBL.out, ← hq7, nts_len, hR7.1]
    subst hn3
    subst hn7
    have HSM := Lib.hid (sameBox_true w8 S EB XB A7 A3 n7 c7 c3 q7 q3 (hR7.below hb78) (HR3.out.below hb68) (by rw [hq7, HQ3.out]) (by have := HN1.out; omega))
    have l0 := cell_at h3 0 _ rfl
    have l1 := cell_at h3 1 _ rfl
    have l2 := cell_at h3 2 _ rfl
    have l3 := cell_at h3 3 _ rfl
    have l4 := cell_at h3 4 _ rfl
    have l5 := cell_at h3 5 _ rfl
    have m0 := cell_at h5 0 _ rfl
    have m1 := cell_at h5 1 _ rfl
    have m2 := cell_at h5 2 _ rfl
    have m3 := cell_at h5 3 _ rfl
    have x0 := cell_at h8 0 _ rfl
    have x1 := cell_at h8 1 _ rfl
    have x2 := cell_at h8 2 _ rfl
    have x3 := cell_at h8 3 _ rfl
    have HB18 := Lib.hid (HB3.out.trans (HB8.out.mono HB3.out.size))
    have HH3 := Lib.hid (fun (w' : World) (h : Below w8.heap.size w8 w') => And.intro (HLC.out w' (HB8.out.trans (h.mono HB8.out.size))) (HWC.out w' (hb68.trans (h.mono hb68.size))))
    rw [hw8] at l0 l1 l2 l3 l4 l5 m0 m1 m2 m3 x0 x1 x2 x3
    clear hR7 hc7 hq7 hb7 hw8 hb78 hb68 h8 h3 h5
    go_wp2_with fail
    rw [← HW8.out]
    clear l0 l1 l2 l3 l4 l5 m0 m1 m2 m3 x0 x1 x2 x3
    refine HSM.out.mono ?_
    rintro e w9 ⟨rfl, hb9⟩
    obtain ⟨h3, h5⟩ := HH3.out w9 hb9
    have l1 := cell_at h3 1 _ rfl
    have l2 := cell_at h3 2 _ rfl
    have m1 := cell_at h5 1 _ rfl
    have m2 := cell_at h5 2 _ rfl
    have HB9 := Lib.hid (HB18.out.trans (hb9.mono HB18.out.size))
    clear hb9 h3 h5
    go_wp2_with fail
    go_ret
    exact ⟨rfl, HB9.out⟩
/-- What Read answers, Box makes of it, and the document of the same notes: over any list of notes. -/
theorem box_of (w : World) (A : Option Addr) (n c T : Nat) (ns : List Nt) (zs : List Y) (hR : Rd cL 6 w A n zs) (hn : n ≤ 16000000) (hok : ∀ t ∈ ns, t.ok) (hz : nts zs = lives ns) :
    Calls Tryz.prog 10 #[.agg #[.string (nmL ns), .int .u32 (epo ns : Nat), .int .u32 (nxt (top (epo ns) ns) : Nat), .slice A n c, .int .i64 (T : Nat), .bool (cl (epo ns) (lives ns)).2]] w fun e w' => BoxAns w (nmL ns) (boxE ns) (boxX ns) (lg.boxed ns) e w' := by
  have ho : ∀ y ∈ zs, y.n.o.length ≤ 9000000 := fun y hy => by
    have h1 := short_oct (hok y.n (lives_mem (by rw [← hz]; exact List.mem_map.2 ⟨y, hy, rfl⟩)))
    omega
  have hl : n = (lives ns).length := by rw [← hz, nts_len, hR.1]
  unfold boxE boxX lg.boxed
  cases h : (cl (epo ns) (lives ns)).2 with
  | true =>
    have := box_clean w (nmL ns) (epo ns) (nxt (top (epo ns) ns)) T A n c zs hR hn ho
    rw [hz] at this
    exact this
  | false =>
    have := box_not w (nmL ns) (epo ns) (nxt (top (epo ns) ns)) T A n c zs hR (epo_lt hok) hn ho
    rw [hz, hl] at this
    rw [← hl] at this ⊢
    exact this
theorem box_len (ns : List Nt) : (lg.boxed ns).length = (lives ns).length := by
  unfold lg.boxed
  split
  · rfl
  · rw [ru_len]
theorem reads_walk (W : World) (n c : Nat) (A : Option Addr) (l : List Nat) (hB : Bytes W A n l) (hc : n ≤ c) (hL : sumDoor.Laid W) (hr : Fit W) :
    Calls Tryz.prog 3 #[.slice A n c] W fun e w' => e = .returned (.bool true) ∧ Below W.heap.size W w' := by
  by_cases hn : 30000 < n
  · exact reads_long W n c A hn hL hr
  · have hok := ntsL_ok hB.2.1
    refine reads_mid W n c A (nmL (ntsL l)) (epo (ntsL l)) (nxt (top (epo (ntsL l)) (ntsL l))) (scan l 0 0).2 (boxE (ntsL l)) (boxX (ntsL l)) (cl (epo (ntsL l)) (lives (ntsL l))).2 (ntsL l) (lg.boxed (ntsL l)) (by omega) (Lib.hid (awake_any W hL hr)) (fun h => ?_) (Lib.hid (box_len _)) (Lib.hid ?_) (Lib.hid ?_) (Lib.hid ?_) (Lib.hid ?_)
    · unfold boxE boxX
      rw [if_pos h, if_pos h]
      exact ⟨rfl, rfl⟩
    · intro w h
      refine (read_any w A n c l (hB.below hB.lt h) hc (by omega) (hL.below hL.lt h) (hr.below h)).mono ?_
      rintro e w' ⟨A1, n1, c1, zs, he, h1, h2, h3, h4, h5, h6⟩
      exact ⟨A1, n1, c1, zs, he, h1, by have := hB.1; omega, h5, h6⟩
    · intro w h
      refine (notes_any w A n c l (hB.below hB.lt h) hc (by omega) (hr.below h)).mono ?_
      rintro e w' ⟨A2, n2, c2, va, ys, he, h1, h2, h3, h4⟩
      exact ⟨A2, n2, c2, va, ys, he, h1, h2, by unfold ntsL; rw [← h3, List.map_map]; rfl, h4⟩
    · intro w A2 n2 c2 ys hR hn2 hy
      refine (of_any w A2 n2 c2 ys hR (by omega) (fun y hy' => hok y.n (by rw [← hy]; exact List.mem_map.2 ⟨y, hy', rfl⟩))).mono ?_
      rintro e w' ⟨A3, n3, c3, qs, he, h1, h2, h3, h4⟩
      rw [hy] at he h3
      exact ⟨A3, n3, c3, qs, he, h1, h3, h4⟩
    · intro w A1 n1 c1 zs hR hn1 hz
      exact box_of w A1 n1 c1 _ _ zs hR hn1 hok hz
end Go.Proofs.YtfmdhcjniikfdaaGreatDoor.lg
