/- The pages of a log. -/
import Derived.Test.YthhflkgngencdaaGreatDoorMa03
import Derived.Test.YthhflkgngencdaaGreatDoorMa13
import Derived.Test.YthhflkgngencdaaGreatDoorMa05
import Derived.Test.YthhflkgngencdaaGreatDoorMa00
import Derived.Lib.SliceRun
import Derived.Test.YthhflkgngencdaaGreatDoorMa12
import Derived.Test.YthhflkgngencdaaGreatDoorMa10
namespace Go.Proofs.YthhflkgngencdaaGreatDoor.sto
open Go.ChangeShapes Go.WideShapes Go.ChangeAt Go.RowKit
open Go.Proofs.YthhflkgngencdaaGreatDoor.codec (Bytes)
open Go.Proofs.YthhflkgngencdaaGreatDoor.row
open Go.Proofs.YthhflkgngencdaaGreatDoor.lg (Y cL)
open Go.Proofs.YthhflkgngencdaaGreatDoor.idx (E cE fE eI fI okE indexB indexL flsB flsL)
set_option linter.unusedVariables false
set_option maxRecDepth 100000
set_option linter.unusedSimpArgs false

/-- A mark, with the flags that are told of its UID. -/
def told (es : List E) (f : E) : E := ⟨f.u, (firstM es f.u).getD f.a⟩
def mix (es fs : List E) (k : Nat) : List E := (fs.take k).map (told es) ++ fs.drop k
theorem mix_zero (es fs : List E) : mix es fs 0 = fs := by simp [mix]
theorem mix_end (es fs : List E) : mix es fs fs.length = fs.map (told es) := by simp [mix]
theorem mix_len (es fs : List E) (k : Nat) : (mix es fs k).length = fs.length := by simp [mix]; omega
theorem mix_at {es fs : List E} {k : Nat} {f : E} (h : fs[k]? = some f) : (mix es fs k)[k]? = some f := by
  have h1 := (List.getElem?_eq_some_iff.1 h).1
  unfold mix
  rw [List.getElem?_append_right (by simp; omega), List.length_map, List.length_take, List.getElem?_drop, show k + (k - min k fs.length) = k by omega]
  exact h
theorem mix_next {es fs : List E} {k : Nat} {f : E} (h : fs[k]? = some f) : (mix es fs k).set k (told es f) = mix es fs (k + 1) := by
  obtain ⟨h1, h2⟩ := List.getElem?_eq_some_iff.1 h
  unfold mix
  rw [idx.take_next h, List.map_append, List.drop_eq_getElem_cons h1, List.set_append_right _ _ (by simp; omega), show k - ((fs.take k).map (told es)).length = 0 by simp; omega, List.set_cons_zero, List.append_assoc]
  rfl
theorem told_none {es : List E} {f : E} (h : firstM es f.u = none) : told es f = f := by
  unfold told
  rw [h]
  rfl
theorem set_same {l : List E} {k : Nat} {f : E} (h : l[k]? = some f) : l.set k f = l := by
  obtain ⟨h1, h2⟩ := List.getElem?_eq_some_iff.1 h
  rw [← h2, List.set_getElem_self]
theorem fl_set : ∀ (l : List E) (k : Nat) (f : E) (a : Int), l[k]? = some f → fl cE (l.set k ⟨f.u, a⟩) = (fl cE l).set (k * 2 + 1) (.int .i64 a)
  | [], k, f, a, h => by simp at h
  | x :: r, 0, f, a, h => by
    simp at h
    subst h
    rfl
  | x :: r, k + 1, f, a, h => by
    have := fl_set r k f a (by simpa using h)
    rw [List.set_cons_succ]
    show cE x ++ fl cE (r.set k ⟨f.u, a⟩) = (cE x ++ fl cE r).set ((k + 1) * 2 + 1) _
    rw [this, List.set_append_right _ _ (by simp [cE]; omega)]
    congr 2
    simp [cE]
    omega
theorem own_len2 {B : Nat} {T : TypeId} {w : World} {A : Option Addr} {m c : Nat} {ys : List E} (h : Own cE 2 B T w (.slice A m c) ys) : ys.length = m := by
  rcases h.2 with ⟨e, h0⟩ | ⟨g, cap, cur, e, hB, _⟩
  · simp at e
    omega
  · simp at e
    omega
theorem own_set {B g m c k : Nat} {T : TypeId} {w : World} {ys : List E} {y : E} (h : Own cE 2 B T w (.slice (some ⟨g, 0, none⟩) m c) ys) (hk : ys[k]? = some y) (a : Int) :
    Own cE 2 B T (w.setCell ⟨g, k * 2 + 1, none⟩ (.int .i64 a)) (.slice (some ⟨g, 0, none⟩) m c) (ys.set k ⟨y.u, a⟩) ∧ w.grownBy (w.setCell ⟨g, k * 2 + 1, none⟩ (.int .i64 a)) (some g) := by
  have hlen := own_len2 h
  have h' : World.ownsRow w B T 2 (.slice (some ⟨g, 0, none⟩) m c) m (fl cE ys) := hlen ▸ h
  obtain ⟨s1, s2⟩ := World.ownsRow.stored h' (k * 2 + 1) (.int .i64 a)
  refine ⟨?_, s2⟩
  unfold Own
  rw [List.length_set, hlen, fl_set ys k y a hk]
  exact s1
theorem own_cells {B g m c k : Nat} {T : TypeId} {w : World} {ys : List E} {y : E} (h : Own cE 2 B T w (.slice (some ⟨g, 0, none⟩) m c) ys) (hk : ys[k]? = some y) :
    w.cell? ⟨g, k * 2, none⟩ = some (.int .u32 (y.u : Nat)) ∧ w.cell? ⟨g, k * 2 + 1, none⟩ = some (.int .i64 y.a) ∧ w.frozen? ⟨g, k * 2 + 1, none⟩ = false := by
  have hlen := own_len2 h
  have h' : World.ownsRow w B T 2 (.slice (some ⟨g, 0, none⟩) m c) m (fl cE ys) := hlen ▸ h
  have hk2 := (List.getElem?_eq_some_iff.1 hk).1
  refine ⟨?_, ?_, h'.frozenAt _⟩
  · rw [h'.cellAt (k * 2) (by omega)]
    exact fl_at fE ys k y hk 0 _ rfl
  · rw [h'.cellAt (k * 2 + 1) (by omega)]
    exact fl_at fE ys k y hk 1 _ rfl
def logC (nm : ByteArray) (e0 x0 : Nat) (A : Option Addr) (n c : Nat) (t0 : Nat) : Array Value := #[.string nm, .int .u32 (e0 : Nat), .int .u32 (x0 : Nat), .slice A n c, .int .i64 (t0 : Nat), .bool true]
theorem sizeP (cs : Array Value) (h : cs.size = 2) : (Tryz.prog.info? 108).map (·.size) = some cs.size := by
  rw [h]
  kernel_rfl
def noPages : Array Value := #[.slice none 0 0, .slice none 0 0]
/-- What is answered: two pages of the call's own. -/
def PagesAns (W : World) (I F : List Nat) (e : Ending) (w' : World) : Prop :=
  ∃ g1 m1 g2 m2, e = .returned (.tuple #[.agg #[.slice (some ⟨g2, 0, none⟩) m2 m2, .slice (some ⟨g1, 0, none⟩) m1 m1], .int .i64 0]) ∧ m1 = I.length + 12 ∧ m2 = F.length + 12 ∧ W.heap.size ≤ g1 ∧ W.heap.size ≤ g2 ∧ Bytes w' (some ⟨g1, 0, none⟩) m1 (pg.pageL 1 I) ∧ Bytes w' (some ⟨g2, 0, none⟩) m2 (pg.pageL 2 F) ∧ Below W.heap.size W w'
/-- The flags at r7, whose row is the call's own; the map of what is told; the index's page. -/
structure PS (W1 : World) (lim r7 e0 : Nat) (A2 : Option Addr) (c2 : Nat) (es fs : List E) (mb g1 m1 : Nat) (I : List Nat) (k : Nat) (w : World) : Prop where
  own : Own cE 2 W1.heap.size 218 w (.slice A2 fs.length c2) (mix es fs k)
  hf : w.heap[r7]? = some (.cells #[.int .u32 (e0 : Nat), .slice A2 fs.length c2] 210 (0, 0))
  mp : ∃ D : DataW Unit, w.ownsMap Tryz.prog 39 (plainElem Tryz.prog 3) mb es.length D ∧ GF D es
  pg : Bytes w (some ⟨g1, 0, none⟩) m1 I
  be : Below W1.heap.size W1 w
  bl : ∀ g, A2 = some ⟨g, 0, none⟩ → g < lim
  b7 : lim ≤ r7
  bm : lim ≤ mb
  bg : lim ≤ g1
theorem PS.below {W1 : World} {lim r7 e0 : Nat} {A2 : Option Addr} {c2 : Nat} {es fs : List E} {mb g1 m1 : Nat} {I : List Nat} {k : Nat} {w w' : World} (h : PS W1 lim r7 e0 A2 c2 es fs mb g1 m1 I k w) (hb : Below w.heap.size w w') : PS W1 lim r7 e0 A2 c2 es fs mb g1 m1 I k w' := by
  obtain ⟨D, h1, h2⟩ := h.mp
  exact ⟨h.own.below hb, (hb.block _ (Array.getElem?_eq_some_iff.1 h.hf).1).trans h.hf, ⟨D, h1.kept (row := none) ⟨hb.os, hb.tape, hb.output, hb.size, fun i hi _ => hb.block i hi⟩ (by simp), h2⟩, h.pg.below h.pg.lt hb, h.be.trans (hb.mono h.be.size), h.bl, h.b7, h.bm, h.bg⟩
theorem PS.alloc {W1 : World} {lim r7 e0 : Nat} {A2 : Option Addr} {c2 : Nat} {es fs : List E} {mb g1 m1 : Nat} {I : List Nat} {k : Nat} {w : World} (h : PS W1 lim r7 e0 A2 c2 es fs mb g1 m1 I k w) (o : Obj) : PS W1 lim r7 e0 A2 c2 es fs mb g1 m1 I k (w.alloc o) := h.below ((Below.refl _ _).alloc (Nat.le_refl _) _)
theorem PS.skip {W1 : World} {lim r7 e0 : Nat} {A2 : Option Addr} {c2 : Nat} {es fs : List E} {mb g1 m1 : Nat} {I : List Nat} {k : Nat} {w : World} {f : E} (h : PS W1 lim r7 e0 A2 c2 es fs mb g1 m1 I k w) (hk : fs[k]? = some f) (hn : firstM es f.u = none) : PS W1 lim r7 e0 A2 c2 es fs mb g1 m1 I (k + 1) w :=
  ⟨by rw [← mix_next hk, told_none hn, set_same (mix_at hk)]; exact h.own, h.hf, h.mp, h.pg, h.be, h.bl, h.b7, h.bm, h.bg⟩
theorem PS.put {W1 : World} {lim r7 e0 g : Nat} {c2 : Nat} {es fs : List E} {mb g1 m1 : Nat} {I : List Nat} {k : Nat} {w : World} {f : E} {a : Int} (h : PS W1 lim r7 e0 (some ⟨g, 0, none⟩) c2 es fs mb g1 m1 I k w) (hk : fs[k]? = some f) (hn : firstM es f.u = some a) : PS W1 lim r7 e0 (some ⟨g, 0, none⟩) c2 es fs mb g1 m1 I (k + 1) (w.setCell ⟨g, k * 2 + 1, none⟩ (.int .i64 a)) := by
  obtain ⟨s1, s2⟩ := own_set h.own (mix_at hk) a
  have hg := h.bl g rfl
  have hlt := h.own.lt (g := g) rfl
  obtain ⟨D, h1, h2⟩ := h.mp
  have h7 := h.b7
  have hm := h.bm
  have h8 := h.bg
  refine ⟨?_, ?_, ⟨D, h1.kept s2 (by simp; omega), h2⟩, ?_, ?_, h.bl, h.b7, h.bm, h.bg⟩
  · rw [← mix_next hk]
    have e : told es f = ⟨f.u, a⟩ := by unfold told; rw [hn]; rfl
    rw [e]
    exact s1
  · rw [s2.block r7 (Array.getElem?_eq_some_iff.1 h.hf).1 (by simp; omega)]
    exact h.hf
  · exact h.pg.kept fun ad e hn => by cases e; exact s2.block g1 (h.pg.lt _ rfl hn) (by simp; omega)
  · exact h.be.trans ⟨s2.os, s2.tape, s2.output, s2.size, fun j hj => s2.block j (Nat.lt_of_lt_of_le hj h.be.size) (fun e => by have := Option.some.inj e; omega)⟩
set_option maxHeartbeats 4000000 in
theorem pagesOf_good (W : World) (nm : ByteArray) (e0 x0 : Nat) (A : Option Addr) (n c : Nat) (t0 : Nat) (zs : List Y) (B : Option Addr) (m d : Nat) (es : List E)
    (hR : lg.Rd cL 6 W A n zs) (hn : n ≤ 1000000) (hnm : nm.size ≤ 100000) (hne : nm ≠ ⟨#[]⟩) (hM : row.Rd cE 2 W B m es) (hm : m ≤ 1000000) (hok : okA es) (he : e0 < 4294967296) (hx : x0 < 4294967296) (hr : nam.Room W)
    (hz : ∀ z ∈ zs, z.n.u < 4294967296) (hI : indexB nm e0 x0 t0 (zs.map eI) = true) (hF : flsB e0 ((zs.map fI).map (told es)) = true) :
    Calls Tryz.prog 129 #[.agg #[.string nm, .int .u32 e0, .int .u32 x0, .slice A n c, .int .i64 t0, .bool true], .slice B m d] W fun e w' => PagesAns W (indexL nm e0 x0 t0 (zs.map eI)) (flsL e0 ((zs.map fI).map (told es))) e w' := by
  obtain ⟨W1, hW1⟩ : ∃ W1, W1 = (W.alloc (.cells (logC nm e0 x0 A n c t0) 195)).alloc (.cells noPages 108) := ⟨_, rfl⟩
  have hg0 : W1.heap[W.heap.size]? = some (.cells (logC nm e0 x0 A n c t0) 195 (0, 0)) := by
    rw [hW1]
    exact (Below.heap_alloc _ _ _ (by simp)).trans (heap_alloc_new W _)
  have hg1 : W1.heap[W.heap.size + 1]? = some (.cells noPages 108 (0, 0)) := by
    rw [hW1]
    have := heap_alloc_new (W.alloc (.cells (logC nm e0 x0 A n c t0) 195)) (.cells noPages 108)
    rwa [show (W.alloc (.cells (logC nm e0 x0 A n c t0) 195)).heap.size = W.heap.size + 1 by simp] at this
  have hbw : Below W.heap.size W W1 := by rw [hW1]; exact ((Below.refl _ _).alloc (Nat.le_refl _) _).alloc (by simp) _
  have hsz : W1.heap.size = W.heap.size + 1 + 1 := by rw [hW1]; simp
  have HOF := Lib.hid (idx.of_some W1 nm e0 x0 A n c t0 zs (hR.below (hb := hbw)) hn hnm hne)
  have HE1 := Lib.hid (show (W.alloc (.cells #[.string nm, .int .u32 (e0 : Nat), .int .u32 (x0 : Nat), .slice A n c, .int .i64 (t0 : Nat), .bool true] 195)).alloc (.cells #[.slice none 0 0, .slice none 0 0] 108) = W1 from hW1.symm)
  have HG0 := Lib.hid hg0
  have HG1 := Lib.hid hg1
  have HBW := Lib.hid hbw
  have HSZ := Lib.hid hsz
  have HMR := Lib.hid hM
  have HRoom := Lib.hid hr
  have HZ : Hid (okE (zs.map eI) ∧ okE (zs.map fI)) := Lib.hid ⟨fun e h => by obtain ⟨z, hz1, rfl⟩ := List.mem_map.1 h; exact hz z hz1, fun e h => by obtain ⟨z, hz1, rfl⟩ := List.mem_map.1 h; exact hz z hz1⟩
  have HOK := Lib.hid hok
  have HEX : Hid (e0 < 4294967296 ∧ x0 < 4294967296) := Lib.hid ⟨he, hx⟩
  generalize hIL : indexL nm e0 x0 t0 (zs.map eI) = IL at *
  have HIL := Lib.hid hIL
  have HI := Lib.hid hI
  have HF := Lib.hid hF
  have HNz := Lib.hid hn
  have hzl : zs.length = n := hR.1
  have HZL := Lib.hid hzl
  have HIsL := Lib.hid (show (zs.map eI).length = n by rw [List.length_map, hzl])
  generalize zs.map eI = is at *
  have HFL := Lib.hid (show (zs.map fI).length = n by rw [List.length_map, hzl])
  generalize zs.map fI = fs at *
  clear hW1 hg0 hg1 hbw hsz hR hM hr hIL hI hF he hx hz hn hok hne hzl
  go_enter Tryz.func129, Tryz.ntmps129
  go_wp2_with fail
  rw [HE1.out]
  refine HOF.out.mono ?_
  rintro e w2 ⟨v1, v2, rfl, o1, o2, hb2⟩
  obtain ⟨A1, c1, rfl, hc1, hn1, hR1⟩ := o1.rd fE
  obtain ⟨A2, c2, rfl, hc2, hn2, hR2⟩ := o2.rd fE
  have HR1 := Lib.hid hR1
  have HO2 := Lib.hid o2
  have HB2 := Lib.hid hb2
  have h0 := (hb2.block W.heap.size (by rw [HSZ.out]; omega)).trans HG0.out
  have h1 := (hb2.block (W.heap.size + 1) (by rw [HSZ.out]; omega)).trans HG1.out
  have H1 := Lib.hid h1
  have HW2 := Lib.hid (show W.heap.size + 1 + 1 ≤ w2.heap.size by have := hb2.size; rw [HSZ.out] at this; exact this)
  clear h0 h1 hR1 hR2 o1 o2 hb2 HOF hn1 hn2
  have hHs := (HB2.out.size)
  obtain ⟨w3, hw3⟩ : ∃ w3, w3 = (w2.alloc (.cells #[.string nm, .int .u32 (e0 : Nat), .int .u32 (x0 : Nat), .int .i64 (t0 : Nat), .slice A1 is.length c1] 208)).alloc (.cells #[.int .u32 (e0 : Nat), .slice A2 fs.length c2] 210) := ⟨_, rfl⟩
  have hb3 : Below w2.heap.size w2 w3 := by rw [hw3]; exact ((Below.refl _ _).alloc (Nat.le_refl _) _).alloc (by simp) _
  have hs3 : w3.heap.size = w2.heap.size + 1 + 1 := by rw [hw3]; simp
  have hf3 : w3.heap[w2.heap.size + 1]? = some (.cells #[.int .u32 (e0 : Nat), .slice A2 fs.length c2] 210 (0, 0)) := by
    rw [hw3]
    have := heap_alloc_new (w2.alloc (.cells #[.string nm, .int .u32 (e0 : Nat), .int .u32 (x0 : Nat), .int .i64 (t0 : Nat), .slice A1 is.length c1] 208)) (.cells #[.int .u32 (e0 : Nat), .slice A2 fs.length c2] 210)
    rwa [show (w2.alloc (.cells #[.string nm, .int .u32 (e0 : Nat), .int .u32 (x0 : Nat), .int .i64 (t0 : Nat), .slice A1 is.length c1] 208)).heap.size = w2.heap.size + 1 by simp] at this
  have hIN := (idx.putIndex_good w3 nm e0 x0 t0 A1 is.length c1 is (HR1.out.below hb3) (by have h1 := HR1.out.1; have h2 := HO2.out.1; have := HIsL.out; have := HNz.out; omega) HZ.out.1 HEX.out.1 HEX.out.2 (HRoom.out.below (HBW.out.trans ((HB2.out.trans (hb3.mono hHs)).mono HBW.out.size))) HI.out)
  rw [Int.toNat_natCast, HIL.out] at hIN
  have HIN := Lib.hid hIN
  have HW3 := Lib.hid hw3
  have HB3 := Lib.hid hb3
  have HS3 := Lib.hid hs3
  have HF3 := Lib.hid hf3
  have HHs := Lib.hid hHs
  clear hIN hw3 hb3 hs3 hf3 hHs
  go_wp2_with fail
  rw [← HW3.out]
  refine HIN.out.mono ?_
  rintro e w4 ⟨g1, m1, rfl, hm1, hg1, hby1, hb4⟩
  have HM1 := Lib.hid hm1
  have HG14 := Lib.hid hg1
  have HBY1 := Lib.hid hby1
  have HB4 := Lib.hid hb4
  have HB14 := Lib.hid (HB2.out.trans ((HB3.out.trans (hb4.mono HB3.out.size)).mono HB2.out.size))
  have HFB := Lib.hid (flagsBy_any w4 B m d es ((HMR.out.below HBW.out).below HB14.out) hm HOK.out)
  clear hm1 hg1 hby1 hb4 HIN
  have HPS := Lib.hid (show ∀ w5 mb, FSt w4 mb es m w5 → PS W1 w2.heap.size (w2.heap.size + 1) e0 A2 c2 es fs mb g1 m1 (pg.pageL 1 IL) 0 w5 from fun w5 mb h => by
    obtain ⟨D, d1, d2, d3, d4⟩ := h
    have hl : es.length = m := HMR.out.1
    have b25 : Below w2.heap.size w2 w5 := HB3.out.trans ((HB4.out.trans (d3.mono HB4.out.size)).mono HB3.out.size)
    have b35 : Below w3.heap.size w3 w5 := HB4.out.trans (d3.mono HB4.out.size)
    refine ⟨by rw [mix_zero]; exact HO2.out.below b25, ?_, ⟨D, by rw [hl]; exact d1, by rw [← List.take_of_length_le (Nat.le_of_eq hl)]; exact d2⟩, HBY1.out.below HBY1.out.lt d3, HB2.out.trans (b25.mono HHs.out), fun g e => ?_, Nat.le_succ _, ?_, ?_⟩
    · rw [b35.block _ (by rw [HS3.out]; omega)]
      exact HF3.out
    · subst e
      exact (HO2.out.lt (g := g) rfl).2
    · have := HB4.out.size
      have := HS3.out
      omega
    · have := HG14.out
      have := HS3.out
      omega)
  generalize hr7 : w2.heap.size + 1 = r7 at *
  have HFSL := Lib.hid hc2
  have HFN : Hid (fs.length ≤ 1000000) := Lib.hid (by rw [HFL.out]; exact HNz.out)
  have HB15 := Lib.hid (fun w5 mb (h : FSt w4 mb es m w5) => (PS.be (HPS.out w5 mb h)))
  go_wp2_with (go_at_call 172; refine HFB.out.mono ?_; rintro e w5 ⟨mb, rfl, hmb⟩; have hp := HPS.out w5 mb hmb; have hcf : w5.cell? ⟨r7, 1, none⟩ = some (.slice A2 fs.length c2) := (by simp [World.cell?, hp.hf]); have HP5 := Lib.hid hp; clear hmb hp)
  go_loopw [35] (fun i wr => ∃ k : Nat, k ≤ fs.length ∧ i = .int .i64 k ∧ Hid (PS W1 w2.heap.size r7 e0 A2 c2 es fs mb g1 m1 (pg.pageL 1 IL) k wr)) (fun i _ => fs.length - (intOf i).toNat)
  case atStart => exact ⟨0, Nat.zero_le _, rfl, HP5⟩
  case round =>
    obtain ⟨k, hk, rfl, HS⟩ := hrel
    clear hcf
    have hfn := HFN.out
    by_cases hlt : k < fs.length
    · obtain ⟨f, hf⟩ : ∃ f, fs[k]? = some f := ⟨fs[k], List.getElem?_eq_getElem hlt⟩
      have hA : ∃ g, A2 = some ⟨g, 0, none⟩ := by
        have hfo := HS.out.own
        rcases hfo.2 with ⟨e, h0⟩ | ⟨g, cap, cur, e, _⟩
        · rw [mix_len] at h0; omega
        · simp at e
          exact ⟨g, e.1⟩
      obtain ⟨g, rfl⟩ := hA
      obtain ⟨c0, c1, hfz⟩ := own_cells HS.out.own (mix_at hf)
      have hcf : wr.cell? ⟨r7, 1, none⟩ = some (.slice (some ⟨g, 0, none⟩) fs.length c2) := by simp [World.cell?, HS.out.hf]
      obtain ⟨D, g1m, g2m⟩ := HS.out.mp
      have HFk := Lib.hid hf
      have hfu : f.u < 4294967296 := HZ.out.2 f (List.mem_of_getElem? hf)
      obtain ⟨hhas, hat⟩ := g2m.2 f.u hfu
      have HKY := Lib.hid (keyOf_u hfu)
      have HG1m := Lib.hid g1m
      obtain ⟨u, a⟩ := f
      have hkl : (k : Int) < (fs.length : Int) := by omega
      simp only [] at c0 c1 hhas hat HKY
      clear hf hfu g1m g2m
      cases hfm : firstM es u with
      | none =>
        rw [hfm] at hhas
        simp only [Option.isSome_none] at hhas
        have HSk := Lib.hid (HS.out.skip HFk.out hfm)
        clear hfm hat
        go_wp2_with (at_lookup; refine wpList_lookup_own_ok_int (H := Unit) _ rfl _ _ 239 rfl 39 3 .i64 lawU Tryz.underlying239 Tryz.underlying3 (zeroI _) mb es.length D rfl (HG1m.out.alloc _) _ _ rfl HKY.out ?_; intro cc hat hwc; clear hat hwc)
        go_roundw
        case rel => first | exact ⟨k + 1, by omega, by go_num, Lib.hid (HSk.out.alloc _)⟩ | ((repeat apply Exists.intro); exact ⟨⟨k + 1, by omega, by go_num, Lib.hid (HSk.out.alloc _)⟩, rfl⟩)
        case measure => (show fs.length - ((k : Int) + 1).toNat < fs.length - k; omega)
      | some v =>
        rw [hfm] at hhas
        simp only [Option.isSome_some] at hhas
        have HAt := Lib.hid (hat v hfm)
        have HSp := Lib.hid (fun o => (HS.out.alloc o).put HFk.out hfm)
        have hcf2 : ∀ o, (wr.alloc o).cell? ⟨r7, 1, none⟩ = some (.slice (some ⟨g, 0, none⟩) fs.length c2) := fun o => by simp [World.cell?, (HS.out.alloc o).hf]
        have hc2' : ∀ o, (wr.alloc o).cell? ⟨g, k * 2 + 1, none⟩ = some (.int .i64 a) := fun o => (own_cells (HS.out.alloc o).own (mix_at HFk.out)).2.1
        have hfz2 : ∀ o, (wr.alloc o).frozen? ⟨g, k * 2 + 1, none⟩ = false := fun o => (own_cells (HS.out.alloc o).own (mix_at HFk.out)).2.2
        clear hfm hat
        go_wp2_with (at_lookup; refine wpList_lookup_own_ok_int (H := Unit) _ rfl _ _ 239 rfl 39 3 .i64 lawU Tryz.underlying239 Tryz.underlying3 (zeroI _) mb es.length D rfl (HG1m.out.alloc _) _ _ rfl HKY.out ?_; intro cc hat hwc; have hcc : cc = v := (by rw [HAt.out] at hat; simp at hat; exact hat.symm); subst hcc; clear hat hwc)
        exact ⟨⟨k + 1, by omega, by go_num, Lib.hid (HSp.out _)⟩, (show fs.length - ((k : Int) + 1).toNat < fs.length - k by omega)⟩
    · obtain rfl : k = fs.length := by omega
      have hx1 := HS.out.own
      rw [mix_end] at hx1
      obtain ⟨A3, c3, e3, hc3, hn3, hR3⟩ := hx1.rd fE
      rw [List.length_map] at e3 hR3
      obtain ⟨rfl, rfl⟩ : A2 = A3 ∧ c2 = c3 := by simpa using e3
      have HPF := Lib.hid (idx.putFlags_good wr e0 A2 fs.length c2 (fs.map (told es)) hR3 hfn (fun e he => by
        obtain ⟨f, hf, rfl⟩ := List.mem_map.1 he
        exact HZ.out.2 f hf) HEX.out.1 HF.out)
      have hcf : wr.cell? ⟨r7, 1, none⟩ = some (.slice A2 fs.length c2) := by simp [World.cell?, HS.out.hf]
      have hcf0 : wr.cell? ⟨r7, 0, none⟩ = some (.int .u32 (e0 : Nat)) := by simp [World.cell?, HS.out.hf]
      have HSd := Lib.hid HS.out
      have HBe := Lib.hid HS.out.be
      clear hx1 hR3 hc3 hn3 e3 HPS HB15 HS
      go_wp2_with (go_at_call 173; refine HPF.out.mono ?_; rintro e w6 ⟨g2, m2, rfl, hm2, hg2, hby2, hb6⟩; have HM2 := Lib.hid hm2; have HG2 := Lib.hid hg2; have HBY2 := Lib.hid hby2; have HB6 := Lib.hid hb6; have hr6 := (hb6.block (W.heap.size + 1) (by have := HBe.out.size; rw [HSZ.out] at this; omega)).trans ((HBe.out.block (W.heap.size + 1) (by rw [HSZ.out]; omega)).trans HG1.out); have q0 : w6.cell? ⟨W.heap.size + 1, 0, none⟩ = some (.slice none 0 0) := (by simp [World.cell?, hr6, noPages]); have q1 : w6.cell? ⟨W.heap.size + 1, 1, none⟩ = some (.slice none 0 0) := (by simp [World.cell?, hr6, noPages]); have qf : ∀ j, w6.frozen? ⟨W.heap.size + 1, j, none⟩ = false := (fun j => by simp [World.frozen?, hr6]); have HR6 := Lib.hid hr6; clear hm2 hg2 hby2 hb6 hr6)
      obtain ⟨t1, t2, t3⟩ := idx.twoC HR6.out rfl (.slice (some ⟨g2, 0, none⟩) m2 m2) (.slice (some ⟨g1, 0, none⟩) m1 m1)
      have bw6 : Below W.heap.size W w6 := HBW.out.trans ((HBe.out.trans (HB6.out.mono HBe.out.size)).mono HBW.out.size)
      have p1 : Bytes w6 (some ⟨g1, 0, none⟩) m1 (pg.pageL 1 IL) := HSd.out.pg.below HSd.out.pg.lt HB6.out
      have z2 := HW2.out
      have z1 := HSd.out.bg
      have z3 := HG2.out
      have z4 := HBe.out.size
      have z5 := HSZ.out
      refine bodyPost_ret (bod.results_note Tryz.results129 _ _ (W.heap.size + 1) _ _ _ _ rfl t1 Tryz.underlying108 rfl (sizeP _ rfl)) rfl ⟨g1, m1, g2, m2, rfl, HM1.out, HM2.out, by omega, by omega, ?_, ?_, t3 _ _ bw6 (by omega)⟩
      · exact p1.kept fun ad e h0 => by cases e; exact t2 g1 (by omega)
      · exact HBY2.out.kept fun ad e h0 => by cases e; exact t2 g2 (by omega)
end Go.Proofs.YthhflkgngencdaaGreatDoor.sto
namespace Go.Proofs.YthhflkgngencdaaGreatDoor.sto
open Go.ChangeShapes Go.WideShapes Go.ChangeAt Go.RowKit
open Go.Proofs.YthhflkgngencdaaGreatDoor.codec (Bytes vals vals_length)
open Go.Proofs.YthhflkgngencdaaGreatDoor.row
open Go.Proofs.YthhflkgngencdaaGreatDoor.bod (Fit)
open Go.Proofs.YthhflkgngencdaaGreatDoor.lg (Y Nt cL pick livB notesL ntsL nmL epo nxt top cl lives)
open Go.Proofs.YthhflkgngencdaaGreatDoor.idx (E cE fE eI fI okE indexB indexL flsB flsL)
set_option linter.unusedVariables false
set_option maxRecDepth 100000
set_option linter.unusedSimpArgs false

/-- Bytes of one's own are bytes. -/
theorem own_bytes {w : World} {B : Nat} {v : Value} {l : List Nat} (h : w.ownsRow B 5 1 v l.length (vals l)) (hl : ∀ b ∈ l, b < 256) : ∃ A c, v = .slice A l.length c ∧ l.length ≤ c ∧ (A = none → c = 0) ∧ Bytes w A l.length l ∧ (∀ ad, A = some ad → B ≤ ad.block) := by
  rcases h.2 with ⟨e, h0⟩ | ⟨g, cap, cur, e, hB, hg, hc, hm, hs, ht⟩
  · exact ⟨none, 0, by rw [e, h0], by omega, fun _ => rfl, ⟨rfl, hl, fun h => by omega⟩, fun ad e => by cases e⟩
  · refine ⟨_, cap, e, hc, (fun e => by cases e), ⟨rfl, hl, fun h0 => ⟨g, 0, rfl, fun i hi => ?_⟩⟩, fun ad e => by cases e; exact hB⟩
    have := h.cells (g := g) (by rw [e]; rfl) i (.int .u8 (l.getD i 0 : Nat)) (by simp [vals, List.getD, hi])
    rw [codec.add_none] at this
    exact this
/-- What is made of a log. -/
def liveP (l : List Nat) : List (Nt × Nat) := pick (notesL l) (livB (ntsL l)) (notesL l).length
def eN (x : Nt × Nat) : E := ⟨x.1.u, (x.2 : Int)⟩
def fN (x : Nt × Nat) : E := ⟨x.1.u, x.1.f⟩
def torn (l : List Nat) : Nat := (frm.scan l 0 0).2
def nextL (l : List Nat) : Nat := nxt (top (epo (ntsL l)) (ntsL l))
def idxOf (l : List Nat) : List Nat := indexL (nmL (ntsL l)) (epo (ntsL l)) (nextL l) (torn l) ((liveP l).map eN)
def flsOf (l : List Nat) (es : List E) : List Nat := flsL (epo (ntsL l)) (((liveP l).map fN).map (told es))
/-- A log whose pages can be made. -/
structure GoodL (l : List Nat) (es : List E) : Prop where
  clean : (cl (epo (ntsL l)) (lives (ntsL l))).2 = true
  name : nmL (ntsL l) ≠ ⟨#[]⟩
  size : (nmL (ntsL l)).size ≤ 100000
  ep : epo (ntsL l) < 4294967296
  nx : nextL l < 4294967296
  uid : ∀ x ∈ liveP l, x.1.u < 4294967296
  idx : indexB (nmL (ntsL l)) (epo (ntsL l)) (nextL l) (torn l) ((liveP l).map eN) = true
  fls : flsB (epo (ntsL l)) (((liveP l).map fN).map (told es)) = true
theorem eI_map (zs : List Y) : zs.map eI = (zs.map Y.np).map eN ∧ zs.map fI = (zs.map Y.np).map fN := by
  rw [List.map_map, List.map_map]
  exact ⟨rfl, rfl⟩
set_option maxHeartbeats 1000000 in
/-- The log is read, and its pages are made. -/
theorem readPages (W : World) (A : Option Addr) (n c : Nat) (l : List Nat) (hB : Bytes W A n l) (hc : n ≤ c) (hn : n ≤ 1000000) (hL : sumDoor.Laid W) (hr : Fit W) (C : Option Addr) (m d : Nat) (es : List E) (hM : row.Rd cE 2 W C m es) (hm : m ≤ 1000000) (hok : okA es) (hg : GoodL l es) :
    Calls Tryz.prog 130 #[.slice A n c] W fun e w' => ∃ v, e = .returned v ∧ Below W.heap.size W w' ∧ Calls Tryz.prog 129 #[v, .slice C m d] w' fun e w2 => PagesAns w' (idxOf l) (flsOf l es) e w2 := by
  refine (lg.read_pos W A n c l hB hc (by omega) hL hr).mono ?_
  rintro e w' ⟨A1, n1, c1, zs, rfl, hR, h1, h2, h3, h4, h5, hb⟩
  refine ⟨_, rfl, hb, ?_⟩
  rw [hg.clean]
  obtain ⟨q1, q2⟩ := eI_map zs
  have hzp : zs.map Y.np = liveP l := h5
  have := pagesOf_good w' (nmL (ntsL l)) (epo (ntsL l)) (nextL l) A1 n1 c1 (torn l) zs C m d es hR (by have := hB.1; omega) hg.size hg.name (hM.below hb) hm hok hg.ep hg.nx (hr.below hb).room (fun z hz => by
    refine hg.uid z.np ?_
    rw [← hzp]
    exact List.mem_map_of_mem hz) (by rw [q1, hzp]; exact hg.idx) (by rw [q2, hzp]; exact hg.fls)
  rw [q1, q2, hzp] at this
  exact this
def noChange : Array Value := #[.slice none 0 0, .slice none 0 0, .slice none 0 0]
/-- What is answered: the frames, and both pages. -/
def ChangeAns (W : World) (B : Option Addr) (m d : Nat) (I F : List Nat) (e : Ending) (w' : World) : Prop :=
  ∃ g1 m1 g2 m2, e = .returned (.tuple #[.agg #[.slice B m d, .slice (some ⟨g2, 0, none⟩) m2 m2, .slice (some ⟨g1, 0, none⟩) m1 m1], .int .i64 0]) ∧ m1 = I.length + 12 ∧ m2 = F.length + 12 ∧ W.heap.size ≤ g1 ∧ W.heap.size ≤ g2 ∧ Bytes w' (some ⟨g1, 0, none⟩) m1 (pg.pageL 1 I) ∧ Bytes w' (some ⟨g2, 0, none⟩) m2 (pg.pageL 2 F) ∧ Below W.heap.size W w'
theorem sizeC (cs : Array Value) (h : cs.size = 3) : (Tryz.prog.info? 110).map (·.size) = some cs.size := by
  rw [h]
  kernel_rfl
theorem threeC {w : World} {g : Nat} {t : TypeId} {cs : Array Value} (h : w.heap[g]? = some (.cells cs t (0, 0))) (hs : cs.size = 3) (v0 v1 v2 : Value) :
    (((w.setCell ⟨g, 0, none⟩ v0).setCell ⟨g, 1, none⟩ v1).setCell ⟨g, 2, none⟩ v2).heap[g]? = some (.cells #[v0, v1, v2] t (0, 0)) ∧
    (∀ k, k ≠ g → (((w.setCell ⟨g, 0, none⟩ v0).setCell ⟨g, 1, none⟩ v1).setCell ⟨g, 2, none⟩ v2).heap[k]? = w.heap[k]?) ∧
    ∀ (B : Nat) (a : World), Below B a w → B ≤ g → Below B a (((w.setCell ⟨g, 0, none⟩ v0).setCell ⟨g, 1, none⟩ v1).setCell ⟨g, 2, none⟩ v2) := by
  refine ⟨?_, fun k hk => by rw [heap_setCell_other _ _ _ _ hk, heap_setCell_other _ _ _ _ hk, heap_setCell_other _ _ _ _ hk], fun B a hb hg => ((hb.setCell (p := ⟨g, 0, none⟩) hg _).setCell (p := ⟨g, 1, none⟩) hg _).setCell (p := ⟨g, 2, none⟩) hg _⟩
  rw [heap_setCell_same _ g 2 _ t _ (heap_setCell_same _ g 1 _ t _ (heap_setCell_same _ g 0 _ t _ h))]
  obtain ⟨l⟩ := cs
  have hl : l.length = 3 := hs
  match l, hl with
  | [a0, a1, a2], _ => rfl
set_option maxHeartbeats 4000000 in
theorem changeOf_good (W : World) (A : Option Addr) (n c : Nat) (l0 : List Nat) (hB : Bytes W A n l0) (hc : n ≤ c) (hnil : A = none → c = 0) (B : Option Addr) (m d : Nat) (ps : List Pc) (hR : row.Rd cP 1 W B m ps) (hLs : ∀ p ∈ ps, Lies W p) (C : Option Addr) (q k : Nat) (es : List E) (hM : row.Rd cE 2 W C q es) (hq : q ≤ 1000000) (hok : okA es)
    (l : List Nat) (hl : l = l0 ++ all ps) (hn : l.length ≤ 1000000) (hm : m ≤ 1000000) (h256 : ∀ b ∈ all ps, b < 256) (hL : sumDoor.Laid W) (hr : Fit W) (hg : GoodL l es) :
    Calls Tryz.prog 90 #[.slice A n c, .slice B m d, .slice C q k] W fun e w' => ChangeAns W B m d (idxOf l) (flsOf l es) e w' := by
  obtain ⟨W1, hW1⟩ : ∃ W1, W1 = W.alloc (.cells noChange 110) := ⟨_, rfl⟩
  have hb1 : Below W.heap.size W W1 := by rw [hW1]; exact (Below.refl _ _).alloc (Nat.le_refl _) _
  have hs1 : W1.heap.size = W.heap.size + 1 := by rw [hW1]; simp
  have hg1 : W1.heap[W.heap.size]? = some (.cells noChange 110 (0, 0)) := by rw [hW1]; exact heap_alloc_new W _
  have hal : (all ps).length ≤ 1000000 := by rw [hl, List.length_append] at hn; omega
  have H1 := Lib.hid (concat_any W1 B m d ps (hR.below hb1) (fun p hp => (hLs p hp).below hb1) hm (by omega))
  have H2 : Hid (∀ w2 A1 c1, Below W1.heap.size W1 w2 → (all ps).length ≤ c1 → (A1 = none → c1 = 0) → Bytes w2 A1 (all ps).length (all ps) → Calls Tryz.prog 95 #[.slice (some ⟨w2.heap.size, 0, none⟩) 2 2] (w2.alloc (.cells #[.slice A n c, .slice A1 (all ps).length c1] 40)) fun e w' => ∃ A2 c2, e = .returned (.slice A2 l.length c2) ∧ l.length ≤ c2 ∧ Bytes w' A2 l.length l ∧ Below (w2.heap.size + 1) (w2.alloc (.cells #[.slice A n c, .slice A1 (all ps).length c1] 40)) w') := Lib.hid (fun w2 A1 c1 hb2 hc1 hn1 hB1 => by
    have ha : Below w2.heap.size w2 (w2.alloc (.cells #[.slice A n c, .slice A1 (all ps).length c1] 40)) := (Below.refl _ _).alloc (Nat.le_refl _) _
    have hz : (w2.alloc (.cells #[.slice A n c, .slice A1 (all ps).length c1] 40)).heap.size = w2.heap.size + 1 := by simp
    have hall : all [⟨A, n, c, l0⟩, ⟨A1, (all ps).length, c1, all ps⟩] = l := by rw [hl]; simp [all]
    have hrd : row.Rd cP 1 (w2.alloc (.cells #[.slice A n c, .slice A1 (all ps).length c1] 40)) (some ⟨w2.heap.size, 0, none⟩) 2 [⟨A, n, c, l0⟩, ⟨A1, (all ps).length, c1, all ps⟩] := by
      refine ⟨rfl, fun i hi => ?_⟩
      have hh := heap_alloc_new w2 (.cells #[.slice A n c, .slice A1 (all ps).length c1] 40)
      rcases (by omega : i = 0 ∨ i = 1) with rfl | rfl
      · exact ⟨_, _, _, rfl, rfl, fun j v hv => by
          rcases j with _ | j
          · simp [cP] at hv; subst hv; simp only [World.cell?]; rw [hh]; rfl
          · simp [cP] at hv⟩
      · exact ⟨_, _, _, rfl, rfl, fun j v hv => by
          rcases j with _ | j
          · simp [cP] at hv; subst hv; simp only [World.cell?]; rw [hh]; rfl
          · simp [cP] at hv⟩
    have hlies : ∀ p ∈ [(⟨A, n, c, l0⟩ : Pc), ⟨A1, (all ps).length, c1, all ps⟩], Lies (w2.alloc (.cells #[.slice A n c, .slice A1 (all ps).length c1] 40)) p := by
      intro p hp
      simp at hp
      rcases hp with rfl | rfl
      · exact ((show Lies W ⟨A, n, c, l0⟩ from ⟨hB, hc, hnil⟩).below (hb1.trans (hb2.mono hb1.size))).below ha
      · exact (show Lies w2 ⟨A1, (all ps).length, c1, all ps⟩ from ⟨hB1, hc1, hn1⟩).below ha
    refine (concat_any _ _ 2 2 _ hrd hlies (by omega) (by rw [hall]; omega)).mono ?_
    rintro e w' ⟨v, rfl, ho, hb⟩
    rw [hall] at ho
    rw [hz] at hb
    obtain ⟨A2, c2, rfl, h1, h2, h3, -⟩ := own_bytes ho (by rw [hl]; exact fun b hb => (List.mem_append.1 hb).elim (hB.2.1 b) (h256 b))
    exact ⟨A2, c2, rfl, h1, h3, hb⟩)
  have H3 : Hid (∀ w2 A2 c2, Below W1.heap.size W1 w2 → l.length ≤ c2 → Bytes w2 A2 l.length l → Calls Tryz.prog 130 #[.slice A2 l.length c2] w2 fun e w' => ∃ v, e = .returned v ∧ Below w2.heap.size w2 w' ∧ Calls Tryz.prog 129 #[v, .slice C q k] w' fun e w2 => PagesAns w' (idxOf l) (flsOf l es) e w2) := Lib.hid (fun w2 A2 c2 hb2 hc2 hB2 => by
    have hb := hb1.trans (hb2.mono hb1.size)
    exact readPages w2 A2 l.length c2 l hB2 hc2 hn (hL.below hL.lt hb) (hr.below hb) C q k es (hM.below hb) hq hok hg)
  have H256 := Lib.hid h256
  have HW1 := Lib.hid (show W.alloc (.cells #[.slice none 0 0, .slice none 0 0, .slice none 0 0] 110) = W1 from hW1.symm)
  have HB1 := Lib.hid hb1
  have HS1 := Lib.hid hs1
  have HG1 := Lib.hid hg1
  generalize hI : idxOf l = I at *
  generalize hF : flsOf l es = F at *
  clear hI hF hW1 hb1 hs1 hg1 hal hB hc hnil hR hLs hM hq hok hl hn hm h256 hL hr hg
  generalize l.length = nl at *
  go_enter Tryz.func90, Tryz.ntmps90
  go_wp2_with fail
  rw [HW1.out]
  refine H1.out.mono ?_
  rintro e w2 ⟨v, rfl, ho, hb2⟩
  obtain ⟨A1, c1, rfl, hc1, hn1, hB1, -⟩ := own_bytes ho H256.out
  have HB2 := Lib.hid hb2
  have HC2 := Lib.hid (H2.out w2 A1 c1 hb2 hc1 hn1 hB1)
  clear ho hc1 hn1 hB1 hb2 H2
  go_wp2_with fail
  refine HC2.out.mono ?_
  rintro e w3 ⟨A2, c2, rfl, hc2, hB2, hb3⟩
  have hb13 : Below W1.heap.size W1 w3 := by
    have ha : Below w2.heap.size w2 (w2.alloc (.cells #[.slice A n c, .slice A1 (all ps).length c1] 40)) := (Below.refl _ _).alloc (Nat.le_refl _) _
    exact HB2.out.trans ((ha.trans (hb3.mono (Nat.le_succ _))).mono HB2.out.size)
  have HB13 := Lib.hid hb13
  have HRd := Lib.hid (H3.out w3 A2 c2 hb13 hc2 hB2)
  clear HC2 hc2 hB2 hb3 hb13 H3
  go_wp2_with fail
  refine HRd.out.mono ?_
  rintro e w4 ⟨v, rfl, hb4, hp⟩
  have HP := Lib.hid hp
  have HB4 := Lib.hid hb4
  clear hp hb4 HRd
  go_wp2_with fail
  refine HP.out.mono ?_
  rintro e w5 ⟨g1, m1, g2, m2, rfl, hm1, hm2, hg1, hg2, hy1, hy2, hb5⟩
  have hb15 : Below W1.heap.size W1 w5 := HB13.out.trans ((HB4.out.trans (hb5.mono HB4.out.size)).mono HB13.out.size)
  have hr5 : w5.heap[W.heap.size]? = some (.cells noChange 110 (0, 0)) := (hb15.block W.heap.size (by rw [HS1.out]; omega)).trans HG1.out
  have hlt5 := (Array.getElem?_eq_some_iff.1 hr5).1
  have HM := Lib.hid (And.intro hm1 hm2)
  have HG := Lib.hid (And.intro hg1 hg2)
  have HY := Lib.hid (And.intro hy1 hy2)
  have HB15 := Lib.hid hb15
  have HR5 : Hid (∀ o, (w5.alloc o).heap[W.heap.size]? = some (.cells noChange 110 (0, 0))) := Lib.hid (fun o => (Below.heap_alloc _ _ _ hlt5).trans hr5)
  have q0 : ∀ o, (w5.alloc o).cell? ⟨W.heap.size, 0, none⟩ = some (.slice none 0 0) := fun o => by simp only [World.cell?]; rw [HR5.out o]; rfl
  have q1 : ∀ o, (w5.alloc o).cell? ⟨W.heap.size, 1, none⟩ = some (.slice none 0 0) := fun o => by simp only [World.cell?]; rw [HR5.out o]; rfl
  have q2 : ∀ o, (w5.alloc o).cell? ⟨W.heap.size, 2, none⟩ = some (.slice none 0 0) := fun o => by simp only [World.cell?]; rw [HR5.out o]; rfl
  have qf : ∀ o j, (w5.alloc o).frozen? ⟨W.heap.size, j, none⟩ = false := fun o j => by simp only [World.frozen?]; rw [HR5.out o]; rfl
  clear hm1 hm2 hg1 hg2 hy1 hy2 hb5 hb15 hr5 hlt5 HP
  go_wp2_with fail
  obtain ⟨t1, t2, t3⟩ := threeC (HR5.out (.cells #[.slice (some ⟨g2, 0, none⟩) m2 m2, .slice (some ⟨g1, 0, none⟩) m1 m1] 108)) rfl (.slice B m d) (.slice (some ⟨g2, 0, none⟩) m2 m2) (.slice (some ⟨g1, 0, none⟩) m1 m1)
  have ha : Below w5.heap.size w5 (w5.alloc (.cells #[.slice (some ⟨g2, 0, none⟩) m2 m2, .slice (some ⟨g1, 0, none⟩) m1 m1] 108)) := (Below.refl _ _).alloc (Nat.le_refl _) _
  have bw : Below W.heap.size W w5 := HB1.out.trans (HB15.out.mono HB1.out.size)
  have z1 := HS1.out
  have z2 := HB13.out.size
  have z3 := HB4.out.size
  have z4 := HG.out.1
  have z5 := HG.out.2
  refine bodyPost_ret (bod.results_note Tryz.results90 _ _ W.heap.size _ _ _ _ rfl t1 Tryz.underlying110 rfl (sizeC _ rfl)) rfl ⟨g1, m1, g2, m2, rfl, HM.out.1, HM.out.2, by omega, by omega, ?_, ?_, t3 _ _ (bw.trans (ha.mono bw.size)) (Nat.le_refl _)⟩
  · exact (HY.out.1.below HY.out.1.lt ha).kept fun ad e h0 => by cases e; exact t2 g1 (by omega)
  · exact (HY.out.2.below HY.out.2.lt ha).kept fun ad e h0 => by cases e; exact t2 g2 (by omega)
end Go.Proofs.YthhflkgngencdaaGreatDoor.sto
namespace Go.Proofs.YthhflkgngencdaaGreatDoor.lg
open Go.ChangeShapes Go.WideShapes Go.ChangeAt Go.RowKit
open Go.Proofs.YthhflkgngencdaaGreatDoor.codec (Bytes vals)
open Go.Proofs.YthhflkgngencdaaGreatDoor.bod (cell_at)
set_option linter.unusedVariables false
set_option maxRecDepth 100000
set_option linter.unusedSimpArgs false

/-- Octets that a call made. -/
def Made (W : World) (l : List Nat) (A : Option Addr) (m c : Nat) (w' : World) : Prop := Bytes w' A m l ∧ (A = none → c = 0) ∧ (∀ ad, A = some ad → W.heap.size ≤ ad.block) ∧ Below W.heap.size W w'
theorem eq_nil (w : World) (A : Option Addr) (n c : Nat) : (binOp .eql 40 (.slice A n c) (.slice none 0 0)).run Tryz.prog w = .ok (.bool A.isNone) w := by
  cases A with
  | none => exact Lib.run_eql_slice_nil w _ _ none n c 0 0 Tryz.underlying40
  | some ad => exact Lib.run_eql_slice_nil w _ _ (some ad) n c 0 0 Tryz.underlying40
set_option maxHeartbeats 1000000 in
theorem clone_any (W : World) (A : Option Addr) (n c : Nat) (l : List Nat) (hB : Bytes W A n l) (hA : A = none → c = 0) (hn : n ≤ 9000000) :
    Calls Tryz.prog 159 #[.slice A n c] W fun e w' => ∃ A' c', e = .returned (.slice A' n c') ∧ Made W l A' n c' w' := by
  have HB := Lib.hid hB
  cases A with
  | none =>
    have h0 : n = 0 := by
      by_cases h : 0 < n
      · obtain ⟨b, o, e, _⟩ := hB.2.2 h
        cases e
      · omega
    subst h0
    obtain rfl := hA rfl
    obtain rfl : l = [] := List.eq_nil_of_length_eq_zero hB.1
    clear hB hA
    have hen := fun w => eq_nil w none 0 0
    go_enter Tryz.func159, Tryz.ntmps159
    go_wp2
    go_ret
    exact ⟨none, 0, rfl, HB.out, fun _ => rfl, (fun ad e => by cases e), Below.refl _ _⟩
  | some ad =>
    clear hB hA
    have hen := fun w => eq_nil w (some ad) n c
    go_enter Tryz.func159, Tryz.ntmps159
    go_wp2_with (at_builtin; refine codec.wpList_append_bytes rfl (.tmp 5) (.tmp 6) rfl W.heap.size _ [] rfl (World.ownsRow_made W #[] 0 (Nat.le_refl _) (Nat.zero_le _) rfl) (by simp) (some ad) n c l rfl (HB.out.alloc _) (fun e => by cases e) (by simp; omega) ?_; intro v5 w5 ho hg hnn _; have HX5 := Lib.hid (And.intro ho (And.intro hg hnn)); clear ho hg hnn)
    go_ret
    obtain ⟨h1, h2, h3⟩ := HX5.out
    obtain ⟨g, cap, rfl, hg, hB5, hcap⟩ := frm.own_form h1 (fun e => by have := (h3.1 e).1; cases this) (by simpa using HB.out.2.1) (N := n) (by simpa using HB.out.1)
    exact ⟨some ⟨g, 0, none⟩, cap, rfl, by simpa using hB5, (fun e => by cases e), (fun ad e => by cases e; exact hg), ((Below.refl _ _).alloc (Nat.le_refl _) _).trans ⟨h2.os, h2.tape, h2.output, h2.size, fun k hk => h2.block k (by simp; omega) (fun e => by have := Option.some.inj e; simp at this; omega)⟩⟩
/-- The first messages. -/
def MSt (W : World) (zs : List Y) (k : Nat) (v : Value) (w : World) : Prop := ∃ qs, Own cM 4 W.heap.size 42 w v qs ∧ Below W.heap.size W w ∧ nts qs = (nts zs).take k ∧ qs.length ≤ k ∧ ∀ y ∈ qs, ∀ ad, y.A = some ad → W.heap.size ≤ ad.block
theorem MSt.start (W : World) (zs : List Y) : MSt W zs 0 (.slice none 0 0) W := ⟨[], Own.nil _ _ _ _ _, Below.refl _ _, rfl, Nat.le_refl _, by simp⟩
theorem MSt.more {W : World} {zs : List Y} {k : Nat} {v v' : Value} {w w' : World} {z : Y} {qs : List Y} {A : Option Addr} {m c p : Nat} (hx : zs[k]? = some z) (h1 : Own cM 4 W.heap.size 42 w v qs) (h2 : Below W.heap.size W w) (h3 : nts qs = (nts zs).take k) (h4 : qs.length ≤ k ∧ ∀ y ∈ qs, ∀ ad, y.A = some ad → W.heap.size ≤ ad.block) (hA : ∀ ad, A = some ad → W.heap.size ≤ ad.block) (ho : Own cM 4 W.heap.size 42 w' v' (qs ++ [⟨z.n, p, A, m, c⟩])) (hg : w.grownBy w' v.ownBlock) : MSt W zs (k + 1) v' w' :=
  ⟨_, ho, grown_below h2 h1 hg, by rw [take_next (nts_at hx), ← h3]; simp [nts], by simp; omega, fun y hy ad e => by
    rcases List.mem_append.1 hy with hy | hy
    · exact h4.2 y hy ad e
    · simp at hy
      subst hy
      exact hA ad e⟩
theorem short_oct {n : Nt} (h : n.ok) : n.o.length ≤ 20000 := (bod.formed_size h.1).2
end Go.Proofs.YthhflkgngencdaaGreatDoor.lg
namespace Go.Proofs.YthhflkgngencdaaGreatDoor.lg
open Go.ChangeShapes Go.WideShapes Go.ChangeAt Go.RowKit
open Go.Proofs.YthhflkgngencdaaGreatDoor.codec (Bytes vals)
open Go.Proofs.YthhflkgngencdaaGreatDoor.bod (cell_at)
set_option linter.unusedVariables false
set_option maxRecDepth 100000
set_option linter.unusedSimpArgs false

def yU (y : Y) (u : Nat) : Y := { y with n := withU y.n u }
theorem fl_set : ∀ (L : List Y) (k u : Nat) (y : Y), L[k]? = some y → (fl cM L).set (k * 4) (.int .u32 (u : Nat)) = fl cM (L.set k (yU y u))
  | [], k, u, y, h => by simp at h
  | z :: r, 0, u, y, h => by
    simp at h
    subst h
    rfl
  | z :: r, k + 1, u, y, h => by
    have ih := fl_set r k u y (by simpa using h)
    rw [show (k + 1) * 4 = k * 4 + 4 by omega]
    show _ :: _ :: _ :: _ :: (fl cM r).set (k * 4) _ = _
    rw [ih]
    rfl
end Go.Proofs.YthhflkgngencdaaGreatDoor.lg
namespace Go.Proofs.YthhflkgngencdaaGreatDoor.lg
open Go.ChangeShapes Go.WideShapes Go.ChangeAt Go.RowKit
open Go.Proofs.YthhflkgngencdaaGreatDoor.codec (Bytes vals)
open Go.Proofs.YthhflkgngencdaaGreatDoor.bod (cell_at Fit)
open Go.Proofs.YthhflkgngencdaaGreatDoor.frm (R X Reads Recs scan)
set_option linter.unusedVariables false
set_option maxRecDepth 100000
set_option linter.unusedSimpArgs false

end Go.Proofs.YthhflkgngencdaaGreatDoor.lg
namespace Go.Proofs.YthhflkgngencdaaGreatDoor.bod
open Go.ChangeShapes Go.WideShapes Go.ChangeAt Go.RowKit
open Go.Proofs.YthhflkgngencdaaGreatDoor.codec (Bytes bytesOf bytesOf_length strOf strOf_size numOf)
open Go.Proofs.YthhflkgngencdaaGreatDoor.frm (frameL frameL_length)
set_option linter.unusedVariables false
set_option linter.unusedSimpArgs false
set_option maxRecDepth 100000

theorem formed_kind {k : Int} {e u : Nat} {s : ByteArray} {d f : Int} {n : Nat} (h : formedB k e s u d f n = true) : 1 ≤ k ∧ k ≤ 3 := by
  by_cases h1 : k = 1
  · omega
  · by_cases h2 : k = 2
    · omega
    · by_cases h3 : k = 3
      · omega
      · rw [formed_other h1 h2 h3] at h
        cases h
/-- Encode of a formed note. -/
theorem encode_good (W : World) (k : Int) (e u : Nat) (s : ByteArray) (d f : Int) (A : Option Addr) (n c : Nat) (o P : List Nat) (N : Nat) (he : e < 4294967296) (hu : u < 4294967296) (hr : Fit W) (hB : Bytes W A n o) (hA : A = none → c = 0) (hf : formedB k e s u d f n = true) (hP : payL k e s u d f o = P) (hN : P.length = N) :
    Calls Tryz.prog 127 #[.agg #[.int .i64 k, .int .u32 e, .string s, .int .u32 u, .int .i64 d, .int .i64 f, .slice A n c]] W fun x w' => ∃ g, x = .returned (.tuple #[.slice (some ⟨g, 0, none⟩) N N, .int .i64 0]) ∧ Bytes w' (some ⟨g, 0, none⟩) N P ∧ Below W.heap.size W w' := by
  have hs := formed_size hf
  refine (encode_any W k e u s d f A n c o (by omega) he hu hr hB hA).mono ?_
  intro x w' h
  unfold EncAns at h
  rw [hB.1, if_pos hf] at h
  obtain ⟨g, N', rfl, h1, -, h2, h3⟩ := h
  rw [hP] at h1 h2
  obtain rfl : N' = N := by omega
  exact ⟨g, rfl, h2, h3⟩
theorem frame_any (W : World) (k e u : Nat) (s : ByteArray) (d f : Int) (A : Option Addr) (n c : Nat) (o P : List Nat) (N M : Nat) (he : e < 4294967296) (hu : u < 4294967296) (hr : Fit W) (hL : sumDoor.Laid W) (hB : Bytes W A n o) (hA : A = none → c = 0) (hf : formedB k e s u d f n = true) (hP : payL k e s u d f o = P) (hN : P.length = N) (hM : 44 + N = M) :
    Calls Tryz.prog 89 #[.agg #[.int .i64 k, .int .u32 e, .string s, .int .u32 u, .int .i64 d, .int .i64 f, .slice A n c]] W fun x w' => ∃ g, x = .returned (.tuple #[.slice (some ⟨g, 0, none⟩) M M, .int .i64 0]) ∧ Bytes w' (some ⟨g, 0, none⟩) M (frameL k P) ∧ Below W.heap.size W w' ∧ W.heap.size ≤ g := by
  have hk := formed_kind hf
  have hPl : N ≤ 20077 := by
    have hf2 := hf
    rw [← hB.1] at hf2
    have := payL_length hf2
    rw [hP] at this
    omega
  obtain ⟨cs, hcs⟩ : ∃ cs : Array Value, cs = #[.int .i64 k, .int .u32 e, .string s, .int .u32 u, .int .i64 d, .int .i64 f, .slice A n c] := ⟨_, rfl⟩
  obtain ⟨W1, hW1⟩ : ∃ W1, W1 = W.alloc (.cells cs 149) := ⟨_, rfl⟩
  have HCS := Lib.hid hcs
  have HBW := Lib.hid (show Below W.heap.size W W1 by rw [hW1]; exact (Below.refl _ _).alloc (Nat.le_refl _) _)
  have HBX := Lib.hid (fun (w1 : World) (h : Below W1.heap.size W1 w1) => (boxed (w := W) (o := .cells cs 149) (w1 := w1) (by rw [← hW1]; exact h)).1)
  have hE := encode_good W1 k e u s d f A n c o P N he hu (hr.below HBW.out) (hB.below hB.lt HBW.out) hA hf hP hN
  rw [← hcs] at hE
  have HE := Lib.hid hE
  have HF := Lib.hid (fun (w1 : World) (g : Nat) (h : Below W1.heap.size W1 w1) (hB1 : Bytes w1 (some ⟨g, 0, none⟩) N P) => frm.frame_good w1 k N N (some ⟨g, 0, none⟩) P (by omega) (by omega) hB1 (by omega) (Nat.le_refl _) (fun e => by cases e) (hL.below hL.lt (HBW.out.trans (h.mono HBW.out.size))))
  have HW1 := Lib.hid hW1
  have HLN := Lib.hid (show (frameL k P).length = M by rw [frameL_length]; omega)
  clear hE hcs hW1 hB hA hr hL he hu hf hP hN hM hk hPl
  go_enter Tryz.func89, Tryz.ntmps89
  go_wp2_with fail
  rw [← HCS.out, ← HW1.out]
  refine HE.out.mono ?_
  rintro x w1 ⟨g, rfl, hB1, hb1⟩
  have HB1 := Lib.hid hb1
  have HF1 := Lib.hid (HF.out w1 g hb1 hB1)
  have c0 := cell_at (HBX.out _ hb1) 0 _ (by rw [HCS.out]; rfl)
  clear hB1 hb1 HE HF
  go_wp2_with fail
  refine HF1.out.mono ?_
  rintro x w2 ⟨v, rfl, hM⟩
  obtain ⟨g2, rfl, h1, h2, h3⟩ := hM.bytes
  rw [HLN.out] at h3 ⊢
  have HX := Lib.hid (And.intro h3 (And.intro (HBW.out.trans ((HB1.out.trans (h2.mono HB1.out.size)).mono HBW.out.size)) (Nat.le_trans HBW.out.size (Nat.le_trans HB1.out.size h1))))
  clear hM h1 h2 h3
  go_wp2_with fail
  go_ret2
  exact ⟨g2, rfl, HX.out⟩
end Go.Proofs.YthhflkgngencdaaGreatDoor.bod
namespace Go.Proofs.YthhflkgngencdaaGreatDoor.lg
open Go.Proofs.YthhflkgngencdaaGreatDoor.frm (R scan allF recsF frameL frameL_length GoodF scan_frames scan_part scan_end)
open Go.Proofs.YthhflkgngencdaaGreatDoor.bod (formedB named fitsB emptyB payL)
set_option linter.unusedVariables false
set_option linter.unusedSimpArgs false
set_option maxRecDepth 100000

def frs (l : List Nt) : List (Nat × List Nat) := l.map fun n => (n.k, n.pay)

theorem pay_short {n : Nt} (h : n.ok) : n.pay.length ≤ 77 + n.o.length := by
  have hs := bod.formed_size h.1
  have := bod.payL_length h.1
  unfold Nt.pay
  unfold payL
  split
  · simp [codec.bytesOf_length, bod.txt_length]
    omega
  · split
    · simp [codec.bytesOf_length, bod.txt_length]
      omega
    · simp [codec.bytesOf_length]
      omega
theorem pay_le {n : Nt} (h : n.ok) : n.pay.length ≤ 20077 := by
  have := pay_short h
  have := short_oct h
  omega
/-- Notes that may be written. -/
def AllOk (ns : List Nt) : Prop := ∀ n ∈ ns, n.ok ∧ ∀ b ∈ n.o, b < 256
theorem AllOk.good {ns : List Nt} (h : AllOk ns) : GoodF (frs ns) := by
  intro f hf
  obtain ⟨n, hn, rfl⟩ := List.mem_map.1 hf
  obtain ⟨h1, h2⟩ := h n hn
  have hp := h1.parts
  have hl := pay_le h1
  exact ⟨hp.1, hp.2.1, by show n.pay.length ≤ 30000; omega, bod.payL_lt h2⟩
theorem recs_notes : ∀ {ns : List Nt} (i : Nat), AllOk ns → (notesR (recsF i (frs ns))).map Prod.fst = ns
  | [], i, _ => rfl
  | n :: r, i, h => by
    have ih := recs_notes (ns := r) (i + (44 + n.pay.length)) (fun m hm => h m (by simp [hm]))
    have hd := dec_back (h n (by simp)).1
    show (notesR (⟨i, n.k, n.pay⟩ :: recsF (i + (44 + n.pay.length)) (frs r))).map Prod.fst = _
    unfold notesR at *
    rw [List.filterMap_cons]
    have : noteOf ⟨i, n.k, n.pay⟩ = some (n, i) := by unfold noteOf; rw [hd]; rfl
    rw [this]
    simp only [List.map_cons]
    rw [ih]
theorem scan_whole {ns : List Nt} (h : AllOk ns) : scan (allF (frs ns)) 0 0 = (recsF 0 (frs ns), (allF (frs ns)).length) := by
  have := scan_frames (frs ns) [] [] (allF (frs ns)) (allF (frs ns)).length h.good (by simp) (by simp)
  simp only [List.length_nil] at this
  rw [this, scan_end _ _ _ (Nat.le_refl _)]
  simp
theorem ntsL_whole {ns : List Nt} (h : AllOk ns) : ntsL (allF (frs ns)) = ns := by
  unfold ntsL notesL
  rw [scan_whole h]
  exact recs_notes 0 h
theorem scan_torn {ns : List Nt} (h : AllOk ns) {t : Nt} (ht : t.ok) (j : Nat) (hj : j < 44 + t.pay.length) : scan (allF (frs ns) ++ (frameL t.k t.pay).take j) 0 0 = (recsF 0 (frs ns), (allF (frs ns)).length) := by
  have h1 := scan_frames (frs ns) [] ((frameL t.k t.pay).take j) (allF (frs ns) ++ (frameL t.k t.pay).take j) (allF (frs ns)).length h.good (by simp) (by simp)
  have hp := ht.parts
  have h2 := scan_part (allF (frs ns)) t.k t.pay j (allF (frs ns) ++ (frameL t.k t.pay).take j) hp.1 hp.2.1 (by have := pay_le ht; omega) hj rfl
  simp only [List.length_nil] at h1
  rw [h1, h2]
  simp
/-! A mailbox that may be written. -/
end Go.Proofs.YthhflkgngencdaaGreatDoor.lg
namespace Go.Proofs.YthhflkgngencdaaGreatDoor.sto
open Go.ChangeShapes Go.WideShapes Go.ChangeAt Go.RowKit
open Go.Proofs.YthhflkgngencdaaGreatDoor.codec (Bytes vals vals_length)
open Go.Proofs.YthhflkgngencdaaGreatDoor.row
open Go.Proofs.YthhflkgngencdaaGreatDoor.bod (Fit formedB payL named)
open Go.Proofs.YthhflkgngencdaaGreatDoor.frm (frameL allF)
open Go.Proofs.YthhflkgngencdaaGreatDoor.lg (Y Nt cL pick livB notesL ntsL nmL epo nxt top cl lives frs AllOk)
open Go.Proofs.YthhflkgngencdaaGreatDoor.idx (E cE fE eI fI okE indexB indexL flsB flsL)
set_option linter.unusedVariables false
set_option maxRecDepth 100000
set_option linter.unusedSimpArgs false

/-- The note of a box that there was never before. -/
def nb (s : ByteArray) : Nt := ⟨1, 1, s, 0, 0, 0, []⟩
/-- A piece at a block of its own. -/
def pc (g : Nat) (l : List Nat) : Pc := ⟨some ⟨g, 0, none⟩, l.length, l.length, l⟩
theorem rd_row1 {w : World} {r : Nat} {x : Pc} (h : w.heap[r]? = some (.cells #[.slice x.A x.n x.c] 40 (0, 0))) : row.Rd cP 1 w (some ⟨r, 0, none⟩) 1 [x] := by
  refine ⟨rfl, fun i hi => ?_⟩
  obtain rfl : i = 0 := by omega
  refine ⟨r, 0, x, rfl, rfl, fun j v hv => ?_⟩
  rcases j with _ | j
  · simp [cP] at hv
    subst hv
    simp only [World.cell?]
    rw [h]
    rfl
  · simp [cP] at hv
theorem nb_ok {s : ByteArray} (h : named s = true) : (nb s).ok := by
  refine ⟨?_, (by show (1 : Nat) < _; decide), (by show (0 : Nat) < _; decide)⟩
  simp [nb, formedB, h, bod.emptyB]
def BeginAns (W : World) (L I F : List Nat) (e : Ending) (w' : World) : Prop :=
  ∃ r gf g1 g2, e = .returned (.tuple #[.agg #[.slice (some ⟨r, 0, none⟩) 1 1, .slice (some ⟨g2, 0, none⟩) F.length F.length, .slice (some ⟨g1, 0, none⟩) I.length I.length], .int .i64 0]) ∧
    w'.heap[r]? = some (.cells #[.slice (some ⟨gf, 0, none⟩) L.length L.length] 40 (0, 0)) ∧ Lies w' (pc gf L) ∧ W.heap.size ≤ r ∧ W.heap.size ≤ gf ∧ W.heap.size ≤ g1 ∧ W.heap.size ≤ g2 ∧ Bytes w' (some ⟨g1, 0, none⟩) I.length I ∧ Bytes w' (some ⟨g2, 0, none⟩) F.length F ∧ Below W.heap.size W w'
theorem page_len (k : Nat) (l : List Nat) : (pg.pageL k l).length = l.length + 12 := by
  rw [pg.pageL_length]
  omega
set_option maxHeartbeats 2000000 in
theorem beginning_good (W : World) (A : Option Addr) (n c : Nat) (l0 : List Nat) (hB : Bytes W A n l0) (hc : n ≤ c) (hnil : A = none → c = 0) (s : ByteArray) (hs : named s = true) (l : List Nat) (hl : l = l0 ++ frameL 1 (nb s).pay) (hn : l.length ≤ 1000000) (hL : sumDoor.Laid W) (hr : Fit W) (hg : GoodL l []) :
    Calls Tryz.prog 51 #[.slice A n c, .string s] W fun e w' => BeginAns W (frameL 1 (nb s).pay) (pg.pageL 1 (idxOf l)) (pg.pageL 2 (flsOf l [])) e w' := by
  obtain ⟨W1, hW1⟩ : ∃ W1, W1 = W.alloc (.cells noChange 110) := ⟨_, rfl⟩
  have hb1 : Below W.heap.size W W1 := by rw [hW1]; exact (Below.refl _ _).alloc (Nat.le_refl _) _
  have hs1 : W1.heap.size = W.heap.size + 1 := by rw [hW1]; simp
  have hg1 : W1.heap[W.heap.size]? = some (.cells noChange 110 (0, 0)) := by rw [hW1]; exact heap_alloc_new W _
  have hfl : (frameL 1 (nb s).pay).length = 44 + (nb s).pay.length := by rw [frm.frameL_length]
  generalize hP : (nb s).pay = P at *
  have HF := Lib.hid (bod.frame_any W1 1 1 0 s 0 0 none 0 0 [] P P.length (frameL 1 P).length (by decide) (by decide) (hr.below hb1) (hL.below hL.lt hb1) ⟨rfl, by simp, fun h => by omega⟩ (fun _ => rfl) (nb_ok hs).1 hP rfl (by rw [hfl]))
  have HC : Hid (∀ w2 gf, Below W1.heap.size W1 w2 → W1.heap.size ≤ gf → Bytes w2 (some ⟨gf, 0, none⟩) (frameL 1 P).length (frameL 1 P) → Calls Tryz.prog 90 #[.slice A n c, .slice (some ⟨w2.heap.size, 0, none⟩) 1 1, .slice none 0 0] (w2.alloc (.cells #[.slice (some ⟨gf, 0, none⟩) (frameL 1 P).length (frameL 1 P).length] 40)) fun e w' => ChangeAns (w2.alloc (.cells #[.slice (some ⟨gf, 0, none⟩) (frameL 1 P).length (frameL 1 P).length] 40)) (some ⟨w2.heap.size, 0, none⟩) 1 1 (idxOf l) (flsOf l []) e w') := Lib.hid (fun w2 gf hb2 hgf hbf => by
    have ha : Below w2.heap.size w2 (w2.alloc (.cells #[.slice (some ⟨gf, 0, none⟩) (frameL 1 P).length (frameL 1 P).length] 40)) := (Below.refl _ _).alloc (Nat.le_refl _) _
    have hbw : Below W.heap.size W w2 := hb1.trans (hb2.mono hb1.size)
    have hbx : Below W.heap.size W (w2.alloc (.cells #[.slice (some ⟨gf, 0, none⟩) (frameL 1 P).length (frameL 1 P).length] 40)) := hbw.trans (ha.mono hbw.size)
    have hall : all [pc gf (frameL 1 P)] = frameL 1 P := by simp [all, pc]
    refine changeOf_good _ A n c l0 (hB.below hB.lt hbx) hc hnil _ 1 1 [pc gf (frameL 1 P)] (rd_row1 (heap_alloc_new w2 _)) (fun p hp => ?_) none 0 0 [] (row.Rd.empty _) (by omega) (fun e he => by cases he) l (by rw [hall]; exact hl) hn (by omega) (by rw [hall]; exact hbf.2.1) (hL.below hL.lt hbx) (hr.below hbx) hg
    simp at hp
    subst hp
    exact (show Lies w2 (pc gf (frameL 1 P)) from ⟨hbf, Nat.le_refl _, fun e => by cases e⟩).below ha)
  have HW1 := Lib.hid (show W.alloc (.cells #[.slice none 0 0, .slice none 0 0, .slice none 0 0] 110) = W1 from hW1.symm)
  have HB1 := Lib.hid hb1
  have HS1 := Lib.hid hs1
  have HG1 := Lib.hid hg1
  have HPI := Lib.hid (page_len 1 (idxOf l))
  have HPF := Lib.hid (page_len 2 (flsOf l []))
  generalize hI : pg.pageL 1 (idxOf l) = I at *
  generalize hFq : pg.pageL 2 (flsOf l []) = F at *
  have HIq := Lib.hid hI
  have HFq := Lib.hid hFq
  clear hP hI hFq hW1 hb1 hs1 hg1 hB hc hnil hs hl hn hL hr hg hfl
  generalize frameL 1 P = L at *
  go_enter Tryz.func51, Tryz.ntmps51
  go_wp2_with fail
  rw [HW1.out]
  refine HF.out.mono ?_
  rintro e w2 ⟨gf, rfl, hbf, hb2, hgf⟩
  have HC2 := Lib.hid (HC.out w2 gf hb2 hgf hbf)
  have HB2 := Lib.hid hb2
  have HBF := Lib.hid hbf
  have HGF := Lib.hid hgf
  clear hbf hb2 hgf HC
  go_wp2_with fail
  refine HC2.out.mono ?_
  rintro e w5 ⟨g1, m1, g2, m2, rfl, hm1, hm2, hg1, hg2, hy1, hy2, hb5⟩
  have ha : Below w2.heap.size w2 (w2.alloc (.cells #[.slice (some ⟨gf, 0, none⟩) L.length L.length] 40)) := (Below.refl _ _).alloc (Nat.le_refl _) _
  have hz : (w2.alloc (.cells #[.slice (some ⟨gf, 0, none⟩) L.length L.length] 40)).heap.size = w2.heap.size + 1 := by simp
  have hb25 : Below w2.heap.size w2 w5 := ha.trans (hb5.mono (by rw [hz]; exact Nat.le_succ _))
  have hb15 : Below W1.heap.size W1 w5 := HB2.out.trans (hb25.mono HB2.out.size)
  have hr5 : w5.heap[W.heap.size]? = some (.cells noChange 110 (0, 0)) := (hb15.block W.heap.size (by rw [HS1.out]; omega)).trans HG1.out
  have hrow : w5.heap[w2.heap.size]? = some (.cells #[.slice (some ⟨gf, 0, none⟩) L.length L.length] 40 (0, 0)) := (hb5.block _ (by rw [hz]; omega)).trans (heap_alloc_new w2 _)
  obtain rfl : m1 = I.length := by rw [HPI.out]; exact hm1
  obtain rfl : m2 = F.length := by rw [HPF.out]; exact hm2
  rw [HIq.out] at hy1
  rw [HFq.out] at hy2
  have HG := Lib.hid (And.intro hg1 hg2)
  have HY := Lib.hid (And.intro hy1 hy2)
  have HB15 := Lib.hid hb15
  have HB25 := Lib.hid hb25
  have HR5 := Lib.hid hr5
  have HRow := Lib.hid hrow
  have HZ := Lib.hid hz
  have q0 : w5.cell? ⟨W.heap.size, 0, none⟩ = some (.slice none 0 0) := by simp only [World.cell?]; rw [HR5.out]; rfl
  have q1 : w5.cell? ⟨W.heap.size, 1, none⟩ = some (.slice none 0 0) := by simp only [World.cell?]; rw [HR5.out]; rfl
  have q2 : w5.cell? ⟨W.heap.size, 2, none⟩ = some (.slice none 0 0) := by simp only [World.cell?]; rw [HR5.out]; rfl
  have qf : ∀ j, w5.frozen? ⟨W.heap.size, j, none⟩ = false := fun j => by simp only [World.frozen?]; rw [HR5.out]; rfl
  clear hm1 hm2 hg1 hg2 hy1 hy2 hb5 hb15 hb25 hr5 hrow ha hz HC2
  go_wp2_with fail
  obtain ⟨t1, t2, t3⟩ := threeC HR5.out rfl (.slice (some ⟨w2.heap.size, 0, none⟩) 1 1) (.slice (some ⟨g2, 0, none⟩) F.length F.length) (.slice (some ⟨g1, 0, none⟩) I.length I.length)
  have bw : Below W.heap.size W w5 := HB1.out.trans (HB15.out.mono HB1.out.size)
  have z1 := HS1.out
  have z2 := HB2.out.size
  have z4 := HG.out.1
  have z5 := HG.out.2
  have z6 := HGF.out
  have z7 := HZ.out
  have z8 := HBF.out.lt ⟨gf, 0, none⟩ rfl
  have hbf5 := HBF.out.below HBF.out.lt HB25.out
  refine bodyPost_ret (bod.results_note Tryz.results51 _ _ W.heap.size _ _ _ _ rfl t1 Tryz.underlying110 rfl (sizeC _ rfl)) rfl ⟨w2.heap.size, gf, g1, g2, rfl, ?_, ⟨?_, Nat.le_refl _, fun e => by cases e⟩, by omega, by omega, by omega, by omega, ?_, ?_, t3 _ _ bw (Nat.le_refl _)⟩
  · rw [t2 _ (by omega)]
    exact HRow.out
  · exact hbf5.kept fun ad e h0 => by cases e; exact t2 gf (by omega)
  · exact HY.out.1.kept fun ad e h0 => by cases e; exact t2 g1 (by omega)
  · exact HY.out.2.kept fun ad e h0 => by cases e; exact t2 g2 (by omega)
end Go.Proofs.YthhflkgngencdaaGreatDoor.sto
