/- A store is made. -/
import Derived.Test.YthhflkgngencdaaGreatDoorMa15
import Derived.Test.YthhflkgngencdaaGreatDoorMa18
import Derived.Deep.RegionHeld3
import Derived.Test.YthhflkgngencdaaGreatDoorMa03
import Derived.Test.YthhflkgngencdaaGreatDoorMa17
import Derived.Test.YthhflkgngencdaaGreatDoorRows
import Derived.ProofKit
import Derived.LaidMore
import Derived.OpenShut
import Derived.Stop.Joined
import Derived.Lay
import Derived.SevenTiedAt
import Derived.SizedLaws
import Derived.ShutString
import Derived.Shelf.Vars
import Derived.Test.YthhflkgngencdaaGreatDoorMa06
import Derived.Lib.AppendIntMem
import Derived.Lib.LaidTab
import Derived.LaidSub
import Derived.MakeChecks
import Derived.Test.YthhflkgngencdaaGreatDoorMa08
namespace Go.Proofs.YthhflkgngencdaaGreatDoor.sto
open Go.Proofs.YthhflkgngencdaaGreatDoor.codec (Bytes)
open Go.Proofs.YthhflkgngencdaaGreatDoor.row
open Go.Proofs.YthhflkgngencdaaGreatDoor.bod (Fit named)
open Go.ChangeShapes Go.WideShapes Go.ChangeAt Go.RowKit Go.Maps Go.WideMaps Go.Sort Go.Shelf
open Go.Proofs.YthhflkgngencdaaGreatDoor.dis (Dsk Cfg FM File Foot Now Does Listed fAppend fSync fRename nameB fileAt lenAt upd allSafe)
set_option linter.unusedVariables false
set_option maxRecDepth 100000
set_option linter.unusedSimpArgs false

theorem lay_ok {ws w : World} {F : Nat → Prop} {base p : Nat} {c : Cfg} {fm : FM} {N M : Nat} (h : Kept ws F base p c fm N w) (hcalm : Calm c) (hnew : fm nwK = none) (hM : ∀ s f, fm s = some f → f.l.length ≤ M)
    (s : ByteArray) (hs : nameB s.data.toList = true) (hsz : s.size ≤ 40) (hne : nwK ≠ s.data.toList) (B : Option Addr) (m cb : Nat) (L : List Nat) (hL : Bytes w B m L) (hbe : Beside ws F B m) (hnil : B = none → cb = 0) (hmc : m ≤ cb) (hN : N + 3 < 1000000) (hbound : M + m ≤ 1000000) (hroom : c.used + L.length ≤ c.cap) :
    Calls Tryz.prog 15 #[.pointer (some ⟨p, 0, none⟩), .string s, .slice B m cb] w fun e w' => e = .returned (.int .i64 0) ∧ Kept ws F base p (withU c (c.used + L.length - lenAt fm s.data.toList)) (upd fm s.data.toList (allSafe L)) (N + 3) w' := by
  have hl := hL.1
  have hla : lenAt fm s.data.toList ≤ M := by rw [len_at]; exact dis.fileAt_bound hM
  have := lay_any h hnew hM s (by omega) B m cb L hL hbe hnil hmc hN hbound
  rw [lay_calm hcalm hnew hs hne hroom (by omega) (by omega)] at this
  exact this
/-- A store in memory, on a disk. -/
structure Stor (ws : World) (F : Nat → Prop) (base p : Nat) (c : Cfg) (fm : FM) (N ps : Nat) (pl : List idx.P) (w : World) : Prop where
  ex : ∃ mb D A n cp, Dsk w base p mb D c fm N ∧ (∀ j, Foot p mb D j → F j ∨ ws.heap.size ≤ j) ∧ w.heap[ps]? = some (.cells #[.pointer (some ⟨p, 0, none⟩), .slice A n cp] 66 (0, 0)) ∧ row.Rd idx.cP 2 w A n pl ∧ n ≤ cp ∧ ¬ Foot p mb D ps ∧ (∀ ad, A = some ad → 0 < n → ad.block < w.heap.size ∧ ¬ Foot p mb D ad.block ∧ ad.block ≠ ps)
  ht : codec.Touch F ws w
def fmI (fm : FM) : FM := upd (upd (upd (upd fm (lgK 0) (allSafe (beginL inbS))) (ixK 0) (allSafe (pg.pageL 1 (idxOf (beginL inbS))))) (fgK 0) (allSafe (pg.pageL 2 (flsOf (beginL inbS) [])))) trK (allSafe treeI)
def MadeAns (ws : World) (F : Nat → Prop) (base p : Nat) (c : Cfg) (fm : FM) (N : Nat) (e : Ending) (w' : World) : Prop :=
  (c.cap < 127 ∧ e = .returned (.tuple #[.pointer none, .int .i64 4]) ∧ Kept ws F base p c fm N w') ∨
  (127 ≤ c.cap ∧ ∃ ps, ws.heap.size ≤ ps ∧ e = .returned (.tuple #[.pointer (some ⟨ps, 0, none⟩), .int .i64 0]) ∧ Stor ws F base p (withU c 127) (fmI fm) (N + 12) ps [⟨0, inbS⟩] w')
theorem upd_bound' {fm : FM} {s : List UInt8} {L : List Nat} {M : Nat} (hM : ∀ x f, fm x = some f → f.l.length ≤ M) (hL : L.length ≤ M) : ∀ x f, upd fm s (allSafe L) x = some f → f.l.length ≤ M := dis.upd_bound hM hL
theorem rd_place1 {w : World} {r : Nat} {x : idx.P} (h : w.heap[r]? = some (.cells #[.int .i64 x.n, .string x.s] 100 (0, 0))) : row.Rd idx.cP 2 w (some ⟨r, 0, none⟩) 1 [x] := by
  refine ⟨rfl, fun i hi => ?_⟩
  obtain rfl : i = 0 := by omega
  refine ⟨r, 0, x, rfl, rfl, fun j v hv => ?_⟩
  rcases j with _ | _ | j
  · simp [idx.cP] at hv
    subst hv
    simp only [World.cell?]
    rw [h]
    rfl
  · simp [idx.cP] at hv
    subst hv
    simp only [World.cell?]
    rw [h]
    rfl
  · simp [idx.cP] at hv
/-- What the disk's part of it does. -/
theorem madeDisk {w w6 : World} {base p : Nat} {mb : Option Nat} {D : DataW Value} {c : Cfg} {fm : FM} {N r gf g1 g2 gt : Nat} (hd : Dsk w base p mb D c fm N) (hb : Below w.heap.size w w6) (hcalm : Calm c) (hu : c.used = 0) (hfm : ∀ s, fm s = none) (hN : N ≤ 100) (hcap : 127 ≤ c.cap)
    (hr : w6.heap[r]? = some (.cells #[.slice (some ⟨gf, 0, none⟩) (beginL inbS).length (beginL inbS).length] 40 (0, 0))) (hl : Lies w6 (pc gf (beginL inbS))) (h0 : w.heap.size ≤ r) (h1 : w.heap.size ≤ gf) (h2 : w.heap.size ≤ g1) (h3 : w.heap.size ≤ g2) (h4 : w.heap.size ≤ gt)
    (hI : Bytes w6 (some ⟨g1, 0, none⟩) 33 (pg.pageL 1 (idxOf (beginL inbS)))) (hF : Bytes w6 (some ⟨g2, 0, none⟩) 18 (pg.pageL 2 (flsOf (beginL inbS) []))) (hT : Bytes w6 (some ⟨gt, 0, none⟩) 21 treeI) :
    ∃ c1 c2 c3 fm1 fm2 fm3,
      (Calls Tryz.prog 54 #[.agg #[.slice (some ⟨r, 0, none⟩) 1 1, .slice (some ⟨g2, 0, none⟩) 18 18, .slice (some ⟨g1, 0, none⟩) 33 33], .pointer (some ⟨p, 0, none⟩), .int .i64 0] w6 fun e w' => e = .returned (.int .i64 0) ∧ Kept w6 (Foot p mb D) base p c1 fm1 (N + 2) w') ∧
      (∀ wr, Kept w6 (Foot p mb D) base p c1 fm1 (N + 2) wr → Calls Tryz.prog 15 #[.pointer (some ⟨p, 0, none⟩), .string (idxN 0), .slice (some ⟨g1, 0, none⟩) 33 33] wr fun e w' => e = .returned (.int .i64 0) ∧ Kept w6 (Foot p mb D) base p c2 fm2 (N + 5) w') ∧
      (∀ wr, Kept w6 (Foot p mb D) base p c2 fm2 (N + 5) wr → Calls Tryz.prog 15 #[.pointer (some ⟨p, 0, none⟩), .string (flgN 0), .slice (some ⟨g2, 0, none⟩) 18 18] wr fun e w' => e = .returned (.int .i64 0) ∧ Kept w6 (Foot p mb D) base p c3 fm3 (N + 8) w') ∧
      (∀ wr, Kept w6 (Foot p mb D) base p c3 fm3 (N + 8) wr → Calls Tryz.prog 15 #[.pointer (some ⟨p, 0, none⟩), .string ⟨#[116, 114, 101, 101]⟩, .slice (some ⟨gt, 0, none⟩) 21 21] wr fun e w' => e = .returned (.int .i64 0) ∧ Kept w6 (Foot p mb D) base p (withU c 127) (fmI fm) (N + 11) w') := by
  have hnf : ∀ {g n : Nat} {l : List Nat}, w.heap.size ≤ g → Bytes w6 (some ⟨g, 0, none⟩) n l → Beside w6 (Foot p mb D) (some ⟨g, 0, none⟩) n := fun hg hB ad e h0 => by
    have := hB.lt ad e h0
    cases e
    refine ⟨this, fun hh => ?_⟩
    have := (hd.foot_lt _ hh).2
    simp only at this
    omega
  have hK0 : Kept w6 (Foot p mb D) base p c fm N w6 := Kept.start (hd.below hb)
  have hcap1 := hcalm.c1
  have l1 : (beginL inbS).length = 55 := by rw [begin_len]; rfl
  have l2 : (pg.pageL 1 (idxOf (beginL inbS))).length = 33 := by rw [begin_idx named_inb]; rfl
  have l3 : (pg.pageL 2 (flsOf (beginL inbS) [])).length = 18 := begin_fls named_inb
  have l4 := treeI_len
  have hall : all [pc gf (beginL inbS)] = beginL inbS := by simp [all, pc]
  have hB0 : ∀ x f, fm x = some f → f.l.length ≤ 100 := fun x f e => by rw [hfm x] at e; cases e
  have hn1 : nwK ≠ lgK 0 := by decide
  have hn2 : nwK ≠ ixK 0 := by decide
  have hn3 : nwK ≠ fgK 0 := by decide
  have hn4 : nwK ≠ trK := by decide
  have hG := grow_any hK0 hcalm hB0 0 (by omega) (some ⟨r, 0, none⟩) 1 1 [pc gf (beginL inbS)] (rd_row1 hr) (fun q hq => by simp at hq; subst hq; exact hl) (fun ad e hz => by
      cases e
      refine ⟨(Array.getElem?_eq_some_iff.1 hr).1, fun hh => ?_⟩
      have := (hd.foot_lt _ hh).2
      simp only at this
      omega) (fun q hq => by
      simp at hq
      subst hq
      exact hnf h1 hl.1) (by omega) (by omega) (by rw [hall, l1, hu]; omega) (by rw [hall, l1]; omega) (some ⟨g1, 0, none⟩) (some ⟨g2, 0, none⟩) 33 33 18 18
  rw [hall, hu, l1] at hG
  have hf0 : fileAt fm (lgK 0) = ⟨[], 0, false⟩ := by simp [fileAt, hfm]
  have e1 : fmG fm (lgK 0) (beginL inbS) 1 = upd fm (lgK 0) (allSafe (beginL inbS)) := by
    unfold fmG
    rw [if_neg (by decide), hf0]
    rfl
  rw [e1] at hG
  have hb1 := upd_bound' (s := lgK 0) hB0 (L := beginL inbS) (by omega)
  have hb2 := upd_bound' (s := ixK 0) hb1 (L := pg.pageL 1 (idxOf (beginL inbS))) (by omega)
  have hb3 := upd_bound' (s := fgK 0) hb2 (L := pg.pageL 2 (flsOf (beginL inbS) [])) (by omega)
  have w1 := hcalm.withU (u := 0 + (55 : Nat)) (by omega) (by omega)
  refine ⟨withU c (0 + (55 : Nat)), withU c 88, withU c 106, _, upd (upd fm (lgK 0) (allSafe (beginL inbS))) (ixK 0) (allSafe (pg.pageL 1 (idxOf (beginL inbS)))), upd (upd (upd fm (lgK 0) (allSafe (beginL inbS))) (ixK 0) (allSafe (pg.pageL 1 (idxOf (beginL inbS))))) (fgK 0) (allSafe (pg.pageL 2 (flsOf (beginL inbS) []))), hG, fun wr hk => ?_, fun wr hk => ?_, fun wr hk => ?_⟩
  · have := lay_ok hk w1 (by rw [upd_other _ _ hn1]; exact hfm _) hb1 (idxN 0) (by decide) (by decide) hn2 (some ⟨g1, 0, none⟩) 33 33 _ (hk.bytes hI (fun ad e hz => (hnf h2 hI ad e hz).2)) (hnf h2 hI) (fun e => by cases e) (Nat.le_refl _) (by omega) (by omega) (by rw [l2]; show (0 : Int) + (55 : Nat) + (33 : Nat) ≤ c.cap; omega)
    rw [show (idxN 0).data.toList = ixK 0 from rfl, l2, show lenAt (upd fm (lgK 0) (allSafe (beginL inbS))) (ixK 0) = 0 by unfold lenAt; rw [upd_other _ _ (by decide), hfm]; rfl] at this
    exact this
  · have := lay_ok hk (hcalm.withU (u := 88) (by omega) (by omega)) (by rw [upd_other _ _ hn2, upd_other _ _ hn1]; exact hfm _) hb2 (flgN 0) (by decide) (by decide) hn3 (some ⟨g2, 0, none⟩) 18 18 _ (hk.bytes hF (fun ad e hz => (hnf h3 hF ad e hz).2)) (hnf h3 hF) (fun e => by cases e) (Nat.le_refl _) (by omega) (by omega) (by rw [l3]; show (88 : Int) + (18 : Nat) ≤ c.cap; omega)
    rw [show (flgN 0).data.toList = fgK 0 from rfl, l3, show lenAt (upd (upd fm (lgK 0) (allSafe (beginL inbS))) (ixK 0) (allSafe (pg.pageL 1 (idxOf (beginL inbS))))) (fgK 0) = 0 by unfold lenAt; rw [upd_other _ _ (by decide), upd_other _ _ (by decide), hfm]; rfl] at this
    exact this
  · have := lay_ok hk (hcalm.withU (u := 106) (by omega) (by omega)) (by rw [upd_other _ _ hn3, upd_other _ _ hn2, upd_other _ _ hn1]; exact hfm _) hb3 ⟨#[116, 114, 101, 101]⟩ (by decide) (by decide) hn4 (some ⟨gt, 0, none⟩) 21 21 _ (hk.bytes hT (fun ad e hz => (hnf h4 hT ad e hz).2)) (hnf h4 hT) (fun e => by cases e) (Nat.le_refl _) (by omega) (by omega) (by rw [l4]; show (106 : Int) + (21 : Nat) ≤ c.cap; omega)
    rw [show (⟨#[116, 114, 101, 101]⟩ : ByteArray).data.toList = trK from rfl, l4, show lenAt (upd (upd (upd fm (lgK 0) (allSafe (beginL inbS))) (ixK 0) (allSafe (pg.pageL 1 (idxOf (beginL inbS))))) (fgK 0) (allSafe (pg.pageL 2 (flsOf (beginL inbS) [])))) trK = 0 by unfold lenAt; rw [upd_other _ _ (by decide), upd_other _ _ (by decide), upd_other _ _ (by decide), hfm]; rfl] at this
    exact this
end Go.Proofs.YthhflkgngencdaaGreatDoor.sto
namespace Go.Proofs.YthhflkgngencdaaGreatDoor.sto
open Go.Proofs.YthhflkgngencdaaGreatDoor.codec (Bytes)
open Go.Proofs.YthhflkgngencdaaGreatDoor.row
open Go.Proofs.YthhflkgngencdaaGreatDoor.bod (Fit named cell_at)
open Go.ChangeShapes Go.WideShapes Go.ChangeAt Go.RowKit Go.Maps Go.WideMaps Go.Sort Go.Shelf
open Go.Proofs.YthhflkgngencdaaGreatDoor.dis (Dsk Cfg FM File Foot Now Does Listed fAppend fSync fRename nameB fileAt lenAt upd allSafe)
set_option linter.unusedVariables false
set_option maxRecDepth 100000
set_option linter.unusedSimpArgs false

def chgI (r g1 g2 : Nat) : Array Value := #[.slice (some ⟨r, 0, none⟩) 1 1, .slice (some ⟨g2, 0, none⟩) 18 18, .slice (some ⟨g1, 0, none⟩) 33 33]
set_option maxHeartbeats 4000000 in
theorem made_any {ws w : World} {F : Nat → Prop} {base p : Nat} {c : Cfg} {fm : FM} {N : Nat} (h : Kept ws F base p c fm N w) (hcalm : Calm c) (hu : c.used = 0) (hfm : ∀ s, fm s = none) (hN : N ≤ 100) (hL : sumDoor.Laid w) (hr : Fit w) :
    Calls Tryz.prog 22 #[.pointer (some ⟨p, 0, none⟩)] w fun e w' => MadeAns ws F base p c fm N e w' := by
  obtain ⟨mb, D, hd, hf⟩ := h.ex
  obtain ⟨w1, hw1⟩ : ∃ w1, w1 = w.alloc (.cells #[.int .i64 0, .string inbS] 100) := ⟨_, rfl⟩
  have hb1 : Below w.heap.size w w1 := by rw [hw1]; exact (Below.refl _ _).alloc (Nat.le_refl _) _
  have hp1 : w1.heap[w.heap.size]? = some (.cells #[.int .i64 0, .string inbS] 100 (0, 0)) := by rw [hw1]; exact heap_alloc_new w _
  have hpl := (Array.getElem?_eq_some_iff.1 hp1).1
  have l1 : (beginL inbS).length = 55 := by rw [begin_len]; rfl
  have l2 : (pg.pageL 1 (idxOf (beginL inbS))).length = 33 := by rw [begin_idx named_inb]; rfl
  have l3 : (pg.pageL 2 (flsOf (beginL inbS) [])).length = 18 := begin_fls named_inb
  have hBG := beginning_good w1 none 0 0 [] ⟨rfl, by simp, fun h => by omega⟩ (Nat.le_refl _) (fun _ => rfl) inbS named_inb (beginL inbS) rfl (by rw [l1]; omega) (hL.below hL.lt hb1) (hr.below hb1) (good_begin named_inb)
  have HPT : Hid (∀ w3, Below w1.heap.size w1 w3 → Calls Tryz.prog 52 #[.slice (some ⟨w.heap.size, 0, none⟩) 1 1] w3 fun e w' => ∃ gt, e = .returned (.tuple #[.slice (some ⟨gt, 0, none⟩) 21 21, .int .i64 0]) ∧ w3.heap.size ≤ gt ∧ Bytes w' (some ⟨gt, 0, none⟩) 21 treeI ∧ Below w3.heap.size w3 w') := Lib.hid (fun w3 hb3 => by
    have hb : Below w.heap.size w w3 := hb1.trans (hb3.mono hb1.size)
    refine (idx.putTree_good w3 _ 1 1 [⟨0, inbS⟩] (rd_place1 ((hb3.block _ hpl).trans hp1)) (by omega) (hr.below hb).room treeI_ok).mono ?_
    rintro e w' ⟨g, m, rfl, hm, hg, hB, hb'⟩
    have hm21 : m = 21 := by
      have := hB.1
      rw [← this]
      exact treeI_len
    subst hm21
    exact ⟨g, rfl, hg, hB, hb'⟩)
  have HSZ : Hid (∀ w5 r gf g1 g2, w5.heap[r]? = some (.cells #[.slice (some ⟨gf, 0, none⟩) (beginL inbS).length (beginL inbS).length] 40 (0, 0)) → Lies w5 (pc gf (beginL inbS)) → Calls Tryz.prog 53 #[.agg #[.slice (some ⟨r, 0, none⟩) 1 1, .slice (some ⟨g2, 0, none⟩) 18 18, .slice (some ⟨g1, 0, none⟩) 33 33]] w5 fun e w' => e = .returned (.int .i64 106) ∧ Below w5.heap.size w5 w') := Lib.hid (fun w5 r gf g1 g2 hrow hly => by
    have hall : all [pc gf (beginL inbS)] = beginL inbS := by simp [all, pc]
    have := size_any w5 (some ⟨r, 0, none⟩) 1 1 [pc gf (beginL inbS)] (rd_row1 hrow) (fun q hq => by simp at hq; subst hq; exact hly) (by omega) (by rw [hall, l1]; omega) (by rw [hall]; exact hly.1.2.1) (some ⟨g1, 0, none⟩) (some ⟨g2, 0, none⟩) 33 33 18 18 (by omega) (by omega)
    rw [hall, l1] at this
    exact this)
  have HRm : Hid (∀ w5, Below w.heap.size w w5 → Calls Tryz.prog 10 #[.pointer (some ⟨p, 0, none⟩)] w5 fun e w' => e = .returned (.int .i64 c.cap) ∧ ∃ q, w' = w5.drewN q) := Lib.hid (fun w5 hb => by
    have := dis.room_any (hd.below hb)
    rw [show wrap64 (c.cap - c.used) = c.cap by rw [hu]; have := hcalm.c0; have := hcalm.c1; rw [wrap_in (by omega) (by omega)]; omega] at this
    exact this)
  have HMD := Lib.hid (fun (w6 : World) r gf g1 g2 gt (hb : Below w.heap.size w w6) hcap => madeDisk (w6 := w6) (r := r) (gf := gf) (g1 := g1) (g2 := g2) (gt := gt) hd hb hcalm hu hfm hN hcap)
  have HW1 := Lib.hid (show w.alloc (.cells #[.int .i64 0, .string ⟨#[73, 78, 66, 79, 88]⟩] 100) = w1 from hw1.symm)
  have HBG : Hid (Calls Tryz.prog 51 #[.slice none 0 0, .string inbS] w1 fun e w' => ∃ r gf g1 g2, e = .returned (.tuple #[.agg #[.slice (some ⟨r, 0, none⟩) 1 1, .slice (some ⟨g2, 0, none⟩) 18 18, .slice (some ⟨g1, 0, none⟩) 33 33], .int .i64 0]) ∧
      w'.heap[r]? = some (.cells #[.slice (some ⟨gf, 0, none⟩) (beginL inbS).length (beginL inbS).length] 40 (0, 0)) ∧ Lies w' (pc gf (beginL inbS)) ∧ w1.heap.size ≤ r ∧ w1.heap.size ≤ gf ∧ w1.heap.size ≤ g1 ∧ w1.heap.size ≤ g2 ∧ Bytes w' (some ⟨g1, 0, none⟩) 33 (pg.pageL 1 (idxOf (beginL inbS))) ∧ Bytes w' (some ⟨g2, 0, none⟩) 18 (pg.pageL 2 (flsOf (beginL inbS) [])) ∧ Below w1.heap.size w1 w') := Lib.hid (hBG.mono (by
    rintro e w' ⟨r, gf, g1, g2, rfl, q1, q2, q3, q4, q5, q6, q7, q8, q9⟩
    rw [l2] at q7 ⊢
    rw [l3] at q8 ⊢
    exact ⟨r, gf, g1, g2, rfl, q1, q2, q3, q4, q5, q6, q7, q8, q9⟩))
  have HB1 := Lib.hid hb1
  have HS1 := Lib.hid (show w1.heap.size = w.heap.size + 1 by rw [hw1]; simp)
  have HP1 := Lib.hid hp1
  have HD := Lib.hid hd
  have HF := Lib.hid hf
  have HT := Lib.hid h.ht
  have HH := Lib.hid h
  clear hBG hb1 hp1 hw1 hd hf h hcalm hu hfm hN hL hr hpl l1 l2 l3
  go_enter Tryz.func22, Tryz.ntmps22
  go_wp2_with fail
  rw [HW1.out]
  refine HBG.out.mono ?_
  rintro e w2 ⟨r, gf, g1, g2, rfl, hrow, hly, hr0, hgf, hg1, hg2, hy1, hy2, hb2⟩
  obtain ⟨w3, hw3⟩ : ∃ w3, w3 = w2.alloc (.cells (chgI r g1 g2) 110) := ⟨_, rfl⟩
  have ha3 : Below w2.heap.size w2 w3 := by rw [hw3]; exact (Below.refl _ _).alloc (Nat.le_refl _) _
  have hc3 : w3.heap[w2.heap.size]? = some (.cells (chgI r g1 g2) 110 (0, 0)) := by rw [hw3]; exact heap_alloc_new w2 _
  have hb13 : Below w1.heap.size w1 w3 := hb2.trans (ha3.mono hb2.size)
  have HPT3 := Lib.hid (HPT.out w3 hb13)
  have HW3 := Lib.hid (show w2.alloc (.cells #[.slice (some ⟨r, 0, none⟩) 1 1, .slice (some ⟨g2, 0, none⟩) 18 18, .slice (some ⟨g1, 0, none⟩) 33 33] 110) = w3 from hw3.symm)
  have HA3 := Lib.hid ha3
  have HC3 := Lib.hid hc3
  have HB13 := Lib.hid hb13
  have HRow := Lib.hid hrow
  have HLy := Lib.hid hly
  have HGe := Lib.hid (And.intro hr0 (And.intro hgf (And.intro hg1 hg2)))
  have HY := Lib.hid (And.intro hy1 hy2)
  have HB2 := Lib.hid hb2
  clear HBG HPT ha3 hc3 hb13 hrow hly hr0 hgf hg1 hg2 hy1 hy2 hb2 hw3
  go_wp2_with fail
  rw [HW3.out]
  generalize hbc : w2.heap.size = bc at *
  have HBC := Lib.hid hbc
  clear hbc
  refine HPT3.out.mono ?_
  rintro e w4 ⟨gt, rfl, hgt, hyt, hb4⟩
  have hbcl := (Array.getElem?_eq_some_iff.1 HC3.out).1
  have hc4 := (hb4.block bc hbcl).trans HC3.out
  have HB4 : Hid (Below w.heap.size w w4) := Lib.hid (HB1.out.trans ((HB13.out.trans (hb4.mono HB13.out.size)).mono HB1.out.size))
  have HB24 : Hid (Below w2.heap.size w2 w4) := Lib.hid (by rw [HBC.out]; exact HA3.out.trans (hb4.mono (Nat.le_of_lt hbcl)))
  have HC4 := Lib.hid hc4
  have HSz4 := Lib.hid (HSZ.out w4 r gf g1 g2 ((HB24.out.block r (Array.getElem?_eq_some_iff.1 HRow.out).1).trans HRow.out) (HLy.out.below HB24.out))
  have HGt : Hid (w.heap.size ≤ gt) := Lib.hid (Nat.le_trans HB1.out.size (Nat.le_trans HB13.out.size hgt))
  have HYt := Lib.hid hyt
  have HCl : Hid (∀ wx : World, wx.heap[bc]? = some (.cells (chgI r g1 g2) 110 (0, 0)) → wx.cell? ⟨bc, 0, none⟩ = some (.slice (some ⟨r, 0, none⟩) 1 1) ∧ wx.cell? ⟨bc, 1, none⟩ = some (.slice (some ⟨g2, 0, none⟩) 18 18) ∧ wx.cell? ⟨bc, 2, none⟩ = some (.slice (some ⟨g1, 0, none⟩) 33 33)) := Lib.hid (fun wx hx => ⟨cell_at hx 0 _ rfl, cell_at hx 1 _ rfl, cell_at hx 2 _ rfl⟩)
  obtain ⟨k0, k1, k2⟩ := HCl.out w4 hc4
  have HC5 : Hid (∀ w5, Below w4.heap.size w4 w5 → ∀ q, (w5.drewN q).heap[bc]? = some (.cells (chgI r g1 g2) 110 (0, 0))) := Lib.hid (fun w5 hb q => (hb.block bc (Array.getElem?_eq_some_iff.1 hc4).1).trans hc4)
  clear hgt hyt hb4 hc4 HPT3 HSZ hbcl
  go_wp2_with fail
  refine HSz4.out.mono ?_
  rintro e w5 ⟨rfl, hb5⟩
  have HB5 := Lib.hid hb5
  have HBW5 := Lib.hid (HB4.out.trans (hb5.mono HB4.out.size))
  have HR5 := Lib.hid (HRm.out w5 HBW5.out)
  clear hb5 k0 k1 k2 HRm HSz4
  go_wp2_with fail
  refine HR5.out.mono ?_
  rintro e w6 ⟨rfl, q, rfl⟩
  by_cases hcap : c.cap < 127
  · have hx := Kept.below HH.out (codec.below_draws HBW5.out q)
    have HX := Lib.hid hx
    have HCap := Lib.hid hcap
    clear hx
    go_wp2_with fail
    go_ret2
    exact .inl ⟨HCap.out, rfl, HX.out⟩
  · have hcap2 : ¬ (c.cap < 106 + 21) := by omega
    have HCap := Lib.hid hcap
    have hcap127 : 127 ≤ c.cap := by omega
    clear hcap
    have hc6 := HC5.out w5 HB5.out q
    obtain ⟨k0, k1, k2⟩ := HCl.out _ hc6
    have hbw6 : Below w.heap.size w (w5.drewN q) := codec.below_draws HBW5.out q
    have hb46 : Below w4.heap.size w4 (w5.drewN q) := codec.below_draws HB5.out q
    have hb26 : Below w2.heap.size w2 (w5.drewN q) := HB24.out.trans (hb46.mono HB24.out.size)
    have z1 := HS1.out
    have z2 := HGe.out
    obtain ⟨c1, c2, c3, fm1, fm2, fm3, hG, hLI, hLF, hLT⟩ := HMD.out (w5.drewN q) r gf g1 g2 gt hbw6 hcap127 ((hb26.block r (Array.getElem?_eq_some_iff.1 HRow.out).1).trans HRow.out) (HLy.out.below hb26) (by omega) (by omega) (by omega) (by omega) HGt.out (HY.out.1.below HY.out.1.lt hb26) (HY.out.2.below HY.out.2.lt hb26) (HYt.out.below HYt.out.lt hb46)
    have y1 : w1.heap.size ≤ w2.heap.size := HB2.out.size
    have y2 : w2.heap.size = bc := HBC.out
    have HPl : Hid ((w5.drewN q).heap[w.heap.size]? = some (.cells #[.int .i64 0, .string inbS] 100 (0, 0))) := Lib.hid ((hb26.block _ (by omega)).trans ((HB2.out.block _ (by omega)).trans HP1.out))
    have HG := Lib.hid hG
    have HLI := Lib.hid hLI
    have HLF := Lib.hid hLF
    have HLT := Lib.hid hLT
    have HBW6 := Lib.hid hbw6
    have HC6 := Lib.hid hc6
    have hnb : ¬ Foot p mb D bc := fun hh => by
      have q1 := (HD.out.foot_lt _ hh).2
      have q2 := HB1.out.size
      omega
    have hsz6 : bc < (w5.drewN q).heap.size := (Array.getElem?_eq_some_iff.1 hc6).1
    have hpl6 : w.heap.size < (w5.drewN q).heap.size := (Array.getElem?_eq_some_iff.1 HPl.out).1
    have HZ6 := Lib.hid (And.intro hsz6 hpl6)
    have HNB := Lib.hid hnb
    generalize w5.drewN q = w6 at *
    clear hG hLI hLF hLT hbw6 hc6 hb46 hb26 hnb HR5 HC5 hsz6 hpl6 y1 y2 z1 z2
    go_wp2_with fail
    refine HG.out.mono ?_
    rintro e w7 ⟨rfl, hk7⟩
    have hbc7 := (hk7.heap HZ6.out.1 HNB.out).trans HC6.out
    go_wp2_with fail
    refine wp_region_noPanic ?_
    refine wp_region_held_drew (S := fun w' => w'.heap[bc]? = some (.cells (chgI r g1 g2) 110 (0, 0))) (by kernel_rfl) hbc7 (fun hHeld => ?_)
    refine wpAnyH_take (i := 0) (v := ?_) rfl (by kernel_rfl) (by kernel_rfl) (by kernel_rfl) (fun _ _ _ h => h) (Or.inl ⟨by kernel_rfl, ?_⟩) hHeld ?_
    rotate_left
    · (intro w' hw'; go_simp; first | done | with_reducible rfl)
    refine wpAnyH_take (i := 2) (v := ?_) rfl (by kernel_rfl) (by kernel_rfl) (by kernel_rfl) (fun _ _ _ h => h) (Or.inl ⟨by kernel_rfl, ?_⟩) hHeld ?_
    rotate_left
    · (intro w' hw'; go_simp; first | done | with_reducible rfl)
    refine wpAnyH_take (i := 3) (v := ?_) rfl (by kernel_rfl) (by kernel_rfl) (by kernel_rfl) (fun _ _ _ h => h) (Or.inl ⟨by kernel_rfl, ?_⟩) hHeld ?_
    rotate_left
    · (intro w' hw'; go_simp; first | done | with_reducible rfl)
    refine wpAnyH_take (i := 4) (v := ?_) rfl (by kernel_rfl) (by kernel_rfl) (by kernel_rfl) (fun _ _ _ h => h) (Or.inl ⟨by kernel_rfl, ?_⟩) hHeld ?_
    rotate_left
    · (intro w' hw'; have a1 := cell_at hw' 2 _ rfl; go_simp; first | done | with_reducible rfl)
    refine wpAnyH_ready (rs := [1]) (by kernel_rfl) (by simp) ?_
    refine AllReadyH.cons rfl (fun K hK => ?_) AllReadyH.nil
    go_simp
    refine (indexName_any _ 0 (by omega)).mono ?_
    rintro e wn ⟨rfl, rfl⟩
    go_wp2_with fail
    refine hK.out _ _ hHeld (fun hH1 => ?_)
    clear hK K hHeld
    refine wpAnyH_ready (rs := [5]) (by kernel_rfl) (by simp) ?_
    refine AllReadyH.cons rfl (fun K hK => ?_) AllReadyH.nil
    go_simp
    refine (HLI.out _ (hk7.below (codec.below_draws (Below.refl _ _) 1))).mono ?_
    rintro e w8 ⟨rfl, hkw8⟩
    have hbcw8 := (hkw8.heap HZ6.out.1 HNB.out).trans HC6.out
    go_wp2_with fail
    refine hK.out _ _ hbcw8 (fun hH2 => ?_)
    clear hK K hH1
    refine wpAnyH_take (i := 6) (v := ?_) rfl (by kernel_rfl) (by kernel_rfl) (by kernel_rfl) (fun _ _ _ h => h) (Or.inl ⟨by kernel_rfl, ?_⟩) hH2 ?_
    rotate_left
    · (intro w' hw'; go_simp; first | done | with_reducible rfl)
    refine wpAnyH_done (by kernel_rfl) ?_ _
    refine NoPanic.normal ?_
    go_simp
    clear hk7 hbc7
    go_wp2_with fail
    refine wp_region_noPanic ?_
    refine wp_region_held_drew (S := fun w' => w'.heap[bc]? = some (.cells (chgI r g1 g2) 110 (0, 0))) (by kernel_rfl) hbcw8 (fun hHeld => ?_)
    refine wpAnyH_take (i := 0) (v := ?_) rfl (by kernel_rfl) (by kernel_rfl) (by kernel_rfl) (fun _ _ _ h => h) (Or.inl ⟨by kernel_rfl, ?_⟩) hHeld ?_
    rotate_left
    · (intro w' hw'; go_simp; first | done | with_reducible rfl)
    refine wpAnyH_take (i := 2) (v := ?_) rfl (by kernel_rfl) (by kernel_rfl) (by kernel_rfl) (fun _ _ _ h => h) (Or.inl ⟨by kernel_rfl, ?_⟩) hHeld ?_
    rotate_left
    · (intro w' hw'; go_simp; first | done | with_reducible rfl)
    refine wpAnyH_take (i := 3) (v := ?_) rfl (by kernel_rfl) (by kernel_rfl) (by kernel_rfl) (fun _ _ _ h => h) (Or.inl ⟨by kernel_rfl, ?_⟩) hHeld ?_
    rotate_left
    · (intro w' hw'; go_simp; first | done | with_reducible rfl)
    refine wpAnyH_take (i := 4) (v := ?_) rfl (by kernel_rfl) (by kernel_rfl) (by kernel_rfl) (fun _ _ _ h => h) (Or.inl ⟨by kernel_rfl, ?_⟩) hHeld ?_
    rotate_left
    · (intro w' hw'; have a1 := cell_at hw' 1 _ rfl; go_simp; first | done | with_reducible rfl)
    refine wpAnyH_ready (rs := [1]) (by kernel_rfl) (by simp) ?_
    refine AllReadyH.cons rfl (fun K hK => ?_) AllReadyH.nil
    go_simp
    refine (flagsName_any _ 0 (by omega)).mono ?_
    rintro e wn ⟨rfl, rfl⟩
    go_wp2_with fail
    refine hK.out _ _ hHeld (fun hH1 => ?_)
    clear hK K hHeld
    refine wpAnyH_ready (rs := [5]) (by kernel_rfl) (by simp) ?_
    refine AllReadyH.cons rfl (fun K hK => ?_) AllReadyH.nil
    go_simp
    refine (HLF.out _ (hkw8.below (codec.below_draws (Below.refl _ _) 1))).mono ?_
    rintro e w9 ⟨rfl, hkw9⟩
    have hbcw9 := (hkw9.heap HZ6.out.1 HNB.out).trans HC6.out
    go_wp2_with fail
    refine hK.out _ _ hbcw9 (fun hH2 => ?_)
    clear hK K hH1
    refine wpAnyH_take (i := 6) (v := ?_) rfl (by kernel_rfl) (by kernel_rfl) (by kernel_rfl) (fun _ _ _ h => h) (Or.inl ⟨by kernel_rfl, ?_⟩) hH2 ?_
    rotate_left
    · (intro w' hw'; go_simp; first | done | with_reducible rfl)
    refine wpAnyH_done (by kernel_rfl) ?_ _
    refine NoPanic.normal ?_
    go_simp
    clear hkw8 hbcw8
    have HK9 := Lib.hid hkw9
    clear hkw9 hbcw9
    go_wp2_with (go_at_call 15; refine (HLT.out _ HK9.out).mono ?_; rintro e w10 ⟨rfl, hk⟩; have HK10 := Lib.hid hk; clear hk)
    go_ret2
    obtain ⟨mb', D', hd', hf'⟩ := HK10.out.ex
    have hkb := Kept.back HT.out HF.out HBW6.out HK10.out
    have hn1 : ¬ Foot p mb D w.heap.size := fun hh => by
      have := (HD.out.foot_lt _ hh).2
      omega
    have hn2 : ¬ Foot p mb' D' w.heap.size := fun hh => by
      rcases hf' _ hh with h | h
      · exact hn1 h
      · have := HZ6.out.2
        omega
    have hn3 : ¬ Foot p mb' D' w10.heap.size := fun hh => by
      have := (hd'.foot_lt _ hh).2
      omega
    have ha : Below w10.heap.size w10 (w10.alloc (.cells #[.pointer (some ⟨p, 0, none⟩), .slice (some ⟨w.heap.size, 0, none⟩) 1 1] 66)) := (Below.refl _ _).alloc (Nat.le_refl _) _
    have hpl10 := (HK10.out.heap HZ6.out.2 hn1).trans HPl.out
    have hltp := (Array.getElem?_eq_some_iff.1 hpl10).1
    have hws := hkb.size
    refine .inr ⟨by have := HCap.out; omega, w10.heap.size, hws, rfl, ⟨⟨mb', D', some ⟨w.heap.size, 0, none⟩, 1, 1, (hd'.below ha).up (by omega), fun j hj => ?_, heap_alloc_new w10 _, rd_place1 ((ha.block _ hltp).trans hpl10), Nat.le_refl _, hn3, fun ad e h0 => ?_⟩, hkb.ht.below ha⟩⟩
    · rcases hf' j hj with h | h
      · exact HF.out j h
      · have h1 := HBW6.out.size
        have h2 := HH.out.size
        exact .inr (by omega)
    · cases e
      exact ⟨by simp; omega, hn2, (by simp; omega)⟩
end Go.Proofs.YthhflkgngencdaaGreatDoor.sto
namespace Go.Proofs.YthhflkgngencdaaGreatDoor.sto
open Go.Proofs.YthhflkgngencdaaGreatDoor.codec (Bytes)
open Go.Proofs.YthhflkgngencdaaGreatDoor.row
open Go.Proofs.YthhflkgngencdaaGreatDoor.bod (Fit named cell_at)
open Go.Proofs.YthhflkgngencdaaGreatDoor.idx (P cS fS NS rawL infoS atP)
open Go.ChangeShapes Go.WideShapes Go.ChangeAt Go.RowKit Go.Maps Go.WideMaps Go.Sort Go.Shelf
open Go.Proofs.YthhflkgngencdaaGreatDoor.dis (Dsk Cfg FM File Foot Now Does Listed fAppend fSync fRename nameB fileAt lenAt upd allSafe)
set_option linter.unusedVariables false
set_option maxRecDepth 100000
set_option linter.unusedSimpArgs false

theorem sort_row (w : World) (B : Nat) (v : Value) (l : List ByteArray) (h : Own cS 1 B 9 w v l) (hB : B ≤ w.heap.size) (hn : l.length ≤ 1000000) :
    Calls Tryz.prog 48 #[v] w fun e w' => e = .returned (.tuple #[]) ∧ Below B w w' := by
  rcases h.2 with ⟨e, h0⟩ | ⟨g, cap, cur, e, hg0, hg, h1, h2, h3, h4⟩
  · subst e
    refine (Tryz.slices_Sort_string_none none 0 w).mono ?_
    rintro e w' ⟨rfl, rfl⟩
    exact ⟨rfl, Below.refl _ _⟩
  · subst e
    have hrl : (l.map rawL).length = l.length := by rw [List.length_map]
    have hlt : g < w.heap.size := (Array.getElem?_eq_some_iff.1 hg).1
    have HH : Holds encStr w g 0 (l.map rawL).toArray := idx.holds_at hg (by rw [hrl, h4, idx.flS, idx.names_raw])
    have hS := Tryz.slices_Sort_string g 0 cap (l.map rawL) w HH hlt (by omega)
    rw [hrl] at hS
    refine hS.mono ?_
    rintro e w' ⟨rfl, m, os, rfl⟩
    have hgr := grownBy_sorted (w := w) (g := g) (n := m) (os := os) ((l.map rawL).mergeSort fun x y => decide (x ≤ y)).toArray
    exact ⟨rfl, hgr.os, hgr.tape, hgr.output, hgr.size, fun k hk => hgr.block k (by omega) (fun e => by have := Option.some.inj e; omega)⟩
set_option maxHeartbeats 1000000 in
theorem sNames_any (W : World) (q p : Nat) (A : Option Addr) (n c : Nat) (pl : List P) (hq : W.heap[q]? = some (.cells #[.pointer (some ⟨p, 0, none⟩), .slice A n c] 66 (0, 0))) (hR : row.Rd idx.cP 2 W A n pl) (hn : n ≤ 1000000) :
    Calls Tryz.prog 19 #[.pointer (some ⟨q, 0, none⟩)] W fun e w' => ∃ B d, e = .returned (.slice B n d) ∧ Below W.heap.size W w' := by
  have HR := Lib.hid hR
  have k1 := cell_at hq 1 _ rfl
  have hlq := (Array.getElem?_eq_some_iff.1 hq).1
  clear hR hq
  go_enter Tryz.func19, Tryz.ntmps19
  go_wp2
  go_loopw [3, 13] (fun v i wr => ∃ k : Nat, k ≤ n ∧ i = .int .i64 k ∧ Hid (NS W pl k v wr)) (fun _ i _ => n - (intOf i).toNat)
  case atStart => exact ⟨0, Nat.zero_le _, rfl, Lib.hid ⟨Own.nil _ _ _ _ _, Below.refl _ _⟩⟩
  case round =>
    obtain ⟨k, hk, rfl, HS⟩ := hrel
    by_cases hlt : k < n
    · obtain ⟨b, o, ⟨m, s⟩, rfl, hx, c0, c1⟩ := atP (HR.out.below HS.out.2) k hlt
      simp only at c0 c1
      have hlt' : (k : Int) < (n : Int) := by omega
      have HT := Lib.hid (idx.take_next (idx.map_at P.s hx))
      have HL : Hid (((pl.map P.s).take k).length ≤ 20000000) := Lib.hid (by rw [List.length_take]; omega)
      have HO := Lib.hid (HS.out.1.alloc (.cells #[.int .i64 m, .string s] 100))
      have HB := Lib.hid (HS.out.2.alloc HS.out.2.size (.cells #[.int .i64 m, .string s] 100))
      clear hx
      go_wp2_with (at_builtin; refine row.wpList_append_own fS (by decide) (by decide) (by_ := 16) (by decide) (z := .string ⟨#[]⟩) rfl rfl (.tmp 17) (.tmp 20) 57 9 rfl Tryz.underlying57 infoS W.heap.size u3 _ rfl HO.out HB.out.size HL.out s (0, 0) _ (by simp) rfl _ rfl ?_; intro v1 w1 ho hg h3; have HS1 := Lib.hid (show NS W pl (k + 1) v1 w1 from ⟨by rw [HT.out]; exact ho, grown_below HB.out HO.out hg⟩); clear ho hg h3)
      go_roundw
      case rel => first | exact ⟨k + 1, by omega, by go_num, HS1⟩ | ((repeat apply Exists.intro); exact ⟨⟨k + 1, by omega, by go_num, HS1⟩, rfl⟩)
      case measure => (show n - ((k : Int) + 1).toNat < n - k; omega)
    · obtain rfl : k = n := by omega
      have hE : (pl.map P.s).take k = pl.map P.s := List.take_of_length_le (by rw [List.length_map, HR.out.1]; omega)
      have hO := HS.out.1
      rw [hE] at hO
      have hlen : (pl.map P.s).length = k := by rw [List.length_map, HR.out.1]
      have HSo := Lib.hid (sort_row wr W.heap.size u3 _ hO HS.out.2.size (by rw [hlen]; omega))
      have hform : ∃ B d, u3 = .slice B k d := by
        rcases hO.2 with ⟨e, h0⟩ | ⟨g, cap, cur, e, _⟩
        · exact ⟨none, 0, by rw [e, show k = 0 by omega]⟩
        · exact ⟨_, cap, by rw [e, hlen]⟩
      obtain ⟨B, d, rfl⟩ := hform
      clear hE hO hlen
      go_wp2_with (go_at_call 48; refine HSo.out.mono ?_; rintro e w2 ⟨rfl, hb2⟩; have HB2 := Lib.hid hb2; clear hb2)
      go_ret
      exact ⟨B, d, rfl, HS.out.2.trans HB2.out⟩
end Go.Proofs.YthhflkgngencdaaGreatDoor.sto
namespace Go.Proofs.YthhflkgngencdaaGreatDoor.sto
open Go.Proofs.YthhflkgngencdaaGreatDoor.codec (Bytes)
open Go.Proofs.YthhflkgngencdaaGreatDoor.row
open Go.Proofs.YthhflkgngencdaaGreatDoor.bod (Fit named cell_at)
open Go.ChangeShapes Go.WideShapes Go.ChangeAt Go.RowKit Go.Maps Go.WideMaps Go.Sort Go.Shelf
open Go.Proofs.YthhflkgngencdaaGreatDoor.dis (Dsk Cfg FM File Foot Now Does Listed fAppend fSync fRename nameB fileAt lenAt upd allSafe)
set_option linter.unusedVariables false
set_option maxRecDepth 100000
set_option linter.unusedSimpArgs false

set_option maxHeartbeats 1000000 in
theorem open_any {ws w : World} {F : Nat → Prop} {base p : Nat} {c : Cfg} {fm : FM} {N : Nat} (h : Kept ws F base p c fm N w) (hcalm : Calm c) (hu : c.used = 0) (hfm : ∀ s, fm s = none) (hN : N ≤ 100) (hL : sumDoor.Laid w) (hr : Fit w) :
    Calls Tryz.prog 8 #[.pointer (some ⟨p, 0, none⟩)] w fun e w' => MadeAns ws F base p c fm N e w' := by
  have HLo : Hid (Calls Tryz.prog 20 #[.pointer (some ⟨p, 0, none⟩)] w fun e w' => e = .returned (.bool false) ∧ ∃ q, w' = w.drewN q) := Lib.hid (by
    obtain ⟨mb, D, hd, hf⟩ := h.ex
    have := dis.lost_any hd
    rw [hcalm.power] at this
    exact this)
  have HNm : Hid (∀ q, Calls Tryz.prog 21 #[.pointer (some ⟨p, 0, none⟩)] (w.drewN q) fun e w' => e = .returned (.slice none 0 0) ∧ Below w.heap.size w w') := Lib.hid (fun q => by
    obtain ⟨mb, D, hd, hf⟩ := h.ex
    refine (dis.names_any (hd.drewN q) (by omega)).mono ?_
    rintro e w' ⟨v, ns, rfl, hl, hr, hnil, hb⟩
    have hns : ns = [] := by
      cases ns with
      | nil => rfl
      | cons x r =>
        have := (hl.mem x).1 (by simp)
        rw [hfm x] at this
        cases this
    rw [hnil.2 hns]
    exact ⟨rfl, (codec.below_draws (Below.refl _ _) q).trans hb⟩)
  have HMd : Hid (∀ w2, Below w.heap.size w w2 → Calls Tryz.prog 22 #[.pointer (some ⟨p, 0, none⟩)] w2 fun e w' => MadeAns ws F base p c fm N e w') := Lib.hid (fun w2 hb => made_any (h.below hb) hcalm hu hfm hN (hL.below hL.lt hb) (hr.below hb))
  clear h hcalm hu hfm hN hL hr
  go_enter Tryz.func8, Tryz.ntmps8
  go_wp2_with (first | (go_at_call 20; refine HLo.out.mono ?_; rintro e w1 ⟨rfl, q, rfl⟩) | (go_at_call 21; refine (HNm.out _).mono ?_; rintro e w2 ⟨rfl, hb⟩; have HB := Lib.hid hb; clear hb))
  refine (HMd.out _ HB.out).mono ?_
  rintro e w3 hm
  have HM := Lib.hid hm
  rcases hm with ⟨h1, rfl, h2⟩ | ⟨h1, q', h0, rfl, h2⟩
  · clear h1 h2
    go_wp2_with fail
    go_ret2
    exact HM.out
  · clear h1 h2 h0
    go_wp2_with fail
    go_ret2
    exact HM.out
set_option maxHeartbeats 1000000 in
theorem awake_any (W : World) (hL : sumDoor.Laid W) (hr : Fit W) : Calls Tryz.prog 5 #[] W fun e w' => e = .returned (.bool true) ∧ Below W.heap.size W w' := by
  have HNew := Lib.hid (dis.new_ok W 1000 (by decide) (by decide))
  have HOp : Hid (∀ w1, Dsk w1 W.heap.size W.heap.size none (.map []) ⟨1000, 0, false, 0, false⟩ (fun _ => none) 0 → Below W.heap.size W w1 → Calls Tryz.prog 8 #[.pointer (some ⟨W.heap.size, 0, none⟩)] w1 fun e w' => ∃ q A n cp, e = .returned (.tuple #[.pointer (some ⟨q, 0, none⟩), .int .i64 0]) ∧ w'.heap[q]? = some (.cells #[.pointer (some ⟨W.heap.size, 0, none⟩), .slice A n cp] 66 (0, 0)) ∧ row.Rd idx.cP 2 w' A n [⟨0, inbS⟩] ∧ Below W.heap.size W w') := Lib.hid (fun w1 hd hb => by
    refine (open_any (Kept.start hd) ⟨rfl, rfl, by decide, by decide, by decide, by decide⟩ rfl (fun _ => rfl) (by decide) (hL.below hL.lt hb) (hr.below hb)).mono ?_
    rintro e w' (⟨h1, -, -⟩ | ⟨-, q, h0, rfl, h2⟩)
    · exact absurd h1 (by decide)
    · obtain ⟨mb, D, A, n, cp, -, -, h3, h4, -⟩ := h2.ex
      refine ⟨q, A, n, cp, rfl, h3, h4, hb.trans (h2.ht.toBelow W.heap.size hb.size fun i hi hh => ?_)⟩
      rcases hh with rfl | h | ⟨s, h⟩
      · omega
      · cases h
      · cases h)
  clear hL hr
  go_enter Tryz.func5, Tryz.ntmps5
  go_wp2_with (first | (go_at_call 7; refine HNew.out.mono ?_; rintro e w1 ⟨rfl, hd, hb⟩; have HO1 := Lib.hid (HOp.out w1 hd hb); clear hd hb) | (go_at_call 8; refine HO1.out.mono ?_; rintro e w2 ⟨q, A, n, cp, rfl, h3, h4, hb⟩; obtain rfl : n = 1 := h4.1.symm; have HN := Lib.hid (sNames_any w2 q W.heap.size A 1 cp [⟨0, inbS⟩] h3 h4 (by decide)); have HB := Lib.hid hb; clear h3 h4 hb) | (go_at_call 19; refine HN.out.mono ?_; rintro e w3 ⟨B, d, rfl, hb3⟩; have HB3 := Lib.hid hb3; clear hb3))
  go_ret
  exact ⟨rfl, HB.out.trans (HB3.out.mono HB.out.size)⟩
end Go.Proofs.YthhflkgngencdaaGreatDoor.sto
namespace Go.Proofs.YthhflkgngencdaaGreatDoor.sto
open Go.Proofs.YthhflkgngencdaaGreatDoor.codec (Bytes)
open Go.Proofs.YthhflkgngencdaaGreatDoor.bod (Fit named cell_at)
open Go.ChangeShapes Go.WideShapes Go.ChangeAt Go.RowKit Go.Maps Go.WideMaps Go.Sort Go.Shelf
open Go.Proofs.YthhflkgngencdaaGreatDoor.dis (Dsk Cfg FM File Foot Now Does Listed fAppend fSync fRename fFuse nameB fileAt lenAt upd allSafe erase grown cRoom goes burnt Whole Ints)
set_option linter.unusedVariables false
set_option maxRecDepth 100000
set_option linter.unusedSimpArgs false

theorem burnt_lost {c : Cfg} (h : goes c = false) : (burnt c).lost = c.lost := by
  unfold dis.goes at h
  unfold dis.burnt
  by_cases h1 : c.fused = true
  · rw [if_pos h1]
    simp [h1] at h
    rw [if_pos h]
  · rw [if_neg h1]
/-- What may have become of the file, and of the others. -/
theorem lay_fused {c : Cfg} {fm : FM} {t : List UInt8} {L : List Nat} {f0 : File} {M : Nat} (hlost : c.lost = false) (hnew : fm nwK = none) (ht : nameB t = true) (hne : nwK ≠ t) (h0 : fm t = some f0) (hroom : ¬ cRoom c < (L.length : Nat)) (hM : ∀ s f, fm s = some f → f.l.length ≤ M) (hL : L.length ≤ M) :
    (((fLay c fm t L).2.2 = 6 ∧ (fLay c fm t L).2.1 t = some f0) ∨ ((fLay c fm t L).2.2 = 0 ∧ (fLay c fm t L).2.1 t = some (allSafe L))) ∧ ∀ s f, (fLay c fm t L).2.1 s = some f → f.l.length ≤ M := by
  have hf : fileAt fm nwK = ⟨[], 0, false⟩ := by simp [fileAt, hnew]
  have hg : ∀ K, grown fm nwK K = ⟨K, 0, false⟩ := fun K => by simp [grown, hf]
  have hnt : t ≠ nwK := Ne.symm hne
  have hup : ∀ g : File, upd fm nwK g t = some f0 := fun g => by rw [upd_other _ _ hnt, h0]
  have hub : ∀ g : File, g.l.length ≤ M → ∀ s f, upd fm nwK g s = some f → f.l.length ≤ M := fun g h => dis.upd_bound hM h
  unfold fLay
  cases hgo : goes c with
  | true =>
    by_cases hz : L.length / 2 = 0
    · have e1 : fAppend c fm nwK L = (burnt c, fm, 6) := by simp [fAppend, hlost, hroom, hgo, hz, show nameB nwK = true from by decide]
      rw [e1]
      exact ⟨.inl ⟨rfl, h0⟩, hM⟩
    · have e1 : fAppend c fm nwK L = (dis.cPut (burnt c) fm nwK (grown fm nwK (L.take (L.length / 2))), upd fm nwK (grown fm nwK (L.take (L.length / 2))), 6) := by simp [fAppend, hlost, hroom, hgo, hz, show nameB nwK = true from by decide]
      rw [e1]
      exact ⟨.inl ⟨rfl, hup _⟩, hub _ (by rw [hg]; simp; omega)⟩
  | false =>
    have e1 : fAppend c fm nwK L = (dis.cPut (burnt c) fm nwK (grown fm nwK L), upd fm nwK (grown fm nwK L), 0) := by simp [fAppend, hlost, hroom, hgo, show nameB nwK = true from by decide]
    rw [e1]
    simp only [ne_eq, not_true_eq_false, if_false]
    rw [hg]
    have hl1 : (dis.cPut (burnt c) fm nwK ⟨L, 0, false⟩).lost = false := (burnt_lost hgo).trans hlost
    generalize dis.cPut (burnt c) fm nwK ⟨L, 0, false⟩ = c1 at *
    cases hgo1 : goes c1 with
    | true =>
      have e2 : fSync c1 (upd fm nwK ⟨L, 0, false⟩) nwK = (burnt c1, upd fm nwK ⟨L, 0, false⟩, 6) := by simp [fSync, hl1, upd_same, hgo1]
      rw [e2]
      exact ⟨.inl ⟨rfl, hup _⟩, hub _ hL⟩
    | false =>
      have e2 : fSync c1 (upd fm nwK ⟨L, 0, false⟩) nwK = (dis.cPut (burnt c1) (upd fm nwK ⟨L, 0, false⟩) nwK (allSafe L), upd fm nwK (allSafe L), 0) := by simp [fSync, hl1, upd_same, hgo1, upd_upd]
      rw [e2]
      simp only [not_true_eq_false, if_false]
      have hl2 : (dis.cPut (burnt c1) (upd fm nwK ⟨L, 0, false⟩) nwK (allSafe L)).lost = false := (burnt_lost hgo1).trans hl1
      generalize dis.cPut (burnt c1) (upd fm nwK ⟨L, 0, false⟩) nwK (allSafe L) = c2 at *
      cases hgo2 : goes c2 with
      | true =>
        have e3 : fRename c2 (upd fm nwK (allSafe L)) nwK t = (burnt c2, upd fm nwK (allSafe L), 6) := by simp [fRename, hl2, ht, hne, upd_same, hgo2, Whole, allSafe]
        rw [e3]
        exact ⟨.inl ⟨rfl, hup _⟩, hub _ hL⟩
      | false =>
        have e3 : fRename c2 (upd fm nwK (allSafe L)) nwK t = (dis.cPut (dis.cDrop (burnt c2) (upd fm nwK (allSafe L)) nwK) (erase (upd fm nwK (allSafe L)) nwK) t (allSafe L), upd (erase (upd fm nwK (allSafe L)) nwK) t (allSafe L), 0) := by simp [fRename, hl2, ht, hne, upd_same, hgo2, Whole, allSafe]
        rw [e3]
        refine ⟨.inr ⟨rfl, upd_same _ _ _⟩, dis.upd_bound (dis.erase_bound (hub _ hL)) hL⟩
end Go.Proofs.YthhflkgngencdaaGreatDoor.sto
namespace Go.Proofs.YthhflkgngencdaaGreatDoor.cardPin
open Go.ChangeShapes Go.WideShapes Go.ChangeAt Go.RowKit
set_option linter.unusedVariables false
set_option linter.unusedSimpArgs false

theorem own : ownKnob Tryz.prog.godebug = none := by kernel_rfl
theorem laidOut : laidOutB Tryz.prog = true := by kernel_rfl
abbrev laidL : List (String × DataW Unit) := [("cubby/sum.roundWords", Rows.laid_cubby_sum_roundWords), ("math/bits.deBruijn32tab", Rows.laid_math_bits_deBruijn32tab), ("math/bits.deBruijn64tab", Rows.laid_math_bits_deBruijn64tab), ("internal/strconv.uint64pow10", Rows.laid_internal_strconv_uint64pow10), ("unicode/utf8.acceptRanges", Rows.laid_unicode_utf8_acceptRanges), ("unicode.asciiFold", Rows.laid_unicode_asciiFold), ("unicode.caseOrbit", Rows.laid_unicode_caseOrbit), ("unicode.CaseRanges", Rows.laid_unicode_CaseRanges), ("unicode/utf8.first", Rows.laid_unicode_utf8_first)]
theorem shaped (os : Os) (args : Array Value) : ((World.laidAll Tryz.prog os laidL).forCall (fun _ _ => 0) ⟨#[], args, []⟩).Shaped Tryz.prog := World.shaped_of_ZipB (by kernel_rfl) (by kernel_rfl)
theorem door_met (os : Os) (args : Array Value) : laidMetH Tryz.prog laidL ((World.laidAll Tryz.prog os laidL).forCall (fun _ _ => 0) ⟨#[], args, []⟩).memory := by
  rw [MakeChecks.laidMetH_plain _ _ _ (by kernel_rfl)]
  exact laidMet_laidAll _ (by kernel_rfl) (by kernel_rfl)

/-- The wrap that hands on what is listed and the world's shape. -/
theorem and_shaped {H : Type} {enc : TypeId × Value → H} {a : Assume} {C : Checked} {os : Os} {f : FuncId} {fn : Func} {s : ChangeSpec} {conds : List PathCond} {apart fresh handsOn again : Bool} {X : World → Array Value → Prop}
    (hX : ∀ (w w' : World) (args : Array Value), w.heap = w'.heap → X w args → X w' args)
    (own : ownKnob C.prog.godebug = none) (started : os.Started) (noInit : C.prog.inits.idxOf? f = none) (hfn : C.prog.funcs[f]? = some fn)
    (witness : ∃ (w : World) (tape : Tape) (i : Input), w.os = os ∧ (w.forCall tape i).Shaped C.prog ∧ i.vars = [] ∧ Input.okWide C.prog (w.forCall tape i) .any w.heap.size f i ∧
      ((s.pre enc C.prog fn conds apart (w.forCall tape i).memory i.args ∧ X (w.forCall tape i).memory i.args) ∧ sizedMet enc C.prog fn (OpenSpec.ofChange s) apart (w.forCall tape i).memory i.args) ∧ a.holds C.prog (lone (Frame.enter C.prog f i.args .normal) [] (w.forCall tape i)))
    (contract : ∀ (W : World) (base : Nat) (args : Array Value) (ds gs : List (DataW H)) (before : List MemPlace),
      (∀ (j : Nat) t v, fn.params[j]? = some t → args[j]? = some v → Value.okWide C.prog W .any base t v) →
      DataW.Whole enc C.prog fn.params.toList s.vars apart W args.toList ds gs before →
      (DataW.weightsEach C.prog (fn.params.toList ++ s.plain.varTypes C.prog) (ds ++ gs)).all (· ≤ reachBytes) = true → X W args → W.ShapedOpen C.prog →
      Calls C.prog f args W fun e W' => ∃ v, e = .returned v ∧ s.post enc C.prog fn apart fresh handsOn again W args v W') :
    ReturnsInHanded a C os f .any (fun w args => (s.pre enc C.prog fn conds apart w args ∧ X w args) ∧ sizedMet enc C.prog fn (OpenSpec.ofChange s) apart w args) (s.post enc C.prog fn apart fresh handsOn again) := by
  refine returnsInHanded_of_calls own started noInit witness ?_
  intro w tape i _ hsh _ hok hpre hholds
  obtain ⟨_, _, _, fn', hfn', _, _, _, _, hval⟩ := hok
  have e : fn' = fn := Option.some.inj (hfn'.symm.trans hfn)
  subst e
  obtain ⟨⟨⟨ds, gs, before, hw, hc⟩, hx⟩, hz⟩ := hpre
  have hw' := DataW.Whole.of_heap (w' := w.forCall tape i) (by rfl) hw
  refine (contract (w.forCall tape i) w.heap.size i.args ds gs before hval hw' (hz.weights hw) (hX _ _ _ (by rfl) hx) hsh).mono fun e W' ⟨v, he, hp⟩ => ?_
  subst he
  exact ChangeSpec.post_blind hp

theorem u8_bounds {z : Int} (h : (Lit.int .u8 z).wf = true) : 0 ≤ z ∧ z < 256 := by
  have h1 : IntKind.u8.min = 0 := rfl
  have h2 : IntKind.u8.max = 255 := rfl
  simp only [Lit.wf, Bool.and_eq_true, decide_eq_true_eq] at h
  omega
theorem i64_bounds {z : Int} (h : (Lit.int .i64 z).wf = true) : -9223372036854775808 ≤ z ∧ z ≤ 9223372036854775807 := by
  have h1 : IntKind.i64.min = -9223372036854775808 := rfl
  have h2 : IntKind.i64.max = 9223372036854775807 := rfl
  simp only [Lit.wf, Bool.and_eq_true, decide_eq_true_eq] at h
  omega
end Go.Proofs.YthhflkgngencdaaGreatDoor.cardPin
namespace Go.Proofs.YthhflkgngencdaaGreatDoor.cardPin
open Go.ChangeShapes Go.WideShapes Go.ChangeAt Go.RowKit
open Go.Proofs.YthhflkgngencdaaGreatDoor.codec (Bytes)
set_option linter.unusedVariables false
set_option linter.unusedSimpArgs false
set_option maxRecDepth 100000

theorem pick_one {W : World} (h : laidMetH Tryz.prog laidL W) (name : String) (d : DataW Unit) (e : laidL.filter (fun x => x.1 == name) = [(name, d)]) (hp : ([(name, d)].all fun x => x.2.handleName?.isNone) = true) : laidMet Tryz.prog [(name, d)] W := by
  have h1 := h.filter (fun x => x.1 == name)
  rw [e, MakeChecks.laidMetH_plain _ _ _ hp] at h1
  exact h1
theorem tens_of {w : World} (h : laidMet Tryz.prog [("internal/strconv.uint64pow10", Rows.laid_internal_strconv_uint64pow10)] w) : Lib.TabBelow Tryz.prog w.heap.size w "internal/strconv.uint64pow10" .u64 Lib.pow10Tab := by
  have e : (Rows.laid_internal_strconv_uint64pow10 : DataW Unit) = Lib.tabData .u64 Lib.pow10Tab := by kernel_rfl
  rw [e] at h
  exact Lib.tabBelow_of_tabIs (Lib.tabIs_of_head (g := 0) (t := 323) (e := 188) (n := 20) (by kernel_rfl) (by kernel_rfl) Tryz.underlying323 Tryz.underlying188 (by kernel_rfl) (by kernel_rfl) h)
theorem fit_of {W : World} (h : laidMetH Tryz.prog laidL W) (hs : W.ShapedOpen Tryz.prog) : bod.Fit W :=
  ⟨nam.Room.of_shape hs, tens_of (pick_one h _ _ (by kernel_rfl) (by kernel_rfl))⟩
end Go.Proofs.YthhflkgngencdaaGreatDoor.cardPin
namespace Go.Proofs.YthhflkgngencdaaGreatDoor.cardPin
open Go.ChangeShapes Go.WideShapes Go.ChangeAt Go.RowKit
open Go.Proofs.YthhflkgngencdaaGreatDoor.codec (Bytes)
set_option linter.unusedVariables false
set_option linter.unusedSimpArgs false
set_option maxRecDepth 100000

theorem laid_of {W : World} (hL : laidMetH Tryz.prog laidL W) : sumDoor.Laid W := by
  have h := pick_one hL "cubby/sum.roundWords" Rows.laid_cubby_sum_roundWords (by kernel_rfl) (by kernel_rfl)
  have h' : laidMet Tryz.prog [("cubby/sum.roundWords", Lib.tabData .u32 (sumPlain.consts.map Int.ofNat))] W := h
  have gW : Tryz.prog.globalNamed "cubby/sum.roundWords" = some 1 := by kernel_rfl
  have hT := Lib.tabIs_of_head gW (by kernel_rfl) Tryz.underlying304 Tryz.underlying39 (by kernel_rfl) (by kernel_rfl) h'
  intro i hi
  have hl : i < sumPlain.consts.length := by
    have : sumPlain.consts.length = 64 := by decide
    omega
  rw [hT.cell gW i (by simpa using hl)]
  simp [List.getD, hl]
end Go.Proofs.YthhflkgngencdaaGreatDoor.cardPin
namespace Go.Proofs.YthhflkgngencdaaGreatDoor.sto
open Go.Proofs.YthhflkgngencdaaGreatDoor.codec (Bytes)
open Go.Proofs.YthhflkgngencdaaGreatDoor.bod (Fit named cell_at)
open Go.ChangeShapes Go.WideShapes Go.ChangeAt Go.RowKit Go.Maps Go.WideMaps Go.Sort Go.Shelf
open Go.Proofs.YthhflkgngencdaaGreatDoor.dis (Dsk Cfg FM File Foot Now Does Listed fAppend fSync fRename fFuse nameB fileAt lenAt upd allSafe erase grown cRoom goes burnt Whole Ints)
set_option linter.unusedVariables false
set_option maxRecDepth 100000
set_option linter.unusedSimpArgs false

def trS : ByteArray := ⟨#[116, 114, 101, 101]⟩
theorem Kept.toBelow {ws w : World} {F : Nat → Prop} {base p : Nat} {c : Cfg} {fm : FM} {N B : Nat} (h : Kept ws F base p c fm N w) (hB : B ≤ ws.heap.size) (hF : ∀ j, j < B → ¬ F j) : Below B ws w := h.ht.toBelow B hB hF
/-- The power comes back, and the file is read. -/
theorem backRead {ws w : World} {F : Nat → Prop} {p : Nat} {c : Cfg} {fm : FM} {N M : Nat} (h : Kept ws F p p c fm N w) (hF : ∀ j, F j → p ≤ j) (hp : p ≤ ws.heap.size) (hM : ∀ s f, fm s = some f → f.l.length ≤ M) (hMM : M ≤ 1000000) (hN : N < 1000000) (f : File) (hf : fm trK = some f) (hw : Whole f)
    (A : Option Addr) (n cp : Nat) (keep : List Int) (hk : Ints w A n keep) (hold : ∀ ad, A = some ad → 0 < n → ad.block < p) (hn : n ≤ 1000000) :
    Calls Tryz.prog 17 #[.pointer (some ⟨p, 0, none⟩), .slice A n cp] w fun e w' => e = .returned (.tuple #[]) ∧ Below p w w' ∧ Calls Tryz.prog 18 #[.pointer (some ⟨p, 0, none⟩), .string trS] w' fun e w2 => ∃ g, e = .returned (.tuple #[.slice (some ⟨g, 0, none⟩) f.l.length f.l.length, .int .i64 0]) ∧ Bytes w2 (some ⟨g, 0, none⟩) f.l.length f.l ∧ Below p w' w2 := by
  obtain ⟨mb, D, hd, hf2⟩ := h.ex
  have hpl : p < w.heap.size := hd.facts.2.2.2.2.2.2.2
  refine (dis.restart_any hd hM hMM hN h.base A n cp keep hk hold hn).mono ?_
  rintro e w' ⟨rfl, ns, mb', D', hl, hd', ht, hf'⟩
  have hfp : ∀ j, Foot p mb D j → p ≤ j := fun j hj => (hd.foot_lt j hj).1
  have hr := dis.rfold_whole (keep := keep) hw ns (fm, 0, c.used) hf
  have hsize := ht.2.2.2.1
  refine ⟨rfl, ht.toBelow p (by omega) (fun i hi hh => by have := hfp i hh; omega), ?_⟩
  refine (dis.read_some trS (by decide) hd' rfl f hr (by have := hM trK f hf; omega)).mono ?_
  rintro e w2 ⟨g, rfl, hg, hc, hb⟩
  refine ⟨g, rfl, ⟨rfl, ?_, fun h0 => ⟨g, 0, rfl, fun i hi => ?_⟩⟩, hb.mono (by omega)⟩
  · obtain ⟨sl, -, -, h256, -⟩ := hd'.file trK f hr
    exact h256
  · simp [World.cell?, hc, codec.vals, List.getD, hi]
/-- What is done, call by call. -/
def LaysPack (W : World) (p : Nat) (w1 : World) (A0 : Option Addr) (N0 C0 : Nat) (L0 : List Nat) (A1 : Option Addr) (N1 C1 : Nat) (L1 : List Nat) (r : Nat) (A3 : Option Addr) (N3 C3 : Nat) : Prop :=
  ∃ R1 R2 : World → Prop,
    (Calls Tryz.prog 15 #[.pointer (some ⟨p, 0, none⟩), .string trS, .slice A0 N0 C0] w1 fun e w' => e = .returned (.int .i64 0) ∧ R1 w') ∧
    (∀ w, R1 w → Calls Tryz.prog 16 #[.pointer (some ⟨p, 0, none⟩), .int .i64 (r : Int)] w fun e w' => e = .returned (.int .i64 0) ∧ R2 w') ∧
    (∀ w, R2 w → Calls Tryz.prog 15 #[.pointer (some ⟨p, 0, none⟩), .string trS, .slice A1 N1 C1] w fun e w' => (∃ R3 : World → Prop, R3 w' ∧ ((e = .returned (.int .i64 6) ∧ ∀ w, R3 w → Calls Tryz.prog 17 #[.pointer (some ⟨p, 0, none⟩), .slice A3 N3 C3] w fun e w' => e = .returned (.tuple #[]) ∧ Calls Tryz.prog 18 #[.pointer (some ⟨p, 0, none⟩), .string trS] w' fun e w2 => ∃ g, e = .returned (.tuple #[.slice (some ⟨g, 0, none⟩) N0 N0, .int .i64 0]) ∧ Bytes w2 (some ⟨g, 0, none⟩) N0 L0 ∧ Bytes w2 A0 N0 L0 ∧ Below W.heap.size W w2) ∨
      (e = .returned (.int .i64 0) ∧ ∀ w, R3 w → Calls Tryz.prog 17 #[.pointer (some ⟨p, 0, none⟩), .slice A3 N3 C3] w fun e w' => e = .returned (.tuple #[]) ∧ Calls Tryz.prog 18 #[.pointer (some ⟨p, 0, none⟩), .string trS] w' fun e w2 => ∃ g, e = .returned (.tuple #[.slice (some ⟨g, 0, none⟩) N1 N1, .int .i64 0]) ∧ Bytes w2 (some ⟨g, 0, none⟩) N1 L1 ∧ Bytes w2 A1 N1 L1 ∧ Below W.heap.size W w2)))) ∧ True
theorem lays_pack (W w0 w1 : World) (hb0 : Below W.heap.size W w0) (hb1 : Below w0.heap.size w0 w1) (hd : Dsk w1 w0.heap.size w0.heap.size none (.map []) ⟨1048576, 0, false, 0, false⟩ (fun _ => none) 0) (A0 : Option Addr) (N0 C0 : Nat) (L0 : List Nat) (hB0 : Bytes W A0 N0 L0) (hc0 : N0 ≤ C0) (hn0 : A0 = none → C0 = 0) (A1 : Option Addr) (N1 C1 : Nat) (L1 : List Nat) (hB1 : Bytes W A1 N1 L1) (hc1 : N1 ≤ C1) (hn1 : A1 = none → C1 = 0)
    (r : Nat) (A3 : Option Addr) (N3 C3 : Nat) (L3 : List Int) (hI : Ints W A3 N3 L3) (hs : N0 + N1 ≤ 5000) (hs3 : N3 ≤ 50) : LaysPack W w0.heap.size w1 A0 N0 C0 L0 A1 N1 C1 L1 r A3 N3 C3 := by
  have hW0 := hb0.size
  have hbW1 : Below W.heap.size W w1 := hb0.trans (hb1.mono hb0.size)
  have hpl : w0.heap.size < w1.heap.size := hd.facts.2.2.2.2.2.2.2
  generalize w0.heap.size = p at *
  have hF : ∀ j, Foot p none (.map []) j → p ≤ j := fun j hj => (hd.foot_lt j hj).1
  have hbe : ∀ {A : Option Addr} {n : Nat} {l : List Nat}, Bytes W A n l → Beside w1 (Foot p none (.map [])) A n := fun hB ad e h0 => by
    have := hB.lt ad e h0
    refine ⟨by omega, fun hh => ?_⟩
    have := hF _ hh
    omega
  have hkeep : ∀ {w : World} {A : Option Addr} {n : Nat} {l : List Nat}, Below W.heap.size W w → Bytes W A n l → Bytes w A n l := fun hb hB => hB.below hB.lt hb
  have l0 := hB0.1
  have l1 := hB1.1
  have calm0 : Calm ⟨1048576, 0, false, 0, false⟩ := ⟨rfl, rfl, by decide, by decide, by decide, by decide⟩
  have hM0 : ∀ x f, (fun _ => none : FM) x = some f → f.l.length ≤ 5000 := fun x f e => by cases e
  have hM1 : ∀ x f, upd (fun _ => none) trK (allSafe L0) x = some f → f.l.length ≤ 5000 := upd_bound' hM0 (by omega)
  have K1 := Kept.start hd
  have e0 : lenAt (fun _ => none) trK = 0 := rfl
  have hB (w : World) {c : Cfg} {fm : FM} {N : Nat} (hk : Kept w1 (Foot p none (.map [])) p p c fm N w) : Below W.heap.size W w := hbW1.trans (hk.toBelow (Nat.le_of_lt (by omega)) fun j hj hh => by have := hF j hh; omega)
  refine ⟨fun w => Kept w1 (Foot p none (.map [])) p p (withU ⟨1048576, 0, false, 0, false⟩ (0 + L0.length - (0 : Nat))) (upd (fun _ => none) trK (allSafe L0)) 3 w, fun w => Kept w1 (Foot p none (.map [])) p p ⟨1048576, 0 + L0.length - (0 : Nat), true, (r : Int), false⟩ (upd (fun _ => none) trK (allSafe L0)) 4 w, ?_, fun w hk => ?_, fun w hk => ?_, trivial⟩
  · have := lay_ok K1 calm0 rfl hM0 trS (by decide) (by decide) (by decide) A0 N0 C0 L0 (hkeep hbW1 hB0) (hbe hB0) hn0 hc0 (by omega) (by omega) (by show (0 : Int) + L0.length ≤ 1048576; omega)
    exact this
  · have := hk.does (N' := 4) (r := fFuse (withU ⟨1048576, 0, false, 0, false⟩ (0 + L0.length - (0 : Nat))) (upd (fun _ => none) trK (allSafe L0)) (r : Int)) fun mb D hd => dis.fuse_exact w p p mb D _ _ 3 (r : Int) hd
    have ef : fFuse (withU ⟨1048576, 0, false, 0, false⟩ (0 + L0.length - (0 : Nat))) (upd (fun _ => none) trK (allSafe L0)) (r : Int) = (⟨1048576, 0 + L0.length - (0 : Nat), true, (r : Int), false⟩, upd (fun _ => none) trK (allSafe L0), 0) := by
      unfold fFuse
      rw [if_neg (by simp [withU]), if_neg (by omega)]
      rfl
    rw [ef] at this
    exact this
  · have hx := lay_fused (c := ⟨1048576, 0 + L0.length - (0 : Nat), true, (r : Int), false⟩) (fm := upd (fun _ => none) trK (allSafe L0)) (t := trK) (L := L1) (f0 := allSafe L0) (M := 5000) rfl (by rw [upd_other _ _ (by decide)]) (by decide) (by decide) (upd_same _ _ _) (by
      unfold dis.cRoom
      rw [wrap_in (by simp only []; omega) (by simp only []; omega)]
      simp only []
      omega) hM1 (by omega)
    have := lay_any hk (by rw [upd_other _ _ (by decide)]) hM1 trS (by decide) A1 N1 C1 L1 (hkeep (hB w hk) hB1) (hbe hB1) hn1 hc1 (by omega) (by omega)
    refine this.mono ?_
    rintro e w' ⟨rfl, hk'⟩
    rw [show trS.data.toList = trK from rfl] at hk' ⊢
    generalize fLay ⟨1048576, 0 + L0.length - (0 : Nat), true, (r : Int), false⟩ (upd (fun _ => none) trK (allSafe L0)) trK L1 = x at *
    obtain ⟨c3, fm3, e3⟩ := x
    simp only at hx hk' ⊢
    obtain ⟨hx1, hM3⟩ := hx
    refine ⟨fun w => Kept w1 (Foot p none (.map [])) p p c3 fm3 (4 + 3) w, hk', ?_⟩
    have hold : ∀ ad, A3 = some ad → 0 < N3 → ad.block < p := fun ad e h0 => by have := hI.lt ad e h0; omega
    rcases hx1 with ⟨rfl, hf⟩ | ⟨rfl, hf⟩
    · refine .inl ⟨rfl, fun w hk => ?_⟩
      have hIw : Ints w A3 N3 L3 := hI.kept fun ad e h0 => (hB w hk).block _ (hI.lt ad e h0)
      refine (backRead hk hF (Nat.le_of_lt hpl) hM3 (by omega) (by omega) (allSafe L0) hf ⟨rfl, rfl⟩ A3 N3 C3 L3 hIw hold (by omega)).mono ?_
      rintro e w' ⟨rfl, hb, hrd⟩
      refine ⟨rfl, hrd.mono ?_⟩
      rintro e w2 ⟨g, rfl, hg, hb2⟩
      have hbb : Below W.heap.size W w2 := (hB w hk).trans ((hb.trans hb2).mono hW0)
      refine ⟨g, by rw [show (allSafe L0).l.length = N0 from l0], ?_, hkeep hbb hB0, hbb⟩
      rw [show (allSafe L0).l.length = N0 from l0] at hg
      exact hg
    · refine .inr ⟨rfl, fun w hk => ?_⟩
      have hIw : Ints w A3 N3 L3 := hI.kept fun ad e h0 => (hB w hk).block _ (hI.lt ad e h0)
      refine (backRead hk hF (Nat.le_of_lt hpl) hM3 (by omega) (by omega) (allSafe L1) hf ⟨rfl, rfl⟩ A3 N3 C3 L3 hIw hold (by omega)).mono ?_
      rintro e w' ⟨rfl, hb, hrd⟩
      refine ⟨rfl, hrd.mono ?_⟩
      rintro e w2 ⟨g, rfl, hg, hb2⟩
      have hbb : Below W.heap.size W w2 := (hB w hk).trans ((hb.trans hb2).mono hW0)
      refine ⟨g, by rw [show (allSafe L1).l.length = N1 from l1], ?_, hkeep hbb hB1, hbb⟩
      rw [show (allSafe L1).l.length = N1 from l1] at hg
      exact hg
end Go.Proofs.YthhflkgngencdaaGreatDoor.sto
