/- The rounds of a block. -/
import Derived.Test.YtdbdeplabipfaaaGreatDoorSumB
namespace Go.Proofs.YtdbdeplabipfaaaGreatDoor.sumDoor
open Go.ChangeShapes Go.WideShapes Go.ChangeAt Go.RowKit Go.Proofs.YtdbdeplabipfaaaGreatDoor.sumPlain
set_option linter.unusedVariables false
set_option maxRecDepth 100000

/-- The words of the rounds are laid. -/
def Laid (w : World) : Prop := ∀ i, i < 64 → w.cell? ⟨0, i, none⟩ = some (.int .u32 (consts.getD i 0 : Nat))
theorem Laid.lt {w : World} (h : Laid w) : 0 < w.heap.size := block_lt_of_cell (h 0 (by omega))
theorem Laid.below {w w' : World} {B : Nat} (h : Laid w) (hB : 0 < B) (hb : Below B w w') : Laid w' := fun i hi => (hb.cell (p := ⟨0, i, none⟩) hB).trans (h i hi)

theorem rot_quiet (w : World) (q x : Nat) (m : Int) (n : Nat) (hm : m = n) (hx : x < 4294967296) (h1 : 1 ≤ n) (hn : n ≤ 31) :
    Calls Tryz.prog 74 #[.int .u32 x, .int .u64 m] (w.drewN q) fun e w'' => e = .returned (.int .u32 (rot x n : Nat)) ∧ ∃ r, w'' = w.drewN r :=
  (rotated_i (w.drewN q) x m n hm hx h1 hn).mono fun _ _ ⟨he, hw⟩ => ⟨he, q, hw.symm⟩

theorem start11 (w : World) (s : Eight) (ws : List Nat) (hw : ws.length = 64) (Z : Array Value) :
    (((w.alloc (.cells (cells8 .u32 s) 86)).alloc (.cells (cellsOf .u32 ws) 89)).alloc (.cells Z 86)).heap[w.heap.size]? = some (.cells (cells8 .u32 s) 86 (0, 0)) ∧
    (((w.alloc (.cells (cells8 .u32 s) 86)).alloc (.cells (cellsOf .u32 ws) 89)).alloc (.cells Z 86)).rowIs (w.heap.size + 1) 89 64 (fun j => .int .u32 (ws.getD j 0 : Nat)) ∧
    (((w.alloc (.cells (cells8 .u32 s) 86)).alloc (.cells (cellsOf .u32 ws) 89)).alloc (.cells Z 86)).heap[w.heap.size + 1 + 1]? = some (.cells Z 86 (0, 0)) ∧
    Below w.heap.size w (((w.alloc (.cells (cells8 .u32 s) 86)).alloc (.cells (cellsOf .u32 ws) 89)).alloc (.cells Z 86)) := by
  refine ⟨?_, ?_, ?_, ?_⟩
  · rw [Below.heap_alloc _ _ _ (by simp; omega), Below.heap_alloc _ _ _ (by simp)]
    exact heap_alloc_new _ _
  · refine World.rowIs.alloc ?_ _
    have := World.rowIs_alloc (w.alloc (.cells (cells8 .u32 s) 86)) (cellsOf .u32 ws) 89 (fun j => .int .u32 (ws.getD j 0 : Nat)) (fun i hi => by
      simp [cellsOf] at hi
      simp [cellsOf, List.getD, hi])
    have e1 : (cellsOf .u32 ws).size = 64 := by simp [cellsOf, hw]
    have e2 : (w.alloc (.cells (cells8 .u32 s) 86)).heap.size = w.heap.size + 1 := by simp
    rwa [e1, e2] at this
  · have := heap_alloc_new ((w.alloc (.cells (cells8 .u32 s) 86)).alloc (.cells (cellsOf .u32 ws) 89)) (.cells Z 86)
    simpa using this
  · exact (((Below.refl _ _).alloc (Nat.le_refl _) _).alloc (by simp) _).alloc (by simp; omega) _

/-- What lies in memory while a block is turned. -/
def Turn (w : World) (s : Eight) (ws : List Nat) (wr : World) : Prop :=
  wr.heap[w.heap.size]? = some (.cells (cells8 .u32 s) 86 (0, 0)) ∧ wr.rowIs (w.heap.size + 1) 89 64 (fun j => .int .u32 (ws.getD j 0 : Nat)) ∧
  wr.heap[w.heap.size + 1 + 1]? = some (.cells #[.int .u32 0, .int .u32 0, .int .u32 0, .int .u32 0, .int .u32 0, .int .u32 0, .int .u32 0, .int .u32 0] 86 (0, 0)) ∧ Below w.heap.size w wr ∧ Laid wr
theorem Turn.draws {w wr : World} {s : Eight} {ws : List Nat} (h : Turn w s ws wr) (n : Nat) : Turn w s ws (wr.drewN n) :=
  ⟨h.1, h.2.1, h.2.2.1, below_draws h.2.2.2.1 n, h.2.2.2.2⟩

theorem not_i (e : Nat) (he : e < 4294967296) : bits .xor .u32 IntKind.u32.max (e : Int) = ((4294967295 ^^^ e : Nat) : Int) := u32_xor_nat 4294967295 e (by omega) he
theorem chs_i (e f g : Nat) (he : e < 4294967296) (hf : f < 4294967296) (hg : g < 4294967296) :
    bits .xor .u32 (bits .and .u32 (e : Int) (f : Int)) (bits .and .u32 (bits .xor .u32 IntKind.u32.max (e : Int)) (g : Int)) = ((chs e f g : Nat) : Int) := by
  rw [not_i e he, u32_and_nat _ _ he hf, u32_and_nat _ _ (xor_lt32 (by omega) he) hg, u32_xor_nat _ _ (and_lt32 hf) (and_lt32 hg)]
  rfl
theorem mjr_i (a b c : Nat) (ha : a < 4294967296) (hb : b < 4294967296) (hc : c < 4294967296) :
    bits .xor .u32 (bits .xor .u32 (bits .and .u32 (a : Int) (b : Int)) (bits .and .u32 (a : Int) (c : Int))) (bits .and .u32 (b : Int) (c : Int)) = ((mjr a b c : Nat) : Int) := by
  rw [u32_and_nat _ _ ha hb, u32_and_nat _ _ ha hc, u32_and_nat _ _ hb hc, u32_xor_nat _ _ (and_lt32 hb) (and_lt32 hc), u32_xor_nat _ _ (xor_lt32 (and_lt32 hb) (and_lt32 hc)) (and_lt32 hc)]
  rfl
theorem bg0_i (x : Nat) (hx : x < 4294967296) : bits .xor .u32 (bits .xor .u32 ((rot x 2 : Nat) : Int) ((rot x 13 : Nat) : Int)) ((rot x 22 : Nat) : Int) = ((bg0 x : Nat) : Int) := by
  rw [u32_xor_nat _ _ (rot_lt 2 hx) (rot_lt 13 hx)]
  exact u32_xor_nat _ _ (xor_lt32 (rot_lt 2 hx) (rot_lt 13 hx)) (rot_lt 22 hx)
theorem bg1_i (x : Nat) (hx : x < 4294967296) : bits .xor .u32 (bits .xor .u32 ((rot x 6 : Nat) : Int) ((rot x 11 : Nat) : Int)) ((rot x 25 : Nat) : Int) = ((bg1 x : Nat) : Int) := by
  rw [u32_xor_nat _ _ (rot_lt 6 hx) (rot_lt 11 hx)]
  exact u32_xor_nat _ _ (xor_lt32 (rot_lt 6 hx) (rot_lt 11 hx)) (rot_lt 25 hx)

/-- The first k words are added. -/
def half (s t : Eight) (k j : Nat) : Nat := if j < k then (s.nth j + t.nth j) % 4294967296 else s.nth j
theorem get8 (kd : IntKind) (s : Eight) : ∀ i, i < 8 → (cells8 kd s)[i]? = some (.int kd (s.nth i : Nat))
  | 0, _ => rfl
  | 1, _ => rfl
  | 2, _ => rfl
  | 3, _ => rfl
  | 4, _ => rfl
  | 5, _ => rfl
  | 6, _ => rfl
  | 7, _ => rfl
  | n + 8, h => by omega
theorem size8 (s : Eight) : (Tryz.prog.info? 86).map (·.size) = some (cells8 .u32 s).size := by
  rw [show (cells8 .u32 s).size = 8 from rfl]
  kernel_rfl
theorem all8 (kd : IntKind) (s : Eight) : (cells8 kd s).all (·.oneCell') = true := by
  simp [cells8, Value.oneCell']
theorem row8 {w : World} {g : Nat} {t' : TypeId} {s t : Eight} (h : w.heap[g]? = some (.cells (cells8 .u32 s) t' (0, 0))) : w.rowIs g t' 8 (fun j => .int .u32 (half s t 0 j : Nat)) :=
  ⟨_, h, rfl, fun i hi => by rw [get8 _ s i hi]; simp [half]⟩
theorem index8 (w : World) (t : Eight) : ∀ k : Nat, k < 8 → (Instr.index 86 (.agg #[.int .u32 t.a, .int .u32 t.b, .int .u32 t.c, .int .u32 t.d, .int .u32 t.e, .int .u32 t.f, .int .u32 t.g, .int .u32 t.h]) (.int .i64 (k : Int))).run Tryz.prog w = .ok (.int .u32 (t.nth k : Nat)) w
  | 0, _ => by kernel_rfl
  | 1, _ => by kernel_rfl
  | 2, _ => by kernel_rfl
  | 3, _ => by kernel_rfl
  | 4, _ => by kernel_rfl
  | 5, _ => by kernel_rfl
  | 6, _ => by kernel_rfl
  | 7, _ => by kernel_rfl
  | n + 8, h => by omega
theorem half_step {wr : World} {N k : Nat} {t' : TypeId} {s t : Eight} {v : Int} (h : wr.rowIs N t' 8 (fun j => .int .u32 (half s t k j : Nat))) (hv : v = ((s.nth k + t.nth k) % 4294967296 : Nat)) :
    (wr.setCell ⟨N, k, none⟩ (.int .u32 v)).rowIs N t' 8 (fun j => .int .u32 (half s t (k + 1) j : Nat)) := by
  refine (h.set k _).congr fun j hj => ?_
  by_cases e : j = k
  · subst e; simp only [if_true]; rw [hv]; simp [half]
  · simp only [if_neg e]
    have : (j < k + 1) ↔ (j < k) := by omega
    simp [half, this]
theorem half_done {cs : Array Value} {s t : Eight} (hs : cs.size = 8) (h : ∀ i, i < 8 → cs[i]? = some (.int .u32 (half s t 8 i : Nat))) : cs = cells8 .u32 (s.add t) := by
  apply Array.ext_getElem?
  intro i
  by_cases hi : i < 8
  · rw [h i hi, get8 _ _ i hi, add_nth s t i hi]
    simp [half, hi]
  · rw [Array.getElem?_eq_none (by omega), Array.getElem?_eq_none (by simp [cells8]; omega)]

set_option maxRecDepth 100000 in
set_option maxHeartbeats 1000000 in
theorem turnedBlock_any (w : World) (s : Eight) (ws : List Nat) (hs : s.Ok) (hw : ws.length = 64) (hlt : ∀ x ∈ ws, x < 4294967296) (hL : Laid w) :
    Calls Tryz.prog 58 #[.agg (cells8 .u32 s), .agg (cellsOf .u32 ws)] w fun e w' => e = .returned (.agg (cells8 .u32 (s.add (rounds ws s 64)))) ∧ Below w.heap.size w w' := by
  have HL := Lib.hid hL
  have HT := Lib.hid hlt
  have HS := Lib.hid hs
  have hN : 0 < w.heap.size := hL.lt
  have F := Lib.hid (start11 w s ws hw #[.int .u32 0, .int .u32 0, .int .u32 0, .int .u32 0, .int .u32 0, .int .u32 0, .int .u32 0, .int .u32 0])
  clear hL hw hlt hs
  go_enter Tryz.func58, Tryz.ntmps58
  go_wp2
  generalize (((w.alloc (.cells (cells8 .u32 s) 86)).alloc (.cells (cellsOf .u32 ws) 89)).alloc (.cells #[.int .u32 0, .int .u32 0, .int .u32 0, .int .u32 0, .int .u32 0, .int .u32 0, .int .u32 0, .int .u32 0] 86)) = wz at *
  obtain ⟨f0, f1, f2, fB⟩ := F.out
  have LZ : Hid (Laid wz) := HL.out.below hN fB
  have c0 : wz.cell? ⟨w.heap.size, 0, none⟩ = some (.int .u32 s.a) := (cell_of_row _ _ _ _ _ _ f0)
  have c1 : wz.cell? ⟨w.heap.size, 1, none⟩ = some (.int .u32 s.b) := (cell_of_row _ _ _ _ _ _ f0)
  have c2 : wz.cell? ⟨w.heap.size, 2, none⟩ = some (.int .u32 s.c) := (cell_of_row _ _ _ _ _ _ f0)
  have c3 : wz.cell? ⟨w.heap.size, 3, none⟩ = some (.int .u32 s.d) := (cell_of_row _ _ _ _ _ _ f0)
  have c4 : wz.cell? ⟨w.heap.size, 4, none⟩ = some (.int .u32 s.e) := (cell_of_row _ _ _ _ _ _ f0)
  have c5 : wz.cell? ⟨w.heap.size, 5, none⟩ = some (.int .u32 s.f) := (cell_of_row _ _ _ _ _ _ f0)
  have c6 : wz.cell? ⟨w.heap.size, 6, none⟩ = some (.int .u32 s.g) := (cell_of_row _ _ _ _ _ _ f0)
  have c7 : wz.cell? ⟨w.heap.size, 7, none⟩ = some (.int .u32 s.h) := (cell_of_row _ _ _ _ _ _ f0)
  have HF : Hid (Turn w s ws wz) := ⟨f0, f1, f2, fB, LZ.out⟩
  clear f0 f1 f2 fB F HL LZ
  go_quiet (fail)
  go_wp2
  go_quiet (fail)
  clear c0 c1 c2 c3 c4 c5 c6 c7
  go_wp2
  rename_i nq1 _ nq2
  go_loopw [5, 6, 7, 8, 9, 10, 11, 12, 13, 14, 15, 16, 17, 36] (fun a b c d e f g h _ _ _ _ _ i wr => ∃ k : Nat, k ≤ 64 ∧ i = .int .i64 k ∧ a = .int .u32 (rounds ws s k).a ∧ b = .int .u32 (rounds ws s k).b ∧ c = .int .u32 (rounds ws s k).c ∧ d = .int .u32 (rounds ws s k).d ∧ e = .int .u32 (rounds ws s k).e ∧ f = .int .u32 (rounds ws s k).f ∧ g = .int .u32 (rounds ws s k).g ∧ h = .int .u32 (rounds ws s k).h ∧ Turn w s ws wr) (fun _ _ _ _ _ _ _ _ _ _ _ _ _ i _ => 64 - (intOf i).toNat)
  case atStart => exact ⟨0, by omega, rfl, rfl, rfl, rfl, rfl, rfl, rfl, rfl, rfl, (HF.out.draws _).draws _⟩
  case round =>
    obtain ⟨k, hk, rfl, rfl, rfl, rfl, rfl, rfl, rfl, rfl, rfl, hturn⟩ := hrel
    by_cases hlt : k < 64
    · obtain ⟨oa, ob, oc, od, oe, of, og, oh⟩ := rounds_ok HS.out ws k
      have HN : Hid (rounds ws s (k + 1) = round (rounds ws s k) (consts.getD k 0) (ws.getD k 0)) := rfl
      have ck := hturn.2.2.2.2 k hlt
      have cw := hturn.2.1.cell hlt
      have yw := getD_lt HT.out k
      have yk : consts.getD k 0 < 4294967296 := getD_lt (by decide) k
      have HF := Lib.hid hturn
      clear hturn
      generalize rounds ws s k = R at *
      generalize consts.getD k 0 = kk at *
      generalize ws.getD k 0 = ww at *
      obtain ⟨a, b, c, d, e, f, g, h⟩ := R
      simp only at oa ob oc od oe of og oh
      simp only
      have HCH := Lib.hid (chs_i e f g oe of og)
      have HMJ := Lib.hid (mjr_i a b c oa ob oc)
      have HB0 := Lib.hid (bg0_i a oa)
      have HB1 := Lib.hid (bg1_i e oe)
      have lk : (k : Int) < 64 := by omega
      go_wp2
      rw [HCH.out]
      go_quiet ((go_at_call 74; first | (with_reducible exact rot_quiet _ _ e 6 6 rfl oe (by omega) (by omega)) | (with_reducible exact rot_quiet _ _ e 11 11 rfl oe (by omega) (by omega)) | (with_reducible exact rot_quiet _ _ e 25 25 rfl oe (by omega) (by omega))))
      rw [HB1.out]
      have HFq : Hid (Turn w s ws (wr.drewN nq)) := HF.out.draws nq
      clear ck cw HF
      generalize wr.drewN nq = wq at *
      go_wp2_with fail
      (with_reducible refine (rotated_i _ a 2 2 rfl oa (by omega) (by omega)).mono ?_)
      rintro e w' ⟨rfl, rfl⟩
      go_wp2_with fail
      (with_reducible refine (rotated_i _ a 13 13 rfl oa (by omega) (by omega)).mono ?_)
      rintro e w' ⟨rfl, rfl⟩
      go_wp2_with fail
      (with_reducible refine (rotated_i _ a 22 22 rfl oa (by omega) (by omega)).mono ?_)
      rintro e w' ⟨rfl, rfl⟩
      rw [HMJ.out]
      go_wp2
      rw [HB0.out]
      go_roundw
      case rel => exact ⟨k + 1, by omega, by go_num, by rw [HN.out]; simp [round, low, high], by rw [HN.out]; rfl, by rw [HN.out]; rfl, by rw [HN.out]; rfl, by rw [HN.out]; simp [round, low], by rw [HN.out]; rfl, by rw [HN.out]; rfl, by rw [HN.out]; rfl, HFq.out⟩
      case measure => simp [intOf]; omega
    · obtain rfl : k = 64 := by omega
      have HF := Lib.hid hturn
      have HO := Lib.hid (rounds_ok HS.out ws 64)
      clear hturn
      obtain ⟨t, ht⟩ : ∃ t, t = rounds ws s 64 := ⟨_, rfl⟩
      rw [← ht] at HO
      rw [← ht]
      have HTT := Lib.hid ht
      clear ht
      rw [show ((64 : Nat) : Int) = 64 from rfl]
      go_wp2
      go_loopw [18, 19, 110] (fun _ _ i wr => ∃ k : Nat, k ≤ 8 ∧ i = .int .i64 k ∧ wr.rowIs w.heap.size 86 8 (fun j => .int .u32 (half s t k j : Nat)) ∧ wr.heap[w.heap.size + 1 + 1]? = some (.cells #[.int .u32 0, .int .u32 0, .int .u32 0, .int .u32 0, .int .u32 0, .int .u32 0, .int .u32 0, .int .u32 0] 86 (0, 0)) ∧ Below w.heap.size w wr) (fun _ _ i _ => 8 - (intOf i).toNat)
      case atStart => exact ⟨0, by omega, rfl, row8 HF.out.1, HF.out.2.2.1, HF.out.2.2.2.1⟩
      case round =>
        clear HF
        obtain ⟨k, hk, rfl, hr, hz, hbel⟩ := hrel
        by_cases hlt : k < 8
        · have hidx := fun w => index8 w t k hlt
          have hc := hr.cell hlt
          have hf := hr.frozen k
          have o1 := nth_lt HS.out k
          have o2 := nth_lt HO.out k
          have HR := Lib.hid hr
          have HZ := Lib.hid hz
          have HBel := Lib.hid hbel
          have HH : Hid (half s t k k = s.nth k) := by simp [half, Hid]
          rw [HH.out] at hc
          have lk : (k : Int) < 8 := by omega
          clear hr hz hbel
          go_wp2
          go_roundw
          case rel => exact ⟨k + 1, by omega, by go_num, half_step HR.out (by simp), (Below.heap_setCell _ _ _ _ (by simp; omega)).trans HZ.out, HBel.out.setCell (Nat.le_refl _) _⟩
          case measure => simp [intOf]; omega
        · obtain rfl : k = 8 := by omega
          obtain ⟨cs, hcs, hsz, hget⟩ := hr
          obtain rfl : cs = cells8 .u32 (s.add t) := half_done hsz hget
          have HCS := Lib.hid hcs
          have HCZ := Lib.hid hz
          have HBel := Lib.hid hbel
          have HP := Lib.hid (size8 (s.add t))
          have HA := Lib.hid (all8 .u32 (s.add t))
          clear hcs hz hbel hget hsz
          go_wp2_with (first | (refine wpList_load_row rfl 86 (.tmp 2) rfl w.heap.size rfl 86 _ (0, 0) _ HCS.out Tryz.underlying86 rfl HP.out ?_) | (refine wpList_store_row rfl 86 (.tmp 4) (.tmp 121) rfl (w.heap.size + 1 + 1) _ rfl rfl 86 _ HCZ.out HP.out rfl HA.out ?_))
          refine bodyPost_ret (v := .agg (cells8 .u32 (s.add t))) ?_ rfl ⟨by rw [HTT.out], ?_⟩
          · refine results_cell_row Tryz.results58 _ _ (w.heap.size + 1 + 1) 86 _ (0, 0) _ rfl ?_ Tryz.underlying86 rfl HP.out
            exact row_new HCZ.out
          · exact below_setRow HBel.out (by omega) _
end Go.Proofs.YtdbdeplabipfaaaGreatDoor.sumDoor
