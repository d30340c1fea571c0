/- Texts in quotes, as the program reads them. -/
import Derived.Test.YtkbldbcgclnfeaaDoorLexW
namespace Go.Proofs.YtkbldbcgclnfeaaDoor.lx
open Go.ChangeShapes Go.WideShapes Go.ChangeAt Go.RowKit
open Go.Proofs.YtkbldbcgclnfeaaDoor.codec (Bytes vals)
open Go.Proofs.YtkbldbcgclnfeaaDoor.row
set_option linter.unusedVariables false
set_option maxRecDepth 100000
set_option linter.unusedSimpArgs false

theorem drop_at {b : List Nat} {i x : Nat} (h : b[i]? = some x) : b.drop i = x :: b.drop (i + 1) := by
  obtain ⟨h1, h2⟩ := List.getElem?_eq_some_iff.1 h
  rw [List.drop_eq_getElem_cons h1, h2]
theorem q_end {b : List Nat} {i : Nat} (h : b[i]? = some 34) : quoted (b.drop i) = some ([], b.drop (i + 1)) := by
  rw [drop_at h, quoted]
theorem q_esc {b : List Nat} {i y : Nat} (h : b[i]? = some 92) (hy : b[i + 1]? = some y) (h2 : y = 34 ∨ y = 92) : quoted (b.drop i) = (quoted (b.drop (i + 1 + 1))).map fun p => (y :: p.1, p.2) := by
  rw [drop_at h, drop_at hy, quoted, if_pos h2]
theorem q_esc_bad {b : List Nat} {i y : Nat} (h : b[i]? = some 92) (hy : b[i + 1]? = some y) (h2 : ¬ (y = 34 ∨ y = 92)) : quoted (b.drop i) = none := by
  rw [drop_at h, drop_at hy, quoted, if_neg h2]
theorem q_esc_end {b : List Nat} {i : Nat} (h : b[i]? = some 92) (hn : b.length = i + 1) : quoted (b.drop i) = none := by
  rw [drop_at h, List.drop_of_length_le (by omega), quoted]
theorem q_crlf {b : List Nat} {i : Nat} (h : b[i]? = some 13) (hy : b[i + 1]? = some 10) : quoted (b.drop i) = none := by
  rw [drop_at h, drop_at hy, quoted]
theorem q_other {b : List Nat} {i x : Nat} (h : b[i]? = some x) (h1 : x ≠ 34) (h2 : x ≠ 92) (h3 : ¬ (x = 13 ∧ b[i + 1]? = some 10)) : quoted (b.drop i) = (quoted (b.drop (i + 1))).map fun p => (x :: p.1, p.2) := by
  rw [drop_at h, quoted]
  · exact h1
  · intro e _; exact h2 e
  · intro y s e _; exact h2 e
  · intro s e hs
    refine h3 ⟨e, ?_⟩
    have := congrArg List.head? hs
    rw [List.head?_drop] at this
    exact this
theorem q_nil {b : List Nat} {i : Nat} (h : b.length ≤ i) : quoted (b.drop i) = none := by
  rw [List.drop_of_length_le h, quoted]
theorem has_crlf {b : List Nat} (hb : ∀ x ∈ b, x < 256) (i : Nat) : Lib.hasPrefix (octs (b.drop i)) (octs [13, 10]) = decide (b[i]? = some 13 ∧ b[i + 1]? = some 10) := by
  have key : ∀ (l : List Nat), (∀ x ∈ l, x < 256) → Lib.hasPrefix (octs l) (octs [13, 10]) = decide (l[0]? = some 13 ∧ l[1]? = some 10) := by
    intro l hl
    unfold Lib.hasPrefix
    match l with
    | [] => rfl
    | [x] => simp [octs, List.isPrefixOf]
    | x :: y :: r =>
      have hx := hl x (by simp)
      have hy := hl y (by simp)
      have h1 : ((UInt8.ofNat 13 == UInt8.ofNat x) : Bool) = decide (x = 13) := by
        by_cases h : x = 13
        · rw [h]; rfl
        · rw [decide_eq_false h, beq_eq_false_iff_ne]
          exact fun e => h (oct_inj (by decide) hx e).symm
      have h2 : ((UInt8.ofNat 10 == UInt8.ofNat y) : Bool) = decide (y = 10) := by
        by_cases h : y = 10
        · rw [h]; rfl
        · rw [decide_eq_false h, beq_eq_false_iff_ne]
          exact fun e => h (oct_inj (by decide) hy e).symm
      show ((UInt8.ofNat 13 == UInt8.ofNat x) && ((UInt8.ofNat 10 == UInt8.ofNat y) && true)) = _
      rw [h1, h2]
      simp
  have h := key (b.drop i) (fun x hx => hb x (List.mem_of_mem_drop hx))
  rw [h]
  congr 1
  rw [List.getElem?_drop, List.getElem?_drop]
  simp
theorem cells_snoc (acc : List Nat) (x : Nat) (hx : x < 256) : Lib.byteCells (octs (acc ++ [x])) = Lib.byteCells (octs acc) ++ [.int .u8 (x : Nat)] := by
  have e : (UInt8.ofNat x).toNat = x := by simp [Nat.mod_eq_of_lt hx]
  simp [Lib.byteCells, octs, e]
/-- What has been read of a text in quotes. -/
def QS (B bb : Nat) (W1 : World) (b : List Nat) (i : Nat) (acc : List Nat) (w : World) : Prop :=
  Lib.IsBuilder 48 5 B bb (Lib.byteCells (octs acc)) w ∧ Below B W1 w ∧ acc.length ≤ i ∧ quoted b = (quoted (b.drop i)).map fun p => (acc ++ p.1, p.2)
theorem QS.next {B bb : Nat} {W1 : World} {b : List Nat} {i j x : Nat} {acc : List Nat} {w w' : World} (h : QS B bb W1 b i acc w) (hx : x < 256) (hi : i < j) (hq : quoted (b.drop i) = (quoted (b.drop j)).map fun p => (x :: p.1, p.2)) (hB : Lib.BuilderAt 48 5 B bb (.pointer (some ⟨bb, 0, none⟩)) (Lib.byteCells (octs acc) ++ [.int .u8 (x : Nat)]) w') (hb : Below B w w') : QS B bb W1 b j (acc ++ [x]) w' := by
  obtain ⟨h1, h2, h3, h4⟩ := h
  refine ⟨.inr ?_, h2.trans hb, ?_, ?_⟩
  · rw [cells_snoc acc x hx]
    exact hB
  · rw [List.length_append, List.length_singleton]
    omega
  · rw [h4, hq, Option.map_map]
    congr 1
    funext p
    simp
theorem QS.none {B bb : Nat} {W1 : World} {b : List Nat} {i : Nat} {acc : List Nat} {w : World} (h : QS B bb W1 b i acc w) (hq : quoted (b.drop i) = none) : quoted b = none := by
  rw [h.2.2.2, hq]
  rfl
theorem builder_alloc {T e : TypeId} {B b : Nat} {bs : List Value} {w : World} (h : Lib.IsBuilder T e B b bs w) (o : Obj) : Lib.IsBuilder T e B b bs (w.alloc o) := by
  have key : ∀ p, Lib.BuilderAt T e B b p bs w → Lib.BuilderAt T e B b p bs (w.alloc o) := fun p h => by
    have hlt := h.lt
    obtain ⟨hB, v, hb, hown, hne⟩ := h
    exact ⟨hB, v, (heap_alloc_old w o hlt).trans hb, hown.alloc o, hne⟩
  exact h.imp (key _) (key _)
def quotedO (b : List Nat) : Option (Tk × List Nat) := (quoted b).map fun p => (⟨2, p.1⟩, p.2)
theorem cut_none {w w' : World} {A : Option Addr} {n c : Nat} {b : List Nat} {o : Option (Tk × List Nat)} (ho : o = none) {k : Int} {s : ByteArray} {R : Option Addr} {m d : Nat} (hb : Below w.heap.size w w') : CutAns w A n c b o (.returned (.tuple #[.agg #[.int .i64 k, .string s], .slice R m d, .bool false])) w' :=
  ⟨hb, k, s, R, m, d, by rw [ho]; rfl, fun t c' h => by rw [ho] at h; cases h⟩
theorem quoted_end {w w2 : World} {A R : Option Addr} {n c u m d k : Nat} {b acc : List Nat} {T : ByteArray} {E : Ending} {t : TypeId} {cs : Array Value} (hq : quoted b = some (acc, b.drop (k + 1))) (hT : T = strOf acc) (hb : Below w.heap.size w w2) (hu : w2.heap[u]? = some (.cells cs t (0, 0))) (hu2 : u = w.heap.size)
    (hE : E = .returned (.tuple #[.agg #[.int .i64 2, .string T], .slice R m d, .bool true])) (hR : ∀ w0, Sl w0 A n c b → Sl w0 R m d (b.drop (k + 1))) : CutAns w A n c b (quotedO b) E ((w2.setCell ⟨u, 0, none⟩ (.int .i64 2)).setCell ⟨u, 1, none⟩ (.string T)) := by
  have hb3 : Below w.heap.size w ((w2.setCell ⟨u, 0, none⟩ (.int .i64 2)).setCell ⟨u, 1, none⟩ (.string T)) := (hb.setCell (p := ⟨u, 0, none⟩) (by rw [hu2]; exact Nat.le_refl _) _).setCell (p := ⟨u, 1, none⟩) (by rw [hu2]; exact Nat.le_refl _) _
  have ho : quotedO b = some (⟨2, acc⟩, b.drop (k + 1)) := by unfold quotedO; rw [hq]; rfl
  refine ⟨hb3, 2, T, R, m, d, ?_, ?_⟩
  · rw [hE, ho]
    rfl
  · intro t' c' h
    rw [ho] at h
    cases h
    exact ⟨rfl, hT, hR⟩
theorem crlf_in {w : World} {g : Nat} (hg : w.heap[g]? = some (.cells #[.int .u8 13, .int .u8 10] 5 (2, 3))) : Bytes w (some ⟨g, 0, none⟩) 2 [13, 10] := by
  refine ⟨rfl, by decide, fun _ => ⟨g, 0, rfl, fun i hi => ?_⟩⟩
  have hc : ∀ (i : Nat) (v : Value), (#[.int .u8 13, .int .u8 10] : Array Value)[i]? = some v → w.cell? ⟨g, i, none⟩ = some v := fun i v hv => by simp [World.cell?, hg, hv]
  rw [Nat.zero_add]
  refine hc i _ ?_
  match i, hi with
  | 0, _ => rfl
  | 1, _ => rfl
set_option maxHeartbeats 4000000 in
theorem cutQuoted_any (w : World) (A : Option Addr) (n c : Nat) (b : List Nat) (hS : Sl w A n c b) (hn : n ≤ 1000000) :
    Calls Tryd.prog 20 #[.slice A n c] w fun e w' => CutAns w A n c b (quotedO b) e w' := by
  have hcvl := fun (w : World) (C : Array Value) (n c g : Nat) (hg : g = w.heap.size) => Go.Joins.run_convert_bytes_const_at (P := Tryd.prog) w 27 5 C n c g hg Tryd.underlying27 Tryd.underlying5
  obtain ⟨u, hu⟩ : ∃ u, u = w.heap.size := ⟨_, rfl⟩
  obtain ⟨bb, hbb⟩ : ∃ bb, bb = w.heap.size + 1 := ⟨_, rfl⟩
  obtain ⟨W0, hW0⟩ : ∃ W0, W0 = w.alloc (.cells #[.int .i64 0, .string ⟨#[]⟩] 29) := ⟨_, rfl⟩
  obtain ⟨W1, hW1⟩ : ∃ W1, W1 = W0.alloc (.cells #[.pointer none, .slice none 0 0] 48) := ⟨_, rfl⟩
  have hsz0 : W0.heap.size = w.heap.size + 1 := by rw [hW0]; simp
  have hb0 : Below w.heap.size w W0 := by rw [hW0]; exact (Below.refl _ _).alloc (Nat.le_refl _) _
  have hu0 : W0.heap[u]? = some (.cells #[.int .i64 0, .string ⟨#[]⟩] 29 (0, 0)) := by rw [hW0, hu]; exact heap_alloc_new _ _
  have hb1' : Below W0.heap.size W0 W1 := by rw [hW1]; exact (Below.refl _ _).alloc (Nat.le_refl _) _
  have hb1 : Below w.heap.size w W1 := hb0.trans (hb1'.mono (by omega))
  have hu1 : W1.heap[u]? = some (.cells #[.int .i64 0, .string ⟨#[]⟩] 29 (0, 0)) := (hb1'.block _ (by omega)).trans hu0
  have hB1 : W1.heap[bb]? = some (.cells #[.pointer none, .slice none 0 0] 48 (0, 0)) := by rw [hW1, hbb, ← hsz0]; exact heap_alloc_new _ _
  have hs1 : bb < W1.heap.size := (Array.getElem?_eq_some_iff.1 hB1).1
  have H0 := Lib.hid (show QS bb bb W1 b 0 [] W1 from ⟨.inl ⟨Nat.le_refl _, _, hB1, ⟨rfl, .inl ⟨rfl, rfl⟩⟩, by simp [Value.ownBlock]⟩, Below.refl _ _, Nat.le_refl _, by rw [List.drop_zero]; cases quoted b <;> rfl⟩)
  have HS := Lib.hid hS
  have HL := Lib.hid hS.1.1
  have hnc := hS.2.1
  rw [hW0] at hW1
  have HW1 := Lib.hid hW1
  have HU := Lib.hid hu
  have HBb := Lib.hid (show bb = u + 1 by rw [hbb, hu])
  have H1 := Lib.hid (And.intro hb1 (And.intro hu1 hs1))
  clear hS hW1 hu hbb hW0 hsz0 hb0 hu0 hb1' hb1 hu1 hB1 hs1
  go_enter Tryd.func20, Tryd.ntmps20
  go_wp2_with fail
  rw [← HW1.out, ← HU.out, ← HBb.out]
  go_loopw [6] (fun i wr => ∃ (k : Nat) (acc : List Nat), k ≤ n ∧ i = .int .i64 k ∧ Hid (QS bb bb W1 b k acc wr)) (fun i _ => n - (intOf i).toNat)
  case atStart => exact ⟨0, [], Nat.zero_le _, rfl, H0⟩
  case round =>
    obtain ⟨k, acc, hk, rfl, HQ⟩ := hrel
    have hub : wr.heap[u]? = some (.cells #[.int .i64 0, .string ⟨#[]⟩] 29 (0, 0)) := (HQ.out.2.1.block u (by rw [HBb.out]; omega)).trans H1.out.2.1
    have HUB := Lib.hid hub
    have hWb : Below w.heap.size w wr := H1.out.1.trans (HQ.out.2.1.mono (by rw [HBb.out, HU.out]; omega))
    have HWB := Lib.hid hWb
    have hbw : bb ≤ wr.heap.size := Nat.le_trans (Nat.le_of_lt H1.out.2.2) HQ.out.2.1.size
    have HBW := Lib.hid hbw
    have HSr := Lib.hid (HS.out.below hWb)
    have d0 := cell_at hub 0 (.int .i64 0) rfl
    have d1 := cell_at hub 1 (.string ⟨#[]⟩) rfl
    have y0 := frozen_of_row _ _ 0 _ _ hub
    have y1 := frozen_of_row _ _ 1 _ _ hub
    have lu := (Array.getElem?_eq_some_iff.1 hub).1
    clear hub hWb hbw
    obtain ⟨k1, k2, k3⟩ := two HUB.out rfl (.int .i64 0) (.string ⟨#[]⟩)
    have HK1 := Lib.hid k1
    have HK3 := Lib.hid (k3 _ _ HWB.out (by rw [HU.out]; exact Nat.le_refl _))
    clear k1 k2 k3
    by_cases hkn : k < n
    · obtain ⟨b0, o0, rfl, -⟩ := HS.out.1.2.2 (by omega)
      obtain ⟨x, hx, hx2, hxc⟩ := byte_at HSr.out.1 hkn
      have hkn' : (k : Int) < (n : Int) := by omega
      have HX := Lib.hid (And.intro hx hx2)
      by_cases h34 : x = 34
      · have q34 : ((x : Int) == 34) = true := by rw [beq_iff_eq]; omega
        obtain ⟨T, hT⟩ : ∃ T, T = strOf acc := ⟨_, rfl⟩
        have HT := Lib.hid hT
        have HStr := Lib.hid (fun (W : World) (hW : ∃ q, W = wr.drewN q) => (show Calls Tryd.prog 25 #[.pointer (some ⟨bb, 0, none⟩)] W fun e w' => e = .returned (.string T) ∧ Below bb wr w' by
          obtain ⟨q, rfl⟩ := hW
          refine (Tryd.Builder_String_any bb bb (octs acc) (wr.drewN q) HQ.out.1 HBW.out).mono ?_
          rintro e w' ⟨rfl, hb⟩
          exact ⟨by rw [hT]; rfl, ⟨hb.os, hb.tape, hb.output, hb.size, hb.block⟩⟩))
        have HN := Lib.hid (show quoted b = some (acc, b.drop (k + 1)) from by
          rw [HQ.out.2.2.2, q_end (by rw [hx, h34])]
          simp)
        have e5 : IntKind.i64.wrap ((k : Int) + 1) = (k : Int) + 1 := IntWalk.i64_in _ (by omega)
        have t1 : ((k : Int) + 1).toNat = k + 1 := by omega
        have b2 : (0 : Int) ≤ (k : Int) + 1 := by omega
        have b3 : (k : Int) + 1 ≤ (n : Int) := by omega
        have b4 : k + 1 ≤ n := by omega
        clear hT hx hx2 h34
        by_cases hck : c = k + 1
        · have e3 : c - (k + 1) = 0 := by omega
          have e4 : n - (k + 1) = 0 := by omega
          have HC := Lib.hid (And.intro hck (And.intro e3 e4))
          clear hck
          go_wp2_with fail
          go_region_with (go_at_call 25; refine (HStr.out _ (by first | exact ⟨1, rfl⟩ | exact ⟨0, rfl⟩ | exact ⟨_, rfl⟩)).mono ?_; rintro e w2 ⟨rfl, hb2⟩; have HB2 := Lib.hid hb2; have hub2 := (hb2.block u (by rw [HBb.out]; omega)).trans HUB.out; have HU2 := Lib.hid hub2; have f0 := cell_at hub2 0 (.int .i64 0) rfl; have f1 := cell_at hub2 1 (.string ⟨#[]⟩) rfl; have g0 := frozen_of_row _ _ 0 _ _ hub2; have g1 := frozen_of_row _ _ 1 _ _ hub2; have lu2 := (Array.getElem?_eq_some_iff.1 hub2).1; clear hb2 hub2)
          all_goals go_wp2_with fail
          all_goals
            refine bodyPost_ret (results_cell_tmp_tmp Tryd.results20 _ _ u _ _ _ _ rfl (two HU2.out rfl (.int .i64 2) (.string T)).1 Tryd.underlying29 rfl (tokSize _ rfl)) rfl ?_
            refine quoted_end HN.out HT.out (HWB.out.trans (HB2.out.mono (by rw [HBb.out, HU.out]; omega))) HU2.out HU.out rfl (fun w0 h0 => ?_)
            have h1 := h0.rest (k + 1) (by omega)
            rw [if_pos HC.out.1, HC.out.2.1, HC.out.2.2] at h1
            first | exact h1 | simpa [codec.add_none, HC.out.2.2] using h1
        · have e3 : ¬ c - (k + 1) = 0 := by omega
          have HC := Lib.hid hck
          clear hck
          go_wp2_with fail
          go_region_with (go_at_call 25; refine (HStr.out _ (by first | exact ⟨1, rfl⟩ | exact ⟨0, rfl⟩ | exact ⟨_, rfl⟩)).mono ?_; rintro e w2 ⟨rfl, hb2⟩; have HB2 := Lib.hid hb2; have hub2 := (hb2.block u (by rw [HBb.out]; omega)).trans HUB.out; have HU2 := Lib.hid hub2; have f0 := cell_at hub2 0 (.int .i64 0) rfl; have f1 := cell_at hub2 1 (.string ⟨#[]⟩) rfl; have g0 := frozen_of_row _ _ 0 _ _ hub2; have g1 := frozen_of_row _ _ 1 _ _ hub2; have lu2 := (Array.getElem?_eq_some_iff.1 hub2).1; clear hb2 hub2)
          all_goals go_wp2_with fail
          all_goals
            refine bodyPost_ret (results_cell_tmp_tmp Tryd.results20 _ _ u _ _ _ _ rfl (two HU2.out rfl (.int .i64 2) (.string T)).1 Tryd.underlying29 rfl (tokSize _ rfl)) rfl ?_
            refine quoted_end HN.out HT.out (HWB.out.trans (HB2.out.mono (by rw [HBb.out, HU.out]; omega))) HU2.out HU.out rfl (fun w0 h0 => ?_)
            have h1 := h0.rest (k + 1) (by omega)
            rw [if_neg HC.out] at h1
            first | exact h1 | simpa [codec.add_none] using h1
      · have q34 : ((x : Int) == 34) = false := by rw [beq_eq_false_iff_ne]; omega
        by_cases h92 : x = 92
        · have q92 : ((x : Int) == 92) = true := by rw [beq_iff_eq]; omega
          have e1 : IntKind.i64.wrap ((k : Int) + 1) = (k : Int) + 1 := IntWalk.i64_in _ (by omega)
          have t1 : ((k : Int) + 1).toNat = k + 1 := by omega
          have HX92 := Lib.hid h92
          by_cases hend : k + 1 = n
          · have q2 : ((k : Int) + 1 == (n : Int)) = true := by rw [beq_iff_eq]; omega
            have HN := Lib.hid (show quoted b = none from HQ.out.none (q_esc_end (by rw [hx, h92]) (by rw [HL.out, hend])))
            clear hx hx2 h34 h92 hend
            go_wp2_with fail
            refine bodyPost_ret (results_cell_tmp_tmp Tryd.results20 _ _ u _ _ _ _ rfl HK1.out Tryd.underlying29 rfl (tokSize _ rfl)) rfl ?_
            exact cut_none (by unfold quotedO; rw [HN.out]; rfl) HK3.out
          · have q2 : ((k : Int) + 1 == (n : Int)) = false := by rw [beq_eq_false_iff_ne]; omega
            obtain ⟨y, hy, hy2, hyc⟩ := byte_at HSr.out.1 (show k + 1 < n by omega)
            have l2 : (k : Int) + 1 < (n : Int) := by omega
            have b2 : (0 : Int) ≤ (k : Int) + 1 := by omega
            by_cases hyy : y = 34 ∨ y = 92
            · have HNx := Lib.hid (fun (w' : World) h1 h2 => QS.next HQ.out hy2 (show k < k + 2 by omega) (q_esc (by rw [hx, h92]) hy hyy) (w' := w') h1 h2)
              have HWr := Lib.hid (writeByte_any bb bb _ (y : Nat) wr HQ.out.1 (by have h3 := HQ.out.2.2.1; simp [Lib.byteCells, octs]; omega) HBW.out)
              have e2 : IntKind.i64.wrap ((k : Int) + 1 + 1) = (k : Int) + 2 := (IntWalk.i64_in _ (by omega)).trans (by omega)
              have hk2 : k + 2 ≤ n := by omega
              rcases hyy with h | h
              all_goals
                have q3 : ((y : Int) != 34) = decide (y ≠ 34) := by
                  rw [h]; rfl
                have q4 : ((y : Int) != 92) = decide (y ≠ 92) := by
                  rw [h]; rfl
                rw [h] at q3 q4
                have q5 : ((34 : Int) != 34) = false := rfl
                have HY := Lib.hid h
                subst h
                clear hx hx2 h34 h92 hend hy hy2 q3 q4
                go_wp2_with fail
                refine HWr.out.mono ?_
                rintro e w2 ⟨rfl, hB2, hb2⟩
                have HQ2 := Lib.hid (HNx.out w2 hB2 hb2)
                clear hB2 hb2 d0 d1 y0 y1 lu hyc hxc
                go_wp2_with fail
                go_roundw
                case rel => first | exact ⟨k + 2, _, hk2, by go_num, HQ2⟩ | ((repeat apply Exists.intro); exact ⟨⟨k + 2, _, hk2, by go_num, HQ2⟩, rfl⟩)
                case measure => (first | (show n - ((k : Int) + 2).toNat < n - k; omega) | (show n - ((k : Int) + 1 + 1).toNat < n - k; omega))
            · have HN := Lib.hid (show quoted b = none from HQ.out.none (q_esc_bad (by rw [hx, h92]) hy hyy))
              have q3 : ((y : Int) != 34) = true := by rw [bne_iff_ne]; omega
              have q4 : ((y : Int) != 92) = true := by rw [bne_iff_ne]; omega
              clear hx hx2 h34 h92 hend hy hy2 hyy
              go_wp2_with fail
              refine bodyPost_ret (results_cell_tmp_tmp Tryd.results20 _ _ u _ _ _ _ rfl HK1.out Tryd.underlying29 rfl (tokSize _ rfl)) rfl ?_
              exact cut_none (by unfold quotedO; rw [HN.out]; rfl) HK3.out
        · have q92 : ((x : Int) == 92) = false := by rw [beq_eq_false_iff_ne]; omega
          obtain ⟨W2, hW2⟩ : ∃ W2, W2 = wr.alloc (.cells #[.int .u8 13, .int .u8 10] 5 (2, 3)) := ⟨_, rfl⟩
          obtain ⟨g, hg⟩ : ∃ g, g = wr.heap.size := ⟨_, rfl⟩
          have hb2 : Below wr.heap.size wr W2 := by rw [hW2]; exact (Below.refl _ _).alloc (Nat.le_refl _) _
          have hg2 : W2.heap[g]? = some (.cells #[.int .u8 13, .int .u8 10] 5 (2, 3)) := by rw [hW2, hg]; exact heap_alloc_new _ _
          have hP2 := (HSr.out.below hb2).rest k (by omega)
          rw [if_neg (by omega)] at hP2
          simp only [Option.map_some, codec.add_none] at hP2
          have hcr := crlf_in hg2
          have hHas := Tryd.bytes_HasPrefix_all (some ⟨b0, o0 + k, none⟩) (some ⟨g, 0, none⟩) (n - k) (c - k) 2 2 ((b.drop k).map Int.ofNat) ([13, 10].map Int.ofNat) W2 (by rw [List.length_map]; exact hP2.1.1) rfl hP2.2.1 (Bytes.into hP2.1) (Bytes.into hcr)
          rw [octs_of, octs_of, has_crlf HS.out.1.2.1 k] at hHas
          have hB2 : Lib.IsBuilder 48 5 bb bb (Lib.byteCells (octs acc)) W2 := by rw [hW2]; exact builder_alloc HQ.out.1 _
          have hbW : Below bb wr W2 := hb2.mono HBW.out
          have hub2 : W2.heap[u]? = some (.cells #[.int .i64 0, .string ⟨#[]⟩] 29 (0, 0)) := (hb2.block u lu).trans HUB.out
          have f0 := cell_at hub2 0 (.int .i64 0) rfl
          have f1 := cell_at hub2 1 (.string ⟨#[]⟩) rfl
          have g0 := frozen_of_row _ _ 0 _ _ hub2
          have g1 := frozen_of_row _ _ 1 _ _ hub2
          have lu2 := (Array.getElem?_eq_some_iff.1 hub2).1
          have xc2 : W2.cell? ⟨b0, o0 + k, none⟩ = some (.int .u8 (x : Nat)) := (hb2.cell (p := ⟨b0, o0 + k, none⟩) (block_lt_of_cell hxc)).trans hxc
          obtain ⟨k1, k2, k3⟩ := two hub2 rfl (.int .i64 0) (.string ⟨#[]⟩)
          have HK1b := Lib.hid k1
          have HK3b := Lib.hid (k3 _ _ (HWB.out.trans (hb2.mono HWB.out.size)) (by rw [HU.out]; exact Nat.le_refl _))
          have HWr := Lib.hid (writeByte_any bb bb _ (x : Nat) W2 hB2 (by have h3 := HQ.out.2.2.1; simp [Lib.byteCells, octs]; omega) (Nat.le_trans HBW.out hb2.size))
          have HbW := Lib.hid hbW
          have HHas := Lib.hid hHas
          have HW2 := Lib.hid hW2
          have HGg := Lib.hid hg
          have e3 : ¬ c - k = 0 := by omega
          have e5 : IntKind.i64.wrap ((k : Int) + 1) = (k : Int) + 1 := IntWalk.i64_in _ (by omega)
          clear k1 k2 k3 hHas hB2 hbW hcr hP2 hg2 hb2 hW2 hg hub2
          by_cases hcl : b[k]? = some 13 ∧ b[k + 1]? = some 10
          · rw [decide_eq_true hcl] at HHas
            have HN := Lib.hid (show quoted b = none from HQ.out.none (q_crlf hcl.1 hcl.2))
            clear hx hx2 h34 h92 hcl
            go_wp2_with fail
            rw [← HW2.out, ← HGg.out]
            refine HHas.out.mono ?_
            rintro e w9 ⟨rfl, hw⟩
            replace hw := hw.symm
            subst hw
            clear hxc d0 d1 y0 y1 lu
            go_wp2_with fail
            refine bodyPost_ret (results_cell_tmp_tmp Tryd.results20 _ _ u _ _ _ _ rfl HK1b.out Tryd.underlying29 rfl (tokSize _ rfl)) rfl ?_
            exact cut_none (by unfold quotedO; rw [HN.out]; rfl) HK3b.out
          · rw [decide_eq_false hcl] at HHas
            have HNx := Lib.hid (fun (w' : World) h1 h2 => QS.next HQ.out hx2 (show k < k + 1 by omega) (q_other hx h34 h92 (fun h => hcl ⟨by rw [hx, h.1], h.2⟩)) (w' := w') h1 h2)
            clear hx hx2 h34 h92 hcl
            go_wp2_with fail
            rw [← HW2.out, ← HGg.out]
            refine HHas.out.mono ?_
            rintro e w9 ⟨rfl, hw⟩
            replace hw := hw.symm
            subst hw
            clear hxc d0 d1 y0 y1 lu
            go_wp2_with fail
            refine HWr.out.mono ?_
            rintro e w2 ⟨rfl, hB2, hb2⟩
            have HQ2 := Lib.hid (HNx.out w2 hB2 (HbW.out.trans hb2))
            clear hB2 hb2 f0 f1 g0 g1 lu2 xc2
            go_wp2_with fail
            go_roundw
            case rel => first | exact ⟨k + 1, _, by omega, by go_num, HQ2⟩ | ((repeat apply Exists.intro); exact ⟨⟨k + 1, _, by omega, by go_num, HQ2⟩, rfl⟩)
            case measure => (show n - ((k : Int) + 1).toNat < n - k; omega)
    · have HN := Lib.hid (show quoted b = none from HQ.out.none (q_nil (by have := HL.out; omega)))
      have q0 : decide ((k : Int) < (n : Int)) = false := decide_eq_false (by omega)
      go_wp2_with fail
      refine bodyPost_ret (results_cell_tmp_tmp Tryd.results20 _ _ u _ _ _ _ rfl HK1.out Tryd.underlying29 rfl (tokSize _ rfl)) rfl ?_
      exact cut_none (by unfold quotedO; rw [HN.out]; rfl) HK3.out
end Go.Proofs.YtkbldbcgclnfeaaDoor.lx
