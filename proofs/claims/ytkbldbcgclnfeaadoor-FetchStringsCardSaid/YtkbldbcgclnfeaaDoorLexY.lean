/- Literals, as the program reads them. -/
import Derived.Test.YtkbldbcgclnfeaaDoorLexX
namespace Go.Proofs.YtkbldbcgclnfeaaDoor.lx
open Go.ChangeShapes Go.WideShapes Go.ChangeAt Go.RowKit
open Go.Proofs.YtkbldbcgclnfeaaDoor.codec (Bytes vals)
open Go.Proofs.YtkbldbcgclnfeaaDoor.row
set_option linter.unusedVariables false
set_option maxRecDepth 100000
set_option linter.unusedSimpArgs false

def ixZ (b : List Nat) : Int := match ixE b with
  | some i => (i : Int)
  | none => -1
theorem ixE_cons (x : Nat) (r : List Nat) : ixE (x :: r) = if x = 13 ∧ r[0]? = some 10 then some 0 else (ixE r).map (· + 1) := by
  by_cases h : x = 13 ∧ r[0]? = some 10
  · rw [if_pos h]
    obtain ⟨rfl, h2⟩ := h
    cases r with
    | nil => simp at h2
    | cons y s =>
      simp at h2
      subst h2
      rw [ixE]
  · rw [if_neg h, ixE]
    intro s e hs
    refine h ⟨e, ?_⟩
    rw [hs]
    rfl
theorem index_ixE : ∀ l : List Nat, (∀ x ∈ l, x < 256) → Lib.index (octs l) (octs [13, 10]) = ixZ l
  | [], _ => rfl
  | x :: r, hl => by
    have ih := index_ixE r (fun y hy => hl y (List.mem_cons_of_mem _ hy))
    have hp := has_crlf hl 0
    unfold Lib.hasPrefix at hp
    rw [List.drop_zero] at hp
    rw [show octs (x :: r) = UInt8.ofNat x :: octs r from rfl] at hp ⊢
    rw [Lib.index, hp, ih]
    unfold ixZ
    rw [ixE_cons]
    have e : ((x :: r)[0]? = some 13 ∧ (x :: r)[0 + 1]? = some 10) ↔ (x = 13 ∧ r[0]? = some 10) := by simp
    rw [decide_eq_decide.2 e]
    by_cases h : x = 13 ∧ r[0]? = some 10
    · rw [if_pos h, decide_eq_true h]
      rfl
    · rw [if_neg h, decide_eq_false h]
      cases ixE r with
      | none => rfl
      | some i =>
        have hne : (((i : Nat) : Int) == -1) = false := by rw [beq_eq_false_iff_ne]; omega
        simp [hne]
/-- What cutting at a line's end answers. -/
def CutE (w : World) (A : Option Addr) (n c : Nat) (b : List Nat) (e : Ending) (w' : World) : Prop :=
  (∃ q, w' = w.drewN q) ∧ ((∃ i, ixE b = some i ∧ i + 2 ≤ n ∧ e = .returned (.tuple #[.slice A i c, .slice (if c = i + 2 then A else A.map fun x => x.add (i + 2)) (n - (i + 2)) (c - (i + 2)), .bool true])) ∨ (ixE b = none ∧ e = .returned (.tuple #[.slice A n c, .slice none 0 0, .bool false])))
theorem cutE_any (w : World) (A : Option Addr) (n c g : Nat) (b : List Nat) (hS : Sl w A n c b) (hn : n ≤ 4000000000) (hg : Bytes w (some ⟨g, 0, none⟩) 2 [13, 10]) (hr : Room w) :
    Calls Tryd.prog 27 #[.slice A n c, .slice (some ⟨g, 0, none⟩) 2 2] w fun e w' => CutE w A n c b e w' := by
  obtain ⟨m, hm⟩ := hr
  refine (Tryd.bytes_Cut_all A (some ⟨g, 0, none⟩) n c 2 2 (b.map Int.ofNat) ([13, 10].map Int.ofNat) m w (by rw [List.length_map]; exact hS.1.1) rfl (nums_byte hS.1.2.1) (nums_byte hg.2.1) (Bytes.into hS.1) (Bytes.into hg) hS.2.2.2 hS.2.1 (by omega) (by decide) hm).mono ?_
  rintro e w' ⟨rfl, q, rfl⟩
  refine ⟨⟨q, rfl⟩, ?_⟩
  rw [octs_of, octs_of, index_ixE b hS.1.2.1]
  unfold Lib.cutV Lib.fromV ixZ
  cases h : ixE b with
  | none => exact .inr ⟨rfl, by simp⟩
  | some i =>
    have h1 := ixE_len b i h
    have h2 := hS.1.1
    refine .inl ⟨i, rfl, by omega, ?_⟩
    simp
def literalO (b : List Nat) : Option (Tk × List Nat) := (literal b).map fun p => (⟨2, p.1⟩, p.2)
theorem lit_end {w w2 : World} {A R : Option Addr} {n c u m d : Nat} {b tx rs : List Nat} {T : ByteArray} {E : Ending} {t : TypeId} {cs : Array Value} (hq : literal b = some (tx, rs)) (hT : T = strOf tx) (hb : Below w.heap.size w w2) (hu : w2.heap[u]? = some (.cells cs t (0, 0))) (hu2 : u = w.heap.size)
    (hE : E = .returned (.tuple #[.agg #[.int .i64 2, .string T], .slice R m d, .bool true])) (hR : ∀ w0, Sl w0 A n c b → Sl w0 R m d rs) : CutAns w A n c b (literalO b) E ((w2.setCell ⟨u, 0, none⟩ (.int .i64 2)).setCell ⟨u, 1, none⟩ (.string T)).drew := by
  have hb3 : Below w.heap.size w ((w2.setCell ⟨u, 0, none⟩ (.int .i64 2)).setCell ⟨u, 1, none⟩ (.string T)) := (hb.setCell (p := ⟨u, 0, none⟩) (by rw [hu2]; exact Nat.le_refl _) _).setCell (p := ⟨u, 1, none⟩) (by rw [hu2]; exact Nat.le_refl _) _
  have ho : literalO b = some (⟨2, tx⟩, rs) := by unfold literalO; rw [hq]; rfl
  refine ⟨codec.below_draws hb3 1, 2, T, R, m, d, ?_, ?_⟩
  · rw [hE, ho]
    rfl
  · intro t' c' h
    rw [ho] at h
    cases h
    exact ⟨rfl, hT, hR⟩
set_option maxHeartbeats 4000000 in
theorem cutLiteral_any (w : World) (A : Option Addr) (n c : Nat) (b : List Nat) (hS : Sl w A n c b) (hn : n ≤ 1000000) (hr : Room w) :
    Calls Tryd.prog 21 #[.slice A n c] w fun e w' => CutAns w A n c b (literalO b) e w' := by
  have hcvl := fun (w : World) (C : Array Value) (n c g : Nat) (hg : g = w.heap.size) => Go.Joins.run_convert_bytes_const_at (P := Tryd.prog) w 27 5 C n c g hg Tryd.underlying27 Tryd.underlying5
  obtain ⟨u, hu⟩ : ∃ u, u = w.heap.size := ⟨_, rfl⟩
  obtain ⟨g, hg⟩ : ∃ g, g = u + 1 := ⟨_, rfl⟩
  obtain ⟨W0, hW0⟩ : ∃ W0, W0 = w.alloc (.cells #[.int .i64 0, .string ⟨#[]⟩] 29) := ⟨_, rfl⟩
  obtain ⟨W1, hW1⟩ : ∃ W1, W1 = W0.alloc (.cells #[.int .u8 13, .int .u8 10] 5 (2, 3)) := ⟨_, rfl⟩
  have hsz0 : W0.heap.size = w.heap.size + 1 := by rw [hW0]; simp
  have hb0 : Below w.heap.size w W0 := by rw [hW0]; exact (Below.refl _ _).alloc (Nat.le_refl _) _
  have hu0 : W0.heap[u]? = some (.cells #[.int .i64 0, .string ⟨#[]⟩] 29 (0, 0)) := by rw [hW0, hu]; exact heap_alloc_new _ _
  have hb1' : Below W0.heap.size W0 W1 := by rw [hW1]; exact (Below.refl _ _).alloc (Nat.le_refl _) _
  have hb1 : Below w.heap.size w W1 := hb0.trans (hb1'.mono (by omega))
  have hu1 : W1.heap[u]? = some (.cells #[.int .i64 0, .string ⟨#[]⟩] 29 (0, 0)) := (hb1'.block _ (by omega)).trans hu0
  have hg1 : W1.heap[g]? = some (.cells #[.int .u8 13, .int .u8 10] 5 (2, 3)) := by rw [hW1, hg, hu, ← hsz0]; exact heap_alloc_new _ _
  have HC := Lib.hid (cutE_any W1 A n c g b (hS.below hb1) (by omega) (crlf_in hg1) (hr.below hb1))
  have HS := Lib.hid hS
  have HL := Lib.hid hS.1.1
  have hnc := hS.2.1
  rw [hW0] at hW1
  have HW1 := Lib.hid hW1
  have HU := Lib.hid hu
  have HG := Lib.hid hg
  have H1 := Lib.hid (And.intro hb1 hu1)
  clear hS hW1 hu hg hW0 hsz0 hb0 hu0 hb1' hb1 hu1 hg1 hr
  go_enter Tryd.func21, Tryd.ntmps21
  go_wp2_with fail
  rw [← HW1.out, ← HU.out, ← HG.out]
  refine HC.out.mono ?_
  rintro e w3 ⟨⟨q, hq⟩, hans⟩
  have hb3 : Below w.heap.size w w3 := by rw [hq]; exact codec.below_draws H1.out.1 q
  have hu3 : w3.heap[u]? = some (.cells #[.int .i64 0, .string ⟨#[]⟩] 29 (0, 0)) := by rw [hq]; exact H1.out.2
  have HB3 := Lib.hid hb3
  have HU3 := Lib.hid hu3
  have d0 := cell_at hu3 0 (.int .i64 0) rfl
  have d1 := cell_at hu3 1 (.string ⟨#[]⟩) rfl
  have y0 := frozen_of_row _ _ 0 _ _ hu3
  have y1 := frozen_of_row _ _ 1 _ _ hu3
  have lu := (Array.getElem?_eq_some_iff.1 hu3).1
  have HS3 := Lib.hid (HS.out.below hb3)
  clear hq hb3 hu3 hcvl
  rcases hans with ⟨i, hi, hin, rfl⟩ | ⟨hi, rfl⟩
  · obtain ⟨R, hR⟩ : ∃ R, R = (if c = i + 2 then A else A.map fun x => x.add (i + 2)) := ⟨_, rfl⟩
    obtain ⟨M, hM⟩ : ∃ M, M = n - (i + 2) := ⟨_, rfl⟩
    obtain ⟨d, hd⟩ : ∃ d, d = c - (i + 2) := ⟨_, rfl⟩
    have hSR := HS3.out.rest (i + 2) hin
    rw [← hR, ← hM, ← hd] at hSR
    rw [← hR, ← hM, ← hd]
    have HSR := Lib.hid hSR
    have HLen := Lib.hid (litLen_any w3 A i c (b.take i) (HS3.out.part i (by omega)).1 (by omega) (by omega))
    unfold lenV at HLen
    have HRM := Lib.hid (And.intro hR (And.intro hM hd))
    have HII := Lib.hid hin
    have hMd : M ≤ d := hSR.2.1
    clear hR hM hd hSR hin
    cases hl : lenL (b.take i) with
    | none =>
      have HN := Lib.hid (show literal b = none by unfold literal; rw [hi]; simp only [hl])
      rw [hl] at HLen
      simp only [Option.isSome_none, Option.getD_none] at HLen
      clear hi hl
      go_wp2_with fail
      refine HLen.out.mono ?_
      rintro e w9 ⟨rfl, hw⟩
      replace hw := hw.symm
      subst hw
      go_wp2_with fail
      refine bodyPost_ret (results_cell_tmp_tmp Tryd.results21 _ _ u _ _ _ _ rfl (two HU3.out rfl (.int .i64 0) (.string ⟨#[]⟩)).1 Tryd.underlying29 rfl (tokSize _ rfl)) rfl ?_
      exact cut_none (by unfold literalO; rw [HN.out]; rfl) ((two HU3.out rfl (.int .i64 0) (.string ⟨#[]⟩)).2.2 _ _ HB3.out (by rw [HU.out]; exact Nat.le_refl _))
    | some v =>
      rw [hl] at HLen
      simp only [Option.isSome_some, Option.getD_some] at HLen
      by_cases hv : M < v
      · have HN := Lib.hid (show literal b = none by
          unfold literal
          rw [hi]
          simp only [hl]
          rw [if_neg]
          rw [List.length_drop, HL.out]
          have := HRM.out.2.1
          omega)
        have q1 : decide ((M : Int) < (v : Int)) = true := decide_eq_true (by omega)
        have q2 : decide (M < v) = true := decide_eq_true (by omega)
        clear hi hl hv
        go_wp2_with fail
        refine HLen.out.mono ?_
        rintro e w9 ⟨rfl, hw⟩
        replace hw := hw.symm
        subst hw
        go_wp2_with fail
        refine bodyPost_ret (results_cell_tmp_tmp Tryd.results21 _ _ u _ _ _ _ rfl (two HU3.out rfl (.int .i64 0) (.string ⟨#[]⟩)).1 Tryd.underlying29 rfl (tokSize _ rfl)) rfl ?_
        exact cut_none (by unfold literalO; rw [HN.out]; rfl) ((two HU3.out rfl (.int .i64 0) (.string ⟨#[]⟩)).2.2 _ _ HB3.out (by rw [HU.out]; exact Nat.le_refl _))
      · have HLit := Lib.hid (show literal b = some ((b.drop (i + 2)).take v, (b.drop (i + 2)).drop v) by
          unfold literal
          rw [hi]
          simp only [hl]
          rw [if_pos]
          rw [List.length_drop, HL.out]
          have := HRM.out.2.1
          omega)
        have q1 : decide ((M : Int) < (v : Int)) = false := decide_eq_false (by omega)
        have q2 : decide (M < v) = false := decide_eq_false (by omega)
        have hvM : v ≤ M := by omega
        have hvd : v ≤ d := by omega
        obtain ⟨T, hT⟩ : ∃ T, T = strOf ((b.drop (i + 2)).take v) := ⟨_, rfl⟩
        have HT := Lib.hid hT
        have hcv : (convert 27 9 (.slice R v d)).run Tryd.prog w3.drew = .ok (.string T) w3.drew := by
          rw [hT]
          exact Bytes.text ((HSR.out.part v hvM).1.drewN 1) d
        have HI := Lib.hid (show i + 2 ≤ n ∧ v ≤ n - (i + 2) from ⟨HII.out, by have := HRM.out.2.1; omega⟩)
        clear hi hl hv hT
        by_cases hdv : d = v
        · have e3 : d - v = 0 := by omega
          have HC2 := Lib.hid (And.intro hdv e3)
          clear hdv
          go_wp2_with fail
          refine HLen.out.mono ?_
          rintro e w9 ⟨rfl, hw⟩
          replace hw := hw.symm
          subst hw
          go_wp2_with fail
          go_region
          go_wp2_with fail
          refine bodyPost_ret (results_cell_tmp_tmp Tryd.results21 _ _ u _ _ _ _ rfl (two HU3.out rfl (.int .i64 2) (.string T)).1 Tryd.underlying29 rfl (tokSize _ rfl)) rfl ?_
          refine lit_end HLit.out HT.out HB3.out HU3.out HU.out rfl (fun w0 h0 => ?_)
          have h1 := (h0.rest (i + 2) (by have := HI.out.1; omega)).rest v (by have := HI.out.2; omega)
          rw [← HRM.out.1, ← HRM.out.2.1, ← HRM.out.2.2, if_pos HC2.out.1, HC2.out.2] at h1
          exact h1
        · have e3 : ¬ d - v = 0 := by omega
          have HC2 := Lib.hid hdv
          clear hdv
          go_wp2_with fail
          refine HLen.out.mono ?_
          rintro e w9 ⟨rfl, hw⟩
          replace hw := hw.symm
          subst hw
          go_wp2_with fail
          go_region
          go_wp2_with fail
          refine bodyPost_ret (results_cell_tmp_tmp Tryd.results21 _ _ u _ _ _ _ rfl (two HU3.out rfl (.int .i64 2) (.string T)).1 Tryd.underlying29 rfl (tokSize _ rfl)) rfl ?_
          refine lit_end HLit.out HT.out HB3.out HU3.out HU.out rfl (fun w0 h0 => ?_)
          have h1 := (h0.rest (i + 2) (by have := HI.out.1; omega)).rest v (by have := HI.out.2; omega)
          rw [← HRM.out.1, ← HRM.out.2.1, ← HRM.out.2.2, if_neg HC2.out] at h1
          exact h1
  · have HN := Lib.hid (show literal b = none by unfold literal; rw [hi])
    have HLen := Lib.hid (litLen_any w3 A n c b HS3.out.1 hnc (by omega))
    unfold lenV at HLen
    clear hi
    go_wp2_with fail
    refine HLen.out.mono ?_
    rintro e w9 ⟨rfl, hw⟩
    replace hw := hw.symm
    subst hw
    go_wp2_with fail
    refine bodyPost_ret (results_cell_tmp_tmp Tryd.results21 _ _ u _ _ _ _ rfl (two HU3.out rfl (.int .i64 0) (.string ⟨#[]⟩)).1 Tryd.underlying29 rfl (tokSize _ rfl)) rfl ?_
    exact cut_none (by unfold literalO; rw [HN.out]; rfl) ((two HU3.out rfl (.int .i64 0) (.string ⟨#[]⟩)).2.2 _ _ HB3.out (by rw [HU.out]; exact Nat.le_refl _))
end Go.Proofs.YtkbldbcgclnfeaaDoor.lx
