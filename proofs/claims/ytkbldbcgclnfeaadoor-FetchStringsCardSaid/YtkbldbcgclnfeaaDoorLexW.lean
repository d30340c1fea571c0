/- Atoms, as the program reads them. -/
import Derived.Test.YtkbldbcgclnfeaaDoorLexU
import Derived.Test.YtkbldbcgclnfeaaDoorLexV
namespace Go.Proofs.YtkbldbcgclnfeaaDoor.lx
open Go.ChangeShapes Go.WideShapes Go.ChangeAt Go.RowKit
open Go.Proofs.YtkbldbcgclnfeaaDoor.codec (Bytes vals)
open Go.Proofs.YtkbldbcgclnfeaaDoor.row
set_option linter.unusedVariables false
set_option maxRecDepth 100000
set_option linter.unusedSimpArgs false

theorem isAt_any (w : World) (x : Nat) (hx : x < 256) :
    Calls Tryd.prog 29 #[.int .u8 (x : Nat)] w fun e w' => e = .returned (.bool (isAt x)) ∧ w = w' := by
  have key : ∀ (n : Nat), ((x : Int) == (n : Int)) = decide (x = n) := fun n => by
    by_cases h : x = n
    · rw [decide_eq_true h, beq_iff_eq]; omega
    · rw [decide_eq_false h, beq_eq_false_iff_ne]; omega
  have q1 := key 40
  have q2 := key 41
  have q3 := key 123
  have q4 := key 34
  simp only [Int.cast_ofNat_Int] at q1 q2 q3 q4
  have q5 : decide ((33 : Int) ≤ (x : Int)) = decide (33 ≤ x) := by
    by_cases h : 33 ≤ x
    · rw [decide_eq_true h, decide_eq_true (by omega)]
    · rw [decide_eq_false h, decide_eq_false (by omega)]
  have q6 : decide ((x : Int) ≤ 126) = decide (x ≤ 126) := by
    by_cases h : x ≤ 126
    · rw [decide_eq_true h, decide_eq_true (by omega)]
    · rw [decide_eq_false h, decide_eq_false (by omega)]
  have e : isAt x = (decide (33 ≤ x) && decide (x ≤ 126) && !decide (x = 40) && !decide (x = 41) && !decide (x = 123) && !decide (x = 34)) := by
    unfold isAt
    simp only [ne_eq, decide_not]
  rw [e]
  generalize decide (33 ≤ x) = b5 at *
  generalize decide (x ≤ 126) = b6 at *
  generalize decide (x = 40) = b1 at *
  generalize decide (x = 41) = b2 at *
  generalize decide (x = 123) = b3 at *
  generalize decide (x = 34) = b4 at *
  clear key e
  cases b1 <;> cases b2 <;> cases b3 <;> cases b4 <;> cases b5 <;> (go_enter Tryd.func29, Tryd.ntmps29; go_wp2; go_ret; exact ⟨by simp, rfl⟩)
theorem opens_any (w : World) (k : Int) (s : ByteArray) :
    Calls Tryd.prog 14 #[.agg #[.int .i64 k, .string s]] w fun e w' => e = .returned (.int .i64 (opens k)) ∧ Below w.heap.size w w' := by
  unfold opens
  by_cases h3 : k = 3
  · rw [if_pos h3]
    have q1 : (k == 3) = true := by rw [beq_iff_eq]; exact h3
    clear h3
    go_enter Tryd.func14, Tryd.ntmps14
    go_wp2
    go_ret
    exact ⟨rfl, (Below.refl _ _).alloc (Nat.le_refl _) _⟩
  · rw [if_neg h3]
    have q1 : (k == 3) = false := by rw [beq_eq_false_iff_ne]; exact h3
    by_cases h4 : k = 4
    · rw [if_pos h4]
      have q2 : (k == 4) = true := by rw [beq_iff_eq]; exact h4
      clear h3 h4
      go_enter Tryd.func14, Tryd.ntmps14
      go_wp2
      go_ret
      exact ⟨rfl, (Below.refl _ _).alloc (Nat.le_refl _) _⟩
    · rw [if_neg h4]
      have q2 : (k == 4) = false := by rw [beq_eq_false_iff_ne]; exact h4
      clear h3 h4
      go_enter Tryd.func14, Tryd.ntmps14
      go_wp2
      go_ret
      exact ⟨rfl, (Below.refl _ _).alloc (Nat.le_refl _) _⟩
theorem results_cell_tmp_tmp {P : Program} {fn : Func} {p q r : Tmp} {ty : TypeId} (h : fn.results = #[.cell p ty, .tmp q, .tmp r]) (tmps : Array Value) (w : World) (g : Nat) (t : TypeId) (cs : Array Value) (fr : Nat × Nat) (d : TypeDesc)
    (hp : tmps.getD p undef = .pointer (some ⟨g, 0, none⟩)) (hg : w.heap[g]? = some (.cells cs t fr))
    (hu : P.underlying ty = some d) (hd : (match d with | .struct _ | .array _ _ => true | _ => false) = true) (hi : (P.info? ty).map (·.size) = some cs.size) :
    (results fn tmps).run P w = .ok (.tuple #[.agg cs, tmps.getD q undef, tmps.getD r undef]) w := by
  have hp' : tmps[p]?.getD undef = .pointer (some ⟨g, 0, none⟩) := by simpa using hp
  simp [results, h, hp', asAddr, run_loadVar_row w g t ty cs fr d hg hu hd hi]
theorem tokSize (cs : Array Value) (h : cs.size = 2) : (Tryd.prog.info? 29).map (·.size) = some cs.size := by
  rw [h]
  kernel_rfl
/-- What cutting a token off answers. -/
def CutAns (w : World) (A : Option Addr) (n c : Nat) (b : List Nat) (o : Option (Tk × List Nat)) (e : Ending) (w' : World) : Prop :=
  Below w.heap.size w w' ∧ ∃ (k : Int) (s : ByteArray) (R : Option Addr) (m d : Nat), e = .returned (.tuple #[.agg #[.int .i64 k, .string s], .slice R m d, .bool o.isSome]) ∧ ∀ t c', o = some (t, c') → k = t.k ∧ s = strOf t.t ∧ ∀ w0, Sl w0 A n c b → Sl w0 R m d c'
theorem atom_at {b : List Nat} {k : Nat} (hk : k ≤ b.length) (h1 : ∀ x ∈ b.take k, isAt x = true) (h2 : ∀ x, b[k]? = some x → isAt x = false) : atomLen b = k := by
  have h := atomLen_app (b.take k) (b.drop k) h1 (fun x hx => h2 x (by rw [List.head?_drop] at hx; exact hx))
  rw [List.take_append_drop] at h
  rw [h, List.length_take]
  omega
/-- What an atom is. -/
def atomO (b : List Nat) : Option (Tk × List Nat) := if 0 < atomLen b then some (⟨1, b.take (atomLen b)⟩, b.drop (atomLen b)) else none
theorem atom_end {w W1 : World} {A R : Option Addr} {n c u k m d : Nat} {b : List Nat} {T : ByteArray} {g : Bool} {E : Ending} {t : TypeId} {cs : Array Value} (hk : atomLen b = k) (hT : T = strOf (b.take k)) (hg : g = decide (0 < k)) (hb : Below w.heap.size w W1) (hu : W1.heap[u]? = some (.cells cs t (0, 0))) (hu2 : u = w.heap.size)
    (hE : E = .returned (.tuple #[.agg #[.int .i64 1, .string T], .slice R m d, .bool g])) (hR : ∀ w0, Sl w0 A n c b → Sl w0 R m d (b.drop k)) : CutAns w A n c b (atomO b) E ((W1.setCell ⟨u, 0, none⟩ (.int .i64 1)).setCell ⟨u, 1, none⟩ (.string T)).drew := by
  have hb3 : Below w.heap.size w ((W1.setCell ⟨u, 0, none⟩ (.int .i64 1)).setCell ⟨u, 1, none⟩ (.string T)) := (hb.setCell (p := ⟨u, 0, none⟩) (by rw [hu2]; exact Nat.le_refl _) _).setCell (p := ⟨u, 1, none⟩) (by rw [hu2]; exact Nat.le_refl _) _
  refine ⟨codec.below_draws hb3 1, 1, T, R, m, d, ?_, ?_⟩
  · rw [hE]
    congr 3
    unfold atomO
    rw [hk, hg]
    by_cases h : 0 < k
    · rw [if_pos h, decide_eq_true h]; rfl
    · rw [if_neg h, decide_eq_false h]; rfl
  · intro t' c' h
    unfold atomO at h
    rw [hk] at h
    split at h
    · cases h
      exact ⟨rfl, hT, hR⟩
    · cases h
set_option maxHeartbeats 2000000 in
theorem cutAtom_any (w : World) (A : Option Addr) (n c : Nat) (b : List Nat) (hS : Sl w A n c b) (hn : n ≤ 1000000) :
    Calls Tryd.prog 22 #[.slice A n c] w fun e w' => CutAns w A n c b (atomO b) e w' := by
  obtain ⟨u, hu⟩ : ∃ u, u = w.heap.size := ⟨_, rfl⟩
  obtain ⟨W1, hW1⟩ : ∃ W1, W1 = w.alloc (.cells #[.int .i64 0, .string ⟨#[]⟩] 29) := ⟨_, rfl⟩
  have hb1 : Below w.heap.size w W1 := by rw [hW1]; exact (Below.refl _ _).alloc (Nat.le_refl _) _
  have hu1 : W1.heap[u]? = some (.cells #[.int .i64 0, .string ⟨#[]⟩] 29 (0, 0)) := by rw [hW1, hu]; exact heap_alloc_new _ _
  have HS1 := Lib.hid (show Sl W1 A n c b from hS.below hb1)
  have HL := Lib.hid hS.1.1
  have hnc := hS.2.1
  have HRest := Lib.hid (fun k (hk : k ≤ n) w0 (h0 : Sl w0 A n c b) => h0.rest k hk)
  have H1 := Lib.hid (And.intro hb1 (And.intro hu1 hu))
  have HW1 := Lib.hid hW1
  have HU := Lib.hid hu
  clear hS hW1 hu hb1 hu1
  go_enter Tryd.func22, Tryd.ntmps22
  go_wp2_with fail
  rw [← HW1.out, ← HU.out]
  go_loop [5] (fun i => ∃ k : Nat, k ≤ n ∧ i = .int .i64 k ∧ Hid (∀ x ∈ b.take k, isAt x = true)) (fun i => n - (intOf i).toNat)
  case atStart => exact ⟨0, Nat.zero_le _, rfl, Lib.hid (by simp)⟩
  case round =>
    obtain ⟨k, hk, rfl, HA⟩ := hrel
    by_cases hkn : k < n
    · obtain ⟨bb, o, rfl, -⟩ := HS1.out.1.2.2 (by omega)
      obtain ⟨x, hx, hx2, hxc⟩ := byte_at HS1.out.1 hkn
      have hkn' : (k : Int) < (n : Int) := by omega
      have HI := Lib.hid (fun w => isAt_any w x hx2)
      have HX := Lib.hid hx
      cases hat : isAt x with
      | true =>
        rw [hat] at HI
        have HA2 := Lib.hid (show ∀ y ∈ b.take (k + 1), isAt y = true from fun y hy => by
          rw [List.take_add_one, hx] at hy
          rcases List.mem_append.1 hy with hy | hy
          · exact HA.out y hy
          · simp at hy; rw [hy]; exact hat)
        clear hx hx2 hat
        go_wp2_with fail
        refine (HI.out _).mono ?_
        rintro e w2 ⟨rfl, hw⟩
        subst hw
        go_wp2_with fail
        go_round
        case rel => first | exact ⟨k + 1, by omega, by go_num, HA2⟩ | ((repeat apply Exists.intro); exact ⟨⟨k + 1, by omega, by go_num, HA2⟩, rfl⟩)
        case measure => (show n - ((k : Int) + 1).toNat < n - k; omega)
      | false =>
        rw [hat] at HI
        have HK := Lib.hid (atom_at (k := k) (by have := HL.out; omega) HA.out (fun y hy => by rw [hx] at hy; cases hy; exact hat))
        clear hx hx2 hat
        go_wp2_with fail
        refine (HI.out _).mono ?_
        rintro e w2 ⟨rfl, hw⟩
        subst hw
        go_wp2_with fail
        obtain ⟨T, hT⟩ : ∃ T, T = strOf (b.take k) := ⟨_, rfl⟩
        have hcv : (convert 27 9 (.slice (some ⟨bb, o, none⟩) k c)).run Tryd.prog W1.drew = .ok (.string T) W1.drew := by
          rw [hT]
          exact Bytes.text ((HS1.out.part k hk).1.drewN 1) c
        have hkc : k ≤ c := by omega
        have hu1 := H1.out.2.1
        have d0 := cell_at hu1 0 (.int .i64 0) rfl
        have d1 := cell_at hu1 1 (.string ⟨#[]⟩) rfl
        have y0 := frozen_of_row _ _ 0 _ _ hu1
        have y1 := frozen_of_row _ _ 1 _ _ hu1
        have lu := (Array.getElem?_eq_some_iff.1 hu1).1
        have HT := Lib.hid hT
        have HKn := Lib.hid hk
        obtain ⟨g, hg⟩ : ∃ g, g = decide (0 < k) := ⟨_, rfl⟩
        have q9 : decide ((0 : Int) < (k : Int)) = g := by
          rw [hg]
          by_cases h : 0 < k
          · rw [decide_eq_true h, decide_eq_true (by omega)]
          · rw [decide_eq_false h, decide_eq_false (by omega)]
        have q8 : decide (0 < k) = g := hg.symm
        have HG := Lib.hid hg
        clear hT hu1 hg
        obtain ⟨kk, hkk⟩ : ∃ kk : Int, kk = (k : Int) := ⟨_, rfl⟩
        by_cases hck : c = k
        · exact absurd hck (by omega)
        · have e3 : ¬ c - k = 0 := by omega
          have HC := Lib.hid hck
          clear hck
          go_region
          go_wp2_with fail
          refine bodyPost_ret (results_cell_tmp_tmp Tryd.results22 _ _ u _ _ _ _ rfl (two H1.out.2.1 rfl (.int .i64 1) (.string T)).1 Tryd.underlying29 rfl (tokSize _ rfl)) rfl ?_
          exact atom_end HK.out HT.out HG.out H1.out.1 H1.out.2.1 H1.out.2.2 rfl (fun w0 h0 => by
            have h1 := HRest.out k HKn.out w0 h0
            rw [if_neg HC.out] at h1
            first | exact h1 | simpa [codec.add_none] using h1)
    · obtain rfl : k = n := by omega
      have HK := Lib.hid (atom_at (k := k) (by have := HL.out; omega) HA.out (fun y hy => by have := (List.getElem?_eq_some_iff.1 hy).1; have := HL.out; omega))
      go_wp2_with fail
      obtain ⟨T, hT⟩ : ∃ T, T = strOf (b.take k) := ⟨_, rfl⟩
      have hcv : (convert 27 9 (.slice A k c)).run Tryd.prog W1.drew = .ok (.string T) W1.drew := by
        rw [hT]
        exact Bytes.text ((HS1.out.part k hk).1.drewN 1) c
      have hkc : k ≤ c := by omega
      have hu1 := H1.out.2.1
      have d0 := cell_at hu1 0 (.int .i64 0) rfl
      have d1 := cell_at hu1 1 (.string ⟨#[]⟩) rfl
      have y0 := frozen_of_row _ _ 0 _ _ hu1
      have y1 := frozen_of_row _ _ 1 _ _ hu1
      have lu := (Array.getElem?_eq_some_iff.1 hu1).1
      have HT := Lib.hid hT
      have HKn := Lib.hid hk
      obtain ⟨g, hg⟩ : ∃ g, g = decide (0 < k) := ⟨_, rfl⟩
      have q9 : decide ((0 : Int) < (k : Int)) = g := by
        rw [hg]
        by_cases h : 0 < k
        · rw [decide_eq_true h, decide_eq_true (by omega)]
        · rw [decide_eq_false h, decide_eq_false (by omega)]
      have q8 : decide (0 < k) = g := hg.symm
      have HG := Lib.hid hg
      clear hT hu1 hg
      obtain ⟨kk, hkk⟩ : ∃ kk : Int, kk = (k : Int) := ⟨_, rfl⟩
      by_cases hck : c = k
      · have e3 : c - k = 0 := by omega
        have HC := Lib.hid (And.intro hck e3)
        clear hck
        go_region
        go_wp2_with fail
        refine bodyPost_ret (results_cell_tmp_tmp Tryd.results22 _ _ u _ _ _ _ rfl (two H1.out.2.1 rfl (.int .i64 1) (.string T)).1 Tryd.underlying29 rfl (tokSize _ rfl)) rfl ?_
        exact atom_end HK.out HT.out HG.out H1.out.1 H1.out.2.1 H1.out.2.2 rfl (fun w0 h0 => by
          have h1 := HRest.out k HKn.out w0 h0
          rw [if_pos HC.out.1, HC.out.2] at h1
          first | exact h1 | simpa [codec.add_none] using h1)
      · have e3 : ¬ c - k = 0 := by omega
        have HC := Lib.hid hck
        clear hck
        go_region
        go_wp2_with fail
        refine bodyPost_ret (results_cell_tmp_tmp Tryd.results22 _ _ u _ _ _ _ rfl (two H1.out.2.1 rfl (.int .i64 1) (.string T)).1 Tryd.underlying29 rfl (tokSize _ rfl)) rfl ?_
        exact atom_end HK.out HT.out HG.out H1.out.1 H1.out.2.1 H1.out.2.2 rfl (fun w0 h0 => by
          have h1 := HRest.out k HKn.out w0 h0
          rw [if_neg HC.out] at h1
          first | exact h1 | simpa [codec.add_none] using h1)
end Go.Proofs.YtkbldbcgclnfeaaDoor.lx
