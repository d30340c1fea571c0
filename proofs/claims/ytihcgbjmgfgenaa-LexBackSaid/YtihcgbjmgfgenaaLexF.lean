/- A chunk in memory; what it keeps of a line. -/
import Derived.Test.YtihcgbjmgfgenaaLexE
namespace Go.Proofs.Ytihcgbjmgfgenaa.lx
open Go.ChangeShapes Go.WideShapes Go.ChangeAt Go.RowKit
open Go.Proofs.Ytihcgbjmgfgenaa.codec (Bytes vals)
open Go.Proofs.Ytihcgbjmgfgenaa.row
set_option linter.unusedVariables false
set_option maxRecDepth 100000
set_option linter.unusedSimpArgs false

theorem put_any (w : World) (p : Nat) (cs : Array Value) (T : TypeId) (P : Value) (l F : List Nat) (hS : Sh w P l F) (hp : w.heap[p]? = some (.cells cs T (0, 0))) (h0 : cs[0]? = some P) (h1 : cs[1]? = some (.int .i64 (l.length : Nat))) (h2 : 2 ≤ cs.size) (hpF : p ∉ F)
    (A : Option Addr) (n d : Nat) (m : List Nat) (hB : Bytes w A n m) (hA : A = none → d = 0) (hAp : ∀ ad, A = some ad → 0 < n → ad.block ≠ p) (hn : l.length + n ≤ 10000000) :
    Calls Try.prog 28 #[.pointer (some ⟨p, 0, none⟩), .slice A n d] w fun e w' => e = .returned (.tuple #[]) ∧ Put w w' p cs T (l ++ m) F := by
  rcases hS with ⟨rfl, rfl, rfl⟩ | ⟨s, A0, k, c, rfl, h, rfl⟩
  · exact put_fresh w p cs T A n d m hp h0 h1 h2 hB hA hAp (by simpa using hn)
  · exact put_full w p s k c A0 cs T l A n d m h hp h0 h1 h2 hpF hB hA hn
/-- A chunk to which these came. -/
def Rel (done cur came : List Nat) (line : Nat) : Prop :=
  (cur.length ≤ 2002 → came = done ++ cur ∧ line = cur.length) ∧ (2002 < cur.length → 2002 < line ∧ line ≤ 1000000000 ∧ came = (done ++ cur).take 100)
def cells5 (P : Value) (n line : Nat) (ret : Bool) (left : Nat) : Array Value := #[P, .int .i64 (n : Nat), .int .i64 (line : Nat), .bool ret, .int .i64 (left : Nat)]
def Ck (w : World) (p : Nat) (F : List Nat) (done cur : List Nat) (left : Nat) (ret : Bool) : Prop :=
  ∃ P line came, w.heap[p]? = some (.cells (cells5 P came.length line ret left) 44 (0, 0)) ∧ Sh w P came F ∧ p ∉ F ∧ Rel done cur came line
theorem Ck.kept {w w' : World} {p : Nat} {F done cur : List Nat} {left : Nat} {ret : Bool} (h : Ck w p F done cur left ret) (hk : ∀ i, i = p ∨ i ∈ F → w'.heap[i]? = w.heap[i]?) : Ck w' p F done cur left ret := by
  obtain ⟨P, line, came, h1, h2, h3, h4⟩ := h
  exact ⟨P, line, came, (hk p (.inl rfl)).trans h1, h2.kept fun i hi => hk i (.inr hi), h3, h4⟩
theorem Ck.lt {w : World} {p : Nat} {F done cur : List Nat} {left : Nat} {ret : Bool} (h : Ck w p F done cur left ret) : ∀ i, i = p ∨ i ∈ F → i < w.heap.size := by
  obtain ⟨P, line, came, h1, h2, h3, h4⟩ := h
  rintro i (rfl | hi)
  · exact (Array.getElem?_eq_some_iff.1 h1).1
  · exact h2.lt i hi
theorem Ck.below {w w' : World} {p : Nat} {F done cur : List Nat} {left : Nat} {ret : Bool} (h : Ck w p F done cur left ret) (hb : Below w.heap.size w w') : Ck w' p F done cur left ret := h.kept fun i hi => hb.block i (h.lt i hi)
theorem Ck.touch {G : Nat → Prop} {w w' : World} {p : Nat} {F done cur : List Nat} {left : Nat} {ret : Bool} (h : Ck w p F done cur left ret) (ht : codec.Touch G w w') (hG : ∀ i, i = p ∨ i ∈ F → ¬ G i) : Ck w' p F done cur left ret := h.kept fun i hi => ht.2.2.2.2 i (h.lt i hi) (hG i hi)
theorem rel_long {done cur came : List Nat} {line : Nat} (h : Rel done cur came line) : decide (2002 < line) = decide (2002 < cur.length) := by
  by_cases hc : 2002 < cur.length
  · rw [decide_eq_true hc, decide_eq_true (h.2 hc).1]
  · have := (h.1 (by omega)).2
    rw [this]
theorem long_any (w : World) (p line : Nat) (h : w.cell? ⟨p, 0 + 2, none⟩ = some (.int .i64 (line : Nat))) :
    Calls Try.prog 31 #[.pointer (some ⟨p, 0, none⟩)] w fun e w' => e = .returned (.bool (decide (2002 < line))) ∧ w' = w := by
  have q1 : decide ((2002 : Int) < (line : Int)) = decide (2002 < line) := by
    by_cases h : 2002 < line
    · rw [decide_eq_true h, decide_eq_true (by omega)]
    · rw [decide_eq_false h, decide_eq_false (by omega)]
  go_enter Try.func31, Try.ntmps31
  go_wp2
  go_ret
  exact ⟨by first | rfl | (rw [← q1]; rfl) | simp [q1], rfl⟩
/-- What a step of a chunk leaves: another chunk, on blocks of its own or new ones. -/
structure Step (w w' : World) (p : Nat) (F done cur : List Nat) (left : Nat) (ret : Bool) : Prop where
  ex : ∃ F', Ck w' p F' done cur left ret ∧ ∀ i ∈ F', i ∈ F ∨ w.heap.size ≤ i
  touch : codec.Touch (fun i => i = p ∨ i ∈ F) w w'
theorem Step.trans {w w1 w2 : World} {p : Nat} {F F1 d2 c2 : List Nat} {l2 : Nat} {r2 : Bool} (hF : ∀ i ∈ F1, i ∈ F ∨ w.heap.size ≤ i) (ht : codec.Touch (fun i => i = p ∨ i ∈ F) w w1) (k : Step w1 w2 p F1 d2 c2 l2 r2) : Step w w2 p F d2 c2 l2 r2 := by
  obtain ⟨⟨F2, h1, h2⟩, h3⟩ := k
  have hs := ht.2.2.2.1
  refine ⟨⟨F2, h1, fun i hi => ?_⟩, ht.trans (h3.mono fun i _ h => ?_)⟩
  · rcases h2 i hi with h | h
    · exact hF i h
    · exact .inr (by omega)
  · rcases h with h | h
    · exact .inl (.inl h)
    · rcases hF i h with h | h
      · exact .inl (.inr h)
      · exact .inr h
theorem cells5_of {P' : Value} {n line : Nat} {ret : Bool} {left m : Nat} {P : Value} {cs' : Array Value} (hz : cs'.size = (cells5 P n line ret left).size) (h0 : cs'[0]? = some P') (h1 : cs'[1]? = some (.int .i64 (m : Nat))) (hj : ∀ j, 2 ≤ j → cs'[j]? = (cells5 P n line ret left)[j]?) : cs' = cells5 P' m line ret left := by
  apply Array.ext_getElem?
  intro i
  match i with
  | 0 => exact h0
  | 1 => exact h1
  | i + 2 => rw [hj (i + 2) (by omega)]; rfl
set_option maxHeartbeats 1000000 in
/-- Some of a literal's bytes are taken. -/
theorem takeLit_any (w : World) (p : Nat) (F done : List Nat) (left : Nat) (ret : Bool) (A : Option Addr) (n c : Nat) (b : List Nat) (hC : Ck w p F done [] left ret) (hS : Sl w A n c b) (hAp : ∀ ad, A = some ad → 0 < n → ad.block ≠ p ∧ ad.block ∉ F) (hl : left ≤ 1000000) (hb : done.length + n ≤ 1000000) :
    Calls Try.prog 19 #[.pointer (some ⟨p, 0, none⟩), .slice A n c] w fun e w' => ∃ R d, e = .returned (.slice R (n - min left n) d) ∧ (∀ w0, Sl w0 A n c b → Sl w0 R (n - min left n) d (b.drop (min left n)) ∧ ∀ i ∈ blk R, i ∈ blk A) ∧ Step w w' p F (done ++ b.take (min left n)) [] (left - min left n) ret := by
  obtain ⟨P, line, came, h1, h2, h3, h4⟩ := hC
  obtain ⟨rfl, rfl⟩ := h4.1 (by simp)
  rw [List.append_nil] at *
  have hlen := hS.1.1
  have hnc := hS.2.1
  obtain ⟨j, hj⟩ : ∃ j, j = min left n := ⟨_, rfl⟩
  rw [← hj]
  have hjn : j ≤ n := by omega
  have hjl : j ≤ left := by omega
  have hjc : j ≤ c := by omega
  have e1 : min (left : Int) (n : Int) = (j : Int) := by omega
  have e2 : IntKind.i64.wrap ((left : Int) - (j : Int)) = ((left - j : Nat) : Int) := (IntWalk.i64_in _ (by omega)).trans (by omega)
  have hP := hS.part j hjn
  have HPut := Lib.hid (fun (W : World) (hW : ∃ q, W = w.drewN q) => (show Calls Try.prog 28 #[.pointer (some ⟨p, 0, none⟩), .slice A j c] W fun e w' => e = .returned (.tuple #[]) ∧ ∃ q, Put (w.drewN q) w' p (cells5 P done.length 0 ret left) 44 (done ++ b.take j) F by
    obtain ⟨q, rfl⟩ := hW
    exact (put_any (w.drewN q) p _ _ P done F h2 h1 rfl rfl (by simp [cells5]) h3 A j c (b.take j) (hP.1.drewN q) hS.2.2.2 (fun ad e h0 => (hAp ad e (by omega)).1) (by omega)).mono fun e w' h => ⟨h.1, q, h.2⟩))
  have HR := Lib.hid (hS.rest j hjn)
  have HRw := Lib.hid (fun w0 (h0 : Sl w0 A n c b) => And.intro (h0.rest j hjn) (blk_rest A c j))
  have hlf := cell_at h1 4 (.int .i64 (left : Nat)) rfl
  have hlp := (Array.getElem?_eq_some_iff.1 h1).1
  have HJ := Lib.hid (And.intro hjn hjl)
  obtain ⟨N, hN⟩ : ∃ N, N = left - j := ⟨_, rfl⟩
  rw [← hN] at e2 ⊢
  have HEnd := Lib.hid (fun (q : Nat) (w1 : World) (h : Put (w.drewN q) w1 p (cells5 P done.length 0 ret left) 44 (done ++ b.take j) F) => (show (∃ X, w1.heap[p]? = some (.cells X 44 (0, 0)) ∧ X[4]? = some (.int .i64 (left : Nat))) ∧ Step w (w1.setCell ⟨p, 4, none⟩ (.int .i64 (N : Nat))) p F (done ++ b.take j) [] N ret by
    obtain ⟨⟨P', F', cs', g1, g2, g3, g4, g5, g6, g7, g8⟩, g9⟩ := h
    obtain rfl := cells5_of g2 g3 g4 g5
    have g10 := heap_setCell_same w1 p 4 _ _ (.int .i64 (N : Nat)) g1
    refine ⟨⟨_, g1, rfl⟩, ⟨⟨F', ⟨P', 0, done ++ b.take j, g10, g6.kept fun i hi => heap_setCell_other _ _ _ _ (fun e => g7 (by simp at e; rw [← e]; exact hi)), g7, ⟨fun _ => ⟨by simp, rfl⟩, fun h => by simp at h⟩⟩, g8⟩, ?_⟩⟩
    exact codec.Touch.setCell (codec.Touch.trans ((codec.Touch.refl _ w).drewN q) (codec.Touch.mono g9 fun i _ h => .inl h)) ⟨p, 4, none⟩ (.inr (.inl rfl)) _))
  have HMj := Lib.hid hj
  clear h1 h2 h3 hP hS hAp hN hj hlen
  by_cases hcj : c = j
  · have e3 : c - j = 0 := by omega
    have HE := Lib.hid (And.intro hcj e3)
    clear hcj
    go_enter Try.func19, Try.ntmps19
    go_wp2
    go_region_with (go_at_call 28; refine (HPut.out _ (by first | exact ⟨1, rfl⟩ | exact ⟨0, rfl⟩ | exact ⟨2, rfl⟩ | exact ⟨_, rfl⟩)).mono ?_; rintro e w1 ⟨rfl, q, hq⟩; have HQ := Lib.hid (HEnd.out _ _ hq); clear hq; obtain ⟨X, hX, hX4⟩ := HQ.out.1; have d4 := cell_at hX 4 _ hX4; have d5 := frozen_of_row _ _ 4 _ _ hX; clear hX hX4)
    all_goals go_wp2
    all_goals
      go_ret
      refine ⟨_, _, rfl, fun w0 h0 => ?_, HQ.out.2⟩
      have := HRw.out w0 h0
      rw [if_pos HE.out.1, HE.out.2] at this
      exact this
  · have e3 : ¬ c - j = 0 := by omega
    have HE := Lib.hid hcj
    clear hcj
    go_enter Try.func19, Try.ntmps19
    go_wp2
    go_region_with (go_at_call 28; refine (HPut.out _ (by first | exact ⟨1, rfl⟩ | exact ⟨0, rfl⟩ | exact ⟨2, rfl⟩ | exact ⟨_, rfl⟩)).mono ?_; rintro e w1 ⟨rfl, q, hq⟩; have HQ := Lib.hid (HEnd.out _ _ hq); clear hq; obtain ⟨X, hX, hX4⟩ := HQ.out.1; have d4 := cell_at hX 4 _ hX4; have d5 := frozen_of_row _ _ 4 _ _ hX; clear hX hX4)
    all_goals go_wp2
    all_goals
      go_ret
      refine ⟨_, _, rfl, fun w0 h0 => ?_, HQ.out.2⟩
      have := HRw.out w0 h0
      rw [if_neg HE.out] at this
      exact this
set_option maxHeartbeats 1000000 in
/-- Some of a line's bytes are kept, as long as they are needed. -/
theorem keep_any (w : World) (p : Nat) (F done cur : List Nat) (left : Nat) (ret : Bool) (A : Option Addr) (n c : Nat) (b : List Nat) (hC : Ck w p F done cur left ret) (hS : Sl w A n c b) (hAp : ∀ ad, A = some ad → 0 < n → ad.block ≠ p ∧ ad.block ∉ F) (hb : done.length + cur.length + n ≤ 1000000) :
    Calls Try.prog 30 #[.pointer (some ⟨p, 0, none⟩), .slice A n c] w fun e w' => e = .returned (.tuple #[]) ∧ Step w w' p F done (cur ++ b) left ret := by
  obtain ⟨P, line, came, h1, h2, h3, h4⟩ := hC
  have hc2 := cell_at h1 2 (.int .i64 (line : Nat)) rfl
  have HL := Lib.hid (long_any w p line hc2)
  have hlen := hS.1.1
  by_cases hlong : 2002 < cur.length
  · obtain ⟨r1, r2, r3⟩ := h4.2 hlong
    rw [decide_eq_true r1] at HL
    have HEnd := Lib.hid (show Step w w p F done (cur ++ b) left ret from ⟨⟨F, ⟨P, line, came, h1, h2, h3, ⟨fun h => absurd h (by rw [List.length_append]; omega), fun _ => ⟨r1, r2, by
      rw [r3, ← List.append_assoc]
      rw [List.take_append_of_le_length (l₂ := b) (by rw [List.length_append]; omega)]⟩⟩⟩, fun i hi => .inl hi⟩, codec.Touch.refl _ w⟩)
    clear h1 h2 h3 h4 hS hAp r1 r2 r3 hc2 hlong
    go_enter Try.func30, Try.ntmps30
    go_wp2_with fail
    refine HL.out.mono ?_
    rintro e w1 ⟨rfl, hw⟩
    replace hw := hw.symm
    subst hw
    go_wp2_with fail
    refine bodyPost_ret (results_none rfl _ _ _) rfl ?_
    exact ⟨rfl, HEnd.out⟩
  · obtain ⟨rfl, rfl⟩ := h4.1 (by omega)
    obtain ⟨ln, hln⟩ : ∃ ln, ln = cur.length := ⟨_, rfl⟩
    obtain ⟨m, hm⟩ : ∃ m, m = ln + n := ⟨_, rfl⟩
    obtain ⟨W2, hW2⟩ : ∃ W2, W2 = w.setCell ⟨p, 2, none⟩ (.int .i64 (m : Nat)) := ⟨_, rfl⟩
    have hp2 : W2.heap[p]? = some (.cells (cells5 P (done ++ cur).length m ret left) 44 (0, 0)) := by
      rw [hW2]
      exact heap_setCell_same w p 2 _ _ (.int .i64 (m : Nat)) h1
    have hT2 : codec.Touch (fun i => i = p) w W2 := by
      rw [hW2]
      exact (codec.Touch.refl (fun i => i = p) w).setCell ⟨p, 2, none⟩ (.inr rfl) _
    have hS2 : Sh W2 P (done ++ cur) F := h2.touch hT2 (fun i hi e => h3 (e ▸ hi))
    have hB2 : Bytes W2 A n b := hS.1.touch (fun ad e h0 => (hAp ad e h0).1) hT2
    have hl2 := cell_at hp2 2 (.int .i64 (m : Nat)) rfl
    have HL2 := Lib.hid (long_any W2 p m hl2)
    have hsz : W2.heap.size = w.heap.size := by rw [hW2]; simp
    have e1 : IntKind.i64.wrap ((ln : Int) + (n : Int)) = (m : Int) := (IntWalk.i64_in _ (by omega)).trans (by omega)
    rw [← hln] at hc2 HL
    rw [show decide (2002 < ln) = false from decide_eq_false (by omega)] at HL
    have hf2 := frozen_of_row _ _ 2 _ _ h1
    have hlp := (Array.getElem?_eq_some_iff.1 h1).1
    have HW2 := Lib.hid hW2
    have HX := Lib.hid (And.intro h3 (And.intro hln hm))
    have HSS := Lib.hid (And.intro hS hAp)
    have HP2 := Lib.hid hp2
    have HT2 := Lib.hid hT2
    have HS2 := Lib.hid hS2
    have HB2 := Lib.hid hB2
    have HZ2 := Lib.hid hsz
    by_cases hfit : m ≤ 2002
    · have HPut := Lib.hid (put_any W2 p _ _ P (done ++ cur) F hS2 hp2 rfl rfl (by simp [cells5]) h3 A n c b hB2 hS.2.2.2 (fun ad e h0 => (hAp ad e h0).1) (by rw [List.length_append]; omega))
      rw [show decide (2002 < m) = false from decide_eq_false (by omega)] at HL2
      have HF := Lib.hid hfit
      clear h1 h2 h3 h4 hS hAp hln hm hW2 hp2 hT2 hS2 hB2 hl2 hsz hfit
      go_enter Try.func30, Try.ntmps30
      go_wp2_with fail
      refine HL.out.mono ?_
      rintro e w1 ⟨rfl, hw⟩
      replace hw := hw.symm
      subst hw
      go_wp2_with fail
      rw [← HW2.out]
      clear hc2 hf2 hlp
      refine HL2.out.mono ?_
      rintro e w1 ⟨rfl, hw⟩
      replace hw := hw.symm
      subst hw
      go_wp2_with fail
      refine HPut.out.mono ?_
      rintro e w1 ⟨rfl, hq⟩
      have HQ := Lib.hid hq
      clear hq
      go_wp2_with fail
      refine bodyPost_ret (results_none rfl _ _ _) rfl ?_
      refine ⟨rfl, ?_⟩
      obtain ⟨⟨P', F', cs', g1, g2, g3, g4, g5, g6, g7, g8⟩, g9⟩ := HQ.out
      obtain rfl := cells5_of g2 g3 g4 g5
      obtain ⟨-, hln, hm⟩ := HX.out
      have hfit := HF.out
      have hsz := HZ2.out
      refine ⟨⟨F', ⟨P', m, (done ++ cur) ++ b, g1, g6, g7, ⟨fun _ => ⟨List.append_assoc _ _ _, by rw [List.length_append]; omega⟩, fun h => by rw [List.length_append] at h; omega⟩⟩, fun i hi => (g8 i hi).imp id fun h => by omega⟩, ?_⟩
      exact codec.Touch.trans (codec.Touch.mono HT2.out fun i _ h => .inl h) (codec.Touch.mono g9 fun i _ h => .inl h)
    · rw [show decide (2002 < m) = true from decide_eq_true (by omega)] at HL2
      have HF := Lib.hid hfit
      obtain ⟨t, ht⟩ : ∃ t, t = W2.heap.size := ⟨_, rfl⟩
      obtain ⟨W3, hW3⟩ : ∃ W3, W3 = W2.alloc (.cells #[.pointer none, .int .i64 0] 42) := ⟨_, rfl⟩
      have hb3 : Below W2.heap.size W2 W3 := by rw [hW3]; exact (Below.refl _ _).alloc (Nat.le_refl _) _
      have ht3 : W3.heap[t]? = some (.cells #[.pointer none, .int .i64 0] 42 (0, 0)) := by rw [hW3, ht]; exact heap_alloc_new _ _
      obtain ⟨L, hL⟩ : ∃ L, L = (done ++ cur).length := ⟨_, rfl⟩
      have hlt2 : ∀ i, i ∈ F → i < t := fun i hi => by rw [ht]; exact hS2.lt i hi
      have hpt : p < t := by rw [ht, hsz]; exact hlp
      have hp3 : W3.heap[p]? = some (.cells (cells5 P L m ret left) 44 (0, 0)) := by rw [hb3.block p (by omega), hL]; exact hp2
      have HAll := Lib.hid (all_any W3 p P (done ++ cur) F (hS2.below hb3) (cell_at hp3 0 P rfl) (by rw [← hL]; exact cell_at hp3 1 _ rfl))
      rw [← hL] at HAll
      have HB3 := Lib.hid hb3
      have HP3 := Lib.hid hp3
      have HT3 := Lib.hid ht3
      have HW3 := Lib.hid hW3
      have HLt := Lib.hid hlt2
      have HY := Lib.hid (And.intro hL (And.intro ht hpt))
      clear h1 h2 h3 h4 hS hAp hln hm hlong hlen hW2 hp2 hT2 hS2 hB2 hl2 hsz hfit hW3 hb3 ht3 hlt2 hpt hp3 hL ht
      go_enter Try.func30, Try.ntmps30
      go_wp2_with fail
      refine HL.out.mono ?_
      rintro e w1 ⟨rfl, hw⟩
      replace hw := hw.symm
      subst hw
      go_wp2_with fail
      rw [← HW2.out]
      clear hc2 hf2 hlp
      refine HL2.out.mono ?_
      rintro e w1 ⟨rfl, hw⟩
      replace hw := hw.symm
      subst hw
      go_wp2_with fail
      rw [← HW3.out]
      refine HAll.out.mono ?_
      rintro e w4 ⟨A4, c4, rfl, hS4, hA4, hb4⟩
      have ht4 : w4.heap[t]? = some (.cells #[.pointer none, .int .i64 0] 42 (0, 0)) := (hb4.block _ (Array.getElem?_eq_some_iff.1 HT3.out).1).trans HT3.out
      have hp4 : w4.heap[p]? = some (.cells (cells5 P L m ret left) 44 (0, 0)) := (hb4.block _ (Array.getElem?_eq_some_iff.1 HP3.out).1).trans HP3.out
      obtain ⟨x, hx⟩ : ∃ x, x = min 100 L := ⟨_, rfl⟩
      have HF4 := Lib.hid (first_any w4 A4 L c4 100 hS4.2.1 (by decide))
      rw [← hx] at HF4
      have hS4' : Sl w4 A4 L c4 (done ++ cur) := ⟨hS4.1.below hS4.1.lt hb4, hS4.2⟩
      have hx4 := hS4'.part x (by omega)
      have HPut4 := Lib.hid (put_fresh w4 t _ _ A4 x c4 _ ht4 rfl rfl (Nat.le_refl 2) hx4.1 hx4.2.2.2 (fun ad e h0 e' => by
        have h5 := HLt.out ad.block (hA4 ad.block (by rw [e]; simp [blk]))
        omega) (by omega))
      have HP4 := Lib.hid hp4
      have HX4 := Lib.hid (And.intro hx hx4.1.1)
      have HB4 := Lib.hid (HB3.out.trans (hb4.mono HB3.out.size))
      have ht3s : t < W3.heap.size := (Array.getElem?_eq_some_iff.1 HT3.out).1
      have HSz4 := Lib.hid (show t < w4.heap.size by have := hb4.size; omega)
      clear hS4 hA4 hb4 ht4 hp4 hx hS4' hx4 ht3s
      go_wp2_with fail
      refine HF4.out.mono ?_
      rintro e w9 ⟨rfl, hw⟩
      replace hw := hw.symm
      subst hw
      have HTt : Hid (t = W2.heap.size) := Lib.hid HY.out.2.1
      go_wp2_with fail
      rw [← HTt.out]
      refine HPut4.out.mono ?_
      rintro e w5 ⟨rfl, hq5⟩
      obtain ⟨⟨P5, F5, cs5, g1, g2, g3, g4, g5, g6, g7, g8⟩, g9⟩ := hq5
      rw [HX4.out.2] at g4
      have hd1 := cell_at g1 1 _ g4
      obtain ⟨k, hk⟩ : ∃ k, k = min (100 - x) n := ⟨_, rfl⟩
      obtain ⟨y, hy⟩ : ∃ y, y = 100 - x := ⟨_, rfl⟩
      rw [← hy] at hk
      have HF5 := Lib.hid (first_any w5 A n c y HSS.out.1.2.1 (by omega))
      rw [← hk] at HF5
      have hxs := HX4.out.1
      have e5 : IntKind.i64.wrap ((100 : Int) - (x : Int)) = (y : Int) := (IntWalk.i64_in _ (by omega)).trans (by omega)
      have hB5 : Bytes w5 A n b := ((HB2.out.below HB2.out.lt HB4.out).touch (fun ad e h0 e' => by
        have h5 := HB2.out.lt ad e h0
        have h6 := HTt.out
        rcases e' with e' | e'
        · omega
        · simp at e') g9)
      have hBk : Bytes w5 A k (b.take k) := Bytes.part hB5 k (by omega)
      have hb4s := HB4.out.size
      have HPut5 := Lib.hid (put_any w5 t cs5 _ P5 _ F5 g6 g1 g3 (by rw [HX4.out.2]; exact g4) (by rw [g2]; exact Nat.le_refl 2) g7 A k c _ hBk HSS.out.1.2.2.2 (fun ad e h0 e' => by
        have h5 := HB2.out.lt ad e (by omega)
        have h6 := HTt.out
        omega) (by rw [HX4.out.2]; omega))
      have hpt := HY.out.2.2
      have hp5 : w5.heap[p]? = some (.cells (cells5 P L m ret left) 44 (0, 0)) := (g9.2.2.2.2 p (Array.getElem?_eq_some_iff.1 HP4.out).1 (fun e => by rcases e with e | e; omega; simp at e)).trans HP4.out
      have HP5 := Lib.hid hp5
      have HG5 := Lib.hid (And.intro g2 (And.intro g8 g9))
      have HK5 := Lib.hid (And.intro hk hy)
      have HB5 := Lib.hid hB5
      have HBk := Lib.hid hBk
      clear g1 g2 g3 g4 g5 g6 g7 g8 g9 hk hy hxs hB5 hBk hb4s hp5 hpt
      go_wp2_with fail
      refine HF5.out.mono ?_
      rintro e w9 ⟨rfl, hw⟩
      replace hw := hw.symm
      subst hw
      clear e5 hd1
      go_wp2_with fail
      refine HPut5.out.mono ?_
      rintro e w6 ⟨rfl, hq6⟩
      obtain ⟨⟨P6, F6, cs6, g1, g2, g3, g4, g5, g6, g7, g8⟩, g9⟩ := hq6
      have hpt := HY.out.2.2
      have hp6 : w6.heap[p]? = some (.cells (cells5 P L m ret left) 44 (0, 0)) := (g9.2.2.2.2 p (Array.getElem?_eq_some_iff.1 HP5.out).1 (fun e => by
        rcases e with e | e
        · omega
        · have h1 := HG5.out.2.1 p e
          have h2 := (Array.getElem?_eq_some_iff.1 HP4.out).1
          rcases h1 with h1 | h1
          · simp at h1
          · omega)).trans HP5.out
      obtain ⟨N, hN⟩ : ∃ N, N = ((done ++ cur).take x ++ b.take k).length := ⟨_, rfl⟩
      rw [← hN] at g4
      obtain ⟨q6, rfl⟩ : ∃ q, P6 = .pointer q := by
        rcases g6 with ⟨e, _⟩ | ⟨s6, _, _, _, e, _⟩
        · exact ⟨_, e⟩
        · exact ⟨_, e⟩
      have d2 := cell_at hp6 0 P rfl
      have d3 := cell_at hp6 1 (.int .i64 (L : Nat)) rfl
      have d0 := cell_at g1 0 _ g3
      have d1 : w6.cell? ⟨t, 0 + 1, none⟩ = some (.int .i64 (N : Nat)) := cell_at g1 1 _ g4
      have z0 := frozen_of_row _ _ 0 _ _ hp6
      have z1 := frozen_of_row _ _ 1 _ _ hp6
      have l6 := (Array.getElem?_eq_some_iff.1 hp6).1
      have HP6 := Lib.hid hp6
      have HG6 := Lib.hid (And.intro g6 (And.intro g8 g9))
      have HN := Lib.hid hN
      clear g1 g2 g3 g4 g5 g6 g7 g8 g9 hp6 hpt hN
      go_wp2_with fail
      go_end0
      refine ⟨rfl, ?_⟩
      obtain ⟨g6, g8, g9⟩ := HG6.out
      obtain ⟨f2, f8, f9⟩ := HG5.out
      obtain ⟨hpF, hln, hm⟩ := HX.out
      obtain ⟨hL, ht, hpt⟩ := HY.out
      have hsz := HZ2.out
      have hfit := HF.out
      obtain ⟨hk, hy⟩ := HK5.out
      have hx := HX4.out.1
      have hlb := HB2.out.1
      have s4 := HB4.out.size
      have s5 := f9.2.2.2.1
      have hfr : ∀ i ∈ F6, w4.heap.size ≤ i := fun i hi => by
        rcases g8 i hi with h | h
        · rcases f8 i h with h | h
          · simp at h
          · exact h
        · omega
      have hpF6 : p ∉ F6 := fun h => by have := hfr p h; omega
      have hcame : (done ++ cur).take x ++ b.take k = (done ++ (cur ++ b)).take 100 := by
        rw [← List.append_assoc, List.take_append (l₁ := done ++ cur), ← hL]
        congr 1
        · rw [List.take_eq_take_iff]
          omega
        · rw [List.take_eq_take_iff]
          omega
      have h0 := heap_setCell_same w6 p 0 _ _ (.pointer q6) HP6.out
      have h1 := heap_setCell_same _ p 1 _ _ (.int .i64 (N : Nat)) h0
      refine ⟨⟨F6, ⟨.pointer q6, m, (done ++ (cur ++ b)).take 100, ?_, ?_, hpF6, ⟨fun h => by rw [List.length_append] at h; omega, fun _ => ⟨by omega, by omega, rfl⟩⟩⟩, fun i hi => .inr (by have := hfr i hi; omega)⟩, ?_⟩
      · rw [← hcame, ← HN.out]
        exact h1
      · rw [← hcame]
        refine g6.kept fun i hi => ?_
        have hne : i ≠ p := fun e => hpF6 (e ▸ hi)
        rw [heap_setCell_other _ _ _ _ hne, heap_setCell_other _ _ _ _ hne]
      · have T4 : codec.Touch (fun i => i = p ∨ i ∈ F) w w4 := codec.Touch.trans (codec.Touch.mono HT2.out fun i _ h => .inl h) ⟨HB4.out.os, HB4.out.tape, HB4.out.output, HB4.out.size, fun i hi _ => HB4.out.block i hi⟩
        have T5 : codec.Touch (fun i => i = p ∨ i ∈ F) w w5 := T4.trans (f9.mono fun i _ h => by
          rcases h with h | h
          · exact .inr (by omega)
          · simp at h)
        have T6 : codec.Touch (fun i => i = p ∨ i ∈ F) w w6 := T5.trans (g9.mono fun i _ h => by
          rcases h with h | h
          · exact .inr (by omega)
          · rcases f8 i h with h | h
            · simp at h
            · exact .inr (by omega))
        exact (T6.setCell ⟨p, 0, none⟩ (.inr (.inl rfl)) _).setCell ⟨p, 1, none⟩ (.inr (.inl rfl)) _
end Go.Proofs.Ytihcgbjmgfgenaa.lx
