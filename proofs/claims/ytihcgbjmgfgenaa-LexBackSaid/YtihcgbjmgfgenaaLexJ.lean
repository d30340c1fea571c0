/- What a chunk answers to bytes. -/
import Derived.Test.YtihcgbjmgfgenaaLexI
namespace Go.Proofs.Ytihcgbjmgfgenaa.lx
open Go.ChangeShapes Go.WideShapes Go.ChangeAt Go.RowKit
open Go.Proofs.Ytihcgbjmgfgenaa.codec (Bytes vals)
open Go.Proofs.Ytihcgbjmgfgenaa.row
set_option linter.unusedVariables false
set_option maxRecDepth 100000
set_option linter.unusedSimpArgs false

theorem below_touch (G : Nat → Prop) {w w1 : World} (hb : Below w.heap.size w w1) : codec.Touch G w w1 := ⟨hb.os, hb.tape, hb.output, hb.size, fun i hi _ => hb.block i hi⟩
structure Un where
  k : Nat
  A : Option Addr
  n : Nat
  c : Nat
def cU (y : Un) : List Value := [.int .i64 (y.k : Nat), .slice y.A y.n y.c]
theorem fU : Fm cU 2 := ⟨fun _ => rfl, fun y u hu => by simp [cU] at hu; rcases hu with rfl | rfl <;> rfl⟩
theorem infoU : (Try.prog.info? 29).map (fun i => (i.zero, i.size, i.bytes)) = some (some (.agg #[.int .i64 0, .slice none 0 0]), 2, 32) := by kernel_rfl
/-- Units in memory, of the call's own, away from these blocks. -/
structure UR (B : Nat) (w : World) (G : Nat → Prop) (v : Value) (us : List U) : Prop where
  ex : ∃ ys : List Un, Own cU 2 B 29 w v ys ∧ ys.length = us.length ∧ ∀ (k : Nat) (y : Un) (u : U), ys[k]? = some y → us[k]? = some u → y.k = u.1 ∧ Sl w y.A y.n y.c u.2 ∧ ∀ i ∈ blk y.A, B ≤ i ∧ i < w.heap.size ∧ v.ownBlock ≠ some i ∧ ¬ G i
  own : ∀ i, v.ownBlock = some i → B ≤ i ∧ i < w.heap.size ∧ ¬ G i
theorem UR.nil (B : Nat) (w : World) (G : Nat → Prop) : UR B w G (.slice none 0 0) [] := ⟨⟨[], Own.nil _ _ _ _ _, rfl, fun k y u h => by simp at h⟩, fun i h => by cases h⟩
theorem Sl.kept {w w' : World} {A : Option Addr} {n c : Nat} {l : List Nat} (h : Sl w A n c l) (hk : ∀ i ∈ blk A, w'.heap[i]? = w.heap[i]?) : Sl w' A n c l := ⟨h.1.kept fun ad e h0 => hk ad.block (by rw [e]; simp [blk]), h.2⟩
theorem UR.kept {B : Nat} {w w' : World} {G G' : Nat → Prop} {v : Value} {us : List U} (h : UR B w G v us) (hs : w.heap.size ≤ w'.heap.size) (hk : ∀ i, B ≤ i → i < w.heap.size → ¬ G i → w'.heap[i]? = w.heap[i]?) (hG : ∀ i, G' i → G i ∨ w.heap.size ≤ i) : UR B w' G' v us := by
  obtain ⟨⟨ys, h1, h2, h3⟩, h4⟩ := h
  refine ⟨⟨ys, ⟨h1.1, ?_⟩, h2, fun k y u hy hu => ?_⟩, fun i hi => ?_⟩
  · rcases h1.2 with e | ⟨g, cap, cur, e, hB, hg, rest⟩
    · exact .inl e
    · obtain ⟨g1, g2, g3⟩ := h4 g (by rw [e]; rfl)
      exact .inr ⟨g, cap, cur, e, hB, (hk g g1 g2 g3).trans hg, rest⟩
  · obtain ⟨g1, g2, g3⟩ := h3 k y u hy hu
    refine ⟨g1, g2.kept fun i hi => hk i (g3 i hi).1 (g3 i hi).2.1 (g3 i hi).2.2.2, fun i hi => ⟨(g3 i hi).1, by have := (g3 i hi).2.1; omega, (g3 i hi).2.2.1, fun hg => ?_⟩⟩
    rcases hG i hg with h | h
    · exact (g3 i hi).2.2.2 h
    · have := (g3 i hi).2.1; omega
  · obtain ⟨g1, g2, g3⟩ := h4 i hi
    refine ⟨g1, by omega, fun hg => ?_⟩
    rcases hG i hg with h | h
    · exact g3 h
    · omega
theorem UR.touch {B : Nat} {w w' : World} {G G' : Nat → Prop} {v : Value} {us : List U} (h : UR B w G v us) (ht : codec.Touch G w w') (hG : ∀ i, G' i → G i ∨ w.heap.size ≤ i) : UR B w' G' v us :=
  h.kept ht.2.2.2.1 (fun i _ h1 h2 => ht.2.2.2.2 i h1 h2) hG
theorem UR.push {B : Nat} {w w' : World} {G : Nat → Prop} {v v' : Value} {us : List U} {u : U} {ys : List Un} {A : Option Addr} {n c : Nat} (h1 : ys.length = us.length) (h3 : ∀ (k : Nat) (y : Un) (u : U), ys[k]? = some y → us[k]? = some u → y.k = u.1 ∧ Sl w y.A y.n y.c u.2 ∧ ∀ i ∈ blk y.A, B ≤ i ∧ i < w.heap.size ∧ v.ownBlock ≠ some i ∧ ¬ G i)
    (h4 : ∀ i, v.ownBlock = some i → B ≤ i ∧ i < w.heap.size ∧ ¬ G i) (hS : Sl w A n c u.2) (hA : ∀ i ∈ blk A, B ≤ i ∧ i < w.heap.size ∧ v.ownBlock ≠ some i ∧ ¬ G i)
    (ho : Own cU 2 B 29 w' v' (ys ++ [⟨u.1, A, n, c⟩])) (hg : w.grownBy w' v.ownBlock) (hat : v'.ownBlock = v.ownBlock ∨ ∃ g, v'.ownBlock = some g ∧ w.heap.size ≤ g) (hB : B ≤ w.heap.size) (hGw : ∀ i, G i → i < w.heap.size) : UR B w' G v' (us ++ [u]) := by
  have hsz := hg.size
  have hne : ∀ i, i < w.heap.size → v.ownBlock ≠ some i → v'.ownBlock ≠ some i := fun i hi hv e => by
    rcases hat with h | ⟨g, h, h2⟩
    · exact hv (h ▸ e)
    · rw [h] at e
      have := Option.some.inj e
      omega
  have key : ∀ (A : Option Addr) (n c : Nat) (l : List Nat), Sl w A n c l → (∀ i ∈ blk A, B ≤ i ∧ i < w.heap.size ∧ v.ownBlock ≠ some i ∧ ¬ G i) → Sl w' A n c l ∧ ∀ i ∈ blk A, B ≤ i ∧ i < w'.heap.size ∧ v'.ownBlock ≠ some i ∧ ¬ G i := fun A n c l hS hA =>
    ⟨hS.kept fun i hi => hg.block i (hA i hi).2.1 (fun e => (hA i hi).2.2.1 e.symm), fun i hi => ⟨(hA i hi).1, by have := (hA i hi).2.1; omega, hne i (hA i hi).2.1 (hA i hi).2.2.1, (hA i hi).2.2.2⟩⟩
  refine ⟨⟨_, ho, by simp [h1], fun k y u' hy hu => ?_⟩, fun i hi => ?_⟩
  · by_cases hk : k < ys.length
    · rw [List.getElem?_append_left hk] at hy
      rw [List.getElem?_append_left (by omega)] at hu
      obtain ⟨g1, g2, g3⟩ := h3 k y u' hy hu
      obtain ⟨g4, g5⟩ := key _ _ _ _ g2 g3
      exact ⟨g1, g4, g5⟩
    · have hk2 : k = ys.length := by
        have := (List.getElem?_eq_some_iff.1 hy).1
        simp at this
        omega
      rw [hk2, List.getElem?_append_right (Nat.le_refl _), Nat.sub_self] at hy
      rw [hk2, h1, List.getElem?_append_right (Nat.le_refl _), Nat.sub_self] at hu
      cases hy
      cases hu
      obtain ⟨g4, g5⟩ := key _ _ _ _ hS hA
      exact ⟨rfl, g4, g5⟩
  · obtain ⟨g1, g2⟩ := ho.lt hi
    refine ⟨g1, g2, fun hG => ?_⟩
    rcases hat with h | ⟨g, h, h2⟩
    · exact (h4 i (h ▸ hi)).2.2 hG
    · rw [h] at hi
      have := Option.some.inj hi
      have := hGw i hG
      omega
/-- A chunk that knows so much. -/
def CkS (w : World) (p : Nat) (F : List Nat) (s : St) : Prop := Ck w p F s.done s.cur s.left (decide (s.cur.getLast? = some 13)) ∧ s.ok ∧ s.left ≤ 20000
theorem close_left (d l : List Nat) : (close d l).1.left ≤ 20000 := by
  unfold close s0
  split
  · simp
  · split
    · simp
    · split
      · simp
      · simp; omega
theorem close_cur (d l : List Nat) : (close d l).1.cur = [] := by
  unfold close s0
  split
  · rfl
  · split
    · rfl
    · split <;> rfl
/-- What feeding answers. -/
def FeedAns (W : World) (p : Nat) (F : List Nat) (s : St) (us : List U) (e : Ending) (w' : World) : Prop :=
  ∃ v F', e = .returned v ∧ CkS w' p F' s ∧ (∀ i ∈ F', i ∈ F ∨ W.heap.size ≤ i) ∧ codec.Touch (fun i => i = p ∨ i ∈ F) W w' ∧ UR W.heap.size w' (fun i => i = p ∨ i ∈ F') v us
/-- What has been fed, and what is left. -/
def FS (W : World) (p : Nat) (F : List Nat) (S : St) (b : List Nat) (B : List Nat) (s : St) (us : List U) (r : List Nat) (R : Option Addr) (m d : Nat) (v : Value) (w : World) : Prop :=
  (∃ F', CkS w p F' s ∧ (∀ i ∈ F', i ∈ F ∨ W.heap.size ≤ i) ∧ UR W.heap.size w (fun i => i = p ∨ i ∈ F') v us) ∧ codec.Touch (fun i => i = p ∨ i ∈ F) W w ∧ Sl W R m d r ∧ (∀ i ∈ blk R, i ∈ B) ∧
  run S b = ((run s r).1, us ++ (run s r).2) ∧ us.length + m ≤ 1000000 ∧ s.size + m ≤ 900000
def sliceLen : Value → Nat
  | .slice _ n _ => n
  | _ => 0
theorem own_slice {α : Type} {F : α → List Value} {K B : Nat} {E : TypeId} {w : World} {v : Value} {ys : List α} (h : Own F K B E w v ys) : ∃ A c, v = .slice A ys.length c := by
  rcases h.2 with ⟨e, h0⟩ | ⟨g, cap, cur, e, hB, hg, hc, _⟩
  · exact ⟨none, 0, by rw [h0]; exact e⟩
  · exact ⟨_, cap, e⟩
/-- Some of a literal has been taken. -/
theorem FS.lit {W w w' : World} {p : Nat} {F b B r : List Nat} {S s : St} {us : List U} {R R' : Option Addr} {m d d' j : Nat} {v : Value} (h : FS W p F S b B s us r R m d v w) (hj : j = min s.left m) (hl : 0 < s.left)
    (hR : ∀ w0, Sl w0 R m d r → Sl w0 R' (m - j) d' (r.drop j) ∧ ∀ i ∈ blk R', i ∈ blk R) (F1 : List Nat) (hF1 : ∀ i ∈ F1, i ∈ F ∨ W.heap.size ≤ i) (hU : UR W.heap.size w (fun i => i = p ∨ i ∈ F1) v us) (hst : Step w w' p F1 (s.done ++ r.take j) [] (s.left - j) false) (hok : s.ok) (hl2 : s.left ≤ 20000) :
    FS W p F S b B ⟨s.done ++ r.take j, [], s.left - j⟩ us (r.drop j) R' (m - j) d' v w' := by
  obtain ⟨-, h2, h3, h4, h5, h6, h7⟩ := h
  obtain ⟨⟨F2, g1, g2⟩, g3⟩ := hst
  have hsz := h2.2.2.2.1
  have hlen := h3.1.1
  have hcur := hok hl
  refine ⟨⟨F2, ⟨g1, fun _ => rfl, by show s.left - j ≤ 20000; omega⟩, fun i hi => ?_, hU.touch g3 (fun i hi => ?_)⟩, h2.trans (g3.mono fun i _ h => ?_), (hR W h3).1, fun i hi => h4 i ((hR W h3).2 i hi), ?_, by omega, ?_⟩
  · rcases g2 i hi with h | h
    · exact hF1 i h
    · exact .inr (by omega)
  · rcases hi with h | h
    · exact .inl (.inl h)
    · exact (g2 i h).imp .inr id
  · rcases h with h | h
    · exact .inl (.inl h)
    · exact (hF1 i h).imp .inr id
  · rw [h5]
    have e : run s r = run ⟨s.done, [], s.left⟩ (r.take j ++ r.drop j) := by
      rw [List.take_append_drop]
      congr 1
      obtain ⟨d, c, l⟩ := s
      simp at hcur
      rw [hcur]
    rw [e, run_append, run_lit (r.take j) s.done [] s.left (by rw [List.length_take]; omega), List.length_take, show min j r.length = j by omega]
    simp
  · simp only [St.size, hcur, List.length_append, List.length_take, List.length_nil] at h7 ⊢
    omega
/-- A piece of a line has been taken. -/
theorem FS.piece {W w w1 w' : World} {p : Nat} {F b B r : List Nat} {S s : St} {us : List U} {R R' : Option Addr} {m d d' j x : Nat} {q : List Nat} {v : Value} (h : FS W p F S b B s us r R m d v w) (hl : s.left = 0) (hj : r.take j = q ++ [x]) (hjm : j ≤ m) (hq : ∀ y ∈ q, y ≠ 10)
    (hR : ∀ w0, Sl w0 R m d r → Sl w0 R' (m - j) d' (r.drop j) ∧ ∀ i ∈ blk R', i ∈ blk R) (F1 : List Nat) (hF1 : ∀ i ∈ F1, i ∈ F ∨ W.heap.size ≤ i) (hU : UR W.heap.size w (fun i => i = p ∨ i ∈ F1) v us) (hb : Below w.heap.size w w1) (hst : Step w1 w' p F1 s.done (s.cur ++ (q ++ [x])) 0 (decide (x = 13)))
    (he : ¬ (x = 10 ∧ (s.cur ++ q).getLast? = some 13)) :
    FS W p F S b B ⟨s.done, s.cur ++ (q ++ [x]), 0⟩ us (r.drop j) R' (m - j) d' v w' := by
  obtain ⟨-, h2, h3, h4, h5, h6, h7⟩ := h
  obtain ⟨⟨F2, g1, g2⟩, g3⟩ := hst
  have hsz := h2.2.2.2.1
  have hsz1 := hb.size
  have hlen := h3.1.1
  have hT1 : codec.Touch (fun i => i = p ∨ i ∈ F1) w w' := (below_touch (fun i => i = p ∨ i ∈ F1) hb).trans (g3.mono fun i _ h => .inl h)
  have hqj : q.length + 1 = j := by
    have := congrArg List.length hj
    rw [List.length_take, List.length_append] at this
    simp at this
    omega
  refine ⟨⟨F2, ⟨?_, fun h => absurd h (Nat.lt_irrefl 0), Nat.zero_le _⟩, fun i hi => ?_, hU.touch hT1 (fun i hi => ?_)⟩, h2.trans (hT1.mono fun i _ h => ?_), (hR W h3).1, fun i hi => h4 i ((hR W h3).2 i hi), ?_, by omega, ?_⟩
  · have e : decide ((s.cur ++ (q ++ [x])).getLast? = some 13) = decide (x = 13) := by
      rw [← List.append_assoc, List.getLast?_concat]
      simp
    show Ck w' p F2 s.done (s.cur ++ (q ++ [x])) 0 (decide ((s.cur ++ (q ++ [x])).getLast? = some 13))
    rw [e]
    exact g1
  · rcases g2 i hi with h | h
    · exact hF1 i h
    · exact .inr (by omega)
  · rcases hi with h | h
    · exact .inl (.inl h)
    · exact (g2 i h).imp .inr (fun h => by omega)
  · rcases h with h | h
    · exact .inl (.inl h)
    · exact (hF1 i h).imp .inr id
  · rw [h5]
    have e : run s r = run ⟨s.done, s.cur, 0⟩ ((q ++ [x]) ++ r.drop j) := by
      rw [← hj, List.take_append_drop]
      congr 1
      obtain ⟨d, c, l⟩ := s
      simp at hl
      rw [hl]
    rw [e, run_append, run_piece q s.done s.cur x hq, if_neg he]
    simp
  · simp only [St.size, List.length_append, List.length_singleton] at h7 ⊢
    omega
/-- A line has ended. -/
theorem line_of {s : St} {q : List Nat} {x : Nat} (he : x = 10 ∧ (s.cur ++ q).getLast? = some 13) : s.cur ++ (q ++ [x]) = (s.cur ++ q).dropLast ++ [13, 10] := by
  obtain ⟨rfl, h⟩ := he
  obtain ⟨l, hl⟩ := List.getLast?_eq_some_iff.1 h
  rw [← List.append_assoc, hl, List.dropLast_concat]
  simp
theorem FS.ended {W w w1 w2 w3 w4 : World} {p : Nat} {F b B r : List Nat} {S s : St} {us : List U} {R R' : Option Addr} {m d d' j x : Nat} {q : List Nat} {v v' : Value} {A : Option Addr} {n c : Nat} {ys : List Un} (h : FS W p F S b B s us r R m d v w) (hl : s.left = 0) (hj : r.take j = q ++ [x]) (hjm : j ≤ m) (hq : ∀ y ∈ q, y ≠ 10)
    (hR : ∀ w0, Sl w0 R m d r → Sl w0 R' (m - j) d' (r.drop j) ∧ ∀ i ∈ blk R', i ∈ blk R) (F1 F2 : List Nat) (hF1 : ∀ i ∈ F1, i ∈ F ∨ W.heap.size ≤ i) (hb : Below w.heap.size w w1) (h2' : codec.Touch (fun i => i = p ∨ i ∈ F1) w1 w2) (hF2 : ∀ i ∈ F2, i ∈ F1 ∨ w1.heap.size ≤ i) (hp : p < w.heap.size)
    (he : x = 10 ∧ (s.cur ++ q).getLast? = some 13)
    (hU : UR W.heap.size w2 (fun i => i = p ∨ i ∈ F2) v us)
    (F3 : List Nat) (hS3 : Sl w3 A n c (close s.done (s.cur ++ q).dropLast).2.2) (hC3 : Ck w3 p F3 (close s.done (s.cur ++ q).dropLast).1.done (close s.done (s.cur ++ q).dropLast).1.cur (close s.done (s.cur ++ q).dropLast).1.left false) (hF3 : ∀ i ∈ F3, i ∈ F2 ∨ w2.heap.size ≤ i) (hA3 : ∀ i ∈ blk A, w2.heap.size ≤ i ∧ i < w3.heap.size ∧ i ∉ F3) (hT3 : codec.Touch (fun i => i = p ∨ i ∈ F2) w2 w3)
    (hys : Own cU 2 W.heap.size 29 w3 v ys) (hys2 : ys.length = us.length) (hys3 : ∀ (k : Nat) (y : Un) (u : U), ys[k]? = some y → us[k]? = some u → y.k = u.1 ∧ Sl w3 y.A y.n y.c u.2 ∧ ∀ i ∈ blk y.A, W.heap.size ≤ i ∧ i < w3.heap.size ∧ v.ownBlock ≠ some i ∧ ¬ (i = p ∨ i ∈ F3)) (hys4 : ∀ i, v.ownBlock = some i → W.heap.size ≤ i ∧ i < w3.heap.size ∧ ¬ (i = p ∨ i ∈ F3))
    (ho : Own cU 2 W.heap.size 29 w4 v' (ys ++ [⟨(close s.done (s.cur ++ q).dropLast).2.1, A, n, c⟩])) (hg : w3.grownBy w4 v.ownBlock) (hat : v'.ownBlock = v.ownBlock ∨ ∃ g, v'.ownBlock = some g ∧ w3.heap.size ≤ g) :
    FS W p F S b B (close s.done (s.cur ++ q).dropLast).1 (us ++ [(close s.done (s.cur ++ q).dropLast).2]) (r.drop j) R' (m - j) d' v' w4 := by
  obtain ⟨-, h2, h3, h4, h5, h6, h7⟩ := h
  have hsz := h2.2.2.2.1
  have hsz1 := hb.size
  have hsz2 := h2'.2.2.2.1
  have hsz3 := hT3.2.2.2.1
  have hlen := h3.1.1
  have hqj : q.length + 1 = j := by
    have := congrArg List.length hj
    rw [List.length_take, List.length_append] at this
    simp at this
    omega
  have hT1 : codec.Touch (fun i => i = p ∨ i ∈ F1) w w2 := (below_touch (fun i => i = p ∨ i ∈ F1) hb).trans (h2'.mono fun i _ h => .inl h)
  have hT2 : codec.Touch (fun i => i = p ∨ i ∈ F) W w2 := h2.trans (hT1.mono fun i _ h => by
    rcases h with h | h
    · exact .inl (.inl h)
    · exact (hF1 i h).imp .inr id)
  have hF2W : ∀ i ∈ F2, i ∈ F ∨ W.heap.size ≤ i := fun i hi => by
    rcases hF2 i hi with h | h
    · exact hF1 i h
    · exact .inr (by omega)
  have hF3W : ∀ i ∈ F3, i ∈ F ∨ W.heap.size ≤ i := fun i hi => by
    rcases hF3 i hi with h | h
    · exact hF2W i h
    · exact .inr (by omega)
  have hT4 : codec.Touch (fun i => i = p ∨ i ∈ F) W w3 := hT2.trans (hT3.mono fun i _ h => by
    rcases h with h | h
    · exact .inl (.inl h)
    · exact (hF2W i h).imp .inr id)
  have hT5 : codec.Touch (fun i => i = p ∨ i ∈ F) W w4 := hT4.trans ⟨hg.os, hg.tape, hg.output, hg.size, fun i hi hn => hg.block i hi (fun e => hn (.inr (hys4 i e.symm).1))⟩
  have hC4 := hC3.kept (w' := w4) fun i hi => hg.block i (hC3.lt i hi) (fun e => (hys4 i e.symm).2.2 hi)
  refine ⟨⟨F3, ⟨?_, close_ok _ _, close_left _ _⟩, hF3W, ?_⟩, hT5, (hR W h3).1, fun i hi => h4 i ((hR W h3).2 i hi), ?_, by rw [List.length_append]; simp; omega, ?_⟩
  · have e : decide ((close s.done (s.cur ++ q).dropLast).1.cur.getLast? = some 13) = false := by rw [close_cur]; rfl
    rw [e]
    exact hC4
  · exact UR.push hys2 hys3 hys4 hS3 (fun i hi => ⟨by have := (hA3 i hi).1; omega, (hA3 i hi).2.1, fun e => by have := (hU.own i e).2.1; have := (hA3 i hi).1; omega, fun h => by
      rcases h with h | h
      · have := (hA3 i hi).1; omega
      · exact (hA3 i hi).2.2 h⟩) ho hg hat (by omega) (fun i hi => hC3.lt i hi)
  · rw [h5]
    have e : run s r = run ⟨s.done, s.cur, 0⟩ ((q ++ [x]) ++ r.drop j) := by
      rw [← hj, List.take_append_drop]
      congr 1
      obtain ⟨d, c, l⟩ := s
      simp at hl
      rw [hl]
    rw [e, run_append, run_piece q s.done s.cur x hq, if_pos he]
    simp
  · have h8 := close_size s.done (s.cur ++ q).dropLast
    have hne : s.cur ++ q ≠ [] := by
      intro e
      have := he.2
      rw [e] at this
      simp at this
    have h9 : 0 < (s.cur ++ q).length := List.length_pos_iff.2 hne
    rw [List.length_dropLast] at h8
    rw [List.length_append] at h8 h9
    simp only [St.size] at h7 h8 ⊢
    omega
set_option maxHeartbeats 4000000 in
theorem feed_any (W : World) (p : Nat) (F : List Nat) (S : St) (A : Option Addr) (n c : Nat) (b : List Nat) (hC : CkS W p F S) (hS : Sl W A n c b) (hAp : ∀ i ∈ blk A, i ≠ p ∧ i ∉ F) (hb : S.size + n ≤ 900000) :
    Calls Try.prog 11 #[.pointer (some ⟨p, 0, none⟩), .slice A n c] W fun e w' => FeedAns W p F (run S b).1 (run S b).2 e w' := by
  have H0 := Lib.hid (show FS W p F S b (blk A) S [] b A n c (.slice none 0 0) W from ⟨⟨F, hC, fun i hi => .inl hi, UR.nil _ _ _⟩, codec.Touch.refl _ W, hS, fun i hi => hi, rfl, by simp; omega, hb⟩)
  have HA := Lib.hid hAp
  have HFw := Lib.hid (show ∀ i, i = p ∨ i ∈ F → i < W.heap.size from hC.1.lt)
  clear hC hS hAp
  go_enter Try.func11, Try.ntmps11
  go_wp2
  go_loopw [1, 5] (fun x v wr => ∃ (s : St) (us : List U) (r : List Nat) (R : Option Addr) (m d : Nat), x = .slice R m d ∧ Hid (FS W p F S b (blk A) s us r R m d v wr)) (fun x _ _ => sliceLen x)
  case atStart => exact ⟨S, [], b, A, n, c, rfl, H0⟩
  case round =>
    obtain ⟨s, us, r, R, m, d, rfl, HS⟩ := hrel
    obtain ⟨⟨F1, hC1, hF1, hU1⟩, hT1, hSr, hBk, hrun, hcnt, hsz⟩ := HS.out
    have hlen := hSr.1.1
    by_cases hm : m = 0
    · have HE := Lib.hid (show FeedAns W p F (run S b).1 (run S b).2 (.returned u5) wr from by
        have hr : r = [] := List.eq_nil_of_length_eq_zero (by omega)
        rw [hrun, hr]
        simp only [run, List.append_nil]
        exact ⟨_, F1, rfl, hC1, hF1, hT1, hU1⟩)
      clear hC1 hF1 hU1 hT1 hSr hBk hrun hcnt hsz hlen
      have q0 : decide (0 < m) = false := decide_eq_false (by omega)
      clear hm
      go_wp2_with fail
      go_ret
      exact HE.out
    · have q0 : decide (0 < m) = true := decide_eq_true (by omega)
      obtain ⟨s1, s2, s3⟩ := hC1
      have f4 := s1.facts.2.2.1
      have hlp := s1.facts.2.2.2
      have hblk : ∀ i ∈ blk R, i ≠ p ∧ i ∉ F1 := fun i hi => by
        have h1 := HA.out i (hBk i hi)
        have h2 : i < W.heap.size := by
          cases R with
          | none => simp [blk] at hi
          | some ad =>
            simp [blk] at hi
            subst hi
            exact hSr.1.lt ad rfl (by omega)
        refine ⟨h1.1, fun h => ?_⟩
        rcases hF1 i h with h | h
        · exact h1.2 h
        · omega
      have hSw : Sl wr R m d r := ⟨hSr.1.touch (fun ad e h0 hh => by
        have h1 := HA.out ad.block (hBk ad.block (by rw [e]; simp [blk]))
        rcases hh with hh | hh
        · exact h1.1 hh
        · exact h1.2 hh) hT1, hSr.2⟩
      by_cases hl : 0 < s.left
      · obtain ⟨lf, hlf⟩ : ∃ lf, lf = s.left := ⟨_, rfl⟩
        obtain ⟨j, hj⟩ : ∃ j, j = min lf m := ⟨_, rfl⟩
        have hcur := s2 hl
        have hnone : decide (s.cur.getLast? = some 13) = false := by rw [hcur]; rfl
        rw [hnone, hcur] at s1
        have HL := Lib.hid (takeLit_any wr p F1 s.done s.left false R m d r s1 hSw (fun ad e h0 => hblk ad.block (by rw [e]; simp [blk])) (by omega) (by simp only [St.size] at hsz; omega))
        rw [← hlf] at HL f4
        rw [← hj] at HL
        have HX := Lib.hid (And.intro hlf (And.intro hj (And.intro hF1 (And.intro hU1 (And.intro s2 (And.intro s3 hl))))))
        have hj1 : 0 < j := by omega
        have hjm : j ≤ m := by omega
        have q1 : decide (0 < lf) = true := decide_eq_true (by omega)
        clear s1 s2 s3 hblk hSw hl hlf hj hcur hnone hF1 hU1 hT1 hSr hBk hrun hcnt hsz hlen
        go_wp2_with fail
        refine HL.out.mono ?_
        rintro e w1 ⟨R', d', rfl, hR', hst⟩
        obtain ⟨hlf, hj, hF1, hU1, s2, s3, hl⟩ := HX.out
        rw [hlf] at hj hst
        have HS1 := Lib.hid (HS.out.lit hj hl hR' F1 hF1 hU1 hst s2 s3)
        clear hR' hst hlf hj hF1 hU1 s2 s3 hl f4 q0 q1
        go_wp2_with fail
        go_roundw
        case rel => first | exact ⟨_, us, _, R', m - j, d', rfl, HS1⟩ | ((repeat apply Exists.intro); exact ⟨⟨_, us, _, R', m - j, d', rfl, HS1⟩, rfl⟩)
        case measure => (show m - j < m; omega)
      · have hl0 : s.left = 0 := by omega
        obtain ⟨j, hj⟩ : ∃ j, j = cutN r := ⟨_, rfl⟩
        obtain ⟨q, x, hqx, hq⟩ := cut_piece (l := r) (by omega)
        have hCut := cutPiece_any wr R m d r hSw (by omega)
        rw [← hj] at hCut hqx
        have hjm : j ≤ m := by rw [hj, ← hlen]; exact cutN_le r
        have HCut := Lib.hid hCut
        have q1 : decide (0 < s.left) = false := decide_eq_false hl
        have HX := Lib.hid (And.intro hl0 (And.intro hqx (And.intro hjm (And.intro hq (And.intro hF1 (And.intro hU1 (And.intro s1 (And.intro hblk (And.intro hSw (And.intro hsz hlen))))))))))
        obtain ⟨lf, hlf⟩ : ∃ lf, lf = s.left := ⟨_, rfl⟩
        rw [← hlf] at q1 f4
        clear s1 s2 s3 hblk hSw hl hlf hj hF1 hU1 hT1 hSr hBk hrun hcnt hsz hlen hl0 hqx hq hCut hjm
        go_wp2_with fail
        refine HCut.out.mono ?_
        rintro e w1 ⟨R', d', k, rfl, rfl, hR'⟩
        obtain ⟨hl0, hqx, hjm, hq, hF1, hU1, s1, hblk, hSw, hsz, hlen⟩ := HX.out
        have hb1 : Below wr.heap.size wr (wr.drewN k) := codec.below_draws (Below.refl _ _) k
        generalize wr.drewN k = w1 at *
        have hS1 : Sl w1 R m d r := ⟨hSw.1.below hSw.1.lt hb1, hSw.2⟩
        have hP1 := hS1.part j hjm
        rw [hqx] at hP1
        have hC1 := s1.below hb1
        rw [hl0] at hC1
        have HT := Lib.hid (takePiece_any w1 p F1 s.done s.cur 0 R j d q x hC1 hP1 (fun ad e h0 => hblk ad.block (by rw [e]; simp [blk])) (by simp only [St.size] at hsz; omega))
        have HR' := Lib.hid hR'
        have HB1 := Lib.hid hb1
        clear hl0 hqx hjm hq hF1 hU1 s1 hblk hSw hsz hlen hb1 hS1 hP1 hC1 hR' f4 q1 hlp
        go_wp2_with fail
        refine HT.out.mono ?_
        rintro e w2 ⟨rfl, hst⟩
        obtain ⟨hl0, hqx, hjm, hq, hF1, hU1, s1, hblk, hSw, hsz, hlen⟩ := HX.out
        have hj1 : 0 < j := by
          have := congrArg List.length hqx
          rw [List.length_take, List.length_append] at this
          simp at this
          omega
        by_cases he : x = 10 ∧ (s.cur ++ q).getLast? = some 13
        · rw [decide_eq_true he]
          obtain ⟨⟨F2, g1, g2⟩, g3⟩ := hst
          rw [line_of he, show decide (x = 13) = false from decide_eq_false (by rw [he.1]; decide)] at g1
          have hcl : s.done.length + (s.cur ++ q).dropLast.length ≤ 1000000 := by
            have := congrArg List.length hqx
            rw [List.length_take, List.length_append] at this
            simp only [St.size] at hsz
            simp at this ⊢
            omega
          have HE := Lib.hid (endLine_any w2 p F2 s.done _ g1 hcl)
          have hb1 := HB1.out
          have hU2 : UR W.heap.size w2 (fun i => i = p ∨ i ∈ F2) u5 us := hU1.touch ((below_touch (fun i => i = p ∨ i ∈ F1) hb1).trans (g3.mono fun i _ h => .inl h)) (fun i hi => by
            have hs1 := hb1.size
            rcases hi with h | h
            · exact .inl (.inl h)
            · exact (g2 i h).imp .inr (fun h => by omega))
          have HG := Lib.hid (And.intro g2 (And.intro g3 (And.intro hU2 (And.intro he hj1))))
          clear hl0 hqx hq hF1 hU1 s1 hblk hSw hsz hlen he q0 hm g1 g2 g3 hcl hU2 hb1 hjm hj1
          go_wp2_with fail
          refine HE.out.mono ?_
          rintro e w3 ⟨A3, n3, c3, F3, rfl, hS3, hC3, hF3, hA3, hT3⟩
          have hU3 : UR W.heap.size w3 (fun i => i = p ∨ i ∈ F3) u5 us := HG.out.2.2.1.touch hT3 (fun i hi => by
            rcases hi with h | h
            · exact .inl (.inl h)
            · exact (hF3 i h).imp .inr id)
          obtain ⟨⟨ys, hO, hys2, hys3⟩, hys4⟩ := hU3
          obtain ⟨AV, cv, hv⟩ := own_slice hO
          obtain ⟨nv, hnv⟩ : ∃ nv, nv = ys.length := ⟨_, rfl⟩
          rw [← hnv] at hv
          subst hv
          have HO := Lib.hid hO
          have HZ := Lib.hid (And.intro hS3 (And.intro hC3 (And.intro hF3 (And.intro hA3 (And.intro hT3 (And.intro hys2 (And.intro hys3 hys4)))))))
          have HN := Lib.hid (show ys.length ≤ 20000000 by have := HS.out.2.2.2.2.2.1; omega)
          have HWs := Lib.hid (show W.heap.size ≤ w3.heap.size by
            have h1 := HS.out.2.1.2.2.2.1
            have h2 := HB1.out.size
            have h3 := HG.out.2.1.2.2.2.1
            have h4 := hT3.2.2.2.1
            omega)
          obtain ⟨kk, hkk⟩ : ∃ kk, kk = (close s.done (s.cur ++ q).dropLast).2.1 := ⟨_, rfl⟩
          rw [← hkk]
          have HKK := Lib.hid hkk
          clear hS3 hC3 hF3 hA3 hT3 hO hys2 hys3 hys4 hnv hkk
          have HEnd := Lib.hid (fun (v1 : Value) (w4 : World) (ho : Own cU 2 W.heap.size 29 w4 v1 (ys ++ [⟨kk, A3, n3, c3⟩])) (hg : w3.grownBy w4 (Value.slice AV nv cv).ownBlock) (h3 : v1.ownBlock = (Value.slice AV nv cv).ownBlock ∨ ∃ g, v1.ownBlock = some g ∧ w3.heap.size ≤ g) => (show FS W p F S b (blk A) (close s.done (s.cur ++ q).dropLast).1 (us ++ [(close s.done (s.cur ++ q).dropLast).2]) (r.drop j) R' (m - j) d' v1 w4 by
            rw [HKK.out] at ho
            obtain ⟨hl0, hqx, hjm, hq, hF1, hU1, s1, hblk, hSw, hsz, hlen⟩ := HX.out
            obtain ⟨z1, z2, z3, z4, z5, z6, z7, z8⟩ := HZ.out
            exact FS.ended HS.out hl0 hqx hjm hq HR'.out F1 F2 hF1 HB1.out HG.out.2.1 HG.out.1 (by have := s1.lt p (.inl rfl); exact this) HG.out.2.2.2.1 HG.out.2.2.1 F3 z1 z2 z3 z4 z5 HO.out z6 z7 z8 ho hg h3))
          have HJ := Lib.hid (And.intro HG.out.2.2.2.2 HX.out.2.2.1)
          unfold unit
          go_wp2_with (at_builtin; refine row.wpList_append_own fU (by decide) (by decide) (by_ := 32) (by decide) (z := .agg #[.int .i64 0, .slice none 0 0]) rfl rfl (.tmp 28) (.tmp 31) 24 29 rfl Try.underlying24 infoU W.heap.size (.slice AV nv cv) _ rfl HO.out HWs.out HN.out ⟨kk, A3, n3, c3⟩ (0, 0) _ (by simp) rfl _ rfl ?_; intro v1 w4 ho hg h3; have HS1 := Lib.hid (HEnd.out v1 w4 ho hg h3); clear ho hg h3)
          go_roundw
          case rel => first | exact ⟨_, _, _, R', m - j, d', rfl, HS1⟩ | ((repeat apply Exists.intro); exact ⟨⟨_, _, _, R', m - j, d', rfl, HS1⟩, rfl⟩)
          case measure => (show m - j < m; have := HJ.out; omega)
        · rw [decide_eq_false he]
          have HS1 := Lib.hid (HS.out.piece hl0 hqx hjm hq HR'.out F1 hF1 hU1 HB1.out hst he)
          clear hl0 hqx hq hF1 hU1 s1 hblk hSw hsz hlen hst he q0 hm
          go_wp2_with fail
          go_roundw
          case rel => first | exact ⟨_, us, _, R', m - j, d', rfl, HS1⟩ | ((repeat apply Exists.intro); exact ⟨⟨_, us, _, R', m - j, d', rfl, HS1⟩, rfl⟩)
          case measure => (show m - j < m; omega)
end Go.Proofs.Ytihcgbjmgfgenaa.lx
