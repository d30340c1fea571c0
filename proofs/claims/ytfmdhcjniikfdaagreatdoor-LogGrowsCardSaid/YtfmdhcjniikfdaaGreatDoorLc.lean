/- The law on what is written and read again. -/
import Derived.Test.YtfmdhcjniikfdaaGreatDoorLb
import Derived.Deep.Slices
import Derived.Deep.Fields
import Derived.Lib.SmallJoins
/- What is written of a mailbox, read again: plain mathematics. -/
namespace Go.Proofs.YtfmdhcjniikfdaaGreatDoor.lg
open Go.Proofs.YtfmdhcjniikfdaaGreatDoor.frm (R scan allF recsF frameL frameL_length GoodF scan_frames scan_part scan_end)
open Go.Proofs.YtfmdhcjniikfdaaGreatDoor.bod (formedB named fitsB emptyB payL)
set_option linter.unusedVariables false
set_option linter.unusedSimpArgs false
set_option maxRecDepth 100000

theorem pay_short {n : Nt} (h : n.ok) : n.pay.length ≤ 77 + n.o.length := by
  have hs := bod.formed_size h.1
  have := bod.payL_length h.1
  unfold Nt.pay
  unfold payL
  split
  · simp [codec.bytesOf_length, bod.txt_length]
    omega
  · split
    · simp [codec.bytesOf_length, bod.txt_length]
      omega
    · simp [codec.bytesOf_length]
      omega
theorem pay_le {n : Nt} (h : n.ok) : n.pay.length ≤ 20077 := by
  have := pay_short h
  have := short_oct h
  omega
/-- Notes that may be written. -/
def AllOk (ns : List Nt) : Prop := ∀ n ∈ ns, n.ok ∧ ∀ b ∈ n.o, b < 256
theorem AllOk.good {ns : List Nt} (h : AllOk ns) : GoodF (frs ns) := by
  intro f hf
  obtain ⟨n, hn, rfl⟩ := List.mem_map.1 hf
  obtain ⟨h1, h2⟩ := h n hn
  have hp := h1.parts
  have hl := pay_le h1
  exact ⟨hp.1, hp.2.1, by show n.pay.length ≤ 30000; omega, bod.payL_lt h2⟩
theorem recs_notes : ∀ {ns : List Nt} (i : Nat), AllOk ns → (notesR (recsF i (frs ns))).map Prod.fst = ns
  | [], i, _ => rfl
  | n :: r, i, h => by
    have ih := recs_notes (ns := r) (i + (44 + n.pay.length)) (fun m hm => h m (by simp [hm]))
    have hd := dec_back (h n (by simp)).1
    show (notesR (⟨i, n.k, n.pay⟩ :: recsF (i + (44 + n.pay.length)) (frs r))).map Prod.fst = _
    unfold notesR at *
    rw [List.filterMap_cons]
    have : noteOf ⟨i, n.k, n.pay⟩ = some (n, i) := by unfold noteOf; rw [hd]; rfl
    rw [this]
    simp only [List.map_cons]
    rw [ih]
theorem scan_whole {ns : List Nt} (h : AllOk ns) : scan (allF (frs ns)) 0 0 = (recsF 0 (frs ns), (allF (frs ns)).length) := by
  have := scan_frames (frs ns) [] [] (allF (frs ns)) (allF (frs ns)).length h.good (by simp) (by simp)
  simp only [List.length_nil] at this
  rw [this, scan_end _ _ _ (Nat.le_refl _)]
  simp
theorem ntsL_whole {ns : List Nt} (h : AllOk ns) : ntsL (allF (frs ns)) = ns := by
  unfold ntsL notesL
  rw [scan_whole h]
  exact recs_notes 0 h
theorem scan_torn {ns : List Nt} (h : AllOk ns) {t : Nt} (ht : t.ok) (j : Nat) (hj : j < 44 + t.pay.length) : scan (allF (frs ns) ++ (frameL t.k t.pay).take j) 0 0 = (recsF 0 (frs ns), (allF (frs ns)).length) := by
  have h1 := scan_frames (frs ns) [] ((frameL t.k t.pay).take j) (allF (frs ns) ++ (frameL t.k t.pay).take j) (allF (frs ns)).length h.good (by simp) (by simp)
  have hp := ht.parts
  have h2 := scan_part (allF (frs ns)) t.k t.pay j (allF (frs ns) ++ (frameL t.k t.pay).take j) hp.1 hp.2.1 (by have := pay_le ht; omega) hj rfl
  simp only [List.length_nil] at h1
  rw [h1, h2]
  simp
theorem ntsL_torn {ns : List Nt} (h : AllOk ns) {t : Nt} (ht : t.ok) (j : Nat) (hj : j < 44 + t.pay.length) : ntsL (allF (frs ns) ++ (frameL t.k t.pay).take j) = ns := by
  unfold ntsL notesL
  rw [scan_torn h ht j hj]
  exact recs_notes 0 h
theorem allF_len : ∀ {ns : List Nt}, (∀ n ∈ ns, n.ok) → (allF (frs ns)).length ≤ (ns.map fun n => 121 + n.o.length).sum
  | [], _ => by simp [frs, allF]
  | n :: r, h => by
    have ih := allF_len (ns := r) (fun m hm => h m (by simp [hm]))
    have := pay_short (h n (by simp))
    show (frameL n.k n.pay ++ allF (frs r)).length ≤ _
    rw [List.length_append, frameL_length, List.map_cons, List.sum_cons]
    omega
theorem allF_bytes {ns : List Nt} (h : AllOk ns) : ∀ b ∈ allF (frs ns), b < 256 := by
  intro b hb
  obtain ⟨f, hf, hb⟩ := List.mem_flatMap.1 hb
  obtain ⟨n, hn, rfl⟩ := List.mem_map.1 hf
  have hp := (h n hn).1.parts
  exact bod.frameL_lt (by omega) (bod.payL_lt (h n hn).2) b hb

/-! A mailbox that may be written. -/
def rgt (X : Nat) (st : Nat × Bool) (n : Nt) : Nat × Bool := (n.u, st.2 && decide (st.1 < n.u ∧ (n.u < X ∨ X = 4294967295)) && fitsB n.d n.f n.o.length)
def rt (S : ByteArray) (E X : Nat) (l : List Nt) : Nat × Bool := l.foldl (rgt X) (0, named S && decide (0 < E))
theorem rt_snoc (S : ByteArray) (E X : Nat) (l : List Nt) (n : Nt) : rt S E X (l ++ [n]) = rgt X (rt S E X l) n := by simp [rt]
theorem rt_iff_aux (X : Nat) : ∀ (l : List Nt) (st : Nat × Bool), (l.foldl (rgt X) st).2 = true ↔ st.2 = true ∧ (l.foldl (ord X) (st.1, true)).2 = true ∧ ∀ n ∈ l, fitsB n.d n.f n.o.length = true
  | [], st => by simp
  | n :: r, st => by
    rw [List.foldl_cons, List.foldl_cons, rt_iff_aux X r]
    have e : ord X (st.1, true) n = (n.u, decide (st.1 < n.u ∧ (n.u < X ∨ X = 4294967295))) := by simp [ord]
    rw [e]
    cases hd : decide (st.1 < n.u ∧ (n.u < X ∨ X = 4294967295)) with
    | false =>
      have hf := od_false (X := X) r (n.u, false) rfl
      rw [hf]
      simp [rgt, hd]
    | true =>
      simp only [rgt, hd, Bool.and_true, Bool.and_eq_true, List.mem_cons, forall_eq_or_imp]
      constructor
      · rintro ⟨⟨h1, h2⟩, h3, h4⟩
        exact ⟨h1, h3, h2, h4⟩
      · rintro ⟨h1, h3, h2, h4⟩
        exact ⟨⟨h1, h2⟩, h3, h4⟩
theorem od_rise (X : Nat) : ∀ (l : List Nt) (a : Nat), (l.foldl (ord X) (a, true)).2 = true → ∀ n ∈ l, a < n.u ∧ (n.u < X ∨ X = 4294967295)
  | [], a, _ => by simp
  | m :: r, a, h => by
    rw [List.foldl_cons] at h
    have e : ord X (a, true) m = (m.u, decide (a < m.u ∧ (m.u < X ∨ X = 4294967295))) := by simp [ord]
    rw [e] at h
    cases hd : decide (a < m.u ∧ (m.u < X ∨ X = 4294967295)) with
    | false =>
      rw [hd, od_false (X := X) r (m.u, false) rfl] at h
      cases h
    | true =>
      rw [hd] at h
      have hd' := of_decide_eq_true hd
      intro n hn
      rcases List.mem_cons.1 hn with rfl | hn
      · exact hd'
      · have := od_rise X r m.u h n hn
        omega
structure Msgs (S : ByteArray) (E : Nat) (l : List Nt) : Prop where
  k : ∀ n ∈ l, n.k = 2 ∧ n.e = E ∧ n.s = S
  u : ∀ n ∈ l, n.u < 4294967296
theorem right_ok {S : ByteArray} {E X : Nat} {l : List Nt} (hm : Msgs S E l) (hE : E < 4294967296) (hX : X < 4294967296) : (rt S E X l).2 = true ↔ (od X l).2 = true ∧ ∀ n ∈ notesB S E X l, n.ok := by
  unfold rt od
  rw [rt_iff_aux]
  simp only [Bool.and_eq_true, decide_eq_true_eq]
  have hbx : (bx S E).ok ↔ named S = true ∧ 0 < E := by
    unfold Nt.ok bx
    simp only []
    rw [show ((1 : Nat) : Int) = 1 from rfl, bod.formed_one]
    constructor
    · rintro ⟨h, _, _⟩
      simp only [Bool.and_eq_true, decide_eq_true_eq] at h
      exact ⟨h.2.1, by have := h.1; omega⟩
    · rintro ⟨h1, h2⟩
      refine ⟨?_, hE, by omega⟩
      simp only [Bool.and_eq_true, decide_eq_true_eq]
      exact ⟨by omega, h1, trivial, by simp [emptyB]⟩
  have hms : ∀ n ∈ l, 0 < n.u → (named S = true ∧ 0 < E) → (n.ok ↔ fitsB n.d n.f n.o.length = true) := by
    intro n hn hu hne
    obtain ⟨h1, h2, h3⟩ := hm.k n hn
    have h4 := hm.u n hn
    unfold Nt.ok
    rw [h1, h2, h3, show ((2 : Nat) : Int) = 2 from rfl, bod.formed_two]
    simp only [Bool.and_eq_true, decide_eq_true_eq]
    constructor
    · rintro ⟨h, _⟩
      exact h.2.2.2
    · intro h
      exact ⟨⟨by have := hne.2; omega, hne.1, by omega, h⟩, hE, h4⟩
  have hgn : (0 < X ∧ lu l < X - 1) → 0 < E → (gn E X).ok := by
    intro h hE0
    unfold Nt.ok gn
    simp only []
    rw [show ((3 : Nat) : Int) = 3 from rfl, bod.formed_three]
    refine ⟨?_, hE, by omega⟩
    simp [emptyB]
    refine ⟨by omega, rfl, by omega⟩
  constructor
  · rintro ⟨hne, ho, hf⟩
    refine ⟨ho, ?_⟩
    intro n hn
    unfold notesB at hn
    rcases List.mem_append.1 hn with hn | hn
    · rcases List.mem_cons.1 hn with rfl | hn
      · exact hbx.2 hne
      · exact (hms n hn (by have := od_rise X l 0 ho n hn; omega) hne).2 (hf n hn)
    · split at hn
      · rename_i hg
        simp at hn
        subst hn
        exact hgn hg hne.2
      · cases hn
  · rintro ⟨ho, hall⟩
    have hne := hbx.1 (hall (bx S E) (by unfold notesB; simp))
    refine ⟨hne, ho, fun n hn => ?_⟩
    exact (hms n hn (by have := od_rise X l 0 ho n hn; omega) hne).1 (hall n (by unfold notesB; simp [hn]))
theorem nm_all {S : ByteArray} : ∀ (l : List Nt), (∀ n ∈ l, n.k = 2 ∧ n.s = S) → l.foldl (fun a n => if n.k = 3 then a else n.s) S = S
  | [], _ => rfl
  | n :: r, h => by
    obtain ⟨h1, h2⟩ := h n (by simp)
    rw [List.foldl_cons, if_neg (by omega), h2]
    exact nm_all r (fun m hm => h m (by simp [hm]))
theorem ep_all {E : Nat} : ∀ (l : List Nt), (∀ n ∈ l, n.e = E) → l.foldl (fun a n => max a n.e) E = E
  | [], _ => rfl
  | n :: r, h => by
    rw [List.foldl_cons, h n (by simp), Nat.max_self]
    exact ep_all r (fun m hm => h m (by simp [hm]))
theorem top_all {E X : Nat} : ∀ (l : List Nt) (a : Nat), (∀ n ∈ l, n.e = E) → (l.foldl (ord X) (a, true)).2 = true → l.foldl (fun a n => if n.e = E then max a n.u else a) a = l.foldl (fun _ n => n.u) a ∧ a ≤ l.foldl (fun _ n => n.u) a ∧ ∀ n ∈ l, n.u ≤ l.foldl (fun _ n => n.u) a
  | [], a, _, _ => ⟨rfl, Nat.le_refl _, by simp⟩
  | n :: r, a, h, ho => by
    have hr := od_rise X (n :: r) a ho n (by simp)
    have ho2 : (r.foldl (ord X) (n.u, true)).2 = true := by
      rw [List.foldl_cons] at ho
      have e : ord X (a, true) n = (n.u, true) := by simp [ord, hr]
      rw [e] at ho
      exact ho
    obtain ⟨h1, h2, h3⟩ := top_all r n.u (fun m hm => h m (by simp [hm])) ho2
    rw [List.foldl_cons, List.foldl_cons, if_pos (h n (by simp)), show max a n.u = n.u by omega]
    refine ⟨h1, by omega, fun m hm => ?_⟩
    rcases List.mem_cons.1 hm with rfl | hm
    · exact h2
    · exact h3 m hm
theorem cl_all {E X : Nat} (hX : X ≤ 4294967290) : ∀ (l : List Nt) (a : Nat), (∀ n ∈ l, n.e = E) → (l.foldl (ord X) (a, true)).2 = true → (l.foldl (stp E) (a, true)).2 = true
  | [], a, _, _ => rfl
  | n :: r, a, h, ho => by
    have hr := od_rise X (n :: r) a ho n (by simp)
    have ho2 : (r.foldl (ord X) (n.u, true)).2 = true := by
      rw [List.foldl_cons] at ho
      have e : ord X (a, true) n = (n.u, true) := by simp [ord, hr]
      rw [e] at ho
      exact ho
    rw [List.foldl_cons]
    have e : stp E (a, true) n = (n.u, true) := by
      unfold stp
      rw [decide_eq_true (show n.e = E ∧ a < n.u ∧ n.u < 4294967295 from ⟨h n (by simp), hr.1, by omega⟩)]
      rfl
    rw [e]
    exact cl_all hX r n.u (fun m hm => h m (by simp [hm])) ho2
theorem back_says {S : ByteArray} {E X : Nat} {l : List Nt} (hm : Msgs S E l) (ho : (od X l).2 = true) (hX1 : 1 ≤ X) (hX2 : X ≤ 4294967290) :
    nmL (notesB S E X l) = S ∧ epo (notesB S E X l) = E ∧ nxt (top E (notesB S E X l)) = X ∧ lives (notesB S E X l) = l ∧ (cl E l).2 = true := by
  obtain ⟨t1, t2, t3⟩ := top_all l 0 (fun n hn => (hm.k n hn).2.1) ho
  have hrise := od_rise X l 0 ho
  have hlu : lu l = 0 ∨ lu l < X := by
    by_cases h : l = []
    · subst h
      exact .inl rfl
    · obtain ⟨r, n, rfl⟩ : ∃ r n, l = r ++ [n] := ⟨l.dropLast, l.getLast h, (List.dropLast_concat_getLast h).symm⟩
      rw [lu_snoc]
      have := hrise n (by simp)
      omega
  have hlu' : l.foldl (fun _ n => n.u) 0 = lu l := rfl
  rw [hlu'] at t1 t2 t3
  refine ⟨?_, ?_, ?_, ?_, cl_all hX2 l 0 (fun n hn => (hm.k n hn).2.1) ho⟩
  · unfold nmL notesB
    rw [List.foldl_append, List.foldl_cons, if_neg (by simp [bx]), show (bx S E).s = S from rfl, nm_all l (fun n hn => ⟨(hm.k n hn).1, (hm.k n hn).2.2⟩)]
    split
    · rfl
    · rfl
  · unfold epo notesB
    rw [List.foldl_append, List.foldl_cons, show max 0 (bx S E).e = E from Nat.zero_max E, ep_all l (fun n hn => (hm.k n hn).2.1)]
    split
    · show max E E = E
      exact Nat.max_self E
    · rfl
  · unfold top notesB
    rw [List.foldl_append, List.foldl_cons, if_pos (show (bx S E).e = E from rfl), show max 0 (bx S E).u = 0 from rfl, t1]
    split
    · rename_i hg
      show nxt (if E = E then max (lu l) (X - 1) else _) = X
      rw [if_pos rfl]
      unfold nxt
      omega
    · rename_i hg
      show nxt (lu l) = X
      unfold nxt
      omega
  · have hlen : (notesB S E X l).length = l.length + 1 + (if 0 < X ∧ lu l < X - 1 then 1 else 0) := by
      unfold notesB
      split <;> simp
    have hat : ∀ i n, l[i]? = some n → (notesB S E X l)[i + 1]? = some n := by
      intro i n h
      have hi := (List.getElem?_eq_some_iff.1 h).1
      unfold notesB
      rw [List.cons_append, List.getElem?_cons_succ, List.getElem?_append_left hi]
      exact h
    have hlive : ∀ i n, l[i]? = some n → livB (notesB S E X l) (i + 1) = true := by
      intro i n h
      have hn := List.mem_of_getElem? h
      unfold livB gone
      rw [hat i n h]
      simp only [Bool.not_eq_true', Bool.or_eq_false_iff, decide_eq_false_iff_not]
      refine ⟨by have := (hm.k n hn).1; omega, ?_⟩
      rw [List.any_eq_false]
      intro q hq
      have hq' := List.mem_of_mem_drop hq
      simp only [decide_eq_true_eq]
      rintro ⟨hk, _, hu⟩
      unfold notesB at hq'
      rcases List.mem_append.1 hq' with hq' | hq'
      · rcases List.mem_cons.1 hq' with rfl | hq'
        · simp [bx] at hk
        · have := (hm.k q hq').1
          omega
      · split at hq'
        · rename_i hg
          simp at hq'
          subst hq'
          have h1 : (gn E X).u = X - 1 := rfl
          have := t3 n hn
          omega
        · cases hq'
    have hpick : ∀ i, i ≤ l.length → pick (notesB S E X l) (livB (notesB S E X l)) (i + 1) = l.take i := by
      intro i
      induction i with
      | zero =>
        intro _
        have h0 : livB (notesB S E X l) 0 = false := live_not (n := bx S E) (by unfold notesB; rfl) (by show (1 : Nat) ≠ 2; omega)
        rw [pick_no h0]
        rfl
      | succ i ih =>
        intro hi
        have hx : l[i]? = some l[i] := List.getElem?_eq_getElem (by omega)
        rw [pick_yes (hat i _ hx) (hlive i _ hx), ih (by omega), take_next hx]
    unfold lives
    rw [hlen]
    split
    · rename_i hg
      have hgx : (notesB S E X l)[l.length + 1]? = some (gn E X) := by
        unfold notesB
        rw [if_pos hg, List.cons_append, List.getElem?_cons_succ, List.getElem?_append_right (Nat.le_refl _)]
        simp
      rw [pick_no (live_not hgx (by show (3 : Nat) ≠ 2; omega)), hpick _ (Nat.le_refl _), List.take_length]
    · rw [Nat.add_zero, hpick _ (Nat.le_refl _), List.take_length]
end Go.Proofs.YtfmdhcjniikfdaaGreatDoor.lg
/- Few; the law on what is written and read again. -/
namespace Go.Proofs.YtfmdhcjniikfdaaGreatDoor.lg
open Go.ChangeShapes Go.WideShapes Go.ChangeAt Go.RowKit
open Go.Proofs.YtfmdhcjniikfdaaGreatDoor.codec (Bytes vals)
open Go.Proofs.YtfmdhcjniikfdaaGreatDoor.bod (cell_at Fit named fitsB)
open Go.Proofs.YtfmdhcjniikfdaaGreatDoor.frm (allF scan)
set_option linter.unusedVariables false
set_option maxRecDepth 100000
set_option linter.unusedSimpArgs false

def sumO (l : List Nt) : Nat := (l.map fun n => 1 + n.o.length).sum
theorem sumO_snoc (l : List Nt) (n : Nt) : sumO (l ++ [n]) = sumO l + (1 + n.o.length) := by simp [sumO]
theorem sumO_take (l : List Nt) (k : Nat) : sumO (l.take k) ≤ sumO l := by
  have h : sumO (l.take k ++ l.drop k) = sumO (l.take k) + sumO (l.drop k) := by
    unfold sumO
    rw [List.map_append, List.sum_append]
  rw [List.take_append_drop] at h
  omega
theorem sumO_len (l : List Nt) : l.length ≤ sumO l := by
  induction l with
  | nil => simp [sumO]
  | cons n r ih =>
    have : sumO (n :: r) = 1 + n.o.length + sumO r := by simp [sumO]
    rw [this, List.length_cons]
    omega
def fewB (S : ByteArray) (l : List Nt) : Bool := decide (S.size + sumO l ≤ 60000)
set_option maxHeartbeats 2000000 in
theorem few_any (W : World) (S : ByteArray) (E X : Nat) (A : Option Addr) (n c : Nat) (qs : List Y) (hR : Rd cM 4 W A n qs) (hn : n ≤ 140737488355328) (hS : S.size ≤ 140737488355328) (hm : ∀ y ∈ qs, y.m ≤ 140737488355328) :
    Calls Tryz.prog 12 #[.agg #[.string S, .int .u32 E, .int .u32 X, .slice A n c]] W fun x w' => x = .returned (.bool (fewB S (nts qs))) ∧ Below W.heap.size W w' := by
  obtain ⟨W1, hW1⟩ : ∃ W1, W1 = W.alloc (.cells #[.string S, .int .u32 E, .int .u32 X, .slice A n c] 35) := ⟨_, rfl⟩
  have HBW := Lib.hid (show Below W.heap.size W W1 by rw [hW1]; exact (Below.refl _ _).alloc (Nat.le_refl _) _)
  have hX1 : W1.heap[W.heap.size]? = some (.cells #[.string S, .int .u32 E, .int .u32 X, .slice A n c] 35 (0, 0)) := by rw [hW1]; exact heap_alloc_new _ _
  have HR := Lib.hid (hR.below HBW.out)
  have HL := Lib.hid (show (nts qs).length = n by rw [nts_len, hR.1])
  have HM := Lib.hid hm
  have HW1 := Lib.hid hW1
  have HXX := Lib.hid hX1
  have c0 := cell_at hX1 0 _ rfl
  have c3 := cell_at hX1 3 _ rfl
  rw [hW1] at c0 c3
  clear hW1 hR hm hX1
  go_enter Tryz.func12, Tryz.ntmps12
  go_wp2_with fail
  rw [← HW1.out]
  clear c0 c3
  have c3 := cell_at HXX.out 3 _ rfl
  go_loop [3, 11] (fun s i => ∃ k t : Nat, k ≤ n ∧ i = .int .i64 k ∧ s = .int .i64 t ∧ (t ≤ 140737488355328 ∧ (k = 0 ∨ t ≤ 60000)) ∧ Hid (t = S.size + sumO ((nts qs).take k))) (fun _ i => n - (intOf i).toNat)
  case atStart => exact ⟨0, S.size, Nat.zero_le _, rfl, rfl, ⟨hS, .inl rfl⟩, Lib.hid rfl⟩
  case round =>
    obtain ⟨k, t, hk, rfl, rfl, ⟨ht, ht2⟩, HT⟩ := hrel
    by_cases hlt : k < n
    · obtain ⟨b, o, ⟨⟨tk, te, ts, tu, td, tf, to_⟩, a, A', m', c'⟩, rfl, hx, d0, d1, d2, d3, hoc⟩ := HR.out.at4 k hlt
      have hmm := HM.out _ (List.mem_of_getElem? hx)
      have HT2 : Hid (S.size + sumO ((nts qs).take (k + 1)) = t + (1 + m')) := Lib.hid (by have h1 : to_.length = m' := hoc.1.1; have h2 := HT.out; rw [take_next (nts_at hx), sumO_snoc]; show S.size + (sumO ((nts qs).take k) + (1 + to_.length)) = _; omega)
      simp only [] at d0 d1 d2 d3 hmm
      have hlt' : (k : Int) < (n : Int) := by omega
      clear hx hoc
      by_cases hg : t + (1 + m') ≤ 60000
      · have hg' : decide ((60000 : Int) < (t : Int) + 1 + (m' : Int)) = false := by rw [decide_eq_false_iff_not]; omega
        go_wp2_with fail
        go_round
        case rel => first | exact ⟨k + 1, t + (1 + m'), by omega, by go_num, by go_num, ⟨by omega, .inr hg⟩, Lib.hid HT2.out.symm⟩ | ((repeat apply Exists.intro); exact ⟨⟨k + 1, t + (1 + m'), by omega, by go_num, by go_num, ⟨by omega, .inr hg⟩, Lib.hid HT2.out.symm⟩, rfl⟩)
        case measure => (show n - ((k : Int) + 1).toNat < n - k; omega)
      · have hg' : decide ((60000 : Int) < (t : Int) + 1 + (m' : Int)) = true := by rw [decide_eq_true_iff]; omega
        have HF : Hid (fewB S (nts qs) = false) := Lib.hid (by
          unfold fewB
          have h1 := sumO_take (nts qs) (k + 1)
          have h2 := HT2.out
          rw [decide_eq_false_iff_not]
          omega)
        go_wp2_with fail
        go_ret
        exact ⟨by rw [HF.out]; rfl, HBW.out⟩
    · obtain rfl : k = n := by omega
      have HF : Hid (fewB S (nts qs) = decide ((t : Int) ≤ 60000)) := Lib.hid (by
        have h := HT.out
        rw [List.take_of_length_le (by rw [HL.out]; omega)] at h
        unfold fewB
        rw [← h, Bool.eq_iff_iff, decide_eq_true_iff, decide_eq_true_iff]
        omega)
      go_wp2_with fail
      go_ret
      exact ⟨by rw [HF.out]; rfl, HBW.out⟩
set_option maxHeartbeats 4000000 in
theorem back_many (W : World) (S : ByteArray) (E X : Nat) (A : Option Addr) (n c : Nat) (qs : List Y) (hR : Rd cM 4 W A n qs) (hn : n ≤ 140737488355328) (hS : S.size ≤ 140737488355328) (hm : ∀ y ∈ qs, y.m ≤ 140737488355328) (hf : fewB S (nts qs) = false) (hL : sumDoor.Laid W) (hr : Fit W) :
    Calls Tryz.prog 4 #[.agg #[.string S, .int .u32 E, .int .u32 X, .slice A n c]] W fun x w' => x = .returned (.bool true) ∧ Below W.heap.size W w' := by
  obtain ⟨W1, hW1⟩ : ∃ W1, W1 = W.alloc (.cells #[.string S, .int .u32 E, .int .u32 X, .slice A n c] 35) := ⟨_, rfl⟩
  have HBW := Lib.hid (show Below W.heap.size W W1 by rw [hW1]; exact (Below.refl _ _).alloc (Nat.le_refl _) _)
  have HX1 := Lib.hid (fun (w1 : World) (h : Below W1.heap.size W1 w1) => (bod.boxed (w := W) (o := .cells #[.string S, .int .u32 E, .int .u32 X, .slice A n c] 35) (w1 := w1) (by rw [← hW1]; exact h)).1)
  have HFW := Lib.hid (fun (w1 : World) (h : Below W1.heap.size W1 w1) => few_any w1 S E X A n c qs (hR.below (HBW.out.trans (h.mono HBW.out.size))) hn hS hm)
  have HAW := Lib.hid (fun (w1 : World) (h : Below W1.heap.size W1 w1) => awake_any w1 (hL.below hL.lt (HBW.out.trans (h.mono HBW.out.size))) (hr.below (HBW.out.trans (h.mono HBW.out.size))))
  have HF := Lib.hid hf
  have HW1 := Lib.hid hW1
  clear hW1 hR hm hL hr hf hn hS
  go_enter Tryz.func4, Tryz.ntmps4
  go_wp2_with fail
  rw [← HW1.out]
  refine (HAW.out W1 (Below.refl _ _)).mono ?_
  rintro x w1 ⟨rfl, hb1⟩
  have HB1 := Lib.hid hb1
  have c0 := cell_at (HX1.out _ hb1) 0 _ rfl
  have c1 := cell_at (HX1.out _ hb1) 1 _ rfl
  have c2 := cell_at (HX1.out _ hb1) 2 _ rfl
  have c3 := cell_at (HX1.out _ hb1) 3 _ rfl
  clear hb1
  go_wp2_with fail
  clear c0 c1 c2 c3
  refine (HFW.out w1 HB1.out).mono ?_
  rw [HF.out]
  rintro x w2 ⟨rfl, hb2⟩
  have HB2 := Lib.hid (HB1.out.trans (hb2.mono HB1.out.size))
  clear hb2
  go_wp2_with fail
  refine (HAW.out w2 HB2.out).mono ?_
  rintro x w3 ⟨rfl, hb3⟩
  have HB3 := Lib.hid (HB2.out.trans (hb3.mono HB2.out.size))
  clear hb3
  go_wp2_with fail
  go_ret
  exact ⟨rfl, HBW.out.trans (HB3.out.mono HBW.out.size)⟩
end Go.Proofs.YtfmdhcjniikfdaaGreatDoor.lg
/- The law on what is written and read again. -/
namespace Go.Proofs.YtfmdhcjniikfdaaGreatDoor.lg
open Go.ChangeShapes Go.WideShapes Go.ChangeAt Go.RowKit
open Go.Proofs.YtfmdhcjniikfdaaGreatDoor.codec (Bytes vals)
open Go.Proofs.YtfmdhcjniikfdaaGreatDoor.bod (cell_at Fit named fitsB)
open Go.Proofs.YtfmdhcjniikfdaaGreatDoor.frm (allF scan)
set_option linter.unusedVariables false
set_option maxRecDepth 100000
set_option linter.unusedSimpArgs false

theorem sum121 (l : List Nt) : (l.map fun n => 121 + n.o.length).sum ≤ 121 * sumO l := by
  induction l with
  | nil => simp [sumO]
  | cons n r ih =>
    have : sumO (n :: r) = 1 + n.o.length + sumO r := by simp [sumO]
    rw [this, List.map_cons, List.sum_cons]
    omega
theorem sumO_notesB (S : ByteArray) (E X : Nat) (l : List Nt) : sumO (notesB S E X l) ≤ sumO l + 2 := by
  unfold notesB
  have h : ∀ a b : List Nt, sumO (a ++ b) = sumO a + sumO b := fun a b => by unfold sumO; rw [List.map_append, List.sum_append]
  have h1 : sumO (bx S E :: l) = 1 + sumO l := by simp [sumO, bx]
  rw [h, h1]
  split
  · simp [sumO, gn]
    omega
  · simp [sumO]
    omega
set_option maxHeartbeats 8000000 in
theorem back_no (W : World) (S : ByteArray) (E X : Nat) (A : Option Addr) (n c : Nat) (qs : List Y) (hR : Rd cM 4 W A n qs) (hE : E < 4294967296) (hX : X < 4294967296) (hM : Msgs S E (nts qs)) (hbb : ∀ t ∈ nts qs, ∀ b ∈ t.o, b < 256) (hf : fewB S (nts qs) = true) (hL : sumDoor.Laid W) (hr : Fit W) (hrt : (rt S E X (nts qs)).2 = false) :
    Calls Tryz.prog 4 #[.agg #[.string S, .int .u32 E, .int .u32 X, .slice A n c]] W fun x w' => x = .returned (.bool true) ∧ Below W.heap.size W w' := by
  obtain ⟨W1, hW1⟩ : ∃ W1, W1 = W.alloc (.cells #[.string S, .int .u32 E, .int .u32 X, .slice A n c] 35) := ⟨_, rfl⟩
  have HBW := Lib.hid (show Below W.heap.size W W1 by rw [hW1]; exact (Below.refl _ _).alloc (Nat.le_refl _) _)
  have HX1 := Lib.hid (fun (w1 : World) (h : Below W1.heap.size W1 w1) => (bod.boxed (w := W) (o := .cells #[.string S, .int .u32 E, .int .u32 X, .slice A n c] 35) (w1 := w1) (by rw [← hW1]; exact h)).1)
  have hlen : (nts qs).length = n := by rw [nts_len, hR.1]
  have hfew : S.size + sumO (nts qs) ≤ 60000 := of_decide_eq_true hf
  have hn6 : n ≤ 60000 := by have := sumO_len (nts qs); omega
  have hmm : ∀ y ∈ qs, y.m ≤ 140737488355328 := fun y hy => by
    obtain ⟨k, hk, hky⟩ := List.getElem_of_mem hy
    obtain ⟨b, o, z, h1, h2, h3, h4⟩ := hR.2 k (by rw [← hR.1]; exact hk)
    rw [List.getElem?_eq_getElem hk, hky] at h2
    cases h2
    have h5 := h4.1.1
    have h6 : 1 + y.n.o.length ≤ sumO (nts qs) := by
      have h7 := sumO_take (nts qs) (k + 1)
      have h8 : (nts qs)[k]? = some y.n := nts_at (by rw [List.getElem?_eq_getElem hk, hky])
      rw [take_next h8, sumO_snoc] at h7
      omega
    omega
  have HFW := Lib.hid (fun (w1 : World) (h : Below W1.heap.size W1 w1) => few_any w1 S E X A n c qs (hR.below (HBW.out.trans (h.mono HBW.out.size))) (by omega) (by omega) hmm)
  have HAW := Lib.hid (fun (w1 : World) (h : Below W1.heap.size W1 w1) => awake_any w1 (hL.below hL.lt (HBW.out.trans (h.mono HBW.out.size))) (hr.below (HBW.out.trans (h.mono HBW.out.size))))
  have HFit := Lib.hid (fun (w1 : World) (h : Below W1.heap.size W1 w1) => hr.below (HBW.out.trans (h.mono HBW.out.size)))
  have HLaid := Lib.hid (fun (w1 : World) (h : Below W1.heap.size W1 w1) => hL.below hL.lt (HBW.out.trans (h.mono HBW.out.size)))
  have HRQ1 := Lib.hid (fun (w1 : World) (h : Below W1.heap.size W1 w1) => hR.below (HBW.out.trans (h.mono HBW.out.size)))
  have HWR := Lib.hid (fun (w1 : World) (h : Below W1.heap.size W1 w1) => write_any w1 S E X A n c qs (HRQ1.out w1 h) (by omega) hE hX (fun y hy => hM.u y.n (List.mem_map.2 ⟨y, hy, rfl⟩)) (by omega) (fun y hy => hM.k y.n (List.mem_map.2 ⟨y, hy, rfl⟩)) (HFit.out w1 h) (HLaid.out w1 h) (fun k hk => by
    have h1 := allF_len hk
    have h2 := sum121 ((notesB S E X (nts qs)).take k)
    have h3 := sumO_take (notesB S E X (nts qs)) k
    have h4 := sumO_notesB S E X (nts qs)
    omega))
  have HRI := Lib.hid (right_ok (S := S) (E := E) (X := X) hM hE hX)
  have HNM := Lib.hid (fun w => bod.rNamed_any w S (by omega))
  have HNL := Lib.hid hlen
  have HMM := Lib.hid hM
  have HF := Lib.hid hf
  have HBB := Lib.hid hbb
  have HW1 := Lib.hid hW1
  clear hW1 hR hmm hL hr hf hlen hfew hM hE hX hbb
  have HWS := Lib.hid (fun (w1 : World) (h : Below W1.heap.size W1 w1) => show Calls Tryz.prog 13 #[.agg #[.string S, .int .u32 E, .int .u32 X, .slice A n c]] w1 fun x w' => x = .returned (.tuple #[.slice none 0 0, .int .i64 1]) ∧ Below w1.heap.size w1 w' from (HWR.out w1 h).mono fun x w' ha => by
    rcases ha with ⟨-, hx, hb⟩ | ⟨ho, hall, -⟩
    · exact ⟨hx, hb⟩
    · have := HRI.out.2 ⟨ho, hall⟩
      rw [hrt] at this
      cases this)
  have HRT := Lib.hid hrt
  clear hrt HWR
  go_enter Tryz.func4, Tryz.ntmps4
  go_wp2_with fail
  rw [← HW1.out]
  refine (HAW.out W1 (Below.refl _ _)).mono ?_
  rintro x w1 ⟨rfl, hb1⟩
  have HB1 := Lib.hid hb1
  have c0 := cell_at (HX1.out _ hb1) 0 _ rfl
  have c1 := cell_at (HX1.out _ hb1) 1 _ rfl
  have c2 := cell_at (HX1.out _ hb1) 2 _ rfl
  have c3 := cell_at (HX1.out _ hb1) 3 _ rfl
  clear hb1
  go_wp2_with fail
  clear c0 c1 c2 c3
  refine (HFW.out w1 HB1.out).mono ?_
  rw [HF.out]
  rintro x w2 ⟨rfl, hb2⟩
  have hb12 := HB1.out.trans (hb2.mono HB1.out.size)
  have HB2 := Lib.hid hb12
  have c0 := cell_at (HX1.out _ hb12) 0 _ rfl
  have c1 := cell_at (HX1.out _ hb12) 1 _ rfl
  have c2 := cell_at (HX1.out _ hb12) 2 _ rfl
  have c3 := cell_at (HX1.out _ hb12) 3 _ rfl
  clear hb2 hb12
  go_wp2_with fail
  clear c0 c1 c2 c3
  refine (HWS.out w2 HB2.out).mono ?_
  rintro x w3 ⟨rfl, hb3⟩
  have HB3 := Lib.hid (HB2.out.trans (hb3.mono HB2.out.size))
  have HT3 := Lib.hid (fun (w' : World) (h : Below w3.heap.size w3 w') => HB3.out.trans (h.mono HB3.out.size))
  clear hb3
  obtain ⟨R0, hR0⟩ : ∃ R0, R0 = (named S && decide (0 < E)) := ⟨_, rfl⟩
  have HR0 : Hid (rt S E X [] = (0, R0)) := Lib.hid (by rw [hR0]; rfl)
  have HRN := Lib.hid hR0
  clear hR0
  go_upto_region 4 with (fail)
  go_cut [5] from 23 to 33 (fun s5 wx => s5 = .bool R0 ∧ Hid (Below w3.heap.size w3 wx))
  case first =>
    have b0 := cell_at (HX1.out _ HB3.out) 0 _ rfl
    go_wp2_with fail
    refine (HNM.out w3).mono ?_
    rintro x w4 ⟨rfl, hb4⟩
    have HB4 := Lib.hid hb4
    have b1 := cell_at (HX1.out _ (HT3.out _ hb4)) 1 _ rfl
    clear b0 hb4
    cases hN : named S with
    | false =>
      have hR : R0 = false := by rw [HRN.out, hN]; rfl
      clear hN
      go_wp2_with fail
      go_meet
      exact ⟨by rw [hR], HB4⟩
    | true =>
      have hR : R0 = decide (0 < E) := by rw [HRN.out, hN]; rfl
      clear hN
      by_cases h0 : 0 < E
      · have h0' : decide ((0 : Int) < (E : Int)) = true := by rw [decide_eq_true_iff]; omega
        have h0b : decide (0 < E) = true := decide_eq_true h0
        clear h0
        go_wp2_with fail
        go_meet
        exact ⟨by rw [hR, h0b], HB4⟩
      · have h0' : decide ((0 : Int) < (E : Int)) = false := by rw [decide_eq_false_iff_not]; omega
        have h0b : decide (0 < E) = false := decide_eq_false h0
        clear h0
        go_wp2_with fail
        go_meet
        exact ⟨by rw [hR, h0b], HB4⟩
  case rest =>
    obtain ⟨rfl, HB4⟩ := hcut
    have b3 := cell_at (HX1.out _ (HT3.out _ HB4.out)) 3 _ rfl
    go_wp2_with fail
    clear b3
    go_loopw [5, 6, 34] (fun r la i wr => ∃ k : Nat, k ≤ n ∧ i = .int .i64 k ∧ r = .bool (rt S E X ((nts qs).take k)).2 ∧ la = .int .u32 ((rt S E X ((nts qs).take k)).1 : Nat) ∧ Hid (Below w3.heap.size w3 wr)) (fun _ _ i _ => n - (intOf i).toNat)
    case atStart => exact ⟨0, Nat.zero_le _, rfl, by rw [List.take_zero, HR0.out], by rw [List.take_zero, HR0.out]; rfl, HB4⟩
    case round =>
      obtain ⟨k, hk, rfl, rfl, rfl, HB⟩ := hrel
      by_cases hlt : k < n
      · obtain ⟨b, o, ⟨⟨tk, te, ts, tu, td, tf, to_⟩, a, A', m', c'⟩, rfl, hx, d0, d1, d2, d3, hoc⟩ := (HRQ1.out wr (HT3.out _ HB.out)).at4 k hlt
        have HTT := Lib.hid ((congrArg (rt S E X) (take_next (nts_at hx))).trans (rt_snoc S E X _ _))
        have hml : to_.length = m' := hoc.1.1
        simp only [rgt] at d0 d1 d2 d3 HTT
        rw [hml] at HTT
        have b3 := cell_at (HX1.out _ (HT3.out _ HB.out)) 3 _ rfl
        have b2 := cell_at (HX1.out _ (HT3.out _ HB.out)) 2 _ rfl
        have hbl : W.heap.size < wr.heap.size := block_lt_of_cell b3
        have hlt' : (k : Int) < (n : Int) := by omega
        obtain ⟨lu0, hlu⟩ : ∃ lu0, lu0 = (rt S E X ((nts qs).take k)).1 := ⟨_, rfl⟩
        obtain ⟨r0, hr0⟩ : ∃ r0, r0 = (rt S E X ((nts qs).take k)).2 := ⟨_, rfl⟩
        rw [← hlu, ← hr0] at HTT ⊢
        clear hx hoc hml hlu hr0
        cases r0 with
        | false =>
          have HT2 : Hid (rt S E X ((nts qs).take (k + 1)) = (tu, false)) := by rw [HTT.out]; exact Lib.hid (by simp)
          clear HTT
          go_wp2_with fail
          have HBf := Lib.hid (HB.out.alloc HB.out.size (.cells #[.int .u32 (tu : Nat), .int .i64 td, .int .i64 tf, .slice A' m' c'] 47))
          go_roundw
          case rel => first | exact ⟨k + 1, by omega, by go_num, by rw [HT2.out], by rw [HT2.out], HBf⟩ | ((repeat apply Exists.intro); exact ⟨⟨k + 1, by omega, by go_num, by rw [HT2.out], by rw [HT2.out], HBf⟩, rfl⟩)
          case measure => (show n - ((k : Int) + 1).toNat < n - k; omega)
        | true =>
          by_cases h2 : lu0 < tu
          · have h2' : decide (lu0 < tu) = true := by rw [decide_eq_true_iff]; exact h2
            by_cases h4 : tu < X
            · have h4' : decide (tu < X) = true := by rw [decide_eq_true_iff]; exact h4
              have HT2 : Hid (rt S E X ((nts qs).take (k + 1)) = (tu, fitsB td tf m')) := by rw [HTT.out]; exact Lib.hid (by rw [decide_eq_true (show lu0 < tu ∧ (tu < X ∨ X = 4294967295) from ⟨h2, .inl h4⟩)]; simp)
              clear HTT h2 h4
              go_wp2_with (go_at_call 15; refine (bod.rFits_any _ tu td tf A' m' c').mono ?_; rintro x w2 ⟨rfl, hb2⟩; have HBf := Lib.hid (HB.out.trans (Below.trans ((Below.refl _ _).alloc (Nat.le_refl _) _) (hb2.mono (by simp)) |>.mono HB.out.size)); have z0 : w2.cell? ⟨wr.heap.size, 0, none⟩ = some (.int .u32 (tu : Nat)) := cell_at ((hb2.block _ (by simp)).trans (heap_alloc_new wr _)) 0 _ rfl; clear hb2)
              go_roundw
              case rel => first | exact ⟨k + 1, by omega, by go_num, by rw [HT2.out], by rw [HT2.out], HBf⟩ | ((repeat apply Exists.intro); exact ⟨⟨k + 1, by omega, by go_num, by rw [HT2.out], by rw [HT2.out], HBf⟩, rfl⟩)
              case measure => (show n - ((k : Int) + 1).toNat < n - k; omega)
            · have h4' : decide (tu < X) = false := by rw [decide_eq_false_iff_not]; exact h4
              by_cases h5 : X = 4294967295
              · have h5' : ((X : Int) == 4294967295) = true := by rw [beq_iff_eq]; omega
                have HT2 : Hid (rt S E X ((nts qs).take (k + 1)) = (tu, fitsB td tf m')) := by rw [HTT.out]; exact Lib.hid (by rw [decide_eq_true (show lu0 < tu ∧ (tu < X ∨ X = 4294967295) from ⟨h2, .inr h5⟩)]; simp)
                clear HTT h2 h4 h5
                go_wp2_with (go_at_call 15; refine (bod.rFits_any _ tu td tf A' m' c').mono ?_; rintro x w2 ⟨rfl, hb2⟩; have HBf := Lib.hid (HB.out.trans (Below.trans ((Below.refl _ _).alloc (Nat.le_refl _) _) (hb2.mono (by simp)) |>.mono HB.out.size)); have z0 : w2.cell? ⟨wr.heap.size, 0, none⟩ = some (.int .u32 (tu : Nat)) := cell_at ((hb2.block _ (by simp)).trans (heap_alloc_new wr _)) 0 _ rfl; clear hb2)
                go_roundw
                case rel => first | exact ⟨k + 1, by omega, by go_num, by rw [HT2.out], by rw [HT2.out], HBf⟩ | ((repeat apply Exists.intro); exact ⟨⟨k + 1, by omega, by go_num, by rw [HT2.out], by rw [HT2.out], HBf⟩, rfl⟩)
                case measure => (show n - ((k : Int) + 1).toNat < n - k; omega)
              · have h5' : ((X : Int) == 4294967295) = false := by rw [beq_eq_false_iff_ne]; omega
                have HT2 : Hid (rt S E X ((nts qs).take (k + 1)) = (tu, false)) := by rw [HTT.out]; exact Lib.hid (by rw [decide_eq_false (show ¬ (lu0 < tu ∧ (tu < X ∨ X = 4294967295)) from fun h => by omega)]; simp)
                clear HTT h2 h4 h5
                go_wp2_with fail
                have HBf := Lib.hid (HB.out.alloc HB.out.size (.cells #[.int .u32 (tu : Nat), .int .i64 td, .int .i64 tf, .slice A' m' c'] 47))
                go_roundw
                case rel => first | exact ⟨k + 1, by omega, by go_num, by rw [HT2.out], by rw [HT2.out], HBf⟩ | ((repeat apply Exists.intro); exact ⟨⟨k + 1, by omega, by go_num, by rw [HT2.out], by rw [HT2.out], HBf⟩, rfl⟩)
                case measure => (show n - ((k : Int) + 1).toNat < n - k; omega)
          · have h2' : decide (lu0 < tu) = false := by rw [decide_eq_false_iff_not]; exact h2
            have HT2 : Hid (rt S E X ((nts qs).take (k + 1)) = (tu, false)) := by rw [HTT.out]; exact Lib.hid (by rw [decide_eq_false (show ¬ (lu0 < tu ∧ (tu < X ∨ X = 4294967295)) from fun h => h2 h.1)]; simp)
            clear HTT h2
            go_wp2_with fail
            have HBf := Lib.hid (HB.out.alloc HB.out.size (.cells #[.int .u32 (tu : Nat), .int .i64 td, .int .i64 tf, .slice A' m' c'] 47))
            go_roundw
            case rel => first | exact ⟨k + 1, by omega, by go_num, by rw [HT2.out], by rw [HT2.out], HBf⟩ | ((repeat apply Exists.intro); exact ⟨⟨k + 1, by omega, by go_num, by rw [HT2.out], by rw [HT2.out], HBf⟩, rfl⟩)
            case measure => (show n - ((k : Int) + 1).toNat < n - k; omega)
      · obtain rfl : k = n := by omega
        have HTK : Hid ((nts qs).take k = nts qs) := Lib.hid (List.take_of_length_le (by rw [HNL.out]; omega))
        rw [HTK.out, HRT.out]
        go_wp2_with fail
        go_ret
        exact ⟨rfl, HBW.out.trans ((HT3.out _ HB.out).mono HBW.out.size)⟩
set_option maxHeartbeats 8000000 in
theorem back_yes (W : World) (S : ByteArray) (E X : Nat) (A : Option Addr) (n c : Nat) (qs : List Y) (hR : Rd cM 4 W A n qs) (hE : E < 4294967296) (hX : X < 4294967296) (hM : Msgs S E (nts qs)) (hbb : ∀ t ∈ nts qs, ∀ b ∈ t.o, b < 256) (hf : fewB S (nts qs) = true) (hL : sumDoor.Laid W) (hr : Fit W) (hrt : (rt S E X (nts qs)).2 = true) :
    Calls Tryz.prog 4 #[.agg #[.string S, .int .u32 E, .int .u32 X, .slice A n c]] W fun x w' => x = .returned (.bool true) ∧ Below W.heap.size W w' := by
  obtain ⟨W1, hW1⟩ : ∃ W1, W1 = W.alloc (.cells #[.string S, .int .u32 E, .int .u32 X, .slice A n c] 35) := ⟨_, rfl⟩
  have HBW := Lib.hid (show Below W.heap.size W W1 by rw [hW1]; exact (Below.refl _ _).alloc (Nat.le_refl _) _)
  have HX1 := Lib.hid (fun (w1 : World) (h : Below W1.heap.size W1 w1) => (bod.boxed (w := W) (o := .cells #[.string S, .int .u32 E, .int .u32 X, .slice A n c] 35) (w1 := w1) (by rw [← hW1]; exact h)).1)
  have hlen : (nts qs).length = n := by rw [nts_len, hR.1]
  have hfew : S.size + sumO (nts qs) ≤ 60000 := of_decide_eq_true hf
  have hn6 : n ≤ 60000 := by have := sumO_len (nts qs); omega
  have hmm : ∀ y ∈ qs, y.m ≤ 140737488355328 := fun y hy => by
    obtain ⟨k, hk, hky⟩ := List.getElem_of_mem hy
    obtain ⟨b, o, z, h1, h2, h3, h4⟩ := hR.2 k (by rw [← hR.1]; exact hk)
    rw [List.getElem?_eq_getElem hk, hky] at h2
    cases h2
    have h5 := h4.1.1
    have h6 : 1 + y.n.o.length ≤ sumO (nts qs) := by
      have h7 := sumO_take (nts qs) (k + 1)
      have h8 : (nts qs)[k]? = some y.n := nts_at (by rw [List.getElem?_eq_getElem hk, hky])
      rw [take_next h8, sumO_snoc] at h7
      omega
    omega
  have HFW := Lib.hid (fun (w1 : World) (h : Below W1.heap.size W1 w1) => few_any w1 S E X A n c qs (hR.below (HBW.out.trans (h.mono HBW.out.size))) (by omega) (by omega) hmm)
  have HAW := Lib.hid (fun (w1 : World) (h : Below W1.heap.size W1 w1) => awake_any w1 (hL.below hL.lt (HBW.out.trans (h.mono HBW.out.size))) (hr.below (HBW.out.trans (h.mono HBW.out.size))))
  have HFit := Lib.hid (fun (w1 : World) (h : Below W1.heap.size W1 w1) => hr.below (HBW.out.trans (h.mono HBW.out.size)))
  have HLaid := Lib.hid (fun (w1 : World) (h : Below W1.heap.size W1 w1) => hL.below hL.lt (HBW.out.trans (h.mono HBW.out.size)))
  have HRQ1 := Lib.hid (fun (w1 : World) (h : Below W1.heap.size W1 w1) => hR.below (HBW.out.trans (h.mono HBW.out.size)))
  have HWR := Lib.hid (fun (w1 : World) (h : Below W1.heap.size W1 w1) => write_any w1 S E X A n c qs (HRQ1.out w1 h) (by omega) hE hX (fun y hy => hM.u y.n (List.mem_map.2 ⟨y, hy, rfl⟩)) (by omega) (fun y hy => hM.k y.n (List.mem_map.2 ⟨y, hy, rfl⟩)) (HFit.out w1 h) (HLaid.out w1 h) (fun k hk => by
    have h1 := allF_len hk
    have h2 := sum121 ((notesB S E X (nts qs)).take k)
    have h3 := sumO_take (notesB S E X (nts qs)) k
    have h4 := sumO_notesB S E X (nts qs)
    omega))
  have HRI := Lib.hid (right_ok (S := S) (E := E) (X := X) hM hE hX)
  have HNM := Lib.hid (fun w => bod.rNamed_any w S (by omega))
  have HNL := Lib.hid hlen
  have HMM := Lib.hid hM
  have HF := Lib.hid hf
  have HBB := Lib.hid hbb
  have HW1 := Lib.hid hW1
  clear hW1 hR hmm hL hr hf hlen hfew hM hE hX hbb
  have hall := HRI.out.1 hrt
  have hok : AllOk (notesB S E X (nts qs)) := fun t ht => ⟨hall.2 t ht, fun b hb => by
    unfold notesB at ht
    rcases List.mem_append.1 ht with ht | ht
    · rcases List.mem_cons.1 ht with rfl | ht
      · cases hb
      · exact HBB.out t ht b hb
    · split at ht
      · simp at ht
        subst ht
        cases hb
      · cases ht⟩
  obtain ⟨L, hLL⟩ : ∃ L, L = allF (frs (notesB S E X (nts qs))) := ⟨_, rfl⟩
  have hLlen : 0 < L.length ∧ L.length ≤ 16000000 := by
    rw [hLL]
    refine ⟨?_, ?_⟩
    · unfold notesB
      show 0 < (frm.frameL _ _ ++ _).length
      rw [List.length_append, frm.frameL_length]
      omega
    · have h1 := allF_len hall.2
      have h2 := sum121 (notesB S E X (nts qs))
      have h4 := sumO_notesB S E X (nts qs)
      have h5 : S.size + sumO (nts qs) ≤ 60000 := of_decide_eq_true HF.out
      omega
  have hLb : ∀ b ∈ L, b < 256 := by rw [hLL]; exact allF_bytes hok
  have HWS := Lib.hid (fun (w1 : World) (h : Below W1.heap.size W1 w1) => show Calls Tryz.prog 13 #[.agg #[.string S, .int .u32 E, .int .u32 X, .slice A n c]] w1 fun x w' => ∃ g cap, x = .returned (.tuple #[.slice (some ⟨g, 0, none⟩) L.length cap, .int .i64 0]) ∧ Bytes w' (some ⟨g, 0, none⟩) L.length L ∧ L.length ≤ cap ∧ Below w1.heap.size w1 w' from (HWR.out w1 h).mono fun x w' ha => by
    rcases ha with ⟨h1 | ⟨t, ht, hft⟩, hx, hb⟩ | ⟨ho, hall', v, hx, hown, hb⟩
    · rw [hall.1] at h1
      cases h1
    · have := (hall.2 t ht).1
      rw [hft] at this
      cases this
    · rw [← hLL] at hown
      obtain ⟨g, cap, rfl, -, hB, hc⟩ := frm.own_form hown (fun e => by
        rw [e] at hown
        rcases hown.2 with ⟨_, h0⟩ | ⟨_, _, _, h0, _⟩
        · omega
        · cases h0) hLb (N := L.length) rfl
      exact ⟨g, cap, hx, hB, hc, hb⟩)
  have HRT := Lib.hid hrt
  have HAO := Lib.hid hok
  have HLL := Lib.hid hLL
  have HLN := Lib.hid hLlen
  have HOD := Lib.hid hall.1
  clear hrt HWR hall hok hLL hLlen hLb
  go_enter Tryz.func4, Tryz.ntmps4
  go_wp2_with fail
  rw [← HW1.out]
  refine (HAW.out W1 (Below.refl _ _)).mono ?_
  rintro x w1 ⟨rfl, hb1⟩
  have HB1 := Lib.hid hb1
  have c0 := cell_at (HX1.out _ hb1) 0 _ rfl
  have c1 := cell_at (HX1.out _ hb1) 1 _ rfl
  have c2 := cell_at (HX1.out _ hb1) 2 _ rfl
  have c3 := cell_at (HX1.out _ hb1) 3 _ rfl
  clear hb1
  go_wp2_with fail
  clear c0 c1 c2 c3
  refine (HFW.out w1 HB1.out).mono ?_
  rw [HF.out]
  rintro x w2 ⟨rfl, hb2⟩
  have hb12 := HB1.out.trans (hb2.mono HB1.out.size)
  have HB2 := Lib.hid hb12
  have c0 := cell_at (HX1.out _ hb12) 0 _ rfl
  have c1 := cell_at (HX1.out _ hb12) 1 _ rfl
  have c2 := cell_at (HX1.out _ hb12) 2 _ rfl
  have c3 := cell_at (HX1.out _ hb12) 3 _ rfl
  clear hb2 hb12
  go_wp2_with fail
  clear c0 c1 c2 c3
  refine (HWS.out w2 HB2.out).mono ?_
  rintro x w3 ⟨g, cap, rfl, hB3, hc3, hb3⟩
  have HB3 := Lib.hid (HB2.out.trans (hb3.mono HB2.out.size))
  have HT3 := Lib.hid (fun (w' : World) (h : Below w3.heap.size w3 w') => HB3.out.trans (h.mono HB3.out.size))
  have HBY := Lib.hid hB3
  have HCC := Lib.hid hc3
  clear hb3 hB3 hc3
  obtain ⟨R0, hR0⟩ : ∃ R0, R0 = (named S && decide (0 < E)) := ⟨_, rfl⟩
  have HR0 : Hid (rt S E X [] = (0, R0)) := Lib.hid (by rw [hR0]; rfl)
  have HRN := Lib.hid hR0
  clear hR0
  go_upto_region 4 with (fail)
  go_cut [5] from 23 to 33 (fun s5 wx => s5 = .bool R0 ∧ Hid (Below w3.heap.size w3 wx))
  case first =>
    have b0 := cell_at (HX1.out _ HB3.out) 0 _ rfl
    go_wp2_with fail
    refine (HNM.out w3).mono ?_
    rintro x w4 ⟨rfl, hb4⟩
    have HB4 := Lib.hid hb4
    have b1 := cell_at (HX1.out _ (HT3.out _ hb4)) 1 _ rfl
    clear b0 hb4
    cases hN : named S with
    | false =>
      have hR : R0 = false := by rw [HRN.out, hN]; rfl
      clear hN
      go_wp2_with fail
      go_meet
      exact ⟨by rw [hR], HB4⟩
    | true =>
      have hR : R0 = decide (0 < E) := by rw [HRN.out, hN]; rfl
      clear hN
      by_cases h0 : 0 < E
      · have h0' : decide ((0 : Int) < (E : Int)) = true := by rw [decide_eq_true_iff]; omega
        have h0b : decide (0 < E) = true := decide_eq_true h0
        clear h0
        go_wp2_with fail
        go_meet
        exact ⟨by rw [hR, h0b], HB4⟩
      · have h0' : decide ((0 : Int) < (E : Int)) = false := by rw [decide_eq_false_iff_not]; omega
        have h0b : decide (0 < E) = false := decide_eq_false h0
        clear h0
        go_wp2_with fail
        go_meet
        exact ⟨by rw [hR, h0b], HB4⟩
  case rest =>
    obtain ⟨rfl, HB4⟩ := hcut
    have b3 := cell_at (HX1.out _ (HT3.out _ HB4.out)) 3 _ rfl
    go_wp2_with fail
    clear b3
    go_loopw [5, 6, 34] (fun r la i wr => ∃ k : Nat, k ≤ n ∧ i = .int .i64 k ∧ r = .bool (rt S E X ((nts qs).take k)).2 ∧ la = .int .u32 ((rt S E X ((nts qs).take k)).1 : Nat) ∧ Hid (Below w3.heap.size w3 wr)) (fun _ _ i _ => n - (intOf i).toNat)
    case atStart => exact ⟨0, Nat.zero_le _, rfl, by rw [List.take_zero, HR0.out], by rw [List.take_zero, HR0.out]; rfl, HB4⟩
    case round =>
      obtain ⟨k, hk, rfl, rfl, rfl, HB⟩ := hrel
      by_cases hlt : k < n
      · obtain ⟨b, o, ⟨⟨tk, te, ts, tu, td, tf, to_⟩, a, A', m', c'⟩, rfl, hx, d0, d1, d2, d3, hoc⟩ := (HRQ1.out wr (HT3.out _ HB.out)).at4 k hlt
        have HTT := Lib.hid ((congrArg (rt S E X) (take_next (nts_at hx))).trans (rt_snoc S E X _ _))
        have hml : to_.length = m' := hoc.1.1
        simp only [rgt] at d0 d1 d2 d3 HTT
        rw [hml] at HTT
        have b3 := cell_at (HX1.out _ (HT3.out _ HB.out)) 3 _ rfl
        have b2 := cell_at (HX1.out _ (HT3.out _ HB.out)) 2 _ rfl
        have hbl : W.heap.size < wr.heap.size := block_lt_of_cell b3
        have hlt' : (k : Int) < (n : Int) := by omega
        obtain ⟨lu0, hlu⟩ : ∃ lu0, lu0 = (rt S E X ((nts qs).take k)).1 := ⟨_, rfl⟩
        obtain ⟨r0, hr0⟩ : ∃ r0, r0 = (rt S E X ((nts qs).take k)).2 := ⟨_, rfl⟩
        rw [← hlu, ← hr0] at HTT ⊢
        clear hx hoc hml hlu hr0
        cases r0 with
        | false =>
          have HT2 : Hid (rt S E X ((nts qs).take (k + 1)) = (tu, false)) := by rw [HTT.out]; exact Lib.hid (by simp)
          clear HTT
          go_wp2_with fail
          have HBf := Lib.hid (HB.out.alloc HB.out.size (.cells #[.int .u32 (tu : Nat), .int .i64 td, .int .i64 tf, .slice A' m' c'] 47))
          go_roundw
          case rel => first | exact ⟨k + 1, by omega, by go_num, by rw [HT2.out], by rw [HT2.out], HBf⟩ | ((repeat apply Exists.intro); exact ⟨⟨k + 1, by omega, by go_num, by rw [HT2.out], by rw [HT2.out], HBf⟩, rfl⟩)
          case measure => (show n - ((k : Int) + 1).toNat < n - k; omega)
        | true =>
          by_cases h2 : lu0 < tu
          · have h2' : decide (lu0 < tu) = true := by rw [decide_eq_true_iff]; exact h2
            by_cases h4 : tu < X
            · have h4' : decide (tu < X) = true := by rw [decide_eq_true_iff]; exact h4
              have HT2 : Hid (rt S E X ((nts qs).take (k + 1)) = (tu, fitsB td tf m')) := by rw [HTT.out]; exact Lib.hid (by rw [decide_eq_true (show lu0 < tu ∧ (tu < X ∨ X = 4294967295) from ⟨h2, .inl h4⟩)]; simp)
              clear HTT h2 h4
              go_wp2_with (go_at_call 15; refine (bod.rFits_any _ tu td tf A' m' c').mono ?_; rintro x w2 ⟨rfl, hb2⟩; have HBf := Lib.hid (HB.out.trans (Below.trans ((Below.refl _ _).alloc (Nat.le_refl _) _) (hb2.mono (by simp)) |>.mono HB.out.size)); have z0 : w2.cell? ⟨wr.heap.size, 0, none⟩ = some (.int .u32 (tu : Nat)) := cell_at ((hb2.block _ (by simp)).trans (heap_alloc_new wr _)) 0 _ rfl; clear hb2)
              go_roundw
              case rel => first | exact ⟨k + 1, by omega, by go_num, by rw [HT2.out], by rw [HT2.out], HBf⟩ | ((repeat apply Exists.intro); exact ⟨⟨k + 1, by omega, by go_num, by rw [HT2.out], by rw [HT2.out], HBf⟩, rfl⟩)
              case measure => (show n - ((k : Int) + 1).toNat < n - k; omega)
            · have h4' : decide (tu < X) = false := by rw [decide_eq_false_iff_not]; exact h4
              by_cases h5 : X = 4294967295
              · have h5' : ((X : Int) == 4294967295) = true := by rw [beq_iff_eq]; omega
                have HT2 : Hid (rt S E X ((nts qs).take (k + 1)) = (tu, fitsB td tf m')) := by rw [HTT.out]; exact Lib.hid (by rw [decide_eq_true (show lu0 < tu ∧ (tu < X ∨ X = 4294967295) from ⟨h2, .inr h5⟩)]; simp)
                clear HTT h2 h4 h5
                go_wp2_with (go_at_call 15; refine (bod.rFits_any _ tu td tf A' m' c').mono ?_; rintro x w2 ⟨rfl, hb2⟩; have HBf := Lib.hid (HB.out.trans (Below.trans ((Below.refl _ _).alloc (Nat.le_refl _) _) (hb2.mono (by simp)) |>.mono HB.out.size)); have z0 : w2.cell? ⟨wr.heap.size, 0, none⟩ = some (.int .u32 (tu : Nat)) := cell_at ((hb2.block _ (by simp)).trans (heap_alloc_new wr _)) 0 _ rfl; clear hb2)
                go_roundw
                case rel => first | exact ⟨k + 1, by omega, by go_num, by rw [HT2.out], by rw [HT2.out], HBf⟩ | ((repeat apply Exists.intro); exact ⟨⟨k + 1, by omega, by go_num, by rw [HT2.out], by rw [HT2.out], HBf⟩, rfl⟩)
                case measure => (show n - ((k : Int) + 1).toNat < n - k; omega)
              · have h5' : ((X : Int) == 4294967295) = false := by rw [beq_eq_false_iff_ne]; omega
                have HT2 : Hid (rt S E X ((nts qs).take (k + 1)) = (tu, false)) := by rw [HTT.out]; exact Lib.hid (by rw [decide_eq_false (show ¬ (lu0 < tu ∧ (tu < X ∨ X = 4294967295)) from fun h => by omega)]; simp)
                clear HTT h2 h4 h5
                go_wp2_with fail
                have HBf := Lib.hid (HB.out.alloc HB.out.size (.cells #[.int .u32 (tu : Nat), .int .i64 td, .int .i64 tf, .slice A' m' c'] 47))
                go_roundw
                case rel => first | exact ⟨k + 1, by omega, by go_num, by rw [HT2.out], by rw [HT2.out], HBf⟩ | ((repeat apply Exists.intro); exact ⟨⟨k + 1, by omega, by go_num, by rw [HT2.out], by rw [HT2.out], HBf⟩, rfl⟩)
                case measure => (show n - ((k : Int) + 1).toNat < n - k; omega)
          · have h2' : decide (lu0 < tu) = false := by rw [decide_eq_false_iff_not]; exact h2
            have HT2 : Hid (rt S E X ((nts qs).take (k + 1)) = (tu, false)) := by rw [HTT.out]; exact Lib.hid (by rw [decide_eq_false (show ¬ (lu0 < tu ∧ (tu < X ∨ X = 4294967295)) from fun h => h2 h.1)]; simp)
            clear HTT h2
            go_wp2_with fail
            have HBf := Lib.hid (HB.out.alloc HB.out.size (.cells #[.int .u32 (tu : Nat), .int .i64 td, .int .i64 tf, .slice A' m' c'] 47))
            go_roundw
            case rel => first | exact ⟨k + 1, by omega, by go_num, by rw [HT2.out], by rw [HT2.out], HBf⟩ | ((repeat apply Exists.intro); exact ⟨⟨k + 1, by omega, by go_num, by rw [HT2.out], by rw [HT2.out], HBf⟩, rfl⟩)
            case measure => (show n - ((k : Int) + 1).toNat < n - k; omega)
      · obtain rfl : k = n := by omega
        have HTK : Hid ((nts qs).take k = nts qs) := Lib.hid (List.take_of_length_le (by rw [HNL.out]; omega))
        rw [HTK.out, HRT.out]
        have b2 := cell_at (HX1.out _ (HT3.out _ HB.out)) 2 _ rfl
        by_cases hx0 : X = 0
        · subst hx0
          go_wp2_with fail
          go_ret
          exact ⟨rfl, HBW.out.trans ((HT3.out _ HB.out).mono HBW.out.size)⟩
        · have x0 : ((X : Int) == 0) = false := by rw [beq_eq_false_iff_ne]; omega
          by_cases hxm : 4294967290 < X
          · have xm : decide ((4294967290 : Int) < (X : Int)) = true := by rw [decide_eq_true_iff]; omega
            clear hx0 hxm
            go_wp2_with fail
            go_ret
            exact ⟨rfl, HBW.out.trans ((HT3.out _ HB.out).mono HBW.out.size)⟩
          · have xm : decide ((4294967290 : Int) < (X : Int)) = false := by rw [decide_eq_false_iff_not]; omega
            obtain ⟨s1, s2, s3, s4, s5⟩ := back_says HMM.out HOD.out (by omega) (by omega)
            have hnl : ntsL L = notesB S E X (nts qs) := by rw [HLL.out]; exact ntsL_whole HAO.out
            have hsc : (scan L 0 0).2 = L.length := by rw [HLL.out, scan_whole HAO.out]
            have HRD := Lib.hid (show Calls Tryz.prog 7 #[.slice (some ⟨g, 0, none⟩) L.length cap] wr fun e w' => ∃ A5 n5 c5 zs, e = .returned (.agg #[.string S, .int .u32 E, .int .u32 X, .slice A5 n5 c5, .int .i64 (L.length : Nat), .bool true]) ∧ Rd cL 6 w' A5 n5 zs ∧ nts zs = nts qs ∧ Below wr.heap.size wr w' from (read_any wr (some ⟨g, 0, none⟩) L.length cap L (HBY.out.below HBY.out.lt HB.out) HCC.out HLN.out.2 (HLaid.out _ (HT3.out _ HB.out)) (HFit.out _ (HT3.out _ HB.out))).mono fun e w' ⟨A5, n5, c5, zs, he, h1, _, _, _, h2, h3⟩ => ⟨A5, n5, c5, zs, by rw [he, hnl, s1, s2, s3, s4, s5, hsc], h1, by rw [h2, hnl, s4], h3⟩)
            have HSH := Lib.hid (show ∀ t ∈ nts qs, t.o.length ≤ 9000000 from fun t ht => by
              have h1 := (HAO.out t (by unfold notesB; simp [ht])).1
              have := short_oct h1
              omega)
            clear s1 s2 s3 s4 s5 hnl hsc hx0 hxm
            go_wp2_with fail
            refine HRD.out.mono ?_
            rintro e w5 ⟨A5, n5, c5, zs, rfl, hR5, hz5, hb5⟩
            obtain ⟨N5, hN5⟩ : ∃ N5, N5 = L.length := ⟨_, rfl⟩
            rw [← hN5]
            have HN5 := Lib.hid hN5
            obtain ⟨w6, hw6⟩ : ∃ w6, w6 = w5.alloc (.cells #[.string S, .int .u32 E, .int .u32 X, .slice A5 n5 c5, .int .i64 (N5 : Nat), .bool true] 27) := ⟨_, rfl⟩
            have hb56 : Below w5.heap.size w5 w6 := by rw [hw6]; exact (Below.refl _ _).alloc (Nat.le_refl _) _
            have hb36 : Below w3.heap.size w3 w6 := HB.out.trans ((hb5.trans (hb56.mono hb5.size)).mono HB.out.size)
            have HB6 := Lib.hid hb36
            have HLC := Lib.hid (fun (w' : World) (h : Below w6.heap.size w6 w') => (bod.boxed (w := w5) (o := .cells #[.string S, .int .u32 E, .int .u32 X, .slice A5 n5 c5, .int .i64 (N5 : Nat), .bool true] 27) (w1 := w') (by rw [← hw6]; exact h)).1)
            have HBC := Lib.hid (fun (w' : World) (h : Below w6.heap.size w6 w') => HX1.out w' (HT3.out _ (hb36.trans (h.mono hb36.size))))
            have HRQ := Lib.hid (fun (w' : World) (h : Below w6.heap.size w6 w') => HRQ1.out w' (HT3.out _ (hb36.trans (h.mono hb36.size))))
            have HBX := Lib.hid (fun (w' : World) (h : Below w6.heap.size w6 w') => show Calls Tryz.prog 10 #[.agg #[.string S, .int .u32 E, .int .u32 X, .slice A5 n5 c5, .int .i64 (N5 : Nat), .bool true]] w' fun e w2 => BoxAns w' S E X (nts qs) e w2 from by
              rw [← hz5]
              exact box_clean w' S E X N5 A5 n5 c5 zs ((hR5.below hb56).below h) (by
                have h1 := hR5.1
                have h2 := congrArg List.length hz5
                rw [nts_len, HNL.out] at h2
                omega) (fun y hy => HSH.out y.n (by rw [← hz5]; exact List.mem_map.2 ⟨y, hy, rfl⟩)))
            have HST := Lib.hid (show Below w6.heap.size w6 w6.drew from codec.below_draws (Below.refl _ _) 1)
            have HW6 := Lib.hid hw6
            have HPP := Lib.hid (show w5.heap.size < w6.heap.size by rw [hw6]; simp)
            clear hR5 hz5 hb5 hN5 hw6 hb56 hb36 b2 HRD
            go_wp2_with fail
            rw [← HW6.out]
            generalize w5.heap.size = p5 at *
            refine wp_region_noPanic ?_
            refine wp_region_held_drew (S := fun w' => Below w6.heap.size w6 w') (by kernel_rfl) HST.out (fun hHeld => ?_)
            refine wpAnyH_take (i := 0) (v := ?_) rfl (by kernel_rfl) (by kernel_rfl) (by kernel_rfl) (fun _ _ _ h => h) (Or.inl ⟨by kernel_rfl, ?_⟩) hHeld ?_
            rotate_left
            · (intro w' hw'; go_simp; first | done | with_reducible rfl)
            refine wpAnyH_take (i := 1) (v := ?_) rfl (by kernel_rfl) (by kernel_rfl) (by kernel_rfl) (fun _ _ _ h => h) (Or.inl ⟨by kernel_rfl, ?_⟩) hHeld ?_
            rotate_left
            · (intro w' hw'; go_simp; first | done | with_reducible rfl)
            refine wpAnyH_take (i := 2) (v := ?_) rfl (by kernel_rfl) (by kernel_rfl) (by kernel_rfl) (fun _ _ _ h => h) (Or.inl ⟨by kernel_rfl, ?_⟩) hHeld ?_
            rotate_left
            · (intro w' hw'; go_simp; first | done | with_reducible rfl)
            refine wpAnyH_take (i := 3) (v := ?_) rfl (by kernel_rfl) (by kernel_rfl) (by kernel_rfl) (fun _ _ _ h => h) (Or.inl ⟨by kernel_rfl, ?_⟩) hHeld ?_
            rotate_left
            · (intro w' hw'; go_simp; first | done | with_reducible rfl)
            refine wpAnyH_take (i := 4) (v := ?_) rfl (by kernel_rfl) (by kernel_rfl) (by kernel_rfl) (fun _ _ _ h => h) (Or.inl ⟨by kernel_rfl, ?_⟩) hHeld ?_
            rotate_left
            · (intro w' hw'; have l0 := cell_at (HLC.out _ hw') 0 _ rfl; have l1 := cell_at (HLC.out _ hw') 1 _ rfl; have l2 := cell_at (HLC.out _ hw') 2 _ rfl; have l3 := cell_at (HLC.out _ hw') 3 _ rfl; have l4 := cell_at (HLC.out _ hw') 4 _ rfl; have l5 := cell_at (HLC.out _ hw') 5 _ rfl; go_simp; first | done | with_reducible rfl)
            refine wpAnyH_take (i := 5) (v := ?_) rfl (by kernel_rfl) (by kernel_rfl) (by kernel_rfl) (fun _ _ _ h => h) (Or.inl ⟨by kernel_rfl, ?_⟩) hHeld ?_
            rotate_left
            · (intro w' hw'; go_simp; first | done | with_reducible rfl)
            refine wpAnyH_take (i := 6) (v := ?_) rfl (by kernel_rfl) (by kernel_rfl) (by kernel_rfl) (fun _ _ _ h => h) (Or.inl ⟨by kernel_rfl, ?_⟩) hHeld ?_
            rotate_left
            · (intro w' hw'; go_simp; first | done | with_reducible rfl)
            refine wpAnyH_take (i := 7) (v := ?_) rfl (by kernel_rfl) (by kernel_rfl) (by kernel_rfl) (fun _ _ _ h => h) (Or.inl ⟨by kernel_rfl, ?_⟩) hHeld ?_
            rotate_left
            · (intro w' hw'; go_simp; first | done | with_reducible rfl)
            refine wpAnyH_take (i := 8) (v := ?_) rfl (by kernel_rfl) (by kernel_rfl) (by kernel_rfl) (fun _ _ _ h => h) (Or.inl ⟨by kernel_rfl, ?_⟩) hHeld ?_
            rotate_left
            · (intro w' hw'; have l0 := cell_at (HLC.out _ hw') 0 _ rfl; have l1 := cell_at (HLC.out _ hw') 1 _ rfl; have l2 := cell_at (HLC.out _ hw') 2 _ rfl; have l3 := cell_at (HLC.out _ hw') 3 _ rfl; have l4 := cell_at (HLC.out _ hw') 4 _ rfl; have l5 := cell_at (HLC.out _ hw') 5 _ rfl; go_simp; first | done | with_reducible rfl)
            refine wpAnyH_take (i := 9) (v := ?_) rfl (by kernel_rfl) (by kernel_rfl) (by kernel_rfl) (fun _ _ _ h => h) (Or.inl ⟨by kernel_rfl, ?_⟩) hHeld ?_
            rotate_left
            · (intro w' hw'; go_simp; first | done | with_reducible rfl)
            refine wpAnyH_take (i := 10) (v := ?_) rfl (by kernel_rfl) (by kernel_rfl) (by kernel_rfl) (fun _ _ _ h => h) (Or.inl ⟨by kernel_rfl, ?_⟩) hHeld ?_
            rotate_left
            · (intro w' hw'; go_simp; first | done | with_reducible rfl)
            refine wpAnyH_take (i := 11) (v := ?_) rfl (by kernel_rfl) (by kernel_rfl) (by kernel_rfl) (fun _ _ _ h => h) (Or.inl ⟨by kernel_rfl, ?_⟩) hHeld ?_
            rotate_left
            · (intro w' hw'; go_simp; first | done | with_reducible rfl)
            refine wpAnyH_take (i := 12) (v := ?_) rfl (by kernel_rfl) (by kernel_rfl) (by kernel_rfl) (fun _ _ _ h => h) (Or.inl ⟨by kernel_rfl, ?_⟩) hHeld ?_
            rotate_left
            · (intro w' hw'; go_simp; first | done | with_reducible rfl)
            refine wpAnyH_take (i := 13) (v := ?_) rfl (by kernel_rfl) (by kernel_rfl) (by kernel_rfl) (fun _ _ _ h => h) (Or.inl ⟨by kernel_rfl, ?_⟩) hHeld ?_
            rotate_left
            · (intro w' hw'; go_simp; first | done | with_reducible rfl)
            refine wpAnyH_take (i := 14) (v := ?_) rfl (by kernel_rfl) (by kernel_rfl) (by kernel_rfl) (fun _ _ _ h => h) (Or.inl ⟨by kernel_rfl, ?_⟩) hHeld ?_
            rotate_left
            · (intro w' hw'; have l0 := cell_at (HLC.out _ hw') 0 _ rfl; have l1 := cell_at (HLC.out _ hw') 1 _ rfl; have l2 := cell_at (HLC.out _ hw') 2 _ rfl; have l3 := cell_at (HLC.out _ hw') 3 _ rfl; have l4 := cell_at (HLC.out _ hw') 4 _ rfl; have l5 := cell_at (HLC.out _ hw') 5 _ rfl; go_simp; first | done | with_reducible rfl)
            refine wpAnyH_take (i := 16) (v := ?_) rfl (by kernel_rfl) (by kernel_rfl) (by kernel_rfl) (fun _ _ _ h => h) (Or.inl ⟨by kernel_rfl, ?_⟩) hHeld ?_
            rotate_left
            · (intro w' hw'; have b0 := cell_at (HBC.out _ hw') 0 _ rfl; have b1 := cell_at (HBC.out _ hw') 1 _ rfl; have b2 := cell_at (HBC.out _ hw') 2 _ rfl; have b3 := cell_at (HBC.out _ hw') 3 _ rfl; go_simp; first | done | with_reducible rfl)
            refine wpAnyH_ready (rs := [15]) (by kernel_rfl) (by simp) ?_
            refine AllReadyH.cons rfl (fun K hK => ?_) AllReadyH.nil
            go_simp
            refine (HBX.out _ hHeld).mono ?_
            rintro x w7 ⟨A7, n7, c7, q7, rfl, hR7, hc7, hq7, hb7⟩
            have hS7 := hHeld.trans (hb7.mono hHeld.size)
            obtain rfl : k = n7 := by rw [← hR7.1, ← nts_len, hq7, HNL.out]
            go_wp2_with fail
            refine hK.out _ _ hS7 (fun hH1 => ?_)
            clear hK K hHeld
            refine wpAnyH_ready (rs := [17]) (by kernel_rfl) (by simp) ?_
            refine AllReadyH.cons rfl (fun K hK => ?_) AllReadyH.nil
            go_simp
            refine (sameBox_true w7 S E X A7 A k c7 c q7 qs hR7 (HRQ.out _ hS7) hq7 (by omega)).mono ?_
            rintro x w8 ⟨rfl, hb8⟩
            have hS8 := hS7.trans (hb8.mono hS7.size)
            go_wp2_with fail
            refine hK.out _ _ hS8 (fun hH2 => ?_)
            clear hK K hH1
            refine wpAnyH_take (i := 18) (v := ?_) rfl (by kernel_rfl) (by kernel_rfl) (by kernel_rfl) (fun _ _ _ h => h) (Or.inl ⟨by kernel_rfl, ?_⟩) hH2 ?_
            rotate_left
            · (intro w' hw'; go_simp; first | done | with_reducible rfl)
            refine wpAnyH_take (i := 19) (v := ?_) rfl (by kernel_rfl) (by kernel_rfl) (by kernel_rfl) (fun _ _ _ h => h) (Or.inl ⟨by kernel_rfl, ?_⟩) hH2 ?_
            rotate_left
            · (intro w' hw'; go_simp; first | done | with_reducible rfl)
            refine wpAnyH_done (by kernel_rfl) ?_ _
            refine NoPanic.normal ?_
            go_simp
            go_wp2_with fail
            go_ret
            exact ⟨rfl, HBW.out.trans ((HT3.out _ (HB6.out.trans (hS8.mono HB6.out.size))).mono HBW.out.size)⟩
end Go.Proofs.YtfmdhcjniikfdaaGreatDoor.lg
/- Mailboxes that come in. -/
namespace Go.Proofs.YtfmdhcjniikfdaaGreatDoor.lg
instance : Inhabited Y := ⟨⟨⟨0, 0, ⟨#[]⟩, 0, 0, 0, []⟩, 0, none, 0, 0⟩⟩
end Go.Proofs.YtfmdhcjniikfdaaGreatDoor.lg
namespace Go.Proofs.YtfmdhcjniikfdaaGreatDoor.cardPin
open Go.ChangeShapes Go.WideShapes Go.ChangeAt Go.RowKit Go.Deep
open Go.Proofs.YtfmdhcjniikfdaaGreatDoor.codec (Bytes)
open Go.Proofs.YtfmdhcjniikfdaaGreatDoor.lg (Y Nt cM cN Oct Rd nts Msgs)
set_option linter.unusedVariables false
set_option linter.unusedSimpArgs false
set_option maxRecDepth 100000

theorem oct_in {H : Type} {enc : TypeId × Value → H} {W : World} {fuel : Nat} {cs : List Value} {x : DataW H × List MemPlace} (hf : DataW.trod enc Tryz.prog W 0 (fun _ => true) true fuel 22 cs = some x) :
    ∃ (A : Option Addr) (n c : Nat) (l : List Nat), cs = [.slice A n c] ∧ Bytes W A n l ∧ (A = none → c = 0) ∧ ∀ R, (∀ m ∈ DataW.weights Tryz.prog 22 x.1, m ≤ R) → n ≤ R := by
  rcases open_ints Tryz.underlying22 Tryz.underlying5 (by kernel_rfl) hf with ⟨rfl, _⟩ | ⟨x', l, c, zs, rfl, _, hl, hm, hz, hx, hcell, hwz⟩
  · exact ⟨none, 0, 0, [], rfl, ⟨rfl, by simp, fun h => absurd h (by omega)⟩, fun _ => rfl, fun _ _ => Nat.zero_le _⟩
  · have hz' : zs.length = c := by simpa using hz
    refine ⟨some x', l, c, (zs.take l).map Int.toNat, rfl, ⟨by simp; omega, ?_, fun hn => ?_⟩, (fun e => by cases e), fun R hR => ?_⟩
    · intro b hb
      obtain ⟨z, hz, rfl⟩ := List.mem_map.1 hb
      have := u8_bounds (hwz z (List.mem_of_mem_take hz))
      omega
    · obtain ⟨b, o, spot⟩ := x'
      have h0 := hcell 0 (by omega)
      have hspot : spot = none := by simpa [Addr.add] using World.cell?_spot h0
      subst hspot
      refine ⟨b, o, rfl, fun i hi => ?_⟩
      rw [← codec.add_none, hcell i (by omega)]
      have hi' : i < zs.length := by omega
      have hb := u8_bounds (hwz zs[i] (List.getElem_mem hi'))
      simp [List.getD, hi, hi']
      omega
    · rw [hx] at hR
      have e : (lits (H := H) IntKind.u8 (List.take l zs)).length = l := by simp [lits]; omega
      have hb : Tryz.prog.bytesOf 5 = 1 := by kernel_rfl
      have := hR _ (by
        simp only [DataW.weights, Tryz.underlying22]
        exact List.mem_cons_self)
      rw [hb, Nat.mul_one, e] at this
      omega
theorem weights_all {H : Type} {P : Program} {e : TypeId} (ls : List (DataW H)) (d : DataW H) (h : d ∈ ls) (k : Nat) (hk : k ∈ DataW.weights P e d) : k ∈ DataW.weightsAll P e ls := by
  induction ls with
  | nil => cases h
  | cons x r ih =>
    simp only [DataW.weightsAll, List.mem_append]
    rcases List.mem_cons.1 h with rfl | h
    · exact .inl hk
    · exact .inr (ih h)
/-- A message that came in. -/
theorem msg_in {H : Type} {enc : TypeId × Value → H} {W : World} (E : Nat) (S : ByteArray) {n : Nat} {cs : List Value} {x : DataW H × List MemPlace} (hl : cs.length = 4) (h2 : DataW.trod enc Tryz.prog W 0 (fun _ => true) true n 47 cs = some x) :
    ∃ y : Y, (y.n.k = 2 ∧ y.n.e = E ∧ y.n.s = S) ∧ y.n.u < 4294967296 ∧ cs = cM y ∧ Oct W y ∧ ∀ R, (∀ m ∈ DataW.weights Tryz.prog 47 x.1, m ≤ R) → y.m ≤ R := by
  obtain ⟨xs, k, hk, hxy, _, hxl, hf⟩ := DataW.trod_struct Tryz.underlying47 h2
  match xs, hxl, cs, hl with
  | [y0, y1, y2, y3], _, [v0, v1, v2, v3], _ =>
    have g0 := hf 0 _ rfl
    have g1 := hf 1 _ rfl
    have g2 := hf 2 _ rfl
    have g3 := hf 3 _ rfl
    simp [cells3, cells2, cellsU, cellsB] at g0 g1 g2 g3
    obtain ⟨u, q0, _, wu⟩ := DataW.trod_int Tryz.underlying24 g0
    obtain ⟨d, q1, _, wd⟩ := DataW.trod_int Tryz.underlying2 g1
    obtain ⟨f, q2, _, wf⟩ := DataW.trod_int Tryz.underlying3 g2
    obtain ⟨A, m, c, l, q3, hB, hn, hwt⟩ := oct_in g3
    simp only [List.cons.injEq, and_true] at q0 q1 q2 q3
    subst q0 q1 q2 q3
    have bu := u32_bounds wu
    obtain ⟨un, rfl⟩ := Int.eq_ofNat_of_zero_le bu.1
    refine ⟨⟨⟨2, E, S, un, d, f, l⟩, 0, A, m, c⟩, ⟨rfl, rfl, rfl⟩, by show un < _; omega, rfl, ⟨hB, hn⟩, fun R hR => ?_⟩
    refine hwt R fun k hk => hR k ?_
    rw [hxy]
    simp only [DataW.weights, Tryz.underlying47, List.map_cons, List.map_nil, DataW.weightsEach]
    simp [hk]
/-- Messages that came in. -/
theorem msgs_in {H : Type} {enc : TypeId × Value → H} {W : World} (E : Nat) (S : ByteArray) {fuel : Nat} {v : Value} {x0 : DataW H × List MemPlace} (hf : DataW.trod enc Tryz.prog W 0 (fun _ => true) true fuel 33 [v] = some x0) :
    ∃ A n c qs, v = .slice A n c ∧ Rd cM 4 W A n qs ∧ (∀ y ∈ qs, (y.n.k = 2 ∧ y.n.e = E ∧ y.n.s = S) ∧ y.n.u < 4294967296) ∧ (∀ y ∈ qs, ∀ b ∈ y.n.o, b < 256) ∧ ∀ R, (∀ m ∈ DataW.weights Tryz.prog 33 x0.1, m ≤ R) → n ≤ R ∧ ∀ y ∈ qs, y.m ≤ R := by
  rcases open_slice Tryz.underlying33 hf with ⟨hcs, _⟩ | ⟨a, len, cap, m, n, D, Pl, hcs, _, hl, hm, hmm, hx, hel⟩
  · simp at hcs
    subst hcs
    exact ⟨none, 0, 0, [], rfl, Rd.empty W, by simp, by simp, by simp⟩
  · simp at hcs
    subst hcs
    simp at hmm
    subst hmm
    rw [cellsM] at hel
    obtain ⟨b, o, spot⟩ := a
    have hspot : 0 < len → spot = none := by
      intro h
      obtain ⟨cs', h1, h2⟩ := hel 0 (by omega)
      obtain ⟨_, hl', hc'⟩ := World.cells?_some h1
      have := hc' 0 (by omega)
      have h4 : 0 < cs'.length := by omega
      rw [List.getElem?_eq_getElem h4] at this
      simpa [Addr.add] using World.cell?_spot this
    have hbo : Tryz.prog.bytesOf 47 = 48 := by kernel_rfl
    have hx1 : x0.1 = .slice ((List.range len).map D) ((List.range (m - len)).map fun j => D (len + j)) := congrArg Prod.fst hx
    have hlenR : ∀ R, (∀ k ∈ DataW.weights Tryz.prog 33 x0.1, k ≤ R) → len ≤ R := by
      intro R hR
      have := hR (((List.range len).map D).length + ((List.range (m - len)).map fun j => D (len + j)).length |> (· * Tryz.prog.bytesOf 47)) (by
        rw [hx1]
        simp only [DataW.weights, Tryz.underlying33]
        exact List.mem_cons_self)
      simp only [hbo, List.length_map, List.length_range] at this
      omega
    by_cases hz : 0 < len
    · have := hspot hz
      subst this
      obtain ⟨it, hit⟩ := choose_lt (α := Y) (n := len) (p := fun i y => ((y.n.k = 2 ∧ y.n.e = E ∧ y.n.s = S) ∧ y.n.u < 4294967296) ∧ (∀ j u, (cM y)[j]? = some u → W.cell? ⟨b, o + i * 4 + j, none⟩ = some u) ∧ Oct W y ∧ ∀ R, (∀ k ∈ DataW.weights Tryz.prog 47 (D i), k ≤ R) → y.m ≤ R) (fun i hi => by
        obtain ⟨cs', h1, h2⟩ := hel i (by omega)
        rw [codec.add_none] at h1
        obtain ⟨_, hl', hc'⟩ := World.cells?_some h1
        obtain ⟨y, k1, k2, rfl, k3, k4⟩ := msg_in E S hl' h2
        refine ⟨y, ⟨k1, k2⟩, fun j u hu => ?_, k3, k4⟩
        have hj := (List.getElem?_eq_some_iff.1 hu).1
        have := hc' j (by omega)
        rw [codec.add_none, hu] at this
        exact this)
      refine ⟨_, len, _, (List.range len).map it, rfl, ⟨by simp, fun k hk => ⟨b, o, it k, rfl, by simp [hk], (hit k hk).2.1, (hit k hk).2.2.1⟩⟩, fun y hy => ?_, fun y hy => ?_, fun R hR => ⟨hlenR R hR, fun y hy => ?_⟩⟩
      · obtain ⟨i, hi, rfl⟩ := List.mem_map.1 hy
        exact (hit i (List.mem_range.1 hi)).1
      · obtain ⟨i, hi, rfl⟩ := List.mem_map.1 hy
        exact (hit i (List.mem_range.1 hi)).2.2.1.1.2.1
      · obtain ⟨i, hi, rfl⟩ := List.mem_map.1 hy
        refine (hit i (List.mem_range.1 hi)).2.2.2 R fun k hk => hR k ?_
        rw [hx1]
        simp only [DataW.weights, Tryz.underlying33]
        exact List.mem_cons_of_mem _ (List.mem_append.2 (.inl (weights_all _ _ (List.mem_map.2 ⟨i, hi, rfl⟩) k hk)))
    · obtain rfl : len = 0 := by omega
      exact ⟨_, 0, _, [], rfl, ⟨rfl, fun k hk => by omega⟩, by simp, by simp, fun R hR => ⟨Nat.zero_le _, by simp⟩⟩
theorem cellsQ : Tryz.prog.cellsOf 33 = 1 := by kernel_rfl
theorem cellsX : Tryz.prog.cellsOf 35 = 4 := by kernel_rfl
theorem box_in {H : Type} {enc : TypeId × Value → H} {W : World} {base : Nat} {v0 : Value} {d0 : DataW H} {p0 : List MemPlace} (hv : Value.okWide Tryz.prog W .any base 35 v0) (h0 : DataW.Trod enc Tryz.prog W 0 (fun _ => true) true 35 v0 d0 p0) (hw : ∀ m ∈ DataW.weights Tryz.prog 35 d0, m ≤ 140737488355328) :
    ∃ (S : ByteArray) (E X : Nat) (A : Option Addr) (n c : Nat) (qs : List Y), v0 = .agg #[.string S, .int .u32 E, .int .u32 X, .slice A n c] ∧ E < 4294967296 ∧ X < 4294967296 ∧ Rd cM 4 W A n qs ∧ Msgs S E (nts qs) ∧ (∀ t ∈ nts qs, ∀ b ∈ t.o, b < 256) ∧ n ≤ 140737488355328 ∧ S.size ≤ 140737488355328 ∧ ∀ y ∈ qs, y.m ≤ 140737488355328 := by
  obtain ⟨cs, rfl, hsz⟩ := okWide_struct Tryz.underlying35 hv
  rw [cellsX] at hsz
  obtain ⟨l⟩ := cs
  match l, hsz with
  | [c0, c1, c2, c3], _ =>
  obtain ⟨fuel, hf⟩ := h0
  obtain ⟨xs, m, _, hxy, _, hxl, hf⟩ := DataW.trod_struct Tryz.underlying35 hf
  match xs, hxl with
  | [y0, y1, y2, y3], _ =>
  have g0 := hf 0 _ rfl
  have g1 := hf 1 _ rfl
  have g2 := hf 2 _ rfl
  have g3 := hf 3 _ rfl
  simp [cellsU, cells9, cellsQ, Value.cells] at g0 g1 g2 g3
  obtain ⟨s, q0, r0, ws⟩ := DataW.trod_string Tryz.underlying9 g0
  obtain ⟨e, q1, _, w1⟩ := DataW.trod_int Tryz.underlying24 g1
  obtain ⟨u, q2, _, w3⟩ := DataW.trod_int Tryz.underlying24 g2
  simp only [List.cons.injEq, and_true] at q0 q1 q2
  subst q0 q1 q2
  have b1 := u32_bounds w1
  have b3 := u32_bounds w3
  obtain ⟨e, rfl⟩ := Int.eq_ofNat_of_zero_le b1.1
  obtain ⟨u, rfl⟩ := Int.eq_ofNat_of_zero_le b3.1
  obtain ⟨A, n, c, qs, rfl, hR, hq, hb, hwt⟩ := msgs_in e s g3
  have hd : d0 = .agg [y0.1, y1.1, y2.1, y3.1] := congrArg Prod.fst hxy
  have hms := hwt 140737488355328 (fun k hk => hw k (by
    rw [hd]
    simp only [DataW.weights, Tryz.underlying35, List.map_cons, List.map_nil, DataW.weightsEach]
    simp [hk]))
  have hss : s.size ≤ 140737488355328 := hw s.size (by
    rw [hd, show y0.1 = .lit (.string s.data.toList) from congrArg Prod.fst r0]
    simp only [DataW.weights, Tryz.underlying35, List.map_cons, List.map_nil, DataW.weightsEach]
    simp)
  refine ⟨s, e, u, A, n, c, qs, rfl, by omega, by omega, hR, ⟨fun t ht => ?_, fun t ht => ?_⟩, fun t ht => ?_, hms.1, hss, hms.2⟩
  · obtain ⟨y, hy, rfl⟩ := List.mem_map.1 ht
    exact (hq y hy).1
  · obtain ⟨y, hy, rfl⟩ := List.mem_map.1 ht
    exact (hq y hy).2
  · obtain ⟨y, hy, rfl⟩ := List.mem_map.1 ht
    exact hb y hy
end Go.Proofs.YtfmdhcjniikfdaaGreatDoor.cardPin
namespace Go.Proofs.YtfmdhcjniikfdaaGreatDoor.lg
open Go.ChangeShapes Go.WideShapes Go.ChangeAt Go.RowKit
open Go.Proofs.YtfmdhcjniikfdaaGreatDoor.bod (Fit)
theorem back_walk (W : World) (S : ByteArray) (E X : Nat) (A : Option Addr) (n c : Nat) (qs : List Y) (hR : Rd cM 4 W A n qs) (hE : E < 4294967296) (hX : X < 4294967296) (hM : Msgs S E (nts qs)) (hbb : ∀ t ∈ nts qs, ∀ b ∈ t.o, b < 256) (hn : n ≤ 140737488355328) (hS : S.size ≤ 140737488355328) (hm : ∀ y ∈ qs, y.m ≤ 140737488355328) (hL : sumDoor.Laid W) (hr : Fit W) :
    Calls Tryz.prog 4 #[.agg #[.string S, .int .u32 E, .int .u32 X, .slice A n c]] W fun x w' => x = .returned (.bool true) ∧ Below W.heap.size W w' := by
  cases hf : fewB S (nts qs) with
  | false => exact back_many W S E X A n c qs hR hn hS hm hf hL hr
  | true =>
    cases hrt : (rt S E X (nts qs)).2 with
    | false => exact back_no W S E X A n c qs hR hE hX hM hbb hf hL hr hrt
    | true => exact back_yes W S E X A n c qs hR hE hX hM hbb hf hL hr hrt
end Go.Proofs.YtfmdhcjniikfdaaGreatDoor.lg
