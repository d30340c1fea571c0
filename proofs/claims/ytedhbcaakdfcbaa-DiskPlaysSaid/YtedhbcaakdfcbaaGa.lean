/- What the program's disk and the document's have in common, act by act: plain mathematics. -/
import Derived.Test.YtedhbcaakdfcbaaFd
import Derived.Test.YtedhbcaakdfcbaaAe
import Derived.IntWalk
namespace Go.Proofs.Ytedhbcaakdfcbaa.disk
open Go.ChangeShapes Go.WideShapes Go.ChangeAt Go.RowKit Go.Maps Go.WideMaps
set_option linter.unusedVariables false
set_option linter.unusedSimpArgs false

/-- The two disks are of one mind. -/
structure Cor (cap fuse : Int) (lost : Bool) (L : FL) (c : Cfg) (fm : FM) : Prop where
  cap_ : c.cap = cap
  used : c.used = (totL L : Nat)
  fm_ : fm = fmL L
  rise : Rising L
  lost_ : c.lost = lost
  fz : (c.fused = false ∧ fuse = -1) ∨ (c.fused = true ∧ c.fuse = fuse ∧ 0 ≤ fuse)
  tot : (totL L : Int) ≤ cap
  capb : 0 ≤ cap ∧ cap ≤ 4194304
  fb : fuse ≤ 9223372036854775807
theorem Cor.fb0 {cap fuse : Int} {lost : Bool} {L : FL} {c : Cfg} {fm : FM} (h : Cor cap fuse lost L c fm) : -1 ≤ fuse := by
  rcases h.fz with ⟨_, e⟩ | ⟨_, _, e⟩ <;> omega
theorem Cor.goes_ {cap fuse : Int} {lost : Bool} {L : FL} {c : Cfg} {fm : FM} (h : Cor cap fuse lost L c fm) : goes c = decide (fuse = 0) := by
  unfold goes
  rcases h.fz with ⟨e, e2⟩ | ⟨e, e2, e3⟩
  · rw [e, e2, Bool.false_and]; rfl
  · rw [e, e2, Bool.true_and, Bool.eq_iff_iff]
    simp
    omega
/-- The fuse burns in both. -/
theorem Cor.burn {cap fuse : Int} {L : FL} {c : Cfg} {fm : FM} (h : Cor cap fuse false L c fm) (h0 : fuse ≠ 0) : Cor cap (rBurnt fuse false).1 false L (burnt c) fm := by
  obtain ⟨q1, q2, q3, q4, q5, q6, q7, q8, q9⟩ := h
  unfold rBurnt burnt
  rw [if_neg h0]
  rcases q6 with ⟨e, e2⟩ | ⟨e, e2, e3⟩
  · rw [e, if_neg (by omega : ¬ 0 < fuse)]
    exact ⟨q1, q2, q3, q4, q5, .inl ⟨e, e2⟩, q7, q8, q9⟩
  · have hp : 0 < fuse := by omega
    rw [e, if_pos rfl, e2, if_pos hp, if_pos hp]
    have hw : wrap64 (fuse - 1) = fuse - 1 := IntWalk.wrap64_in _ (by omega)
    exact ⟨q1, q2, q3, q4, q5, .inr ⟨rfl, hw, by show 0 ≤ fuse - 1; omega⟩, q7, q8, by show fuse - 1 ≤ _; omega⟩
theorem Cor.blown {cap : Int} {L : FL} {c : Cfg} {fm : FM} (h : Cor cap 0 false L c fm) : Cor cap 0 true L (burnt c) fm := by
  obtain ⟨q1, q2, q3, q4, q5, q6, q7, q8, q9⟩ := h
  unfold burnt
  rcases q6 with ⟨e, e2⟩ | ⟨e, e2, e3⟩
  · omega
  · rw [e, if_pos rfl, e2, if_neg (by omega)]
    exact ⟨q1, q2, q3, q4, rfl, .inr ⟨rfl, rfl, Int.le_refl 0⟩, q7, q8, q9⟩
theorem len_le {L : FL} {k : Nm} {f : File} (h : fmL L k = some f) : f.l.length ≤ totL L := by
  induction L with
  | nil => cases h
  | cons x L ih =>
    simp only [fmL, findL] at h ih
    split at h
    · cases h
      simp only [totL]
      omega
    · have := ih h
      simp only [totL]
      omega
theorem lenAt_le (L : FL) (k : Nm) : lenAt (fmL L) k ≤ totL L := by
  unfold lenAt
  cases h : fmL L k with
  | none => simp
  | some f => simpa using len_le h
theorem lenAt_some {fm : FM} {k : Nm} {f : File} (h : fm k = some f) : lenAt fm k = f.l.length := by simp [lenAt, h]
/-- A file laid in both. -/
theorem Cor.put {cap fuse : Int} {lost : Bool} {L : FL} {c : Cfg} {fm : FM} (h : Cor cap fuse lost L c fm) (k : Nm) (f : File) (hf : (totL L : Int) - (lenAt (fmL L) k : Nat) + (f.l.length : Nat) ≤ cap) : Cor cap fuse lost (insL k f L) (cPut c fm k f) (upd fm k f) := by
  obtain ⟨q1, q2, q3, q4, q5, q6, q7, q8, q9⟩ := h
  have ht := tot_ins k f q4
  have hl := lenAt_le L k
  refine ⟨q1, ?_, by rw [q3, fm_ins], rising_ins k f q4, q5, q6, by omega, q8, q9⟩
  show wrap64 (wrap64 (c.used - lenAt fm k) + (f.l.length : Nat)) = _
  rw [q2, q3]
  rw [IntWalk.wrap64_in ((totL L : Int) - (lenAt (fmL L) k : Nat)) (by omega), IntWalk.wrap64_in _ (by omega)]
  omega
/-- A file taken away from both. -/
theorem Cor.drop {cap fuse : Int} {lost : Bool} {L : FL} {c : Cfg} {fm : FM} (h : Cor cap fuse lost L c fm) (k : Nm) : Cor cap fuse lost (dropL k L) (cDrop c fm k) (erase fm k) := by
  obtain ⟨q1, q2, q3, q4, q5, q6, q7, q8, q9⟩ := h
  have ht := tot_drop k L
  have hl := lenAt_le L k
  refine ⟨q1, ?_, by rw [q3, fm_drop k q4], rising_drop k q4, q5, q6, by omega, q8, q9⟩
  show wrap64 (c.used - lenAt fm k) = _
  rw [q2, q3]
  rw [IntWalk.wrap64_in _ (by omega)]
  omega
/-- Both say the same of an act. -/
def Both (cap : Int) (r : Cfg × FM × Int) (q : Int × Bool × FL × Int) : Prop := r.2.2 = q.2.2.2 ∧ Cor cap q.1 q.2.1 q.2.2.1 r.1 r.2.1
theorem both_sync {cap fuse : Int} {L : FL} {c : Cfg} {fm : FM} (h : Cor cap fuse false L c fm) (k : Nm) : Both cap (fSync c fm k) (rSync fuse L k) := by
  unfold fSync rSync
  rw [h.lost_, h.goes_]
  have e := h.fm_
  subst e
  simp only [Bool.false_eq_true, if_false]
  cases hf : fmL L k with
  | none => exact ⟨rfl, h⟩
  | some f =>
    simp only
    by_cases h0 : fuse = 0
    · subst h0
      simp only [decide_true, if_true]
      exact ⟨rfl, h.blown⟩
    · rw [decide_eq_false h0, if_neg h0]
      simp only [Bool.false_eq_true, if_false]
      refine ⟨rfl, (h.burn h0).put k (allSafe f.l) ?_⟩
      have := h.tot
      rw [lenAt_some hf]
      show _ - _ + ((f.l.length : Nat) : Int) ≤ _
      omega
theorem both_remove {cap fuse : Int} {L : FL} {c : Cfg} {fm : FM} (h : Cor cap fuse false L c fm) (k : Nm) : Both cap (fRemove c fm k) (rRemove fuse L k) := by
  unfold fRemove rRemove
  rw [h.lost_, h.goes_]
  have e := h.fm_
  subst e
  simp only [Bool.false_eq_true, if_false]
  cases hf : fmL L k with
  | none => exact ⟨rfl, h⟩
  | some f =>
    simp only
    by_cases h0 : fuse = 0
    · subst h0
      simp only [decide_true, if_true]
      exact ⟨rfl, h.blown⟩
    · rw [decide_eq_false h0, if_neg h0]
      simp only [Bool.false_eq_true, if_false]
      exact ⟨rfl, (h.burn h0).drop k⟩
theorem both_lose {cap fuse : Int} {L : FL} {c : Cfg} {fm : FM} (h : Cor cap fuse false L c fm) (k : Nm) : Both cap (fLose c fm k) (rLose fuse L k) := by
  unfold fLose rLose
  rw [h.lost_]
  have e := h.fm_
  subst e
  simp only [Bool.false_eq_true, if_false]
  cases hf : fmL L k with
  | none => exact ⟨rfl, h⟩
  | some f => exact ⟨rfl, h.drop k⟩
theorem both_fuse {cap fuse : Int} {L : FL} {c : Cfg} {fm : FM} (h : Cor cap fuse false L c fm) (n : Int) (hn : n ≤ 9223372036854775807) : Both cap (fFuse c fm n) (rFuse fuse L n) := by
  unfold fFuse rFuse
  rw [h.lost_]
  simp only [Bool.false_eq_true, if_false]
  by_cases h0 : n < 0
  · rw [if_pos h0, if_pos h0]
    exact ⟨rfl, h⟩
  · rw [if_neg h0, if_neg h0]
    obtain ⟨q1, q2, q3, q4, q5, q6, q7, q8, q9⟩ := h
    exact ⟨rfl, q1, q2, q3, q4, rfl, .inr ⟨rfl, rfl, by show 0 ≤ n; omega⟩, q7, q8, hn⟩
theorem both_rename {cap fuse : Int} {L : FL} {c : Cfg} {fm : FM} (h : Cor cap fuse false L c fm) (k t : Nm) : Both cap (fRename c fm k t) (rRename fuse L k t) := by
  unfold fRename rRename
  rw [h.lost_, h.goes_]
  have e := h.fm_
  subst e
  simp only [Bool.false_eq_true, if_false]
  by_cases ht : nameB t = false ∨ k = t
  · rw [if_pos ht, if_pos ht]
    exact ⟨rfl, h⟩
  · rw [if_neg ht, if_neg ht]
    cases hf : fmL L k with
    | none => exact ⟨rfl, h⟩
    | some f =>
      simp only
      by_cases hw : Whole f
      · have hnw : ¬ ¬ Whole f := fun e => e hw
        rw [if_neg hnw, if_neg hnw]
        by_cases h0 : fuse = 0
        · subst h0
          simp only [decide_true, if_true]
          exact ⟨rfl, h.blown⟩
        · rw [decide_eq_false h0, if_neg h0]
          simp only [Bool.false_eq_true, if_false]
          refine ⟨rfl, ((h.burn h0).drop k).put t f ?_⟩
          have h1 := tot_drop k L
          rw [lenAt_some hf] at h1
          have := h.tot
          omega
      · rw [if_pos hw, if_pos hw]
        exact ⟨rfl, h⟩
theorem room_eq {cap fuse : Int} {lost : Bool} {L : FL} {c : Cfg} {fm : FM} (h : Cor cap fuse lost L c fm) : cRoom c = cap - (totL L : Nat) := by
  have h1 := h.used
  have h2 := h.cap_
  have h3 := h.tot
  have h4 := h.capb
  unfold cRoom
  rw [h1, h2]
  exact IntWalk.wrap64_in _ (by omega)
theorem both_harm {cap fuse : Int} {L : FL} {c : Cfg} {fm : FM} (h : Cor cap fuse false L c fm) (k : Nm) (data : List Nat) : Both cap (fHarm c fm k data) (rHarm cap fuse L k data) := by
  unfold fHarm rHarm
  rw [h.lost_, room_eq h]
  have e := h.fm_
  subst e
  simp only [Bool.false_eq_true, if_false]
  have h3 := h.tot
  have h4 := h.capb
  have h5 := lenAt_le L k
  rw [IntWalk.wrap64_in _ (by omega)]
  split
  · exact ⟨rfl, h⟩
  · split
    · exact ⟨rfl, h⟩
    · rename_i hle
      refine ⟨rfl, h.put k (allSafe data) ?_⟩
      show _ - _ + ((data.length : Nat) : Int) ≤ _
      omega
theorem ins_same {k : Nm} {f : File} : ∀ {L : FL}, Rising L → fmL L k = some f → insL k f L = L
  | [], _, h => by cases h
  | x :: L, hr, h => by
    have hx := h
    simp only [fmL, findL] at h
    unfold insL
    by_cases h1 : x.1 < k
    · rw [if_pos h1, ins_same (List.Pairwise.of_cons hr)]
      rw [if_neg fun e => by rw [e] at h1; exact nm_irrefl _ h1] at h
      exact h
    · rw [if_neg h1]
      by_cases h2 : x.1 = k
      · rw [if_pos h2]
        rw [if_pos h2] at h
        cases h
        rw [← h2]
      · have := hr.above (nm_total h1 h2)
        rw [show fmL (x :: L) k = findL k (x :: L) from rfl, this] at hx
        cases hx
theorem grown_len (fm : FM) (k : Nm) (l : List Nat) : (grown fm k l).l.length = lenAt fm k + l.length := by
  unfold grown fileAt lenAt
  cases fm k <;> simp
theorem both_append {cap fuse : Int} {L : FL} {c : Cfg} {fm : FM} (h : Cor cap fuse false L c fm) (k : Nm) (data : List Nat) : Both cap (fAppend c fm k data) (rAppend cap fuse L k data) := by
  unfold fAppend rAppend
  rw [h.lost_, h.goes_, room_eq h]
  have e := h.fm_
  subst e
  simp only [Bool.false_eq_true, if_false]
  have h3 := h.tot
  have h4 := h.capb
  have h5 := lenAt_le L k
  split
  · exact ⟨rfl, h⟩
  · split
    · exact ⟨rfl, h⟩
    · rename_i hle
      by_cases h0 : fuse = 0
      · subst h0
        simp only [decide_true, if_true]
        by_cases h6 : data.length / 2 = 0
        · rw [if_pos h6]
          cases hf : fmL L k with
          | none =>
            rw [if_pos ⟨rfl, h6⟩]
            exact ⟨rfl, h.blown⟩
          | some f =>
            rw [if_neg (fun e => by cases e.1)]
            have eg : grown (fmL L) k (data.take (data.length / 2)) = f := by
              unfold grown fileAt
              rw [h6, hf]
              simp
            rw [eg, ins_same h.rise hf]
            exact ⟨rfl, h.blown⟩
        · rw [if_neg h6, if_neg (fun e => h6 e.2)]
          refine ⟨rfl, h.blown.put k _ ?_⟩
          rw [grown_len, List.length_take]
          omega
      · rw [decide_eq_false h0, if_neg h0]
        simp only [Bool.false_eq_true, if_false]
        refine ⟨rfl, (h.burn h0).put k _ ?_⟩
        rw [grown_len]
        omega

/-! ### A restart -/
theorem rLeft_keys (keep : List Int) : ∀ (L : FL) (i : Nat), ((rLeft keep L i).map (·.1)).Sublist (L.map (·.1))
  | [], i => by simp [rLeft]
  | x :: L, i => by
    unfold rLeft
    split
    · exact (rLeft_keys keep L i).cons_cons _
    · split
      · exact (rLeft_keys keep L (i + 1)).cons _
      · exact (rLeft_keys keep L (i + 1)).cons_cons _
theorem rising_map {L : FL} : Rising L ↔ (L.map (·.1)).Pairwise (· < ·) := by
  unfold Rising
  rw [List.pairwise_map]
theorem rising_left {L : FL} (h : Rising L) (keep : List Int) (i : Nat) : Rising (rLeft keep L i) := rising_map.2 ((rising_map.1 h).sublist (rLeft_keys keep L i))
theorem fm_nokey {L : FL} {k : Nm} (h : k ∉ L.map (·.1)) : fmL L k = none := findL_none fun x hx e => h (List.mem_map.2 ⟨x, hx, e⟩)
theorem fm_cons (x : Nm × File) (L : FL) (s : Nm) : fmL (x :: L) s = if x.1 = s then some x.2 else fmL L s := rfl
theorem tot_left (keep : List Int) : ∀ (L : FL) (i : Nat), (∀ x ∈ L, x.2.safe ≤ x.2.l.length) → totL (rLeft keep L i) ≤ totL L
  | [], i, _ => by simp [rLeft]
  | x :: L, i, h => by
    have h1 := tot_left keep L i fun y hy => h y (by simp [hy])
    have h2 := tot_left keep L (i + 1) fun y hy => h y (by simp [hy])
    unfold rLeft
    split
    · simp only [totL]; omega
    · split
      · simp only [totL]; omega
      · simp only [totL, List.length_take]; omega
theorem rfold_left (keep : List Int) : ∀ (L : FL) (fm : FM) (i : Nat) (u : Int), Rising L → (∀ x ∈ L, fm x.1 = some x.2) → (∀ x ∈ L, x.2.safe ≤ x.2.l.length) → (totL L : Int) ≤ u → u ≤ 4194304 →
    ((L.map (·.1)).foldl (rstep keep) (fm, i, u)).2.2 = u - (totL L : Nat) + (totL (rLeft keep L i) : Nat) ∧ ∀ s, ((L.map (·.1)).foldl (rstep keep) (fm, i, u)).1 s = if s ∈ L.map (·.1) then fmL (rLeft keep L i) s else fm s
  | [], fm, i, u, _, _, _, _, _ => by simp [rLeft, totL]
  | x :: L, fm, i, u, hr, hag, hsf, hu0, hu1 => by
    have hr2 := List.Pairwise.of_cons hr
    have hx := hag x (by simp)
    have hxs := hsf x (by simp)
    have hno : x.1 ∉ L.map (·.1) := fun hm => by
      obtain ⟨y, hy, e⟩ := List.mem_map.1 hm
      have := List.rel_of_pairwise_cons hr hy
      rw [e] at this
      exact nm_irrefl _ this
    have hfa : fileAt fm x.1 = x.2 := by simp [fileAt, hx]
    have hla : lenAt fm x.1 = x.2.l.length := lenAt_some hx
    simp only [totL] at hu0
    have hne : ∀ y ∈ L, y.1 ≠ x.1 := fun y hy e => hno (List.mem_map.2 ⟨y, hy, e⟩)
    have hk := keptOf_range keep i (x.2.l.length - x.2.safe)
    simp only [List.map_cons, List.foldl_cons]
    by_cases hw : x.2.ever = true ∧ x.2.safe = x.2.l.length
    · have e1 : rstep keep (fm, i, u) x.1 = (fm, i, u) := by
        unfold rstep
        simp only [hfa]
        rw [if_pos hw]
      have e2 : rLeft keep (x :: L) i = x :: rLeft keep L i := by
        show (if _ then _ else _) = _
        rw [if_pos hw]
      rw [e1, e2]
      obtain ⟨q1, q2⟩ := rfold_left keep L fm i u hr2 (fun y hy => hag y (by simp [hy])) (fun y hy => hsf y (by simp [hy])) (by omega) hu1
      refine ⟨by rw [q1]; simp only [totL]; omega, fun s => ?_⟩
      rw [q2 s, fm_cons]
      by_cases h1 : x.1 = s
      · subst h1
        rw [if_neg hno, if_pos (by simp), if_pos rfl, hx]
      · rw [if_neg h1]
        by_cases h2 : s ∈ L.map (·.1)
        · rw [if_pos h2, if_pos (by simp [h2])]
        · rw [if_neg h2, if_neg (by simp [h2, Ne.symm h1])]
    · obtain ⟨left, hl⟩ : ∃ left, left = x.2.safe + (keptOf keep i (x.2.l.length - x.2.safe)).toNat := ⟨_, rfl⟩
      have hle : left ≤ x.2.l.length := by omega
      have e1 : rstep keep (fm, i, u) x.1 = (cutFm fm x.1 left, i + 1, u - (x.2.l.length : Nat) + (left : Nat)) := by
        unfold rstep
        simp only [hfa, hla]
        rw [if_neg hw, ← hl]
        rw [IntWalk.wrap64_in (u - (x.2.l.length : Nat)) (by omega), IntWalk.wrap64_in _ (by omega)]
      rw [e1]
      by_cases h0 : left = 0 ∧ x.2.ever = false
      · have e2 : rLeft keep (x :: L) i = rLeft keep L (i + 1) := by
          show (if _ then _ else if _ then _ else _) = _
          rw [if_neg hw, ← hl, if_pos h0]
        have e3 : cutFm fm x.1 left = erase fm x.1 := by
          unfold cutFm
          rw [hfa, if_pos h0]
        rw [e2, e3]
        obtain ⟨q1, q2⟩ := rfold_left keep L (erase fm x.1) (i + 1) (u - (x.2.l.length : Nat) + (left : Nat)) hr2 (fun y hy => by simp [erase, hne y hy, hag y (by simp [hy])]) (fun y hy => hsf y (by simp [hy])) (by omega) (by omega)
        refine ⟨by rw [q1]; simp only [totL]; omega, fun s => ?_⟩
        rw [q2 s]
        by_cases h1 : x.1 = s
        · subst h1
          rw [if_neg hno, if_pos (by simp), fm_nokey (fun hm => hno ((rLeft_keys keep L (i + 1)).subset hm))]
          simp [erase]
        · by_cases h2 : s ∈ L.map (·.1)
          · rw [if_pos h2, if_pos (by simp [h2])]
          · rw [if_neg h2, if_neg (by simp [h2, Ne.symm h1])]
            simp [erase, Ne.symm h1]
      · have e2 : rLeft keep (x :: L) i = (x.1, ⟨x.2.l.take left, left, true⟩) :: rLeft keep L (i + 1) := by
          show (if _ then _ else if _ then _ else _) = _
          rw [if_neg hw, ← hl, if_neg h0]
        have e3 : cutFm fm x.1 left = upd fm x.1 ⟨x.2.l.take left, left, true⟩ := by
          unfold cutFm
          rw [hfa, if_neg h0]
        rw [e2, e3]
        obtain ⟨q1, q2⟩ := rfold_left keep L (upd fm x.1 ⟨x.2.l.take left, left, true⟩) (i + 1) (u - (x.2.l.length : Nat) + (left : Nat)) hr2 (fun y hy => by simp [upd, hne y hy, hag y (by simp [hy])]) (fun y hy => hsf y (by simp [hy])) (by omega) (by omega)
        refine ⟨by rw [q1]; simp only [totL, List.length_take]; omega, fun s => ?_⟩
        rw [q2 s, fm_cons]
        by_cases h1 : x.1 = s
        · subst h1
          rw [if_neg hno, if_pos (by simp), if_pos rfl]
          simp [upd]
        · rw [if_neg h1]
          by_cases h2 : s ∈ L.map (·.1)
          · rw [if_pos h2, if_pos (by simp [h2])]
          · rw [if_neg h2, if_neg (by simp [h2, Ne.symm h1])]
            simp [upd, Ne.symm h1]
theorem fm_keys {L : FL} {s : Nm} (h : fmL L s ≠ none) : s ∈ L.map (·.1) := by
  by_cases hm : s ∈ L.map (·.1)
  · exact hm
  · exact absurd (fm_nokey hm) h
theorem fm_mem {L : FL} (h : Rising L) {x : Nm × File} (hx : x ∈ L) : fmL L x.1 = some x.2 := by
  induction L with
  | nil => cases hx
  | cons y L ih =>
    rw [fm_cons]
    rcases List.mem_cons.1 hx with rfl | hx
    · rw [if_pos rfl]
    · have := List.rel_of_pairwise_cons h hx
      rw [if_neg fun e => by rw [e] at this; exact nm_irrefl _ this]
      exact ih (List.Pairwise.of_cons h) hx
/-- A restart, in both. -/
theorem both_restart {cap fuse : Int} {lost : Bool} {L : FL} {c : Cfg} {fm : FM} (h : Cor cap fuse lost L c fm) (keep : List Int) {ns : List Nm} (hns : Listed fm ns) (hshort : ∀ s, (fm s).isSome = true → s.length ≤ maxLen) (hsf : ∀ s f, fm s = some f → f.safe ≤ f.l.length) :
    Cor cap (-1) false (rLeft keep L 0) ⟨c.cap, (rfold keep fm c.used ns).2.2, false, 0, false⟩ (rfold keep fm c.used ns).1 := by
  obtain ⟨q1, q2, q3, q4, q5, q6, q7, q8, q9⟩ := h
  subst q3
  have hmem : ∀ x ∈ L, fmL L x.1 = some x.2 := fun x hx => fm_mem q4 hx
  have e : ns = L.map (·.1) := hns.same (listed_abs q4 fun x hx => hshort x.1 (by rw [hmem x hx]; rfl))
  subst e
  obtain ⟨r1, r2⟩ := rfold_left keep L (fmL L) 0 c.used q4 hmem (fun x hx => hsf x.1 x.2 (hmem x hx)) (by omega) (by omega)
  have ht := tot_left keep L 0 (fun x hx => hsf x.1 x.2 (hmem x hx))
  refine ⟨q1, ?_, ?_, rising_left q4 keep 0, rfl, .inl ⟨rfl, rfl⟩, by omega, q8, by decide⟩
  · show ((L.map (·.1)).foldl (rstep keep) (fmL L, 0, c.used)).2.2 = _
    rw [r1, q2]
    omega
  · funext s
    show ((L.map (·.1)).foldl (rstep keep) (fmL L, 0, c.used)).1 s = _
    rw [r2 s]
    split
    · rfl
    · rename_i hs
      rw [fm_nokey hs, fm_nokey fun hm => hs ((rLeft_keys keep L 0).subset hm)]
end Go.Proofs.Ytedhbcaakdfcbaa.disk
