/- A number's digits, as the document writes them; plain facts on what is written. -/
import Derived.Test.YtihcgbjmgfgenaaLexZc
namespace Go.Proofs.Ytihcgbjmgfgenaa.lx
open Go.ChangeShapes Go.WideShapes Go.ChangeAt Go.RowKit
open Go.Proofs.Ytihcgbjmgfgenaa.codec (Bytes vals)
open Go.Proofs.Ytihcgbjmgfgenaa.row
set_option linter.unusedVariables false
set_option maxRecDepth 100000
set_option linter.unusedSimpArgs false

/-- What is left to write of a number. -/
def Cnt (N n : Nat) (s : List Nat) : Prop := (∃ f, 0 < f ∧ n < 10 ^ f ∧ digF f n ++ s = digs N ∧ (0 < n ∨ s = [])) ∨ (n = 0 ∧ s ≠ [] ∧ s = digs N)
theorem Cnt.next {N n : Nat} {s : List Nat} (h : Cnt N n s) (hg : 0 < n ∨ s = []) : Cnt N (n / 10) ((48 + n % 10) :: s) := by
  rcases h with ⟨f, h1, h2, h3, h4⟩ | ⟨h1, h2, h3⟩
  · obtain ⟨g, rfl⟩ : ∃ g, f = g + 1 := ⟨f - 1, by omega⟩
    by_cases h : n < 10
    · right
      rw [digF_one g n h] at h3
      refine ⟨by omega, by simp, ?_⟩
      rw [← h3, show n % 10 = n by omega]
      rfl
    · left
      rw [digF_more g n h] at h3
      have hg0 : 0 < g := by
        rcases Nat.eq_zero_or_pos g with e | e
        · subst e; simp at h2; omega
        · exact e
      refine ⟨g, hg0, by rw [Nat.pow_succ] at h2; omega, ?_, .inl (by omega)⟩
      rw [← h3]
      simp
  · rcases hg with h | h
    · omega
    · exact absurd h h2
theorem Cnt.done {N n : Nat} {s : List Nat} (h : Cnt N n s) (hg : ¬ (0 < n ∨ s = [])) : s = digs N := by
  rcases h with ⟨f, h1, h2, h3, h4⟩ | ⟨h1, h2, h3⟩
  · exact absurd h4 hg
  · exact h3
theorem Cnt.le {N n : Nat} {s : List Nat} (h : Cnt N n s) (hN : N ≤ 999999) : s.length ≤ 6 := by
  have h6 : (digs N).length ≤ 6 := (digF_len 5 19 N (by omega)).2
  rcases h with ⟨f, h1, h2, h3, h4⟩ | ⟨h1, h2, h3⟩
  · have := congrArg List.length h3
    rw [List.length_append] at this
    omega
  · rw [h3]; exact h6
theorem strOf_isEmpty (s : List Nat) : (strOf s).toList.isEmpty = s.isEmpty := by
  rw [ByteArray.toList_eq]
  simp [strOf]
theorem one_lies {w : World} {g x : Nat} (hx : x < 256) (hg : w.cell? ⟨g, 0, none⟩ = some (.int .u8 (x : Nat))) (c : Nat) : (convert 22 9 (.slice (some ⟨g, 0, none⟩) 1 c)).run Try.prog w = .ok (.string (strOf [x])) w := Bytes.text (sep_in hg hx) c
set_option maxHeartbeats 2000000 in
theorem count_any (W : World) (N : Nat) (hN : N ≤ 999999) :
    Calls Try.prog 15 #[.int .i64 (N : Nat)] W fun e w' => e = .returned (.string (strOf (digs N))) ∧ Below W.heap.size W w' := by
  have H0 := Lib.hid (show Cnt N N [] from .inl ⟨20, by decide, by omega, by simp [digs], .inr rfl⟩)
  have HN := Lib.hid hN
  clear hN
  go_enter Try.func15, Try.ntmps15
  go_wp2
  go_loopw [0, 3] (fun x y wr => ∃ (n : Nat) (s : List Nat) (S : ByteArray), x = .int .i64 n ∧ y = .string S ∧ n ≤ 999999 ∧ Hid (S = strOf s) ∧ Hid (Cnt N n s) ∧ Hid (Below W.heap.size W wr)) (fun x y _ => (intOf x).toNat + (if strLen y = 0 then 1 else 0))
  case atStart => exact ⟨N, [], ⟨#[]⟩, rfl, rfl, HN.out, Lib.hid rfl, H0, Lib.hid (Below.refl _ _)⟩
  case round =>
    obtain ⟨n, s, S, rfl, rfl, hn, HS, HC, HB⟩ := hrel
    have hse : S.toList.isEmpty = s.isEmpty := by rw [HS.out]; exact strOf_isEmpty s
    have hsz : S.size = s.length := by rw [HS.out, strOf_size]
    have HSz := Lib.hid hsz
    have hle := HC.out.le HN.out
    by_cases hgo : 0 < n ∨ s = []
    · obtain ⟨x, hx⟩ : ∃ x, x = 48 + n % 10 := ⟨_, rfl⟩
      have HNx := Lib.hid (HC.out.next hgo)
      have HX := Lib.hid hx
      obtain ⟨y, hy⟩ : ∃ y, y = n % 10 := ⟨_, rfl⟩
      have HY := Lib.hid hy
      have e1 : ((n : Int) % 10) = (y : Int) := by omega
      have e2 : IntKind.i64.wrap (48 + (y : Int)) = (x : Int) := (IntWalk.i64_in _ (by omega)).trans (by omega)
      have e3 : IntKind.u8.wrap (x : Int) = (x : Int) := IntWalk.u8_in _ (by omega)
      obtain ⟨n2, hn2⟩ : ∃ n2, n2 = n / 10 := ⟨_, rfl⟩
      have e4 : ((n : Int) / 10) = (n2 : Int) := by omega
      have e5 : IntKind.i64.wrap (n2 : Int) = (n2 : Int) := IntWalk.i64_in _ (by omega)
      have HN2 := Lib.hid hn2
      obtain ⟨W2, hW2⟩ : ∃ W2, W2 = wr.alloc (.cells #[.int .u8 (x : Nat)] 5) := ⟨_, rfl⟩
      have hc2 : W2.cell? ⟨wr.heap.size, 0, none⟩ = some (.int .u8 (x : Nat)) := by rw [hW2]; simp
      have hcv := one_lies (by omega) hc2 1
      rw [hW2] at hcv
      obtain ⟨D, hD⟩ : ∃ D, D = strOf [x] := ⟨_, rfl⟩
      rw [← hD] at hcv
      have hDs : D.size = 1 := by rw [hD, strOf_size]; rfl
      have hcat : ∀ w, (Op.stringOp .add D S).run Try.prog w = .ok (.string (D ++ S)) w := fun w => run_string_add_sum w _ _ (by omega)
      have HD := Lib.hid (show D ++ S = strOf (x :: s) from by rw [hD, HS.out, strOf_append]; rfl)
      have HB2 := Lib.hid (show Below W.heap.size W (wr.alloc (.cells #[.int .u8 (x : Nat)] 5)) from HB.out.alloc HB.out.size _)
      have HNx2 := Lib.hid (show Cnt N n2 (x :: s) from by rw [hn2, hx]; exact HNx.out)
      have HMs := Lib.hid (show n2 + (if (D ++ S).size = 0 then 1 else 0) < n + (if S.size = 0 then 1 else 0) from by
        rw [ByteArray.size_append, if_neg (by omega)]
        rcases hgo with h | h
        · omega
        · rw [if_pos (by rw [hsz, h]; rfl)]
          omega)
      have hn3 : n2 ≤ 999999 := by omega
      clear hx hy hn2 hW2 hc2 hD hDs hsz hle
      by_cases hpos : 0 < n
      · have q1 : decide ((0 : Int) < (n : Int)) = true := decide_eq_true (by omega)
        have q2 : decide (0 < n) = true := decide_eq_true hpos
        clear hgo hpos hse
        go_wp2_with fail
        go_roundw
        case rel => first | exact ⟨n2, x :: s, _, rfl, rfl, hn3, HD, HNx2, HB2⟩ | ((repeat apply Exists.intro); exact ⟨⟨n2, x :: s, _, rfl, rfl, hn3, HD, HNx2, HB2⟩, rfl⟩)
        case measure => (show n2 + (if (D ++ S).size = 0 then 1 else 0) < n + (if S.size = 0 then 1 else 0); exact HMs.out)
      · have q1 : decide ((0 : Int) < (n : Int)) = false := decide_eq_false (by omega)
        have q2 : decide (0 < n) = false := decide_eq_false hpos
        have hs0 : s = [] := by rcases hgo with h | h; exact absurd h hpos; exact h
        have q3 : S.toList.isEmpty = true := by rw [hse, hs0]; rfl
        clear hgo hpos hse hs0
        go_wp2_with fail
        go_roundw
        case rel => first | exact ⟨n2, x :: s, _, rfl, rfl, hn3, HD, HNx2, HB2⟩ | ((repeat apply Exists.intro); exact ⟨⟨n2, x :: s, _, rfl, rfl, hn3, HD, HNx2, HB2⟩, rfl⟩)
        case measure => (show n2 + (if (D ++ S).size = 0 then 1 else 0) < n + (if S.size = 0 then 1 else 0); exact HMs.out)
    · have HE := Lib.hid (HC.out.done hgo)
      have q1 : decide ((0 : Int) < (n : Int)) = false := decide_eq_false (by omega)
      have q2 : decide (0 < n) = false := decide_eq_false (by omega)
      have q3 : S.toList.isEmpty = false := by
        rw [hse]
        cases s with
        | nil => exact absurd (.inr rfl) hgo
        | cons a b => rfl
      clear hgo hse hsz hle
      go_wp2_with fail
      go_ret
      exact ⟨by rw [← HE.out, ← HS.out]; rfl, HB.out⟩
/-- What may be written. -/
def WOK (lits : Bool) (l : List Tk) : Prop := (∀ t ∈ l, Good lits t) ∧ (∀ k, 0 ≤ depth (l.take k)) ∧ depth l = 0 ∧ l.length ≤ 200
theorem wr_snoc_at (lits : Bool) (t : Tk) : ∀ (l : List Tk) (p : Int), wrF lits p (l ++ [t]) = wrF lits p l ++ (gapB (if l = [] then p else lastK l) t ++ txt lits t)
  | [], p => by simp [wrF]
  | a :: r, p => by
    have ih := wr_snoc_at lits t r a.k
    rw [List.cons_append, wrF, ih, wrF]
    have e : (if r = [] then a.k else lastK r) = lastK (a :: r) := by
      cases r with
      | nil => rfl
      | cons b s => simp [lastK]
    rw [e, if_neg (by simp)]
    simp
theorem wr_snoc (lits : Bool) (t : Tk) (l : List Tk) : wrF lits 3 (l ++ [t]) = wrF lits 3 l ++ (gapB (lastK l) t ++ txt lits t) := by
  rw [wr_snoc_at]
  congr 2
  cases l with
  | nil => rfl
  | cons a r => rw [if_neg (by simp)]
/-- What has been written of a row. -/
def WI (lits : Bool) (l : List Tk) (k : Nat) (s : List Nat) (o : Int) : Prop := (∀ t ∈ l.take k, Good lits t) ∧ (∀ j, j ≤ k → 0 ≤ depth (l.take j)) ∧ o = depth (l.take k) ∧ s = wrF lits 3 (l.take k) ∧ 0 ≤ o ∧ o ≤ k
theorem WI.next {lits : Bool} {l : List Tk} {k : Nat} {s : List Nat} {o : Int} {t : Tk} (h : WI lits l k s o) (ht : l[k]? = some t) (hg : Good lits t) (ho : 0 ≤ o + opens t.k) : WI lits l (k + 1) (s ++ (gapB (lastK (l.take k)) t ++ txt lits t)) (o + opens t.k) := by
  obtain ⟨h1, h2, h3, h4, h5, h6⟩ := h
  have e : l.take (k + 1) = l.take k ++ [t] := by rw [List.take_add_one, ht]; rfl
  have hd : depth (l.take (k + 1)) = o + opens t.k := by rw [e, depth_snoc, h3]
  refine ⟨fun u hu => ?_, fun j hj => ?_, hd.symm, by rw [e, wr_snoc, h4], ho, by have := (opens_le t.k).2; omega⟩
  · rw [e] at hu
    rcases List.mem_append.1 hu with hu | hu
    · exact h1 u hu
    · simp at hu
      rw [hu]
      exact hg
  · by_cases hjk : j ≤ k
    · exact h2 j hjk
    · obtain rfl : j = k + 1 := by omega
      rw [hd]
      exact ho
theorem not_ok_good {lits : Bool} {l : List Tk} {k : Nat} {t : Tk} (ht : l[k]? = some t) (hg : ¬ Good lits t) : ¬ WOK lits l := fun h => hg (h.1 t (List.mem_of_getElem? ht))
theorem not_ok_deep {lits : Bool} {l : List Tk} {k : Nat} {s : List Nat} {o : Int} {t : Tk} (h : WI lits l k s o) (ht : l[k]? = some t) (ho : o + opens t.k < 0) : ¬ WOK lits l := fun hk => by
  have e : l.take (k + 1) = l.take k ++ [t] := by rw [List.take_add_one, ht]; rfl
  have := hk.2.1 (k + 1)
  rw [e, depth_snoc, ← h.2.2.1] at this
  omega
/-- What writing answers. -/
def WrAns (W : World) (lits : Bool) (l : List Tk) (e : Ending) (w' : World) : Prop :=
  Below W.heap.size W w' ∧ ∃ (S : ByteArray) (B : Bool), e = .returned (.tuple #[.string S, .bool B]) ∧ (B = true ↔ WOK lits l) ∧ (B = true → S = strOf (wrF lits 3 l))
theorem wr_no {W w' : World} {lits : Bool} {l : List Tk} {S : ByteArray} (hb : Below W.heap.size W w') (h : ¬ WOK lits l) : WrAns W lits l (.returned (.tuple #[.string S, .bool false])) w' :=
  ⟨hb, S, false, rfl, ⟨(fun e => by cases e), fun e => absurd e h⟩, (fun e => by cases e)⟩
theorem esc_len : ∀ t : List Nat, (esc t).length ≤ 2 * t.length
  | [] => by simp [esc]
  | x :: r => by
    have := esc_len r
    rw [esc]
    split <;> simp only [List.length_cons] <;> omega
theorem txt_len {lits : Bool} {p : Int} {t : Tk} (h : t.t.length ≤ 999999) : (gapB p t ++ txt lits t).length ≤ 2 * t.t.length + 20 := by
  have h1 := (digF_len 5 19 t.t.length (by omega)).2
  have h2 := esc_len t.t
  have h3 : (gapB p t).length ≤ 1 := by unfold gapB; split <;> simp
  rw [List.length_append]
  have h4 : (txt lits t).length ≤ 2 * t.t.length + 19 := by
    unfold txt
    split
    · omega
    · split
      · cases lits
        · simp only [List.length_cons, List.length_append, List.length_nil, if_neg (show ¬ (false = true) by decide)]
          omega
        · have h5 : (digs t.t.length).length ≤ 6 := h1
          simp only [List.length_cons, List.length_append, List.length_nil, if_true]
          omega
      · split <;> simp
  omega
end Go.Proofs.Ytihcgbjmgfgenaa.lx
