/- The document's digits and what it counts; an item that marks. -/
import Derived.Test.YtkbldbcgclnfeaaDoorFetA
namespace Go.Proofs.YtkbldbcgclnfeaaDoor.fet
open Go.ChangeShapes hiding strOf
open Go.WideShapes Go.ChangeAt Go.RowKit
open Go.Proofs.YtkbldbcgclnfeaaDoor.codec (Bytes vals)
open Go.Proofs.YtkbldbcgclnfeaaDoor.lx
set_option linter.unusedVariables false
set_option linter.unusedSimpArgs false
set_option maxRecDepth 100000

def strLen : Value → Nat
  | .string s => s.size
  | _ => 0
/-- What is left to write of a number. -/
def Cnt (N n : Nat) (s : List Nat) : Prop := (∃ f, 0 < f ∧ n < 10 ^ f ∧ digF f n ++ s = digs N ∧ (0 < n ∨ s = [])) ∨ (n = 0 ∧ s ≠ [] ∧ s = digs N)
theorem Cnt.next {N n : Nat} {s : List Nat} (h : Cnt N n s) (hg : 0 < n ∨ s = []) : Cnt N (n / 10) ((48 + n % 10) :: s) := by
  rcases h with ⟨f, h1, h2, h3, h4⟩ | ⟨h1, h2, h3⟩
  · obtain ⟨g, rfl⟩ : ∃ g, f = g + 1 := ⟨f - 1, by omega⟩
    by_cases h : n < 10
    · right
      rw [digF_one g n h] at h3
      refine ⟨by omega, by simp, ?_⟩
      rw [← h3, show n % 10 = n by omega]
      rfl
    · left
      rw [digF_more g n h] at h3
      have hg0 : 0 < g := by
        rcases Nat.eq_zero_or_pos g with e | e
        · subst e; simp at h2; omega
        · exact e
      refine ⟨g, hg0, by rw [Nat.pow_succ] at h2; omega, ?_, .inl (by omega)⟩
      rw [← h3]
      simp
  · rcases hg with h | h
    · omega
    · exact absurd h h2
theorem Cnt.done {N n : Nat} {s : List Nat} (h : Cnt N n s) (hg : ¬ (0 < n ∨ s = [])) : s = digs N := by
  rcases h with ⟨f, h1, h2, h3, h4⟩ | ⟨h1, h2, h3⟩
  · exact absurd h4 hg
  · exact h3
theorem Cnt.le {N n : Nat} {s : List Nat} (h : Cnt N n s) (hN : N ≤ 999999) : s.length ≤ 6 := by
  have h6 : (digs N).length ≤ 6 := (digF_len 5 19 N (by omega)).2
  rcases h with ⟨f, h1, h2, h3, h4⟩ | ⟨h1, h2, h3⟩
  · have := congrArg List.length h3
    rw [List.length_append] at this
    omega
  · rw [h3]; exact h6
theorem strOf_isEmpty (s : List Nat) : (strOf s).toList.isEmpty = s.isEmpty := by
  rw [ByteArray.toList_eq]
  simp [strOf]
theorem one_lies {w : World} {g x : Nat} (hx : x < 256) (hg : w.cell? ⟨g, 0, none⟩ = some (.int .u8 (x : Nat))) (c : Nat) : (convert 27 9 (.slice (some ⟨g, 0, none⟩) 1 c)).run Tryd.prog w = .ok (.string (strOf [x])) w := lx.Bytes.text (sep_in hg hx) c
set_option maxHeartbeats 2000000 in
theorem digits_any (W : World) (N : Nat) (hN : N ≤ 999999) :
    Calls Tryd.prog 15 #[.int .u64 (N : Nat)] W fun e w' => e = .returned (.string (strOf (digs N))) ∧ Below W.heap.size W w' := by
  have H0 := Lib.hid (show Cnt N N [] from .inl ⟨20, by decide, by omega, by simp [digs], .inr rfl⟩)
  have HN := Lib.hid hN
  clear hN
  go_enter Tryd.func15, Tryd.ntmps15
  go_wp2
  go_loopw [0, 3] (fun x y wr => ∃ (n : Nat) (s : List Nat) (S : ByteArray), x = .int .u64 n ∧ y = .string S ∧ n ≤ 999999 ∧ Hid (S = strOf s) ∧ Hid (Cnt N n s) ∧ Hid (Below W.heap.size W wr)) (fun x y _ => (intOf x).toNat + (if strLen y = 0 then 1 else 0))
  case atStart => exact ⟨N, [], ⟨#[]⟩, rfl, rfl, HN.out, Lib.hid rfl, H0, Lib.hid (Below.refl _ _)⟩
  case round =>
    obtain ⟨n, s, S, rfl, rfl, hn, HS, HC, HB⟩ := hrel
    have hse : S.toList.isEmpty = s.isEmpty := by rw [HS.out]; exact strOf_isEmpty s
    have hsz : S.size = s.length := by rw [HS.out, strOf_size]
    have HSz := Lib.hid hsz
    have hle := HC.out.le HN.out
    by_cases hgo : 0 < n ∨ s = []
    · obtain ⟨x, hx⟩ : ∃ x, x = 48 + n % 10 := ⟨_, rfl⟩
      have HNx := Lib.hid (HC.out.next hgo)
      have HX := Lib.hid hx
      obtain ⟨y, hy⟩ : ∃ y, y = n % 10 := ⟨_, rfl⟩
      have HY := Lib.hid hy
      have e1 : ((n : Int) % 10) = (y : Int) := by omega
      have e2 : IntKind.u64.wrap (48 + (y : Int)) = (x : Int) := (IntWalk.u64_in _ (by omega)).trans (by omega)
      have e3 : IntKind.u8.wrap (x : Int) = (x : Int) := IntWalk.u8_in _ (by omega)
      obtain ⟨n2, hn2⟩ : ∃ n2, n2 = n / 10 := ⟨_, rfl⟩
      have e4 : ((n : Int) / 10) = (n2 : Int) := by omega
      have e5 : IntKind.u64.wrap (n2 : Int) = (n2 : Int) := IntWalk.u64_in _ (by omega)
      have HN2 := Lib.hid hn2
      obtain ⟨W2, hW2⟩ : ∃ W2, W2 = wr.alloc (.cells #[.int .u8 (x : Nat)] 5) := ⟨_, rfl⟩
      have hc2 : W2.cell? ⟨wr.heap.size, 0, none⟩ = some (.int .u8 (x : Nat)) := by rw [hW2]; simp
      have hcv := one_lies (by omega) hc2 1
      rw [hW2] at hcv
      obtain ⟨D, hD⟩ : ∃ D, D = strOf [x] := ⟨_, rfl⟩
      rw [← hD] at hcv
      have hDs : D.size = 1 := by rw [hD, strOf_size]; rfl
      have hcat : ∀ w, (Op.stringOp .add D S).run Tryd.prog w = .ok (.string (D ++ S)) w := fun w => run_string_add_sum w _ _ (by omega)
      have HD := Lib.hid (show D ++ S = strOf (x :: s) from by rw [hD, HS.out, str_append]; rfl)
      have HB2 := Lib.hid (show Below W.heap.size W (wr.alloc (.cells #[.int .u8 (x : Nat)] 5)) from HB.out.alloc HB.out.size _)
      have HNx2 := Lib.hid (show Cnt N n2 (x :: s) from by rw [hn2, hx]; exact HNx.out)
      have HMs := Lib.hid (show n2 + (if (D ++ S).size = 0 then 1 else 0) < n + (if S.size = 0 then 1 else 0) from by
        rw [ByteArray.size_append, if_neg (by omega)]
        rcases hgo with h | h
        · omega
        · rw [if_pos (by rw [hsz, h]; rfl)]
          omega)
      have hn3 : n2 ≤ 999999 := by omega
      clear hx hy hn2 hW2 hc2 hD hDs hsz hle
      by_cases hpos : 0 < n
      · have q1 : decide ((0 : Int) < (n : Int)) = true := decide_eq_true (by omega)
        have q2 : decide (0 < n) = true := decide_eq_true hpos
        clear hgo hpos hse
        go_wp2_with fail
        go_roundw
        case rel => first | exact ⟨n2, x :: s, _, rfl, rfl, hn3, HD, HNx2, HB2⟩ | ((repeat apply Exists.intro); exact ⟨⟨n2, x :: s, _, rfl, rfl, hn3, HD, HNx2, HB2⟩, rfl⟩)
        case measure => (show n2 + (if (D ++ S).size = 0 then 1 else 0) < n + (if S.size = 0 then 1 else 0); exact HMs.out)
      · have q1 : decide ((0 : Int) < (n : Int)) = false := decide_eq_false (by omega)
        have q2 : decide (0 < n) = false := decide_eq_false hpos
        have hs0 : s = [] := by rcases hgo with h | h; exact absurd h hpos; exact h
        have q3 : S.toList.isEmpty = true := by rw [hse, hs0]; rfl
        clear hgo hpos hse hs0
        go_wp2_with fail
        go_roundw
        case rel => first | exact ⟨n2, x :: s, _, rfl, rfl, hn3, HD, HNx2, HB2⟩ | ((repeat apply Exists.intro); exact ⟨⟨n2, x :: s, _, rfl, rfl, hn3, HD, HNx2, HB2⟩, rfl⟩)
        case measure => (show n2 + (if (D ++ S).size = 0 then 1 else 0) < n + (if S.size = 0 then 1 else 0); exact HMs.out)
    · have HE := Lib.hid (HC.out.done hgo)
      have q1 : decide ((0 : Int) < (n : Int)) = false := decide_eq_false (by omega)
      have q2 : decide (0 < n) = false := decide_eq_false (by omega)
      have q3 : S.toList.isEmpty = false := by
        rw [hse]
        cases s with
        | nil => exact absurd (.inr rfl) hgo
        | cons a b => rfl
      clear hgo hse hsz hle
      go_wp2_with fail
      go_ret
      exact ⟨by rw [← HE.out, ← HS.out]; rfl, HB.out⟩
theorem counted_cat (l : List Nat) : 123 :: digs l.length ++ [125, 13, 10] ++ l = cntL l := by simp [cntL]
set_option maxHeartbeats 2000000 in
/-- What the document counts. -/
theorem rcounted_any (W : World) (S : ByteArray) (l : List Nat) (hS : S = strOf l) (hn : l.length ≤ 100000) :
    Calls Tryd.prog 7 #[.string S] W fun e w' => e = .returned (.string (strOf (cntL l))) ∧ Below W.heap.size W w' := by
  have hz : S.size = l.length := by rw [hS, strOf_size]
  have hd := (digs_len (n := l.length) (by omega)).2
  have HD := Lib.hid (digits_any W l.length (by omega))
  have e1 : IntKind.u64.wrap (S.size : Int) = ((l.length : Nat) : Int) := (IntWalk.u64_in _ (by omega)).trans (by omega)
  obtain ⟨D, hD⟩ : ∃ D, D = strOf (digs l.length) := ⟨_, rfl⟩
  rw [← hD] at HD
  have r1 := cat_run [123] (digs l.length) (by simp; omega) ⟨#[123]⟩ D (strOf (123 :: digs l.length)) rfl hD rfl
  have r2 := cat_run (123 :: digs l.length) [125, 13, 10] (by simp; omega) (strOf (123 :: digs l.length)) ⟨#[125, 13, 10]⟩ (strOf (123 :: digs l.length ++ [125, 13, 10])) rfl rfl rfl
  have r3 := cat_run (123 :: digs l.length ++ [125, 13, 10]) l (by simp; omega) (strOf (123 :: digs l.length ++ [125, 13, 10])) S (strOf (cntL l)) rfl hS (by rw [counted_cat])
  generalize strOf (123 :: digs l.length) = P1 at *
  generalize strOf (123 :: digs l.length ++ [125, 13, 10]) = P2 at *
  generalize strOf (cntL l) = P3 at *
  clear hS hn hz hd hD
  go_enter Tryd.func7, Tryd.ntmps7
  go_wp2_with fail
  refine HD.out.mono ?_
  rintro e w1 ⟨rfl, hb⟩
  have HB := Lib.hid hb
  clear hb
  go_wp2_with fail
  go_ret
  exact ⟨rfl, HB.out⟩
theorem isSection_any (W : World) (k : Int) : Calls Tryd.prog 16 #[.int .i64 k] W fun e w' => e = .returned (.bool (decide (6 ≤ k) && decide (k ≤ 8))) ∧ w' = W := by
  go_enter Tryd.func16, Tryd.ntmps16
  by_cases h : 6 ≤ k
  · have q1 : decide (6 ≤ k) = true := decide_eq_true h
    go_wp2_with fail
    go_ret
    exact ⟨by rw [q1]; rfl, rfl⟩
  · have q1 : decide (6 ≤ k) = false := decide_eq_false h
    go_wp2_with fail
    go_ret
    exact ⟨rfl, rfl⟩
/-- One item that marks. -/
theorem marks_one (W : World) (g c : Nat) (c0 : W.cell? ⟨g, 0, none⟩ = some (.int .i64 6)) (c1 : W.cell? ⟨g, 1, none⟩ = some (.bool false)) :
    Calls Tryd.prog 8 #[.slice (some ⟨g, 0, none⟩) 1 c] W fun e w' => e = .returned (.bool true) ∧ Below W.heap.size W w' := by
  have hs := fun w => isSection_any w 6
  have HS := Lib.hid hs
  clear hs
  go_enter Tryd.func8, Tryd.ntmps8
  go_wp2_with fail
  go_loopw [7] (fun i wr => i = .int .i64 0 ∧ wr = W) (fun i _ => 1 - (intOf i).toNat)
  case atStart => exact ⟨rfl, rfl⟩
  case round =>
    obtain ⟨rfl, rfl⟩ := hrel
    go_wp2_with fail
    refine (HS.out _).mono ?_
    rintro e w2 ⟨rfl, hw⟩
    replace hw := hw.symm
    subst hw
    go_wp2_with fail
    go_ret
    exact ⟨rfl, (Below.refl _ _).alloc (Nat.le_refl _) _⟩
end Go.Proofs.YtkbldbcgclnfeaaDoor.fet
