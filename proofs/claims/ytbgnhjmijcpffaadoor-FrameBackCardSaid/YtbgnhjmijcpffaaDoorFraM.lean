/- Lists of records, compared. -/
import Derived.Test.YtbgnhjmijcpffaaDoorFraL
namespace Go.Proofs.YtbgnhjmijcpffaaDoor.frm
open Go.ChangeShapes Go.WideShapes Go.ChangeAt Go.RowKit
open Go.Proofs.YtbgnhjmijcpffaaDoor.codec (Bytes vals vals_append vals_length vals_one OutIs More Made New bytesOf byteAt bytesOf_length bytesOf_lt Fits strOf)
set_option linter.unusedVariables false
set_option maxRecDepth 100000
set_option linter.unusedSimpArgs false

/-- A slice that reads as records. -/
def Reads (w : World) (A : Option Addr) (n : Nat) (xs : List X) : Prop := xs.length = n ∧ ∀ k, k < n → ∃ b o x, A = some ⟨b, o, none⟩ ∧ xs[k]? = some x ∧ w.cell? ⟨b, o + k * 3, none⟩ = some (.int .i64 (x.r.at_ : Nat)) ∧ w.cell? ⟨b, o + k * 3 + 1, none⟩ = some (.int .i64 (x.r.kind : Nat)) ∧ w.cell? ⟨b, o + k * 3 + 2, none⟩ = some (.slice x.A x.n x.c) ∧ Bytes w x.A x.n x.r.pay
theorem Reads.take {w : World} {A : Option Addr} {n : Nat} {xs : List X} (h : Reads w A n xs) (m : Nat) (hm : m ≤ n) : Reads w A m (xs.take m) := by
  refine ⟨by rw [List.length_take, h.1]; omega, fun k hk => ?_⟩
  obtain ⟨b, o, x, h1, h2, h3⟩ := h.2 k (by omega)
  exact ⟨b, o, x, h1, by rw [List.getElem?_take, if_pos hk]; exact h2, h3⟩
theorem Reads.drewN {w : World} {A : Option Addr} {n : Nat} {xs : List X} (h : Reads w A n xs) (q : Nat) : Reads (w.drewN q) A n xs :=
  ⟨h.1, fun k hk => by
    obtain ⟨b, o, x, h1, h2, h3, h4, h5, h6⟩ := h.2 k hk
    exact ⟨b, o, x, h1, h2, h3, h4, h5, h6.drewN q⟩⟩
theorem cellsX_at : ∀ (xs : List X) (k : Nat) (x : X), xs[k]? = some x → (cellsX xs)[k * 3]? = some (.int .i64 (x.r.at_ : Nat)) ∧ (cellsX xs)[k * 3 + 1]? = some (.int .i64 (x.r.kind : Nat)) ∧ (cellsX xs)[k * 3 + 2]? = some (.slice x.A x.n x.c)
  | [], k, x, h => by simp at h
  | y :: ys, 0, x, h => by
    simp at h
    subst h
    exact ⟨rfl, rfl, rfl⟩
  | y :: ys, k + 1, x, h => by
    have := cellsX_at ys k x (by simpa using h)
    have e : ∀ j, (cellsX (y :: ys))[(k + 1) * 3 + j]? = (cellsX ys)[k * 3 + j]? := fun j => by
      rw [show (k + 1) * 3 + j = k * 3 + j + 3 by omega]
      rfl
    exact ⟨by rw [← this.1]; exact e 0, by rw [← this.2.1]; exact e 1, by rw [← this.2.2]; exact e 2⟩
theorem Recs.reads {B : Nat} {E : TypeId} {w : World} {v : Value} {xs : List X} (h : Recs B E w v xs) : ∃ A c, v = .slice A xs.length c ∧ xs.length ≤ c ∧ Reads w A xs.length xs := by
  rcases h.1.2 with ⟨e, h0⟩ | ⟨g, cap, cur, e, hB, hg, hc, _⟩
  · exact ⟨none, 0, by rw [h0]; exact e, by omega, rfl, fun k hk => by omega⟩
  · refine ⟨_, cap, e, hc, rfl, fun k hk => ?_⟩
    have hx : xs[k]? = some xs[k] := List.getElem?_eq_getElem hk
    obtain ⟨c0, c1, c2⟩ := cellsX_at xs k _ hx
    have key : ∀ j u, (cellsX xs)[j]? = some u → w.cell? ⟨g, 0 + j, none⟩ = some u := fun j u hu => by
      have := h.1.cells (g := g) (by rw [e]; rfl) j u hu
      rw [codec.add_none] at this
      exact this
    exact ⟨g, 0, xs[k], rfl, hx, key _ _ c0, by rw [Nat.add_assoc]; exact key _ _ c1, by rw [Nat.add_assoc]; exact key _ _ c2, (h.2 _ (List.getElem_mem hk)).1⟩
set_option maxHeartbeats 2000000 in
theorem same_any (W : World) (A B : Option Addr) (n c d : Nat) (xs ys : List X) (hA : Reads W A n xs) (hB : Reads W B n ys) (he : xs.map X.r = ys.map X.r) (hn : n ≤ 1000000) :
    Calls Tryd.prog 12 #[.slice A n c, .slice B n d] W fun e w' => e = .returned (.bool true) ∧ Below W.heap.size W w' := by
  have HA := Lib.hid hA
  have HB := Lib.hid hB
  have HE := Lib.hid he
  clear hA hB he
  go_enter Tryd.func12, Tryd.ntmps12
  go_wp2
  go_loopw [13] (fun i wr => ∃ k q : Nat, k ≤ n ∧ i = .int .i64 k ∧ wr = W.drewN q) (fun i _ => n - (intOf i).toNat)
  case atStart => exact ⟨0, 0, Nat.zero_le _, rfl, rfl⟩
  case round =>
    obtain ⟨k, q, hk, rfl, rfl⟩ := hrel
    by_cases hlt : k < n
    · obtain ⟨b, o, x, rfl, hx, c0, c1, c2, cB⟩ := (HA.out.drewN q).2 k hlt
      obtain ⟨b', o', y, rfl, hy, d0, d1, d2, dB⟩ := (HB.out.drewN q).2 k hlt
      have hr : x.r = y.r := by
        have := congrArg (fun l => l[k]?) HE.out
        simp [hx, hy] at this
        exact this
      obtain ⟨⟨ax, kx, px⟩, Ax, nx, cx⟩ := x
      obtain ⟨⟨ay, ky, py⟩, Ay, ny, cy⟩ := y
      cases hr
      obtain ⟨T, hT⟩ : ∃ T, T = strOf px := ⟨_, rfl⟩
      simp only [] at c0 c1 c2 d0 d1 d2
      generalize hWq : W.drewN q = Wq at *
      have t1 : ∀ r, (convert 22 9 (.slice Ax nx cx)).run Tryd.prog (Wq.drewN r) = .ok (.string T) (Wq.drewN r) := fun r => by rw [hT]; exact (cB.drewN r).text cx
      have t2 : ∀ r, (convert 22 9 (.slice Ay ny cy)).run Tryd.prog (Wq.drewN r) = .ok (.string T) (Wq.drewN r) := fun r => by rw [hT]; exact (dB.drewN r).text cy
      have HWq := Lib.hid hWq
      clear hx hy hT cB dB hWq
      have hlt' : (k : Int) < (n : Int) := by omega
      go_wp2
      go_quiet (fail)
      have HQ : Hid (Wq.drewN nq = W.drewN (q + nq)) := by
        show _ = _
        rw [← HWq.out, World.drewN_drewN]
      clear c0 c1 c2 d0 d1 d2 t1 t2 HWq
      generalize Wq.drewN nq = W2 at *
      go_wp2
      go_roundw
      case rel => first | exact ⟨k + 1, q + nq, by omega, by go_num, HQ.out⟩ | ((repeat apply Exists.intro); exact ⟨⟨k + 1, q + nq, by omega, by go_num, HQ.out⟩, rfl⟩)
      case measure => (show n - ((k : Int) + 1).toNat < n - k; omega)
    · obtain rfl : k = n := by omega
      go_wp2
      go_ret
      exact ⟨rfl, codec.below_draws (Below.refl _ _) q⟩
theorem scanF_length (l : List Nat) : ∀ f i t, i + (scanF l f i t).1.length ≤ max i l.length := by
  intro f
  induction f with
  | zero => intro i t; rw [scanF]; simp; omega
  | succ f ih =>
    intro i t
    rw [scanF]
    by_cases hi : i < l.length
    · rw [if_pos hi]
      by_cases hr : rightB (l.drop i) = true
      · rw [if_pos hr]
        by_cases ht : l.length < i + 44 + numOf4 (l.drop i)
        · rw [if_pos ht]
          simp
          omega
        · rw [if_neg ht]
          have := ih (i + 44 + numOf4 (l.drop i)) (i + 44 + numOf4 (l.drop i))
          simp only []
          split
          · simp only [List.length_cons]
            omega
          · omega
      · rw [if_neg hr]
        have := ih (i + 1) t
        omega
    · rw [if_neg hi]
      simp
      omega
theorem scan_length (l : List Nat) : (scan l 0 0).1.length ≤ l.length := by
  have := scanF_length l (l.length - 0) 0 0
  unfold scan
  omega
end Go.Proofs.YtbgnhjmijcpffaaDoor.frm
