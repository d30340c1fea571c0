/- Texts: what the document says of one, how an Out takes one, and how an In gives one; how many bytes an In has left. -/
import Derived.Test.YtklmbiekpilkhaaGreatDoorCodI
import Derived.Test.YtklmbiekpilkhaaGreatDoorRd
import Derived.Lib.AppendStr
namespace Go.Proofs.YtklmbiekpilkhaaGreatDoor.codec
open Go.ChangeShapes Go.WideShapes Go.ChangeAt Go.RowKit
set_option linter.unusedVariables false
set_option maxRecDepth 100000
set_option linter.unusedSimpArgs false

theorem text_new {w w1 w2 : World} {l : List Nat} {v : Value} {S : Nat} (hl : ∀ x ∈ l, x < 256) (hb : Below w.heap.size w w1) (hS : S = w.heap.size) (ho : w2.ownsRow w.heap.size 5 1 v (2 + (strOf l).size) (vals (bytesOf l.length 2) ++ Lib.strCells (strOf l)))
    (hg : w1.grownBy w2 (some S)) (hn : v = .slice none 0 0 ↔ Value.slice (some ⟨S, 0, none⟩) 2 2 = .slice none 0 0 ∧ (strOf l).size = 0) : New w (bytesOf l.length 2 ++ l) v w2 := by
  rw [strOf_size, strCells_of l hl, ← vals_append] at ho
  have hln : (bytesOf l.length 2 ++ l).length = 2 + l.length := by simp [bytesOf]
  have hkk : Below w.heap.size w w2 := hb.trans ⟨hg.os, hg.tape, hg.output, hg.size, fun k hk => hg.block k (Nat.lt_of_lt_of_le hk hb.size) (fun e => by have := Option.some.inj e; omega)⟩
  rcases ho.2 with ⟨e, _⟩ | ⟨g, cap, cur, e, hbg, _⟩
  · exact absurd (hn.1 e).1 (by simp)
  · subst e
    rw [← hln] at ho ⊢
    exact ⟨g, cap, rfl, hbg, hkk, own_bytes' ho rfl (all_lt (bytesOf_lt _ _) hl)⟩
theorem str_bytes (w : World) (l : List Nat) (hl : ∀ x ∈ l, x < 256) : Bytes (Lib.bytesWorld w 5 (strOf l)) (some ⟨w.heap.size, 0, none⟩) l.length l ∧ Below w.heap.size w (Lib.bytesWorld w 5 (strOf l)) := by
  refine ⟨⟨rfl, hl, fun _ => ⟨_, 0, rfl, fun i hi => ?_⟩⟩, rfl, rfl, rfl, by rw [Lib.bytesWorld_size]; omega, fun k hk => Lib.bytesWorld_at_old w 5 _ k hk⟩
  rw [Nat.zero_add, Lib.bytesWorld_cell w 5 _ i (by rw [strOf_size]; exact hi)]
  have hx := hl (l.getD i 0) (by simp [List.getD, hi])
  simp [strOf, List.getD, hi] at hx ⊢
  omega
set_option maxHeartbeats 1000000 in
theorem outText_good (w : World) (p : Nat) (M F l : List Nat) (h : OutIs w p M F) (hM : M.length ≤ 5000000) (hl : ∀ x ∈ l, x < 256) (hn : l.length ≤ 65535) :
    Calls Tryz.prog 24 #[.pointer (some ⟨p, 0, none⟩), .string (strOf l)] w fun e w' => e = .returned (.tuple #[]) ∧ More w p (M ++ (bytesOf l.length 2 ++ l)) F w' := by
  have HN := Lib.hid (outN_good w p M F (l.length : Nat) 2 h (by omega) ⟨by decide, by decide, by omega, by simp; omega⟩)
  have hcv := fun w' => Lib.run_convert_string_bytes (P := Tryz.prog) w' 9 22 5 (strOf l) Tryz.underlying9 Tryz.underlying22 Tryz.underlying5
  have hsz := strOf_size l
  have HL := Lib.hid hl
  generalize hs : strOf l = s at *
  have HS := Lib.hid hs
  clear h hl hs
  go_enter Tryz.func24, Tryz.ntmps24
  go_wp2_with fail
  refine HN.out.mono ?_
  rintro e w1 ⟨rfl, hm⟩
  rw [Int.toNat_natCast, show Int.toNat 2 = 2 from rfl] at hm
  obtain ⟨F1, o1, t1, s1⟩ := hm
  have HG := Lib.hid o1.good
  have HT1 := Lib.hid (And.intro t1 s1)
  have HSB := Lib.hid (str_bytes w1 l HL.out)
  rw [HS.out] at HSB
  have HP := Lib.hid (fun (F1 : List Nat) (c : Nat) (h : OutIs (Lib.bytesWorld w1 5 s) p (M ++ bytesOf l.length 2) F1) (hk : ∀ k ∈ F1, k < w1.heap.size) => put_any (Lib.bytesWorld w1 5 s) p _ F1 (some ⟨w1.heap.size, 0, none⟩) l.length c l h HSB.out.1 (by simp [bytesOf]; omega) (fun e => by cases e) (fun ad e _ hF => by cases e; exact absurd (hk _ hF) (Nat.lt_irrefl _)))
  have HF1 := Lib.hid (And.intro (o1.below HSB.out.2) o1.lt)
  clear o1 t1 s1
  go_wp2_with (first | (go_at_call 51; refine (takes_true _ _ HG.out).mono ?_; rintro e w2 ⟨rfl, rfl⟩) | (go_at_call 52; refine (HP.out F1 _ HF1.out.1 HF1.out.2).mono ?_; rintro e w3 ⟨rfl, hm3⟩; have HM3 := Lib.hid hm3; clear hm3))
  go_end0
  refine ⟨rfl, ?_⟩
  have hm3 := HM3.out
  rw [List.append_assoc] at hm3
  exact more_two HT1.out.1 HT1.out.2 HSB.out.2 hm3
end Go.Proofs.YtklmbiekpilkhaaGreatDoor.codec
namespace Go.Proofs.YtklmbiekpilkhaaGreatDoor.rd
open Go.ChangeShapes Go.WideShapes Go.ChangeAt Go.RowKit
open Go.Proofs.YtklmbiekpilkhaaGreatDoor.codec (Bytes vals bytesOf strOf InIs BadIn numOf)
set_option maxRecDepth 100000

theorem rd_Text {W w : World} {q g : Nat} {L : Option (List Nat)} (h : Rd W q g L w) :
    Calls Tryz.prog 17 #[.pointer (some ⟨q, 0, none⟩)] w fun e w' => e = .returned (.string (strOf (got (numOf (got 2 L)) (rest 2 L)))) ∧ Rd W q g (rest (numOf (got 2 L)) (rest 2 L)) w' ∧ ∃ w1, codec.Touch (fun i => i = q) w w1 ∧ codec.Touch (fun i => i = q) w1 w' := by
  have HN := Lib.hid (rd_N h 2 (by decide) (by decide))
  have hnx := fun w1 (h1 : Rd W q g (rest 2 L) w1) => rd_next h1 (numOf (got 2 L))
  have hcv := fun (A : Option Addr) (n c : Nat) (l : List Nat) (w' : World) (hB : Bytes w' A n l) => hB.text c
  generalize numOf (got 2 L) = k at *
  generalize rest 2 L = L1 at *
  generalize got k L1 = S at *
  generalize rest k L1 = L2 at *
  have HX := Lib.hid hnx; have HC := Lib.hid hcv
  clear h hnx hcv
  go_enter Tryz.func17, Tryz.ntmps17
  go_wp2_with (go_at_call 18; refine HN.out.mono ?_; rintro e w1 ⟨rfl, hR1, ht1⟩; have HR1 := Lib.hid hR1; have HT1 := Lib.hid ht1; clear hR1 ht1)
  obtain ⟨A, n, c, hn, hn2, hB, hC⟩ := HX.out w1 HR1.out
  refine hC.mono ?_
  rintro e w2 ⟨rfl, hR2⟩
  have hcv := HC.out A n c S w2 (hB w2 hR2)
  have HR2 := Lib.hid hR2
  clear hC hR2 hB hn hn2
  go_wp2
  go_ret
  exact ⟨rfl, HR2.out.1, w1, HT1.out, HR2.out.2⟩
def leftN : Option (List Nat) → Nat
  | some l => l.length
  | none => 0
theorem rd_Left {W w : World} {q g : Nat} {L : Option (List Nat)} (h : Rd W q g L w) :
    Calls Tryz.prog 63 #[.pointer (some ⟨q, 0, none⟩)] w fun e w' => e = .returned (.int .i64 (leftN L : Nat)) ∧ w = w' := by
  cases L with
  | none =>
    obtain ⟨h0, h1, hlt⟩ := h.1.facts
    clear h
    go_enter Tryz.func63, Tryz.ntmps63
    go_wp2
    go_ret
    exact ⟨rfl, rfl⟩
  | some l =>
    obtain ⟨o, c, hi, hc⟩ := h.1
    obtain ⟨h0, h1, hf, hlt⟩ := hi.facts
    clear h hi
    go_enter Tryz.func63, Tryz.ntmps63
    go_wp2
    go_ret
    exact ⟨rfl, rfl⟩
end Go.Proofs.YtklmbiekpilkhaaGreatDoor.rd
