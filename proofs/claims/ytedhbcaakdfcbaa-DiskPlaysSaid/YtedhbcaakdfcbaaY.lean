/- New. -/
import Derived.Test.YtedhbcaakdfcbaaX
namespace Go.Proofs.Ytedhbcaakdfcbaa.disk
open Go.ChangeShapes Go.WideShapes Go.ChangeAt Go.RowKit Go.Maps Go.WideMaps Go.Sort Go.Shelf
set_option linter.unusedVariables false
set_option linter.unusedSimpArgs false

theorem dsk_fresh {w : World} {B p : Nat} {c : Cfg} {N : Nat} (hp : w.heap[p]? = some (.cells #[.int .i64 c.cap, .int .i64 c.used, .map none, .bool c.fused, .int .i64 c.fuse, .bool c.lost] 54 (0, 0))) (hB : B ≤ p) :
    Dsk w B p none (.map []) c (fun _ => none) N := by
  have hat : ∀ s, At (.map []) s = noFile := fun s => rfl
  refine ⟨hp, hB, fun e => rfl, fun b' e => (by cases e), fun s => ⟨noFile, rfl⟩, ⟨[], rfl⟩, Nat.zero_le _, fun s => rfl, fun s _ => hat s, fun s f e => (by cases e), fun s e => (by rw [hat] at e; simp [blk, Value.ownBlock] at e), fun s b e1 e => (by cases e1), fun s s' g e => (by rw [hat] at e; simp [blk, Value.ownBlock] at e), fun s e => (by cases e)⟩
set_option maxRecDepth 50000 in
set_option maxHeartbeats 1000000 in
theorem new_ok (w : World) (cap : Int) (h0 : 0 ≤ cap) (h1 : cap ≤ 4194304) :
    Calls Try.prog 8 #[.int .i64 cap] w fun e w' => e = .returned (.tuple #[.pointer (some ⟨w.heap.size, 0, none⟩), .int .i64 0]) ∧ Dsk w' w.heap.size w.heap.size none (.map []) ⟨cap, 0, false, 0, false⟩ (fun _ => none) 0 ∧ Below w.heap.size w w' := by
  have h0' : ¬ cap < 0 := by omega
  have h1' : ¬ 4194304 < cap := by omega
  go_enter Try.func8, Try.ntmps8
  go_wp2
  go_ret2
  exact ⟨rfl, dsk_fresh (heap_alloc_new w _) (Nat.le_refl _), (Below.refl _ _).alloc (Nat.le_refl _) _⟩
set_option maxRecDepth 50000 in
set_option maxHeartbeats 1000000 in
theorem new_bad (w : World) (cap : Int) (h : cap < 0 ∨ 4194304 < cap) :
    Calls Try.prog 8 #[.int .i64 cap] w fun e w' => e = .returned (.tuple #[.pointer none, .int .i64 1]) ∧ Below w.heap.size w w' := by
  go_enter Try.func8, Try.ntmps8
  go_wp2
  all_goals
    go_ret2
    exact ⟨rfl, Below.refl _ _⟩
set_option maxRecDepth 50000 in
set_option maxHeartbeats 1000000 in
theorem sync_none {w : World} {base p : Nat} {mb : Option Nat} {D : DataW Value} {c : Cfg} {fm : FM} {N : Nat} (s : ByteArray) (hs : s.size ≤ 281474976710656) (h : Dsk w base p mb D c fm N) (hl : c.lost = false) (hf : fm s.data.toList = none) :
    Calls Try.prog 20 #[.pointer (some ⟨p, 0, none⟩), .string s] w fun e w' => e = .returned (.int .i64 7) ∧ Below w.heap.size w w' := by
  have hpl := h.facts.2.2.2.2.2.2.2
  have H37 := Lib.hid (find_none h s (by unfold maxLen; omega) hl hf)
  clear h hl hf
  go_enter Try.func20, Try.ntmps20
  go_wp2_with (go_at_call 37; refine H37.out.mono ?_; rintro e w1 ⟨rfl, hb⟩; have HB := Lib.hid hb; clear hb)
  go_ret
  exact ⟨rfl, HB.out.trans (((Below.refl _ _).alloc (Nat.le_refl _) _).mono HB.out.size)⟩
set_option maxRecDepth 50000 in
set_option maxHeartbeats 4000000 in
theorem awake_any (w : World) : Calls Try.prog 6 #[] w fun e w' => e = .returned (.bool true) ∧ Below w.heap.size w w' := by
  have HN := Lib.hid (new_ok w 9 (by decide) (by decide))
  go_enter Try.func6, Try.ntmps6
  go_wp2_with (go_at_call 8; refine HN.out.mono ?_; rintro e w1 ⟨rfl, hd, hb⟩; have HD := Lib.hid hd; have HB := Lib.hid hb; clear hd hb)
  have H15 := Lib.hid (show Calls Try.prog 15 #[.pointer (some ⟨w.heap.size, 0, none⟩)] w1 fun e w' => e = .returned (.int .i64 9) ∧ ∃ q2, w' = w1.drewN q2 from (room_any HD.out).mono (fun e w' h => ⟨h.1.trans (congrArg (fun z => Ending.returned (.int .i64 z)) (IntWalk.wrap64_in 9 (by decide))), h.2⟩))
  have H20 := Lib.hid (show ∀ q, Calls Try.prog 20 #[.pointer (some ⟨w.heap.size, 0, none⟩), .string ⟨#[97]⟩] (w1.drewN q) fun e w' => e = .returned (.int .i64 7) ∧ Below w1.heap.size (w1.drewN q) w' from fun q => sync_none ⟨#[97]⟩ (by decide) (HD.out.drewN q) rfl rfl)
  clear HN
  go_wp2_with (first | (go_at_call 15; refine H15.out.mono ?_; rintro e w2 ⟨rfl, q, rfl⟩) | (go_at_call 20; refine (H20.out _).mono ?_; rintro e w3 ⟨rfl, hb3⟩; have HB3 := Lib.hid hb3; clear hb3))
  go_ret
  exact ⟨rfl, (below_draws HB.out q).trans (HB3.out.mono HB.out.size)⟩
end Go.Proofs.Ytedhbcaakdfcbaa.disk
