/- What the small parts of a disk answer. -/
import Derived.Test.YtedhbcaakdfcbaaF
namespace Go.Proofs.Ytedhbcaakdfcbaa.disk
open Go.ChangeShapes Go.WideShapes Go.ChangeAt Go.RowKit Go.Maps Go.WideMaps
set_option linter.unusedVariables false
set_option linter.unusedSimpArgs false

theorem power_any {w : World} {base p : Nat} {mb : Option Nat} {D : DataW Value} {c : Cfg} {fm : FM} {N : Nat} (h : Dsk w base p mb D c fm N) :
    Calls Try.prog 44 #[.pointer (some ⟨p, 0, none⟩)] w fun e w' => e = .returned (.int .i64 (if c.lost then 6 else 0)) ∧ w = w' := by
  obtain ⟨d0, d1, d2, d3, d4, d5, hf, hlt⟩ := h.facts
  clear h
  cases hl : c.lost with
  | true =>
    rw [hl] at d5
    go_enter Try.func44, Try.ntmps44
    go_wp2
    go_ret
    exact ⟨rfl, rfl⟩
  | false =>
    rw [hl] at d5
    go_enter Try.func44, Try.ntmps44
    go_wp2
    go_ret
    exact ⟨rfl, rfl⟩
/-- A cell of the disk's own is another. -/
theorem dsk_own {w : World} {base p j : Nat} {mb : Option Nat} {D : DataW Value} {c c' : Cfg} {fm : FM} {N : Nat} {v : Value} (h : Dsk w base p mb D c fm N)
    (hj : (#[.int .i64 c.cap, .int .i64 c.used, .map mb, .bool c.fused, .int .i64 c.fuse, .bool c.lost] : Array Value).setIfInBounds j v = #[.int .i64 c'.cap, .int .i64 c'.used, .map mb, .bool c'.fused, .int .i64 c'.fuse, .bool c'.lost]) : Dsk (w.setCell ⟨p, j, none⟩ v) base p mb D c' fm N := by
  have hg : w.grownBy (w.setCell ⟨p, j, none⟩ v) (some p) := ⟨rfl, rfl, rfl, by simp, fun k _ hk => heap_setCell_other _ _ _ _ (by simpa using hk)⟩
  refine ⟨?_, h.pb, h.nomap, fun b e => ?_, h.held, h.isMap, h.sz, h.has, h.none_, fun s f e => (h.file s f e).kept hg (blk_ne (h.np s)), h.np, h.nb, h.apart, h.short⟩
  · rw [heap_setCell_same _ p j _ 54 _ h.head, hj]
  · obtain ⟨h1, h2, h3⟩ := h.map b e
    exact ⟨h1, h2, h3.kept hg (by simpa using h2)⟩
/-- What a change does to the fuse: whether the power goes. -/
def goes (c : Cfg) : Bool := c.fused && !(decide (0 < c.fuse))
def burnt (c : Cfg) : Cfg := if c.fused then (if 0 < c.fuse then { c with fuse := wrap64 (c.fuse - 1) } else { c with lost := true }) else c
set_option maxRecDepth 20000 in
theorem powerGoes_any {w : World} {base p : Nat} {mb : Option Nat} {D : DataW Value} {c : Cfg} {fm : FM} {N : Nat} (h : Dsk w base p mb D c fm N) :
    Calls Try.prog 41 #[.pointer (some ⟨p, 0, none⟩)] w fun e w' => e = .returned (.bool (goes c)) ∧ Dsk w' base p mb D (burnt c) fm N ∧ Touch (fun k => k = p) w w' := by
  obtain ⟨d0, d1, d2, d3, d4, d5, hf, hlt⟩ := h.facts
  have hf4 := hf 4
  have hf5 := hf 5
  have HD := Lib.hid h
  obtain ⟨cap, used, fused, fuse, lost⟩ := c
  simp only at d3 d4 d5
  clear h hf d0 d1 d2
  cases fused with
  | false =>
    go_enter Try.func41, Try.ntmps41
    go_wp2
    go_ret
    exact ⟨rfl, HD.out, Touch.refl _ _⟩
  | true =>
    by_cases h0 : 0 < fuse
    · have HB : Hid (burnt ⟨cap, used, true, fuse, lost⟩ = ⟨cap, used, true, wrap64 (fuse - 1), lost⟩ ∧ goes ⟨cap, used, true, fuse, lost⟩ = false) := by
        exact ⟨by simp [burnt, h0], by simp [goes, h0]⟩
      go_enter Try.func41, Try.ntmps41
      go_wp2
      go_ret
      refine ⟨by rw [HB.out.2]; rfl, ?_, (Touch.refl (fun k => k = p) w).setCell ⟨p, 4, none⟩ (.inr rfl) _⟩
      rw [HB.out.1]
      exact dsk_own HD.out rfl
    · have HB : Hid (burnt ⟨cap, used, true, fuse, lost⟩ = ⟨cap, used, true, fuse, true⟩ ∧ goes ⟨cap, used, true, fuse, lost⟩ = true) := by
        exact ⟨by simp [burnt, h0], by simp [goes, h0]⟩
      go_enter Try.func41, Try.ntmps41
      go_wp2
      go_ret
      refine ⟨by rw [HB.out.2]; rfl, ?_, (Touch.refl (fun k => k = p) w).setCell ⟨p, 5, none⟩ (.inr rfl) _⟩
      rw [HB.out.1]
      exact dsk_own HD.out rfl
set_option maxRecDepth 20000 in
theorem made_any (w : World) (A : Option Addr) (n cp : Nat) : Calls Try.prog 43 #[.slice A n cp] w fun e w' => e = .returned (.agg #[.slice A n cp, .int .i64 (n : Nat), .bool true]) ∧ Below w.heap.size w w' := by
  go_enter Try.func43, Try.ntmps43
  go_wp2
  refine bodyPost_ret (v := .agg #[.slice A n cp, .int .i64 (n : Nat), .bool true]) (by simp [results, Try.results43, go_sem]) rfl ⟨rfl, ?_⟩
  exact (Below.refl _ _).alloc (Nat.le_refl _) _
set_option maxRecDepth 20000 in
theorem whole_any (w : World) (A : Option Addr) (n cp sf : Nat) (ev : Bool) : Calls Try.prog 38 #[.agg #[.slice A n cp, .int .i64 (sf : Nat), .bool ev]] w fun e w' => e = .returned (.bool (ev && decide (sf = n))) ∧ Below w.heap.size w w' := by
  cases ev with
  | false =>
    go_enter Try.func38, Try.ntmps38
    go_wp2
    go_ret
    exact ⟨rfl, (Below.refl _ _).alloc (Nat.le_refl _) _⟩
  | true =>
    have hd : ((sf : Int) == (n : Int)) = decide (sf = n) := by
      by_cases e : sf = n
      · simp [e]
      · have : ¬ ((sf : Int) = (n : Int)) := by omega
        simp [e, this]
    go_enter Try.func38, Try.ntmps38
    go_wp2
    go_ret
    exact ⟨by rw [Bool.true_and, ← hd]; rfl, (Below.refl _ _).alloc (Nat.le_refl _) _⟩

set_option maxRecDepth 20000 in
set_option maxHeartbeats 1000000 in
theorem find_lost {w : World} {base p : Nat} {mb : Option Nat} {D : DataW Value} {c : Cfg} {fm : FM} {N : Nat} (h : Dsk w base p mb D c fm N) (s : ByteArray) (hl : c.lost = true) :
    Calls Try.prog 37 #[.pointer (some ⟨p, 0, none⟩), .string s] w fun e w' => e = .returned (.tuple #[noFile, .int .i64 6]) ∧ Below w.heap.size w w' := by
  have HP := Lib.hid (fun (w1 : World) (hb : Below w.heap.size w w1) => power_any (h.below hb))
  rw [hl] at HP
  simp only [if_true] at HP
  clear h
  go_enter Try.func37, Try.ntmps37
  go_wp2_with (go_at_call 44; refine (HP.out _ ((Below.refl _ _).alloc (Nat.le_refl _) _)).mono ?_; rintro e w1 ⟨rfl, rfl⟩)
  refine bodyPost_ret (v := .tuple #[noFile, .int .i64 6]) (by simp [results, Try.results37, go_sem]) rfl ⟨rfl, ?_⟩
  exact (Below.refl _ _).alloc (Nat.le_refl _) _
set_option maxRecDepth 20000 in
set_option maxHeartbeats 1000000 in
theorem find_none {w : World} {base p : Nat} {mb : Option Nat} {D : DataW Value} {c : Cfg} {fm : FM} {N : Nat} (h : Dsk w base p mb D c fm N) (s : ByteArray) (hs : s.size ≤ maxLen) (hl : c.lost = false) (hk : fm s.data.toList = none) :
    Calls Try.prog 37 #[.pointer (some ⟨p, 0, none⟩), .string s] w fun e w' => e = .returned (.tuple #[noFile, .int .i64 7]) ∧ Below w.heap.size w w' := by
  have HP := Lib.hid (fun (w1 : World) (hb : Below w.heap.size w w1) => power_any (h.below hb))
  rw [hl] at HP
  simp only [Bool.false_eq_true, if_false] at HP
  have hw1 : Below w.heap.size w (w.alloc (.cells #[.slice none 0 0, .int .i64 0, .bool false] 64)) := (Below.refl _ _).alloc (Nat.le_refl _) _
  have hlk := ((h.below hw1).look s hs).2
  rw [h.none_ _ hk, h.has, hk] at hlk
  obtain ⟨d0, d1, d2, d3, d4, d5, hf, hlt⟩ := (h.below hw1).facts
  clear h hf d0 d1 d3 d4 d5 hw1
  simp only [Option.isSome_none] at hlk
  go_enter Try.func37, Try.ntmps37
  go_wp2_with (go_at_call 44; refine (HP.out _ ((Below.refl _ _).alloc (Nat.le_refl _) _)).mono ?_; rintro e w1 ⟨rfl, rfl⟩)
  refine bodyPost_ret (v := .tuple #[noFile, .int .i64 7]) (by simp [results, Try.results37, go_sem]) rfl ⟨rfl, ?_⟩
  exact ((Below.refl _ _).alloc (Nat.le_refl _) _).alloc (by simp) _
set_option maxRecDepth 20000 in
set_option maxHeartbeats 1000000 in
theorem find_some {w : World} {base p : Nat} {mb : Option Nat} {D : DataW Value} {c : Cfg} {fm : FM} {N : Nat} (h : Dsk w base p mb D c fm N) (s : ByteArray) (hs : s.size ≤ maxLen) (hl : c.lost = false) (f : File) (hk : fm s.data.toList = some f) :
    Calls Try.prog 37 #[.pointer (some ⟨p, 0, none⟩), .string s] w fun e w' => e = .returned (.tuple #[At D s.data.toList, .int .i64 0]) ∧ Below w.heap.size w w' := by
  have HP := Lib.hid (fun (w1 : World) (hb : Below w.heap.size w w1) => power_any (h.below hb))
  rw [hl] at HP
  simp only [Bool.false_eq_true, if_false] at HP
  have hw1 : Below w.heap.size w (w.alloc (.cells #[.slice none 0 0, .int .i64 0, .bool false] 64)) := (Below.refl _ _).alloc (Nat.le_refl _) _
  have hlk := ((h.below hw1).look s hs).2
  obtain ⟨A, n, cp, sf, ev, hat, hn⟩ := h.form s.data.toList
  clear hn
  rw [h.has, hk, hat] at hlk
  rw [hat]
  obtain ⟨d0, d1, d2, d3, d4, d5, hf, hlt⟩ := (h.below hw1).facts
  clear h hf d0 d1 d3 d4 d5 hw1
  simp only [Option.isSome_some] at hlk
  go_enter Try.func37, Try.ntmps37
  go_wp2_with (go_at_call 44; refine (HP.out _ ((Below.refl _ _).alloc (Nat.le_refl _) _)).mono ?_; rintro e w1 ⟨rfl, rfl⟩)
  refine bodyPost_ret (v := .tuple #[.agg #[.slice A n cp, .int .i64 (sf : Nat), .bool ev], .int .i64 0]) (by simp [results, Try.results37, go_sem]) rfl ⟨rfl, ?_⟩
  exact ((Below.refl _ _).alloc (Nat.le_refl _) _).alloc (by simp) _
end Go.Proofs.Ytedhbcaakdfcbaa.disk
