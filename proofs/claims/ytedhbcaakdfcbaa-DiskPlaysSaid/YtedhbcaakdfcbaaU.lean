/- Read, Safe, Lost. -/
import Derived.Test.YtedhbcaakdfcbaaR
namespace Go.Proofs.Ytedhbcaakdfcbaa.disk
open Go.ChangeShapes Go.WideShapes Go.ChangeAt Go.RowKit Go.Maps Go.WideMaps
set_option linter.unusedVariables false
set_option linter.unusedSimpArgs false

/-- Bytes of one's own are bytes. -/
theorem bytes_of_own {w : World} {base : Nat} {A : Option Addr} {n cp : Nat} {l : List Nat} (h : w.ownsRow base 5 1 (.slice A n cp) l.length (vals l)) (h256 : ∀ x ∈ l, x < 256) (hn : n = l.length) : Bytes w A n l := by
  refine ⟨hn.symm, h256, fun h0 => ?_⟩
  rcases h.2 with ⟨e, h1⟩ | ⟨g, cap, cur, e, hb, hg, hc, hm, hs, ht⟩
  · cases e; omega
  · cases e
    refine ⟨g, 0, rfl, fun i hi => ?_⟩
    have hv : (vals l)[i]? = some (.int .u8 (l.getD i 0 : Nat)) := by
      have hi' : i < l.length := by omega
      simp [vals, List.getD, List.getElem?_eq_getElem hi']
    have h2 : cur[i]? = (vals l)[i]? := by
      rw [← ht, List.getElem?_take, if_pos (by omega)]
      simp
    simp [World.cell?, hg, h2, hv]
set_option maxRecDepth 50000 in
set_option maxHeartbeats 4000000 in
theorem read_stop {w : World} {base p : Nat} {mb : Option Nat} {D : DataW Value} {c : Cfg} {fm : FM} {N : Nat} (s : ByteArray) (hs : s.size ≤ 281474976710656) (h : Dsk w base p mb D c fm N) (hstop : c.lost = true ∨ fm s.data.toList = none) :
    ∃ r : Int, (r == 0) = false ∧ Calls Try.prog 16 #[.pointer (some ⟨p, 0, none⟩), .string s] w fun e w' => e = .returned (.tuple #[.slice none 0 0, .int .i64 r]) ∧ Below w.heap.size w w' := by
  obtain ⟨r, hr, h37⟩ := find_stop h s (by unfold maxLen; omega) hstop
  refine ⟨r, hr, ?_⟩
  have H37 := Lib.hid h37
  clear h37 h
  go_enter Try.func16, Try.ntmps16
  go_wp2_with (go_at_call 37; refine H37.out.mono ?_; rintro e w1 ⟨rfl, hb⟩; have HB := Lib.hid hb; clear hb)
  go_ret2
  exact ⟨rfl, HB.out.trans (((Below.refl _ _).alloc (Nat.le_refl _) _).mono HB.out.size)⟩
set_option maxRecDepth 50000 in
set_option maxHeartbeats 4000000 in
theorem read_some {w : World} {base p : Nat} {mb : Option Nat} {D : DataW Value} {c : Cfg} {fm : FM} {N : Nat} (s : ByteArray) (hs : s.size ≤ 281474976710656) (h : Dsk w base p mb D c fm N) (hl : c.lost = false) (f : File) (hf : fm s.data.toList = some f) (hm : f.l.length ≤ 1000000) :
    Calls Try.prog 16 #[.pointer (some ⟨p, 0, none⟩), .string s] w fun e w' => ∃ g, e = .returned (.tuple #[.slice (some ⟨g, 0, none⟩) f.l.length f.l.length, .int .i64 0]) ∧ w.heap.size ≤ g ∧ w'.heap[g]? = some (.cells (vals f.l).toArray 5 (0, 0)) ∧ Below w.heap.size w w' := by
  obtain ⟨A, n, cp, hat, hown, h256, hsf, hn, hcp⟩ := h.whole s.data.toList
  have h37 := find_some h s (by unfold maxLen; omega) hl f hf
  rw [hat] at h37
  have hfe := fileAt_some hf
  rw [hfe] at hown h256 hsf hn h37
  have hB := bytes_of_own hown h256 hn
  rw [← hn]
  have H37 := Lib.hid h37
  have H34 : Hid (∀ w2, Below w.heap.size w w2 → Calls Try.prog 34 #[.slice A n cp] w2 fun e w' => e = .returned (.slice (some ⟨w2.heap.size, 0, none⟩) n n) ∧ w' = w2.alloc (.cells (vals f.l).toArray 5)) := fun w2 hb => copied_any w2 A n cp f.l (hB.below (fun ad e h0 => hB.lt ad e h0) hb) (by omega)
  clear h37 h hat hown h256 hsf hn hcp hfe hf hB
  go_enter Try.func16, Try.ntmps16
  go_wp2_with (first | (go_at_call 37; refine H37.out.mono ?_; rintro e w1 ⟨rfl, hb⟩; have HB := Lib.hid (hb.trans (((Below.refl w1.heap.size w1).alloc (Nat.le_refl _) (.cells #[.slice A n cp, .int .i64 (f.safe : Nat), .bool f.ever] 64)).mono hb.size)); clear hb) | (go_at_call 34; refine (H34.out _ HB.out).mono ?_; rintro e w2 ⟨rfl, rfl⟩))
  go_ret2
  have hz : (w1.alloc (.cells #[.slice A n cp, .int .i64 (f.safe : Nat), .bool f.ever] 64)).heap.size = w1.heap.size + 1 := Array.size_push _
  refine ⟨w1.heap.size + 1, rfl, by have := HB.out.size; omega, by have := heap_alloc_new (w1.alloc (.cells #[.slice A n cp, .int .i64 (f.safe : Nat), .bool f.ever] 64)) (.cells (vals f.l).toArray 5); rw [hz] at this; exact this, HB.out.trans (((Below.refl _ _).alloc (Nat.le_refl _) _).mono HB.out.size)⟩
set_option maxRecDepth 50000 in
set_option maxHeartbeats 4000000 in
theorem safe_any {w : World} {base p : Nat} {mb : Option Nat} {D : DataW Value} {c : Cfg} {fm : FM} {N : Nat} (s : ByteArray) (hs : s.size ≤ 281474976710656) (h : Dsk w base p mb D c fm N) :
    Calls Try.prog 17 #[.pointer (some ⟨p, 0, none⟩), .string s] w fun e w' => e = .returned (.bool ((fileAt fm s.data.toList).ever && decide ((fileAt fm s.data.toList).safe = (fileAt fm s.data.toList).l.length))) ∧ Below w.heap.size w w' := by
  obtain ⟨d0, d1, d2, d3, d4, d5, hfz, hlt⟩ := h.facts
  obtain ⟨A, n, cp, hat, hown, h256, hsf, hn, hcp⟩ := h.whole s.data.toList
  have hlk := (h.look s (by unfold maxLen; omega)).1
  rw [hat] at hlk
  rw [← hn]
  clear h hat hown h256 hsf hn hcp d0 d1 d3 d4 d5 hfz
  go_enter Try.func17, Try.ntmps17
  go_wp2_with (go_at_call 38; refine (whole_any _ _ _ _ _ _).mono ?_; rintro e w2 ⟨rfl, hb2⟩; have HB := Lib.hid hb2; clear hb2)
  go_ret
  exact ⟨rfl, HB.out⟩
set_option maxRecDepth 50000 in
theorem lost_any {w : World} {base p : Nat} {mb : Option Nat} {D : DataW Value} {c : Cfg} {fm : FM} {N : Nat} (h : Dsk w base p mb D c fm N) :
    Calls Try.prog 19 #[.pointer (some ⟨p, 0, none⟩)] w fun e w' => e = .returned (.bool c.lost) ∧ ∃ q, w' = w.drewN q := by
  obtain ⟨d0, d1, d2, d3, d4, d5, hfz, hlt⟩ := h.facts
  clear h d0 d1 d2 d3 d4 hfz
  go_enter Try.func19, Try.ntmps19
  go_wp2
  go_ret
  exact ⟨rfl, 0, rfl⟩
end Go.Proofs.Ytedhbcaakdfcbaa.disk
