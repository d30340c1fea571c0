/- Rename: exactly. -/
import Derived.Test.YthhflkgngencdaaGreatDoorMa17
import Derived.Test.YthhflkgngencdaaGreatDoorMa00
import Derived.IntWalk
import Derived.Test.YthhflkgngencdaaGreatDoorMa14
namespace Go.Proofs.YthhflkgngencdaaGreatDoor.dis
open Go.Proofs.YthhflkgngencdaaGreatDoor.codec
open Go.ChangeShapes Go.WideShapes Go.ChangeAt Go.RowKit Go.Maps Go.WideMaps
set_option linter.unusedVariables false
set_option linter.unusedSimpArgs false

/-- Rename. -/
def fRename (c : Cfg) (fm : FM) (k t : List UInt8) : Cfg × FM × Int :=
  if c.lost then (c, fm, 6) else if nameB t = false ∨ k = t then (c, fm, 1) else match fm k with
  | none => (c, fm, 7)
  | some f => if ¬ Whole f then (c, fm, 10) else if goes c then (burnt c, fm, 6) else (cPut (cDrop (burnt c) fm k) (erase fm k) t f, upd (erase fm k) t f, 0)
theorem str_eqB (s t : ByteArray) : (s.toList == t.toList) = decide (s.data.toList = t.data.toList) := by
  rw [ByteArray.toList_eq, ByteArray.toList_eq]
  by_cases h : s.data.toList = t.data.toList
  · rw [decide_eq_true h]
    exact beq_iff_eq.2 h
  · rw [decide_eq_false h]
    exact beq_eq_false_iff_ne.2 h
set_option maxRecDepth 50000 in
set_option maxHeartbeats 4000000 in
theorem rename_exact (w : World) (base p : Nat) (mb : Option Nat) (D : DataW Value) (c : Cfg) (fm : FM) (N : Nat) (s t : ByteArray) (hs : s.size ≤ 281474976710656) (hts : t.size ≤ 281474976710656) (h : Dsk w base p mb D c fm N) (hN : N < 1000000) (hB : base ≤ w.heap.size) :
    Calls Tryz.prog 41 #[.pointer (some ⟨p, 0, none⟩), .string s, .string t] w (Does w base p mb D (N + 1) (fRename c fm s.data.toList t.data.toList)) := by
  have hpl := h.facts.2.2.2.2.2.2.2
  have HD := Lib.hid h
  have HBM : Hid (∀ b, mb = some b → b < w.heap.size) := fun b e => (h.map b e).2.2.lt
  have H44 := Lib.hid (power_any h)
  have H45 := Lib.hid (fun w' => isName_any w' t hts)
  have hst := str_eqB s t
  cases hl : c.lost with
  | true =>
    have he : fRename c fm s.data.toList t.data.toList = (c, fm, 6) := by simp [fRename, hl]
    rw [he]
    rw [hl] at H44
    clear h he
    go_enter Tryz.func41, Tryz.ntmps41
    go_wp2_with (go_at_call 42; refine H44.out.mono ?_; rintro e w1 ⟨rfl, rfl⟩)
    go_ret
    exact ⟨rfl, now_p HD.out (codec.Touch.refl _ _)⟩
  | false =>
    rw [hl] at H44
    cases hnb : nameB t.data.toList with
    | false =>
      have he : fRename c fm s.data.toList t.data.toList = (c, fm, 1) := by simp [fRename, hl, hnb]
      rw [he]
      clear h he hst
      go_enter Tryz.func41, Tryz.ntmps41
      go_wp2_with (first | (go_at_call 42; refine H44.out.mono ?_; rintro e w1 ⟨rfl, rfl⟩) | (go_at_call 81; refine (H45.out _).mono ?_; rw [hnb]; rintro e w1 ⟨rfl, rfl⟩))
      go_ret
      exact ⟨rfl, now_p HD.out (codec.Touch.refl _ _)⟩
    | true =>
      by_cases hk : s.data.toList = t.data.toList
      · have he : fRename c fm s.data.toList t.data.toList = (c, fm, 1) := by simp [fRename, hl, hk]
        rw [he]
        rw [decide_eq_true hk] at hst
        clear h he hk
        go_enter Tryz.func41, Tryz.ntmps41
        go_wp2_with (first | (go_at_call 42; refine H44.out.mono ?_; rintro e w1 ⟨rfl, rfl⟩) | (go_at_call 81; refine (H45.out _).mono ?_; rw [hnb]; rintro e w1 ⟨rfl, rfl⟩))
        go_ret
        exact ⟨rfl, now_p HD.out (codec.Touch.refl _ _)⟩
      · rw [decide_eq_false hk] at hst
        cases hf : fm s.data.toList with
        | none =>
          have he : fRename c fm s.data.toList t.data.toList = (c, fm, 7) := by simp [fRename, hl, hnb, hk, hf]
          rw [he]
          have H37 := Lib.hid (find_none h s (by unfold maxLen; omega) hl hf)
          have HS := Lib.hid (fun w' hb => now_below h (w' := w') hb)
          clear h hf he hk
          go_enter Tryz.func41, Tryz.ntmps41
          go_wp2_with (first | (go_at_call 42; refine H44.out.mono ?_; rintro e w1 ⟨rfl, rfl⟩) | (go_at_call 81; refine (H45.out _).mono ?_; rw [hnb]; rintro e w1 ⟨rfl, rfl⟩) | (go_at_call 46; refine H37.out.mono ?_; rintro e w1 ⟨rfl, hb⟩; have HB := Lib.hid hb; clear hb))
          go_ret
          exact ⟨rfl, HS.out _ (HB.out.trans (((Below.refl _ _).alloc (Nat.le_refl _) _).mono HB.out.size))⟩
        | some f =>
          obtain ⟨A, n, cp, hat, hown, h256, hsf, hn, hcp⟩ := h.whole s.data.toList
          have h37 := find_some h s (by unfold maxLen; omega) hl f hf
          rw [hat] at h37
          have H37 := Lib.hid h37
          have hfe : fileAt fm s.data.toList = f := fileAt_some hf
          have hwe : (f.ever && decide (f.safe = n)) = decide (Whole f) := by
            rw [hn, hfe]
            by_cases h1 : f.ever = true <;> by_cases h2 : f.safe = f.l.length <;> simp [Whole, h1, h2]
          rw [← hfe] at hwe
          have H47 : Hid (∀ (w3 : World) (c' : Cfg), Dsk w3 base p mb D c' fm N → Calls Tryz.prog 80 #[.pointer (some ⟨p, 0, none⟩), .string s] w3 fun e w' => e = .returned (.tuple #[]) ∧ Dsk w' base p mb (D.del (.string s.data.toList)) (cDrop c' fm s.data.toList) (erase fm s.data.toList) N ∧ Comes w' base p mb (D.del (.string s.data.toList)) t.data.toList (.agg #[.slice A n cp, .int .i64 ((fileAt fm s.data.toList).safe : Nat), .bool (fileAt fm s.data.toList).ever]) f ∧ codec.Touch (fun i => i = p ∨ mb = some i) w3 w') := by
            intro w3 c' h3
            refine (drop_any w3 base p mb D c' fm N s (by unfold maxLen; omega) h3).mono ?_
            rintro e w' ⟨rfl, q1, q2⟩
            have hc := comes_moved h3 s.data.toList t.data.toList f hf q2
            rw [hat] at hc
            exact ⟨rfl, q1, hc, q2⟩
          have H42 : Hid (∀ (w3 w4 : World) (c2 : Cfg), codec.Touch (fun j => j = p) w w3 → codec.Touch (fun i => i = p ∨ mb = some i) w3 w4 → Dsk w4 base p mb (D.del (.string s.data.toList)) c2 (erase fm s.data.toList) N → Comes w4 base p mb (D.del (.string s.data.toList)) t.data.toList (.agg #[.slice A n cp, .int .i64 ((fileAt fm s.data.toList).safe : Nat), .bool (fileAt fm s.data.toList).ever]) f →
              Calls Tryz.prog 83 #[.pointer (some ⟨p, 0, none⟩), .string t, .agg #[.slice A n cp, .int .i64 ((fileAt fm s.data.toList).safe : Nat), .bool (fileAt fm s.data.toList).ever]] w4 fun e w' => e = .returned (.tuple #[]) ∧ Now w base p mb D (cPut c2 (erase fm s.data.toList) t.data.toList f) (upd (erase fm s.data.toList) t.data.toList f) (N + 1) w') := by
            rintro w3 w4 c2 ht ht4 h4 hc
            refine (put_disk w4 base p mb _ c2 _ N t hts A n cp _ _ f h4 hc hN (Nat.le_trans hB (Nat.le_trans ht.2.2.2.1 ht4.2.2.2.1))).mono ?_
            rintro e w' ⟨rfl, mb', q1, q2, q3⟩
            have e2 : cPut c2 (erase fm s.data.toList) t.data.toList f = { c2 with used := wrap64 (wrap64 (c2.used - lenAt (erase fm s.data.toList) t.data.toList) + n) } := by
              unfold cPut
              rw [hn, hfe]
            rw [e2]
            refine ⟨rfl, now_put (isMap_del h.isMap _) ((ht.mono fun i _ e => .inl e).trans (ht4.mono fun i _ h => .inl (h.imp id .inl))) foot_del (Nat.le_refl _) q1 q2 q3 (fun g e => .inl (.inr (.inr ⟨s.data.toList, ?_⟩)))⟩
            rw [hat]
            exact e
          by_cases hw : Whole f
          · have hwh : ((fileAt fm s.data.toList).ever && decide ((fileAt fm s.data.toList).safe = n)) = true := by rw [hwe, hfe]; exact decide_eq_true hw
            cases hg : goes c with
            | true =>
              have he : fRename c fm s.data.toList t.data.toList = (burnt c, fm, 6) := by simp [fRename, hl, hnb, hk, hf, hw, hg]
              rw [he]
              clear h hat hown h256 hsf hcp h37 hn hf hfe he hk hwe hw
              go_enter Tryz.func41, Tryz.ntmps41
              go_wp2_with (first | (go_at_call 42; refine H44.out.mono ?_; rintro e w1 ⟨rfl, rfl⟩) | (go_at_call 81; refine (H45.out _).mono ?_; rw [hnb]; rintro e w1 ⟨rfl, rfl⟩) | (go_at_call 46; refine H37.out.mono ?_; rintro e w1 ⟨rfl, hb⟩; have HB := Lib.hid hb; have HD1 := Lib.hid ((HD.out.below hb).below ((Below.refl _ _).alloc (Nat.le_refl _) (.cells #[.slice A n cp, .int .i64 ((fileAt fm s.data.toList).safe : Nat), .bool (fileAt fm s.data.toList).ever] 93))); clear hb) | (go_at_call 43; refine (whole_any _ _ _ _ _ _).mono ?_; rw [hwh]; rintro e w2 ⟨rfl, hb2⟩; have hz2 := (hb2.block w1.heap.size (by simp)).trans (heap_alloc_new w1 _); have HD2 := Lib.hid (HD1.out.below hb2); have HT2 : Hid (codec.Touch (fun j => j = p) w w2) := ((touch_below HB.out).alloc _).below hb2; have HZ2 := Lib.hid hz2; clear hb2 hz2) | (go_at_call 79; refine (powerGoes_any HD2.out).mono ?_; rw [hg]; rintro e w3 ⟨rfl, hd3, ht3⟩; have hz3 := (ht3.2.2.2.2 w1.heap.size (Array.getElem?_eq_some_iff.1 HZ2.out).1 (by have := HB.out.size; omega)).trans HZ2.out; have HZ3 := Lib.hid hz3; have HD3 := Lib.hid hd3; have HT3 : Hid (codec.Touch (fun j => j = p) w w3) := HT2.out.trans (ht3.mono fun i _ e => .inl e); clear hd3 ht3 hz3))
              go_ret
              exact ⟨rfl, now_p HD3.out HT3.out⟩
            | false =>
              have he : fRename c fm s.data.toList t.data.toList = (cPut (cDrop (burnt c) fm s.data.toList) (erase fm s.data.toList) t.data.toList f, upd (erase fm s.data.toList) t.data.toList f, 0) := by simp [fRename, hl, hnb, hk, hf, hw, hg]
              rw [he]
              clear h hat hown h256 hsf hcp h37 hn hf hfe he hk hwe hw
              go_enter Tryz.func41, Tryz.ntmps41
              go_wp2_with (first | (go_at_call 42; refine H44.out.mono ?_; rintro e w1 ⟨rfl, rfl⟩) | (go_at_call 81; refine (H45.out _).mono ?_; rw [hnb]; rintro e w1 ⟨rfl, rfl⟩) | (go_at_call 46; refine H37.out.mono ?_; rintro e w1 ⟨rfl, hb⟩; have HB := Lib.hid hb; have HD1 := Lib.hid ((HD.out.below hb).below ((Below.refl _ _).alloc (Nat.le_refl _) (.cells #[.slice A n cp, .int .i64 ((fileAt fm s.data.toList).safe : Nat), .bool (fileAt fm s.data.toList).ever] 93))); clear hb) | (go_at_call 43; refine (whole_any _ _ _ _ _ _).mono ?_; rw [hwh]; rintro e w2 ⟨rfl, hb2⟩; have hz2 := (hb2.block w1.heap.size (by simp)).trans (heap_alloc_new w1 _); have HD2 := Lib.hid (HD1.out.below hb2); have HT2 : Hid (codec.Touch (fun j => j = p) w w2) := ((touch_below HB.out).alloc _).below hb2; have HZ2 := Lib.hid hz2; clear hb2 hz2) | (go_at_call 79; refine (powerGoes_any HD2.out).mono ?_; rw [hg]; rintro e w3 ⟨rfl, hd3, ht3⟩; have hz3 := (ht3.2.2.2.2 w1.heap.size (Array.getElem?_eq_some_iff.1 HZ2.out).1 (by have := HB.out.size; omega)).trans HZ2.out; have HZ3 := Lib.hid hz3; have HD3 := Lib.hid hd3; have HT3 : Hid (codec.Touch (fun j => j = p) w w3) := HT2.out.trans (ht3.mono fun i _ e => .inl e); clear hd3 ht3 hz3) | (go_at_call 80; refine (H47.out _ _ HD3.out).mono ?_; rintro e w4 ⟨rfl, hd4, hc4, ht4⟩; have hz4 := (ht4.2.2.2.2 w1.heap.size (Array.getElem?_eq_some_iff.1 HZ3.out).1 (by have := HB.out.size; have := HBM.out; rintro (e | e); omega; exact absurd (this _ e) (by omega))).trans HZ3.out; obtain ⟨x0, x1, x2⟩ := box_cells hz4; have HD4 := Lib.hid hd4; have HC4 := Lib.hid hc4; have HT4 := Lib.hid ht4; clear hd4 hc4 ht4 hz4) | (go_at_call 83; refine (H42.out _ _ _ HT3.out HT4.out HD4.out HC4.out).mono ?_; rintro e w5 ⟨rfl, haft⟩; have HA := Lib.hid haft; clear haft))
              go_ret
              exact ⟨rfl, HA.out⟩
          · have hwh : ((fileAt fm s.data.toList).ever && decide ((fileAt fm s.data.toList).safe = n)) = false := by rw [hwe, hfe]; exact decide_eq_false hw
            have he : fRename c fm s.data.toList t.data.toList = (c, fm, 10) := by simp [fRename, hl, hnb, hk, hf, hw]
            rw [he]
            clear h hat hown h256 hsf hcp h37 hn hf hfe he hk hwe hw
            go_enter Tryz.func41, Tryz.ntmps41
            go_wp2_with (first | (go_at_call 42; refine H44.out.mono ?_; rintro e w1 ⟨rfl, rfl⟩) | (go_at_call 81; refine (H45.out _).mono ?_; rw [hnb]; rintro e w1 ⟨rfl, rfl⟩) | (go_at_call 46; refine H37.out.mono ?_; rintro e w1 ⟨rfl, hb⟩; have HB := Lib.hid hb; have HD1 := Lib.hid ((HD.out.below hb).below ((Below.refl _ _).alloc (Nat.le_refl _) (.cells #[.slice A n cp, .int .i64 ((fileAt fm s.data.toList).safe : Nat), .bool (fileAt fm s.data.toList).ever] 93))); clear hb) | (go_at_call 43; refine (whole_any _ _ _ _ _ _).mono ?_; rw [hwh]; rintro e w2 ⟨rfl, hb2⟩; have hz2 := (hb2.block w1.heap.size (by simp)).trans (heap_alloc_new w1 _); have HD2 := Lib.hid (HD1.out.below hb2); have HT2 : Hid (codec.Touch (fun j => j = p) w w2) := ((touch_below HB.out).alloc _).below hb2; have HZ2 := Lib.hid hz2; clear hb2 hz2))
            go_ret
            exact ⟨rfl, now_p HD2.out HT2.out⟩
end Go.Proofs.YthhflkgngencdaaGreatDoor.dis
namespace Go.Proofs.YthhflkgngencdaaGreatDoor.dis
open Go.Proofs.YthhflkgngencdaaGreatDoor.codec
open Go.ChangeShapes Go.WideShapes Go.ChangeAt Go.RowKit Go.Maps Go.WideMaps Go.Sort Go.Shelf
set_option linter.unusedVariables false
set_option linter.unusedSimpArgs false

theorem dsk_fresh {w : World} {B p : Nat} {c : Cfg} {N : Nat} (hp : w.heap[p]? = some (.cells #[.int .i64 c.cap, .int .i64 c.used, .map none, .bool c.fused, .int .i64 c.fuse, .bool c.lost] 61 (0, 0))) (hB : B ≤ p) :
    Dsk w B p none (.map []) c (fun _ => none) N := by
  have hat : ∀ s, At (.map []) s = noFile := fun s => rfl
  refine ⟨hp, hB, fun e => rfl, fun b' e => (by cases e), fun s => ⟨noFile, rfl⟩, ⟨[], rfl⟩, Nat.zero_le _, fun s => rfl, fun s _ => hat s, fun s f e => (by cases e), fun s e => (by rw [hat] at e; simp [blk, Value.ownBlock] at e), fun s b e1 e => (by cases e1), fun s s' g e => (by rw [hat] at e; simp [blk, Value.ownBlock] at e), fun s e => (by cases e)⟩
set_option maxRecDepth 50000 in
set_option maxHeartbeats 1000000 in
theorem new_ok (w : World) (cap : Int) (h0 : 0 ≤ cap) (h1 : cap ≤ 4194304) :
    Calls Tryz.prog 7 #[.int .i64 cap] w fun e w' => e = .returned (.tuple #[.pointer (some ⟨w.heap.size, 0, none⟩), .int .i64 0]) ∧ Dsk w' w.heap.size w.heap.size none (.map []) ⟨cap, 0, false, 0, false⟩ (fun _ => none) 0 ∧ Below w.heap.size w w' := by
  have h0' : ¬ cap < 0 := by omega
  have h1' : ¬ 4194304 < cap := by omega
  go_enter Tryz.func7, Tryz.ntmps7
  go_wp2
  go_ret2
  exact ⟨rfl, dsk_fresh (heap_alloc_new w _) (Nat.le_refl _), (Below.refl _ _).alloc (Nat.le_refl _) _⟩
end Go.Proofs.YthhflkgngencdaaGreatDoor.dis
namespace Go.Proofs.YthhflkgngencdaaGreatDoor.sto
open Go.Proofs.YthhflkgngencdaaGreatDoor.codec (Bytes)
open Go.ChangeShapes Go.WideShapes Go.ChangeAt Go.RowKit Go.Maps Go.WideMaps Go.Sort Go.Shelf
open Go.Proofs.YthhflkgngencdaaGreatDoor.dis (Dsk Cfg FM File Foot Now Does Listed fAppend fSync fRename)
set_option linter.unusedVariables false
set_option maxRecDepth 100000
set_option linter.unusedSimpArgs false

/-- Whether a name is among those of a row. -/
theorem has_name {w : World} {B : Nat} {v : Value} {ns : List (List UInt8)} (h : w.ownsRow B 9 1 v ns.length (ns.map encStr)) (hn : ns.length ≤ 1000000) (s : ByteArray) :
    Calls Tryz.prog 37 #[v, .string s] w fun e w' => e = .returned (.bool (decide (s.data.toList ∈ ns))) ∧ w' = w := by
  rcases h.2 with ⟨e, h0⟩ | ⟨g, cap, cur, e, hB, hg, hc, hm, hs, ht⟩
  · subst e
    obtain rfl : ns = [] := List.eq_nil_of_length_eq_zero h0
    refine (Tryz.slices_Contains_string_empty none 0 s w).mono ?_
    rintro e w' ⟨rfl, rfl⟩
    exact ⟨by simp, rfl⟩
  · subst e
    refine (Tryz.slices_Contains_string g 0 ns.length cap (ns.map fun x => (⟨x.toArray⟩ : ByteArray)) s w (by simp) (by omega) ?_).mono ?_
    · intro j hj
      rw [List.length_map] at hj
      have := h.cells (g := g) rfl j (encStr ns[j]) (by simp [hj])
      rw [codec.add_none] at this
      rw [this]
      simp [hj, List.getD, dis.encStr_def]
    · rintro e w' ⟨rfl, rfl⟩
      refine ⟨?_, rfl⟩
      congr 2
      rw [Bool.eq_iff_iff, Lib.containsS_iff, decide_eq_true_iff, List.take_of_length_le (by simp), List.mem_map]
      constructor
      · rintro ⟨x, hx, rfl⟩
        simpa using hx
      · intro hx
        exact ⟨_, hx, by simp⟩

theorem listed_len {w : World} {base p : Nat} {mb : Option Nat} {D : DataW Value} {c : Cfg} {fm : FM} {N : Nat} (h : Dsk w base p mb D c fm N) {ns : List (List UInt8)} (hL : Listed fm ns) : ns.length ≤ N := by
  have e := hL.same (dis.listed_of h (List.Perm.refl _))
  rw [e, List.length_mergeSort]
  exact Nat.le_trans (dis.keys_le h) h.sz
/-- The disk as it is now; of what lay beside it then, all is as it was. -/
structure Kept (ws : World) (F : Nat → Prop) (base p : Nat) (c : Cfg) (fm : FM) (N : Nat) (w : World) : Prop where
  ex : ∃ mb D, Dsk w base p mb D c fm N ∧ (∀ j, Foot p mb D j → F j ∨ ws.heap.size ≤ j)
  ht : codec.Touch F ws w
theorem Kept.start {w : World} {base p : Nat} {mb : Option Nat} {D : DataW Value} {c : Cfg} {fm : FM} {N : Nat} (h : Dsk w base p mb D c fm N) : Kept w (Foot p mb D) base p c fm N w :=
  ⟨⟨mb, D, h, fun j hj => .inl hj⟩, codec.Touch.refl _ _⟩
theorem Kept.below {ws w w' : World} {F : Nat → Prop} {base p : Nat} {c : Cfg} {fm : FM} {N : Nat} (h : Kept ws F base p c fm N w) (hb : Below w.heap.size w w') : Kept ws F base p c fm N w' := by
  obtain ⟨mb, D, h1, h2⟩ := h.ex
  exact ⟨⟨mb, D, h1.below hb, h2⟩, h.ht.below hb⟩
theorem Kept.up {ws w : World} {F : Nat → Prop} {base p : Nat} {c : Cfg} {fm : FM} {N N' : Nat} (h : Kept ws F base p c fm N w) (hN : N ≤ N') : Kept ws F base p c fm N' w := by
  obtain ⟨mb, D, h1, h2⟩ := h.ex
  exact ⟨⟨mb, D, h1.up hN, h2⟩, h.ht⟩
theorem Kept.now {ws w w' : World} {F : Nat → Prop} {base p : Nat} {mb : Option Nat} {D : DataW Value} {c' : Cfg} {fm' : FM} {N' : Nat} (ht : codec.Touch F ws w) (hf : ∀ j, Foot p mb D j → F j ∨ ws.heap.size ≤ j) (h : Now w base p mb D c' fm' N' w') : Kept ws F base p c' fm' N' w' := by
  obtain ⟨mb', D', h1, h2, h3⟩ := h
  refine ⟨⟨mb', D', h1, fun j hj => ?_⟩, ht.trans (h2.mono fun i hi h => hf i h)⟩
  rcases h3 j hj with h | h
  · exact hf j h
  · exact .inr (Nat.le_trans ht.2.2.2.1 h)
theorem Kept.does {ws w : World} {F : Nat → Prop} {base p : Nat} {c : Cfg} {fm : FM} {N N' : Nat} {r : Cfg × FM × Int} {f : FuncId} {args : Array Value} (h : Kept ws F base p c fm N w)
    (hc : ∀ mb D, Dsk w base p mb D c fm N → Calls Tryz.prog f args w (Does w base p mb D N' r)) : Calls Tryz.prog f args w fun e w' => e = .returned (.int .i64 r.2.2) ∧ Kept ws F base p r.1 r.2.1 N' w' := by
  obtain ⟨mb, D, h1, h2⟩ := h.ex
  refine (hc mb D h1).mono ?_
  rintro e w' ⟨he, hn⟩
  exact ⟨he, Kept.now h.ht h2 hn⟩
theorem Kept.heap {ws w : World} {F : Nat → Prop} {base p : Nat} {c : Cfg} {fm : FM} {N : Nat} (h : Kept ws F base p c fm N w) {k : Nat} (hk : k < ws.heap.size) (hF : ¬ F k) : w.heap[k]? = ws.heap[k]? := h.ht.2.2.2.2 k hk hF
theorem Kept.bytes {ws w : World} {F : Nat → Prop} {base p : Nat} {c : Cfg} {fm : FM} {N : Nat} {A : Option Addr} {n : Nat} {l : List Nat} (h : Kept ws F base p c fm N w) (hB : Bytes ws A n l) (hF : ∀ ad, A = some ad → 0 < n → ¬ F ad.block) : Bytes w A n l :=
  hB.kept fun ad e hn => h.heap (hB.lt ad e hn) (hF ad e hn)
theorem Kept.size {ws w : World} {F : Nat → Prop} {base p : Nat} {c : Cfg} {fm : FM} {N : Nat} (h : Kept ws F base p c fm N w) : ws.heap.size ≤ w.heap.size := h.ht.2.2.2.1
theorem Kept.base {ws w : World} {F : Nat → Prop} {base p : Nat} {c : Cfg} {fm : FM} {N : Nat} (h : Kept ws F base p c fm N w) : base ≤ w.heap.size := by
  obtain ⟨mb, D, h1, -⟩ := h.ex
  have := h1.pb
  have := h1.facts.2.2.2.2.2.2.2
  omega
/-- It is beside the disk. -/
def Beside (ws : World) (F : Nat → Prop) (A : Option Addr) (n : Nat) : Prop := ∀ ad, A = some ad → 0 < n → ad.block < ws.heap.size ∧ ¬ F ad.block
theorem Kept.away {ws w : World} {F : Nat → Prop} {base p : Nat} {mb : Option Nat} {D : DataW Value} {c : Cfg} {fm : FM} {N : Nat} {A : Option Addr} {n : Nat} (h1 : Dsk w base p mb D c fm N) (hf : ∀ j, Foot p mb D j → F j ∨ ws.heap.size ≤ j) (h : Beside ws F A n) : ∀ ad, A = some ad → 0 < n → ad.block ≠ p := by
  intro ad e hn he
  obtain ⟨q1, q2⟩ := h ad e hn
  rcases hf p (.inl rfl) with h | h
  · exact q2 (he ▸ h)
  · omega
/-- Laid, where there is no file new. -/
def fLay (c : Cfg) (fm : FM) (s : List UInt8) (L : List Nat) : Cfg × FM × Int :=
  if (fAppend c fm nwK L).2.2 ≠ 0 then fAppend c fm nwK L else
  if (fSync (fAppend c fm nwK L).1 (fAppend c fm nwK L).2.1 nwK).2.2 ≠ 0 then fSync (fAppend c fm nwK L).1 (fAppend c fm nwK L).2.1 nwK else
  fRename (fSync (fAppend c fm nwK L).1 (fAppend c fm nwK L).2.1 nwK).1 (fSync (fAppend c fm nwK L).1 (fAppend c fm nwK L).2.1 nwK).2.1 nwK s
def nwS : ByteArray := ⟨#[110, 101, 119]⟩
set_option maxHeartbeats 4000000 in
theorem lay_any {ws w : World} {F : Nat → Prop} {base p : Nat} {c : Cfg} {fm : FM} {N M : Nat} (h : Kept ws F base p c fm N w) (hnew : fm nwK = none) (hM : ∀ s f, fm s = some f → f.l.length ≤ M)
    (s : ByteArray) (hs : s.size ≤ 281474976710656) (B : Option Addr) (m cb : Nat) (L : List Nat) (hL : Bytes w B m L) (hbe : Beside ws F B m) (hnil : B = none → cb = 0) (hmc : m ≤ cb) (hN : N + 3 < 1000000) (hbound : M + m ≤ 1000000) :
    Calls Tryz.prog 15 #[.pointer (some ⟨p, 0, none⟩), .string s, .slice B m cb] w fun e w' => e = .returned (.int .i64 (fLay c fm s.data.toList L).2.2) ∧ Kept ws F base p (fLay c fm s.data.toList L).1 (fLay c fm s.data.toList L).2.1 (N + 3) w' := by
  have HNm : Hid (Calls Tryz.prog 21 #[.pointer (some ⟨p, 0, none⟩)] w fun e w' => ∃ v, e = .returned v ∧ Below w.heap.size w w' ∧ Calls Tryz.prog 37 #[v, .string nwS] w' fun e w2 => e = .returned (.bool false) ∧ w2 = w') := Lib.hid (by
    obtain ⟨mb, D, h1, h2⟩ := h.ex
    refine (dis.names_any h1 (by omega)).mono ?_
    rintro e w' ⟨v, ns, rfl, hl, hr, -, hb⟩
    refine ⟨v, rfl, hb, ?_⟩
    have := has_name hr (by have := listed_len h1 hl; omega) nwS
    rwa [show decide (nwS.data.toList ∈ ns) = false from decide_eq_false (fun hh => by
      have := (hl.mem _).1 hh
      rw [show nwS.data.toList = nwK from rfl, hnew] at this
      cases this)] at this)
  have HAp : Hid (∀ w1, Below w.heap.size w w1 → Calls Tryz.prog 39 #[.pointer (some ⟨p, 0, none⟩), .string nwS, .slice B m cb] w1 fun e w' => e = .returned (.int .i64 (fAppend c fm nwK L).2.2) ∧ Kept ws F base p (fAppend c fm nwK L).1 (fAppend c fm nwK L).2.1 (N + 1) w') := Lib.hid (fun w1 hb => by
    have hk := h.below hb
    obtain ⟨mb, D, h1, h2⟩ := hk.ex
    refine (dis.append_exact w1 base p mb D c fm N M nwS (by decide) B m cb L h1 hM (hL.below hL.lt hb) (Kept.away h1 h2 hbe) hnil hmc (by omega) hk.base hbound).mono ?_
    rintro e w' ⟨he, hn⟩
    exact ⟨he, Kept.now hk.ht h2 hn⟩)
  have HSy : Hid (∀ c1 fm1 w1, Kept ws F base p c1 fm1 (N + 1) w1 → Calls Tryz.prog 40 #[.pointer (some ⟨p, 0, none⟩), .string nwS] w1 fun e w' => e = .returned (.int .i64 (fSync c1 fm1 nwK).2.2) ∧ Kept ws F base p (fSync c1 fm1 nwK).1 (fSync c1 fm1 nwK).2.1 (N + 2) w') :=
    Lib.hid (fun c1 fm1 w1 hk => hk.does fun mb D hd => dis.sync_exact w1 base p mb D c1 fm1 (N + 1) nwS (by decide) hd (by omega) hk.base)
  have HRn : Hid (∀ c1 fm1 w1, Kept ws F base p c1 fm1 (N + 2) w1 → Calls Tryz.prog 41 #[.pointer (some ⟨p, 0, none⟩), .string nwS, .string s] w1 fun e w' => e = .returned (.int .i64 (fRename c1 fm1 nwK s.data.toList).2.2) ∧ Kept ws F base p (fRename c1 fm1 nwK s.data.toList).1 (fRename c1 fm1 nwK s.data.toList).2.1 (N + 3) w') :=
    Lib.hid (fun c1 fm1 w1 hk => hk.does fun mb D hd => dis.rename_exact w1 base p mb D c1 fm1 (N + 2) nwS s (by decide) hs hd (by omega) hk.base)
  clear h hnew hM hL hbe hnil hmc hN hbound
  unfold fLay
  generalize fAppend c fm nwK L = r1 at *
  obtain ⟨c1, fm1, e1⟩ := r1
  simp only at HAp ⊢
  by_cases h1 : e1 = 0
  · subst h1
    simp only [ne_eq, not_true_eq_false, if_false]
    generalize hr2 : fSync c1 fm1 nwK = r2 at *
    have HSy2 := Lib.hid (fun w1 hk => HSy.out c1 fm1 w1 hk)
    rw [hr2] at HSy2
    clear HSy hr2
    obtain ⟨c2, fm2, e2⟩ := r2
    simp only at HSy2 ⊢
    by_cases h2 : e2 = 0
    · subst h2
      simp only [not_true_eq_false, if_false]
      have HRn2 := Lib.hid (fun w1 hk => HRn.out c2 fm2 w1 hk)
      clear HRn
      generalize fRename c2 fm2 nwK s.data.toList = r3 at *
      go_enter Tryz.func15, Tryz.ntmps15
      go_wp2_with (first | (go_at_call 21; refine HNm.out.mono ?_; rintro e w1 ⟨v, rfl, hb, hcn⟩; have HB := Lib.hid hb; have HCn := Lib.hid hcn; clear hb hcn) | (go_at_call 37; refine HCn.out.mono ?_; rintro e w2 ⟨rfl, rfl⟩) | (go_at_call 39; refine (HAp.out _ HB.out).mono ?_; rintro e w3 ⟨rfl, hk⟩; have HK3 := Lib.hid hk; clear hk) | (go_at_call 40; refine (HSy2.out _ HK3.out).mono ?_; rintro e w4 ⟨rfl, hk⟩; have HK4 := Lib.hid hk; clear hk) | (go_at_call 41; refine (HRn2.out _ HK4.out).mono ?_; rintro e w5 ⟨rfl, hk⟩; have HK5 := Lib.hid hk; clear hk))
      go_ret
      exact ⟨rfl, HK5.out⟩
    · have h2' : (e2 != 0) = true := by rw [bne_iff_ne]; exact h2
      simp only [h2, not_false_eq_true, if_true]
      clear h2
      go_enter Tryz.func15, Tryz.ntmps15
      go_wp2_with (first | (go_at_call 21; refine HNm.out.mono ?_; rintro e w1 ⟨v, rfl, hb, hcn⟩; have HB := Lib.hid hb; have HCn := Lib.hid hcn; clear hb hcn) | (go_at_call 37; refine HCn.out.mono ?_; rintro e w2 ⟨rfl, rfl⟩) | (go_at_call 39; refine (HAp.out _ HB.out).mono ?_; rintro e w3 ⟨rfl, hk⟩; have HK3 := Lib.hid hk; clear hk) | (go_at_call 40; refine (HSy2.out _ HK3.out).mono ?_; rintro e w4 ⟨rfl, hk⟩; have HK4 := Lib.hid hk; clear hk))
      go_ret
      exact ⟨rfl, HK4.out.up (by omega)⟩
  · have h1' : (e1 != 0) = true := by rw [bne_iff_ne]; exact h1
    simp only [ne_eq, h1, not_false_eq_true, if_true]
    clear h1
    go_enter Tryz.func15, Tryz.ntmps15
    go_wp2_with (first | (go_at_call 21; refine HNm.out.mono ?_; rintro e w1 ⟨v, rfl, hb, hcn⟩; have HB := Lib.hid hb; have HCn := Lib.hid hcn; clear hb hcn) | (go_at_call 37; refine HCn.out.mono ?_; rintro e w2 ⟨rfl, rfl⟩) | (go_at_call 39; refine (HAp.out _ HB.out).mono ?_; rintro e w3 ⟨rfl, hk⟩; have HK3 := Lib.hid hk; clear hk))
    go_ret
    exact ⟨rfl, HK3.out.up (by omega)⟩
end Go.Proofs.YthhflkgngencdaaGreatDoor.sto
namespace Go.Proofs.YthhflkgngencdaaGreatDoor.sto
open Go.ChangeShapes Go.WideShapes Go.ChangeAt Go.RowKit
open Go.Proofs.YthhflkgngencdaaGreatDoor.dis
set_option linter.unusedVariables false
set_option linter.unusedSimpArgs false

/-- There is power, and no fuse; the numbers are small. -/
structure Calm (c : Cfg) : Prop where
  power : c.lost = false
  fuse : c.fused = false
  lo : -1000000000 ≤ c.used
  hi : c.used ≤ 1000000000
  c0 : 0 ≤ c.cap
  c1 : c.cap ≤ 10000000
def withU (c : Cfg) (u : Int) : Cfg := ⟨c.cap, u, c.fused, c.fuse, c.lost⟩
theorem Calm.goes {c : Cfg} (h : Calm c) : goes c = false := by simp [dis.goes, h.fuse]
theorem Calm.burnt {c : Cfg} (h : Calm c) : burnt c = c := by simp [dis.burnt, h.fuse]
theorem wrap_in {x : Int} (h0 : -4000000000 ≤ x) (h1 : x ≤ 4000000000) : wrap64 x = x := IntWalk.wrap64_in x (by omega)
theorem Calm.room {c : Cfg} (h : Calm c) : cRoom c = c.cap - c.used := by
  have := h.lo; have := h.hi; have := h.c0; have := h.c1
  exact wrap_in (by omega) (by omega)
theorem Calm.withU {c : Cfg} (h : Calm c) {u : Int} (h0 : -1000000000 ≤ u) (h1 : u ≤ 1000000000) : Calm (withU c u) := ⟨h.power, h.fuse, h0, h1, h.c0, h.c1⟩
theorem cPut_calm {c : Cfg} {fm : FM} {k : List UInt8} {f : File} (h : Calm c) (h1 : lenAt fm k ≤ 1000000000) (h2 : f.l.length ≤ 1000000000) : cPut c fm k f = withU c (c.used - lenAt fm k + f.l.length) := by
  have := h.lo; have := h.hi
  unfold cPut withU
  rw [wrap_in (x := c.used - lenAt fm k) (by omega) (by omega), wrap_in (by omega) (by omega)]
theorem cDrop_calm {c : Cfg} {fm : FM} {k : List UInt8} (h : Calm c) (h1 : lenAt fm k ≤ 1000000000) : cDrop c fm k = withU c (c.used - lenAt fm k) := by
  have := h.lo; have := h.hi
  unfold cDrop withU
  rw [wrap_in (by omega) (by omega)]
theorem upd_upd (fm : FM) (k : List UInt8) (f g : File) : upd (upd fm k f) k g = upd fm k g := by
  funext s
  unfold upd
  split <;> rfl
theorem upd_same (fm : FM) (k : List UInt8) (f : File) : upd fm k f k = some f := by simp [upd]
theorem upd_other (fm : FM) {k s : List UInt8} (f : File) (h : s ≠ k) : upd fm k f s = fm s := by simp [upd, h]
theorem len_at (fm : FM) (k : List UInt8) : lenAt fm k = (fileAt fm k).l.length := by
  unfold lenAt fileAt
  cases fm k <;> rfl
/-- A file that grows. -/
theorem append_calm {c : Cfg} {fm : FM} {k : List UInt8} {L : List Nat} (h : Calm c) (hk : nameB k = true) (hroom : c.used + L.length ≤ c.cap) (hl : (fileAt fm k).l.length ≤ 100000000) (hL : L.length ≤ 100000000) :
    fAppend c fm k L = (withU c (c.used + L.length), upd fm k (grown fm k L), 0) := by
  have hr := h.room
  unfold fAppend
  rw [h.power, hk, if_neg (by decide), if_neg (by decide), if_neg (by rw [hr]; omega), h.goes, if_neg (by decide), h.burnt, cPut_calm h (by rw [len_at]; omega) (by simp [grown]; omega)]
  refine Prod.ext (congrArg (withU c) ?_) rfl
  rw [len_at]
  simp only [grown, List.length_append]
  push_cast
  omega
theorem sync_calm {c : Cfg} {fm : FM} {k : List UInt8} {f : File} (h : Calm c) (hk : fm k = some f) (hl : f.l.length ≤ 100000000) : fSync c fm k = (c, upd fm k (allSafe f.l), 0) := by
  unfold fSync
  rw [h.power, if_neg (by decide), hk]
  simp only []
  rw [h.goes, if_neg (by decide), h.burnt, cPut_calm h (by simp [lenAt, hk]; omega) (by simp [allSafe]; omega)]
  congr 1
  have e : lenAt fm k = f.l.length := by simp [lenAt, hk]
  rw [e]
  simp only [allSafe]
  rw [show c.used - (f.l.length : Int) + (f.l.length : Int) = c.used by omega]
  rfl
theorem rename_calm {c : Cfg} {fm : FM} {k t : List UInt8} {f : File} (h : Calm c) (ht : nameB t = true) (hne : k ≠ t) (hk : fm k = some f) (hw : Whole f) (hl : f.l.length ≤ 100000000) (hl2 : lenAt fm t ≤ 100000000) :
    fRename c fm k t = (withU c (c.used - lenAt fm t), upd (erase fm k) t f, 0) := by
  have e : lenAt fm k = f.l.length := by simp [lenAt, hk]
  have e2 : lenAt (erase fm k) t = lenAt fm t := by simp [lenAt, erase, Ne.symm hne]
  have := h.lo; have := h.hi
  unfold fRename
  rw [h.power, if_neg (by decide), if_neg (by rw [ht]; simp [hne]), hk]
  simp only []
  rw [if_neg (by simp [hw]), h.goes, if_neg (by decide), h.burnt]
  have hc1 : Calm (withU c (c.used - f.l.length)) ∨ True := .inr trivial
  have q1 : cDrop c fm k = withU c (c.used - f.l.length) := by rw [cDrop_calm h (by omega), e]
  rw [q1]
  have q2 : cPut (withU c (c.used - f.l.length)) (erase fm k) t f = withU c (c.used - lenAt fm t) := by
    unfold cPut withU
    simp only [e2]
    rw [wrap_in (x := c.used - (f.l.length : Int) - (lenAt fm t : Int)) (by omega) (by omega), wrap_in (by omega) (by omega)]
    congr 1
    omega
  rw [q2]
/-- A file that is laid. -/
theorem lay_calm {c : Cfg} {fm : FM} {s : List UInt8} {L : List Nat} (h : Calm c) (hnew : fm nwK = none) (hs : nameB s = true) (hne : nwK ≠ s) (hroom : c.used + L.length ≤ c.cap) (hL : L.length ≤ 100000000) (hl : lenAt fm s ≤ 100000000) :
    fLay c fm s L = (withU c (c.used + L.length - lenAt fm s), upd fm s (allSafe L), 0) := by
  have := h.lo; have := h.hi; have := h.c1
  have hf : fileAt fm nwK = ⟨[], 0, false⟩ := by simp [fileAt, hnew]
  have e1 := append_calm (k := nwK) h (by decide) hroom (by rw [hf]; exact Nat.zero_le _) hL
  have hg : grown fm nwK L = ⟨L, 0, false⟩ := by simp [grown, hf]
  rw [hg] at e1
  have hc1 := h.withU (u := c.used + L.length) (by omega) (by omega)
  have e2 := sync_calm (k := nwK) hc1 (upd_same fm nwK ⟨L, 0, false⟩) hL
  simp only [] at e2
  rw [upd_upd] at e2
  have e4 : lenAt (upd fm nwK (allSafe L)) s = lenAt fm s := by simp [lenAt, upd, Ne.symm hne]
  have e3 := rename_calm (k := nwK) (t := s) hc1 hs hne (upd_same fm nwK (allSafe L)) ⟨rfl, rfl⟩ hL (by rw [e4]; exact hl)
  rw [e4] at e3
  unfold fLay
  rw [e1]
  simp only [ne_eq, not_true_eq_false, if_false]
  rw [e2]
  simp only [not_true_eq_false, if_false]
  rw [e3]
  refine Prod.ext rfl (Prod.ext ?_ rfl)
  funext x
  simp only []
  by_cases hx : x = s
  · subst hx
    simp [upd]
  · by_cases hn : x = nwK
    · subst hn
      simp [upd, erase, hx, hnew]
    · simp [upd, erase, hx, hn]
/-- What a file is that has grown by pieces. -/
def fmK (fm : FM) (s : List UInt8) (L : List Nat) (k : Nat) : FM := if k = 0 then fm else upd fm s ⟨(fileAt fm s).l ++ L, (fileAt fm s).safe, (fileAt fm s).ever⟩
theorem grown_calm {c : Cfg} {fm : FM} {s : List UInt8} {L M : List Nat} {k : Nat} (h : Calm c) (hk : k = 0 → L = []) (hs : nameB s = true) (hroom : c.used + L.length + M.length ≤ c.cap) (hl : (fileAt fm s).l.length ≤ 10000000) (hL : L.length ≤ 10000000) (hM : M.length ≤ 10000000) :
    fAppend (withU c (c.used + L.length)) (fmK fm s L k) s M = (withU c (c.used + (L ++ M).length), fmK fm s (L ++ M) (k + 1), 0) := by
  have := h.lo; have := h.hi; have := h.c1
  have hf : fileAt (fmK fm s L k) s = ⟨(fileAt fm s).l ++ L, (fileAt fm s).safe, (fileAt fm s).ever⟩ := by
    unfold fmK
    by_cases h0 : k = 0
    · rw [if_pos h0, hk h0]
      simp
    · rw [if_neg h0]
      simp [fileAt, upd]
  rw [append_calm (h.withU (by omega) (by omega)) hs (by show c.used + L.length + M.length ≤ c.cap; exact hroom) (by rw [hf]; simp; omega) (by omega)]
  refine Prod.ext ?_ (Prod.ext ?_ rfl)
  · show withU c (c.used + L.length + M.length) = withU c (c.used + (L ++ M).length)
    refine congrArg (withU c) ?_
    rw [List.length_append]
    push_cast
    omega
  · simp only []
    unfold grown
    rw [hf]
    unfold fmK
    rw [if_neg (Nat.succ_ne_zero k), List.append_assoc]
    by_cases h0 : k = 0
    · rw [if_pos h0]
    · rw [if_neg h0, upd_upd]
end Go.Proofs.YthhflkgngencdaaGreatDoor.sto
namespace Go.Proofs.YthhflkgngencdaaGreatDoor.sto
open Go.Proofs.YthhflkgngencdaaGreatDoor.codec (Bytes)
open Go.Proofs.YthhflkgngencdaaGreatDoor.row
open Go.ChangeShapes Go.WideShapes Go.ChangeAt Go.RowKit Go.Maps Go.WideMaps Go.Sort Go.Shelf
open Go.Proofs.YthhflkgngencdaaGreatDoor.dis (Dsk Cfg FM File Foot Now Does Listed fAppend fSync fRename nameB fileAt lenAt upd allSafe)
set_option linter.unusedVariables false
set_option maxRecDepth 100000
set_option linter.unusedSimpArgs false

set_option maxHeartbeats 2000000 in
theorem size_any (W : World) (B : Option Addr) (m d : Nat) (ps : List Pc) (hR : row.Rd cP 1 W B m ps) (hL : ∀ p ∈ ps, Lies W p) (hm : m ≤ 1000000) (ht : (all ps).length ≤ 1000000) (h256 : ∀ b ∈ all ps, b < 256) (A1 A2 : Option Addr) (m1 c1 m2 c2 : Nat) (h1 : m1 ≤ 1000000) (h2 : m2 ≤ 1000000) :
    Calls Tryz.prog 53 #[.agg #[.slice B m d, .slice A2 m2 c2, .slice A1 m1 c1]] W fun e w' => e = .returned (.int .i64 (((all ps).length + m2 + m1 : Nat) : Int)) ∧ Below W.heap.size W w' := by
  obtain ⟨W1, hW1⟩ : ∃ W1, W1 = W.alloc (.cells #[.slice B m d, .slice A2 m2 c2, .slice A1 m1 c1] 110) := ⟨_, rfl⟩
  have hb1 : Below W.heap.size W W1 := by rw [hW1]; exact (Below.refl _ _).alloc (Nat.le_refl _) _
  have hg1 : W1.heap[W.heap.size]? = some (.cells #[.slice B m d, .slice A2 m2 c2, .slice A1 m1 c1] 110 (0, 0)) := by rw [hW1]; exact heap_alloc_new W _
  have hlt := (Array.getElem?_eq_some_iff.1 hg1).1
  have HC := Lib.hid (fun w2 (hb2 : Below W1.heap.size W1 w2) => concat_any w2 B m d ps ((hR.below hb1).below hb2) (fun p hp => ((hL p hp).below hb1).below hb2) hm (by omega))
  have HW1 := Lib.hid hW1
  have HB1 := Lib.hid hb1
  have HCells : Hid (∀ w2 : World, w2.heap[W.heap.size]? = W1.heap[W.heap.size]? → w2.cell? ⟨W.heap.size, 0, none⟩ = some (.slice B m d) ∧ w2.cell? ⟨W.heap.size, 1, none⟩ = some (.slice A2 m2 c2) ∧ w2.cell? ⟨W.heap.size, 2, none⟩ = some (.slice A1 m1 c1)) := Lib.hid (fun w2 h => by
    rw [hg1] at h
    exact ⟨by simp only [World.cell?]; rw [h]; rfl, by simp only [World.cell?]; rw [h]; rfl, by simp only [World.cell?]; rw [h]; rfl⟩)
  have HLT := Lib.hid hlt
  have H256 := Lib.hid h256
  clear hW1 hb1 hg1 hR hL hlt
  go_enter Tryz.func53, Tryz.ntmps53
  go_wp2_with fail
  rw [← HW1.out]
  refine wp_region_noPanic ?_
  refine wp_region_held_drew (S := fun w' => w'.heap[W.heap.size]? = W1.heap[W.heap.size]?) (by kernel_rfl) rfl (fun hHeld => ?_)
  refine wpAnyH_take (i := 0) (v := ?_) rfl (by kernel_rfl) (by kernel_rfl) (by kernel_rfl) (fun _ _ _ h => h) (Or.inl ⟨by kernel_rfl, ?_⟩) hHeld ?_
  rotate_left
  · (intro w' hw'; obtain ⟨a0, a1, a2⟩ := HCells.out w' hw'; go_simp; first | done | with_reducible rfl)
  refine wpAnyH_take (i := 1) (v := ?_) rfl (by kernel_rfl) (by kernel_rfl) (by kernel_rfl) (fun _ _ _ h => h) (Or.inl ⟨by kernel_rfl, ?_⟩) hHeld ?_
  rotate_left
  · (intro w' hw'; obtain ⟨a0, a1, a2⟩ := HCells.out w' hw'; go_simp; first | done | with_reducible rfl)
  refine wpAnyH_take (i := 4) (v := ?_) rfl (by kernel_rfl) (by kernel_rfl) (by kernel_rfl) (fun _ _ _ h => h) (Or.inl ⟨by kernel_rfl, ?_⟩) hHeld ?_
  rotate_left
  · (intro w' hw'; obtain ⟨a0, a1, a2⟩ := HCells.out w' hw'; go_simp; first | done | with_reducible rfl)
  refine wpAnyH_take (i := 5) (v := ?_) rfl (by kernel_rfl) (by kernel_rfl) (by kernel_rfl) (fun _ _ _ h => h) (Or.inl ⟨by kernel_rfl, ?_⟩) hHeld ?_
  rotate_left
  · (intro w' hw'; obtain ⟨a0, a1, a2⟩ := HCells.out w' hw'; go_simp; first | done | with_reducible rfl)
  refine wpAnyH_take (i := 6) (v := ?_) rfl (by kernel_rfl) (by kernel_rfl) (by kernel_rfl) (fun _ _ _ h => h) (Or.inl ⟨by kernel_rfl, ?_⟩) hHeld ?_
  rotate_left
  · (intro w' hw'; obtain ⟨a0, a1, a2⟩ := HCells.out w' hw'; go_simp; first | done | with_reducible rfl)
  refine wpAnyH_take (i := 7) (v := ?_) rfl (by kernel_rfl) (by kernel_rfl) (by kernel_rfl) (fun _ _ _ h => h) (Or.inl ⟨by kernel_rfl, ?_⟩) hHeld ?_
  rotate_left
  · (intro w' hw'; obtain ⟨a0, a1, a2⟩ := HCells.out w' hw'; go_simp; first | done | with_reducible rfl)
  refine wpAnyH_take (i := 9) (v := ?_) rfl (by kernel_rfl) (by kernel_rfl) (by kernel_rfl) (fun _ _ _ h => h) (Or.inl ⟨by kernel_rfl, ?_⟩) hHeld ?_
  rotate_left
  · (intro w' hw'; obtain ⟨a0, a1, a2⟩ := HCells.out w' hw'; go_simp; first | done | with_reducible rfl)
  refine wpAnyH_take (i := 10) (v := ?_) rfl (by kernel_rfl) (by kernel_rfl) (by kernel_rfl) (fun _ _ _ h => h) (Or.inl ⟨by kernel_rfl, ?_⟩) hHeld ?_
  rotate_left
  · (intro w' hw'; obtain ⟨a0, a1, a2⟩ := HCells.out w' hw'; go_simp; first | done | with_reducible rfl)
  refine wpAnyH_take (i := 11) (v := ?_) rfl (by kernel_rfl) (by kernel_rfl) (by kernel_rfl) (fun _ _ _ h => h) (Or.inl ⟨by kernel_rfl, ?_⟩) hHeld ?_
  rotate_left
  · (intro w' hw'; obtain ⟨a0, a1, a2⟩ := HCells.out w' hw'; go_simp; first | done | with_reducible rfl)
  refine wpAnyH_take (i := 12) (v := ?_) rfl (by kernel_rfl) (by kernel_rfl) (by kernel_rfl) (fun _ _ _ h => h) (Or.inl ⟨by kernel_rfl, ?_⟩) hHeld ?_
  rotate_left
  · (intro w' hw'; obtain ⟨a0, a1, a2⟩ := HCells.out w' hw'; go_simp; first | done | with_reducible rfl)
  refine wpAnyH_ready (rs := [2]) (by kernel_rfl) (by simp) ?_
  refine AllReadyH.cons rfl (fun K hK => ?_) AllReadyH.nil
  go_simp
  refine (HC.out _ (codec.below_draws (Below.refl _ _) 1)).mono ?_
  rintro e w2 ⟨v, rfl, ho, hb2⟩
  have hb12 : Below W1.heap.size W1 w2 := (codec.below_draws (Below.refl _ _) 1).trans hb2
  have hh2 := hb12.block _ HLT.out
  obtain ⟨Av, cv, rfl, -, -, -, -⟩ := own_bytes ho H256.out
  have HB12 := Lib.hid hb12
  clear ho hb2 hb12
  go_wp2_with fail
  refine hK.out _ _ hh2 (fun hH1 => ?_)
  clear hK K hHeld
  refine wpAnyH_take (i := 3) (v := ?_) rfl (by kernel_rfl) (by kernel_rfl) (by kernel_rfl) (fun _ _ _ h => h) (Or.inl ⟨by kernel_rfl, ?_⟩) hH1 ?_
  rotate_left
  · (intro w' hw'; obtain ⟨a0, a1, a2⟩ := HCells.out w' hw'; go_simp; first | done | with_reducible rfl)
  refine wpAnyH_take (i := 8) (v := ?_) rfl (by kernel_rfl) (by kernel_rfl) (by kernel_rfl) (fun _ _ _ h => h) (Or.inl ⟨by kernel_rfl, ?_⟩) hH1 ?_
  rotate_left
  · (intro w' hw'; obtain ⟨a0, a1, a2⟩ := HCells.out w' hw'; go_simp; first | done | with_reducible rfl)
  refine wpAnyH_take (i := 13) (v := ?_) rfl (by kernel_rfl) (by kernel_rfl) (by kernel_rfl) (fun _ _ _ h => h) (Or.inl ⟨by kernel_rfl, ?_⟩) hH1 ?_
  rotate_left
  · (intro w' hw'; obtain ⟨a0, a1, a2⟩ := HCells.out w' hw'; go_simp; first | done | with_reducible rfl)
  refine wpAnyH_take (i := 14) (v := ?_) rfl (by kernel_rfl) (by kernel_rfl) (by kernel_rfl) (fun _ _ _ h => h) (Or.inl ⟨by kernel_rfl, ?_⟩) hH1 ?_
  rotate_left
  · (intro w' hw'; obtain ⟨a0, a1, a2⟩ := HCells.out w' hw'; go_simp; first | done | with_reducible rfl)
  refine wpAnyH_done (by kernel_rfl) ?_ _
  refine NoPanic.normal ?_
  go_simp
  have q1 : IntKind.i64.wrap (IntKind.i64.wrap ((all ps).length + m2) + m1) = (((all ps).length + m2 + m1 : Nat) : Int) := by
    rw [(IntWalk.i64_in ((((all ps).length : Nat) : Int) + (m2 : Int)) (by omega)), (IntWalk.i64_in ((((all ps).length : Nat) : Int) + (m2 : Int) + (m1 : Int)) (by omega))]
    push_cast
    rfl
  have HQ := Lib.hid q1
  clear q1
  go_wp2_with fail
  go_ret
  exact ⟨by rw [HQ.out]; rfl, HB1.out.trans (HB12.out.mono HB1.out.size)⟩
end Go.Proofs.YthhflkgngencdaaGreatDoor.sto
namespace Go.Proofs.YthhflkgngencdaaGreatDoor.sto
open Go.Proofs.YthhflkgngencdaaGreatDoor.codec (Bytes)
open Go.Proofs.YthhflkgngencdaaGreatDoor.row
open Go.ChangeShapes Go.WideShapes Go.ChangeAt Go.RowKit Go.Maps Go.WideMaps Go.Sort Go.Shelf
open Go.Proofs.YthhflkgngencdaaGreatDoor.dis (Dsk Cfg FM File Foot Now Does Listed fAppend fSync fRename nameB fileAt lenAt upd allSafe)
set_option linter.unusedVariables false
set_option maxRecDepth 100000
set_option linter.unusedSimpArgs false

/-- The disk's file behind what a log grows by. -/
def fmG (fm : FM) (s : List UInt8) (L : List Nat) (m : Nat) : FM := if m = 0 then fm else upd fm s (allSafe ((fileAt fm s).l ++ L))
theorem Kept.back {ws w w1 w' : World} {F : Nat → Prop} {base p : Nat} {mb : Option Nat} {D : DataW Value} {c' : Cfg} {fm' : FM} {N' : Nat} (ht : codec.Touch F ws w) (hf : ∀ j, Foot p mb D j → F j ∨ ws.heap.size ≤ j) (hb : Below w.heap.size w w1) (h : Kept w1 (Foot p mb D) base p c' fm' N' w') : Kept ws F base p c' fm' N' w' := by
  obtain ⟨mb', D', h1, h2⟩ := h.ex
  have hs : ws.heap.size ≤ w1.heap.size := Nat.le_trans ht.2.2.2.1 hb.size
  refine ⟨⟨mb', D', h1, fun j hj => ?_⟩, (ht.below hb).trans (h.ht.mono fun i _ h => hf i h)⟩
  rcases h2 j hj with h | h
  · exact hf j h
  · exact .inr (Nat.le_trans hs h)
theorem lg_name : ∀ k, k < 16 → nameB (lgK k) = true ∧ nameB (ixK k) = true ∧ nameB (fgK k) = true := by
  refine upto16 ?_ ?_ ?_ ?_ ?_ ?_ ?_ ?_ ?_ ?_ ?_ ?_ ?_ ?_ ?_ ?_ <;> decide
theorem fmK_bound {fm : FM} {s : List UInt8} {L : List Nat} {k M : Nat} (hM : ∀ x f, fm x = some f → f.l.length ≤ M) : ∀ x f, fmK fm s L k x = some f → f.l.length ≤ M + L.length := by
  intro x f h
  unfold fmK at h
  split at h
  · exact Nat.le_trans (hM x f h) (Nat.le_add_right _ _)
  · unfold upd at h
    split at h
    · cases h
      rw [List.length_append]
      have := dis.fileAt_bound (k := s) hM
      omega
    · exact Nat.le_trans (hM x f h) (Nat.le_add_right _ _)
set_option maxHeartbeats 4000000 in
/-- The frames go behind the log. -/
theorem grow_any {ws w : World} {F : Nat → Prop} {base p : Nat} {c : Cfg} {fm : FM} {N M : Nat} (h : Kept ws F base p c fm N w) (hcalm : Calm c) (hM : ∀ x f, fm x = some f → f.l.length ≤ M) (k : Nat) (hk : k < 16)
    (B : Option Addr) (m d : Nat) (ps : List Pc) (hR : row.Rd cP 1 w B m ps) (hL : ∀ p ∈ ps, Lies w p) (hBe : Beside ws F B m) (hbe : ∀ p ∈ ps, Beside ws F p.A p.n) (hm : m ≤ 100000) (hN : N ≤ 500000) (hroom : c.used + (all ps).length ≤ c.cap) (hb1 : M + (all ps).length + (all ps).length ≤ 1000000) (A1 A2 : Option Addr) (m1 c1 m2 c2 : Nat) :
    Calls Tryz.prog 54 #[.agg #[.slice B m d, .slice A2 m2 c2, .slice A1 m1 c1], .pointer (some ⟨p, 0, none⟩), .int .i64 (k : Nat)] w fun e w' => e = .returned (.int .i64 0) ∧ Kept ws F base p (withU c (c.used + (all ps).length)) (fmG fm (lgK k) (all ps) m) (N + m + 1) w' := by
  obtain ⟨mb, D, hd, hf⟩ := h.ex
  obtain ⟨w1, hw1⟩ : ∃ w1, w1 = w.alloc (.cells #[.slice B m d, .slice A2 m2 c2, .slice A1 m1 c1] 110) := ⟨_, rfl⟩
  have hbw : Below w.heap.size w w1 := by rw [hw1]; exact (Below.refl _ _).alloc (Nat.le_refl _) _
  have hg1 : w1.heap[w.heap.size]? = some (.cells #[.slice B m d, .slice A2 m2 c2, .slice A1 m1 c1] 110 (0, 0)) := by rw [hw1]; exact heap_alloc_new w _
  have hlt := (Array.getElem?_eq_some_iff.1 hg1).1
  have hsz := h.size
  have hnf : ∀ {A : Option Addr} {n : Nat}, Beside ws F A n → ∀ ad, A = some ad → 0 < n → ¬ Foot p mb D ad.block := fun hb ad e h0 hh => by
    obtain ⟨q1, q2⟩ := hb ad e h0
    rcases hf _ hh with h | h
    · exact q2 h
    · omega
  have hnx : ¬ Foot p mb D w.heap.size := fun hh => by
    have := (hd.foot_lt _ hh).2
    omega
  have hK0 : Kept w1 (Foot p mb D) base p c fm N w1 := Kept.start (hd.below hbw)
  have HCell : Hid (∀ wr, Kept w1 (Foot p mb D) base p c fm N wr ∨ True → codec.Touch (Foot p mb D) w1 wr → wr.cell? ⟨w.heap.size, 0, none⟩ = some (.slice B m d)) := Lib.hid (fun wr _ ht => by
    have := (ht.2.2.2.2 _ hlt hnx).trans hg1
    simp only [World.cell?]
    rw [this]
    rfl)
  have HRow : Hid (∀ wr, codec.Touch (Foot p mb D) w1 wr → ∀ i, i < m → ∃ b o x, B = some ⟨b, o, none⟩ ∧ ps[i]? = some x ∧ wr.cell? ⟨b, o + i, none⟩ = some (.slice x.A x.n x.c)) := Lib.hid (fun wr ht i hi => by
    obtain ⟨b, o, x, e, hx, hc⟩ := (hR.below hbw).2 i hi
    subst e
    have c0 := hc 0 _ rfl
    simp only [Nat.mul_one, Nat.add_zero] at c0
    refine ⟨b, o, x, rfl, hx, ?_⟩
    rw [← c0]
    have := ht.2.2.2.2 b (block_lt_of_cell c0) (hnf hBe ⟨b, o, none⟩ rfl (by omega))
    simp only [World.cell?]
    rw [this])
  have HAp : Hid (∀ wr i x, ps[i]? = some x → Kept w1 (Foot p mb D) base p (withU c (c.used + tot ps i)) (fmK fm (lgK k) (all (ps.take i)) i) (N + i) wr → Calls Tryz.prog 39 #[.pointer (some ⟨p, 0, none⟩), .string (logN k), .slice x.A x.n x.c] wr fun e w' => e = .returned (.int .i64 0) ∧ Kept w1 (Foot p mb D) base p (withU c (c.used + tot ps (i + 1))) (fmK fm (lgK k) (all (ps.take (i + 1))) (i + 1)) (N + (i + 1)) w') := Lib.hid (fun wr i x hx hk1 => by
    have hmem := List.mem_of_getElem? hx
    have hi : i < m := by have := (List.getElem?_eq_some_iff.1 hx).1; rw [hR.1] at this; exact this
    have hly := (hL x hmem).below hbw
    have hby : Bytes wr x.A x.n x.l := hk1.bytes hly.1 (hnf (hbe x hmem))
    have t1 := tot_le ps (i + 1)
    have t2 := tot_next hx
    have t3 := tot_le ps i
    have hxl := hly.1.1
    have hfa := dis.fileAt_bound (k := lgK k) hM
    have hgr := grown_calm (c := c) (fm := fm) (s := lgK k) (L := all (ps.take i)) (M := x.l) (k := i) hcalm (fun h => by subst h; rfl) (lg_name k hk).1 (by unfold tot at t2 t1; omega) (by omega) (by unfold tot at t3; omega) (by omega)
    obtain ⟨mb1, D1, h1, h2⟩ := hk1.ex
    refine (dis.append_exact wr base p mb1 D1 _ _ (N + i) (M + tot ps i) (logN k) (by have := (name_size k hk).1; omega) x.A x.n x.c x.l h1 (fmK_bound hM) hby (fun ad e h0 => ?_) hly.2.2 hly.2.1 (by omega) hk1.base (by omega)).mono ?_
    · intro hh
      have q := hnf (hbe x hmem) ad e h0
      exact q (hh ▸ .inl rfl)
    · rintro e w' ⟨he, hn⟩
      have hkn := Kept.now hk1.ht h2 hn
      have e1 : (logN k).data.toList = lgK k := rfl
      rw [e1] at he hkn
      have e2 : withU c (c.used + tot ps i) = withU c (c.used + (all (ps.take i)).length) := rfl
      rw [e2, hgr] at he hkn
      rw [all_next hx]
      refine ⟨he, ?_⟩
      unfold tot
      rw [all_next hx]
      exact hkn)
  have HW1 := Lib.hid hw1
  have HT := Lib.hid h.ht
  have HF := Lib.hid hf
  have HBw := Lib.hid hbw
  have HK0 := Lib.hid hK0
  have HTot : Hid (tot ps m = (all ps).length ∧ all (ps.take m) = all ps) := Lib.hid (by unfold tot; rw [List.take_of_length_le (by rw [hR.1]; exact Nat.le_refl _)]; exact ⟨rfl, rfl⟩)
  have HSy : Hid (∀ wr, 0 < m → Kept w1 (Foot p mb D) base p (withU c (c.used + tot ps m)) (fmK fm (lgK k) (all (ps.take m)) m) (N + m) wr → Calls Tryz.prog 40 #[.pointer (some ⟨p, 0, none⟩), .string (logN k)] wr fun e w' => e = .returned (.int .i64 0) ∧ Kept ws F base p (withU c (c.used + (all ps).length)) (fmG fm (lgK k) (all ps) m) (N + m + 1) w') := Lib.hid (fun wr h0 hk1 => by
    have hfa := dis.fileAt_bound (k := lgK k) hM
    have := hcalm.lo; have := hcalm.hi; have := hcalm.c1
    have t3 := tot_le ps m
    have hfm : fmK fm (lgK k) (all (ps.take m)) m = upd fm (lgK k) ⟨(fileAt fm (lgK k)).l ++ all ps, (fileAt fm (lgK k)).safe, (fileAt fm (lgK k)).ever⟩ := by
      unfold fmK
      rw [if_neg (by omega), HTot.out.2]
    have hsy := sync_calm (c := withU c (c.used + tot ps m)) (fm := fmK fm (lgK k) (all (ps.take m)) m) (k := lgK k) (f := ⟨(fileAt fm (lgK k)).l ++ all ps, (fileAt fm (lgK k)).safe, (fileAt fm (lgK k)).ever⟩) (hcalm.withU (by omega) (by omega)) (by rw [hfm]; exact upd_same _ _ _) (by simp; omega)
    refine (hk1.does fun mb1 D1 hd1 => dis.sync_exact wr base p mb1 D1 _ _ (N + m) (logN k) (by have := (name_size k hk).1; omega) hd1 (by omega) hk1.base).mono ?_
    rintro e w' ⟨he, hkn⟩
    have e1 : (logN k).data.toList = lgK k := rfl
    rw [e1, hsy] at he hkn
    refine ⟨he, ?_⟩
    have hkb := Kept.back HT.out HF.out HBw.out hkn
    simp only [] at hkb
    rw [hfm, upd_upd, HTot.out.1] at hkb
    unfold fmG
    rw [if_neg (by omega)]
    exact hkb)
  have HStay : Hid (∀ wr, m = 0 → Kept w1 (Foot p mb D) base p (withU c (c.used + tot ps m)) (fmK fm (lgK k) (all (ps.take m)) m) (N + m) wr → Kept ws F base p (withU c (c.used + (all ps).length)) (fmG fm (lgK k) (all ps) m) (N + m + 1) wr) := Lib.hid (fun wr h0 hk1 => by
    have hkb := (Kept.back HT.out HF.out HBw.out hk1).up (N' := N + m + 1) (by omega)
    rw [HTot.out.1] at hkb
    unfold fmK at hkb
    unfold fmG
    rw [if_pos h0] at hkb ⊢
    exact hkb)
  have HLog := Lib.hid (fun wr => logName_any wr k hk)
  have HM := Lib.hid hm
  clear hw1 hf hbw hg1 hlt hsz hnf hnx hK0 h hcalm hM hk hR hL hBe hbe hN hroom hb1 hd
  go_enter Tryz.func54, Tryz.ntmps54
  go_wp2_with fail
  rw [← HW1.out]
  generalize w.heap.size = bx at *
  go_loopw [13] (fun i wr => ∃ j : Nat, j ≤ m ∧ i = .int .i64 j ∧ Hid (Kept w1 (Foot p mb D) base p (withU c (c.used + tot ps j)) (fmK fm (lgK k) (all (ps.take j)) j) (N + j) wr)) (fun i _ => m - (intOf i).toNat)
  case atStart => exact ⟨0, Nat.zero_le _, rfl, Lib.hid (by
    have := HK0.out
    rw [show tot ps 0 = 0 from rfl]
    unfold fmK
    rw [if_pos rfl]
    simpa [withU] using this)⟩
  case round =>
    obtain ⟨j, hj, rfl, HS⟩ := hrel
    have hmm := HM.out
    by_cases hlt : j < m
    · obtain ⟨b, o, x, rfl, hx, c0⟩ := HRow.out wr HS.out.ht j hlt
      have HA := Lib.hid (HAp.out wr j x hx HS.out)
      clear hx HS
      go_wp2_with (first | (go_at_call 96; refine (HLog.out _).mono ?_; rintro e w2 ⟨rfl, rfl⟩) | (go_at_call 39; refine HA.out.mono ?_; rintro e w3 ⟨rfl, hk3⟩; have HK3 := Lib.hid hk3; clear hk3))
      go_roundw
      case rel => first | exact ⟨j + 1, by omega, by go_num, HK3⟩ | ((repeat apply Exists.intro); exact ⟨⟨j + 1, by omega, by go_num, HK3⟩, rfl⟩)
      case measure => (show m - ((j : Int) + 1).toNat < m - j; omega)
    · obtain rfl : j = m := by omega
      have hcf := HCell.out wr (.inr trivial) HS.out.ht
      rcases Nat.eq_zero_or_pos j with h0 | h0
      · have HE := Lib.hid (HStay.out wr h0 HS.out)
        clear HS
        have h0i : ((j : Int) == 0) = true := by rw [beq_iff_eq]; omega
        go_wp2_with fail
        go_ret
        exact ⟨rfl, HE.out⟩
      · have HE := Lib.hid (HSy.out wr h0 HS.out)
        clear HS
        have h0i : ((j : Int) == 0) = false := by rw [beq_eq_false_iff_ne]; omega
        go_wp2_with (first | (go_at_call 96; refine (HLog.out _).mono ?_; rintro e w2 ⟨rfl, rfl⟩) | (go_at_call 40; refine HE.out.mono ?_; rintro e w3 ⟨rfl, hk3⟩; have HK3 := Lib.hid hk3; clear hk3))
        go_ret
        exact ⟨rfl, HK3.out⟩
end Go.Proofs.YthhflkgngencdaaGreatDoor.sto
