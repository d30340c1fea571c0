/- Trees: whether no name is there twice, and INBOX is; when a tree is formed. -/
import Derived.Test.YtklmbiekpilkhaaGreatDoorIdxB
import Derived.Sort.OwnSorted
namespace Go.Proofs.YtklmbiekpilkhaaGreatDoor.idx
open Go.ChangeShapes Go.WideShapes Go.ChangeAt Go.RowKit Go.Sort
open Go.Proofs.YtklmbiekpilkhaaGreatDoor.row
set_option linter.unusedVariables false
set_option maxRecDepth 100000
set_option linter.unusedSimpArgs false

def isBox (x : ByteArray) : Bool := decide (x = nam.INBOX)
set_option maxHeartbeats 1000000 in
theorem indexS_any (W : World) (A : Option Addr) (n c : Nat) (ss : List ByteArray) (hR : Rd cS 1 W A n ss) (hn : n ≤ 1000000) :
    Calls Tryz.prog 106 #[.slice A n c, .string ⟨#[73, 78, 66, 79, 88]⟩] W fun e w' => (∃ z : Int, e = .returned (.int .i64 z) ∧ decide (0 ≤ z) = ss.any isBox) ∧ Below W.heap.size W w' := by
  have HR := Lib.hid hR
  clear hR
  go_enter Tryz.func106, Tryz.ntmps106
  go_wp2
  go_loopw [8] (fun i wr => ∃ k : Nat, k ≤ n ∧ i = .int .i64 k ∧ Hid (∀ j x, j < k → ss[j]? = some x → isBox x = false) ∧ Hid (Below W.heap.size W wr)) (fun i _ => n - (intOf i).toNat)
  case atStart => exact ⟨0, Nat.zero_le _, rfl, Lib.hid (fun j x h => absurd h (Nat.not_lt_zero _)), Lib.hid (Below.refl _ _)⟩
  case round =>
    obtain ⟨k, hk, rfl, HU, HB⟩ := hrel
    by_cases hlt : k < n
    · obtain ⟨b, o, s, rfl, hx, c0⟩ := atS (HR.out.below HB.out) k hlt
      have hlt' : (k : Int) < (n : Int) := by omega
      have HX := Lib.hid hx
      clear hx
      by_cases hs : s = nam.INBOX
      · subst hs
        have HP := Lib.hid (any_yes HX.out (p := isBox) (decide_eq_true rfl))
        have hc1 : wr.cell? ⟨b, o + k, none⟩ = some (.string ⟨#[73, 78, 66, 79, 88]⟩) := c0
        clear c0
        go_wp2
        go_ret
        exact ⟨⟨_, rfl, by rw [HP.out]; exact decide_eq_true (by omega)⟩, HB.out⟩
      · have HP := Lib.hid (show isBox s = false from decide_eq_false hs)
        have hne : (([73, 78, 66, 79, 88] : List UInt8) == s.toList) = false := by
          have := rd.str_ne (T := nam.INBOX) (S := s) (fun e => hs e.symm)
          rw [ByteArray.toList_eq] at this
          rw [ByteArray.toList_eq]
          exact this
        clear hs
        have hU : ∀ j x, j < k + 1 → ss[j]? = some x → isBox x = false := fun j x hj hx => by
          rcases Nat.lt_succ_iff_lt_or_eq.1 hj with h | rfl
          · exact HU.out j x h hx
          · rw [HX.out] at hx
            cases hx
            exact HP.out
        have HU1 := Lib.hid hU
        clear hU
        go_wp2
        go_roundw
        case rel => first | exact ⟨k + 1, by omega, by go_num, HU1, HB⟩ | ((repeat apply Exists.intro); exact ⟨⟨k + 1, by omega, by go_num, HU1, HB⟩, rfl⟩)
        case measure => (show n - ((k : Int) + 1).toNat < n - k; omega)
    · obtain rfl : k = n := by omega
      have hA : ss.any isBox = false := any_no fun j x hx => HU.out j x (by have := (List.getElem?_eq_some_iff.1 hx).1; have := HR.out.1; omega) hx
      have HA := Lib.hid hA
      clear hA
      go_wp2
      go_ret
      exact ⟨⟨_, rfl, by rw [HA.out]; rfl⟩, HB.out⟩
theorem containsS_any (W : World) (A : Option Addr) (n c : Nat) (ss : List ByteArray) (hR : Rd cS 1 W A n ss) (hn : n ≤ 1000000) :
    Calls Tryz.prog 83 #[.slice A n c, .string ⟨#[73, 78, 66, 79, 88]⟩] W fun e w' => e = .returned (.bool (ss.any isBox)) ∧ Below W.heap.size W w' := by
  have HI := Lib.hid (indexS_any W A n c ss hR hn)
  clear hR
  go_enter Tryz.func83, Tryz.ntmps83
  go_wp2_with (go_at_call 106; refine HI.out.mono ?_; rintro e w1 ⟨⟨z, rfl, hz⟩, hb⟩; have HB1 := Lib.hid hb; have HZ := Lib.hid hz; clear hb hz)
  go_ret
  exact ⟨by rw [← HZ.out]; rfl, HB1.out⟩
/-- A text out of its bytes. -/
def ofRaw (l : List UInt8) : ByteArray := ⟨l.toArray⟩
theorem ofRaw_raw (s : ByteArray) : ofRaw (rawL s) = s := by
  obtain ⟨⟨s⟩⟩ := s
  rfl
theorem map_ofRaw (l : List (List UInt8)) : l.map encStr = (l.map ofRaw).map Value.string := by
  rw [List.map_map]
  rfl
theorem names_raw (l : List ByteArray) : l.map Value.string = (l.map rawL).map encStr := by
  rw [List.map_map]
  exact List.map_congr_left fun s _ => by show Value.string s = Value.string (ofRaw (rawL s)); rw [ofRaw_raw]
theorem any_box (l : List ByteArray) (ts : List (List UInt8)) (h : ts = (l.map rawL).mergeSort fun x y => decide (x ≤ y)) : ts.any (isBox ∘ ofRaw) = l.any isBox := by
  rw [h, any_sorted, List.any_map]
  refine congrArg (List.any l) (funext fun s => ?_)
  show isBox (ofRaw (rawL s)) = isBox s
  rw [ofRaw_raw]
theorem nodup_box (l : List ByteArray) (ts : List (List UInt8)) (h : ts = (l.map rawL).mergeSort fun x y => decide (x ≤ y)) (n : Nat) (hn : l.length = n) : decide ((Lib.compact ts).length = n) = decide l.Nodup := by
  have := sorted_nodup (l.map rawL)
  rw [← h, List.length_map, hn, nodup_raw] at this
  exact this
theorem holds_at {w : World} {g : Nat} {cur : Array Value} {ss : List (List UInt8)} (hb : w.heap[g]? = some (.cells cur 9 (0, 0))) (ht : cur.toList.take (ss.length * 1) = ss.map encStr) : Holds encStr w g 0 ss.toArray :=
  holds_of_block hb (by rwa [Nat.mul_one] at ht)
theorem row_rd {w : World} {B g n cap : Nat} {zs : List ByteArray} (h : w.ownsRow B 9 1 (.slice (some ⟨g, 0, none⟩) n cap) n (zs.map Value.string)) (hn : zs.length = n) : Rd cS 1 w (some ⟨g, 0, none⟩) n zs := by
  refine ⟨hn, fun k hk => ⟨g, 0, zs[k], rfl, List.getElem?_eq_getElem (by omega), fun j v hv => ?_⟩⟩
  cases j with
  | zero =>
    simp [cS] at hv
    subst hv
    have := World.ownsRow.cells h (g := g) rfl k (.string zs[k]) (by rw [List.getElem?_map, List.getElem?_eq_getElem (by omega)]; rfl)
    rw [codec.add_none] at this
    simpa using this
  | succ j => simp [cS] at hv
theorem clone_row (w : World) (B g n cap : Nat) (ts : List (List UInt8)) (h : w.ownsRow B 9 1 (.slice (some ⟨g, 0, none⟩) n cap) n (ts.map encStr)) (hn : n ≤ 1000000) :
    Calls Tryz.prog 82 #[.slice (some ⟨g, 0, none⟩) n cap] w fun e w' => ∃ g2 c2, e = .returned (.slice (some ⟨g2, 0, none⟩) n c2) ∧ w.heap.size ≤ g2 ∧ g2 < w'.heap.size ∧ Below w.heap.size w w' ∧ Holds encStr w' g2 0 ts.toArray ∧ n ≤ c2 := by
  have ht : ts.length = n := by have := h.1; rw [List.length_map] at this; omega
  have hR := row_rd (zs := ts.map ofRaw) (by rw [← map_ofRaw]; exact h) (by rw [List.length_map]; exact ht)
  refine (Tryz.slices_Clone_string g 0 n cap (ts.map ofRaw) w (by rw [List.length_map]; omega) (by omega) (fun j hj => ?_)).mono ?_
  · rw [List.length_map] at hj
    obtain ⟨b, o, y, h1, h2, h3⟩ := hR.2 j (by omega)
    cases h1
    have := h3 0 _ rfl
    rw [List.getD, h2]
    simpa using this
  · rintro e w' ⟨v, rfl, ho, hne, hb⟩
    rw [List.take_of_length_le (by rw [List.length_map]; omega), ← map_ofRaw] at ho
    rcases ho.2 with ⟨h0, _⟩ | ⟨g2, c2, cur, h0, hB, hg, h1, h2, h3, h4⟩
    · exact absurd h0 hne
    · subst h0
      exact ⟨g2, c2, rfl, hB, (Array.getElem?_eq_some_iff.1 hg).1, hb, holds_at hg (by rw [ht]; exact h4), h1⟩
theorem below_put {B g q : Nat} (w : World) (d : Array (List UInt8)) (hB : B ≤ g) : Below B w (putRow encStr (Sort.ahead w q) g 0 d) := by
  refine ⟨rfl, rfl, rfl, by simp [putRow, mapBlock, Sort.ahead], fun k hk => ?_⟩
  have : g ≠ k := by omega
  simp [putRow, mapBlock, Sort.ahead, Array.getElem?_modify, this]
theorem compact_row (w : World) (g n c : Nat) (ts : List (List UInt8)) (hH : Holds encStr w g 0 ts.toArray) (ht : ts.length = n) (hn : n ≤ 1000000) (hc : n ≤ c) (B : Nat) (hB : B ≤ g) :
    Calls Tryz.prog 81 #[.slice (some ⟨g, 0, none⟩) n c] w fun e w' => e = .returned (.slice (some ⟨g, 0, none⟩) (Lib.compact ts).length c) ∧ Below B w w' := by
  subst ht
  refine (Tryz.slices_Compact_string g 0 c ts w hH (by omega) hc).mono ?_
  rintro e w' ⟨rfl, q, rfl⟩
  exact ⟨rfl, below_put w _ hB⟩
set_option maxHeartbeats 2000000 in
/-- A row of one name or more. -/
theorem boxes_many (W : World) (B g n cap : Nat) (cur : Array Value) (l : List ByteArray) (hl : l.length = n) (hn : n ≤ 1000000) (hB : B ≤ g) (hg : W.heap[g]? = some (.cells cur 9 (0, 0))) (h1 : n ≤ cap) (h2 : cap ≤ maxLen) (h3 : cur.size = cap * 1) (h4 : cur.toList.take (n * 1) = l.map Value.string) :
    Calls Tryz.prog 49 #[.slice (some ⟨g, 0, none⟩) n cap] W fun e w' => e = .returned (.bool (boxesB l)) ∧ Below B W w' := by
  obtain ⟨ts, hts⟩ : ∃ ts, ts = (l.map rawL).mergeSort fun x y => decide (x ≤ y) := ⟨_, rfl⟩
  have hlt : g < W.heap.size := (Array.getElem?_eq_some_iff.1 hg).1
  have hrl : (l.map rawL).length = n := by rw [List.length_map, hl]
  have htl : ts.length = n := by rw [hts, List.length_mergeSort, hrl]
  have HH : Holds encStr W g 0 (l.map rawL).toArray := holds_at hg (by rw [hrl, h4, names_raw])
  have hS := Tryz.slices_Sort_string g 0 cap (l.map rawL) W HH hlt (by omega)
  rw [hrl, ← hts] at hS
  have HS := Lib.hid hS
  have HO := Lib.hid (fun (m : Nat) (os : Array Obj) => (ownsRow_sorted (w := W) (base := B) (g := g) (cap := cap) (n := m) (e := 9) (os := os) (cur := cur) (ss := l.map rawL) (ts := ts) (by rw [htl, hrl]) hB hg (by omega) h2 h3))
  have HG := Lib.hid (fun (m : Nat) (os : Array Obj) => grownBy_sorted (w := W) (g := g) (n := m) (os := os) ts.toArray)
  have HTL := Lib.hid htl
  have HAB := Lib.hid (any_box l ts hts)
  have HND := Lib.hid (nodup_box l ts hts n hl)
  have HRL := Lib.hid hrl
  clear hS HH hg h4 h3 h2 hts htl hrl hl
  go_enter Tryz.func49, Tryz.ntmps49
  have HC := Lib.hid (fun (w : World) (h : w.ownsRow B 9 1 (.slice (some ⟨g, 0, none⟩) n cap) n (ts.map encStr)) => clone_row w B g n cap ts h hn)
  have HK := Lib.hid (fun (w : World) (g2 c2 B2 : Nat) (hH : Holds encStr w g2 0 ts.toArray) (hc : n ≤ c2) (hB : B2 ≤ g2) => compact_row w g2 n c2 ts hH HTL.out hn hc B2 hB)
  have HX := Lib.hid (fun (w : World) (h : Rd cS 1 w (some ⟨g, 0, none⟩) n (ts.map ofRaw)) => containsS_any w _ n cap _ h hn)
  generalize (Lib.compact ts).length = m at *
  by_cases hm : m = n
  · have HND1 := Lib.hid (show l.Nodup from of_decide_eq_true (by rw [← HND.out, decide_eq_true hm]))
    subst hm
    go_wp2_with (first
      | (go_at_call 80; refine HS.out.mono ?_; rintro e w1 ⟨rfl, q, os, hw⟩; have hr1 := HO.out q os; have hg1 := HG.out q os; rw [← hw, HRL.out] at hr1; rw [← hw] at hg1; have HR1 := Lib.hid hr1; have HG1 := Lib.hid hg1; clear hr1 hg1 hw)
      | (go_at_call 82; refine (HC.out w1 HR1.out).mono ?_; rintro e w2 ⟨g2, c2, rfl, hg2, hg3, hb2, hH2, hc2⟩; have HB2 := Lib.hid hb2; have HK2 := Lib.hid (HK.out w2 g2 c2 w1.heap.size hH2 hc2 hg2); clear hg2 hg3 hb2 hH2)
      | (go_at_call 81; refine HK2.out.mono ?_; rintro e w3 ⟨rfl, hb3⟩; have HB3 := Lib.hid (HB2.out.trans hb3); have HX3 := Lib.hid (HX.out w3 ((row_rd (zs := ts.map ofRaw) (by rw [← map_ofRaw]; exact HR1.out) (by rw [List.length_map]; exact HTL.out)).below HB3.out)); clear hb3)
      | (go_at_call 83; refine HX3.out.mono ?_; rintro e w4 ⟨rfl, hb4⟩; have HB4 := Lib.hid (HB3.out.trans (hb4.mono HB3.out.size)); clear hb4))
    go_ret
    refine ⟨?_, ?_⟩
    · rw [HAB.out]
      unfold boxesB
      rw [decide_eq_true HND1.out, Bool.true_and]
      rfl
    · have h0 : Below B W w1 := ⟨HG1.out.os, HG1.out.tape, HG1.out.output, HG1.out.size, fun k hk => HG1.out.block k (by omega) (fun e => by cases e; omega)⟩
      exact h0.trans (HB4.out.mono (by have := HG1.out.size; omega))
  · have HND1 := Lib.hid (show decide l.Nodup = false by rw [← HND.out, decide_eq_false hm])
    have hmn : ((m : Int) == (n : Int)) = false := by rw [beq_eq_false_iff_ne]; omega
    go_wp2_with (first
      | (go_at_call 80; refine HS.out.mono ?_; rintro e w1 ⟨rfl, q, os, hw⟩; have hr1 := HO.out q os; have hg1 := HG.out q os; rw [← hw, HRL.out] at hr1; rw [← hw] at hg1; have HR1 := Lib.hid hr1; have HG1 := Lib.hid hg1; clear hr1 hg1 hw)
      | (go_at_call 82; refine (HC.out w1 HR1.out).mono ?_; rintro e w2 ⟨g2, c2, rfl, hg2, hg3, hb2, hH2, hc2⟩; have HB2 := Lib.hid hb2; have HK2 := Lib.hid (HK.out w2 g2 c2 w1.heap.size hH2 hc2 hg2); clear hg2 hg3 hb2 hH2)
      | (go_at_call 81; refine HK2.out.mono ?_; rintro e w3 ⟨rfl, hb3⟩; have HB3 := Lib.hid (HB2.out.trans hb3); clear hb3))
    go_ret
    refine ⟨?_, ?_⟩
    · unfold boxesB
      rw [HND1.out, Bool.false_and]
      rfl
    · have h0 : Below B W w1 := ⟨HG1.out.os, HG1.out.tape, HG1.out.output, HG1.out.size, fun k hk => HG1.out.block k (by omega) (fun e => by cases e; omega)⟩
      exact h0.trans (HB3.out.mono (by have := HG1.out.size; omega))
theorem boxes_none (W : World) : Calls Tryz.prog 49 #[.slice none 0 0] W fun e w' => e = .returned (.bool (boxesB [])) ∧ Below W.heap.size W w' := by
  have HS := Lib.hid (Tryz.slices_Sort_string_none none 0 W)
  have HC := Lib.hid (Tryz.slices_Clone_string_nil 0 0 W)
  have HK := Lib.hid (Tryz.slices_Compact_string_empty none 0 W)
  have HX := Lib.hid (containsS_any W none 0 0 [] (Rd.empty W) (by omega))
  go_enter Tryz.func49, Tryz.ntmps49
  go_wp2_with (first
    | (go_at_call 80; refine HS.out.mono ?_; rintro e w1 ⟨rfl, rfl⟩)
    | (go_at_call 82; refine HC.out.mono ?_; rintro e w2 ⟨rfl, rfl⟩)
    | (go_at_call 81; refine HK.out.mono ?_; rintro e w3 ⟨rfl, rfl⟩)
    | (go_at_call 83; refine HX.out.mono ?_; rintro e w4 ⟨rfl, hb4⟩; have HB4 := Lib.hid hb4; clear hb4))
  go_ret
  exact ⟨rfl, HB4.out⟩
theorem boxes_any (W : World) (B : Nat) (v : Value) (l : List ByteArray) (h : Own cS 1 B 9 W v l) (hB : B ≤ W.heap.size) (hn : l.length ≤ 1000000) :
    Calls Tryz.prog 49 #[v] W fun e w' => e = .returned (.bool (boxesB l)) ∧ Below B W w' := by
  have h0 := h
  unfold Own at h0
  rw [flS] at h0
  rcases h0.2 with ⟨rfl, h1⟩ | ⟨g, cap, cur, rfl, hBg, hg, h1, h2, h3, h4⟩
  · obtain rfl := List.eq_nil_of_length_eq_zero h1
    exact (boxes_none W).mono fun _ _ ⟨he, hb⟩ => ⟨he, hb.mono hB⟩
  · exact boxes_many W B g l.length cap cur l rfl hn hBg hg h1 h2 h3 h4
set_option maxHeartbeats 2000000 in
theorem formedTree_any (W : World) (A : Option Addr) (n c : Nat) (ps : List P) (hR : Rd cP 2 W A n ps) (hn : n ≤ 1000000) (hr : nam.Room W) :
    Calls Tryz.prog 23 #[.slice A n c] W fun e w' => e = .returned (.bool (treeB ps)) ∧ Below W.heap.size W w' := by
  have HI := Lib.hid (riseP_any W A n c ps hR hn)
  have HC := Lib.hid (fun (w : World) (hb : Below W.heap.size W w) => containsP_any w A n c ps (hR.below hb) hn (hr.below hb))
  have HN := Lib.hid (fun (w : World) (hb : Below W.heap.size W w) => names_any w A n c ps (hR.below hb) hn)
  have HL := Lib.hid hR.1
  clear hR hr
  have hT : treeB ps = ((up (-1) (ps.map P.n)).2 && (!(ps.any wrongP) && boxesB (ps.map P.s))) := rfl
  rw [hT]
  cases h1 : (up (-1) (ps.map P.n)).2
  · rw [h1] at HI
    clear h1 hT
    go_enter Tryz.func23, Tryz.ntmps23
    go_wp2_with (go_at_call 46; refine HI.out.mono ?_; rintro e w1 ⟨rfl, hb⟩; have HB1 := Lib.hid hb; clear hb)
    go_ret
    exact ⟨rfl, HB1.out⟩
  · rw [h1] at HI
    cases h2 : ps.any wrongP
    · rw [h2] at HC
      clear h1 h2 hT
      go_enter Tryz.func23, Tryz.ntmps23
      go_wp2_with (first
        | (go_at_call 46; refine HI.out.mono ?_; rintro e w1 ⟨rfl, hb⟩; have HB1 := Lib.hid hb; clear hb)
        | (go_at_call 48; refine (HC.out w1 HB1.out).mono ?_; rintro e w2 ⟨rfl, hb⟩; have HB2 := Lib.hid (HB1.out.trans (hb.mono HB1.out.size)); clear hb)
        | (go_at_call 50; refine (HN.out w2 HB2.out).mono ?_; rintro e w3 ⟨v, rfl, ho, hb⟩; have HB3 := Lib.hid hb; have HO3 := Lib.hid ho; clear hb ho)
        | (go_at_call 49; refine (boxes_any w3 w2.heap.size v _ HO3.out HB3.out.size (by rw [List.length_map, HL.out]; exact hn)).mono ?_; rintro e w4 ⟨rfl, hb⟩; have HB4 := Lib.hid (HB2.out.trans ((HB3.out.trans hb).mono HB2.out.size)); clear hb))
      go_ret
      exact ⟨rfl, HB4.out⟩
    · rw [h2] at HC
      clear h1 h2 hT
      go_enter Tryz.func23, Tryz.ntmps23
      go_wp2_with (first
        | (go_at_call 46; refine HI.out.mono ?_; rintro e w1 ⟨rfl, hb⟩; have HB1 := Lib.hid hb; clear hb)
        | (go_at_call 48; refine (HC.out w1 HB1.out).mono ?_; rintro e w2 ⟨rfl, hb⟩; have HB2 := Lib.hid (HB1.out.trans (hb.mono HB1.out.size)); clear hb))
      go_ret
      exact ⟨rfl, HB2.out⟩
end Go.Proofs.YtklmbiekpilkhaaGreatDoor.idx
