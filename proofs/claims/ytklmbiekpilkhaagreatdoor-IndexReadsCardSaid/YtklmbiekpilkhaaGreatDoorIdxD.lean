/- How a page is made of an Out, and how a tree is put. -/
import Derived.Test.YtklmbiekpilkhaaGreatDoorIdxC
import Derived.Test.YtklmbiekpilkhaaGreatDoorPagC
import Derived.Test.YtklmbiekpilkhaaGreatDoorTxt
namespace Go.Proofs.YtklmbiekpilkhaaGreatDoor.idx
open Go.ChangeShapes Go.WideShapes Go.ChangeAt Go.RowKit
open Go.Proofs.YtklmbiekpilkhaaGreatDoor.row
open Go.Proofs.YtklmbiekpilkhaaGreatDoor.codec (Bytes OutIs More Touch bytesOf bytesOf_length strOf)
open Go.Proofs.YtklmbiekpilkhaaGreatDoor.bod (named nums txt nums_length nums_lt strOf_nums)
set_option linter.unusedVariables false
set_option maxRecDepth 100000
set_option linter.unusedSimpArgs false

/-- An Out at p that has taken l; all else is as it was in W. -/
def Ou (W : World) (p : Nat) (l F : List Nat) (w : World) : Prop := OutIs w p l F ∧ (∀ k ∈ F, W.heap.size ≤ k) ∧ Below W.heap.size W w
theorem Ou.more {W w w' : World} {p : Nat} {l l' F : List Nat} (h : Ou W p l F w) (m : More w p l' F w') : ∃ F', Ou W p l' F' w' := by
  obtain ⟨ho, hF, hb⟩ := h
  obtain ⟨F', o', t, s⟩ := m
  refine ⟨F', o', fun k hk => ?_, hb.trans (t.toBelow _ hb.size fun i hi hf => by have := hF i hf; omega)⟩
  rcases s k hk with h | h
  · exact hF k h
  · have := hb.size
    omega
theorem Ou.below {W w w' : World} {p : Nat} {l F : List Nat} (h : Ou W p l F w) (hb : Below w.heap.size w w') : Ou W p l F w' := ⟨h.1.below hb, h.2.1, h.2.2.trans (hb.mono h.2.2.size)⟩
theorem Ou.alloc {W w : World} {p : Nat} {l F : List Nat} (h : Ou W p l F w) (o : Obj) : Ou W p l F (w.alloc o) := h.below ((Below.refl _ _).alloc (Nat.le_refl _) _)
theorem ou_start {W w : World} (h : Below W.heap.size W w) : Ou W w.heap.size [] [w.heap.size] (w.alloc (.cells #[.pointer none, .int .i64 0, .bool false] 79)) :=
  ⟨codec.fresh_new w, fun k hk => by simp at hk; subst hk; exact h.size, h.alloc h.size _⟩
theorem ou_N {W w : World} {p : Nat} {l F : List Nat} (h : Ou W p l F w) (v n : Nat) (hl : l.length ≤ 9000000) (h1 : 1 ≤ n) (h7 : n ≤ 7) (hv : v < 256 ^ n) :
    Calls Tryz.prog 25 #[.pointer (some ⟨p, 0, none⟩), .int .i64 v, .int .i64 n] w fun e w' => e = .returned (.tuple #[]) ∧ ∃ F', Ou W p (l ++ bytesOf v n) F' w' :=
  (codec.outN_fits w p v n l F h.1 hl h1 h7 hv).mono fun _ _ ⟨he, hm⟩ => ⟨he, h.more hm⟩
theorem ou_Text {W w : World} {p : Nat} {l F : List Nat} (h : Ou W p l F w) (s : ByteArray) (hl : l.length ≤ 5000000) (hs : s.size ≤ 65535) :
    Calls Tryz.prog 24 #[.pointer (some ⟨p, 0, none⟩), .string s] w fun e w' => e = .returned (.tuple #[]) ∧ ∃ F', Ou W p (l ++ txt s) F' w' := by
  have := codec.outText_good w p l F (nums s) h.1 hl (nums_lt s) (by rw [nums_length]; exact hs)
  rw [strOf_nums, nums_length] at this
  exact this.mono fun _ _ ⟨he, hm⟩ => ⟨he, h.more hm⟩
theorem cell_at {w : World} {b : Nat} {cs : Array Value} {t : TypeId} {m : Nat × Nat} (h : w.heap[b]? = some (.cells cs t m)) (i : Nat) (v : Value) (hv : cs[i]? = some v) : w.cell? ⟨b, i, none⟩ = some v := by
  simp [World.cell?, h, hv]
/-- .. and a thing that lies beside it. -/
def Ob (W : World) (p : Nat) (l F : List Nat) (b : Nat) (cs : Array Value) (t : TypeId) (w : World) : Prop := Ou W p l F w ∧ b ∉ F ∧ w.heap[b]? = some (.cells cs t (0, 0))
theorem Ob.more {W w w' : World} {p b : Nat} {l l' F : List Nat} {cs : Array Value} {t : TypeId} (h : Ob W p l F b cs t w) (m : More w p l' F w') : ∃ F', Ob W p l' F' b cs t w' := by
  obtain ⟨⟨ho, hF, hb⟩, hn, hc⟩ := h
  have hlt : b < w.heap.size := (Array.getElem?_eq_some_iff.1 hc).1
  obtain ⟨F', o', t', s⟩ := m
  refine ⟨F', ⟨o', fun k hk => ?_, hb.trans (t'.toBelow _ hb.size fun i hi hf => by have := hF i hf; omega)⟩, fun hk => ?_, (t'.2.2.2.2 b hlt hn).trans hc⟩
  · rcases s k hk with h | h
    · exact hF k h
    · have := hb.size
      omega
  · rcases s b hk with h | h
    · exact hn h
    · omega
theorem ob_start {W w : World} {p : Nat} {l F : List Nat} (h : Ou W p l F w) (cs : Array Value) (t : TypeId) : Ob W p l F w.heap.size cs t (w.alloc (.cells cs t)) :=
  ⟨h.alloc _, fun hk => Nat.lt_irrefl _ (h.1.lt _ hk), heap_alloc_new w _⟩
theorem Ob.cell {W w : World} {p b : Nat} {l F : List Nat} {cs : Array Value} {t : TypeId} (h : Ob W p l F b cs t w) (i : Nat) (v : Value) (hv : cs[i]? = some v) : w.cell? ⟨b, i, none⟩ = some v := cell_at h.2.2 i v hv
theorem ob_N {W w : World} {p b : Nat} {l F : List Nat} {cs : Array Value} {t : TypeId} (h : Ob W p l F b cs t w) (v n : Nat) (hl : l.length ≤ 9000000) (h1 : 1 ≤ n) (h7 : n ≤ 7) (hv : v < 256 ^ n) :
    Calls Tryz.prog 25 #[.pointer (some ⟨p, 0, none⟩), .int .i64 v, .int .i64 n] w fun e w' => e = .returned (.tuple #[]) ∧ ∃ F', Ob W p (l ++ bytesOf v n) F' b cs t w' :=
  (codec.outN_fits w p v n l F h.1.1 hl h1 h7 hv).mono fun _ _ ⟨he, hm⟩ => ⟨he, h.more hm⟩
theorem ob_Text {W w : World} {p b : Nat} {l F : List Nat} {cs : Array Value} {t : TypeId} (h : Ob W p l F b cs t w) (s : ByteArray) (hl : l.length ≤ 5000000) (hs : s.size ≤ 65535) :
    Calls Tryz.prog 24 #[.pointer (some ⟨p, 0, none⟩), .string s] w fun e w' => e = .returned (.tuple #[]) ∧ ∃ F', Ob W p (l ++ txt s) F' b cs t w' := by
  have := codec.outText_good w p l F (nums s) h.1.1 hl (nums_lt s) (by rw [nums_length]; exact hs)
  rw [strOf_nums, nums_length] at this
  exact this.mono fun _ _ ⟨he, hm⟩ => ⟨he, h.more hm⟩
theorem ou_End {W w : World} {p : Nat} {l F : List Nat} (h : Ou W p l F w) (N : Nat) (hN : l.length = N) (hl : N ≤ 10000000) :
    Calls Tryz.prog 53 #[.pointer (some ⟨p, 0, none⟩)] w fun e w' => ∃ g, e = .returned (.tuple #[.slice (some ⟨g, 0, none⟩) N N, .int .i64 0]) ∧ W.heap.size ≤ g ∧ Bytes w' (some ⟨g, 0, none⟩) N l ∧ Below W.heap.size W w' := by
  subst hN
  refine (codec.end_good w p l F h.1 hl).mono ?_
  rintro e w' ⟨v, rfl, hm⟩
  obtain ⟨g, rfl, hg, hb, hB⟩ := hm.bytes
  have := h.2.2.size
  exact ⟨g, rfl, by omega, hB, h.2.2.trans (hb.mono this)⟩
/-- What a page that was made is. -/
def PutAns (W : World) (k : Nat) (l : List Nat) (e : Ending) (w' : World) : Prop := ∃ g m, e = .returned (.tuple #[.slice (some ⟨g, 0, none⟩) m m, .int .i64 0]) ∧ m = l.length + 12 ∧ W.heap.size ≤ g ∧ Bytes w' (some ⟨g, 0, none⟩) m (pg.pageL k l) ∧ Below W.heap.size W w'
theorem put_any {W w : World} {p : Nat} {l F : List Nat} (h : Ou W p l F w) (k : Nat) (h1 : 1 ≤ k) (h3 : k ≤ 3) (N : Nat) (hN : l.length = N) (hl : N ≤ 60000) :
    Calls Tryz.prog 26 #[.int .i64 k, .pointer (some ⟨p, 0, none⟩)] w fun e w' => PutAns W k l e w' := by
  have HE := Lib.hid (ou_End h N hN (by omega))
  have HN := Lib.hid hN
  have HP := Lib.hid (fun (w : World) (g : Nat) (hB : Bytes w (some ⟨g, 0, none⟩) N l) => pg.put_good w k N N (some ⟨g, 0, none⟩) l h1 h3 hB hl (fun e => by cases e))
  clear h hN
  go_enter Tryz.func26, Tryz.ntmps26
  go_wp2_with fail
  refine HE.out.mono ?_
  rintro e w1 ⟨g, rfl, hg, hB, hb⟩
  have HB := Lib.hid hB
  have HB1 := Lib.hid hb
  clear hB hb
  go_wp2_with fail
  refine (HP.out w1 g HB.out).mono ?_
  rintro e w2 ⟨v, rfl, hm⟩
  obtain ⟨g2, rfl, hg2, hb2, hB2⟩ := hm.bytes
  have HM := Lib.hid hB2
  have HB2 := Lib.hid hb2
  clear hm hb2 hB2
  go_wp2_with fail
  go_ret2
  have hl2 : (pg.pageL k l).length = l.length + 12 := by rw [pg.pageL_length]; omega
  have e := HM.out
  exact ⟨g2, _, rfl, hl2, by have := HB1.out.size; omega, e, HB1.out.trans (HB2.out.mono HB1.out.size)⟩
/-- What is said of each place of a tree that is formed. -/
theorem up_gt : ∀ (l : List Int) (f : Int), (up f l).2 = true → ∀ n ∈ l, f < n
  | [], f, h, n, hn => by simp at hn
  | a :: r, f, h, n, hn => by
    have h' : (r.foldl (fun st n => (n, st.2 && decide (st.1 < n))) (a, true && decide (f < a))).2 = true := h
    by_cases hfa : f < a
    · rw [decide_eq_true hfa] at h'
      rcases List.mem_cons.1 hn with rfl | hn
      · exact hfa
      · have := up_gt r a h' n hn
        omega
    · rw [decide_eq_false hfa] at h'
      have := fold_no r (a, true && false) rfl
      rw [this] at h'
      cases h'
theorem tree_mem {ps : List P} (h : treeB ps = true) : ∀ p ∈ ps, 0 ≤ p.n ∧ p.n < 16 ∧ named p.s = true := by
  intro p hp
  unfold treeB at h
  simp only [Bool.and_eq_true, Bool.not_eq_true'] at h
  obtain ⟨h1, h2, h3⟩ := h
  have a := up_gt _ _ h1 p.n (List.mem_map_of_mem hp)
  have b := (List.any_eq_false.1 h2) p hp
  simp only [Bool.or_eq_true, decide_eq_true_eq, Bool.not_eq_true', not_or] at b
  exact ⟨by omega, by omega, by have := b.2; simpa using this⟩
theorem named_60 {s : ByteArray} (h : named s = true) : s.size ≤ 60 := by
  unfold named nam.normOk at h
  simp only [Bool.and_eq_true, decide_eq_true_eq] at h
  exact h.1.1
theorem encP_len {p : P} (h : named p.s = true) : (encP p).length ≤ 63 := by
  have := named_60 h
  simp only [encP, txt, List.length_append, bytesOf_length, nums_length]
  omega
theorem flat_len {α : Type} (f : α → List Nat) (c : Nat) : ∀ (l : List α), (∀ x ∈ l, (f x).length ≤ c) → (l.flatMap f).length ≤ c * l.length
  | [], h => by simp
  | x :: r, h => by
    rw [List.flatMap_cons, List.length_append, List.length_cons, Nat.mul_add, Nat.mul_one]
    have := h x (by simp)
    have := flat_len f c r fun y hy => h y (by simp [hy])
    omega
/-- The bytes of a tree's first k places. -/
def treeK (ps : List P) (n k : Nat) : List Nat := bytesOf n 1 ++ (ps.take k).flatMap encP
theorem treeK_next {ps : List P} {n k : Nat} {p : P} (h : ps[k]? = some p) : treeK ps n (k + 1) = (treeK ps n k ++ bytesOf p.n.toNat 1) ++ txt p.s := by
  unfold treeK
  rw [take_next h, List.flatMap_append, List.flatMap_singleton, encP]
  simp only [List.append_assoc]
theorem treeK_len {ps : List P} (h : treeB ps = true) (n k : Nat) (hn : ps.length ≤ 255) : (treeK ps n k).length ≤ 16066 := by
  unfold treeK
  have := flat_len encP 63 (ps.take k) fun p hp => encP_len (tree_mem h p (List.mem_of_mem_take hp)).2.2
  rw [List.length_take] at this
  rw [List.length_append, bytesOf_length]
  have : 63 * min k ps.length ≤ 63 * 255 := Nat.mul_le_mul_left _ (by omega)
  omega
set_option maxHeartbeats 2000000 in
theorem putTree_none (W : World) (A : Option Addr) (n c : Nat) (ps : List P) (hR : Rd cP 2 W A n ps) (hn : n ≤ 1000000) (hr : nam.Room W) (h : treeB ps = false) :
    Calls Tryz.prog 11 #[.slice A n c] W fun e w' => e = .returned (.tuple #[.slice none 0 0, .int .i64 1]) ∧ Below W.heap.size W w' := by
  have hF := formedTree_any W A n c ps hR hn hr
  rw [h] at hF
  have HF := Lib.hid hF
  clear hF h hR hr
  go_enter Tryz.func11, Tryz.ntmps11
  go_wp2_with (go_at_call 23; refine HF.out.mono ?_; rintro e w1 ⟨rfl, hb⟩; have HB1 := Lib.hid hb; clear hb)
  go_ret2
  exact ⟨rfl, HB1.out⟩
set_option maxHeartbeats 2000000 in
theorem putTree_good (W : World) (A : Option Addr) (n c : Nat) (ps : List P) (hR : Rd cP 2 W A n ps) (hn : n ≤ 255) (hr : nam.Room W) (h : treeB ps = true) :
    Calls Tryz.prog 11 #[.slice A n c] W fun e w' => PutAns W 3 (treeL ps) e w' := by
  have hF := formedTree_any W A n c ps hR (by omega) hr
  rw [h] at hF
  have HF := Lib.hid hF
  have HR := Lib.hid hR
  have HM := Lib.hid (tree_mem h)
  have HK := Lib.hid (fun k => treeK_len h n k (by rw [hR.1]; exact hn))
  have HN := Lib.hid hn
  have hnn : IntKind.i64.wrap (n : Int) = n := by simp [IntKind.wrap, IntKind.bits, IntKind.signed]; omega
  clear hF h hR hr
  go_enter Tryz.func11, Tryz.ntmps11
  go_wp2_with (first
    | (go_at_call 23; refine HF.out.mono ?_; rintro e w1 ⟨rfl, hb⟩; have HB1 := Lib.hid hb; have HO := Lib.hid (ou_start hb); clear hb)
    | (go_at_call 25; refine (ou_N HO.out n 1 (by simp) (by decide) (by decide) (by have := HN.out; omega)).mono ?_; rintro e w2 ⟨rfl, F2, ho⟩; have HO2 := Lib.hid ho; clear ho))
  go_loopw [15] (fun i wr => ∃ k : Nat, k ≤ n ∧ i = .int .i64 k ∧ Hid (∃ F, Ou W w1.heap.size (treeK ps n k) F wr)) (fun i _ => n - (intOf i).toNat)
  case atStart => exact ⟨0, Nat.zero_le _, rfl, Lib.hid ⟨F2, by have := HO2.out; simpa [treeK] using this⟩⟩
  case round =>
    obtain ⟨k, hk, rfl, HS⟩ := hrel
    by_cases hlt : k < n
    · obtain ⟨F, hs⟩ := HS.out
      obtain ⟨b, o, ⟨m, s⟩, rfl, hx, c0, c1⟩ := atP (HR.out.below hs.2.2) k hlt
      have hlt' : (k : Int) < (n : Int) := by omega
      obtain ⟨m0, m1, m2⟩ := HM.out _ (List.mem_of_getElem? hx)
      simp only at c0 c1 m0 m1 m2
      obtain ⟨v, rfl⟩ := Int.eq_ofNat_of_zero_le m0
      have HT := Lib.hid (treeK_next (n := n) hx)
      have HS1 := Lib.hid (ob_start hs #[.int .i64 v, .string s] 68)
      have HS60 := Lib.hid (named_60 m2)
      have HV := Lib.hid (show v < 256 ^ 1 by omega)
      clear hx hs m0 m1 m2
      go_wp2_with (first
        | (go_at_call 25; refine (ob_N HS1.out v 1 (by have := HK.out k; omega) (by decide) (by decide) HV.out).mono ?_; rintro e w3 ⟨rfl, F3, ho⟩; have HO3 := Lib.hid ho; have c2 := ho.cell 1 (.string s) rfl; clear ho)
        | (go_at_call 24; refine (ob_Text HO3.out s (by rw [List.length_append, bytesOf_length]; have := HK.out k; omega) (by have := HS60.out; omega)).mono ?_; rintro e w4 ⟨rfl, F4, ho⟩; have HO4 := Lib.hid (show ∃ F, Ou W w1.heap.size (treeK ps n (k + 1)) F w4 from ⟨F4, by rw [HT.out]; exact ho.1⟩); clear ho))
      go_roundw
      case rel => first | exact ⟨k + 1, by omega, by go_num, HO4⟩ | ((repeat apply Exists.intro); exact ⟨⟨k + 1, by omega, by go_num, HO4⟩, rfl⟩)
      case measure => (show n - ((k : Int) + 1).toNat < n - k; omega)
    · obtain rfl : k = n := by omega
      have HE : Hid (treeK ps k k = treeL ps) := Lib.hid (by unfold treeK treeL; rw [List.take_of_length_le (by rw [HR.out.1]; omega), HR.out.1])
      obtain ⟨F, hs⟩ := HS.out
      rw [HE.out] at hs
      have HP := Lib.hid (put_any hs 3 (by decide) (by decide) _ rfl (by rw [← HE.out]; have := HK.out k; omega))
      clear hs
      go_wp2_with (go_at_call 26; refine HP.out.mono ?_; rintro e w3 ⟨g, mm, rfl, hm⟩; have HM3 := Lib.hid hm; clear hm)
      go_ret2
      exact ⟨g, mm, rfl, HM3.out⟩
end Go.Proofs.YtklmbiekpilkhaaGreatDoor.idx
