/- Words in bytes; a message's fields. -/
import Derived.Test.YtcepcamedmiinaaGreatDoorMe1
namespace Go.Proofs.YtcepcamedmiinaaGreatDoor.sea
open Go.ChangeShapes Go.WideShapes Go.ChangeAt Go.RowKit Go.Maps Go.WideMaps
open Go.Proofs.YtcepcamedmiinaaGreatDoor.codec (Bytes vals)
open Go.Proofs.YtcepcamedmiinaaGreatDoor.row (Rd Fm)
open Go.Proofs.YtcepcamedmiinaaGreatDoor.hd (Sl)
set_option linter.unusedVariables false
set_option maxRecDepth 100000
set_option linter.unusedSimpArgs false

theorem bytes_cells {w : World} {g n : Nat} {l : List Nat} (h : Bytes w (some ⟨g, 0, none⟩) n l) (i : Nat) (hi : i < n) : w.cell? ((⟨g, 0, none⟩ : Addr).add i) = some (.int .u8 ((l.map Int.ofNat).getD i 0)) := by
  obtain ⟨b, o, e, hc⟩ := h.2.2 (by omega)
  cases e
  rw [codec.add_none, hc i hi]
  have hi' : i < l.length := by have := h.1; omega
  simp [List.getD, hi']
theorem contains_any (w : World) (g n h k : Nat) (a b : List Nat) (ha : Bytes w (some ⟨g, 0, none⟩) n a) (hb : Bytes w (some ⟨h, 0, none⟩) k b) (hn : n < 4294967281) (hk : k ≤ 140737488355328) (hr : hd.Room w) :
    Calls Tryz.prog 37 #[.slice (some ⟨g, 0, none⟩) n n, .slice (some ⟨h, 0, none⟩) k k] w fun e w' => e = .returned (.bool (contB a b)) ∧ ∃ q, w' = w.drewN q := by
  obtain ⟨m, hm⟩ := hr
  refine (Tryz.bytes_Contains_at ⟨g, 0, none⟩ ⟨h, 0, none⟩ n n k k (a.map Int.ofNat) (b.map Int.ofNat) m w (by rw [List.length_map]; exact ha.1) (by rw [List.length_map]; exact hb.1) (hd.nums_byte ha.2.1) (hd.nums_byte hb.2.1) (bytes_cells ha) (bytes_cells hb) (Nat.le_refl _) hn (by omega) hm).mono ?_
  rintro e w' ⟨rfl, q, rfl⟩
  exact ⟨by rw [hd.octs_of, hd.octs_of]; rfl, q, rfl⟩
set_option maxHeartbeats 1000000 in
theorem has_any (w : World) (g n h k : Nat) (is : Bool) (a b : List Nat) (ha : Bytes w (some ⟨g, 0, none⟩) n a) (hb : Bytes w (some ⟨h, 0, none⟩) k b) (hn : n < 4294967281) (hk : k ≤ 140737488355328) (hr : hd.Room w) :
    Calls Tryz.prog 35 #[.agg #[.slice (some ⟨g, 0, none⟩) n n, .bool is], .slice (some ⟨h, 0, none⟩) k k] w fun e w' => e = .returned (.bool (is && contB a b)) ∧ Below w.heap.size w w' := by
  obtain ⟨w1, hw1⟩ : ∃ w1, w1 = w.alloc (.cells #[.slice (some ⟨g, 0, none⟩) n n, .bool is] 72) := ⟨_, rfl⟩
  have hb1 : Below w.heap.size w w1 := by rw [hw1]; exact (Below.refl _ _).alloc (Nat.le_refl _) _
  have HC := Lib.hid (contains_any w1 g n h k a b (ha.below (ha.lt) hb1) (hb.below hb.lt hb1) hn hk (hr.below hb1))
  have HB1 := Lib.hid hb1
  have HW1 := Lib.hid hw1
  clear ha hb hr hb1 hw1
  cases is with
  | true =>
    go_enter Tryz.func35, Tryz.ntmps35
    go_wp2_with fail
    rw [← HW1.out]
    refine HC.out.mono ?_
    rintro e w2 ⟨rfl, q, rfl⟩
    go_wp2
    go_ret
    exact ⟨rfl, codec.below_draws HB1.out q⟩
  | false =>
    go_enter Tryz.func35, Tryz.ntmps35
    go_wp2_with fail
    rw [← HW1.out]
    go_ret
    exact ⟨rfl, HB1.out⟩
theorem lines_sum : ∀ (k N : Nat) (l : List Nat), l.length ≤ N → ((hd.linesF k l).map List.length).sum ≤ k * N
  | 0, N, l, _ => by simp [hd.linesF]
  | k + 1, N, l, h => by
    rw [hd.linesF, Nat.add_mul, Nat.one_mul]
    split
    · simp
    · split
      · simp
      · have := lines_sum k N (l.drop (hd.nx l)) (by rw [List.length_drop]; omega)
        have h2 := hd.ln_le l
        simp
        omega
theorem run_len (nm : ByteArray) : ∀ (ls : List (List Nat)) (s : Bool × List Nat), (hd.runF nm s ls).2.length ≤ s.2.length + (ls.map List.length).sum
  | [], s => by simp [hd.runF]
  | x :: r, s => by
    rw [hd.runF]
    split
    · simp
    · have h1 := run_len nm r (hd.stepF nm s x)
      have h2 : (hd.stepF nm s x).2.length ≤ s.2.length + x.length := by
        unfold hd.stepF
        split
        · simp
        · cases hp : hd.parseL x with
          | none => simp
          | some ab =>
            obtain ⟨a, b⟩ := ab
            have := (hd.parse_len hp).2
            simp only
            split
            · simp; omega
            · simp
      simp
      omega
theorem trim_len (l : List Nat) : (hd.trimL l).length ≤ l.length := by
  unfold hd.trimL
  rw [List.length_map]
  have h1 : (Lib.trimS (hd.octs l) [32, 9]).length ≤ (hd.octs l).length := by
    unfold Lib.trimS
    first
      | exact Nat.le_trans (List.dropWhile_sublist _).length_le (Lib.trimRightS_len_le _ _)
      | exact Nat.le_trans (Lib.trimRightS_len_le _ _) (List.dropWhile_sublist _).length_le
  rw [hd.octs_length] at h1
  exact h1
theorem fld_len (nm : ByteArray) (o : List Nat) (ho : o.length ≤ 60000) : (hd.trimL (hd.runF nm (false, []) (hd.linesOf o)).2).length ≤ 3600000000 := by
  refine Nat.le_trans (trim_len _) (Nat.le_trans (run_len nm _ _) ?_)
  have h1 := lines_sum o.length o.length o (Nat.le_refl _)
  have h2 : o.length * o.length ≤ 60000 * 60000 := Nat.mul_le_mul ho ho
  unfold hd.linesOf
  simp
  omega
theorem fldV_len (nm : ByteArray) (o : List Nat) (ho : o.length ≤ 60000) : (fldV nm o).length ≤ 3600000000 := by
  unfold fldV
  rw [lowL_len, nums_len, hd.strOf_size]
  exact fld_len nm o ho
/-- What asking for a field answers. -/
def FieldAns (n0 mb : Nat) (D : Md) (nm : ByteArray) (w : World) (e : Ending) (w' : World) : Prop :=
  ∃ g n, e = .returned (.agg #[.slice (some ⟨g, 0, none⟩) n n, .bool (fldB nm D.oct)]) ∧ MS n0 mb D w' ∧ Gone n0 mb w w' ∧ Bytes w' (some ⟨g, 0, none⟩) n (fldV nm D.oct)
theorem valSize (cs : Array Value) (h : cs.size = 2) : (Tryz.prog.info? 72).map (·.size) = some cs.size := by
  rw [h]
  kernel_rfl
theorem val_new (w : World) (v u : Value) : (w.alloc (.cells #[v, u] 72)).heap[w.heap.size]? = some (.cells #[v, u] 72 (0, 0)) := heap_alloc_new _ _
/-- A field that was asked for before. -/
theorem field_old (n0 mb : Nat) (D : Md) (nm : ByteArray) (hnm : nm.size ≤ 100) (w : World) (dt : Int) (A : Option Addr) (on oc : Nat) (sa se : Value) (fb n : Nat) (M : DataW Value) (hM : MB n0 mb D dt A on oc sa se (.map (some fb)) w) (hown : w.ownsMap Tryz.prog 9 raw fb n M) (hH : Held M) (hy : hs M nm = true)
    (g : Nat) (hA : At M nm.data.toList = .agg #[.slice (some ⟨g, 0, none⟩) (fldV nm D.oct).length (fldV nm D.oct).length, .bool (fldB nm D.oct)]) (hB : Bytes w (some ⟨g, 0, none⟩) (fldV nm D.oct).length (fldV nm D.oct)) :
    Calls Tryz.prog 34 #[.pointer (some ⟨mb, 0, none⟩), .string nm] w (FieldAns n0 mb D nm w) := by
  have hlk : ∀ w', Below w.heap.size w w' → (Instr.lookup 50 (.map (some fb)) (.string nm) true).run Tryz.prog w' = .ok (.tuple #[.agg #[.slice (some ⟨g, 0, none⟩) (fldV nm D.oct).length (fldV nm D.oct).length, .bool (fldB nm D.oct)], .bool true]) w' := fun w' hb => by
    have h9 := look_at (hown.kept (row := none) ⟨hb.os, hb.tape, hb.output, hb.size, fun i hi _ => hb.block i hi⟩ (by simp)) hH nm (by unfold maxLen; omega)
    rw [hA, hy] at h9
    exact h9
  have HM := Lib.hid hM
  have HB := Lib.hid hB
  obtain ⟨w1, hw1⟩ : ∃ w1, w1 = w.alloc (.cells #[.slice none 0 0, .bool false] 72) := ⟨_, rfl⟩
  have hb1 : Below w.heap.size w w1 := by rw [hw1]; exact (Below.refl _ _).alloc (Nat.le_refl _) _
  have hl1 := hlk w1 hb1
  have hM1 := hM.below hb1
  obtain ⟨_, _, _, _, _, _, _, _, c9, fz⟩ := hM1.cells
  have hlt := hM1.lt.1
  have h4 : w1.heap[w.heap.size]? = some (.cells #[.slice none 0 0, .bool false] 72 (0, 0)) := by rw [hw1]; exact heap_alloc_new _ _
  have HW1 := Lib.hid hw1
  have HB1 := Lib.hid hb1
  have H4 := Lib.hid h4
  unfold FieldAns
  generalize hz : (fldV nm D.oct).length = z at *
  have HZ := Lib.hid hz
  clear hM hown hH hy hA hB hlk hM1 hw1 hb1 h4 hz
  generalize hfb : fldB nm D.oct = is at *
  have HIs := Lib.hid hfb
  clear hfb
  go_enter Tryz.func34, Tryz.ntmps34
  go_upto_region 1 with fail
  rw [← HW1.out]
  have h4' := (heap_alloc_old w1 (.cells #[.slice (some ⟨g, 0, none⟩) z z, .bool is] 72) (Array.getElem?_eq_some_iff.1 H4.out).1).trans H4.out
  have b0 := sq.cell_at h4' 0 _ rfl
  have b1 := sq.cell_at h4' 1 _ rfl
  have z0 := frozen_of_row _ _ 0 _ _ h4'
  have z1 := frozen_of_row _ _ 1 _ _ h4'
  have HT := Lib.hid (sq.two h4' rfl (.slice (some ⟨g, 0, none⟩) z z) (.bool is))
  have HB2 := Lib.hid (HB1.out.alloc HB1.out.size (.cells #[.slice (some ⟨g, 0, none⟩) z z, .bool is] 72))
  clear h4'
  go_wp2_with fail
  refine bodyPost_ret (results_cell_row Tryz.results34 _ _ w.heap.size _ _ _ _ rfl HT.out.1 Tryz.underlying72 rfl (valSize _ rfl)) rfl ?_
  have hbel := HT.out.2.2 w.heap.size w HB2.out (Nat.le_refl _)
  exact ⟨g, z, rfl, (HM.out.below hbel).ms, gone_of HM.out.lt.2.2 hbel, HB.out.below HB.out.lt hbel⟩
/-- A map is made for the fields. -/
theorem MB.newMap {n0 mb : Nat} {D : Md} {dt : Int} {A : Option Addr} {on oc : Nat} {sa se : Value} {w : World} (h : MB n0 mb D dt A on oc sa se (.map none) w) :
    MB n0 mb D dt A on oc sa se (.map (some w.heap.size)) ((w.alloc (.map #[] 0)).setCell ⟨mb, 9, none⟩ (.map (some w.heap.size))) := by
  have hl := h.lt
  have hb : Below w.heap.size w (w.alloc (.map #[] 0)) := (Below.refl _ _).alloc (Nat.le_refl _) _
  have ht := set_touch (w.alloc (.map #[] 0)) mb 9 (.map (some w.heap.size))
  have h' := h.below hb
  have lz : ∀ v l, Lz n0 mb (.map none) w v l → Lz n0 mb (.map (some w.heap.size)) (w.alloc (.map #[] 0)) v l := fun v l hz => by
    rcases hz with e | ⟨g, k1, k2, k3, k4, k5, k6⟩
    · exact .inl e
    · exact .inr ⟨g, k1, k2, by rw [size_alloc]; omega, k4, fun e => by cases e; omega, bytes_keep k6 (alloc_keeps _ _ _ k3)⟩
  obtain ⟨h1, h2, h3, h4, h5, _, _, _, w0, h9, h10, h11⟩ := h'
  refine ⟨?_, ⟨h2.1.touch (fun a ha h0 e => ?_) ht, h2.2⟩, h3, h4, h5, (lz _ _ h.2.2.2.2.2.1).touch ht (fun g hg _ e => hg e), (lz _ _ h.2.2.2.2.2.2.1).touch ht (fun g hg _ e => hg e), ?_, w0, h9, h10, h11.trans (ht.toBelow _ (by rw [size_alloc]; omega) (fun i hi e => by omega))⟩
  · rw [heap_setCell_same _ mb 9 _ _ _ h1]
    rfl
  · have := h4 a ha h0
    omega
  · refine .inr ⟨w.heap.size, 0, .map [], rfl, by omega, by omega, ?_, Nat.zero_le _, fun s => ⟨noVal, by simp [DataW.atKey]⟩, fun nm hn => (by simp [hs, Maps.has] at hn)⟩
    have := (World.ownsMap_made w Tryz.prog 9 raw).setCell (a := ⟨mb, 9, none⟩) (by show w.heap.size ≠ mb; omega) (.map (some w.heap.size))
    exact this
/-- A field more is kept. -/
theorem MB.put {n0 mb : Nat} {D : Md} {dt : Int} {A : Option Addr} {on oc : Nat} {sa se : Value} {w w' : World} {fb n : Nat} {M : DataW Value} (h : MB n0 mb D dt A on oc sa se (.map (some fb)) w)
    (hfb : n0 ≤ fb) (hmb : fb ≠ mb) (hm : IsMap M) (hn : n ≤ cnt M) (hH : Held M) (hF : ∀ nm, hs M nm = true → ∃ g, At M nm.data.toList = .agg #[.slice (some ⟨g, 0, none⟩) (fldV nm D.oct).length (fldV nm D.oct).length, .bool (fldB nm D.oct)] ∧ n0 ≤ g ∧ g < w.heap.size ∧ g ≠ mb ∧ g ≠ fb ∧ Bytes w (some ⟨g, 0, none⟩) (fldV nm D.oct).length (fldV nm D.oct))
    {nm : ByteArray} (hnm : nm = nSUBJECT ∨ nm = nFROM ∨ nm = nTO) (hno : hs M nm = false) {g : Nat} (hg0 : n0 ≤ g) (hg1 : g < w'.heap.size) (hg2 : g ≠ mb) (hg3 : g ≠ fb) (hB : Bytes w' (some ⟨g, 0, none⟩) (fldV nm D.oct).length (fldV nm D.oct))
    (ho : w'.ownsMap Tryz.prog 9 raw fb (n + 1) (M.put (.string nm.data.toList) (.held (.agg #[.slice (some ⟨g, 0, none⟩) (fldV nm D.oct).length (fldV nm D.oct).length, .bool (fldB nm D.oct)])))) (ht : codec.Touch (fun x => x = fb) w w') :
    MB n0 mb D dt A on oc sa se (.map (some fb)) w' := by
  have hl := h.lt
  obtain ⟨h1, h2, h3, h4, h5, h6, h7, _, w0, h9, h10, h11⟩ := h
  refine ⟨(ht.2.2.2.2 mb hl.1 (fun e => hmb e.symm)).trans h1, ⟨h2.1.touch (fun a ha h0 e => ?_) ht, h2.2⟩, h3, h4, h5, h6.touch ht (fun g _ hg e => hg (by rw [e])), h7.touch ht (fun g _ hg e => hg (by rw [e])), ?_, w0, h9, h10, h11.trans (ht.toBelow _ (by omega) (fun i hi e => by omega))⟩
  · have := h4 a ha h0
    omega
  · refine .inr ⟨fb, n + 1, _, rfl, hfb, hmb, ho, by rw [cnt_put hm hnm hno]; omega, Held_put hm hH _ _, fun x hx => ?_⟩
    rw [hs_put hm] at hx
    rw [At_put hm]
    by_cases e : x = nm
    · subst e
      rw [if_pos rfl]
      exact ⟨g, rfl, hg0, hg1, hg2, hg3, hB⟩
    · rw [if_neg e] at hx
      rw [if_neg (fun e2 => e (ByteArray.ext (Array.toList_inj.1 e2)))]
      obtain ⟨g', k1, k2, k3, k4, k5, k6⟩ := hF x hx
      exact ⟨g', k1, k2, Nat.lt_of_lt_of_le k3 ht.2.2.2.1, k4, k5, bytes_keep k6 (ht.2.2.2.2 g' k3 k5)⟩
end Go.Proofs.YtcepcamedmiinaaGreatDoor.sea
