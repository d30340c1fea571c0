/- A restart. -/
import Derived.Test.YtedhbcaakdfcbaaU
import Derived.Deep.RegionHeld3
import Derived.Deep.MidRow
import Derived.IntWalk
namespace Go.Proofs.Ytedhbcaakdfcbaa.disk
open Go.ChangeShapes Go.WideShapes Go.ChangeAt Go.RowKit Go.Maps Go.WideMaps Go.Sort Go.Shelf
set_option linter.unusedVariables false
set_option linter.unusedSimpArgs false

/-- What a restart makes of one file. -/
def rstep (keep : List Int) (st : FM × Nat × Int) (k : List UInt8) : FM × Nat × Int :=
  if (fileAt st.1 k).ever = true ∧ (fileAt st.1 k).safe = (fileAt st.1 k).l.length then st
  else (cutFm st.1 k ((fileAt st.1 k).safe + (keptOf keep st.2.1 ((fileAt st.1 k).l.length - (fileAt st.1 k).safe)).toNat), st.2.1 + 1,
    wrap64 (wrap64 (st.2.2 - lenAt st.1 k) + (((fileAt st.1 k).safe + (keptOf keep st.2.1 ((fileAt st.1 k).l.length - (fileAt st.1 k).safe)).toNat : Nat) : Int)))
def rfold (keep : List Int) (fm : FM) (u : Int) (ns : List (List UInt8)) : FM × Nat × Int := ns.foldl (rstep keep) (fm, 0, u)
theorem cutFm_other {fm : FM} {k s : List UInt8} {left : Nat} (h : s ≠ k) : cutFm fm k left s = fm s := by
  unfold cutFm
  split
  · simp [erase, h]
  · simp [upd, h]
theorem rstep_other {keep : List Int} {st : FM × Nat × Int} {k s : List UInt8} (h : s ≠ k) : (rstep keep st k).1 s = st.1 s := by
  unfold rstep
  split
  · rfl
  · exact cutFm_other h
theorem rfold_other {keep : List Int} {s : List UInt8} : ∀ (ns : List (List UInt8)) (st : FM × Nat × Int), s ∉ ns → (ns.foldl (rstep keep) st).1 s = st.1 s
  | [], st, _ => rfl
  | k :: ns, st, h => by
    simp at h
    rw [List.foldl_cons, rfold_other ns _ h.2, rstep_other h.1]
theorem rfold_nth {keep : List Int} : ∀ (ns : List (List UInt8)) (st : FM × Nat × Int), (ns.foldl (rstep keep) st).2.1 ≤ st.2.1 + ns.length
  | [], st => by simp
  | k :: ns, st => by
    have := rfold_nth (keep := keep) ns (rstep keep st k)
    have h : (rstep keep st k).2.1 ≤ st.2.1 + 1 := by
      unfold rstep
      split <;> simp
    simp only [List.foldl_cons, List.length_cons]
    omega
/-- The loop's state. -/
structure RS (w0 : World) (base p : Nat) (mb : Option Nat) (D : DataW Value) (c : Cfg) (fm : FM) (N : Nat) (keep : List Int) (ns : List (List UInt8)) (w : World) : Prop where
  ex : ∃ mb' D', Dsk w base p mb' D' { c with used := (rfold keep fm c.used ns).2.2 } (rfold keep fm c.used ns).1 N ∧ Touch (Foot p mb D) w0 w ∧ ∀ j, Foot p mb' D' j → Foot p mb D j ∨ w0.heap.size ≤ j
theorem encStr_def (x : List UInt8) : encStr x = .string ⟨x.toArray⟩ := by rfl
theorem Dsk.foot_lt {w : World} {base p : Nat} {mb : Option Nat} {D : DataW Value} {c : Cfg} {fm : FM} {N : Nat} (h : Dsk w base p mb D c fm N) : ∀ j, Foot p mb D j → base ≤ j ∧ j < w.heap.size := by
  rintro j (rfl | e | ⟨s, e⟩)
  · exact ⟨h.pb, h.facts.2.2.2.2.2.2.2⟩
  · exact ⟨(h.map j e).1, (h.map j e).2.2.lt⟩
  · exact h.blk_lt s j e
/-- A name of the row. -/
theorem name_at {w w' : World} {B : Nat} {v : Value} {ns : List (List UInt8)} {F : Nat → Prop} (h : w.ownsRow B 9 1 v ns.length (ns.map encStr)) (ht : Touch F w w') (hF : ∀ g, v.ownBlock = some g → ¬ F g) {i : Nat} {k : List UInt8} (hk : ns[i]? = some k) :
    ∃ g cap, v = .slice (some ⟨g, 0, none⟩) ns.length cap ∧ w'.cell? ⟨g, i, none⟩ = some (.string ⟨k.toArray⟩) := by
  have hi : i < ns.length := (List.getElem?_eq_some_iff.1 hk).1
  rcases h.2 with ⟨_, h0⟩ | ⟨g, cap, cur, e, hB, hg, _⟩
  · omega
  · have hc := h.cells (g := g) (by rw [e]; rfl) i (encStr k) (by simp [hk])
    have hlt : g < w.heap.size := (Array.getElem?_eq_some_iff.1 hg).1
    have hh := ht.2.2.2.2 g hlt (hF g (by rw [e]; rfl))
    rw [add_none, Nat.zero_add] at hc
    refine ⟨g, cap, e, ?_⟩
    rw [← encStr_def, ← hc]
    simp [World.cell?, hh]
theorem range_box {w : World} {X : Nat} {x y z : Value} (h : w.heap[X]? = some (.cells #[x, y, z] 64 (0, 0))) (q : Nat) : (w.drewN q).rangeAt X 0 [x, y, z] := by
  intro j v hv
  rw [Nat.zero_add]
  have : (w.drewN q).cell? ⟨X, j, none⟩ = #[x, y, z][j]? := cell_of_row (w.drewN q) X j _ 64 (0, 0) h
  rw [this]
  simpa using hv
theorem keys_le {w : World} {base p : Nat} {mb : Option Nat} {D : DataW Value} {c : Cfg} {fm : FM} {N : Nat} (h : Dsk w base p mb D c fm N) : (strKeys D).length ≤ Maps.size D := by
  obtain ⟨es, rfl⟩ := h.isMap
  simp [strKeys, Maps.size]
set_option maxRecDepth 50000 in
set_option maxHeartbeats 4000000 in
theorem restart_any {w : World} {base p : Nat} {mb : Option Nat} {D : DataW Value} {c : Cfg} {fm : FM} {N M : Nat} (h : Dsk w base p mb D c fm N) (hM : ∀ s f, fm s = some f → f.l.length ≤ M) (hMM : M ≤ 1000000) (hN : N < 1000000) (hB : base ≤ w.heap.size)
    (A : Option Addr) (n cp : Nat) (keep : List Int) (hk : Ints w A n keep) (hold : ∀ ad, A = some ad → 0 < n → ad.block < base) (hn : n ≤ 1000000) :
    Calls Try.prog 18 #[.pointer (some ⟨p, 0, none⟩), .slice A n cp] w fun e w' => e = .returned (.tuple #[]) ∧ ∃ ns mb' D', Listed fm ns ∧ Dsk w' base p mb' D' ⟨c.cap, (rfold keep fm c.used ns).2.2, false, 0, false⟩ (rfold keep fm c.used ns).1 N ∧ Touch (Foot p mb D) w w' ∧ ∀ j, Foot p mb' D' j → Foot p mb D j ∨ w.heap.size ≤ j := by
  have HD := Lib.hid h
  have HNm := Lib.hid (names_any h (by omega))
  have HK := Lib.hid hk
  have HO := Lib.hid hold
  have HMx := Lib.hid hM
  clear h hk hold hM
  go_enter Try.func18, Try.ntmps18
  go_wp2_with fail
  refine HNm.out.mono ?_
  rintro e w1 ⟨v, ns, rfl, hL, hown, hnil, hb⟩
  obtain ⟨Av, cv, rfl⟩ : ∃ Av cv, v = .slice Av ns.length cv := by
    rcases hown.2 with ⟨e, h0⟩ | ⟨g, cap, cur, e, _⟩
    · exact ⟨none, 0, by rw [h0]; exact e⟩
    · exact ⟨_, _, e⟩
  have HL := Lib.hid hL
  have HOwn := Lib.hid hown
  have HBl := Lib.hid hb
  have HD1 := Lib.hid (HD.out.below hb)
  have HNF := Lib.hid (show ∀ g, (Value.slice Av ns.length cv).ownBlock = some g → ¬ Foot p mb D g from fun g e hf => by
    have h1 := (hown.lt g e).1
    have h2 := (HD.out.foot_lt g hf).2
    omega)
  have HK1 := Lib.hid (HK.out.touch (F := fun _ => False) (fun _ _ _ h => h) (touch_below hb))
  have hB1 : base ≤ w1.heap.size := Nat.le_trans hB hb.size
  have HLn := Lib.hid (show ns.length ≤ N from by
    have h1 := HD.out.keys
    have h2 := listed_of HD.out (List.Perm.refl _)
    have h3 := hL.same h2
    rw [h3, List.length_mergeSort]
    exact Nat.le_trans (keys_le HD.out) HD.out.sz)
  have hnN := HLn.out
  have HR0 : Hid (RS w1 base p mb D c fm N keep (ns.take 0) w1) := ⟨mb, D, by simpa [rfold] using HD1.out, Touch.refl _ _, fun j hj => .inl hj⟩
  clear hL hown hnil hb HNm HK HD
  go_wp2
  go_loopw [4, 13] (fun t i wr => ∃ k : Nat, k ≤ ns.length ∧ i = .int .i64 k ∧ t = .int .i64 ((rfold keep fm c.used (ns.take k)).2.1 : Nat) ∧ RS w1 base p mb D c fm N keep (ns.take k) wr) (fun _ i _ => ns.length - (intOf i).toNat)
  case atStart => exact ⟨0, Nat.zero_le _, rfl, rfl, HR0.out⟩
  case round =>
    clear HR0
    obtain ⟨k, hkl, rfl, rfl, ⟨mb', D', hd, ht, hfo⟩⟩ := hrel
    obtain ⟨st, hst⟩ : ∃ st, st = rfold keep fm c.used (ns.take k) := ⟨_, rfl⟩
    rw [← hst] at hd ⊢
    have HSt := Lib.hid hst
    have HDk := Lib.hid hd
    have HTk := Lib.hid ht
    have HFo := Lib.hid hfo
    clear hst hd ht hfo
    by_cases hlt : k < ns.length
    · obtain ⟨x, hx⟩ : ∃ x, ns[k]? = some x := ⟨_, List.getElem?_eq_getElem hlt⟩
      obtain ⟨g, cap, e, hcx⟩ := name_at HOwn.out HTk.out HNF.out hx
      cases e
      obtain ⟨S, hS⟩ : ∃ S : ByteArray, S = ⟨x.toArray⟩ := ⟨_, rfl⟩
      rw [← hS] at hcx
      have hSx : S.data.toList = x := by rw [hS]
      have hxin : x ∈ ns := List.mem_of_getElem? hx
      have hsome : (fm x).isSome = true := (HL.out.mem x).1 hxin
      have hnot : x ∉ ns.take k := by
        intro hm
        obtain ⟨j, hj, e⟩ := List.mem_iff_getElem.1 hm
        have hj' : j < k := by simp at hj; omega
        have e2 : ns[j]'(by omega) = ns[k] := by
          rw [(List.getElem?_eq_some_iff.1 hx).2, ← e]
          simp
        exact List.pairwise_iff_getElem.1 HL.out.nodup j k (by omega) hlt hj' e2
      have hfx : st.1 x = fm x := by rw [HSt.out]; exact rfold_other _ _ hnot
      have hfa : fileAt st.1 x = fileAt fm x := by unfold fileAt; rw [hfx]
      obtain ⟨f0, hf0⟩ := Option.isSome_iff_exists.1 hsome
      have hlM : (fileAt st.1 x).l.length ≤ M := by rw [hfa, fileAt_some hf0]; exact HMx.out x f0 hf0
      have hSz : S.size ≤ 281474976710656 := by
        have := HD1.out.short x hsome
        have e : S.size = x.length := by rw [← hSx]; exact Array.length_toList.symm
        omega
      obtain ⟨A', n', cp', hat, hown', h256, hsf, hn', hcp'⟩ := HDk.out.whole x
      have hlk := (HDk.out.look S (by unfold maxLen; omega)).1
      rw [hSx, hat] at hlk
      obtain ⟨d0, d1, d2, d3, d4, d5, hfz, hplt⟩ := HDk.out.facts
      have HNth := Lib.hid (show st.2.1 ≤ k from by
        rw [HSt.out]
        have := rfold_nth (keep := keep) (ns.take k) (fm, 0, c.used)
        simp at this
        unfold rfold
        omega)
      have HRec := Lib.hid (show rfold keep fm c.used (ns.take (k + 1)) = rstep keep st x from by
        rw [HSt.out]
        unfold rfold
        rw [List.take_add_one, hx]
        simp)
      have HAt := Lib.hid hat
      have HSx := Lib.hid hSx
      have HSome := Lib.hid (show (st.1 x).isSome from by rw [hfx]; exact hsome)
      have HLM := Lib.hid hlM
      have HSz := Lib.hid hSz
      have HSf := Lib.hid hsf
      have HN' := Lib.hid hn'
      have hn'M : n' ≤ M := by omega
      have hsn : (fileAt st.1 x).safe ≤ n' := by omega
      obtain ⟨sf, hsfe⟩ : ∃ sf, sf = (fileAt st.1 x).safe := ⟨_, rfl⟩
      obtain ⟨ev, heve⟩ : ∃ ev, ev = (fileAt st.1 x).ever := ⟨_, rfl⟩
      rw [← hsfe, ← heve] at hlk
      rw [← hsfe] at hsn
      have HSe := Lib.hid hsfe
      have HEe := Lib.hid heve
      clear hS hSx hxin hsome hnot hfx hfa hf0 hlM hSz hat hown' h256 hsf hn' hcp' d0 d1 d3 d4 d5 hfz hplt hx hsfe heve
      have hBox := Lib.hid (show ∀ w2, RowKit.Below (wr.alloc (.cells #[.slice A' n' cp', .int .i64 (sf : Nat), .bool ev] 64)).heap.size (wr.alloc (.cells #[.slice A' n' cp', .int .i64 (sf : Nat), .bool ev] 64)) w2 → w2.heap[wr.heap.size]? = some (.cells #[.slice A' n' cp', .int .i64 (sf : Nat), .bool ev] 64 (0, 0)) ∧ RowKit.Below wr.heap.size wr w2 from fun w2 h => ⟨(h.block _ (by simp)).trans (heap_alloc_new wr _), ((Below.refl _ _).alloc (Nat.le_refl _) _).trans (h.mono (by simp))⟩)
      by_cases hw : ev = true ∧ sf = n'
      · obtain ⟨rfl, rfl⟩ := hw
        go_wp2_with (go_at_call 38; refine (whole_any _ A' sf cp' sf true).mono ?_; rintro e w2 ⟨rfl, hb2⟩; have HB2 := Lib.hid (hBox.out _ hb2); clear hb2)
        have HRec' := Lib.hid (show rfold keep fm c.used (ns.take (k + 1)) = st from by
          rw [HRec.out]
          unfold rstep
          rw [if_pos ⟨HEe.out.symm, by rw [← HSe.out, ← HN'.out]⟩])
        refine ⟨⟨k + 1, by omega, by go_num, by rw [HRec'.out], ⟨mb', D', ?_, HTk.out.below HB2.out.2, HFo.out⟩⟩, by simp [intOf]; omega⟩
        rw [HRec'.out]
        exact HDk.out.below HB2.out.2
      · have hwf : (ev && decide (sf = n')) = false := by
          cases ev
          · rfl
          · simp at hw ⊢
            exact hw
        obtain ⟨kv, hkv⟩ := Int.eq_ofNat_of_zero_le (keptOf_range keep st.2.1 (n' - sf)).1
        have hkr : kv ≤ n' - sf := by
          have := (keptOf_range keep st.2.1 (n' - sf)).2
          omega
        have HKv := Lib.hid hkv
        have HNw := Lib.hid (show ¬ ((fileAt st.1 x).ever = true ∧ (fileAt st.1 x).safe = (fileAt st.1 x).l.length) from by
          rw [← HEe.out, ← HSe.out, ← HN'.out]
          exact hw)
        have hnth : st.2.1 ≤ 1000000 := by have := HNth.out; omega
        have HKt := Lib.hid (HK1.out.touch (fun ad e h0 hf => by
          have h1 := (HD1.out.foot_lt _ hf).1
          have h2 := HO.out ad e h0
          omega) HTk.out)
        have HKept := Lib.hid (show ∀ w2, RowKit.Below wr.heap.size wr w2 → ∀ q, Calls Try.prog 40 #[.slice A n cp, .int .i64 (st.2.1 : Nat), .int .i64 ((n' : Int) - (sf : Int))] (w2.drewN q) fun e w' => e = .returned (.int .i64 (kv : Nat)) ∧ w' = w2.drewN q from fun w2 hb q => by
          rw [show ((n' : Int) - (sf : Int)) = ((n' - sf : Nat) : Int) by omega]
          have := kept_any (w2.drewN q) A n cp keep st.2.1 (n' - sf) ((HKt.out.touch (F := fun _ => False) (fun _ _ _ h => h) (touch_below hb)).drewN q) hn hnth (by omega)
          rw [HKv.out] at this
          exact this)
        have HCut := Lib.hid (show ∀ w2, RowKit.Below wr.heap.size wr w2 → ∀ q, Calls Try.prog 39 #[.pointer (some ⟨p, 0, none⟩), .string S, .agg #[.slice A' n' cp', .int .i64 (sf : Nat), .bool ev], .int .i64 ((sf : Int) + (kv : Int))] (w2.drewN q) fun e w' => e = .returned (.tuple #[]) ∧ RS w1 base p mb D c fm N keep (ns.take (k + 1)) w' ∧ ∀ j, wr.heap.size ≤ j → j < w2.heap.size → w'.heap[j]? = w2.heap[j]? from fun w2 hb q => by
          have hb' := hb.trans (below_draws (Below.refl wr.heap.size w2) q)
          have hd2 := HDk.out.below hb'
          have hat2 := HAt.out
          have hlf := HN'.out
          have hse := HSe.out
          rw [show ((sf : Int) + (kv : Int)) = ((sf + kv : Nat) : Int) by omega, HSe.out, HEe.out]
          have := cut_any (w2.drewN q) base p mb' D' _ st.1 N S HSz.out A' n' cp' ((fileAt st.1 x).safe + kv) hd2 (by rw [HSx.out]; exact hat2) (by rw [HSx.out]; omega) (by rw [HSx.out]; exact HSome.out) (by rw [HSx.out]; have := HLM.out; omega) hN (Nat.le_trans hB1 (Nat.le_trans HTk.out.2.2.2.1 hb'.size))
          rw [HSx.out] at this
          refine this.mono ?_
          rintro e w' ⟨rfl, mb2, D2, q1, q2, q3⟩
          refine ⟨rfl, ⟨mb2, D2, ?_, ?_, ?_⟩, fun j h1 h2 => q2.2.2.2.2 j h2 (fun hf => by have := (HDk.out.foot_lt j hf).2; omega)⟩
          · rw [HRec.out]
            unfold rstep
            rw [if_neg HNw.out, ← hlf, ← hse, HKv.out, Int.toNat_natCast]
            rw [← hse] at q1
            exact q1
          · exact (HTk.out.below hb').trans (q2.mono fun i hi hf => (HFo.out i hf).imp id id)
          · intro j hj
            rcases q3 j hj with h | h
            · exact HFo.out j h
            · exact .inr (Nat.le_trans HTk.out.2.2.2.1 (Nat.le_trans hb'.size h)))
        have hnthe : Hid ((rstep keep st x).2.1 = st.2.1 + 1) := by
          show _ = _
          unfold rstep
          rw [if_neg HNw.out]
        clear hw hkv HKt
        go_wp2_with (go_at_call 38; refine (whole_any _ A' n' cp' sf ev).mono ?_; rw [hwf]; rintro e w2 ⟨rfl, hb2⟩; have HB2 := Lib.hid (hBox.out _ hb2); clear hb2)
        obtain ⟨c0, c1, c2⟩ := box_cells HB2.out.1
        have hc1 : w2.cell? ⟨wr.heap.size, 1, none⟩ = some (.int .i64 sf) := c1
        have HRow := HB2.out.1
        have HRow := Lib.hid HRow
        have hXl : wr.heap.size < w2.heap.size := (Array.getElem?_eq_some_iff.1 HB2.out.1).1
        have HXl := Lib.hid (And.intro (Nat.le_refl wr.heap.size) hXl)
        have h64 := Try.underlying64
        have hsz64 : (Try.prog.info? 64).map (·.size) = some 3 := by kernel_rfl
        obtain ⟨X, hX⟩ : ∃ X, X = wr.heap.size := ⟨_, rfl⟩
        have HXe := Lib.hid hX
        rw [← hX] at HRow ⊢
        clear hX c2 c0 c1 hc1 hXl
        have hns : (0 : Int) ≤ (n' : Int) - (sf : Int) := by omega
        have hnM2 : (n' : Int) ≤ 1000000 := by omega
        have hkv2 : (kv : Int) ≤ (n' : Int) := by omega
        have hsn2 : (sf : Int) ≤ (n' : Int) := by omega
        refine wp_region_noPanic ?_
        refine wp_region_held_drew (S := fun w' => w'.heap[X]? = some (.cells #[.slice A' n' cp', .int .i64 (sf : Nat), .bool ev] 64 (0, 0))) (by kernel_rfl) HRow.out (fun hHeld => ?_)
        refine wpAnyH_take (i := 0) (v := .pointer (some ⟨p, 0, none⟩)) rfl (by kernel_rfl) (by kernel_rfl) (by kernel_rfl) (fun _ _ _ h => h) (Or.inl ⟨by rfl, fun w' hw' => by obtain ⟨b0, b1, b2⟩ := box_cells hw'; have b1' : w'.cell? ⟨X, 1, none⟩ = some (.int .i64 sf) := b1; clear hw'; go_simp⟩) hHeld ?_
        refine wpAnyH_take (i := 1) (v := .string S) rfl (by kernel_rfl) (by kernel_rfl) (by kernel_rfl) (fun _ _ _ h => h) (Or.inl ⟨by rfl, fun w' hw' => by obtain ⟨b0, b1, b2⟩ := box_cells hw'; have b1' : w'.cell? ⟨X, 1, none⟩ = some (.int .i64 sf) := b1; clear hw'; go_simp⟩) hHeld ?_
        refine wpAnyH_take (i := 2) (v := .agg [.slice A' n' cp', .int .i64 (sf : Nat), .bool ev].toArray) rfl (by kernel_rfl) (by kernel_rfl) (by kernel_rfl) (fun _ _ _ h => h) (yieldsIf_load_mid (by rfl) 64 (.tmp 7) rfl X 0 rfl [.slice A' n' cp', .int .i64 (sf : Nat), .bool ev] _ (fun w' hw' => range_box hw' 0) h64 rfl hsz64) hHeld ?_
        refine wpAnyH_take (i := 3) (v := .pointer (some ⟨X, 1, none⟩)) rfl (by kernel_rfl) (by kernel_rfl) (by kernel_rfl) (fun _ _ _ h => h) (Or.inl ⟨by rfl, fun w' hw' => by obtain ⟨b0, b1, b2⟩ := box_cells hw'; have b1' : w'.cell? ⟨X, 1, none⟩ = some (.int .i64 sf) := b1; clear hw'; go_simp⟩) hHeld ?_
        refine wpAnyH_take (i := 4) (v := .int .i64 sf) rfl (by kernel_rfl) (by kernel_rfl) (by kernel_rfl) (fun _ _ _ h => h) (Or.inl ⟨by rfl, fun w' hw' => by obtain ⟨b0, b1, b2⟩ := box_cells hw'; have b1' : w'.cell? ⟨X, 1, none⟩ = some (.int .i64 sf) := b1; clear hw'; go_simp⟩) hHeld ?_
        refine wpAnyH_take (i := 5) (v := .slice A n cp) rfl (by kernel_rfl) (by kernel_rfl) (by kernel_rfl) (fun _ _ _ h => h) (Or.inl ⟨by rfl, fun w' hw' => by obtain ⟨b0, b1, b2⟩ := box_cells hw'; have b1' : w'.cell? ⟨X, 1, none⟩ = some (.int .i64 sf) := b1; clear hw'; go_simp⟩) hHeld ?_
        refine wpAnyH_take (i := 6) (v := .int .i64 (st.2.1 : Nat)) rfl (by kernel_rfl) (by kernel_rfl) (by kernel_rfl) (fun _ _ _ h => h) (Or.inl ⟨by rfl, fun w' hw' => by obtain ⟨b0, b1, b2⟩ := box_cells hw'; have b1' : w'.cell? ⟨X, 1, none⟩ = some (.int .i64 sf) := b1; clear hw'; go_simp⟩) hHeld ?_
        refine wpAnyH_take (i := 7) (v := .pointer (some ⟨X, 0, none⟩)) rfl (by kernel_rfl) (by kernel_rfl) (by kernel_rfl) (fun _ _ _ h => h) (Or.inl ⟨by rfl, fun w' hw' => by obtain ⟨b0, b1, b2⟩ := box_cells hw'; have b1' : w'.cell? ⟨X, 1, none⟩ = some (.int .i64 sf) := b1; clear hw'; go_simp⟩) hHeld ?_
        refine wpAnyH_take (i := 8) (v := .slice A' n' cp') rfl (by kernel_rfl) (by kernel_rfl) (by kernel_rfl) (fun _ _ _ h => h) (Or.inl ⟨by rfl, fun w' hw' => by obtain ⟨b0, b1, b2⟩ := box_cells hw'; have b1' : w'.cell? ⟨X, 1, none⟩ = some (.int .i64 sf) := b1; clear hw'; go_simp⟩) hHeld ?_
        refine wpAnyH_take (i := 9) (v := .int .i64 n') rfl (by kernel_rfl) (by kernel_rfl) (by kernel_rfl) (fun _ _ _ h => h) (Or.inl ⟨by rfl, fun w' hw' => by obtain ⟨b0, b1, b2⟩ := box_cells hw'; have b1' : w'.cell? ⟨X, 1, none⟩ = some (.int .i64 sf) := b1; clear hw'; go_simp⟩) hHeld ?_
        refine wpAnyH_take (i := 10) (v := .pointer (some ⟨X, 1, none⟩)) rfl (by kernel_rfl) (by kernel_rfl) (by kernel_rfl) (fun _ _ _ h => h) (Or.inl ⟨by rfl, fun w' hw' => by obtain ⟨b0, b1, b2⟩ := box_cells hw'; have b1' : w'.cell? ⟨X, 1, none⟩ = some (.int .i64 sf) := b1; clear hw'; go_simp⟩) hHeld ?_
        refine wpAnyH_take (i := 11) (v := .int .i64 sf) rfl (by kernel_rfl) (by kernel_rfl) (by kernel_rfl) (fun _ _ _ h => h) (Or.inl ⟨by rfl, fun w' hw' => by obtain ⟨b0, b1, b2⟩ := box_cells hw'; have b1' : w'.cell? ⟨X, 1, none⟩ = some (.int .i64 sf) := b1; clear hw'; go_simp⟩) hHeld ?_
        refine wpAnyH_take (i := 12) (v := .int .i64 ((n' : Int) - (sf : Int))) rfl (by kernel_rfl) (by kernel_rfl) (by kernel_rfl) (fun _ _ _ h => h) (Or.inl ⟨by rfl, fun w' hw' => by obtain ⟨b0, b1, b2⟩ := box_cells hw'; have b1' : w'.cell? ⟨X, 1, none⟩ = some (.int .i64 sf) := b1; clear hw'; go_simp; exact IntWalk.i64_in _ (by omega)⟩) hHeld ?_
        refine wpAnyH_ready (rs := [13]) (by kernel_rfl) (by simp) ?_
        refine AllReadyH.cons rfl (fun K hK => ?_) AllReadyH.nil
        go_simp
        refine (HKept.out w2 HB2.out.2 1).mono ?_
        rintro e w3 ⟨rfl, rfl⟩
        go_wp2_with fail
        refine hK.out _ _ HRow.out (fun hHeld => ?_)
        clear hK K
        refine wpAnyH_take (i := 14) (v := .int .i64 ((sf : Int) + (kv : Int))) rfl (by kernel_rfl) (by kernel_rfl) (by kernel_rfl) (fun _ _ _ h => h) (Or.inl ⟨by rfl, fun w' hw' => by obtain ⟨b0, b1, b2⟩ := box_cells hw'; have b1' : w'.cell? ⟨X, 1, none⟩ = some (.int .i64 sf) := b1; clear hw'; go_simp; exact IntWalk.i64_in _ (by omega)⟩) hHeld ?_
        refine wpAnyH_ready (rs := [15]) (by kernel_rfl) (by simp) ?_
        refine AllReadyH.cons rfl (fun K hK => ?_) AllReadyH.nil
        clear hHeld
        go_simp
        refine (HCut.out w2 HB2.out.2 1).mono ?_
        rintro e w3 ⟨rfl, hrs, hrow⟩
        have HRs := Lib.hid hrs
        have HRow3 := Lib.hid (show w3.heap[X]? = some (.cells #[.slice A' n' cp', .int .i64 (sf : Nat), .bool ev] 64 (0, 0)) from (hrow X (by rw [HXe.out]; exact HXl.out.1) (by rw [HXe.out]; exact HXl.out.2)).trans HRow.out)
        clear hrs hrow
        go_wp2_with fail
        refine hK.out _ _ HRow3.out (fun hHeld => ?_)
        clear hK K
        refine wpAnyH_done (by kernel_rfl) ?_ _
        refine NoPanic.normal ?_
        clear hHeld
        go_wp2
        exact ⟨⟨k + 1, by omega, by go_num, by rw [HRec.out, hnthe.out]; go_num, HRs.out⟩, by simp [intOf]; omega⟩
    · obtain rfl : k = ns.length := by omega
      obtain ⟨d0, d1, d2, d3, d4, d5, hfz, hplt⟩ := HDk.out.facts
      have f3 := hfz 3
      have f4 := hfz 4
      have f5 := hfz 5
      clear hfz d0 d1 d2
      go_wp2
      have hst := HSt.out
      rw [List.take_of_length_le (Nat.le_refl _)] at hst
      subst hst
      go_end0
      refine ⟨rfl, ns, HL.out, mb', D', ?_, ?_, fun j hj => (HFo.out j hj).imp id (fun h => Nat.le_trans HBl.out.size h)⟩
      · exact dsk_own (c := ⟨c.cap, (rfold keep fm c.used ns).2.2, false, 0, c.lost⟩) (dsk_own (c := ⟨c.cap, (rfold keep fm c.used ns).2.2, false, c.fuse, c.lost⟩) (dsk_own (c' := ⟨c.cap, (rfold keep fm c.used ns).2.2, false, c.fuse, c.lost⟩) HDk.out rfl) rfl) rfl
      · have ht := (touch_below (F := Foot p mb D) HBl.out).trans (HTk.out.mono fun i _ h => .inl h)
        exact ((ht.setCell ⟨p, 3, none⟩ (.inr (.inl rfl)) _).setCell ⟨p, 4, none⟩ (.inr (.inl rfl)) _).setCell ⟨p, 5, none⟩ (.inr (.inl rfl)) _
end Go.Proofs.Ytedhbcaakdfcbaa.disk
