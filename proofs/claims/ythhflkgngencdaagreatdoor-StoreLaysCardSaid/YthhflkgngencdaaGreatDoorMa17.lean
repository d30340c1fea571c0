/- A restart. -/
import Derived.Test.YthhflkgngencdaaGreatDoorMa16
import Derived.Deep.RegionHeld3
import Derived.Deep.MidRow
import Derived.IntWalk
namespace Go.Proofs.YthhflkgngencdaaGreatDoor.dis
open Go.Proofs.YthhflkgngencdaaGreatDoor.codec
open Go.ChangeShapes Go.WideShapes Go.ChangeAt Go.RowKit Go.Maps Go.WideMaps Go.Sort Go.Shelf
set_option linter.unusedVariables false
set_option linter.unusedSimpArgs false

/-- What a restart makes of one file. -/
def rstep (keep : List Int) (st : FM × Nat × Int) (k : List UInt8) : FM × Nat × Int :=
  if (fileAt st.1 k).ever = true ∧ (fileAt st.1 k).safe = (fileAt st.1 k).l.length then st
  else (cutFm st.1 k ((fileAt st.1 k).safe + (keptOf keep st.2.1 ((fileAt st.1 k).l.length - (fileAt st.1 k).safe)).toNat), st.2.1 + 1,
    wrap64 (wrap64 (st.2.2 - lenAt st.1 k) + (((fileAt st.1 k).safe + (keptOf keep st.2.1 ((fileAt st.1 k).l.length - (fileAt st.1 k).safe)).toNat : Nat) : Int)))
def rfold (keep : List Int) (fm : FM) (u : Int) (ns : List (List UInt8)) : FM × Nat × Int := ns.foldl (rstep keep) (fm, 0, u)
theorem cutFm_other {fm : FM} {k s : List UInt8} {left : Nat} (h : s ≠ k) : cutFm fm k left s = fm s := by
  unfold cutFm
  split
  · simp [erase, h]
  · simp [upd, h]
theorem rstep_other {keep : List Int} {st : FM × Nat × Int} {k s : List UInt8} (h : s ≠ k) : (rstep keep st k).1 s = st.1 s := by
  unfold rstep
  split
  · rfl
  · exact cutFm_other h
theorem rfold_other {keep : List Int} {s : List UInt8} : ∀ (ns : List (List UInt8)) (st : FM × Nat × Int), s ∉ ns → (ns.foldl (rstep keep) st).1 s = st.1 s
  | [], st, _ => rfl
  | k :: ns, st, h => by
    simp at h
    rw [List.foldl_cons, rfold_other ns _ h.2, rstep_other h.1]
theorem rfold_nth {keep : List Int} : ∀ (ns : List (List UInt8)) (st : FM × Nat × Int), (ns.foldl (rstep keep) st).2.1 ≤ st.2.1 + ns.length
  | [], st => by simp
  | k :: ns, st => by
    have := rfold_nth (keep := keep) ns (rstep keep st k)
    have h : (rstep keep st k).2.1 ≤ st.2.1 + 1 := by
      unfold rstep
      split <;> simp
    simp only [List.foldl_cons, List.length_cons]
    omega
/-- The loop's state. -/
structure RS (w0 : World) (base p : Nat) (mb : Option Nat) (D : DataW Value) (c : Cfg) (fm : FM) (N : Nat) (keep : List Int) (ns : List (List UInt8)) (w : World) : Prop where
  ex : ∃ mb' D', Dsk w base p mb' D' { c with used := (rfold keep fm c.used ns).2.2 } (rfold keep fm c.used ns).1 N ∧ codec.Touch (Foot p mb D) w0 w ∧ ∀ j, Foot p mb' D' j → Foot p mb D j ∨ w0.heap.size ≤ j
theorem encStr_def (x : List UInt8) : encStr x = .string ⟨x.toArray⟩ := by rfl
theorem Dsk.foot_lt {w : World} {base p : Nat} {mb : Option Nat} {D : DataW Value} {c : Cfg} {fm : FM} {N : Nat} (h : Dsk w base p mb D c fm N) : ∀ j, Foot p mb D j → base ≤ j ∧ j < w.heap.size := by
  rintro j (rfl | e | ⟨s, e⟩)
  · exact ⟨h.pb, h.facts.2.2.2.2.2.2.2⟩
  · exact ⟨(h.map j e).1, (h.map j e).2.2.lt⟩
  · exact h.blk_lt s j e
/-- A name of the row. -/
theorem name_at {w w' : World} {B : Nat} {v : Value} {ns : List (List UInt8)} {F : Nat → Prop} (h : w.ownsRow B 9 1 v ns.length (ns.map encStr)) (ht : codec.Touch F w w') (hF : ∀ g, v.ownBlock = some g → ¬ F g) {i : Nat} {k : List UInt8} (hk : ns[i]? = some k) :
    ∃ g cap, v = .slice (some ⟨g, 0, none⟩) ns.length cap ∧ w'.cell? ⟨g, i, none⟩ = some (.string ⟨k.toArray⟩) := by
  have hi : i < ns.length := (List.getElem?_eq_some_iff.1 hk).1
  rcases h.2 with ⟨_, h0⟩ | ⟨g, cap, cur, e, hB, hg, _⟩
  · omega
  · have hc := h.cells (g := g) (by rw [e]; rfl) i (encStr k) (by simp [hk])
    have hlt : g < w.heap.size := (Array.getElem?_eq_some_iff.1 hg).1
    have hh := ht.2.2.2.2 g hlt (hF g (by rw [e]; rfl))
    rw [add_none, Nat.zero_add] at hc
    refine ⟨g, cap, e, ?_⟩
    rw [← encStr_def, ← hc]
    simp [World.cell?, hh]
theorem range_box {w : World} {X : Nat} {x y z : Value} (h : w.heap[X]? = some (.cells #[x, y, z] 93 (0, 0))) (q : Nat) : (w.drewN q).rangeAt X 0 [x, y, z] := by
  intro j v hv
  rw [Nat.zero_add]
  have : (w.drewN q).cell? ⟨X, j, none⟩ = #[x, y, z][j]? := cell_of_row (w.drewN q) X j _ 93 (0, 0) h
  rw [this]
  simpa using hv
theorem keys_le {w : World} {base p : Nat} {mb : Option Nat} {D : DataW Value} {c : Cfg} {fm : FM} {N : Nat} (h : Dsk w base p mb D c fm N) : (strKeys D).length ≤ Maps.size D := by
  obtain ⟨es, rfl⟩ := h.isMap
  simp [strKeys, Maps.size]
set_option maxRecDepth 50000 in
set_option maxHeartbeats 4000000 in
theorem restart_any {w : World} {base p : Nat} {mb : Option Nat} {D : DataW Value} {c : Cfg} {fm : FM} {N M : Nat} (h : Dsk w base p mb D c fm N) (hM : ∀ s f, fm s = some f → f.l.length ≤ M) (hMM : M ≤ 1000000) (hN : N < 1000000) (hB : base ≤ w.heap.size)
    (A : Option Addr) (n cp : Nat) (keep : List Int) (hk : Ints w A n keep) (hold : ∀ ad, A = some ad → 0 < n → ad.block < base) (hn : n ≤ 1000000) :
    Calls Tryz.prog 17 #[.pointer (some ⟨p, 0, none⟩), .slice A n cp] w fun e w' => e = .returned (.tuple #[]) ∧ ∃ ns mb' D', Listed fm ns ∧ Dsk w' base p mb' D' ⟨c.cap, (rfold keep fm c.used ns).2.2, false, 0, false⟩ (rfold keep fm c.used ns).1 N ∧ codec.Touch (Foot p mb D) w w' ∧ ∀ j, Foot p mb' D' j → Foot p mb D j ∨ w.heap.size ≤ j := by
  have HD := Lib.hid h
  have HNm := Lib.hid (names_any h (by omega))
  have HK := Lib.hid hk
  have HO := Lib.hid hold
  have HMx := Lib.hid hM
  clear h hk hold hM
  go_enter Tryz.func17, Tryz.ntmps17
  go_wp2_with fail
  refine HNm.out.mono ?_
  rintro e w1 ⟨v, ns, rfl, hL, hown, hnil, hb⟩
  obtain ⟨Av, cv, rfl⟩ : ∃ Av cv, v = .slice Av ns.length cv := by
    rcases hown.2 with ⟨e, h0⟩ | ⟨g, cap, cur, e, _⟩
    · exact ⟨none, 0, by rw [h0]; exact e⟩
    · exact ⟨_, _, e⟩
  have HL := Lib.hid hL
  have HOwn := Lib.hid hown
  have HBl := Lib.hid hb
  have HD1 := Lib.hid (HD.out.below hb)
  have HNF := Lib.hid (show ∀ g, (Value.slice Av ns.length cv).ownBlock = some g → ¬ Foot p mb D g from fun g e hf => by
    have h1 := (hown.lt g e).1
    have h2 := (HD.out.foot_lt g hf).2
    omega)
  have HK1 := Lib.hid (HK.out.touch (F := fun _ => False) (fun _ _ _ h => h) (touch_below hb))
  have hB1 : base ≤ w1.heap.size := Nat.le_trans hB hb.size
  have HLn := Lib.hid (show ns.length ≤ N from by
    have h1 := HD.out.keys
    have h2 := listed_of HD.out (List.Perm.refl _)
    have h3 := hL.same h2
    rw [h3, List.length_mergeSort]
    exact Nat.le_trans (keys_le HD.out) HD.out.sz)
  have hnN := HLn.out
  have HR0 : Hid (RS w1 base p mb D c fm N keep (ns.take 0) w1) := ⟨mb, D, by simpa [rfold] using HD1.out, codec.Touch.refl _ _, fun j hj => .inl hj⟩
  clear hL hown hnil hb HNm HK HD
  go_wp2
  go_loopw [4, 13] (fun t i wr => ∃ k : Nat, k ≤ ns.length ∧ i = .int .i64 k ∧ t = .int .i64 ((rfold keep fm c.used (ns.take k)).2.1 : Nat) ∧ RS w1 base p mb D c fm N keep (ns.take k) wr) (fun _ i _ => ns.length - (intOf i).toNat)
  case atStart => exact ⟨0, Nat.zero_le _, rfl, rfl, HR0.out⟩
  case round =>
    clear HR0
    obtain ⟨k, hkl, rfl, rfl, ⟨mb', D', hd, ht, hfo⟩⟩ := hrel
    obtain ⟨st, hst⟩ : ∃ st, st = rfold keep fm c.used (ns.take k) := ⟨_, rfl⟩
    rw [← hst] at hd ⊢
    have HSt := Lib.hid hst
    have HDk := Lib.hid hd
    have HTk := Lib.hid ht
    have HFo := Lib.hid hfo
    clear hst hd ht hfo
    by_cases hlt : k < ns.length
    · obtain ⟨x, hx⟩ : ∃ x, ns[k]? = some x := ⟨_, List.getElem?_eq_getElem hlt⟩
      obtain ⟨g, cap, e, hcx⟩ := name_at HOwn.out HTk.out HNF.out hx
      cases e
      obtain ⟨S, hS⟩ : ∃ S : ByteArray, S = ⟨x.toArray⟩ := ⟨_, rfl⟩
      rw [← hS] at hcx
      have hSx : S.data.toList = x := by rw [hS]
      have hxin : x ∈ ns := List.mem_of_getElem? hx
      have hsome : (fm x).isSome = true := (HL.out.mem x).1 hxin
      have hnot : x ∉ ns.take k := by
        intro hm
        obtain ⟨j, hj, e⟩ := List.mem_iff_getElem.1 hm
        have hj' : j < k := by simp at hj; omega
        have e2 : ns[j]'(by omega) = ns[k] := by
          rw [(List.getElem?_eq_some_iff.1 hx).2, ← e]
          simp
        exact List.pairwise_iff_getElem.1 HL.out.nodup j k (by omega) hlt hj' e2
      have hfx : st.1 x = fm x := by rw [HSt.out]; exact rfold_other _ _ hnot
      have hfa : fileAt st.1 x = fileAt fm x := by unfold fileAt; rw [hfx]
      obtain ⟨f0, hf0⟩ := Option.isSome_iff_exists.1 hsome
      have hlM : (fileAt st.1 x).l.length ≤ M := by rw [hfa, fileAt_some hf0]; exact HMx.out x f0 hf0
      have hSz : S.size ≤ 281474976710656 := by
        have := HD1.out.short x hsome
        have e : S.size = x.length := by rw [← hSx]; exact Array.length_toList.symm
        omega
      obtain ⟨A', n', cp', hat, hown', h256, hsf, hn', hcp'⟩ := HDk.out.whole x
      have hlk := (HDk.out.look S (by unfold maxLen; omega)).1
      rw [hSx, hat] at hlk
      obtain ⟨d0, d1, d2, d3, d4, d5, hfz, hplt⟩ := HDk.out.facts
      have HNth := Lib.hid (show st.2.1 ≤ k from by
        rw [HSt.out]
        have := rfold_nth (keep := keep) (ns.take k) (fm, 0, c.used)
        simp at this
        unfold rfold
        omega)
      have HRec := Lib.hid (show rfold keep fm c.used (ns.take (k + 1)) = rstep keep st x from by
        rw [HSt.out]
        unfold rfold
        rw [List.take_add_one, hx]
        simp)
      have HAt := Lib.hid hat
      have HSx := Lib.hid hSx
      have HSome := Lib.hid (show (st.1 x).isSome from by rw [hfx]; exact hsome)
      have HLM := Lib.hid hlM
      have HSz := Lib.hid hSz
      have HSf := Lib.hid hsf
      have HN' := Lib.hid hn'
      have hn'M : n' ≤ M := by omega
      have hsn : (fileAt st.1 x).safe ≤ n' := by omega
      obtain ⟨sf, hsfe⟩ : ∃ sf, sf = (fileAt st.1 x).safe := ⟨_, rfl⟩
      obtain ⟨ev, heve⟩ : ∃ ev, ev = (fileAt st.1 x).ever := ⟨_, rfl⟩
      rw [← hsfe, ← heve] at hlk
      rw [← hsfe] at hsn
      have HSe := Lib.hid hsfe
      have HEe := Lib.hid heve
      clear hS hSx hxin hsome hnot hfx hfa hf0 hlM hSz hat hown' h256 hsf hn' hcp' d0 d1 d3 d4 d5 hfz hplt hx hsfe heve
      have hBox := Lib.hid (show ∀ w2, RowKit.Below (wr.alloc (.cells #[.slice A' n' cp', .int .i64 (sf : Nat), .bool ev] 93)).heap.size (wr.alloc (.cells #[.slice A' n' cp', .int .i64 (sf : Nat), .bool ev] 93)) w2 → w2.heap[wr.heap.size]? = some (.cells #[.slice A' n' cp', .int .i64 (sf : Nat), .bool ev] 93 (0, 0)) ∧ RowKit.Below wr.heap.size wr w2 from fun w2 h => ⟨(h.block _ (by simp)).trans (heap_alloc_new wr _), ((Below.refl _ _).alloc (Nat.le_refl _) _).trans (h.mono (by simp))⟩)
      by_cases hw : ev = true ∧ sf = n'
      · obtain ⟨rfl, rfl⟩ := hw
        go_wp2_with (go_at_call 43; refine (whole_any _ A' sf cp' sf true).mono ?_; rintro e w2 ⟨rfl, hb2⟩; have HB2 := Lib.hid (hBox.out _ hb2); clear hb2)
        have HRec' := Lib.hid (show rfold keep fm c.used (ns.take (k + 1)) = st from by
          rw [HRec.out]
          unfold rstep
          rw [if_pos ⟨HEe.out.symm, by rw [← HSe.out, ← HN'.out]⟩])
        refine ⟨⟨k + 1, by omega, by go_num, by rw [HRec'.out], ⟨mb', D', ?_, HTk.out.below HB2.out.2, HFo.out⟩⟩, by simp [intOf]; omega⟩
        rw [HRec'.out]
        exact HDk.out.below HB2.out.2
      · have hwf : (ev && decide (sf = n')) = false := by
          cases ev
          · rfl
          · simp at hw ⊢
            exact hw
        obtain ⟨kv, hkv⟩ := Int.eq_ofNat_of_zero_le (keptOf_range keep st.2.1 (n' - sf)).1
        have hkr : kv ≤ n' - sf := by
          have := (keptOf_range keep st.2.1 (n' - sf)).2
          omega
        have HKv := Lib.hid hkv
        have HNw := Lib.hid (show ¬ ((fileAt st.1 x).ever = true ∧ (fileAt st.1 x).safe = (fileAt st.1 x).l.length) from by
          rw [← HEe.out, ← HSe.out, ← HN'.out]
          exact hw)
        have hnth : st.2.1 ≤ 1000000 := by have := HNth.out; omega
        have HKt := Lib.hid (HK1.out.touch (fun ad e h0 hf => by
          have h1 := (HD1.out.foot_lt _ hf).1
          have h2 := HO.out ad e h0
          omega) HTk.out)
        have HKept := Lib.hid (show ∀ w2, RowKit.Below wr.heap.size wr w2 → ∀ q, Calls Tryz.prog 45 #[.slice A n cp, .int .i64 (st.2.1 : Nat), .int .i64 ((n' : Int) - (sf : Int))] (w2.drewN q) fun e w' => e = .returned (.int .i64 (kv : Nat)) ∧ w' = w2.drewN q from fun w2 hb q => by
          rw [show ((n' : Int) - (sf : Int)) = ((n' - sf : Nat) : Int) by omega]
          have := kept_any (w2.drewN q) A n cp keep st.2.1 (n' - sf) ((HKt.out.touch (F := fun _ => False) (fun _ _ _ h => h) (touch_below hb)).drewN q) hn hnth (by omega)
          rw [HKv.out] at this
          exact this)
        have HCut := Lib.hid (show ∀ w2, RowKit.Below wr.heap.size wr w2 → ∀ q, Calls Tryz.prog 44 #[.pointer (some ⟨p, 0, none⟩), .string S, .agg #[.slice A' n' cp', .int .i64 (sf : Nat), .bool ev], .int .i64 ((sf : Int) + (kv : Int))] (w2.drewN q) fun e w' => e = .returned (.tuple #[]) ∧ RS w1 base p mb D c fm N keep (ns.take (k + 1)) w' ∧ ∀ j, wr.heap.size ≤ j → j < w2.heap.size → w'.heap[j]? = w2.heap[j]? from fun w2 hb q => by
          have hb' := hb.trans (below_draws (Below.refl wr.heap.size w2) q)
          have hd2 := HDk.out.below hb'
          have hat2 := HAt.out
          have hlf := HN'.out
          have hse := HSe.out
          rw [show ((sf : Int) + (kv : Int)) = ((sf + kv : Nat) : Int) by omega, HSe.out, HEe.out]
          have := cut_any (w2.drewN q) base p mb' D' _ st.1 N S HSz.out A' n' cp' ((fileAt st.1 x).safe + kv) hd2 (by rw [HSx.out]; exact hat2) (by rw [HSx.out]; omega) (by rw [HSx.out]; exact HSome.out) (by rw [HSx.out]; have := HLM.out; omega) hN (Nat.le_trans hB1 (Nat.le_trans HTk.out.2.2.2.1 hb'.size))
          rw [HSx.out] at this
          refine this.mono ?_
          rintro e w' ⟨rfl, mb2, D2, q1, q2, q3⟩
          refine ⟨rfl, ⟨mb2, D2, ?_, ?_, ?_⟩, fun j h1 h2 => q2.2.2.2.2 j h2 (fun hf => by have := (HDk.out.foot_lt j hf).2; omega)⟩
          · rw [HRec.out]
            unfold rstep
            rw [if_neg HNw.out, ← hlf, ← hse, HKv.out, Int.toNat_natCast]
            rw [← hse] at q1
            exact q1
          · exact (HTk.out.below hb').trans (q2.mono fun i hi hf => (HFo.out i hf).imp id id)
          · intro j hj
            rcases q3 j hj with h | h
            · exact HFo.out j h
            · exact .inr (Nat.le_trans HTk.out.2.2.2.1 (Nat.le_trans hb'.size h)))
        have hnthe : Hid ((rstep keep st x).2.1 = st.2.1 + 1) := by
          show _ = _
          unfold rstep
          rw [if_neg HNw.out]
        clear hw hkv HKt
        go_wp2_with (go_at_call 43; refine (whole_any _ A' n' cp' sf ev).mono ?_; rw [hwf]; rintro e w2 ⟨rfl, hb2⟩; have HB2 := Lib.hid (hBox.out _ hb2); clear hb2)
        obtain ⟨c0, c1, c2⟩ := box_cells HB2.out.1
        have hc1 : w2.cell? ⟨wr.heap.size, 1, none⟩ = some (.int .i64 sf) := c1
        have HRow := HB2.out.1
        have HRow := Lib.hid HRow
        have hXl : wr.heap.size < w2.heap.size := (Array.getElem?_eq_some_iff.1 HB2.out.1).1
        have HXl := Lib.hid (And.intro (Nat.le_refl wr.heap.size) hXl)
        have h64 := Tryz.underlying93
        have hsz64 : (Tryz.prog.info? 93).map (·.size) = some 3 := by kernel_rfl
        obtain ⟨X, hX⟩ : ∃ X, X = wr.heap.size := ⟨_, rfl⟩
        have HXe := Lib.hid hX
        rw [← hX] at HRow ⊢
        clear hX c2 c0 c1 hc1 hXl
        have hns : (0 : Int) ≤ (n' : Int) - (sf : Int) := by omega
        have hnM2 : (n' : Int) ≤ 1000000 := by omega
        have hkv2 : (kv : Int) ≤ (n' : Int) := by omega
        have hsn2 : (sf : Int) ≤ (n' : Int) := by omega
        refine wp_region_noPanic ?_
        refine wp_region_held_drew (S := fun w' => w'.heap[X]? = some (.cells #[.slice A' n' cp', .int .i64 (sf : Nat), .bool ev] 93 (0, 0))) (by kernel_rfl) HRow.out (fun hHeld => ?_)
        refine wpAnyH_take (i := 0) (v := .pointer (some ⟨p, 0, none⟩)) rfl (by kernel_rfl) (by kernel_rfl) (by kernel_rfl) (fun _ _ _ h => h) (Or.inl ⟨by rfl, fun w' hw' => by obtain ⟨b0, b1, b2⟩ := box_cells hw'; have b1' : w'.cell? ⟨X, 1, none⟩ = some (.int .i64 sf) := b1; clear hw'; go_simp⟩) hHeld ?_
        refine wpAnyH_take (i := 1) (v := .string S) rfl (by kernel_rfl) (by kernel_rfl) (by kernel_rfl) (fun _ _ _ h => h) (Or.inl ⟨by rfl, fun w' hw' => by obtain ⟨b0, b1, b2⟩ := box_cells hw'; have b1' : w'.cell? ⟨X, 1, none⟩ = some (.int .i64 sf) := b1; clear hw'; go_simp⟩) hHeld ?_
        refine wpAnyH_take (i := 2) (v := .agg [.slice A' n' cp', .int .i64 (sf : Nat), .bool ev].toArray) rfl (by kernel_rfl) (by kernel_rfl) (by kernel_rfl) (fun _ _ _ h => h) (yieldsIf_load_mid (by rfl) 93 (.tmp 7) rfl X 0 rfl [.slice A' n' cp', .int .i64 (sf : Nat), .bool ev] _ (fun w' hw' => range_box hw' 0) h64 rfl hsz64) hHeld ?_
        refine wpAnyH_take (i := 3) (v := .pointer (some ⟨X, 1, none⟩)) rfl (by kernel_rfl) (by kernel_rfl) (by kernel_rfl) (fun _ _ _ h => h) (Or.inl ⟨by rfl, fun w' hw' => by obtain ⟨b0, b1, b2⟩ := box_cells hw'; have b1' : w'.cell? ⟨X, 1, none⟩ = some (.int .i64 sf) := b1; clear hw'; go_simp⟩) hHeld ?_
        refine wpAnyH_take (i := 4) (v := .int .i64 sf) rfl (by kernel_rfl) (by kernel_rfl) (by kernel_rfl) (fun _ _ _ h => h) (Or.inl ⟨by rfl, fun w' hw' => by obtain ⟨b0, b1, b2⟩ := box_cells hw'; have b1' : w'.cell? ⟨X, 1, none⟩ = some (.int .i64 sf) := b1; clear hw'; go_simp⟩) hHeld ?_
        refine wpAnyH_take (i := 5) (v := .slice A n cp) rfl (by kernel_rfl) (by kernel_rfl) (by kernel_rfl) (fun _ _ _ h => h) (Or.inl ⟨by rfl, fun w' hw' => by obtain ⟨b0, b1, b2⟩ := box_cells hw'; have b1' : w'.cell? ⟨X, 1, none⟩ = some (.int .i64 sf) := b1; clear hw'; go_simp⟩) hHeld ?_
        refine wpAnyH_take (i := 6) (v := .int .i64 (st.2.1 : Nat)) rfl (by kernel_rfl) (by kernel_rfl) (by kernel_rfl) (fun _ _ _ h => h) (Or.inl ⟨by rfl, fun w' hw' => by obtain ⟨b0, b1, b2⟩ := box_cells hw'; have b1' : w'.cell? ⟨X, 1, none⟩ = some (.int .i64 sf) := b1; clear hw'; go_simp⟩) hHeld ?_
        refine wpAnyH_take (i := 7) (v := .pointer (some ⟨X, 0, none⟩)) rfl (by kernel_rfl) (by kernel_rfl) (by kernel_rfl) (fun _ _ _ h => h) (Or.inl ⟨by rfl, fun w' hw' => by obtain ⟨b0, b1, b2⟩ := box_cells hw'; have b1' : w'.cell? ⟨X, 1, none⟩ = some (.int .i64 sf) := b1; clear hw'; go_simp⟩) hHeld ?_
        refine wpAnyH_take (i := 8) (v := .slice A' n' cp') rfl (by kernel_rfl) (by kernel_rfl) (by kernel_rfl) (fun _ _ _ h => h) (Or.inl ⟨by rfl, fun w' hw' => by obtain ⟨b0, b1, b2⟩ := box_cells hw'; have b1' : w'.cell? ⟨X, 1, none⟩ = some (.int .i64 sf) := b1; clear hw'; go_simp⟩) hHeld ?_
        refine wpAnyH_take (i := 9) (v := .int .i64 n') rfl (by kernel_rfl) (by kernel_rfl) (by kernel_rfl) (fun _ _ _ h => h) (Or.inl ⟨by rfl, fun w' hw' => by obtain ⟨b0, b1, b2⟩ := box_cells hw'; have b1' : w'.cell? ⟨X, 1, none⟩ = some (.int .i64 sf) := b1; clear hw'; go_simp⟩) hHeld ?_
        refine wpAnyH_take (i := 10) (v := .pointer (some ⟨X, 1, none⟩)) rfl (by kernel_rfl) (by kernel_rfl) (by kernel_rfl) (fun _ _ _ h => h) (Or.inl ⟨by rfl, fun w' hw' => by obtain ⟨b0, b1, b2⟩ := box_cells hw'; have b1' : w'.cell? ⟨X, 1, none⟩ = some (.int .i64 sf) := b1; clear hw'; go_simp⟩) hHeld ?_
        refine wpAnyH_take (i := 11) (v := .int .i64 sf) rfl (by kernel_rfl) (by kernel_rfl) (by kernel_rfl) (fun _ _ _ h => h) (Or.inl ⟨by rfl, fun w' hw' => by obtain ⟨b0, b1, b2⟩ := box_cells hw'; have b1' : w'.cell? ⟨X, 1, none⟩ = some (.int .i64 sf) := b1; clear hw'; go_simp⟩) hHeld ?_
        refine wpAnyH_take (i := 12) (v := .int .i64 ((n' : Int) - (sf : Int))) rfl (by kernel_rfl) (by kernel_rfl) (by kernel_rfl) (fun _ _ _ h => h) (Or.inl ⟨by rfl, fun w' hw' => by obtain ⟨b0, b1, b2⟩ := box_cells hw'; have b1' : w'.cell? ⟨X, 1, none⟩ = some (.int .i64 sf) := b1; clear hw'; go_simp; exact IntWalk.i64_in _ (by omega)⟩) hHeld ?_
        refine wpAnyH_ready (rs := [13]) (by kernel_rfl) (by simp) ?_
        refine AllReadyH.cons rfl (fun K hK => ?_) AllReadyH.nil
        go_simp
        refine (HKept.out w2 HB2.out.2 1).mono ?_
        rintro e w3 ⟨rfl, rfl⟩
        go_wp2_with fail
        refine hK.out _ _ HRow.out (fun hHeld => ?_)
        clear hK K
        refine wpAnyH_take (i := 14) (v := .int .i64 ((sf : Int) + (kv : Int))) rfl (by kernel_rfl) (by kernel_rfl) (by kernel_rfl) (fun _ _ _ h => h) (Or.inl ⟨by rfl, fun w' hw' => by obtain ⟨b0, b1, b2⟩ := box_cells hw'; have b1' : w'.cell? ⟨X, 1, none⟩ = some (.int .i64 sf) := b1; clear hw'; go_simp; exact IntWalk.i64_in _ (by omega)⟩) hHeld ?_
        refine wpAnyH_ready (rs := [15]) (by kernel_rfl) (by simp) ?_
        refine AllReadyH.cons rfl (fun K hK => ?_) AllReadyH.nil
        clear hHeld
        go_simp
        refine (HCut.out w2 HB2.out.2 1).mono ?_
        rintro e w3 ⟨rfl, hrs, hrow⟩
        have HRs := Lib.hid hrs
        have HRow3 := Lib.hid (show w3.heap[X]? = some (.cells #[.slice A' n' cp', .int .i64 (sf : Nat), .bool ev] 93 (0, 0)) from (hrow X (by rw [HXe.out]; exact HXl.out.1) (by rw [HXe.out]; exact HXl.out.2)).trans HRow.out)
        clear hrs hrow
        go_wp2_with fail
        refine hK.out _ _ HRow3.out (fun hHeld => ?_)
        clear hK K
        refine wpAnyH_done (by kernel_rfl) ?_ _
        refine NoPanic.normal ?_
        clear hHeld
        go_wp2
        exact ⟨⟨k + 1, by omega, by go_num, by rw [HRec.out, hnthe.out]; go_num, HRs.out⟩, by simp [intOf]; omega⟩
    · obtain rfl : k = ns.length := by omega
      obtain ⟨d0, d1, d2, d3, d4, d5, hfz, hplt⟩ := HDk.out.facts
      have f3 := hfz 3
      have f4 := hfz 4
      have f5 := hfz 5
      clear hfz d0 d1 d2
      go_wp2
      have hst := HSt.out
      rw [List.take_of_length_le (Nat.le_refl _)] at hst
      subst hst
      go_end0
      refine ⟨rfl, ns, HL.out, mb', D', ?_, ?_, fun j hj => (HFo.out j hj).imp id (fun h => Nat.le_trans HBl.out.size h)⟩
      · exact dsk_own (c := ⟨c.cap, (rfold keep fm c.used ns).2.2, false, 0, c.lost⟩) (dsk_own (c := ⟨c.cap, (rfold keep fm c.used ns).2.2, false, c.fuse, c.lost⟩) (dsk_own (c' := ⟨c.cap, (rfold keep fm c.used ns).2.2, false, c.fuse, c.lost⟩) HDk.out rfl) rfl) rfl
      · have ht := (touch_below (F := Foot p mb D) HBl.out).trans (HTk.out.mono fun i _ h => .inl h)
        exact ((ht.setCell ⟨p, 3, none⟩ (.inr (.inl rfl)) _).setCell ⟨p, 4, none⟩ (.inr (.inl rfl)) _).setCell ⟨p, 5, none⟩ (.inr (.inl rfl)) _
end Go.Proofs.YthhflkgngencdaaGreatDoor.dis
namespace Go.Proofs.YthhflkgngencdaaGreatDoor.dis
open Go.Proofs.YthhflkgngencdaaGreatDoor.codec
open Go.ChangeShapes Go.WideShapes Go.ChangeAt Go.RowKit Go.Maps Go.WideMaps Go.Sort Go.Shelf
set_option linter.unusedVariables false
set_option linter.unusedSimpArgs false

theorem size_len (b : ByteArray) : b.size = b.data.toList.length := (Array.length_toList (xs := b.data)).symm
/-- A file that is wholly safe. -/
abbrev Whole (f : File) : Prop := f.ever = true ∧ f.safe = f.l.length
theorem rstep_whole {keep : List Int} {st : FM × Nat × Int} {k s : List UInt8} {f : File} (h : st.1 s = some f) (hw : Whole f) : (rstep keep st k).1 s = some f := by
  by_cases e : s = k
  · subst e
    have hf : fileAt st.1 s = f := by simp [fileAt, h]
    unfold rstep
    rw [hf, if_pos hw]
    exact h
  · rw [rstep_other e]
    exact h
theorem rfold_whole {keep : List Int} {s : List UInt8} {f : File} (hw : Whole f) : ∀ (ns : List (List UInt8)) (st : FM × Nat × Int), st.1 s = some f → (ns.foldl (rstep keep) st).1 s = some f
  | [], st, h => h
  | k :: ns, st, h => by
    rw [List.foldl_cons]
    exact rfold_whole hw ns _ (rstep_whole h hw)
end Go.Proofs.YthhflkgngencdaaGreatDoor.dis
namespace Go.Proofs.YthhflkgngencdaaGreatDoor.dis
open Go.Proofs.YthhflkgngencdaaGreatDoor.codec
open Go.ChangeShapes Go.WideShapes Go.ChangeAt Go.RowKit Go.Maps Go.WideMaps
set_option linter.unusedVariables false
set_option linter.unusedSimpArgs false

def okByte (c : UInt8) : Bool := decide ((97 ≤ c.toNat ∧ c.toNat ≤ 122) ∨ (48 ≤ c.toNat ∧ c.toNat ≤ 57) ∨ c.toNat = 46)
def nameB (s : List UInt8) : Bool := decide (1 ≤ s.length) && (decide (s.length ≤ 40) && s.all okByte)
theorem nameB_short {s : List UInt8} (h : s.length < 1) : nameB s = false := by
  unfold nameB
  rw [decide_eq_false (by omega), Bool.false_and]
theorem nameB_long {s : List UInt8} (h : 40 < s.length) : nameB s = false := by
  unfold nameB
  rw [show decide (s.length ≤ 40) = false from decide_eq_false (by omega), Bool.false_and, Bool.and_false]
theorem nameB_bad {s : List UInt8} {k : Nat} (hk : k < s.length) (h : okByte s[k] = false) : nameB s = false := by
  have : s.all okByte = false := by
    rw [List.all_eq_false]
    exact ⟨s[k], List.getElem_mem hk, by rw [h]; decide⟩
  unfold nameB
  rw [this, Bool.and_false, Bool.and_false]
theorem nameB_good {s : List UInt8} (h1 : ¬ s.length < 1) (h2 : ¬ 40 < s.length) (h : s.all okByte = true) : nameB s = true := by
  unfold nameB
  rw [h, decide_eq_true (by omega), decide_eq_true (by omega)]
  rfl
theorem all_step {s : List UInt8} {k : Nat} (hk : k < s.length) (h : (s.take k).all okByte = true) (h2 : okByte s[k] = true) : (s.take (k + 1)).all okByte = true := by
  rw [List.take_succ_eq_append_getElem hk, List.all_append, h]
  simp [h2]
theorem byte_get (s : ByteArray) (k : Nat) (hk : k < s.size) : s[k] = s.data.toList[k]'(by rw [← size_len]; exact hk) := by
  simp [ByteArray.getElem_eq_getElem_data]
set_option maxRecDepth 20000 in
set_option maxHeartbeats 2000000 in
theorem isName_any (w : World) (s : ByteArray) (hs : s.size ≤ 281474976710656) : Calls Tryz.prog 81 #[.string s] w fun e w' => e = .returned (.bool (nameB s.data.toList)) ∧ w = w' := by
  have HSz := Lib.hid (size_len s)
  by_cases h1 : s.size < 1
  · have HR := Lib.hid (nameB_short (s := s.data.toList) (by rw [← HSz.out]; exact h1))
    rw [HR.out]
    go_enter Tryz.func81, Tryz.ntmps81
    go_wp2
    go_ret
    exact ⟨rfl, rfl⟩
  · by_cases h2 : 40 < s.size
    · have HR := Lib.hid (nameB_long (s := s.data.toList) (by rw [← HSz.out]; exact h2))
      rw [HR.out]
      go_enter Tryz.func81, Tryz.ntmps81
      go_wp2
      go_ret
      exact ⟨rfl, rfl⟩
    · have HG := Lib.hid (nameB_good (s := s.data.toList) (by rw [← HSz.out]; exact h1) (by rw [← HSz.out]; exact h2))
      have HB := Lib.hid (fun k hk => nameB_bad (s := s.data.toList) (k := k) hk)
      have HA := Lib.hid (fun k hk => all_step (s := s.data.toList) (k := k) hk)
      generalize nameB s.data.toList = nb at *
      go_enter Tryz.func81, Tryz.ntmps81
      go_wp2
      go_loopw [15] (fun i wr => ∃ k : Nat, k ≤ s.size ∧ i = .int .i64 k ∧ wr = w ∧ Hid ((s.data.toList.take k).all okByte = true)) (fun i _ => s.size - (intOf i).toNat)
      case atStart => exact ⟨0, by omega, rfl, rfl, by show _ = _; simp⟩
      case round =>
        obtain ⟨k, hk, rfl, rfl, hall⟩ := hrel
        by_cases hlt : k < s.size
        · have hlt' : k < s.data.toList.length := by rw [← HSz.out]; exact hlt
          have HX := byte_get s k hlt
          have HGood : Hid (okByte (s[k]'hlt) = true → (s.data.toList.take (k + 1)).all okByte = true) := fun h => HA.out k hlt' hall.out (by rw [← HX]; exact h)
          have HBad : Hid (okByte (s[k]'hlt) = false → nb = false) := fun h => HB.out k hlt' (by rw [← HX]; exact h)
          have HDef : Hid (okByte (s[k]'hlt) = decide ((97 ≤ (s[k]'hlt).toNat ∧ (s[k]'hlt).toNat ≤ 122) ∨ (48 ≤ (s[k]'hlt).toNat ∧ (s[k]'hlt).toNat ≤ 57) ∨ (s[k]'hlt).toNat = 46)) := rfl
          have hcase : (s[k]'hlt).toNat < 46 ∨ (s[k]'hlt).toNat = 46 ∨ (s[k]'hlt).toNat = 47 ∨ (48 ≤ (s[k]'hlt).toNat ∧ (s[k]'hlt).toNat ≤ 57) ∨ (58 ≤ (s[k]'hlt).toNat ∧ (s[k]'hlt).toNat < 97) ∨ (97 ≤ (s[k]'hlt).toNat ∧ (s[k]'hlt).toNat ≤ 122) ∨ 122 < (s[k]'hlt).toNat := by omega
          clear HX hlt'
          have HLt := Lib.hid hlt
          rcases hcase with hx | hx | hx | hx | hx | hx | hx
          all_goals have HXx := Lib.hid hx
          · have hf := HBad.out (by rw [HDef.out]; exact decide_eq_false (by omega))
            have hz : (((s[k]'hlt).toNat : Int) == 46) = false := by simp; omega
            subst hf
            go_wp2
            go_ret
            exact ⟨rfl, rfl⟩
          · have hz : (((s[k]'hlt).toNat : Int) == 46) = true := by simp; omega
            have HOk := Lib.hid (HGood.out (by rw [HDef.out]; exact decide_eq_true (by omega)))
            go_wp2
            go_roundw
            case rel => exact ⟨k + 1, by have := HLt.out; omega, rfl, trivial, HOk.out⟩
            case measure => have := HLt.out; simp [intOf]; omega
          · have hf := HBad.out (by rw [HDef.out]; exact decide_eq_false (by omega))
            have hz : (((s[k]'hlt).toNat : Int) == 46) = false := by simp; omega
            subst hf
            go_wp2
            go_ret
            exact ⟨rfl, rfl⟩
          · have HOk := Lib.hid (HGood.out (by rw [HDef.out]; exact decide_eq_true (by omega)))
            go_wp2
            go_roundw
            case rel => exact ⟨k + 1, by have := HLt.out; omega, rfl, trivial, HOk.out⟩
            case measure => have := HLt.out; simp [intOf]; omega
          · have hf := HBad.out (by rw [HDef.out]; exact decide_eq_false (by omega))
            have hz : (((s[k]'hlt).toNat : Int) == 46) = false := by simp; omega
            have hz2 : decide (((s[k]'hlt).toNat : Int) ≤ 57) = false := by simp; omega
            subst hf
            go_wp2
            go_ret
            exact ⟨rfl, rfl⟩
          · have HOk := Lib.hid (HGood.out (by rw [HDef.out]; exact decide_eq_true (by omega)))
            go_wp2
            go_roundw
            case rel => exact ⟨k + 1, by have := HLt.out; omega, rfl, trivial, HOk.out⟩
            case measure => have := HLt.out; simp [intOf]; omega
          · have hf := HBad.out (by rw [HDef.out]; exact decide_eq_false (by omega))
            have hz : (((s[k]'hlt).toNat : Int) == 46) = false := by simp; omega
            have hz2 : decide (((s[k]'hlt).toNat : Int) ≤ 57) = false := by simp; omega
            have hz3 : decide (((s[k]'hlt).toNat : Int) ≤ 122) = false := by simp; omega
            subst hf
            go_wp2
            go_ret
            exact ⟨rfl, rfl⟩
        · obtain rfl : k = s.size := by omega
          have he : nb = true := HG.out (by rw [← hall.out, List.take_of_length_le (by rw [← HSz.out]; exact Nat.le_refl _)])
          subst he
          go_wp2
          go_ret
          exact ⟨rfl, rfl⟩
end Go.Proofs.YthhflkgngencdaaGreatDoor.dis
namespace Go.Proofs.YthhflkgngencdaaGreatDoor.dis
open Go.Proofs.YthhflkgngencdaaGreatDoor.codec
open Go.ChangeShapes Go.WideShapes Go.ChangeAt Go.RowKit Go.Maps Go.WideMaps
set_option linter.unusedVariables false
set_option linter.unusedSimpArgs false

/-- The disk as it is now, on its own blocks and new ones. -/
def Now (w : World) (base p : Nat) (mb : Option Nat) (D : DataW Value) (c' : Cfg) (fm' : FM) (N : Nat) (w' : World) : Prop :=
  ∃ mb' D', Dsk w' base p mb' D' c' fm' N ∧ codec.Touch (Foot p mb D) w w' ∧ ∀ j, Foot p mb' D' j → Foot p mb D j ∨ w.heap.size ≤ j
/-- What an operation answers, and what is there then. -/
def Does (w : World) (base p : Nat) (mb : Option Nat) (D : DataW Value) (N : Nat) (r : Cfg × FM × Int) (e : Ending) (w' : World) : Prop := e = .returned (.int .i64 r.2.2) ∧ Now w base p mb D r.1 r.2.1 N w'
theorem now_stay {w w' : World} {base p : Nat} {mb : Option Nat} {D : DataW Value} {c : Cfg} {fm : FM} {N N' : Nat} (h : Dsk w' base p mb D c fm N) (hN : N ≤ N') (ht : codec.Touch (Foot p mb D) w w') : Now w base p mb D c fm N' w' := ⟨mb, D, h.up hN, ht, fun j hj => .inl hj⟩
theorem now_p {w w' : World} {base p : Nat} {mb : Option Nat} {D : DataW Value} {c : Cfg} {fm : FM} {N : Nat} (h : Dsk w' base p mb D c fm N) (ht : codec.Touch (fun j => j = p) w w') : Now w base p mb D c fm (N + 1) w' := now_stay h (Nat.le_succ N) (ht.mono fun i _ e => .inl e)
theorem now_below {w w' : World} {base p : Nat} {mb : Option Nat} {D : DataW Value} {c : Cfg} {fm : FM} {N : Nat} (h : Dsk w base p mb D c fm N) (hb : Below w.heap.size w w') : Now w base p mb D c fm (N + 1) w' := now_stay (h.below hb) (Nat.le_succ N) (touch_below hb)
theorem now_put {w w1 w' : World} {base p : Nat} {mb mb' : Option Nat} {D : DataW Value} {c' : Cfg} {fm : FM} {N N' : Nat} {k : List UInt8} {v : Value} {f : File} {D1 : DataW Value} (hD1 : IsMap D1) (ht : codec.Touch (Foot p mb D) w w1) (hf1 : ∀ j, Foot p mb D1 j → Foot p mb D j) (hN : N + 1 ≤ N')
    (h : Dsk w' base p mb' ((D1.del (.string k)).put (.string k) (.held v)) c' (upd fm k f) (bump fm k N)) (h2 : codec.Touch (fun i => i = p ∨ mb = some i) w1 w') (h3 : ∀ b, mb' = some b → mb = some b ∨ w1.heap.size ≤ b) (hv : ∀ g, blk v = some g → Foot p mb D g ∨ w.heap.size ≤ g) : Now w base p mb D c' (upd fm k f) N' w' := by
  refine ⟨mb', _, h.up (Nat.le_trans (bump_le fm k N) hN), ht.trans (h2.mono fun i _ h => .inl (h.imp id .inl)), ?_⟩
  intro j hj
  have hm' : IsMap (D1.del (.string k)) := by obtain ⟨es, rfl⟩ := hD1; exact ⟨_, rfl⟩
  rcases hj with e | e | ⟨s, e⟩
  · exact .inl (.inl e)
  · rcases h3 j e with h | h
    · exact .inl (.inr (.inl h))
    · exact .inr (Nat.le_trans ht.2.2.2.1 h)
  · rw [At_put hm'] at e
    by_cases e2 : s = k
    · rw [if_pos e2] at e
      exact hv j e
    · rw [if_neg e2, At_del, if_neg e2] at e
      exact .inl (hf1 j (.inr (.inr ⟨s, e⟩)))
theorem Now.pre {w w1 w' : World} {base p : Nat} {mb : Option Nat} {D : DataW Value} {c : Cfg} {fm : FM} {N : Nat} {c' : Cfg} {fm' : FM} {N' : Nat} (h : Dsk w base p mb D c fm N) (hb : Below w.heap.size w w1) (ha : Now w1 base p mb D c' fm' N' w') : Now w base p mb D c' fm' N' w' := by
  obtain ⟨mb', D', q1, q3, q4⟩ := ha
  exact ⟨mb', D', q1, (touch_below hb).trans (q3.mono fun i _ h => .inl h), fun j hj => (q4 j hj).imp id (fun h => Nat.le_trans hb.size h)⟩
def cPut (c : Cfg) (fm : FM) (k : List UInt8) (f : File) : Cfg := { c with used := wrap64 (wrap64 (c.used - lenAt fm k) + (f.l.length : Nat)) }
def cDrop (c : Cfg) (fm : FM) (k : List UInt8) : Cfg := { c with used := wrap64 (c.used - lenAt fm k) }
def allSafe (l : List Nat) : File := ⟨l, l.length, true⟩
/-- Sync. -/
def fSync (c : Cfg) (fm : FM) (k : List UInt8) : Cfg × FM × Int :=
  if c.lost then (c, fm, 6) else match fm k with
  | none => (c, fm, 7)
  | some f => if goes c then (burnt c, fm, 6) else (cPut (burnt c) fm k (allSafe f.l), upd fm k (allSafe f.l), 0)
/-- Fuse. -/
def fFuse (c : Cfg) (fm : FM) (n : Int) : Cfg × FM × Int :=
  if c.lost then (c, fm, 6) else if n < 0 then (c, fm, 1) else ({ c with fused := true, fuse := n }, fm, 0)
set_option maxRecDepth 50000 in
set_option maxHeartbeats 4000000 in
theorem sync_looks (w : World) (base p : Nat) (mb : Option Nat) (D : DataW Value) (c : Cfg) (fm : FM) (N : Nat) (s : ByteArray) (hs : s.size ≤ 281474976710656) (h : Dsk w base p mb D c fm N) (hk : c.lost = true ∨ fm s.data.toList = none) :
    Calls Tryz.prog 40 #[.pointer (some ⟨p, 0, none⟩), .string s] w (Does w base p mb D (N + 1) (fSync c fm s.data.toList)) := by
  have key : ∀ r : Int, (r == 0) = false → fSync c fm s.data.toList = (c, fm, r) → (Calls Tryz.prog 46 #[.pointer (some ⟨p, 0, none⟩), .string s] w fun e w' => e = .returned (.tuple #[noFile, .int .i64 r]) ∧ Below w.heap.size w w') → Calls Tryz.prog 40 #[.pointer (some ⟨p, 0, none⟩), .string s] w (Does w base p mb D (N + 1) (fSync c fm s.data.toList)) := by
    intro r hr he h37
    rw [he]
    have hpl := h.facts.2.2.2.2.2.2.2
    have H37 := Lib.hid h37
    have HS := Lib.hid (fun w' hb => now_below h (w' := w') hb)
    clear h37 h hk he
    go_enter Tryz.func40, Tryz.ntmps40
    go_wp2_with (go_at_call 46; refine H37.out.mono ?_; rintro e w1 ⟨rfl, hb⟩; have HB := Lib.hid hb; clear hb)
    go_ret
    exact ⟨rfl, HS.out _ (HB.out.trans (((Below.refl _ _).alloc (Nat.le_refl _) _).mono HB.out.size))⟩
  cases hl : c.lost with
  | true => exact key 6 rfl (by simp [fSync, hl]) (find_lost h s hl)
  | false =>
    have hn : fm s.data.toList = none := hk.resolve_left (by rw [hl]; decide)
    exact key 7 rfl (by simp [fSync, hl, hn]) (find_none h s (by unfold maxLen; omega) hl hn)
set_option maxRecDepth 50000 in
set_option maxHeartbeats 4000000 in
theorem sync_exact (w : World) (base p : Nat) (mb : Option Nat) (D : DataW Value) (c : Cfg) (fm : FM) (N : Nat) (s : ByteArray) (hs : s.size ≤ 281474976710656) (h : Dsk w base p mb D c fm N) (hN : N < 1000000) (hB : base ≤ w.heap.size) :
    Calls Tryz.prog 40 #[.pointer (some ⟨p, 0, none⟩), .string s] w (Does w base p mb D (N + 1) (fSync c fm s.data.toList)) := by
  have hpl := h.facts.2.2.2.2.2.2.2
  by_cases hstop : c.lost = true ∨ fm s.data.toList = none
  · exact sync_looks w base p mb D c fm N s hs h hstop
  · have hl : c.lost = false := by cases hc : c.lost; rfl; exact absurd (.inl hc) hstop
    obtain ⟨f, hf⟩ : ∃ f, fm s.data.toList = some f := by
      cases hf : fm s.data.toList with
      | none => exact absurd (.inr hf) hstop
      | some f => exact ⟨f, rfl⟩
    obtain ⟨A, n, cp, hat, hown, h256, hsf, hn, hcp⟩ := h.whole s.data.toList
    have h37 := find_some h s (by unfold maxLen; omega) hl f hf
    rw [hat] at h37
    have H37 := Lib.hid h37
    have HD := Lib.hid h
    have hfe := fileAt_some hf
    have H42 : Hid (∀ (w3 : World) (c' : Cfg), Dsk w3 base p mb D c' fm N → codec.Touch (fun j => j = p) w w3 → Calls Tryz.prog 83 #[.pointer (some ⟨p, 0, none⟩), .string s, .agg #[.slice A n cp, .int .i64 (n : Nat), .bool true]] w3 fun e w' => e = .returned (.tuple #[]) ∧ Now w base p mb D (cPut c' fm s.data.toList (allSafe f.l)) (upd fm s.data.toList (allSafe f.l)) (N + 1) w') := by
      intro w3 c' h3 ht
      have hc := comes_cut h3 s.data.toList hat n (by omega) n (Nat.le_refl _) true
      have e1 : (⟨(fileAt fm s.data.toList).l.take n, n, true⟩ : File) = allSafe f.l := by rw [hn, hfe, List.take_of_length_le (Nat.le_refl _)]; rfl
      rw [e1] at hc
      refine (put_disk w3 base p mb D c' fm N s hs A n cp n true _ h3 hc hN (Nat.le_trans hB ht.2.2.2.1)).mono ?_
      rintro e w' ⟨rfl, mb', q1, q2, q3⟩
      have e2 : cPut c' fm s.data.toList (allSafe f.l) = { c' with used := wrap64 (wrap64 (c'.used - lenAt fm s.data.toList) + n) } := by
        unfold cPut allSafe
        rw [hn, hfe]
      rw [e2]
      refine ⟨rfl, now_put h.isMap (ht.mono fun i _ e => .inl e) (fun j hj => hj) (Nat.le_refl _) q1 q2 q3 (fun g e => .inl (.inr (.inr ⟨s.data.toList, ?_⟩)))⟩
      rw [hat]
      cases A <;> exact e
    have HN := Lib.hid hn
    cases hg : goes c with
    | true =>
      have he : fSync c fm s.data.toList = (burnt c, fm, 6) := by simp [fSync, hl, hf, hg]
      rw [he]
      clear h hat hown h256 hsf hcp h37 hstop hn hf he hfe
      go_enter Tryz.func40, Tryz.ntmps40
      go_wp2_with (first | (go_at_call 46; refine H37.out.mono ?_; rintro e w1 ⟨rfl, hb⟩; have HB := Lib.hid hb; have HD1 := Lib.hid ((HD.out.below hb).below ((Below.refl _ _).alloc (Nat.le_refl _) (.cells #[.slice A n cp, .int .i64 ((fileAt fm s.data.toList).safe : Nat), .bool (fileAt fm s.data.toList).ever] 93))); clear hb) | (go_at_call 79; refine (powerGoes_any HD1.out).mono ?_; rw [hg]; rintro e w2 ⟨rfl, hd2, ht2⟩; have hx2 := (ht2.2.2.2.2 w1.heap.size (by simp) (by have := HB.out.size; omega)).trans (heap_alloc_new w1 _); obtain ⟨x0, x1, x2⟩ := box_cells hx2; have HD2 := Lib.hid hd2; have HT2 : Hid (codec.Touch (fun j => j = p) w w2) := ((touch_below HB.out).alloc _).trans (ht2.mono fun i _ e => .inl e); clear hd2 ht2 hx2))
      go_ret
      exact ⟨rfl, now_p HD2.out HT2.out⟩
    | false =>
      have he : fSync c fm s.data.toList = (cPut (burnt c) fm s.data.toList (allSafe f.l), upd fm s.data.toList (allSafe f.l), 0) := by simp [fSync, hl, hf, hg]
      rw [he]
      clear h hat hown h256 hsf hcp h37 hstop hn hf he hfe
      go_enter Tryz.func40, Tryz.ntmps40
      go_wp2_with (first | (go_at_call 46; refine H37.out.mono ?_; rintro e w1 ⟨rfl, hb⟩; have HB := Lib.hid hb; have HD1 := Lib.hid ((HD.out.below hb).below ((Below.refl _ _).alloc (Nat.le_refl _) (.cells #[.slice A n cp, .int .i64 ((fileAt fm s.data.toList).safe : Nat), .bool (fileAt fm s.data.toList).ever] 93))); clear hb) | (go_at_call 79; refine (powerGoes_any HD1.out).mono ?_; rw [hg]; rintro e w2 ⟨rfl, hd2, ht2⟩; have hx2 := (ht2.2.2.2.2 w1.heap.size (by simp) (by have := HB.out.size; omega)).trans (heap_alloc_new w1 _); obtain ⟨x0, x1, x2⟩ := box_cells hx2; have HD2 := Lib.hid hd2; have HT2 : Hid (codec.Touch (fun j => j = p) w w2) := ((touch_below HB.out).alloc _).trans (ht2.mono fun i _ e => .inl e); clear hd2 ht2 hx2) | (go_at_call 84; refine (made_any _ _ _ _).mono ?_; rintro e w3 ⟨rfl, hb3⟩; have HD3 := Lib.hid (HD2.out.below hb3); have HT3 := Lib.hid (HT2.out.below hb3); clear hb3) | (go_at_call 83; refine (H42.out _ _ HD3.out HT3.out).mono ?_; rintro e w4 ⟨rfl, haft⟩; have HA := Lib.hid haft; clear haft))
      go_ret
      exact ⟨rfl, HA.out⟩
set_option maxRecDepth 50000 in
set_option maxHeartbeats 4000000 in
theorem fuse_exact (w : World) (base p : Nat) (mb : Option Nat) (D : DataW Value) (c : Cfg) (fm : FM) (N : Nat) (n : Int) (h : Dsk w base p mb D c fm N) :
    Calls Tryz.prog 16 #[.pointer (some ⟨p, 0, none⟩), .int .i64 n] w (Does w base p mb D (N + 1) (fFuse c fm n)) := by
  obtain ⟨d0, d1, d2, d3, d4, d5, hfz, hlt⟩ := h.facts
  have hf3 := hfz 3
  have hf4 := hfz 4
  have HD := Lib.hid h
  have H44 := Lib.hid (power_any h)
  clear h hfz d0 d1 d2 d5
  cases hl : c.lost with
  | true =>
    have he : fFuse c fm n = (c, fm, 6) := by simp [fFuse, hl]
    rw [he]
    rw [hl] at H44
    go_enter Tryz.func16, Tryz.ntmps16
    go_wp2_with (go_at_call 42; refine H44.out.mono ?_; rintro e w1 ⟨rfl, rfl⟩)
    go_ret
    exact ⟨rfl, now_p HD.out (codec.Touch.refl _ _)⟩
  | false =>
    rw [hl] at H44
    by_cases hn : n < 0
    · have he : fFuse c fm n = (c, fm, 1) := by simp [fFuse, hl, hn]
      rw [he]
      go_enter Tryz.func16, Tryz.ntmps16
      go_wp2_with (go_at_call 42; refine H44.out.mono ?_; rintro e w1 ⟨rfl, rfl⟩)
      go_ret
      exact ⟨rfl, now_p HD.out (codec.Touch.refl _ _)⟩
    · have he : fFuse c fm n = ({ c with fused := true, fuse := n }, fm, 0) := by simp [fFuse, hl, hn]
      rw [he]
      go_enter Tryz.func16, Tryz.ntmps16
      go_wp2_with (go_at_call 42; refine H44.out.mono ?_; rintro e w1 ⟨rfl, rfl⟩)
      go_ret
      exact ⟨rfl, now_p (c := { c with fused := true, fuse := n }) (dsk_own (c := { c with fused := true }) (dsk_own (c' := { c with fused := true }) HD.out rfl) rfl) (((codec.Touch.refl (fun j => j = p) w).setCell ⟨p, 3, none⟩ (.inr rfl) _).setCell ⟨p, 4, none⟩ (.inr rfl) _)⟩
end Go.Proofs.YthhflkgngencdaaGreatDoor.dis
namespace Go.Proofs.YthhflkgngencdaaGreatDoor.dis
open Go.Proofs.YthhflkgngencdaaGreatDoor.codec
open Go.ChangeShapes Go.WideShapes Go.ChangeAt Go.RowKit Go.Maps Go.WideMaps
set_option linter.unusedVariables false
set_option linter.unusedSimpArgs false

def grown (fm : FM) (k : List UInt8) (L : List Nat) : File := ⟨(fileAt fm k).l ++ L, (fileAt fm k).safe, (fileAt fm k).ever⟩
def cRoom (c : Cfg) : Int := wrap64 (c.cap - c.used)
/-- Append. -/
def fAppend (c : Cfg) (fm : FM) (k : List UInt8) (L : List Nat) : Cfg × FM × Int :=
  if c.lost then (c, fm, 6) else if nameB k = false then (c, fm, 1) else if cRoom c < (L.length : Nat) then (c, fm, 4) else
  if goes c then (if L.length / 2 = 0 then (burnt c, fm, 6) else (cPut (burnt c) fm k (grown fm k (L.take (L.length / 2))), upd fm k (grown fm k (L.take (L.length / 2))), 6))
  else (cPut (burnt c) fm k (grown fm k L), upd fm k (grown fm k L), 0)
set_option maxRecDepth 50000 in
set_option maxHeartbeats 4000000 in
theorem grow_exact (w : World) (base p : Nat) (mb : Option Nat) (D : DataW Value) (c : Cfg) (fm : FM) (N : Nat) (s : ByteArray) (hs : s.size ≤ 281474976710656) (B : Option Addr) (m cb : Nat) (L : List Nat) (h : Dsk w base p mb D c fm N)
    (hL : Bytes w B m L) (hnil : B = none → cb = 0) (hN : N < 1000000) (hB : base ≤ w.heap.size) (hbound : (fileAt fm s.data.toList).l.length + m ≤ 1000000000) :
    Calls Tryz.prog 82 #[.pointer (some ⟨p, 0, none⟩), .string s, .slice B m cb] w fun e w' => e = .returned (.tuple #[]) ∧
      Now w base p mb D (cPut c fm s.data.toList (grown fm s.data.toList L)) (upd fm s.data.toList (grown fm s.data.toList L)) (N + 1) w' := by
  unfold grown
  obtain ⟨A, n, cp, hat, hown, h256, hsf, hn, hcp⟩ := h.whole s.data.toList
  have hlk := (h.look s (by unfold maxLen; omega)).1
  rw [hat] at hlk
  obtain ⟨d0, d1, d2, d3, d4, d5, hf, hlt⟩ := h.facts
  have HD := Lib.hid h
  have HL := Lib.hid hL
  have HNil := Lib.hid hnil
  have HOwn := Lib.hid (hown.alloc (.cells #[.slice A n cp, .int .i64 ((fileAt fm s.data.toList).safe : Nat), .bool (fileAt fm s.data.toList).ever] 93))
  have HAt := Lib.hid hat
  obtain ⟨f, hfe⟩ : ∃ f, f = fileAt fm s.data.toList := ⟨_, rfl⟩
  rw [← hfe] at HAt HOwn hlk hn hsf h256 hbound ⊢
  have HFe := Lib.hid hfe
  have HN := Lib.hid hn
  have H256 := Lib.hid h256
  clear h hL hnil hf d0 d1 d3 d4 d5 hown hat hfe hn h256 hcp
  go_enter Tryz.func82, Tryz.ntmps82
  go_wp2_with (first | (at_builtin; refine wpList_append_file rfl (.tmp 14) (.tmp 15) rfl base (.slice A n cp) f.l rfl HOwn.out (by simp; omega) B m cb L rfl (HL.out.alloc _) HNil.out hbound ?_; intro v' w2 ho2 hg2 hat2 hk2; obtain ⟨q1, q2, q3⟩ := grow_step HD.out HFe.out HAt.out H256.out HL.out.2.1 hsf ho2 hg2 hat2 hk2; obtain ⟨A', n', cp', rfl, hn'⟩ := own_form ho2; obtain ⟨y0, y1, y2⟩ := box_cells q2; have hyf : w2.frozen? ⟨w.heap.size, 0, none⟩ = false := (by simp [World.frozen?, q2]); have HQ := Lib.hid (q3 (.slice A' n' cp')); have HNn := Lib.hid hn'; have HAb := Lib.hid hat2; clear ho2 hg2 hat2 hk2 q1 q2 q3 hn') | (go_at_call 83; refine (put_disk _ base p mb D c fm N s hs A' n' cp' f.safe f.ever ⟨f.l ++ L, f.safe, f.ever⟩ HQ.out.1 HQ.out.2.1 hN (by have := HQ.out.2.2.2; omega)).mono ?_; rintro e w4 ⟨rfl, mb', hd4, ht4, hb4⟩; have HD4 := Lib.hid hd4; have HT4 := Lib.hid ht4; have HB4 := Lib.hid hb4; clear hd4 ht4 hb4))
  go_end0
  have HC : Hid (cPut c fm s.data.toList ⟨f.l ++ L, f.safe, f.ever⟩ = { c with used := wrap64 (wrap64 (c.used - lenAt fm s.data.toList) + n') }) := by
    show _ = _
    unfold cPut
    rw [HNn.out]
  rw [HC.out]
  refine ⟨rfl, mb', _, HD4.out.up (bump_le _ _ _), HQ.out.2.2.1.trans (HT4.out.mono fun i _ h => .inl (h.imp id .inl)), foot_put HD.out.isMap (fun b e => (HB4.out b e).imp id (fun h => by have := HQ.out.2.2.2; omega)) (fun g e => ?_)⟩
  have e' : (Value.slice A' n' cp').ownBlock = some g := e
  rcases HAb.out with h | h
  · exact .inl (by rw [HAt.out]; show (Value.slice A n cp).ownBlock = some g; rw [← h]; exact e')
  · rw [h] at e'
    exact .inr (by have := Option.some.inj e'; simp at this; omega)
set_option maxRecDepth 50000 in
set_option maxHeartbeats 4000000 in
theorem append_exact (w : World) (base p : Nat) (mb : Option Nat) (D : DataW Value) (c : Cfg) (fm : FM) (N M : Nat) (s : ByteArray) (hs : s.size ≤ 281474976710656) (B : Option Addr) (m cb : Nat) (L : List Nat) (h : Dsk w base p mb D c fm N) (hM : ∀ s f, fm s = some f → f.l.length ≤ M)
    (hL : Bytes w B m L) (hold : ∀ ad, B = some ad → 0 < m → ad.block ≠ p) (hnil : B = none → cb = 0) (hmc : m ≤ cb) (hN : N < 1000000) (hB : base ≤ w.heap.size) (hbound : M + m ≤ 1000000) :
    Calls Tryz.prog 39 #[.pointer (some ⟨p, 0, none⟩), .string s, .slice B m cb] w (Does w base p mb D (N + 1) (fAppend c fm s.data.toList L)) := by
  have HD := Lib.hid h
  have H44 := Lib.hid (power_any h)
  have HR := Lib.hid (room_any h)
  have H45 := Lib.hid (fun w' => isName_any w' s hs)
  have hll := hL.1
  have H46 : Hid (∀ (w2 : World) (c' : Cfg), Dsk w2 base p mb D c' fm N → codec.Touch (fun j => j = p) w w2 → ∀ k, k ≤ m → Calls Tryz.prog 82 #[.pointer (some ⟨p, 0, none⟩), .string s, .slice B k cb] w2 fun e w' => e = .returned (.tuple #[]) ∧ Now w base p mb D (cPut c' fm s.data.toList (grown fm s.data.toList (L.take k))) (upd fm s.data.toList (grown fm s.data.toList (L.take k))) (N + 1) w') := by
    intro w2 c' h2 ht k hk
    have hb2 : Bytes w2 B m L := hL.touch (fun ad e h0 e2 => hold ad e h0 e2) ht
    have hfa := fileAt_bound (k := s.data.toList) hM
    refine (grow_exact w2 base p mb D c' fm N s hs B k cb (L.take k) h2 (hb2.half hk) hnil hN (Nat.le_trans hB ht.2.2.2.1) (by omega)).mono ?_
    rintro e w' ⟨rfl, mb', D', q1, q2, q3⟩
    exact ⟨rfl, mb', D', q1, (ht.mono fun i _ e => .inl e).trans (q2.mono fun i _ h => .inl h), fun j hj => (q3 j hj).imp id (fun h => Nat.le_trans ht.2.2.2.1 h)⟩
  have HLt := Lib.hid (show L.take m = L from List.take_of_length_le (by omega))
  clear h hM hL hnil hold
  cases hl : c.lost with
  | true =>
    have he : fAppend c fm s.data.toList L = (c, fm, 6) := by simp [fAppend, hl]
    rw [he]
    rw [hl] at H44
    go_enter Tryz.func39, Tryz.ntmps39
    go_wp2_with (go_at_call 42; refine H44.out.mono ?_; rintro e w1 ⟨rfl, rfl⟩)
    go_ret
    exact ⟨rfl, now_p HD.out (codec.Touch.refl _ _)⟩
  | false =>
    rw [hl] at H44
    cases hnb : nameB s.data.toList with
    | false =>
      have he : fAppend c fm s.data.toList L = (c, fm, 1) := by simp [fAppend, hl, hnb]
      rw [he]
      go_enter Tryz.func39, Tryz.ntmps39
      go_wp2_with (first | (go_at_call 42; refine H44.out.mono ?_; rintro e w1 ⟨rfl, rfl⟩) | (go_at_call 81; refine (H45.out _).mono ?_; rw [hnb]; rintro e w1 ⟨rfl, rfl⟩))
      go_ret
      exact ⟨rfl, now_p HD.out (codec.Touch.refl _ _)⟩
    | true =>
      by_cases hfull : cRoom c < (m : Nat)
      · have he : fAppend c fm s.data.toList L = (c, fm, 4) := by simp [fAppend, hl, hnb, hll, hfull]
        rw [he]
        unfold cRoom at hfull
        go_enter Tryz.func39, Tryz.ntmps39
        go_wp2_with (first | (go_at_call 42; refine H44.out.mono ?_; rintro e w1 ⟨rfl, rfl⟩) | (go_at_call 81; refine (H45.out _).mono ?_; rw [hnb]; rintro e w1 ⟨rfl, rfl⟩) | (go_at_call 10; refine HR.out.mono ?_; rintro e w1 ⟨rfl, q, rfl⟩))
        go_ret
        exact ⟨rfl, now_p (HD.out.drewN q) ((codec.Touch.refl _ w).drewN q)⟩
      · cases hg : goes c with
        | true =>
          by_cases hz : m / 2 = 0
          · have he : fAppend c fm s.data.toList L = (burnt c, fm, 6) := by simp [fAppend, hl, hnb, hll, hfull, hg, hz]
            rw [he]
            unfold cRoom at hfull
            clear he
            go_enter Tryz.func39, Tryz.ntmps39
            go_wp2_with (first | (go_at_call 42; refine H44.out.mono ?_; rintro e w1 ⟨rfl, rfl⟩) | (go_at_call 81; refine (H45.out _).mono ?_; rw [hnb]; rintro e w1 ⟨rfl, rfl⟩) | (go_at_call 10; refine HR.out.mono ?_; rintro e w1 ⟨rfl, q, rfl⟩) | (go_at_call 79; refine (powerGoes_any (HD.out.drewN q)).mono ?_; rw [hg]; rintro e w2 ⟨rfl, hd2, ht2⟩; have HD2 := Lib.hid hd2; have HT2 : Hid (codec.Touch (fun j => j = p) w w2) := ht2; clear hd2 ht2))
            go_ret
            exact ⟨rfl, now_p HD2.out HT2.out⟩
          · have he : fAppend c fm s.data.toList L = (cPut (burnt c) fm s.data.toList (grown fm s.data.toList (L.take (m / 2))), upd fm s.data.toList (grown fm s.data.toList (L.take (m / 2))), 6) := by simp [fAppend, hl, hnb, hll, hfull, hg, hz]
            rw [he]
            unfold cRoom at hfull
            clear he
            go_enter Tryz.func39, Tryz.ntmps39
            go_wp2_with (first | (go_at_call 42; refine H44.out.mono ?_; rintro e w1 ⟨rfl, rfl⟩) | (go_at_call 81; refine (H45.out _).mono ?_; rw [hnb]; rintro e w1 ⟨rfl, rfl⟩) | (go_at_call 10; refine HR.out.mono ?_; rintro e w1 ⟨rfl, q, rfl⟩) | (go_at_call 79; refine (powerGoes_any (HD.out.drewN q)).mono ?_; rw [hg]; rintro e w2 ⟨rfl, hd2, ht2⟩; have HD2 := Lib.hid hd2; have HT2 : Hid (codec.Touch (fun j => j = p) w w2) := ht2; clear hd2 ht2) | (go_at_call 82; refine (H46.out _ _ HD2.out HT2.out _ (by omega)).mono ?_; rintro e w4 ⟨rfl, haft⟩; have HA := Lib.hid haft; clear haft))
            go_ret
            exact ⟨rfl, HA.out⟩
        | false =>
          have he : fAppend c fm s.data.toList L = (cPut (burnt c) fm s.data.toList (grown fm s.data.toList L), upd fm s.data.toList (grown fm s.data.toList L), 0) := by simp [fAppend, hl, hnb, hll, hfull, hg]
          rw [he]
          unfold cRoom at hfull
          clear he
          go_enter Tryz.func39, Tryz.ntmps39
          go_wp2_with (first | (go_at_call 42; refine H44.out.mono ?_; rintro e w1 ⟨rfl, rfl⟩) | (go_at_call 81; refine (H45.out _).mono ?_; rw [hnb]; rintro e w1 ⟨rfl, rfl⟩) | (go_at_call 10; refine HR.out.mono ?_; rintro e w1 ⟨rfl, q, rfl⟩) | (go_at_call 79; refine (powerGoes_any (HD.out.drewN q)).mono ?_; rw [hg]; rintro e w2 ⟨rfl, hd2, ht2⟩; have HD2 := Lib.hid hd2; have HT2 : Hid (codec.Touch (fun j => j = p) w w2) := ht2; clear hd2 ht2) | (go_at_call 82; refine (H46.out _ _ HD2.out HT2.out _ (by omega)).mono ?_; rintro e w4 ⟨rfl, haft⟩; rw [HLt.out] at haft; have HA := Lib.hid haft; clear haft))
          go_ret
          exact ⟨rfl, HA.out⟩
end Go.Proofs.YthhflkgngencdaaGreatDoor.dis
namespace Go.Proofs.YthhflkgngencdaaGreatDoor.dis
open Go.Proofs.YthhflkgngencdaaGreatDoor.codec
open Go.ChangeShapes Go.WideShapes Go.ChangeAt Go.RowKit Go.Maps Go.WideMaps
set_option linter.unusedVariables false
set_option linter.unusedSimpArgs false

end Go.Proofs.YthhflkgngencdaaGreatDoor.dis
