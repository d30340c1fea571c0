/- The law's walk. -/
import Derived.Test.YtnpohlimedhopaaDoorS
import Derived.Laws.OwnMore
import Derived.Stop.BytesEq
import Derived.Deep.RegionHeld3
import Derived.Deep.MidRow
namespace Go.Proofs.YtnpohlimedhopaaDoor.sumDigest
open Go.ChangeShapes Go.WideShapes Go.ChangeAt Go.RowKit Go.Proofs.YtnpohlimedhopaaDoor.sumDoor
set_option linter.unusedVariables false

/-- What the document's own digest answers. -/
def RefSaid : Prop := ∀ (w : World) (A : Option Addr) (n c : Nat) (l : List Nat), Bytes w A n l → n ≤ 20000 → (A = none → c = 0) →
    Calls Tryd.prog 7 #[.slice A n c] w fun e w' => e = .returned (.agg (cellsOf .u8 (outList (digest l)))) ∧ Below w.heap.size w w'

theorem out_lt (s : sumPlain.Eight) : ∀ x ∈ outList s, x < 256 := by
  intro x hx
  obtain ⟨j, _, rfl⟩ := List.mem_map.1 hx
  exact Nat.mod_lt _ (by omega)
theorem forget {P : Program} {ops : Array Oper} {rest : List Oper} {a : Act} {w : World} {Q : Exit → Act → World → Prop} (R : World → Prop) (hR : R w) (h : ∀ w1, R w1 → wpList P ops Q rest a w1) : wpList P ops Q rest a w := h w hR
/-- The digest stands at block E, and what was there is as it was. -/
def Kept (w : World) (E : Nat) (d : List Nat) (wr : World) : Prop := wr.heap[E]? = some (.cells (cellsOf .u8 d) 24 (0, 0)) ∧ Below w.heap.size w wr ∧ w.heap.size ≤ E
theorem kept_start {w w1 w2 : World} {Z : Array Value} {d : List Nat} (h1 : Below w.heap.size w w1) (h2 : Below w1.heap.size w1 w2) :
    (w2.alloc (.cells Z 24)).heap[w2.heap.size]? = some (.cells Z 24 (0, 0)) ∧ Kept w w2.heap.size d ((w2.alloc (.cells Z 24)).setRow w2.heap.size (cellsOf .u8 d)) := by
  have h0 := heap_alloc_new w2 (.cells Z 24)
  have hb := h1.trans (h2.mono h1.size)
  exact ⟨h0, row_new h0, below_setRow (hb.alloc hb.size _) hb.size _, hb.size⟩
theorem Kept.cell {w wr : World} {E k : Nat} {d : List Nat} (h : Kept w E d wr) (hl : d.length = 32) (hk : k < 32) : wr.cell? ⟨E, k, none⟩ = some (.int .u8 (d.getD k 0 : Nat)) := by
  rw [cell_of_row _ _ _ _ _ _ h.1]
  have : k < d.length := by omega
  simp [cellsOf, List.getD, this]
theorem Kept.draws {w wr : World} {E : Nat} {d : List Nat} (h : Kept w E d wr) (n : Nat) : Kept w E d (wr.drewN n) := ⟨h.1, below_draws h.2.1 n, h.2.2⟩
theorem Kept.below {w wr w' : World} {E : Nat} {d : List Nat} (h : Kept w E d wr) (hb : Below wr.heap.size wr w') : Kept w E d w' :=
  ⟨(hb.block _ (lt_of_heap h.1)).trans h.1, h.2.1.trans (hb.mono h.2.1.size), h.2.2⟩

theorem digit_slice (w : World) : ∀ x : Nat, x < 16 → (Instr.slice 9 (.string ⟨#[48, 49, 50, 51, 52, 53, 54, 55, 56, 57, 97, 98, 99, 100, 101, 102]⟩) (some (.int .u8 (x : Int))) (some (.int .u8 ((x : Int) + 1))) none).run Tryd.prog w = .ok (.string (sumDoor.strOf [dgt x])) w
  | 0, _ => by kernel_rfl
  | 1, _ => by kernel_rfl
  | 2, _ => by kernel_rfl
  | 3, _ => by kernel_rfl
  | 4, _ => by kernel_rfl
  | 5, _ => by kernel_rfl
  | 6, _ => by kernel_rfl
  | 7, _ => by kernel_rfl
  | 8, _ => by kernel_rfl
  | 9, _ => by kernel_rfl
  | 10, _ => by kernel_rfl
  | 11, _ => by kernel_rfl
  | 12, _ => by kernel_rfl
  | 13, _ => by kernel_rfl
  | 14, _ => by kernel_rfl
  | 15, _ => by kernel_rfl
  | n + 16, h => by omega

theorem strOf_append (a b : List Nat) : sumDoor.strOf a ++ sumDoor.strOf b = sumDoor.strOf (a ++ b) := by
  unfold sumDoor.strOf
  rw [ByteArray.mk_append_mk, List.map_append]
theorem strOf_size (a : List Nat) : (sumDoor.strOf a).size = a.length := by simp [sumDoor.strOf, ByteArray.size]
theorem hex_take (d : List Nat) (k : Nat) (hk : k < 32) : (hexList d).take (2 * (k + 1)) = ((hexList d).take (2 * k) ++ [dgt (d.getD k 0 / 16)]) ++ [dgt (d.getD k 0 % 16)] := by
  have hl : (hexList d).length = 64 := by simp [hexList]
  have h0 : (hexList d)[2 * k]'(by omega) = dgt (d.getD k 0 / 16) := by simp only [hexList, List.getElem_map, List.getElem_range]; exact hexAt0 d k
  have h1 : (hexList d)[2 * k + 1]'(by omega) = dgt (d.getD k 0 % 16) := by simp only [hexList, List.getElem_map, List.getElem_range]; exact hexAt1 d k
  rw [show 2 * (k + 1) = 2 * k + 1 + 1 by omega, List.take_succ_eq_append_getElem (by omega), List.take_succ_eq_append_getElem (by omega), h0, h1]

theorem digit_extract : ∀ x : Nat, x < 16 → (ByteArray.mk #[48, 49, 50, 51, 52, 53, 54, 55, 56, 57, 97, 98, 99, 100, 101, 102]).extract x (x + 1) = sumDoor.strOf [dgt x]
  | 0, _ => by decide +kernel
  | 1, _ => by decide +kernel
  | 2, _ => by decide +kernel
  | 3, _ => by decide +kernel
  | 4, _ => by decide +kernel
  | 5, _ => by decide +kernel
  | 6, _ => by decide +kernel
  | 7, _ => by decide +kernel
  | 8, _ => by decide +kernel
  | 9, _ => by decide +kernel
  | 10, _ => by decide +kernel
  | 11, _ => by decide +kernel
  | 12, _ => by decide +kernel
  | 13, _ => by decide +kernel
  | 14, _ => by decide +kernel
  | 15, _ => by decide +kernel
  | n + 16, h => by omega
theorem kept_range {w wr : World} {E : Nat} {d : List Nat} {cs : List Value} (h : Kept w E d wr) (hcs : cs.toArray = cellsOf .u8 d) : wr.rangeAt E 0 cs := by
  intro j v hv
  rw [Nat.zero_add, cell_of_row _ _ _ _ _ _ h.1, ← hcs]
  simpa using hv
theorem ref_kept (href : RefSaid) {w v : World} {A : Option Addr} {n c E : Nat} {l d : List Nat} (hB : Bytes w A n l) (hn : n ≤ 20000) (hnil : A = none → c = 0) (hd : d = outList (digest l)) (hv : Kept w E d v) :
    Calls Tryd.prog 7 #[.slice A n c] v fun e w' => e = .returned (.agg (cellsOf .u8 d)) ∧ Kept w E d w' := by
  have := href v A n c l (hB.below hB.lt hv.2.1) hn hnil
  rw [← hd] at this
  exact this.mono fun _ _ ⟨he, hb⟩ => ⟨he, hv.below hb⟩
theorem size5 (w : World) : (sizeOf 5).run Tryd.prog w = .ok 1 w := by kernel_rfl
theorem eq_same (w : World) (d : List Nat) (hl : d.length = 32) (hb : ∀ x ∈ d, x < 256) : (Op.equalIn 10000 24 (.agg (cellsOf .u8 d)) (.agg (cellsOf .u8 d))).run Tryd.prog w = .ok true w := by
  have e : cellsOf .u8 d = ((d.map UInt8.ofNat).map Extern.Stop.cell).toArray := by
    unfold cellsOf
    rw [List.map_map]
    congr 1
    refine List.map_congr_left fun x hx => ?_
    have := hb x hx
    simp [Extern.Stop.cell, Nat.mod_eq_of_lt this]
  rw [e, run_equalIn_bytes w 9998 24 5 32 Tryd.underlying24 Tryd.underlying5 size5 _ _ (by simp [hl]) (by simp [hl])]
  simp

set_option maxRecDepth 100000 in
set_option maxHeartbeats 1000000 in
theorem walk (href : RefSaid) (A : Option Addr) (n c : Nat) (l : List Nat) (w : World) (h : Bytes w A n l) (hn : n ≤ maxLen) (hc : n ≤ c) (hnil : A = none → c = 0) (hL : Laid w) :
    Calls Tryd.prog 3 #[.slice A n c] w fun e w' => e = .returned (.bool true) ∧ Below w.heap.size w w' := by
  have hn' := hn
  unfold maxLen at hn'
  have HB := Lib.hid h
  have HNil := Lib.hid hnil
  have HL := Lib.hid hL
  clear h hn hL hnil
  by_cases hs : 20000 < n
  · go_enter Tryd.func3, Tryd.ntmps3
    go_wp2_with fail
    refine (awake_any _).mono ?_
    rintro e w1 ⟨rfl, hb1⟩
    go_wp2_with fail
    refine (awake_any _).mono ?_
    rintro e w2 ⟨rfl, hb2⟩
    go_wp2
    go_ret
    exact ⟨rfl, hb1.trans (hb2.mono hb1.size)⟩
  · have hs' : decide ((20000 : Int) < n) = false := by simp; omega
    go_enter Tryd.func3, Tryd.ntmps3
    go_wp2_with fail
    refine (awake_any _).mono ?_
    rintro e w1 ⟨rfl, hb1⟩
    have HB1 := Lib.hid hb1
    have HBy := Lib.hid (HB.out.below HB.out.lt hb1)
    have HL1 := Lib.hid (HL.out.below HL.out.lt hb1)
    clear hb1
    go_wp2_with fail
    refine (digest_any _ A n c l HBy.out (by omega) hc HL1.out).mono ?_
    rintro e w2 ⟨rfl, hb2⟩
    have HB2 := Lib.hid hb2
    clear hb2
    obtain ⟨d, hd⟩ : ∃ d, d = outList (digest l) := ⟨_, rfl⟩
    have HDl := Lib.hid (show d.length = 32 by rw [hd]; simp [outList])
    have HDb := Lib.hid (show ∀ x ∈ d, x < 256 by rw [hd]; exact out_lt _)
    rw [← hd]
    have HDd := Lib.hid hd
    have HP := Lib.hid (size32 (cellsOf .u8 d) (by simp [cellsOf, HDl.out]))
    have HA := Lib.hid (all_cells .u8 d)
    have HZ := Lib.hid (show (Array.replicate 32 (Value.int .u8 0)).size = (cellsOf .u8 d).size by simp [cellsOf, HDl.out])
    have HKp := Lib.hid (kept_start (Z := Array.replicate 32 (.int .u8 0)) (d := d) HB1.out HB2.out)
    clear hd
    go_wp2_with (refine wpList_store_row rfl 24 (.tmp 3) (.tmp 15) rfl w2.heap.size (cellsOf .u8 d) rfl rfl 24 (Array.replicate 32 (.int .u8 0)) HKp.out.1 HP.out HZ.out HA.out ?_; refine forget (fun w3 => Kept w w2.heap.size d w3) HKp.out.2 ?_; intro w3 hk3; obtain ⟨E, hE⟩ : ∃ E, E = w2.heap.size := ⟨_, rfl⟩; rw [← hE] at hk3 ⊢; have HK3 := Lib.hid hk3; clear hk3 hE HKp)
    clear HB1 HB2 HBy HL1 HA HZ
    go_loopw [4, 5, 16] (fun t _ i wr => ∃ k : Nat, k ≤ 32 ∧ i = .int .i64 k ∧ t = .string (sumDoor.strOf ((hexList d).take (2 * k))) ∧ Kept w E d wr) (fun _ _ i _ => 32 - (intOf i).toNat)
    case atStart => exact ⟨0, by omega, rfl, rfl, HK3.out⟩
    case round =>
      clear HK3
      obtain ⟨k, hk, rfl, rfl, hkp⟩ := hrel
      by_cases hlt : k < 32
      · obtain ⟨x, hx⟩ : ∃ x, x = d.getD k 0 := ⟨_, rfl⟩
        have hx256 : x < 256 := by rw [hx]; exact getD_lt256 HDb.out k
        have hc : wr.cell? ⟨E, k, none⟩ = some (.int .u8 (x : Nat)) := by rw [hx]; exact hkp.cell HDl.out hlt
        have HKp := Lib.hid hkp
        have HX := Lib.hid hx
        have lk : (k : Int) < 32 := by omega
        clear hkp hx
        obtain ⟨hi, hhi⟩ : ∃ hi, hi = x / 16 := ⟨_, rfl⟩
        obtain ⟨lo, hlo⟩ : ∃ lo, lo = x % 16 := ⟨_, rfl⟩
        have hi16 : hi < 16 := by omega
        have lo16 : lo < 16 := by omega
        have E1 := Lib.hid (show IntKind.u8.wrap ((x : Int) / 16) = (hi : Int) by rw [IntKind.wrap_u8']; omega)
        have E2 := Lib.hid (show IntKind.u8.wrap ((hi : Int) + 1) = (hi : Int) + 1 by rw [IntKind.wrap_u8']; omega)
        have E3 := Lib.hid (show IntKind.u8.wrap ((x : Int) % 16) = (lo : Int) by rw [IntKind.wrap_u8']; omega)
        have E4 := Lib.hid (show IntKind.u8.wrap ((lo : Int) + 1) = (lo : Int) + 1 by rw [IntKind.wrap_u8']; omega)
        obtain ⟨T, hT⟩ : ∃ T, T = sumDoor.strOf ((hexList d).take (2 * k)) := ⟨_, rfl⟩
        obtain ⟨P1, hP1⟩ : ∃ P1, P1 = sumDoor.strOf [dgt hi] := ⟨_, rfl⟩
        obtain ⟨P2, hP2⟩ : ∃ P2, P2 = sumDoor.strOf [dgt lo] := ⟨_, rfl⟩
        have z0 : T.size ≤ 64 := by rw [hT, strOf_size, List.length_take]; simp [hexList]; omega
        have z1 : P1.size ≤ 64 := by rw [hP1, strOf_size]; simp
        have z2 : P2.size ≤ 64 := by rw [hP2, strOf_size]; simp
        have q1 := Lib.hid (fun w => run_string_add_sum (P := Tryd.prog) w T P1 (by omega))
        have HTx : Hid ((T ++ P1) ++ P2 = sumDoor.strOf ((hexList d).take (2 * (k + 1)))) := by
          rw [hT, hP1, hP2, strOf_append, strOf_append, hex_take d k hlt, ← HX.out, ← hhi, ← hlo]
          exact rfl
        have q2 := Lib.hid (fun w => run_string_add_sum (P := Tryd.prog) w (T ++ P1) P2 (by rw [ByteArray.size_append]; omega))
        have i1 := fun w => digit_slice w hi hi16
        rw [← hP1] at i1
        have i2 := fun w => digit_slice w lo lo16
        rw [← hP2] at i2
        rw [← hT]
        have HEx : Hid ((ByteArray.mk #[48, 49, 50, 51, 52, 53, 54, 55, 56, 57, 97, 98, 99, 100, 101, 102]).extract (x % 16) (x % 16 + 1) = P2) := by rw [hP2, ← hlo]; exact digit_extract lo lo16
        have HHi := Lib.hid hhi
        have HLo := Lib.hid hlo
        have HT := Lib.hid hT
        have HP1 := Lib.hid hP1
        have HP2 := Lib.hid hP2
        clear hhi hlo hT hP1 hP2
        have z3 : (T ++ P1).size ≤ 128 := by rw [ByteArray.size_append]; omega
        have z4 : ¬ T.size + P1.size > 9223372036854775807 := by omega
        have z5 : ¬ (T ++ P1).size + P2.size > 9223372036854775807 := by omega
        go_wp2
        have e1 := E1.out
        have e2 := E2.out
        have e3 := E3.out
        have e4 := E4.out
        go_quiet (fail)
        clear e1 e2 e3 e4
        rw [HEx.out, HTx.out]
        have HKq := Lib.hid (HKp.out.draws nq)
        clear i1 i2 hc HKp
        generalize wr.drewN nq = wq at *
        go_wp2
        go_roundw
        case rel => exact ⟨k + 1, by omega, by go_num, rfl, HKq.out⟩
        case measure => simp [intOf]; omega
      · obtain rfl : k = 32 := by omega
        rw [show ((32 : Nat) : Int) = 32 from rfl, show (hexList d).take (2 * 32) = hexList d from List.take_of_length_le (by simp [hexList])]
        obtain ⟨TT, hTT⟩ : ∃ TT, TT = sumDoor.strOf (hexList d) := ⟨_, rfl⟩
        obtain ⟨cs, hcs⟩ : ∃ cs : List Value, cs.toArray = cellsOf .u8 d := ⟨d.map fun x => Value.int .u8 (x : Nat), rfl⟩
        have HHx := Lib.hid (fun w' => hex_any w' d HDl.out HDb.out)
        have HRf := Lib.hid (fun (v : World) (hv : Kept w E d v) => ref_kept href HB.out (by omega) HNil.out HDd.out hv)
        have hq := fun w' => eq_same w' d HDl.out HDb.out
        have h24 := Tryd.underlying24
        have hsz : (Tryd.prog.info? 24).map (·.size) = some cs.length := by
          have := size32 (cellsOf .u8 d) (by simp [cellsOf, HDl.out])
          rw [← hcs] at this
          simpa using this
        rw [← hTT] at HHx ⊢
        rw [← hcs] at HHx HRf hq
        have HKr := Lib.hid (fun (v : World) (hv : Kept w E d v) => kept_range (cs := cs) hv hcs)
        have hS0 : wr.rangeAt E 0 cs ∧ Kept w E d wr := ⟨HKr.out _ hkp, hkp⟩
        have hS1 : wr.drew.rangeAt E 0 cs ∧ Kept w E d wr.drew := ⟨HKr.out _ (hkp.draws 1), hkp.draws 1⟩
        clear hTT hcs HDb HDd HP HDl
        go_wp2
        refine wp_region_noPanic ?_
        refine wp_region_held_drew (S := fun w' => w'.rangeAt E 0 cs ∧ Kept w E d w') (by kernel_rfl) hS1 (fun hHeld => ?_)
        clear hS1
        refine wpAnyH_take (i := 0) (v := .agg cs.toArray) rfl (by kernel_rfl) (by kernel_rfl) (by kernel_rfl) (fun _ _ _ h => h) (yieldsIf_load_mid (by rfl) 24 (.tmp 3) rfl E 0 rfl cs _ (fun _ hw => hw.1) h24 rfl hsz) hHeld ?_
        refine wpAnyH_take (i := 1) (v := .slice A n c) rfl (by kernel_rfl) (by kernel_rfl) (by kernel_rfl) (fun _ _ _ h => h) (Or.inl ⟨by rfl, fun w' _ => by go_simp⟩) hHeld ?_
        refine wpAnyH_ready (rs := [2]) (by kernel_rfl) (by simp) ?_
        refine AllReadyH.cons rfl (fun K hK => ?_) AllReadyH.nil
        go_simp
        refine (HRf.out _ hHeld.2).mono ?_
        rintro e w5 ⟨rfl, hk5⟩
        go_wp2_with fail
        refine hK.out _ _ ⟨HKr.out _ hk5, hk5⟩ (fun hH5 => ?_)
        clear hK K hHeld hS0 hkp
        refine wpAnyH_take (i := 3) (v := .bool true) rfl (by kernel_rfl) (by kernel_rfl) (by kernel_rfl) (fun _ _ _ h => h) (Or.inl ⟨by rfl, fun w' _ => by go_simp⟩) hH5 ?_
        refine wpAnyH_take (i := 4) (v := .bool true) rfl (by kernel_rfl) (by kernel_rfl) (by kernel_rfl) (fun _ _ _ h => h) (Or.inl ⟨by rfl, fun w' _ => by go_simp⟩) hH5 ?_
        refine wpAnyH_take (i := 7) (v := .string TT) rfl (by kernel_rfl) (by kernel_rfl) (by kernel_rfl) (fun _ _ _ h => h) (Or.inl ⟨by rfl, fun w' _ => by go_simp⟩) hH5 ?_
        refine wpAnyH_take (i := 5) (v := .agg cs.toArray) rfl (by kernel_rfl) (by kernel_rfl) (by kernel_rfl) (fun _ _ _ h => h) (yieldsIf_load_mid (by rfl) 24 (.tmp 3) rfl E 0 rfl cs _ (fun _ hw => hw.1) h24 rfl hsz) hH5 ?_
        refine wpAnyH_ready (rs := [6]) (by kernel_rfl) (by simp) ?_
        refine AllReadyH.cons rfl (fun K hK => ?_) AllReadyH.nil
        go_simp
        refine (HHx.out _).mono ?_
        rintro e w6 ⟨rfl, hb6⟩
        have hk6 := hk5.below hb6
        go_wp2_with fail
        refine hK.out _ _ ⟨HKr.out _ hk6, hk6⟩ (fun hH6 => ?_)
        clear hK K hH5 hk5
        refine wpAnyH_take (i := 8) (v := .bool true) rfl (by kernel_rfl) (by kernel_rfl) (by kernel_rfl) (fun _ _ _ h => h) (Or.inl ⟨by rfl, fun w' _ => by go_simp⟩) hH6 ?_
        refine wpAnyH_take (i := 9) (v := .bool true) rfl (by kernel_rfl) (by kernel_rfl) (by kernel_rfl) (fun _ _ _ h => h) (Or.inl ⟨by rfl, fun w' _ => by go_simp⟩) hH6 ?_
        refine wpAnyH_take (i := 10) (v := .bool true) rfl (by kernel_rfl) (by kernel_rfl) (by kernel_rfl) (fun _ _ _ h => h) (Or.inl ⟨by rfl, fun w' _ => by go_simp⟩) hH6 ?_
        refine wpAnyH_done (by kernel_rfl) ?_ _
        refine NoPanic.normal ?_
        go_wp2
        go_ret
        exact ⟨rfl, hk6.2.1⟩
end Go.Proofs.YtnpohlimedhopaaDoor.sumDigest
