/- The library's comparison of texts in any letters, where one of them is not ASCII. -/
import Derived.Test.YtbhpgghbpibalaaGreatDoorMb3
import Derived.Lib.QuoteLoop
import Derived.Laws.RangeAny
import Derived.WalkMore
import Derived.ScopeJumps
import Derived.Deep.LoopGhost
namespace Go.Proofs.YtbhpgghbpibalaaGreatDoor.dat
open Go.ChangeShapes Go.WideShapes Go.ChangeAt Go.RowKit
open Go.Lib (dg itoa byteCells strCells)
set_option linter.unusedVariables false
set_option linter.unusedSimpArgs false

set_option maxRecDepth 100000 in
theorem fold_ascii (w : World) (c d : Nat) (hc : c < 128) (hd : d < 65536) (h : w.cell? ⟨6, c, none⟩ = some (.int .u16 (d : Nat))) :
    Calls Tryz.prog 87 #[.int .i32 c] w fun e w' => e = .returned (.int .i32 d) ∧ w' = w := by
  have hb := block_lt_of_cell h
  go_enter Tryz.func87, Tryz.ntmps87
  go_wp2
  go_ret
  exact ⟨rfl, rfl⟩
theorem fold_383 (w : World) (h : Fold w) :
    Calls Tryz.prog 87 #[.int .i32 383] w fun e w' => e = .returned (.int .i32 83) ∧ w' = w := by
  obtain ⟨-, R, o, cap, hc, hR, h47, h23, h11, h5, h8, h10, h9, ht⟩ := h
  have h10b : w.cell? ⟨R, o + 10 * 2 + 0, none⟩ = some (.int .u16 383) := h10
  simp only [Nat.reduceMul] at h47 h23 h11 h5 h8 h10 h9 ht h10b
  have h2 := block_lt_of_cell hc
  go_enter Tryz.func87, Tryz.ntmps87
  go_wp2
  go_loop [3, 4] (fun lo hi => (lo = .int .i64 0 ∧ hi = .int .i64 94) ∨ (lo = .int .i64 0 ∧ hi = .int .i64 47) ∨ (lo = .int .i64 0 ∧ hi = .int .i64 23) ∨ (lo = .int .i64 0 ∧ hi = .int .i64 11) ∨ (lo = .int .i64 6 ∧ hi = .int .i64 11) ∨ (lo = .int .i64 9 ∧ hi = .int .i64 11) ∨ (lo = .int .i64 9 ∧ hi = .int .i64 10) ∨ (lo = .int .i64 10 ∧ hi = .int .i64 10)) (fun lo hi => (intOf hi).toNat - (intOf lo).toNat)
  case atStart => exact .inl ⟨rfl, rfl⟩
  case round =>
    rcases hrel with ⟨rfl, rfl⟩ | ⟨rfl, rfl⟩ | ⟨rfl, rfl⟩ | ⟨rfl, rfl⟩ | ⟨rfl, rfl⟩ | ⟨rfl, rfl⟩ | ⟨rfl, rfl⟩ | ⟨rfl, rfl⟩
    all_goals go_wp2
    all_goals first
      | (go_ret; exact ⟨rfl, rfl⟩)
      | (refine ⟨?_, ?_⟩ <;> simp [intOf]; done)

/-- A letter whose other case is one alone. -/
def Plain (c : Nat) : Prop := ∃ d, c < 128 ∧ d < 128 ∧ d ≠ c ∧ asciiL.getD c 0 = (d : Int) ∧ asciiL.getD d 0 = (c : Int)
theorem decode_one (s : ByteArray) (pos : Nat) (h : pos < s.size) (ha : 128 ≤ byt s pos) : 128 ≤ (Utf8.decode s pos).1 ∧ 1 ≤ (Utf8.decode s pos).2 ∧ (Utf8.decode s pos).1 ≤ 1114111 ∧ ((Utf8.decode s pos).2 = 1 → (Utf8.decode s pos).1 = 65533) := by
  rw [← byt_at s pos h] at ha
  have h1 := decode_high s pos h ha
  refine ⟨h1.1, h1.2, ?_, ?_⟩
  · have hb : ∀ k, (s.get! (pos + k)).toNat < 256 := fun k => (s.get! (pos + k)).toNat_lt
    have h0 := hb 0; have h1 := hb 1; have h2 := hb 2; have h3 := hb 3
    simp only [Utf8.decode]
    repeat' split
    all_goals simp_all [Utf8.runeError, Utf8.valid]
    all_goals omega
  · have hn : ¬ (s[pos]'h).toNat < 128 := by omega
    simp only [Utf8.decode, get_at s pos h, hn, if_false]
    repeat' split
    all_goals simp_all [Utf8.runeError]

theorem rest_at (t : ByteArray) (ht : t.size = 3) (p : Nat) (hp : p < 3) : (t.extract p 3).size = 3 - p ∧ (∃ x : UInt8, (t.extract p 3).data.toList[0]? = some x ∧ x.toNat = byt t p) ∧ (t.extract p 3).extract 1 (t.extract p 3).size = t.extract (p + 1) 3 := by
  have hz : (t.extract p 3).size = 3 - p := by rw [ByteArray.size_extract]; omega
  refine ⟨hz, ?_, ?_⟩
  · have hb := byt_extract t p 3 0 (by omega) (by omega)
    have hl : 0 < (t.extract p 3).data.toList.length := by rw [← Lib.size_eq]; omega
    refine ⟨_, List.getElem?_eq_getElem hl, ?_⟩
    rw [Nat.add_zero] at hb
    rw [← hb]
    unfold byt
    rw [getElem!_pos _ 0 (show 0 < (t.extract p 3).size by omega)]
    simp
  · rw [hz, ByteArray.extract_extract]
    congr 1 <;> omega
theorem meas (c c' : Nat) (h : c' ≠ c) : (if intOf (.int .i32 (c : Nat)) = (c : Int) then 0 else 1) < (if intOf (.int .i32 (c' : Nat)) = (c : Int) then 0 else 1) := by
  rw [if_pos (show intOf (.int .i32 (c : Nat)) = (c : Int) from rfl), if_neg (show ¬ intOf (.int .i32 (c' : Nat)) = (c : Int) from fun e => h (Int.ofNat.inj e))]
  omega
theorem list_range (l : List Value) : l = (List.range l.length).map fun k => l.getD k undef := by
  apply List.ext_getElem
  · simp
  · intro i h1 h2
    simp [List.getD, h1]
theorem frame123 (tm : Array Value) (h : tm.size = 123) : ∃ U : Nat → Value, tm = #[U 0, U 1, U 2, U 3, U 4, U 5, U 6, U 7, U 8, U 9, U 10, U 11, U 12, U 13, U 14, U 15, U 16, U 17, U 18, U 19, U 20, U 21, U 22, U 23, U 24, U 25, U 26, U 27, U 28, U 29, U 30, U 31, U 32, U 33, U 34, U 35, U 36, U 37, U 38, U 39, U 40, U 41, U 42, U 43, U 44, U 45, U 46, U 47, U 48, U 49, U 50, U 51, U 52, U 53, U 54, U 55, U 56, U 57, U 58, U 59, U 60, U 61, U 62, U 63, U 64, U 65, U 66, U 67, U 68, U 69, U 70, U 71, U 72, U 73, U 74, U 75, U 76, U 77, U 78, U 79, U 80, U 81, U 82, U 83, U 84, U 85, U 86, U 87, U 88, U 89, U 90, U 91, U 92, U 93, U 94, U 95, U 96, U 97, U 98, U 99, U 100, U 101, U 102, U 103, U 104, U 105, U 106, U 107, U 108, U 109, U 110, U 111, U 112, U 113, U 114, U 115, U 116, U 117, U 118, U 119, U 120, U 121, U 122] ∧ ∀ k, tm.getD k undef = U k := by
  obtain ⟨l⟩ := tm
  have h' : l.length = 123 := h
  refine ⟨fun k => l.getD k undef, ?_, fun k => ?_⟩
  · have := list_range l
    rw [h'] at this
    exact congrArg Array.mk (this.trans rfl)
  · show (⟨l⟩ : Array Value).getD k undef = l.getD k undef
    by_cases hk : k < l.length
    · simp [Array.getD, List.getD, hk]
    · simp [Array.getD, List.getD, hk]
set_option maxHeartbeats 6400000 in
set_option maxRecDepth 100000 in
theorem fold_high (w : World) (s t : ByteArray) (hs : s.size = 3) (ht : t.size = 3) (hF : Fold w) (hhi : ∃ j, j < 3 ∧ 128 ≤ byt s j)
    (hlow : ∀ j, j < 3 → byt t j < 128 ∧ (Plain (byt t j) ∨ byt t j = 83)) :
    Calls Tryz.prog 72 #[.string s, .string t] w fun e w' => e = .returned (.bool false) ∧ Below w.heap.size w w' := by
  have HHI := Lib.hid hhi
  have HLOW := Lib.hid hlow
  have HF := Lib.hid hF
  clear hhi hlow hF
  have hmin : min (s.size : Int) (t.size : Int) = 3 := by omega
  go_enter Tryz.func72, Tryz.ntmps72
  go_wp2
  refine wp_scope_jumps 0 (fun a' w' => w' = w ∧ a'.defers = [] ∧ a'.tmps.size = 123 ∧ a'.tmps.getD 0 undef = .string s ∧ a'.tmps.getD 1 undef = .string t ∧ ∃ i : Nat, a'.tmps.getD 5 undef = .int .i64 (i : Nat) ∧ i < 3 ∧ Hid (128 ≤ byt s i)) (fun _ _ => 0) rfl ?_ ?_
  · go_wp2
    go_loopw [5] (fun x wx => ∃ i : Nat, i ≤ 3 ∧ x = .int .i64 i ∧ wx = w ∧ Hid (∀ j, j < i → byt s j < 128)) (fun x _ => 3 - (intOf x).toNat)
    case atStart => exact ⟨0, Nat.zero_le _, rfl, rfl, fun j hj => absurd hj (Nat.not_lt_zero _)⟩
    case round =>
      obtain ⟨i, hi, rfl, rfl, hh⟩ := hrel
      by_cases hi3 : i < 3
      · obtain ⟨x, hx⟩ : ∃ x, byt s i = x := ⟨_, rfl⟩
        obtain ⟨y, hy⟩ : ∃ y, byt t i = y := ⟨_, rfl⟩
        have ex : (s[i]).toNat = x := by rw [byt_at]; exact hx
        have ey : (t[i]).toNat = y := by rw [byt_at]; exact hy
        have hx256 : x < 256 := hx ▸ byt_lt s i
        have hy128 : y < 128 := hy ▸ (HLOW.out i hi3).1
        have hor : bits .or .u8 (x : Int) (y : Int) = ((x ||| y : Nat) : Int) := u8_or_nat _ _ (by omega) (by omega)
        by_cases hx128 : 128 ≤ x
        · have ho : (128 : Int) ≤ ((x ||| y : Nat) : Int) := by have : x ≤ x ||| y := Nat.left_le_or; omega
          have HX := Lib.hid (show 128 ≤ byt s i by rw [hx]; exact hx128)
          clear hx hy
          go_wp2
          go_step3
          exact ⟨rfl, rfl, rfl, rfl, rfl, rfl, i, rfl, hi3, HX.out⟩
        · have ho : ¬ (128 : Int) ≤ ((x ||| y : Nat) : Int) := by have := Nat.or_lt_two_pow (n := 7) (show x < 2 ^ 7 by omega) (show y < 2 ^ 7 by omega); omega
          have HN := Lib.hid (show ∀ j, j < i + 1 → byt s j < 128 by
            intro j hj
            rcases Nat.lt_succ_iff_lt_or_eq.1 hj with h' | rfl
            · exact hh.out j h'
            · rw [hx]; omega)
          clear hx hy hh
          go_wp2
          all_goals try (simp only [Exit.jump]; go_ret; exact ⟨rfl, Below.refl _ _⟩)
          all_goals exact ⟨⟨i + 1, by omega, by simp, trivial, HN.out⟩, by simp [intOf]; omega⟩
      · exfalso
        obtain ⟨j, hj, hb⟩ := HHI.out
        have := hh.out j (by omega)
        omega
  · rintro ⟨tm, df⟩ w' ⟨rfl, hdf, hsz, h0, h1, i, h5, hi, HX⟩
    have hdf' : df = [] := hdf
    subst hdf'
    obtain ⟨U, hU, hUk⟩ := frame123 tm hsz
    have g0 : U 0 = .string s := (hUk 0).symm.trans h0
    have g1 : U 1 = .string t := (hUk 1).symm.trans h1
    have g5 : U 5 = .int .i64 (i : Nat) := (hUk 5).symm.trans h5
    rw [g0, g1, g5] at hU
    subst hU
    clear hdf hsz h0 h1 h5 hUk g0 g1 g5
    have hq1 := (rest_at s hs i hi)
    have hq0 : byt (s.extract i 3) 0 = byt s i := byt_extract s i 3 0 (by omega) (by omega)
    have HQ0 := Lib.hid (show 128 ≤ byt (s.extract i 3) 0 by rw [hq0]; exact HX.out)
    have HQZ := Lib.hid hq1.1
    clear hq1 hq0
    go_wp2
    obtain ⟨q, hq⟩ : ∃ q, s.extract i 3 = q := ⟨_, rfl⟩
    rw [hq] at HQ0 HQZ ⊢
    clear hq
    go_loopw [1] (fun x wx => ∃ pos p : Nat, p < 3 ∧ x = .string (t.extract p 3) ∧ wx = w'.iter q pos ∧ ((pos = 0 ∧ p = i) ∨ q.size - pos < 3 - p)) (fun _ wx => q.size - wx.iterPos w'.heap.size)
    case atStart => exact ⟨0, i, hi, rfl, rfl, .inl ⟨rfl, rfl⟩⟩
    case round =>
      obtain ⟨pos, p, hp, rfl, rfl, hst⟩ := hrel
      obtain ⟨hrz, ⟨x, hx, hxb⟩, hre⟩ := rest_at t ht p hp
      have hlow := HLOW.out p hp
      rw [← hxb] at hlow
      obtain ⟨r, hr⟩ : ∃ r, t.extract p 3 = r := ⟨_, rfl⟩
      rw [hr] at hrz hx hre ⊢
      have HDR := Lib.hid (fun w => Tryz.utf8_DecodeRuneInString_ascii r x w hx hlow.1)
      have HRE := Lib.hid hre
      have HHL := Lib.hid hlow
      obtain ⟨c, hc⟩ : ∃ c, x.toNat = c := ⟨_, rfl⟩
      rw [hc] at HDR HHL hlow
      have hc128 := hlow.1
      have hr0 : 0 < r.size := by omega
      have hr9 : r.size ≤ 3 := by omega
      have hr1 : 1 ≤ r.size := hr0
      clear hr hx hxb hre hc hlow hrz
      by_cases hpos : pos < q.size
      · have hnx := fun ty => run_next_any (P := Tryz.prog) w' q pos ty hpos
        obtain ⟨dz, hdz⟩ : ∃ dz, Utf8.decode q pos = dz := ⟨_, rfl⟩
        by_cases hhi : 128 ≤ byt q pos
        · have hd1 := decode_one q pos hpos hhi
          have hzle : pos = 0 → (Utf8.decode q pos).2 ≤ q.size := fun h => by subst h; exact Lib.width_le q (by omega)
          rw [hdz] at hnx hd1 hzle
          obtain ⟨d, z⟩ := dz
          obtain ⟨d128, z1, dle, hz⟩ := hd1
          simp only at hnx d128 z1 dle hz hzle
          clear hdz
          have hgo : d = 383 → (p + 1 < 3 ∧ q.size - (pos + z) < 3 - (p + 1)) := by
            intro h383
            have hz2 : 2 ≤ z := by
              rcases Nat.lt_or_ge z 2 with h | h
              · have := hz (by omega); omega
              · exact h
            have hqz := HQZ.out
            rcases hst with ⟨rfl, rfl⟩ | hst
            · have := hzle rfl
              omega
            · omega
          have HGO := Lib.hid hgo
          clear hgo hz hzle hst
          have hrne : ((r.size : Int) == 0) = false := by rw [beq_eq_false_iff_ne]; omega
          have n1 : ((c : Int) == (d : Int)) = false := by rw [beq_eq_false_iff_ne]; omega
          have n2 : (c : Int) < (d : Int) := by omega
          have n3 : ¬ (d : Int) < 128 := by omega
          rcases HHL.out.2 with hpl | h83
          · obtain ⟨c', -, hc', hne, f1, f2⟩ := hpl
            have F1 := Lib.hid (fun w1 (h : Fold w1) => fold_ascii w1 c c' hc128 (by omega) (by rw [h.asc c hc128, f1]))
            have F2 := Lib.hid (fun w1 (h : Fold w1) => fold_ascii w1 c' c hc' (by omega) (by rw [h.asc c' hc', f2]))
            have HF1 := Lib.hid (show Fold (w'.iter q (pos + z)) from HF.out.below ((Below.refl _ _).alloc (Nat.le_refl _) (Obj.stringIter q (pos + z))))
            have m1 : ((c' : Int) != (c : Int)) = true := by rw [bne_iff_ne]; omega
            have m2 : (c' : Int) < (d : Int) := by omega
            have HCC := Lib.hid hne
            clear f1 f2 hne
            go_wp2_with (first
              | (go_at_call 64; with_reducible refine Calls.mono (HDR.out _) ?_; rintro e w1 ⟨rfl, hw⟩; replace hw := hw.symm; subst hw)
              | (go_at_call 87; with_reducible refine Calls.mono (F1.out _ HF1.out) ?_; rintro e w1 ⟨rfl, hw⟩; replace hw := hw.symm; subst hw))
            go_loopw [13] (fun x wx => (x = .int .i32 c' ∨ x = .int .i32 c) ∧ wx = w'.iter q (pos + z)) (fun x _ => if intOf x = c then 0 else 1)
            case atStart => exact ⟨.inl rfl, rfl⟩
            case round =>
              obtain ⟨rfl | rfl, rfl⟩ := hrel
              · go_wp2_with (go_at_call 87; with_reducible refine Calls.mono (F2.out _ HF1.out) ?_; rintro e w1 ⟨rfl, hw⟩; replace hw := hw.symm; subst hw)
                exact ⟨⟨.inr rfl, trivial⟩, meas c c' HCC.out⟩
              · go_wp2
                simp only [Exit.jump]
                go_ret
                exact ⟨rfl, (Below.refl _ _).alloc (Nat.le_refl _) _⟩
          · subst h83
            have F1 := Lib.hid (fun w1 (h : Fold w1) => fold_ascii w1 83 115 (by omega) (by omega) (by rw [h.asc 83 (by omega)]; kernel_rfl))
            have F2 := Lib.hid (fun w1 (h : Fold w1) => fold_ascii w1 115 383 (by omega) (by omega) (by rw [h.asc 115 (by omega)]; kernel_rfl))
            have F3 := Lib.hid (fun w1 (h : Fold w1) => fold_383 w1 h)
            have HF1 := Lib.hid (show Fold (w'.iter q (pos + z)) from HF.out.below ((Below.refl _ _).alloc (Nat.le_refl _) (Obj.stringIter q (pos + z))))
            go_wp2_with (first
              | (go_at_call 64; with_reducible refine Calls.mono (HDR.out _) ?_; rintro e w1 ⟨rfl, hw⟩; replace hw := hw.symm; subst hw)
              | (go_at_call 87; refine Calls.mono (F1.out _ HF1.out) ?_; rintro e w1 ⟨rfl, hw⟩; replace hw := hw.symm; subst hw))
            go_loopw [13] (fun x wx => (x = .int .i32 115 ∨ x = .int .i32 383 ∨ (x = .int .i32 83 ∧ 383 < d)) ∧ wx = w'.iter q (pos + z)) (fun x _ => if intOf x = 83 then 0 else if intOf x = 383 then 1 else 2)
            case atStart => exact ⟨.inl rfl, rfl⟩
            case round =>
              obtain ⟨rfl | rfl | ⟨rfl, hd383⟩, rfl⟩ := hrel
              · have m2 : (115 : Int) < (d : Int) := by omega
                go_wp2_with (go_at_call 87; refine Calls.mono (F2.out _ HF1.out) ?_; rintro e w1 ⟨rfl, hw⟩; replace hw := hw.symm; subst hw)
                exact ⟨⟨.inr (.inl rfl), trivial⟩, by decide⟩
              · by_cases hd383 : 383 < d
                · have m2 : (383 : Int) < (d : Int) := by omega
                  go_wp2_with (go_at_call 87; refine Calls.mono (F3.out _ HF1.out) ?_; rintro e w1 ⟨rfl, hw⟩; replace hw := hw.symm; subst hw)
                  exact ⟨⟨.inr (.inr ⟨rfl, hd383⟩), trivial⟩, by decide⟩
                · have m2 : ¬ (383 : Int) < (d : Int) := by omega
                  by_cases hde : d = 383
                  · have m3 : ((383 : Int) == (d : Int)) = true := by rw [beq_iff_eq]; omega
                    have hg := HGO.out hde
                    clear hde
                    go_wp2
                    exact ⟨⟨pos + z, p + 1, hg.1, by rw [HRE.out], rfl, .inr hg.2⟩, by simp; omega⟩
                  · have m3 : ((383 : Int) == (d : Int)) = false := by rw [beq_eq_false_iff_ne]; omega
                    go_wp2
                    simp only [Exit.jump]
                    go_ret
                    exact ⟨rfl, (Below.refl _ _).alloc (Nat.le_refl _) _⟩
              · have m3 : ((83 : Int) == (d : Int)) = false := by rw [beq_eq_false_iff_ne]; omega
                go_wp2
                simp only [Exit.jump]
                go_ret
                exact ⟨rfl, (Below.refl _ _).alloc (Nat.le_refl _) _⟩
        · have hlo : byt q pos < 128 := by omega
          have hst2 : q.size - pos < 3 - p := by
            rcases hst with ⟨rfl, rfl⟩ | hst
            · have := HQ0.out; omega
            · exact hst
          have hdd : Utf8.decode q pos = (byt q pos, 1) := by rw [decode_ascii q pos hpos (by rw [byt_at]; exact hlo), byt_at]
          rw [hdd] at hnx
          obtain ⟨d, hd⟩ : ∃ d, byt q pos = d := ⟨_, rfl⟩
          rw [hd] at hnx hlo
          simp only at hnx
          have HST := Lib.hid (show p + 1 < 3 ∧ q.size - (pos + 1) < 3 - (p + 1) by omega)
          clear hst hst2 hdd hdz hd hhi
          have hrne : ((r.size : Int) == 0) = false := by rw [beq_eq_false_iff_ne]; omega
          go_wp2_with (go_at_call 64; with_reducible refine Calls.mono (HDR.out _) ?_; rintro e w1 ⟨rfl, hw⟩; replace hw := hw.symm; subst hw)
          all_goals try (simp only [Exit.jump]; go_ret; exact ⟨rfl, (Below.refl _ _).alloc (Nat.le_refl _) _⟩)
          all_goals exact ⟨⟨pos + 1, p + 1, HST.out.1, by rw [HRE.out], rfl, .inr HST.out.2⟩, by simp; omega⟩
      · have hrne : ((r.size : Int) == 0) = false := by rw [beq_eq_false_iff_ne]; omega
        have hnx := fun ty => run_next_end (P := Tryz.prog) w' q pos ty hpos
        go_wp2
        simp only [Exit.jump]
        go_ret
        exact ⟨rfl, (Below.refl _ _).alloc (Nat.le_refl _) _⟩
end Go.Proofs.YtbhpgghbpibalaaGreatDoor.dat
