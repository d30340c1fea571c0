/- The statement's walk. -/
import Derived.Test.YtbhpgghbpibalaaGreatDoorMpo
namespace Go.Proofs.YtbhpgghbpibalaaGreatDoor.par
open Go.ChangeShapes Go.WideShapes Go.ChangeAt Go.RowKit
open Go.Proofs.YtbhpgghbpibalaaGreatDoor.codec (Bytes vals)
open Go.Proofs.YtbhpgghbpibalaaGreatDoor.row
open Go.Proofs.YtbhpgghbpibalaaGreatDoor.lx (Tk cT fT Fit tok_at octs Sl Room own_slice ix ix_le)
set_option linter.unusedVariables false
set_option maxRecDepth 100000
set_option linter.unusedSimpArgs false

theorem noop_lies (w : World) : Sl (w.alloc (.cells #[.int .u8 97, .int .u8 32, .int .u8 110, .int .u8 111, .int .u8 111, .int .u8 112] 5 (6, 7))) (some ⟨w.heap.size, 0, none⟩) 6 6 noopB := by
  refine ⟨⟨rfl, by decide, fun _ => ⟨_, 0, rfl, fun i hi => ?_⟩⟩, Nat.le_refl _, trivial, fun e => by cases e⟩
  have : i = 0 ∨ i = 1 ∨ i = 2 ∨ i = 3 ∨ i = 4 ∨ i = 5 := by omega
  rw [World.cell?, heap_alloc_new]
  rcases this with rfl | rfl | rfl | rfl | rfl | rfl <;> rfl
theorem start_tag (w : World) (A B : ByteArray) : (w.alloc (.cells (tags17 A B) 29)).cell? ⟨w.heap.size, 0, none⟩ = some (.string A) := by
  rw [World.cell?, heap_alloc_new]
  rfl
set_option maxHeartbeats 6400000 in
theorem awake_any (w : World) (hE : Env w) :
    Calls Tryz.prog 4 #[] w fun e w' => e = .returned (.bool true) ∧ Below w.heap.size w w' := by
  have HB1 := Lib.hid (show Below w.heap.size w (w.alloc (.cells #[.int .u8 97, .int .u8 32, .int .u8 110, .int .u8 111, .int .u8 111, .int .u8 112] 5 (6, 7))) from (Below.refl _ _).alloc (Nat.le_refl _) _)
  have HP := Lib.hid (Parse_noop (w.alloc (.cells #[.int .u8 97, .int .u8 32, .int .u8 110, .int .u8 111, .int .u8 111, .int .u8 112] 5 (6, 7))) _ 6 6 (noop_lies w) (by decide) (hE.below HB1.out))
  clear hE
  have hcv := fun (w : World) (C : Array Value) (n c g : Nat) (hg : g = w.heap.size) => Go.Joins.run_convert_bytes_const_at (P := Tryz.prog) w 22 5 C n c g hg Tryz.underlying22 Tryz.underlying5
  go_enter Tryz.func4, Tryz.ntmps4
  go_wp2_with (first
    | (go_at_call 6; refine HP.out.mono ?_; rintro e w2 ⟨rfl, hb⟩; have HB2 := Lib.hid (HB1.out.trans (hb.mono HB1.out.size)); have d0 := start_tag w2 ⟨#[97]⟩ ⟨#[78, 79, 79, 80]⟩; have d1 := start_name w2 ⟨#[97]⟩ ⟨#[78, 79, 79, 80]⟩; clear hb)
    | (refine wpList_store_row rfl 29 (.tmp 1) (.tmp 7) rfl w2.heap.size (tags17 ⟨#[97]⟩ ⟨#[78, 79, 79, 80]⟩) rfl rfl 29 zero17 (heap_alloc_new w2 _) (size17 _ rfl) rfl (tags_all _ _) ?_; rw [World.setRow_alloc_new]))
  go_ret
  exact ⟨rfl, HB2.out.alloc HB2.out.size _⟩
theorem ix_before {s : Nat} : ∀ {l : List Nat} {k x : Nat}, k < ix s l → l[k]? = some x → x ≠ s
  | [], k, x, h, hx => by simp at hx
  | y :: r, 0, x, h, hx => by
    simp at hx
    subst hx
    rw [ix] at h
    split at h
    · omega
    · assumption
  | y :: r, k + 1, x, h, hx => by
    rw [ix] at h
    split at h
    · omega
    · exact ix_before (l := r) (k := k) (by omega) (by simpa using hx)
theorem ix_here {s : Nat} : ∀ {l : List Nat} {x : Nat}, l[ix s l]? = some x → x = s
  | [], x, hx => by simp at hx
  | y :: r, x, hx => by
    rw [ix] at hx
    split at hx
    · simp at hx; omega
    · exact ix_here (l := r) (by simpa using hx)
theorem takeT_ahead {b : List Nat} (h : ∀ x ∈ b, x < 256) : ∀ x ∈ ahead b, x < 256 := fun x hx => h x (List.mem_of_mem_take hx)
theorem start_cell (w w4 : World) (A B : ByteArray) (hb : Below (w.alloc (.cells (tags17 A B) 29)).heap.size (w.alloc (.cells (tags17 A B) 29)) w4) (i : Nat) (v : Value) (h : (tags17 A B)[i]? = some v) : w4.cell? ⟨w.heap.size, i, none⟩ = some v := by
  rw [hb.cell (p := ⟨w.heap.size, i, none⟩) (by simp), World.cell?, heap_alloc_new]
  exact h
theorem str_self (s : ByteArray) : (s.toList == s.toList) = true := by simp
set_option maxHeartbeats 12800000 in
theorem tags_walk (w : World) (A : Option Addr) (n c : Nat) (b : List Nat) (hS : Sl w A n c b) (hE : Env w) :
    Calls Tryz.prog 3 #[.slice A n c] w fun e w' => e = .returned (.bool true) ∧ Below w.heap.size w w' := by
  have HA := Lib.hid (fun w1 (h : Below w.heap.size w w1) => awake_any w1 (hE.below h))
  have HA0 := Lib.hid (awake_any w hE)
  by_cases hn : n ≤ 3000
  · have q1 : decide ((3000 : Int) < (n : Int)) = false := decide_eq_false (by omega)
    have HS := Lib.hid hS
    have HN := Lib.hid hn
    have HE := Lib.hid hE
    clear hS hn hE
    go_enter Tryz.func3, Tryz.ntmps3
    go_wp2_with (go_at_call 4; refine HA0.out.mono ?_; rintro e w1 ⟨rfl, hb⟩; have HB1 := Lib.hid hb; clear hb)
    have hHle := ix_le 32 b
    have hlen := HS.out.1.1
    have HSW := Lib.hid (HS.out.below HB1.out)
    have hnc := HS.out.2.1
    obtain ⟨m, hm⟩ : ∃ m, m = ix 32 b := ⟨_, rfl⟩
    have HM := Lib.hid hm
    have hmn : m ≤ n := by omega
    have hmc : m ≤ c := by omega
    have hah := takeT_ahead HS.out.1.2.1
    have HTg := Lib.hid (tagged_any w1 (ahead b) hah (Nat.le_trans (by unfold ahead; rw [List.length_take]; omega) HN.out))
    have hcv : (convert 22 9 (.slice A m c)).run Tryz.prog w1 = .ok (.string (lx.strOf (ahead b))) w1 := by
      rw [hm]
      exact lx.Bytes.text (lx.Bytes.part HSW.out.1 _ (by omega)) c
    have HNB := Lib.hid (fun k x (h : k < m) (hx : b[k]? = some x) => ix_before (by rw [← hm]; exact h) hx)
    have HAT := Lib.hid (fun x (hx : b[m]? = some x) => ix_here (s := 32) (by rw [← hm]; exact hx))
    have HLN := Lib.hid hlen
    clear hm hah hHle hlen
    go_loop [3] (fun i => ∃ k : Nat, k ≤ m ∧ i = .int .i64 k) (fun i => m - (intOf i).toNat)
    case atStart => exact ⟨0, Nat.zero_le _, rfl⟩
    case round =>
      obtain ⟨k, hk, rfl⟩ := hrel
      by_cases hkm : k < m
      · have hkn : k < n := by omega
        obtain ⟨b0, o0, rfl, -⟩ := HSW.out.1.2.2 (by omega)
        obtain ⟨x, hx, hx2, hxc⟩ := lx.byte_at HSW.out.1 hkn
        have l1 : (k : Int) < (n : Int) := by omega
        have q2 : ((x : Int) != 32) = true := by have := HNB.out k x hkm hx; rw [bne_iff_ne]; omega
        have lb : b0 < w1.heap.size := block_lt_of_cell hxc
        have hk3 : k < 3000 := by have := HN.out; omega
        clear hx hx2
        go_wp2
        all_goals clear q2
        go_round
        case rel => first | exact ⟨k + 1, by omega, by go_num⟩ | ((repeat apply Exists.intro); exact ⟨⟨k + 1, by omega, by go_num⟩, rfl⟩)
        case measure => (show m - ((k : Int) + 1).toNat < m - k; omega)
      · obtain rfl : k = m := by omega
        clear hkm hk
        by_cases hkn : k < n
        · obtain ⟨b0, o0, rfl, -⟩ := HSW.out.1.2.2 (by omega)
          obtain ⟨x, hx, hx2, hxc⟩ := lx.byte_at HSW.out.1 hkn
          have l1 : (k : Int) < (n : Int) := by omega
          obtain rfl := HAT.out x hx
          have lb : b0 < w1.heap.size := block_lt_of_cell hxc
          clear hx hx2
          cases ht : tagB (ahead b) <;> rw [ht] at HTg
          · have HTS := Lib.hid (show tagS b = ⟨#[42]⟩ by unfold tagS; rw [ht]; rfl)
            clear ht
            go_wp2_with (go_at_call 5; refine HTg.out.mono ?_; rintro e w2 ⟨rfl, hw⟩; replace hw := hw.symm; subst hw)
            refine (Parse_any _ _ n c b HSW.out HN.out (HE.out.below HB1.out)).mono ?_
            rintro e w2 ⟨cs, ok, rfl, hsz, hall, hcs, hb2⟩
            have HTag := Lib.hid (fun w1 (h : Below w.heap.size w w1) => Tag_any w1 _ n c b (HS.out.below h) (Nat.le_trans HN.out (by decide)) (HE.out.room.below h))
            rw [HTS.out] at HTag
            cases ok
            · obtain rfl := hcs rfl
              rw [HTS.out]
              have HB2 := Lib.hid (HB1.out.trans (hb2.mono HB1.out.size))
              have HB3 := Lib.hid (HB2.out.alloc HB2.out.size (.cells (tags17 ⟨#[42]⟩ ⟨#[]⟩) 29))
              clear hb2 hcs hsz hall
              go_wp2_with (first
                | (refine wpList_store_row rfl 29 (.tmp 5) (.tmp 40) rfl w2.heap.size (tags17 ⟨#[42]⟩ ⟨#[]⟩) rfl rfl 29 zero17 (heap_alloc_new w2 _) (size17 _ rfl) rfl (tags_all _ _) ?_; rw [World.setRow_alloc_new])
                | (go_at_call 7; refine (HTag.out _ HB3.out).mono ?_; rintro e w4 ⟨rfl, hb4⟩; have HB4 := Lib.hid (HB3.out.trans (hb4.mono HB3.out.size)); have hx := start_cell w2 w4 ⟨#[42]⟩ ⟨#[]⟩ hb4; have d0 := hx 0 (.string ⟨#[42]⟩) rfl; have d1 := hx 1 (.string ⟨#[]⟩) rfl; have d14 := hx 14 (.slice none 0 0) rfl; have d15 := hx 15 (.slice none 0 0) rfl; have d16 := hx 16 (.slice none 0 0) rfl; clear hx hb4))
              all_goals (go_ret; exact ⟨rfl, HB4.out⟩)
            · have HB2 := Lib.hid (HB1.out.trans (hb2.mono HB1.out.size))
              have HZ := Lib.hid (And.intro hsz hall)
              have HB3 := Lib.hid (HB2.out.alloc HB2.out.size (.cells cs 29))
              clear hb2 hcs hsz hall
              go_wp2_with (first
                | (refine wpList_store_row rfl 29 (.tmp 5) (.tmp 40) rfl w2.heap.size cs rfl rfl 29 zero17 (heap_alloc_new w2 _) (size17 _ HZ.out.1) HZ.out.1.symm HZ.out.2 ?_; rw [World.setRow_alloc_new]))
              refine (HTag.out _ HB3.out).mono ?_
              rintro e w4 ⟨rfl, hb4⟩
              have HB4 := Lib.hid (HB3.out.trans (hb4.mono HB3.out.size))
              clear hb4
              go_wp2
              all_goals (go_ret; exact ⟨rfl, HB4.out⟩)
          · have HTS := Lib.hid (show tagS b = lx.strOf (ahead b) by unfold tagS; rw [if_pos ht])
            clear ht
            obtain ⟨T, hT⟩ : ∃ T, lx.strOf (ahead b) = T := ⟨_, rfl⟩
            rw [hT] at HTS HTg hcv
            clear hT
            go_wp2_with (go_at_call 5; refine HTg.out.mono ?_; rintro e w2 ⟨rfl, hw⟩; replace hw := hw.symm; subst hw)
            refine (Parse_any _ _ n c b HSW.out HN.out (HE.out.below HB1.out)).mono ?_
            rintro e w2 ⟨cs, ok, rfl, hsz, hall, hcs, hb2⟩
            have HTag := Lib.hid (fun w1 (h : Below w.heap.size w w1) => Tag_any w1 _ n c b (HS.out.below h) (Nat.le_trans HN.out (by decide)) (HE.out.room.below h))
            rw [HTS.out] at HTag
            cases ok
            · obtain rfl := hcs rfl
              rw [HTS.out]
              have HB2 := Lib.hid (HB1.out.trans (hb2.mono HB1.out.size))
              have HB3 := Lib.hid (HB2.out.alloc HB2.out.size (.cells (tags17 T ⟨#[]⟩) 29))
              clear hb2 hcs hsz hall
              go_wp2_with (first
                | (refine wpList_store_row rfl 29 (.tmp 5) (.tmp 40) rfl w2.heap.size (tags17 T ⟨#[]⟩) rfl rfl 29 zero17 (heap_alloc_new w2 _) (size17 _ rfl) rfl (tags_all _ _) ?_; rw [World.setRow_alloc_new])
                | (go_at_call 7; refine (HTag.out _ HB3.out).mono ?_; rintro e w4 ⟨rfl, hb4⟩; have HB4 := Lib.hid (HB3.out.trans (hb4.mono HB3.out.size)); have hx := start_cell w2 w4 T ⟨#[]⟩ hb4; have d0 := hx 0 (.string T) rfl; have d1 := hx 1 (.string ⟨#[]⟩) rfl; have d14 := hx 14 (.slice none 0 0) rfl; have d15 := hx 15 (.slice none 0 0) rfl; have d16 := hx 16 (.slice none 0 0) rfl; clear hx hb4))
              all_goals (go_ret; exact ⟨rfl, HB4.out⟩)
            · have HB2 := Lib.hid (HB1.out.trans (hb2.mono HB1.out.size))
              have HZ := Lib.hid (And.intro hsz hall)
              have HB3 := Lib.hid (HB2.out.alloc HB2.out.size (.cells cs 29))
              clear hb2 hcs hsz hall
              go_wp2_with (first
                | (refine wpList_store_row rfl 29 (.tmp 5) (.tmp 40) rfl w2.heap.size cs rfl rfl 29 zero17 (heap_alloc_new w2 _) (size17 _ HZ.out.1) HZ.out.1.symm HZ.out.2 ?_; rw [World.setRow_alloc_new]))
              refine (HTag.out _ HB3.out).mono ?_
              rintro e w4 ⟨rfl, hb4⟩
              have HB4 := Lib.hid (HB3.out.trans (hb4.mono HB3.out.size))
              clear hb4
              go_wp2
              all_goals (go_ret; exact ⟨rfl, HB4.out⟩)
        · have l1 : ¬ ((k : Int) < (n : Int)) := by omega
          cases ht : tagB (ahead b) <;> rw [ht] at HTg
          · have HTS := Lib.hid (show tagS b = ⟨#[42]⟩ by unfold tagS; rw [ht]; rfl)
            clear ht
            go_wp2_with (go_at_call 5; refine HTg.out.mono ?_; rintro e w2 ⟨rfl, hw⟩; replace hw := hw.symm; subst hw)
            refine (Parse_any _ _ n c b HSW.out HN.out (HE.out.below HB1.out)).mono ?_
            rintro e w2 ⟨cs, ok, rfl, hsz, hall, hcs, hb2⟩
            have HTag := Lib.hid (fun w1 (h : Below w.heap.size w w1) => Tag_any w1 _ n c b (HS.out.below h) (Nat.le_trans HN.out (by decide)) (HE.out.room.below h))
            rw [HTS.out] at HTag
            cases ok
            · obtain rfl := hcs rfl
              rw [HTS.out]
              have HB2 := Lib.hid (HB1.out.trans (hb2.mono HB1.out.size))
              have HB3 := Lib.hid (HB2.out.alloc HB2.out.size (.cells (tags17 ⟨#[42]⟩ ⟨#[]⟩) 29))
              clear hb2 hcs hsz hall
              go_wp2_with (first
                | (refine wpList_store_row rfl 29 (.tmp 5) (.tmp 40) rfl w2.heap.size (tags17 ⟨#[42]⟩ ⟨#[]⟩) rfl rfl 29 zero17 (heap_alloc_new w2 _) (size17 _ rfl) rfl (tags_all _ _) ?_; rw [World.setRow_alloc_new])
                | (go_at_call 7; refine (HTag.out _ HB3.out).mono ?_; rintro e w4 ⟨rfl, hb4⟩; have HB4 := Lib.hid (HB3.out.trans (hb4.mono HB3.out.size)); have hx := start_cell w2 w4 ⟨#[42]⟩ ⟨#[]⟩ hb4; have d0 := hx 0 (.string ⟨#[42]⟩) rfl; have d1 := hx 1 (.string ⟨#[]⟩) rfl; have d14 := hx 14 (.slice none 0 0) rfl; have d15 := hx 15 (.slice none 0 0) rfl; have d16 := hx 16 (.slice none 0 0) rfl; clear hx hb4))
              all_goals (go_ret; exact ⟨rfl, HB4.out⟩)
            · have HB2 := Lib.hid (HB1.out.trans (hb2.mono HB1.out.size))
              have HZ := Lib.hid (And.intro hsz hall)
              have HB3 := Lib.hid (HB2.out.alloc HB2.out.size (.cells cs 29))
              clear hb2 hcs hsz hall
              go_wp2_with (first
                | (refine wpList_store_row rfl 29 (.tmp 5) (.tmp 40) rfl w2.heap.size cs rfl rfl 29 zero17 (heap_alloc_new w2 _) (size17 _ HZ.out.1) HZ.out.1.symm HZ.out.2 ?_; rw [World.setRow_alloc_new]))
              refine (HTag.out _ HB3.out).mono ?_
              rintro e w4 ⟨rfl, hb4⟩
              have HB4 := Lib.hid (HB3.out.trans (hb4.mono HB3.out.size))
              clear hb4
              go_wp2
              all_goals (go_ret; exact ⟨rfl, HB4.out⟩)
          · have HTS := Lib.hid (show tagS b = lx.strOf (ahead b) by unfold tagS; rw [if_pos ht])
            clear ht
            obtain ⟨T, hT⟩ : ∃ T, lx.strOf (ahead b) = T := ⟨_, rfl⟩
            rw [hT] at HTS HTg hcv
            clear hT
            go_wp2_with (go_at_call 5; refine HTg.out.mono ?_; rintro e w2 ⟨rfl, hw⟩; replace hw := hw.symm; subst hw)
            refine (Parse_any _ _ n c b HSW.out HN.out (HE.out.below HB1.out)).mono ?_
            rintro e w2 ⟨cs, ok, rfl, hsz, hall, hcs, hb2⟩
            have HTag := Lib.hid (fun w1 (h : Below w.heap.size w w1) => Tag_any w1 _ n c b (HS.out.below h) (Nat.le_trans HN.out (by decide)) (HE.out.room.below h))
            rw [HTS.out] at HTag
            cases ok
            · obtain rfl := hcs rfl
              rw [HTS.out]
              have HB2 := Lib.hid (HB1.out.trans (hb2.mono HB1.out.size))
              have HB3 := Lib.hid (HB2.out.alloc HB2.out.size (.cells (tags17 T ⟨#[]⟩) 29))
              clear hb2 hcs hsz hall
              go_wp2_with (first
                | (refine wpList_store_row rfl 29 (.tmp 5) (.tmp 40) rfl w2.heap.size (tags17 T ⟨#[]⟩) rfl rfl 29 zero17 (heap_alloc_new w2 _) (size17 _ rfl) rfl (tags_all _ _) ?_; rw [World.setRow_alloc_new])
                | (go_at_call 7; refine (HTag.out _ HB3.out).mono ?_; rintro e w4 ⟨rfl, hb4⟩; have HB4 := Lib.hid (HB3.out.trans (hb4.mono HB3.out.size)); have hx := start_cell w2 w4 T ⟨#[]⟩ hb4; have d0 := hx 0 (.string T) rfl; have d1 := hx 1 (.string ⟨#[]⟩) rfl; have d14 := hx 14 (.slice none 0 0) rfl; have d15 := hx 15 (.slice none 0 0) rfl; have d16 := hx 16 (.slice none 0 0) rfl; clear hx hb4))
              all_goals (go_ret; exact ⟨rfl, HB4.out⟩)
            · have HB2 := Lib.hid (HB1.out.trans (hb2.mono HB1.out.size))
              have HZ := Lib.hid (And.intro hsz hall)
              have HB3 := Lib.hid (HB2.out.alloc HB2.out.size (.cells cs 29))
              clear hb2 hcs hsz hall
              go_wp2_with (first
                | (refine wpList_store_row rfl 29 (.tmp 5) (.tmp 40) rfl w2.heap.size cs rfl rfl 29 zero17 (heap_alloc_new w2 _) (size17 _ HZ.out.1) HZ.out.1.symm HZ.out.2 ?_; rw [World.setRow_alloc_new]))
              refine (HTag.out _ HB3.out).mono ?_
              rintro e w4 ⟨rfl, hb4⟩
              have HB4 := Lib.hid (HB3.out.trans (hb4.mono HB3.out.size))
              clear hb4
              go_wp2
              all_goals (go_ret; exact ⟨rfl, HB4.out⟩)
  · have q1 : decide ((3000 : Int) < (n : Int)) = true := decide_eq_true (by omega)
    clear hS hn hE
    go_enter Tryz.func3, Tryz.ntmps3
    go_wp2_with (first
      | (go_at_call 4; refine HA0.out.mono ?_; rintro e w1 ⟨rfl, hb⟩; have HB1 := Lib.hid hb; clear hb HA0)
      | (go_at_call 4; refine (HA.out _ HB1.out).mono ?_; rintro e w2 ⟨rfl, hb⟩; have HB2 := Lib.hid (HB1.out.trans (hb.mono HB1.out.size)); clear hb HA))
    go_ret
    exact ⟨rfl, HB2.out⟩
end Go.Proofs.YtbhpgghbpibalaaGreatDoor.par
