/- A note as a frame; what is decoded of what was encoded; few; two messages alike. -/
import Derived.Test.YtdbdeplabipfaaaGreatDoorBodI
import Derived.Test.YtdbdeplabipfaaaGreatDoorFraC
namespace Go.Proofs.YtdbdeplabipfaaaGreatDoor.bod
open Go.ChangeShapes Go.WideShapes Go.ChangeAt Go.RowKit
open Go.Proofs.YtdbdeplabipfaaaGreatDoor.codec (Bytes bytesOf bytesOf_length strOf strOf_size numOf)
open Go.Proofs.YtdbdeplabipfaaaGreatDoor.frm (frameL frameL_length)
set_option linter.unusedVariables false
set_option linter.unusedSimpArgs false
set_option maxRecDepth 100000

theorem formed_kind {k : Int} {e u : Nat} {s : ByteArray} {d f : Int} {n : Nat} (h : formedB k e s u d f n = true) : 1 ≤ k ∧ k ≤ 3 := by
  by_cases h1 : k = 1
  · omega
  · by_cases h2 : k = 2
    · omega
    · by_cases h3 : k = 3
      · omega
      · rw [formed_other h1 h2 h3] at h
        cases h
theorem frameL_lt {k : Nat} {p : List Nat} (hk : k < 256) (hp : ∀ b ∈ p, b < 256) : ∀ b ∈ frameL k p, b < 256 := by
  intro b hb
  rcases List.mem_append.1 hb with h | h
  · rcases List.mem_append.1 h with h | h
    · rcases List.mem_append.1 h with h | h
      · exact frm.first_lt hk b h
      · exact codec.bytesOf_lt _ _ b h
    · exact frm.dig_lt _ b h
  · exact hp b h
/-- Encode of a formed note. -/
theorem encode_good (W : World) (k : Int) (e u : Nat) (s : ByteArray) (d f : Int) (A : Option Addr) (n c : Nat) (o P : List Nat) (N : Nat) (he : e < 4294967296) (hu : u < 4294967296) (hr : Fit W) (hB : Bytes W A n o) (hA : A = none → c = 0) (hf : formedB k e s u d f n = true) (hP : payL k e s u d f o = P) (hN : P.length = N) :
    Calls Tryz.prog 6 #[.agg #[.int .i64 k, .int .u32 e, .string s, .int .u32 u, .int .i64 d, .int .i64 f, .slice A n c]] W fun x w' => ∃ g, x = .returned (.tuple #[.slice (some ⟨g, 0, none⟩) N N, .int .i64 0]) ∧ Bytes w' (some ⟨g, 0, none⟩) N P ∧ Below W.heap.size W w' := by
  have hs := formed_size hf
  refine (encode_any W k e u s d f A n c o (by omega) he hu hr hB hA).mono ?_
  intro x w' h
  unfold EncAns at h
  rw [hB.1, if_pos hf] at h
  obtain ⟨g, N', rfl, h1, -, h2, h3⟩ := h
  rw [hP] at h1 h2
  obtain rfl : N' = N := by omega
  exact ⟨g, rfl, h2, h3⟩
theorem frame_any (W : World) (k e u : Nat) (s : ByteArray) (d f : Int) (A : Option Addr) (n c : Nat) (o P : List Nat) (N M : Nat) (he : e < 4294967296) (hu : u < 4294967296) (hr : Fit W) (hL : sumDoor.Laid W) (hB : Bytes W A n o) (hA : A = none → c = 0) (hf : formedB k e s u d f n = true) (hP : payL k e s u d f o = P) (hN : P.length = N) (hM : 44 + N = M) :
    Calls Tryz.prog 7 #[.agg #[.int .i64 k, .int .u32 e, .string s, .int .u32 u, .int .i64 d, .int .i64 f, .slice A n c]] W fun x w' => ∃ g, x = .returned (.tuple #[.slice (some ⟨g, 0, none⟩) M M, .int .i64 0]) ∧ Bytes w' (some ⟨g, 0, none⟩) M (frameL k P) ∧ Below W.heap.size W w' := by
  have hk := formed_kind hf
  have hPl : N ≤ 20077 := by
    have hf2 := hf
    rw [← hB.1] at hf2
    have := payL_length hf2
    rw [hP] at this
    omega
  obtain ⟨cs, hcs⟩ : ∃ cs : Array Value, cs = #[.int .i64 k, .int .u32 e, .string s, .int .u32 u, .int .i64 d, .int .i64 f, .slice A n c] := ⟨_, rfl⟩
  obtain ⟨W1, hW1⟩ : ∃ W1, W1 = W.alloc (.cells cs 30) := ⟨_, rfl⟩
  have HCS := Lib.hid hcs
  have HBW := Lib.hid (show Below W.heap.size W W1 by rw [hW1]; exact (Below.refl _ _).alloc (Nat.le_refl _) _)
  have HBX := Lib.hid (fun (w1 : World) (h : Below W1.heap.size W1 w1) => (boxed (w := W) (o := .cells cs 30) (w1 := w1) (by rw [← hW1]; exact h)).1)
  have hE := encode_good W1 k e u s d f A n c o P N he hu (hr.below HBW.out) (hB.below hB.lt HBW.out) hA hf hP hN
  rw [← hcs] at hE
  have HE := Lib.hid hE
  have HF := Lib.hid (fun (w1 : World) (g : Nat) (h : Below W1.heap.size W1 w1) (hB1 : Bytes w1 (some ⟨g, 0, none⟩) N P) => frm.frame_good w1 k N N (some ⟨g, 0, none⟩) P (by omega) (by omega) hB1 (by omega) (Nat.le_refl _) (fun e => by cases e) (hL.below hL.lt (HBW.out.trans (h.mono HBW.out.size))))
  have HW1 := Lib.hid hW1
  have HLN := Lib.hid (show (frameL k P).length = M by rw [frameL_length]; omega)
  clear hE hcs hW1 hB hA hr hL he hu hf hP hN hM hk hPl
  go_enter Tryz.func7, Tryz.ntmps7
  go_wp2_with fail
  rw [← HCS.out, ← HW1.out]
  refine HE.out.mono ?_
  rintro x w1 ⟨g, rfl, hB1, hb1⟩
  have HB1 := Lib.hid hb1
  have HF1 := Lib.hid (HF.out w1 g hb1 hB1)
  have c0 := cell_at (HBX.out _ hb1) 0 _ (by rw [HCS.out]; rfl)
  clear hB1 hb1 HE HF
  go_wp2_with fail
  refine HF1.out.mono ?_
  rintro x w2 ⟨v, rfl, hM⟩
  obtain ⟨g2, rfl, h1, h2, h3⟩ := hM.bytes
  rw [HLN.out] at h3 ⊢
  have HX := Lib.hid (And.intro h3 (HBW.out.trans ((HB1.out.trans (h2.mono HB1.out.size)).mono HBW.out.size)))
  clear hM h1 h2 h3
  go_wp2_with fail
  go_ret2
  exact ⟨g2, rfl, HX.out⟩
theorem frame_none (W : World) (k : Int) (e u : Nat) (s : ByteArray) (d f : Int) (A : Option Addr) (n c : Nat) (hs : s.size ≤ 100000) (hr : Fit W) (hf : formedB k e s u d f n = false) :
    Calls Tryz.prog 7 #[.agg #[.int .i64 k, .int .u32 e, .string s, .int .u32 u, .int .i64 d, .int .i64 f, .slice A n c]] W fun x w' => x = .returned (.tuple #[.slice none 0 0, .int .i64 1]) ∧ Below W.heap.size W w' := by
  have HE := Lib.hid (fun w1 hb => encode_none w1 k e u s d f A n c [] hs (hr.below hb) hf)
  have HBW := Lib.hid (fun (o : Obj) => (show Below W.heap.size W (W.alloc o) from (Below.refl _ _).alloc (Nat.le_refl _) _))
  clear hs hr hf
  go_enter Tryz.func7, Tryz.ntmps7
  go_wp2_with fail
  refine (HE.out _ (HBW.out _)).mono ?_
  rintro x w1 ⟨rfl, hb⟩
  have HB := Lib.hid (boxed hb).2
  clear hb HE
  go_wp2_with fail
  go_ret2
  exact ⟨rfl, HB.out⟩
/-- What was encoded is decoded as the same. -/
theorem decode_back (W : World) (k : Int) (e u : Nat) (s : ByteArray) (d f : Int) (g n N : Nat) (o P : List Nat) (he : e < 4294967296) (hu : u < 4294967296) (hr : Fit W) (ho : o.length = n) (hf : formedB k e s u d f n = true) (hP : payL k e s u d f o = P) (hB : Bytes W (some ⟨g, 0, none⟩) N P) :
    Calls Tryz.prog 10 #[.int .i64 k, .slice (some ⟨g, 0, none⟩) N N] W fun x w' => ∃ A' m, x = .returned (.tuple #[.agg #[.int .i64 k, .int .u32 e, .string s, .int .u32 u, .int .i64 d, .int .i64 f, .slice A' m m], .int .i64 0]) ∧ Bytes w' A' m o ∧ Below W.heap.size W w' := by
  subst ho
  have hPl : N ≤ 20077 := by
    have := payL_length hf
    rw [hP] at this
    have := hB.1
    omega
  by_cases h1 : k = 1
  · subst h1
    obtain ⟨k1, k2, k3, k4, k5, k6, k7⟩ := back1 he hf
    rw [hP] at k1 k2 k3
    subst k4 k5 k6 k7
    refine (decode1 W _ N N P hB (by omega) hr).mono ?_
    rintro x w' ⟨rfl, hw⟩
    rw [k1, k2, k3]
    exact ⟨none, 0, rfl, codec.empty_bytes w', hw⟩
  · by_cases h2 : k = 2
    · subst h2
      obtain ⟨k1, k2, k3, k4, k5, k6, k7⟩ := back2 he hu hf
      rw [hP] at k1 k2 k3 k4 k5 k6 k7
      refine (decode2 W _ N N P hB (by omega) hr).mono ?_
      rintro x w' ⟨gg, mm, hmm, rfl, hg, hO, hw⟩
      rw [k1, k2, k3, k4, k5, k6]
      rw [k7] at hO
      exact ⟨some ⟨gg, 0, none⟩, mm, rfl, hO, hw⟩
    · by_cases h3 : k = 3
      · subst h3
        obtain ⟨k1, k2, k3, k4, k5, k6, k7⟩ := back3 he hu hf
        rw [hP] at k1 k2 k3
        subst k4 k5 k6 k7
        refine (decode3 W _ N N P hB (by omega) hr).mono ?_
        rintro x w' ⟨rfl, hw⟩
        rw [k1, k2, k3]
        exact ⟨none, 0, rfl, codec.empty_bytes w', hw⟩
      · rw [formed_other h1 h2 h3] at hf
        cases hf
theorem few_true (W : World) (k : Int) (e u : Nat) (s : ByteArray) (d f : Int) (A : Option Addr) (n c : Nat) (h1 : s.size ≤ 1000) (h2 : n ≤ 30000) :
    Calls Tryz.prog 5 #[.agg #[.int .i64 k, .int .u32 e, .string s, .int .u32 u, .int .i64 d, .int .i64 f, .slice A n c]] W fun x w' => x = .returned (.bool true) ∧ Below W.heap.size W w' := by
  have d1 : decide ((s.size : Int) ≤ 1000) = true := by simp; omega
  have d2 : decide ((n : Int) ≤ 30000) = true := by simp; omega
  clear h1 h2
  go_enter Tryz.func5, Tryz.ntmps5
  go_wp2
  go_ret
  exact ⟨rfl, (Below.refl _ _).alloc (Nat.le_refl _) _⟩
theorem few_false (W : World) (k : Int) (e u : Nat) (s : ByteArray) (d f : Int) (A : Option Addr) (n c : Nat) (h : ¬ (s.size ≤ 1000 ∧ n ≤ 30000)) :
    Calls Tryz.prog 5 #[.agg #[.int .i64 k, .int .u32 e, .string s, .int .u32 u, .int .i64 d, .int .i64 f, .slice A n c]] W fun x w' => x = .returned (.bool false) ∧ Below W.heap.size W w' := by
  by_cases h1 : s.size ≤ 1000
  · have d1 : decide ((s.size : Int) ≤ 1000) = true := by simp; omega
    have d2 : decide ((n : Int) ≤ 30000) = false := by simp; omega
    clear h1 h
    go_enter Tryz.func5, Tryz.ntmps5
    go_wp2
    go_ret
    exact ⟨rfl, (Below.refl _ _).alloc (Nat.le_refl _) _⟩
  · have d1 : decide ((s.size : Int) ≤ 1000) = false := by simp; omega
    clear h1 h
    go_enter Tryz.func5, Tryz.ntmps5
    go_wp2
    go_ret
    exact ⟨rfl, (Below.refl _ _).alloc (Nat.le_refl _) _⟩
theorem same_true (W : World) (u : Nat) (d f : Int) (A A' : Option Addr) (n c n' c' : Nat) (o : List Nat) (hB : Bytes W A n o) (hB' : Bytes W A' n' o) :
    Calls Tryz.prog 13 #[.agg #[.int .u32 u, .int .i64 d, .int .i64 f, .slice A n c], .agg #[.int .u32 u, .int .i64 d, .int .i64 f, .slice A' n' c']] W fun x w' => x = .returned (.bool true) ∧ Below W.heap.size W w' := by
  have HB := Lib.hid (fun w' (h : Below W.heap.size W w') => And.intro ((hB.below hB.lt h).text c) ((hB'.below hB'.lt h).text c'))
  clear hB hB'
  have hc := HB.out ((W.alloc (.cells #[.int .u32 u, .int .i64 d, .int .i64 f, .slice A n c] 25)).alloc (.cells #[.int .u32 u, .int .i64 d, .int .i64 f, .slice A' n' c'] 25)) (((Below.refl _ _).alloc (Nat.le_refl _) _).alloc (by simp) _)
  obtain ⟨c1, c2⟩ := hc
  clear HB
  go_enter Tryz.func13, Tryz.ntmps13
  go_wp2_with fail
  go_ret
  exact ⟨rfl, ((Below.refl _ _).alloc (Nat.le_refl _) _).alloc (by simp) _⟩
end Go.Proofs.YtdbdeplabipfaaaGreatDoor.bod
