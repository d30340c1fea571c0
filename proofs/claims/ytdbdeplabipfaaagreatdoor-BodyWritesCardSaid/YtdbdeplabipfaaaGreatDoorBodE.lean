/- How a note is encoded. -/
import Derived.Test.YtdbdeplabipfaaaGreatDoorBodC
namespace Go.Proofs.YtdbdeplabipfaaaGreatDoor.bod
open Go.ChangeShapes Go.WideShapes Go.ChangeAt Go.RowKit
open Go.Proofs.YtdbdeplabipfaaaGreatDoor.codec (Bytes OutIs More Touch bytesOf bytesOf_length strOf)
set_option linter.unusedVariables false
set_option linter.unusedSimpArgs false
set_option maxRecDepth 100000

/-- A note at b, and an Out at P that has taken l. -/
def Enc (W : World) (b : Nat) (cs : Array Value) (P : Nat) (l F : List Nat) (w : World) : Prop :=
  w.heap[b]? = some (.cells cs 30 (0, 0)) ∧ OutIs w P l F ∧ (∀ k ∈ F, W.heap.size ≤ k ∧ k ≠ b) ∧ b < w.heap.size ∧ Below W.heap.size W w
theorem Enc.more {W w w' : World} {b P : Nat} {cs : Array Value} {l l' F : List Nat} (h : Enc W b cs P l F w) (m : More w P l' F w') : ∃ F', Enc W b cs P l' F' w' := by
  obtain ⟨hb, ho, hF, hlt, hbel⟩ := h
  obtain ⟨F', o', t, s⟩ := m
  have hsz := t.2.2.2.1
  refine ⟨F', ?_, o', fun k hk => ?_, by omega, hbel.trans (t.toBelow _ hbel.size fun i hi hf => by have := (hF i hf).1; omega)⟩
  · exact (t.2.2.2.2 b hlt (fun hf => (hF b hf).2 rfl)).trans hb
  · rcases s k hk with h | h
    · exact hF k h
    · have := hbel.size
      exact ⟨by omega, by omega⟩
theorem enc_N {W w : World} {b P : Nat} {cs : Array Value} {l F : List Nat} (h : Enc W b cs P l F w) (v n : Nat) (hl : l.length ≤ 9000000) (h1 : 1 ≤ n) (h7 : n ≤ 7) (hv : v < 256 ^ n) :
    Calls Tryz.prog 14 #[.pointer (some ⟨P, 0, none⟩), .int .i64 v, .int .i64 n] w fun e w' => e = .returned (.tuple #[]) ∧ ∃ F', Enc W b cs P (l ++ bytesOf v n) F' w' :=
  (codec.outN_fits w P v n l F h.2.1 hl h1 h7 hv).mono fun _ _ ⟨he, hm⟩ => ⟨he, h.more hm⟩
theorem enc_Text {W w : World} {b P : Nat} {cs : Array Value} {l F : List Nat} (h : Enc W b cs P l F w) (s : ByteArray) (hl : l.length ≤ 5000000) (hs : s.size ≤ 65535) :
    Calls Tryz.prog 15 #[.pointer (some ⟨P, 0, none⟩), .string s] w fun e w' => e = .returned (.tuple #[]) ∧ ∃ F', Enc W b cs P (l ++ txt s) F' w' := by
  have := codec.outText_good w P l F (nums s) h.2.1 hl (nums_lt s) (by rw [nums_length]; exact hs)
  rw [strOf_nums, nums_length] at this
  exact this.mono fun _ _ ⟨he, hm⟩ => ⟨he, h.more hm⟩
theorem enc_Raw {W w : World} {b P n c : Nat} {cs : Array Value} {l F m : List Nat} {A : Option Addr} (h : Enc W b cs P l F w) (hB : Bytes W A n m) (hA : A = none → c = 0) (hn : l.length + n ≤ 10000000) :
    Calls Tryz.prog 16 #[.pointer (some ⟨P, 0, none⟩), .slice A n c] w fun e w' => e = .returned (.tuple #[]) ∧ ∃ F', Enc W b cs P (l ++ m) F' w' :=
  (codec.raw_good w P l F A n c m h.2.1 (hB.below hB.lt h.2.2.2.2) hn hA (fun ad e h0 hF => by have := hB.lt ad e h0; have := (h.2.2.1 _ hF).1; omega)).mono fun _ _ ⟨he, hm⟩ => ⟨he, h.more hm⟩
theorem enc_End {W w : World} {b P : Nat} {cs : Array Value} {l F : List Nat} (h : Enc W b cs P l F w) (N : Nat) (hN : l.length = N) (hl : N ≤ 10000000) :
    Calls Tryz.prog 17 #[.pointer (some ⟨P, 0, none⟩)] w fun e w' => ∃ g, e = .returned (.tuple #[.slice (some ⟨g, 0, none⟩) N N, .int .i64 0]) ∧ W.heap.size ≤ g ∧ Bytes w' (some ⟨g, 0, none⟩) N l ∧ Below W.heap.size W w' := by
  subst hN
  refine (codec.end_good w P l F h.2.1 hl).mono ?_
  rintro e w' ⟨v, rfl, hm⟩
  obtain ⟨g, rfl, hg, hb, hB⟩ := hm.bytes
  have := h.2.2.2.2.size
  exact ⟨g, rfl, by omega, hB, h.2.2.2.2.trans (hb.mono this)⟩
theorem enc_start {W w1 : World} {cs : Array Value} (h : Below (W.alloc (.cells cs 30)).heap.size (W.alloc (.cells cs 30)) w1) :
    Enc W W.heap.size cs w1.heap.size [] [w1.heap.size] (w1.alloc (.cells #[.pointer none, .int .i64 0, .bool false] 42)) := by
  obtain ⟨h1, h2⟩ := boxed h
  have hs : W.heap.size < w1.heap.size := by have := h.size; simp at this; omega
  have h3 : Below w1.heap.size w1 (w1.alloc (.cells #[.pointer none, .int .i64 0, .bool false] 42)) := (Below.refl _ _).alloc (Nat.le_refl _) _
  refine ⟨(h3.block _ hs).trans h1, codec.fresh_new w1, fun k hk => ?_, by have := h3.size; omega, h2.trans (h3.mono h2.size)⟩
  simp at hk
  subst hk
  exact ⟨by omega, by omega⟩
/-- What Encode answers. -/
def EncAns (W : World) (k : Int) (e : Nat) (s : ByteArray) (u : Nat) (d f : Int) (o : List Nat) (x : Ending) (w' : World) : Prop :=
  if formedB k e s u d f o.length then ∃ g N, x = .returned (.tuple #[.slice (some ⟨g, 0, none⟩) N N, .int .i64 0]) ∧ (payL k e s u d f o).length = N ∧ W.heap.size ≤ g ∧ Bytes w' (some ⟨g, 0, none⟩) N (payL k e s u d f o) ∧ Below W.heap.size W w'
  else x = .returned (.tuple #[.slice none 0 0, .int .i64 1]) ∧ Below W.heap.size W w'
theorem encode_none (W : World) (k : Int) (e u : Nat) (s : ByteArray) (d f : Int) (A : Option Addr) (n c : Nat) (o : List Nat) (hs : s.size ≤ 100000) (hr : Fit W) (hf : formedB k e s u d f n = false) :
    Calls Tryz.prog 6 #[.agg #[.int .i64 k, .int .u32 e, .string s, .int .u32 u, .int .i64 d, .int .i64 f, .slice A n c]] W fun x w' => x = .returned (.tuple #[.slice none 0 0, .int .i64 1]) ∧ Below W.heap.size W w' := by
  have hF := fun w hr => formed_any w k e u s d f A n c hs hr
  rw [hf] at hF
  have HF := Lib.hid hF
  have HR := Lib.hid (fun (o : Obj) => hr.below ((Below.refl _ _).alloc (Nat.le_refl _) o))
  clear hF hr hf hs
  go_enter Tryz.func6, Tryz.ntmps6
  go_wp2_with (go_at_call 9; refine (HF.out _ (HR.out _)).mono ?_; rintro x w1 ⟨rfl, hb⟩; have HB := Lib.hid (boxed hb).2; clear hb)
  go_ret2
  exact ⟨rfl, HB.out⟩
theorem encode1 (W : World) (e u : Nat) (s : ByteArray) (d f : Int) (A : Option Addr) (n c : Nat) (hs : s.size ≤ 60) (he : e < 4294967296) (hr : Fit W) (hf : formedB 1 e s u d f n = true) :
    Calls Tryz.prog 6 #[.agg #[.int .i64 1, .int .u32 e, .string s, .int .u32 u, .int .i64 d, .int .i64 f, .slice A n c]] W fun x w' => ∃ g, x = .returned (.tuple #[.slice (some ⟨g, 0, none⟩) (6 + s.size) (6 + s.size), .int .i64 0]) ∧ W.heap.size ≤ g ∧ Bytes w' (some ⟨g, 0, none⟩) (6 + s.size) (bytesOf e 4 ++ txt s) ∧ Below W.heap.size W w' := by
  have hF := fun w hr => formed_any w 1 e u s d f A n c (by omega) hr
  rw [hf] at hF
  have HF := Lib.hid hF
  have HR := Lib.hid (fun (o : Obj) => hr.below ((Below.refl _ _).alloc (Nat.le_refl _) o))
  obtain ⟨cs, hcs⟩ : ∃ cs : Array Value, cs = #[.int .i64 1, .int .u32 e, .string s, .int .u32 u, .int .i64 d, .int .i64 f, .slice A n c] := ⟨_, rfl⟩
  have HCS := Lib.hid hcs
  have HS := Lib.hid hs
  clear hF hr hf hcs hs
  go_enter Tryz.func6, Tryz.ntmps6
  go_wp2_with (go_at_call 9; refine (HF.out _ (HR.out _)).mono ?_; rintro x w1 ⟨rfl, hb⟩; rw [← HCS.out] at hb; have HE := Lib.hid (enc_start hb); have h1 := cell_at HE.out.1 1 _ (by rw [HCS.out]; rfl); clear hb)
  refine (enc_N HE.out e 4 (by simp) (by omega) (by omega) (by omega)).mono ?_
  rintro x w2 ⟨rfl, F2, hE2⟩
  have HE2 := Lib.hid hE2
  have g0 := cell_at hE2.1 0 _ (by rw [HCS.out]; rfl)
  have g2 := cell_at hE2.1 2 _ (by rw [HCS.out]; rfl)
  clear hE2 HE h1
  go_wp2_with fail
  refine (enc_Text HE2.out s (by simp [bytesOf_length]) (by have := HS.out; omega)).mono ?_
  rintro x w3 ⟨rfl, F3, hE3⟩
  have HE3 := Lib.hid hE3
  clear hE3 HE2 g0 g2
  go_wp2_with fail
  refine (enc_End HE3.out (6 + s.size) (by simp [bytesOf_length, txt_length]; omega) (by have := HS.out; omega)).mono ?_
  rintro x w4 ⟨g, rfl, hg, hB, hb⟩
  have HX := Lib.hid (And.intro hg (And.intro hB hb))
  clear hg hB hb HE3
  go_wp2_with fail
  go_ret2
  exact ⟨g, rfl, HX.out.1, by have := HX.out.2.1; simpa using this, HX.out.2.2⟩
theorem encode3 (W : World) (e u : Nat) (s : ByteArray) (d f : Int) (A : Option Addr) (n c : Nat) (hs : s.size ≤ 60) (he : e < 4294967296) (hu : u < 4294967296) (hr : Fit W) (hf : formedB 3 e s u d f n = true) :
    Calls Tryz.prog 6 #[.agg #[.int .i64 3, .int .u32 e, .string s, .int .u32 u, .int .i64 d, .int .i64 f, .slice A n c]] W fun x w' => ∃ g, x = .returned (.tuple #[.slice (some ⟨g, 0, none⟩) 8 8, .int .i64 0]) ∧ W.heap.size ≤ g ∧ Bytes w' (some ⟨g, 0, none⟩) 8 (bytesOf e 4 ++ bytesOf u 4) ∧ Below W.heap.size W w' := by
  have hF := fun w hr => formed_any w 3 e u s d f A n c (by omega) hr
  rw [hf] at hF
  have HF := Lib.hid hF
  have HR := Lib.hid (fun (o : Obj) => hr.below ((Below.refl _ _).alloc (Nat.le_refl _) o))
  obtain ⟨cs, hcs⟩ : ∃ cs : Array Value, cs = #[.int .i64 3, .int .u32 e, .string s, .int .u32 u, .int .i64 d, .int .i64 f, .slice A n c] := ⟨_, rfl⟩
  have HCS := Lib.hid hcs
  clear hF hr hf hcs hs
  go_enter Tryz.func6, Tryz.ntmps6
  go_wp2_with (go_at_call 9; refine (HF.out _ (HR.out _)).mono ?_; rintro x w1 ⟨rfl, hb⟩; rw [← HCS.out] at hb; have HE := Lib.hid (enc_start hb); have h1 := cell_at HE.out.1 1 _ (by rw [HCS.out]; rfl); clear hb)
  refine (enc_N HE.out e 4 (by simp) (by omega) (by omega) (by omega)).mono ?_
  rintro x w2 ⟨rfl, F2, hE2⟩
  have HE2 := Lib.hid hE2
  have g0 := cell_at hE2.1 0 _ (by rw [HCS.out]; rfl)
  have g3 := cell_at hE2.1 3 _ (by rw [HCS.out]; rfl)
  clear hE2 HE h1
  go_wp2_with fail
  refine (enc_N HE2.out u 4 (by simp [bytesOf_length]) (by omega) (by omega) (by omega)).mono ?_
  rintro x w3 ⟨rfl, F3, hE3⟩
  have HE3 := Lib.hid hE3
  clear hE3 HE2 g0 g3
  go_wp2_with fail
  refine (enc_End HE3.out 8 (by simp [bytesOf_length]) (by omega)).mono ?_
  rintro x w4 ⟨g, rfl, hg, hB, hb⟩
  have HX := Lib.hid (And.intro hg (And.intro hB hb))
  clear hg hB hb HE3
  go_wp2_with fail
  go_ret2
  exact ⟨g, rfl, HX.out.1, by have := HX.out.2.1; simpa using this, HX.out.2.2⟩
theorem encode2 (W : World) (e u : Nat) (s : ByteArray) (d f : Nat) (A : Option Addr) (n c : Nat) (o : List Nat) (hs : s.size ≤ 60) (he : e < 4294967296) (hu : u < 4294967296) (hd : d < 281474976710656) (hfl : f < 256) (hn : n ≤ 20000) (hr : Fit W) (hf : formedB 2 e s u d f n = true) (hB : Bytes W A n o) (hA : A = none → c = 0) (N : Nat) (hN : 17 + s.size + n = N) :
    Calls Tryz.prog 6 #[.agg #[.int .i64 2, .int .u32 e, .string s, .int .u32 u, .int .i64 d, .int .i64 f, .slice A n c]] W fun x w' => ∃ g, x = .returned (.tuple #[.slice (some ⟨g, 0, none⟩) N N, .int .i64 0]) ∧ W.heap.size ≤ g ∧ Bytes w' (some ⟨g, 0, none⟩) N (bytesOf e 4 ++ (bytesOf u 4 ++ (bytesOf d 6 ++ (bytesOf f 1 ++ (txt s ++ o))))) ∧ Below W.heap.size W w' := by
  have hF := fun w hr => formed_any w 2 e u s d f A n c (by omega) hr
  rw [hf] at hF
  have HF := Lib.hid hF
  have HR := Lib.hid (fun (o : Obj) => hr.below ((Below.refl _ _).alloc (Nat.le_refl _) o))
  obtain ⟨cs, hcs⟩ : ∃ cs : Array Value, cs = #[.int .i64 2, .int .u32 e, .string s, .int .u32 u, .int .i64 d, .int .i64 f, .slice A n c] := ⟨_, rfl⟩
  have HCS := Lib.hid hcs
  have HS := Lib.hid (And.intro hs (And.intro hn (And.intro hd (And.intro hfl hN))))
  have HBy := Lib.hid (And.intro hB hA)
  clear hF hr hf hcs hs hn hd hfl hN hB hA
  go_enter Tryz.func6, Tryz.ntmps6
  go_wp2_with (go_at_call 9; refine (HF.out _ (HR.out _)).mono ?_; rintro x w1 ⟨rfl, hb⟩; rw [← HCS.out] at hb; have HE := Lib.hid (enc_start hb); have h1 := cell_at HE.out.1 1 _ (by rw [HCS.out]; rfl); clear hb)
  refine (enc_N HE.out e 4 (by simp) (by omega) (by omega) (by omega)).mono ?_
  rintro x w2 ⟨rfl, F2, hE2⟩
  have HE2 := Lib.hid hE2
  have g0 := cell_at hE2.1 0 _ (by rw [HCS.out]; rfl)
  have g3 := cell_at hE2.1 3 _ (by rw [HCS.out]; rfl)
  clear hE2 HE h1
  go_wp2_with fail
  refine (enc_N HE2.out u 4 (by simp [bytesOf_length]) (by omega) (by omega) (by omega)).mono ?_
  rintro x w3 ⟨rfl, F3, hE3⟩
  have HE3 := Lib.hid hE3
  have g4 := cell_at hE3.1 4 _ (by rw [HCS.out]; rfl)
  clear hE3 HE2 g0 g3
  go_wp2_with fail
  refine (enc_N HE3.out d 6 (by simp [bytesOf_length]) (by omega) (by omega) (by have := HS.out; omega)).mono ?_
  rintro x w4 ⟨rfl, F4, hE4⟩
  have HE4 := Lib.hid hE4
  have g5 := cell_at hE4.1 5 _ (by rw [HCS.out]; rfl)
  clear hE4 HE3 g4
  go_wp2_with fail
  refine (enc_N HE4.out f 1 (by simp [bytesOf_length]) (by omega) (by omega) (by have := HS.out; omega)).mono ?_
  rintro x w5 ⟨rfl, F5, hE5⟩
  have HE5 := Lib.hid hE5
  have g2 := cell_at hE5.1 2 _ (by rw [HCS.out]; rfl)
  clear hE5 HE4 g5
  go_wp2_with fail
  refine (enc_Text HE5.out s (by simp [bytesOf_length]) (by have := HS.out; omega)).mono ?_
  rintro x w6 ⟨rfl, F6, hE6⟩
  have HE6 := Lib.hid hE6
  have g6 := cell_at hE6.1 6 _ (by rw [HCS.out]; rfl)
  clear hE6 HE5 g2
  go_wp2_with fail
  refine (enc_Raw HE6.out HBy.out.1 HBy.out.2 (by have := HS.out; simp [bytesOf_length, txt_length]; omega)).mono ?_
  rintro x w7 ⟨rfl, F7, hE7⟩
  have HE7 := Lib.hid hE7
  clear hE7 HE6 g6
  go_wp2_with fail
  refine (enc_End HE7.out N (by have := HS.out; have := HBy.out.1.1; simp [bytesOf_length, txt_length]; omega) (by have := HS.out; omega)).mono ?_
  rintro x w8 ⟨g, rfl, hg, hB, hb⟩
  have HX := Lib.hid (And.intro hg (And.intro hB hb))
  clear hg hB hb HE7
  go_wp2_with fail
  go_ret2
  exact ⟨g, rfl, HX.out.1, by have := HX.out.2.1; simpa using this, HX.out.2.2⟩
theorem encode_any (W : World) (k : Int) (e u : Nat) (s : ByteArray) (d f : Int) (A : Option Addr) (n c : Nat) (o : List Nat) (hs : s.size ≤ 100000) (he : e < 4294967296) (hu : u < 4294967296) (hr : Fit W) (hB : Bytes W A n o) (hA : A = none → c = 0) :
    Calls Tryz.prog 6 #[.agg #[.int .i64 k, .int .u32 e, .string s, .int .u32 u, .int .i64 d, .int .i64 f, .slice A n c]] W (EncAns W k e s u d f o) := by
  have hln : o.length = n := hB.1
  unfold EncAns
  rw [hln]
  cases hf : formedB k e s u d f n
  · exact encode_none W k e u s d f A n c o hs hr hf
  · have hf0 := hf
    unfold formedB at hf
    split at hf
    · rename_i hk
      subst hk
      simp only [Bool.and_eq_true] at hf
      have h60 := named_size hf.2.1
      refine (encode1 W e u s d f A n c h60 he hr hf0).mono ?_
      rintro x w' ⟨g, rfl, hg, hBy, hb⟩
      exact ⟨g, _, rfl, by simp [payL, bytesOf_length, txt_length]; omega, hg, by simpa [payL] using hBy, hb⟩
    · split at hf
      · rename_i hk
        subst hk
        simp only [fitsB, Bool.and_eq_true, decide_eq_true_eq] at hf
        have h60 := named_size hf.2.1
        obtain ⟨-, -, -, ⟨h4, h5⟩, ⟨h6, h7⟩, h8⟩ := hf
        obtain ⟨d, rfl⟩ := Int.eq_ofNat_of_zero_le h4
        obtain ⟨f, rfl⟩ := Int.eq_ofNat_of_zero_le h6
        refine (encode2 W e u s d f A n c o h60 he hu (by omega) (by omega) h8 hr hf0 hB hA _ rfl).mono ?_
        rintro x w' ⟨g, rfl, hg, hBy, hb⟩
        exact ⟨g, _, rfl, by simp [payL, bytesOf_length, txt_length, hln]; omega, hg, by simpa [payL] using hBy, hb⟩
      · split at hf
        · rename_i hk
          subst hk
          simp only [Bool.and_eq_true, decide_eq_true_eq] at hf
          refine (encode3 W e u s d f A n c (by omega) he hu hr hf0).mono ?_
          rintro x w' ⟨g, rfl, hg, hBy, hb⟩
          exact ⟨g, _, rfl, by simp [payL, bytesOf_length], hg, by simpa [payL] using hBy, hb⟩
        · cases hf
end Go.Proofs.YtdbdeplabipfaaaGreatDoor.bod
