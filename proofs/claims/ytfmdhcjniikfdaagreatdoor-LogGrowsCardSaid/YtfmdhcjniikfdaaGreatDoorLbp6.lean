/- How a note is encoded. -/
import Derived.Test.YtfmdhcjniikfdaaGreatDoorLbp5
/- How a note is encoded. -/
namespace Go.Proofs.YtfmdhcjniikfdaaGreatDoor.bod
open Go.ChangeShapes Go.WideShapes Go.ChangeAt Go.RowKit
open Go.Proofs.YtfmdhcjniikfdaaGreatDoor.codec (Bytes OutIs More Touch bytesOf bytesOf_length strOf)
set_option linter.unusedVariables false
set_option linter.unusedSimpArgs false
set_option maxRecDepth 100000

/-- A note at b, and an Out at P that has taken l. -/
def Enc (W : World) (b : Nat) (cs : Array Value) (P : Nat) (l F : List Nat) (w : World) : Prop :=
  w.heap[b]? = some (.cells cs 67 (0, 0)) ∧ OutIs w P l F ∧ (∀ k ∈ F, W.heap.size ≤ k ∧ k ≠ b) ∧ b < w.heap.size ∧ Below W.heap.size W w
theorem Enc.more {W w w' : World} {b P : Nat} {cs : Array Value} {l l' F : List Nat} (h : Enc W b cs P l F w) (m : More w P l' F w') : ∃ F', Enc W b cs P l' F' w' := by
  obtain ⟨hb, ho, hF, hlt, hbel⟩ := h
  obtain ⟨F', o', t, s⟩ := m
  have hsz := t.2.2.2.1
  refine ⟨F', ?_, o', fun k hk => ?_, by omega, hbel.trans (t.toBelow _ hbel.size fun i hi hf => by have := (hF i hf).1; omega)⟩
  · exact (t.2.2.2.2 b hlt (fun hf => (hF b hf).2 rfl)).trans hb
  · rcases s k hk with h | h
    · exact hF k h
    · have := hbel.size
      exact ⟨by omega, by omega⟩
theorem enc_N {W w : World} {b P : Nat} {cs : Array Value} {l F : List Nat} (h : Enc W b cs P l F w) (v n : Nat) (hl : l.length ≤ 9000000) (h1 : 1 ≤ n) (h7 : n ≤ 7) (hv : v < 256 ^ n) :
    Calls Tryz.prog 70 #[.pointer (some ⟨P, 0, none⟩), .int .i64 v, .int .i64 n] w fun e w' => e = .returned (.tuple #[]) ∧ ∃ F', Enc W b cs P (l ++ bytesOf v n) F' w' :=
  (codec.outN_fits w P v n l F h.2.1 hl h1 h7 hv).mono fun _ _ ⟨he, hm⟩ => ⟨he, h.more hm⟩
theorem enc_Text {W w : World} {b P : Nat} {cs : Array Value} {l F : List Nat} (h : Enc W b cs P l F w) (s : ByteArray) (hl : l.length ≤ 5000000) (hs : s.size ≤ 65535) :
    Calls Tryz.prog 71 #[.pointer (some ⟨P, 0, none⟩), .string s] w fun e w' => e = .returned (.tuple #[]) ∧ ∃ F', Enc W b cs P (l ++ txt s) F' w' := by
  have := codec.outText_good w P l F (nums s) h.2.1 hl (nums_lt s) (by rw [nums_length]; exact hs)
  rw [strOf_nums, nums_length] at this
  exact this.mono fun _ _ ⟨he, hm⟩ => ⟨he, h.more hm⟩
theorem enc_Raw {W w : World} {b P n c : Nat} {cs : Array Value} {l F m : List Nat} {A : Option Addr} (h : Enc W b cs P l F w) (hB : Bytes W A n m) (hA : A = none → c = 0) (hn : l.length + n ≤ 10000000) :
    Calls Tryz.prog 72 #[.pointer (some ⟨P, 0, none⟩), .slice A n c] w fun e w' => e = .returned (.tuple #[]) ∧ ∃ F', Enc W b cs P (l ++ m) F' w' :=
  (codec.raw_good w P l F A n c m h.2.1 (hB.below hB.lt h.2.2.2.2) hn hA (fun ad e h0 hF => by have := hB.lt ad e h0; have := (h.2.2.1 _ hF).1; omega)).mono fun _ _ ⟨he, hm⟩ => ⟨he, h.more hm⟩
theorem enc_End {W w : World} {b P : Nat} {cs : Array Value} {l F : List Nat} (h : Enc W b cs P l F w) (N : Nat) (hN : l.length = N) (hl : N ≤ 10000000) :
    Calls Tryz.prog 73 #[.pointer (some ⟨P, 0, none⟩)] w fun e w' => ∃ g, e = .returned (.tuple #[.slice (some ⟨g, 0, none⟩) N N, .int .i64 0]) ∧ W.heap.size ≤ g ∧ Bytes w' (some ⟨g, 0, none⟩) N l ∧ Below W.heap.size W w' := by
  subst hN
  refine (codec.end_good w P l F h.2.1 hl).mono ?_
  rintro e w' ⟨v, rfl, hm⟩
  obtain ⟨g, rfl, hg, hb, hB⟩ := hm.bytes
  have := h.2.2.2.2.size
  exact ⟨g, rfl, by omega, hB, h.2.2.2.2.trans (hb.mono this)⟩
theorem enc_start {W w1 : World} {cs : Array Value} (h : Below (W.alloc (.cells cs 67)).heap.size (W.alloc (.cells cs 67)) w1) :
    Enc W W.heap.size cs w1.heap.size [] [w1.heap.size] (w1.alloc (.cells #[.pointer none, .int .i64 0, .bool false] 135)) := by
  obtain ⟨h1, h2⟩ := boxed h
  have hs : W.heap.size < w1.heap.size := by have := h.size; simp at this; omega
  have h3 : Below w1.heap.size w1 (w1.alloc (.cells #[.pointer none, .int .i64 0, .bool false] 135)) := (Below.refl _ _).alloc (Nat.le_refl _) _
  refine ⟨(h3.block _ hs).trans h1, codec.fresh_new w1, fun k hk => ?_, by have := h3.size; omega, h2.trans (h3.mono h2.size)⟩
  simp at hk
  subst hk
  exact ⟨by omega, by omega⟩
/-- What Encode answers. -/
def EncAns (W : World) (k : Int) (e : Nat) (s : ByteArray) (u : Nat) (d f : Int) (o : List Nat) (x : Ending) (w' : World) : Prop :=
  if formedB k e s u d f o.length then ∃ g N, x = .returned (.tuple #[.slice (some ⟨g, 0, none⟩) N N, .int .i64 0]) ∧ (payL k e s u d f o).length = N ∧ W.heap.size ≤ g ∧ Bytes w' (some ⟨g, 0, none⟩) N (payL k e s u d f o) ∧ Below W.heap.size W w'
  else x = .returned (.tuple #[.slice none 0 0, .int .i64 1]) ∧ Below W.heap.size W w'
theorem encode_none (W : World) (k : Int) (e u : Nat) (s : ByteArray) (d f : Int) (A : Option Addr) (n c : Nat) (o : List Nat) (hs : s.size ≤ 100000) (hr : Fit W) (hf : formedB k e s u d f n = false) :
    Calls Tryz.prog 49 #[.agg #[.int .i64 k, .int .u32 e, .string s, .int .u32 u, .int .i64 d, .int .i64 f, .slice A n c]] W fun x w' => x = .returned (.tuple #[.slice none 0 0, .int .i64 1]) ∧ Below W.heap.size W w' := by
  have hF := fun w hr => formed_any w k e u s d f A n c hs hr
  rw [hf] at hF
  have HF := Lib.hid hF
  have HR := Lib.hid (fun (o : Obj) => hr.below ((Below.refl _ _).alloc (Nat.le_refl _) o))
  clear hF hr hf hs
  go_enter Tryz.func49, Tryz.ntmps49
  go_wp2_with (go_at_call 47; refine (HF.out _ (HR.out _)).mono ?_; rintro x w1 ⟨rfl, hb⟩; have HB := Lib.hid (boxed hb).2; clear hb)
  go_ret2
  exact ⟨rfl, HB.out⟩
theorem encode1 (W : World) (e u : Nat) (s : ByteArray) (d f : Int) (A : Option Addr) (n c : Nat) (hs : s.size ≤ 60) (he : e < 4294967296) (hr : Fit W) (hf : formedB 1 e s u d f n = true) :
    Calls Tryz.prog 49 #[.agg #[.int .i64 1, .int .u32 e, .string s, .int .u32 u, .int .i64 d, .int .i64 f, .slice A n c]] W fun x w' => ∃ g, x = .returned (.tuple #[.slice (some ⟨g, 0, none⟩) (6 + s.size) (6 + s.size), .int .i64 0]) ∧ W.heap.size ≤ g ∧ Bytes w' (some ⟨g, 0, none⟩) (6 + s.size) (bytesOf e 4 ++ txt s) ∧ Below W.heap.size W w' := by
  have hF := fun w hr => formed_any w 1 e u s d f A n c (by omega) hr
  rw [hf] at hF
  have HF := Lib.hid hF
  have HR := Lib.hid (fun (o : Obj) => hr.below ((Below.refl _ _).alloc (Nat.le_refl _) o))
  obtain ⟨cs, hcs⟩ : ∃ cs : Array Value, cs = #[.int .i64 1, .int .u32 e, .string s, .int .u32 u, .int .i64 d, .int .i64 f, .slice A n c] := ⟨_, rfl⟩
  have HCS := Lib.hid hcs
  have HS := Lib.hid hs
  clear hF hr hf hcs hs
  go_enter Tryz.func49, Tryz.ntmps49
  go_wp2_with (go_at_call 47; refine (HF.out _ (HR.out _)).mono ?_; rintro x w1 ⟨rfl, hb⟩; rw [← HCS.out] at hb; have HE := Lib.hid (enc_start hb); have h1 := cell_at HE.out.1 1 _ (by rw [HCS.out]; rfl); clear hb)
  refine (enc_N HE.out e 4 (by simp) (by omega) (by omega) (by omega)).mono ?_
  rintro x w2 ⟨rfl, F2, hE2⟩
  have HE2 := Lib.hid hE2
  have g0 := cell_at hE2.1 0 _ (by rw [HCS.out]; rfl)
  have g2 := cell_at hE2.1 2 _ (by rw [HCS.out]; rfl)
  clear hE2 HE h1
  go_wp2_with fail
  refine (enc_Text HE2.out s (by simp [bytesOf_length]) (by have := HS.out; omega)).mono ?_
  rintro x w3 ⟨rfl, F3, hE3⟩
  have HE3 := Lib.hid hE3
  clear hE3 HE2 g0 g2
  go_wp2_with fail
  refine (enc_End HE3.out (6 + s.size) (by simp [bytesOf_length, txt_length]; omega) (by have := HS.out; omega)).mono ?_
  rintro x w4 ⟨g, rfl, hg, hB, hb⟩
  have HX := Lib.hid (And.intro hg (And.intro hB hb))
  clear hg hB hb HE3
  go_wp2_with fail
  go_ret2
  exact ⟨g, rfl, HX.out.1, by have := HX.out.2.1; simpa using this, HX.out.2.2⟩
theorem encode3 (W : World) (e u : Nat) (s : ByteArray) (d f : Int) (A : Option Addr) (n c : Nat) (hs : s.size ≤ 60) (he : e < 4294967296) (hu : u < 4294967296) (hr : Fit W) (hf : formedB 3 e s u d f n = true) :
    Calls Tryz.prog 49 #[.agg #[.int .i64 3, .int .u32 e, .string s, .int .u32 u, .int .i64 d, .int .i64 f, .slice A n c]] W fun x w' => ∃ g, x = .returned (.tuple #[.slice (some ⟨g, 0, none⟩) 8 8, .int .i64 0]) ∧ W.heap.size ≤ g ∧ Bytes w' (some ⟨g, 0, none⟩) 8 (bytesOf e 4 ++ bytesOf u 4) ∧ Below W.heap.size W w' := by
  have hF := fun w hr => formed_any w 3 e u s d f A n c (by omega) hr
  rw [hf] at hF
  have HF := Lib.hid hF
  have HR := Lib.hid (fun (o : Obj) => hr.below ((Below.refl _ _).alloc (Nat.le_refl _) o))
  obtain ⟨cs, hcs⟩ : ∃ cs : Array Value, cs = #[.int .i64 3, .int .u32 e, .string s, .int .u32 u, .int .i64 d, .int .i64 f, .slice A n c] := ⟨_, rfl⟩
  have HCS := Lib.hid hcs
  clear hF hr hf hcs hs
  go_enter Tryz.func49, Tryz.ntmps49
  go_wp2_with (go_at_call 47; refine (HF.out _ (HR.out _)).mono ?_; rintro x w1 ⟨rfl, hb⟩; rw [← HCS.out] at hb; have HE := Lib.hid (enc_start hb); have h1 := cell_at HE.out.1 1 _ (by rw [HCS.out]; rfl); clear hb)
  refine (enc_N HE.out e 4 (by simp) (by omega) (by omega) (by omega)).mono ?_
  rintro x w2 ⟨rfl, F2, hE2⟩
  have HE2 := Lib.hid hE2
  have g0 := cell_at hE2.1 0 _ (by rw [HCS.out]; rfl)
  have g3 := cell_at hE2.1 3 _ (by rw [HCS.out]; rfl)
  clear hE2 HE h1
  go_wp2_with fail
  refine (enc_N HE2.out u 4 (by simp [bytesOf_length]) (by omega) (by omega) (by omega)).mono ?_
  rintro x w3 ⟨rfl, F3, hE3⟩
  have HE3 := Lib.hid hE3
  clear hE3 HE2 g0 g3
  go_wp2_with fail
  refine (enc_End HE3.out 8 (by simp [bytesOf_length]) (by omega)).mono ?_
  rintro x w4 ⟨g, rfl, hg, hB, hb⟩
  have HX := Lib.hid (And.intro hg (And.intro hB hb))
  clear hg hB hb HE3
  go_wp2_with fail
  go_ret2
  exact ⟨g, rfl, HX.out.1, by have := HX.out.2.1; simpa using this, HX.out.2.2⟩
theorem encode2 (W : World) (e u : Nat) (s : ByteArray) (d f : Nat) (A : Option Addr) (n c : Nat) (o : List Nat) (hs : s.size ≤ 60) (he : e < 4294967296) (hu : u < 4294967296) (hd : d < 281474976710656) (hfl : f < 256) (hn : n ≤ 20000) (hr : Fit W) (hf : formedB 2 e s u d f n = true) (hB : Bytes W A n o) (hA : A = none → c = 0) (N : Nat) (hN : 17 + s.size + n = N) :
    Calls Tryz.prog 49 #[.agg #[.int .i64 2, .int .u32 e, .string s, .int .u32 u, .int .i64 d, .int .i64 f, .slice A n c]] W fun x w' => ∃ g, x = .returned (.tuple #[.slice (some ⟨g, 0, none⟩) N N, .int .i64 0]) ∧ W.heap.size ≤ g ∧ Bytes w' (some ⟨g, 0, none⟩) N (bytesOf e 4 ++ (bytesOf u 4 ++ (bytesOf d 6 ++ (bytesOf f 1 ++ (txt s ++ o))))) ∧ Below W.heap.size W w' := by
  have hF := fun w hr => formed_any w 2 e u s d f A n c (by omega) hr
  rw [hf] at hF
  have HF := Lib.hid hF
  have HR := Lib.hid (fun (o : Obj) => hr.below ((Below.refl _ _).alloc (Nat.le_refl _) o))
  obtain ⟨cs, hcs⟩ : ∃ cs : Array Value, cs = #[.int .i64 2, .int .u32 e, .string s, .int .u32 u, .int .i64 d, .int .i64 f, .slice A n c] := ⟨_, rfl⟩
  have HCS := Lib.hid hcs
  have HS := Lib.hid (And.intro hs (And.intro hn (And.intro hd (And.intro hfl hN))))
  have HBy := Lib.hid (And.intro hB hA)
  clear hF hr hf hcs hs hn hd hfl hN hB hA
  go_enter Tryz.func49, Tryz.ntmps49
  go_wp2_with (go_at_call 47; refine (HF.out _ (HR.out _)).mono ?_; rintro x w1 ⟨rfl, hb⟩; rw [← HCS.out] at hb; have HE := Lib.hid (enc_start hb); have h1 := cell_at HE.out.1 1 _ (by rw [HCS.out]; rfl); clear hb)
  refine (enc_N HE.out e 4 (by simp) (by omega) (by omega) (by omega)).mono ?_
  rintro x w2 ⟨rfl, F2, hE2⟩
  have HE2 := Lib.hid hE2
  have g0 := cell_at hE2.1 0 _ (by rw [HCS.out]; rfl)
  have g3 := cell_at hE2.1 3 _ (by rw [HCS.out]; rfl)
  clear hE2 HE h1
  go_wp2_with fail
  refine (enc_N HE2.out u 4 (by simp [bytesOf_length]) (by omega) (by omega) (by omega)).mono ?_
  rintro x w3 ⟨rfl, F3, hE3⟩
  have HE3 := Lib.hid hE3
  have g4 := cell_at hE3.1 4 _ (by rw [HCS.out]; rfl)
  clear hE3 HE2 g0 g3
  go_wp2_with fail
  refine (enc_N HE3.out d 6 (by simp [bytesOf_length]) (by omega) (by omega) (by have := HS.out; omega)).mono ?_
  rintro x w4 ⟨rfl, F4, hE4⟩
  have HE4 := Lib.hid hE4
  have g5 := cell_at hE4.1 5 _ (by rw [HCS.out]; rfl)
  clear hE4 HE3 g4
  go_wp2_with fail
  refine (enc_N HE4.out f 1 (by simp [bytesOf_length]) (by omega) (by omega) (by have := HS.out; omega)).mono ?_
  rintro x w5 ⟨rfl, F5, hE5⟩
  have HE5 := Lib.hid hE5
  have g2 := cell_at hE5.1 2 _ (by rw [HCS.out]; rfl)
  clear hE5 HE4 g5
  go_wp2_with fail
  refine (enc_Text HE5.out s (by simp [bytesOf_length]) (by have := HS.out; omega)).mono ?_
  rintro x w6 ⟨rfl, F6, hE6⟩
  have HE6 := Lib.hid hE6
  have g6 := cell_at hE6.1 6 _ (by rw [HCS.out]; rfl)
  clear hE6 HE5 g2
  go_wp2_with fail
  refine (enc_Raw HE6.out HBy.out.1 HBy.out.2 (by have := HS.out; simp [bytesOf_length, txt_length]; omega)).mono ?_
  rintro x w7 ⟨rfl, F7, hE7⟩
  have HE7 := Lib.hid hE7
  clear hE7 HE6 g6
  go_wp2_with fail
  refine (enc_End HE7.out N (by have := HS.out; have := HBy.out.1.1; simp [bytesOf_length, txt_length]; omega) (by have := HS.out; omega)).mono ?_
  rintro x w8 ⟨g, rfl, hg, hB, hb⟩
  have HX := Lib.hid (And.intro hg (And.intro hB hb))
  clear hg hB hb HE7
  go_wp2_with fail
  go_ret2
  exact ⟨g, rfl, HX.out.1, by have := HX.out.2.1; simpa using this, HX.out.2.2⟩
theorem encode_any (W : World) (k : Int) (e u : Nat) (s : ByteArray) (d f : Int) (A : Option Addr) (n c : Nat) (o : List Nat) (hs : s.size ≤ 100000) (he : e < 4294967296) (hu : u < 4294967296) (hr : Fit W) (hB : Bytes W A n o) (hA : A = none → c = 0) :
    Calls Tryz.prog 49 #[.agg #[.int .i64 k, .int .u32 e, .string s, .int .u32 u, .int .i64 d, .int .i64 f, .slice A n c]] W (EncAns W k e s u d f o) := by
  have hln : o.length = n := hB.1
  unfold EncAns
  rw [hln]
  cases hf : formedB k e s u d f n
  · exact encode_none W k e u s d f A n c o hs hr hf
  · have hf0 := hf
    unfold formedB at hf
    split at hf
    · rename_i hk
      subst hk
      simp only [Bool.and_eq_true] at hf
      have h60 := named_size hf.2.1
      refine (encode1 W e u s d f A n c h60 he hr hf0).mono ?_
      rintro x w' ⟨g, rfl, hg, hBy, hb⟩
      exact ⟨g, _, rfl, by simp [payL, bytesOf_length, txt_length]; omega, hg, by simpa [payL] using hBy, hb⟩
    · split at hf
      · rename_i hk
        subst hk
        simp only [fitsB, Bool.and_eq_true, decide_eq_true_eq] at hf
        have h60 := named_size hf.2.1
        obtain ⟨-, -, -, ⟨h4, h5⟩, ⟨h6, h7⟩, h8⟩ := hf
        obtain ⟨d, rfl⟩ := Int.eq_ofNat_of_zero_le h4
        obtain ⟨f, rfl⟩ := Int.eq_ofNat_of_zero_le h6
        refine (encode2 W e u s d f A n c o h60 he hu (by omega) (by omega) h8 hr hf0 hB hA _ rfl).mono ?_
        rintro x w' ⟨g, rfl, hg, hBy, hb⟩
        exact ⟨g, _, rfl, by simp [payL, bytesOf_length, txt_length, hln]; omega, hg, by simpa [payL] using hBy, hb⟩
      · split at hf
        · rename_i hk
          subst hk
          simp only [Bool.and_eq_true, decide_eq_true_eq] at hf
          refine (encode3 W e u s d f A n c (by omega) he hu hr hf0).mono ?_
          rintro x w' ⟨g, rfl, hg, hBy, hb⟩
          exact ⟨g, _, rfl, by simp [payL, bytesOf_length], hg, by simpa [payL] using hBy, hb⟩
        · cases hf
end Go.Proofs.YtfmdhcjniikfdaaGreatDoor.bod
/- How a payload is decoded. -/
namespace Go.Proofs.YtfmdhcjniikfdaaGreatDoor.bod
open Go.ChangeShapes Go.WideShapes Go.ChangeAt Go.RowKit
open Go.Proofs.YtfmdhcjniikfdaaGreatDoor.codec (Bytes bytesOf bytesOf_length strOf strOf_size numOf)
open Go.Proofs.YtfmdhcjniikfdaaGreatDoor.rd
set_option linter.unusedVariables false
set_option linter.unusedSimpArgs false
set_option maxRecDepth 100000

/-- A reader at q that has L left, and a note at b. -/
def Dc (W : World) (q g : Nat) (L : Option (List Nat)) (b : Nat) (cs : Array Value) (w : World) : Prop :=
  Rd W q g L w ∧ w.heap[b]? = some (.cells cs 67 (0, 0)) ∧ b ≠ q ∧ b ≠ g ∧ W.heap.size ≤ b
theorem Dc.lt {W w : World} {q g b : Nat} {L : Option (List Nat)} {cs : Array Value} (h : Dc W q g L b cs w) : b < w.heap.size := (Array.getElem?_eq_some_iff.1 h.2.1).1
theorem Dc.touch {W w w' : World} {q g b : Nat} {L L' : Option (List Nat)} {cs : Array Value} (h : Dc W q g L b cs w) (hR : Rd W q g L' w') (ht : codec.Touch (fun i => i = q) w w') : Dc W q g L' b cs w' :=
  ⟨hR, (ht.2.2.2.2 b h.lt h.2.2.1).trans h.2.1, h.2.2⟩
theorem Dc.below {W w w' : World} {q g b : Nat} {L : Option (List Nat)} {cs : Array Value} (h : Dc W q g L b cs w) (hb : Below w.heap.size w w') : Dc W q g L b cs w' :=
  ⟨h.1.below hb, (hb.block b h.lt).trans h.2.1, h.2.2⟩
theorem rd_other {W w : World} {q g b : Nat} {L : Option (List Nat)} (h : Rd W q g L w) (h1 : b ≠ q) (h2 : b ≠ g) (h3 : W.heap.size ≤ b) (i : Nat) (v : Value) : Rd W q g L (w.setCell ⟨b, i, none⟩ v) := by
  obtain ⟨k1, k2, k3, k4, k5⟩ := h
  refine ⟨?_, k2, by simpa using k3, by simpa using k4, k5.setCell (p := ⟨b, i, none⟩) h3 v⟩
  have e1 : (w.setCell ⟨b, i, none⟩ v).heap[q]? = w.heap[q]? := heap_setCell_other _ _ _ _ (Ne.symm h1)
  have e2 : (w.setCell ⟨b, i, none⟩ v).heap[g]? = w.heap[g]? := heap_setCell_other _ _ _ _ (Ne.symm h2)
  cases L with
  | none => exact e1.trans k1
  | some l =>
    obtain ⟨o, c, hi, hc⟩ := k1
    exact ⟨o, c, hi.kept e1 e2, hc⟩
theorem Dc.set {W w : World} {q g b : Nat} {L : Option (List Nat)} {cs cs' : Array Value} (h : Dc W q g L b cs w) (i : Nat) (v : Value) (hc : cs.setIfInBounds i v = cs') : Dc W q g L b cs' (w.setCell ⟨b, i, none⟩ v) :=
  ⟨rd_other h.1 h.2.2.1 h.2.2.2.1 h.2.2.2.2 i v, by rw [heap_setCell_same _ _ _ _ _ _ h.2.1, hc], h.2.2⟩
theorem Dc.cell {W w : World} {q g b : Nat} {L : Option (List Nat)} {cs : Array Value} (h : Dc W q g L b cs w) (i : Nat) (v : Value) (hv : cs[i]? = some v) : w.cell? ⟨b, i, none⟩ = some v := cell_at h.2.1 i v hv
theorem Dc.froz {W w : World} {q g b : Nat} {L : Option (List Nat)} {cs : Array Value} (h : Dc W q g L b cs w) (i : Nat) : w.frozen? ⟨b, i, none⟩ = false := frozen_of_row w b i cs _ h.2.1
theorem dc_N {W w : World} {q g b : Nat} {L : Option (List Nat)} {cs : Array Value} (h : Dc W q g L b cs w) (s : Nat) (h1 : 1 ≤ s) (h7 : s ≤ 7) :
    Calls Tryz.prog 42 #[.pointer (some ⟨q, 0, none⟩), .int .i64 s] w fun e w' => e = .returned (.int .i64 (numOf (got s L) : Nat)) ∧ Dc W q g (rest s L) b cs w' :=
  (rd_N h.1 s h1 h7).mono fun _ _ ⟨he, hR, ht⟩ => ⟨he, h.touch hR ht⟩
theorem dc_Text {W w : World} {q g b : Nat} {L : Option (List Nat)} {cs : Array Value} (h : Dc W q g L b cs w) :
    Calls Tryz.prog 43 #[.pointer (some ⟨q, 0, none⟩)] w fun e w' => e = .returned (.string (TX L)) ∧ Dc W q g (LT L) b cs w' :=
  (rd_Text h.1).mono fun _ _ ⟨he, hR, w1, t1, t2⟩ => ⟨he, hR, ((t2.2.2.2.2 b (Nat.lt_of_lt_of_le h.lt t1.2.2.2.1) h.2.2.1).trans (t1.2.2.2.2 b h.lt h.2.2.1)).trans h.2.1, h.2.2⟩
theorem dc_Left {W w : World} {q g b : Nat} {L : Option (List Nat)} {cs : Array Value} (h : Dc W q g L b cs w) :
    Calls Tryz.prog 45 #[.pointer (some ⟨q, 0, none⟩)] w fun e w' => e = .returned (.int .i64 (leftN L : Nat)) ∧ w = w' := rd_Left h.1
theorem dc_Raw {W w : World} {q g b : Nat} {L : Option (List Nat)} {cs : Array Value} (h : Dc W q g L b cs w) (s : Nat) (hl : ∀ l, L = some l → ∀ b ∈ l, b < 256) :
    Calls Tryz.prog 44 #[.pointer (some ⟨q, 0, none⟩), .int .i64 s] w fun e w' => ∃ g' m, m = (got s L).length ∧ e = .returned (.slice (some ⟨g', 0, none⟩) m m) ∧ b < g' ∧ W.heap.size ≤ g' ∧ Bytes w' (some ⟨g', 0, none⟩) m (got s L) ∧ Dc W q g (rest s L) b cs w' :=
  (rd_Raw h.1 s hl).mono fun _ _ ⟨g', m, hm, he, hg, hB, hR, ht⟩ => ⟨g', m, hm, he, Nat.lt_of_lt_of_le h.lt hg, Nat.le_trans h.2.2.2.2 (Nat.le_trans (Nat.le_of_lt h.lt) hg), hB, h.touch hR ht⟩
theorem dc_Done {W w : World} {q g b : Nat} {L : Option (List Nat)} {cs : Array Value} (h : Dc W q g L b cs w) :
    Calls Tryz.prog 46 #[.pointer (some ⟨q, 0, none⟩)] w fun e w' => e = .returned (.bool (decide (L = some []))) ∧ w = w' := rd_Done h.1
theorem dc_start {W w : World} {q g : Nat} {L : Option (List Nat)} (h : Rd W q g L w) (cs : Array Value) : Dc W q g L w.heap.size cs (w.alloc (.cells cs 67)) :=
  ⟨h.alloc _, heap_alloc_new w _, by have := h.2.2.1; omega, by have := h.2.2.2.1; omega, h.bel.size⟩
theorem results_note {P : Program} {fn : Func} {p q : Tmp} {ty : TypeId} (h : fn.results = #[.cell p ty, .tmp q]) (tmps : Array Value) (w : World) (g : Nat) (t : TypeId) (cs : Array Value) (fr : Nat × Nat) (d : TypeDesc)
    (hp : tmps.getD p undef = .pointer (some ⟨g, 0, none⟩)) (hg : w.heap[g]? = some (.cells cs t fr))
    (hu : P.underlying ty = some d) (hd : (match d with | .struct _ | .array _ _ => true | _ => false) = true) (hi : (P.info? ty).map (·.size) = some cs.size) :
    (results fn tmps).run P w = .ok (.tuple #[.agg cs, tmps.getD q undef]) w := by
  have hp' : tmps[p]?.getD undef = .pointer (some ⟨g, 0, none⟩) := by simpa using hp
  simp [results, h, hp', asAddr, run_loadVar_row w g t ty cs fr d hg hu hd hi]
theorem below_row {B g : Nat} {a w : World} (h : Below B a w) (hg : B ≤ g) (cs : Array Value) : Below B a (w.setRow g cs) :=
  h.trans ⟨rfl, rfl, rfl, by simp, fun k hk => by simp only [World.setRow, Array.getElem?_modify]; rw [if_neg (by omega)]⟩
theorem tx_size {M : Option (List Nat)} (hM : ∀ l, M = some l → ∀ b ∈ l, b < 256) : (TX M).size ≤ 65535 := by
  unfold TX
  rw [strOf_size]
  have h1 := got_len (numOf (got 2 M)) (rest 2 M)
  have h2 := got_num (k := 2) hM
  omega
/-- The cells of a note. -/
def zeroN : Array Value := #[.int .i64 0, .int .u32 0, .string ⟨#[]⟩, .int .u32 0, .int .i64 0, .int .i64 0, .slice none 0 0]
theorem noteSize (cs : Array Value) (h : cs.size = 7) : (Tryz.prog.info? 67).map (·.size) = some cs.size := by
  rw [h]
  kernel_rfl
theorem rd_ep {W w : World} {q g : Nat} {L : List Nat} (h : Rd W q g (some L) w) :
    Calls Tryz.prog 42 #[.pointer (some ⟨q, 0, none⟩), .int .i64 (4 : Nat)] w fun e w' => e = .returned (.int .i64 (epN L : Nat)) ∧ Rd W q g (LA L) w' :=
  (rd_N h 4 (by decide) (by decide)).mono fun _ _ ⟨a, b, _⟩ => ⟨a, b⟩
theorem dc_uid {W w : World} {q g b : Nat} {L : List Nat} {cs : Array Value} (h : Dc W q g (LA L) b cs w) :
    Calls Tryz.prog 42 #[.pointer (some ⟨q, 0, none⟩), .int .i64 (4 : Nat)] w fun e w' => e = .returned (.int .i64 (uidN L : Nat)) ∧ Dc W q g (LU L) b cs w' := dc_N h 4 (by decide) (by decide)
theorem dc_dat {W w : World} {q g b : Nat} {L : List Nat} {cs : Array Value} (h : Dc W q g (LU L) b cs w) :
    Calls Tryz.prog 42 #[.pointer (some ⟨q, 0, none⟩), .int .i64 (6 : Nat)] w fun e w' => e = .returned (.int .i64 (datN L : Nat)) ∧ Dc W q g (LD L) b cs w' := dc_N h 6 (by decide) (by decide)
theorem dc_fla {W w : World} {q g b : Nat} {L : List Nat} {cs : Array Value} (h : Dc W q g (LD L) b cs w) :
    Calls Tryz.prog 42 #[.pointer (some ⟨q, 0, none⟩), .int .i64 (1 : Nat)] w fun e w' => e = .returned (.int .i64 (flaN L : Nat)) ∧ Dc W q g (LF L) b cs w' := dc_N h 1 (by decide) (by decide)
theorem seven {w : World} {g : Nat} {t : TypeId} {cs : Array Value} (h : w.heap[g]? = some (.cells cs t (0, 0))) (hs : cs.size = 7) (v0 v1 v2 v3 v4 v5 v6 : Value) :
    (((((((w.setCell ⟨g, 0, none⟩ v0).setCell ⟨g, 1, none⟩ v1).setCell ⟨g, 2, none⟩ v2).setCell ⟨g, 3, none⟩ v3).setCell ⟨g, 4, none⟩ v4).setCell ⟨g, 5, none⟩ v5).setCell ⟨g, 6, none⟩ v6).heap[g]? = some (.cells #[v0, v1, v2, v3, v4, v5, v6] t (0, 0)) ∧
    (∀ k, k ≠ g → (((((((w.setCell ⟨g, 0, none⟩ v0).setCell ⟨g, 1, none⟩ v1).setCell ⟨g, 2, none⟩ v2).setCell ⟨g, 3, none⟩ v3).setCell ⟨g, 4, none⟩ v4).setCell ⟨g, 5, none⟩ v5).setCell ⟨g, 6, none⟩ v6).heap[k]? = w.heap[k]?) ∧
    ∀ (B : Nat) (a : World), Below B a w → B ≤ g → Below B a (((((((w.setCell ⟨g, 0, none⟩ v0).setCell ⟨g, 1, none⟩ v1).setCell ⟨g, 2, none⟩ v2).setCell ⟨g, 3, none⟩ v3).setCell ⟨g, 4, none⟩ v4).setCell ⟨g, 5, none⟩ v5).setCell ⟨g, 6, none⟩ v6) := by
  refine ⟨?_, fun k hk => by rw [heap_setCell_other _ _ _ _ hk, heap_setCell_other _ _ _ _ hk, heap_setCell_other _ _ _ _ hk, heap_setCell_other _ _ _ _ hk, heap_setCell_other _ _ _ _ hk, heap_setCell_other _ _ _ _ hk, heap_setCell_other _ _ _ _ hk], fun B a hb hg => ((((((hb.setCell (p := ⟨g, 0, none⟩) hg _).setCell (p := ⟨g, 1, none⟩) hg _).setCell (p := ⟨g, 2, none⟩) hg _).setCell (p := ⟨g, 3, none⟩) hg _).setCell (p := ⟨g, 4, none⟩) hg _).setCell (p := ⟨g, 5, none⟩) hg _).setCell (p := ⟨g, 6, none⟩) hg _⟩
  rw [heap_setCell_same _ g 6 _ t _ (heap_setCell_same _ g 5 _ t _ (heap_setCell_same _ g 4 _ t _ (heap_setCell_same _ g 3 _ t _ (heap_setCell_same _ g 2 _ t _ (heap_setCell_same _ g 1 _ t _ (heap_setCell_same _ g 0 _ t _ h))))))]
  obtain ⟨l⟩ := cs
  have hl : l.length = 7 := hs
  match l, hl with
  | [a0, a1, a2, a3, a4, a5, a6], _ => rfl
/-- What Decode answers. -/
def tup (b : Bool) (cs : Array Value) : Value := if b then .tuple #[.agg cs, .int .i64 0] else .tuple #[.agg zeroN, .int .i64 2]
theorem octs_set {W w : World} {q g b : Nat} {L : Option (List Nat)} {cs : Array Value} (h : Dc W q g L b cs w) {g' m : Nat} {l : List Nat} (hg : b < g') (hB : Bytes w (some ⟨g', 0, none⟩) m l) (i : Nat) (v : Value) : Bytes (w.setCell ⟨b, i, none⟩ v) (some ⟨g', 0, none⟩) m l :=
  hB.kept fun ad e hn => by cases e; exact heap_setCell_other _ _ _ _ (by show g' ≠ b; omega)
set_option maxHeartbeats 1000000 in
theorem decode1 (W : World) (A : Option Addr) (n c : Nat) (L : List Nat) (hB : Bytes W A n L) (hn : n ≤ 100000) (hr : Fit W) :
    Calls Tryz.prog 26 #[.int .i64 1, .slice A n c] W fun x w' => x = .returned (tup (ok1 L) #[.int .i64 1, .int .u32 (epN L), .string (TX (LA L)), .int .u32 0, .int .i64 0, .int .i64 0, .slice none 0 0]) ∧ Below W.heap.size W w' := by
  obtain ⟨W1, hW1⟩ : ∃ W1, W1 = W.alloc (.cells zeroN 67) := ⟨_, rfl⟩
  have HBW := Lib.hid (show Below W.heap.size W W1 by rw [hW1]; exact (Below.refl _ _).alloc (Nat.le_refl _) _)
  have HWS := Lib.hid (show W.heap.size < W1.heap.size by rw [hW1]; simp)
  have HRC := Lib.hid (fun (w1 : World) (h : Below W1.heap.size W1 w1) => (boxed (w := W) (o := .cells zeroN 67) (w1 := w1) (by rw [← hW1]; exact h)).1)
  have HFit := Lib.hid (fun (w1 : World) (h : Below W1.heap.size W1 w1) => hr.below (HBW.out.trans (h.mono HBW.out.size)))
  have HNW := Lib.hid (rd_new W1 A n c L (hB.below hB.lt HBW.out) (by omega))
  have hb := hB.2.1
  have HL := Lib.hid hb
  have HEP := Lib.hid (ep_lt hb)
  have HW1 := Lib.hid hW1
  have HOK : Hid (ok1 L = (decide (LT (LA L) = some []) && formedB 1 (epN L) (TX (LA L)) 0 0 0 0)) := rfl
  have hTX := tx_size (ltLA hb)
  have hF := fun w hr => formed_any w 1 (epN L) 0 (TX (LA L)) 0 0 none 0 0 (by omega) hr
  have HF := Lib.hid hF
  clear hW1 hB hn hr hb hF hTX
  go_enter Tryz.func26, Tryz.ntmps26
  go_wp2_with fail
  rw [show (#[.int .i64 0, .int .u32 0, .string ⟨#[]⟩, .int .u32 0, .int .i64 0, .int .i64 0, .slice none 0 0] : Array Value) = zeroN from rfl, ← HW1.out]
  refine HNW.out.mono ?_
  rintro x w1 ⟨q, g, rfl, hR1⟩
  have HR1 := Lib.hid hR1
  clear hR1 HNW
  go_wp2_with fail
  refine (rd_ep HR1.out).mono ?_
  rintro x w2 ⟨rfl, hR2⟩
  have HR2 := Lib.hid hR2
  have he := IntWalk.u32_in (epN L : Nat) (by have := HEP.out; omega)
  clear hR2 HR1
  go_wp2_with fail
  have HD2 := Lib.hid (dc_start HR2.out #[.int .i64 1, .int .u32 (epN L), .string ⟨#[]⟩, .int .u32 0, .int .i64 0, .int .i64 0, .slice none 0 0])
  refine (dc_Text HD2.out).mono ?_
  rintro x w3 ⟨rfl, hD3⟩
  have HD3 := Lib.hid hD3
  generalize w2.heap.size = b at *
  have e2 := HD3.out.cell 2 _ rfl
  have f2 := HD3.out.froz 2
  clear hD3 HD2 he HR2
  go_wp2_with fail
  have HD4 := Lib.hid (HD3.out.set 2 (.string (TX (LA L))) rfl)
  generalize w3.setCell ⟨b, 2, none⟩ (.string (TX (LA L))) = w4 at *
  clear HD3 e2 f2
  have HDn := Lib.hid (dc_Done HD4.out)
  have HK := HOK.out
  clear HOK
  generalize decide (LT (LA L) = some []) = DD at *
  generalize formedB 1 (epN L) (TX (LA L)) 0 0 0 0 = FF at *
  generalize htx : TX (LA L) = tx at *
  have Etx := Lib.hid htx
  clear htx
  generalize hep : epN L = ep at *
  have Eep := Lib.hid hep
  clear hep
  have HK := Lib.hid HK
  refine HDn.out.mono ?_
  rintro x w9 ⟨rfl, rfl⟩
  clear HDn
  cases DD
  · · clear HF
      have r0 := cell_at (HRC.out _ HD4.out.1.bel) 0 _ rfl
      have s0 := frozen_of_row _ _ 0 _ _ (HRC.out _ HD4.out.1.bel)
      have r1 := cell_at (HRC.out _ HD4.out.1.bel) 1 _ rfl
      have s1 := frozen_of_row _ _ 1 _ _ (HRC.out _ HD4.out.1.bel)
      have r2 := cell_at (HRC.out _ HD4.out.1.bel) 2 _ rfl
      have s2 := frozen_of_row _ _ 2 _ _ (HRC.out _ HD4.out.1.bel)
      have r3 := cell_at (HRC.out _ HD4.out.1.bel) 3 _ rfl
      have s3 := frozen_of_row _ _ 3 _ _ (HRC.out _ HD4.out.1.bel)
      have r4 := cell_at (HRC.out _ HD4.out.1.bel) 4 _ rfl
      have s4 := frozen_of_row _ _ 4 _ _ (HRC.out _ HD4.out.1.bel)
      have r5 := cell_at (HRC.out _ HD4.out.1.bel) 5 _ rfl
      have s5 := frozen_of_row _ _ 5 _ _ (HRC.out _ HD4.out.1.bel)
      have r6 := cell_at (HRC.out _ HD4.out.1.bel) 6 _ rfl
      have s6 := frozen_of_row _ _ 6 _ _ (HRC.out _ HD4.out.1.bel)
      go_wp2_with fail
      have h7 := seven (HRC.out _ HD4.out.1.bel) rfl (.int .i64 0) (.int .u32 0) (.string ⟨#[]⟩) (.int .u32 0) (.int .i64 0) (.int .i64 0) (.slice none 0 0)
      exact bodyPost_ret (results_note Tryz.results26 _ _ W.heap.size _ _ _ _ rfl h7.1 Tryz.underlying67 rfl (noteSize _ rfl)) rfl ⟨by rw [show ok1 L = false from HK.out]; rfl, h7.2.2 _ _ (HBW.out.trans (HD4.out.1.bel.mono HBW.out.size)) (Nat.le_refl _)⟩
  · cases FF
    · --A
      have c0 := HD4.out.cell 0 _ rfl
      have c1 := HD4.out.cell 1 _ rfl
      have c2 := HD4.out.cell 2 _ rfl
      have c3 := HD4.out.cell 3 _ rfl
      have c4 := HD4.out.cell 4 _ rfl
      have c5 := HD4.out.cell 5 _ rfl
      have c6 := HD4.out.cell 6 _ rfl
      go_wp2_with (go_at_call 47; refine (HF.out _ (HFit.out _ HD4.out.1.bel)).mono ?_; rintro x w5 ⟨rfl, hb5⟩; have HD5 := Lib.hid (HD4.out.below hb5); clear hb5 c0 c1 c2 c3 c4 c5 c6; have r0 := cell_at (HRC.out _ HD5.out.1.bel) 0 _ rfl; have s0 := frozen_of_row _ _ 0 _ _ (HRC.out _ HD5.out.1.bel); have r1 := cell_at (HRC.out _ HD5.out.1.bel) 1 _ rfl; have s1 := frozen_of_row _ _ 1 _ _ (HRC.out _ HD5.out.1.bel); have r2 := cell_at (HRC.out _ HD5.out.1.bel) 2 _ rfl; have s2 := frozen_of_row _ _ 2 _ _ (HRC.out _ HD5.out.1.bel); have r3 := cell_at (HRC.out _ HD5.out.1.bel) 3 _ rfl; have s3 := frozen_of_row _ _ 3 _ _ (HRC.out _ HD5.out.1.bel); have r4 := cell_at (HRC.out _ HD5.out.1.bel) 4 _ rfl; have s4 := frozen_of_row _ _ 4 _ _ (HRC.out _ HD5.out.1.bel); have r5 := cell_at (HRC.out _ HD5.out.1.bel) 5 _ rfl; have s5 := frozen_of_row _ _ 5 _ _ (HRC.out _ HD5.out.1.bel); have r6 := cell_at (HRC.out _ HD5.out.1.bel) 6 _ rfl; have s6 := frozen_of_row _ _ 6 _ _ (HRC.out _ HD5.out.1.bel))
      have h7 := seven (HRC.out _ HD5.out.1.bel) rfl (.int .i64 0) (.int .u32 0) (.string ⟨#[]⟩) (.int .u32 0) (.int .i64 0) (.int .i64 0) (.slice none 0 0)
      exact bodyPost_ret (results_note Tryz.results26 _ _ W.heap.size _ _ _ _ rfl h7.1 Tryz.underlying67 rfl (noteSize _ rfl)) rfl ⟨by rw [show ok1 L = false from HK.out]; rfl, h7.2.2 _ _ (HBW.out.trans (HD5.out.1.bel.mono HBW.out.size)) (Nat.le_refl _)⟩
    · --B
      have c0 := HD4.out.cell 0 _ rfl
      have c1 := HD4.out.cell 1 _ rfl
      have c2 := HD4.out.cell 2 _ rfl
      have c3 := HD4.out.cell 3 _ rfl
      have c4 := HD4.out.cell 4 _ rfl
      have c5 := HD4.out.cell 5 _ rfl
      have c6 := HD4.out.cell 6 _ rfl
      go_wp2_with (go_at_call 47; refine (HF.out _ (HFit.out _ HD4.out.1.bel)).mono ?_; rintro x w5 ⟨rfl, hb5⟩; have HD5 := Lib.hid (HD4.out.below hb5); clear hb5 c0 c1 c2 c3 c4 c5 c6; have c0 := HD5.out.cell 0 _ rfl; have c1 := HD5.out.cell 1 _ rfl; have c2 := HD5.out.cell 2 _ rfl; have c3 := HD5.out.cell 3 _ rfl; have c4 := HD5.out.cell 4 _ rfl; have c5 := HD5.out.cell 5 _ rfl; have c6 := HD5.out.cell 6 _ rfl; have r0 := cell_at (HRC.out _ HD5.out.1.bel) 0 _ rfl; have s0 := frozen_of_row _ _ 0 _ _ (HRC.out _ HD5.out.1.bel); have r1 := cell_at (HRC.out _ HD5.out.1.bel) 1 _ rfl; have s1 := frozen_of_row _ _ 1 _ _ (HRC.out _ HD5.out.1.bel); have r2 := cell_at (HRC.out _ HD5.out.1.bel) 2 _ rfl; have s2 := frozen_of_row _ _ 2 _ _ (HRC.out _ HD5.out.1.bel); have r3 := cell_at (HRC.out _ HD5.out.1.bel) 3 _ rfl; have s3 := frozen_of_row _ _ 3 _ _ (HRC.out _ HD5.out.1.bel); have r4 := cell_at (HRC.out _ HD5.out.1.bel) 4 _ rfl; have s4 := frozen_of_row _ _ 4 _ _ (HRC.out _ HD5.out.1.bel); have r5 := cell_at (HRC.out _ HD5.out.1.bel) 5 _ rfl; have s5 := frozen_of_row _ _ 5 _ _ (HRC.out _ HD5.out.1.bel); have r6 := cell_at (HRC.out _ HD5.out.1.bel) 6 _ rfl; have s6 := frozen_of_row _ _ 6 _ _ (HRC.out _ HD5.out.1.bel))
      have h7 := seven (HRC.out _ HD5.out.1.bel) rfl (.int .i64 1) (.int .u32 ep) (.string tx) (.int .u32 0) (.int .i64 0) (.int .i64 0) (.slice none 0 0)
      exact bodyPost_ret (results_note Tryz.results26 _ _ W.heap.size _ _ _ _ rfl h7.1 Tryz.underlying67 rfl (noteSize _ rfl)) rfl ⟨by rw [show ok1 L = true from HK.out, Etx.out, Eep.out]; rfl, h7.2.2 _ _ (HBW.out.trans (HD5.out.1.bel.mono HBW.out.size)) (Nat.le_refl _)⟩
set_option maxHeartbeats 1000000 in
theorem decode3 (W : World) (A : Option Addr) (n c : Nat) (L : List Nat) (hB : Bytes W A n L) (hn : n ≤ 100000) (hr : Fit W) :
    Calls Tryz.prog 26 #[.int .i64 3, .slice A n c] W fun x w' => x = .returned (tup (ok3 L) #[.int .i64 3, .int .u32 (epN L), .string ⟨#[]⟩, .int .u32 (uidN L), .int .i64 0, .int .i64 0, .slice none 0 0]) ∧ Below W.heap.size W w' := by
  obtain ⟨W1, hW1⟩ : ∃ W1, W1 = W.alloc (.cells zeroN 67) := ⟨_, rfl⟩
  have HBW := Lib.hid (show Below W.heap.size W W1 by rw [hW1]; exact (Below.refl _ _).alloc (Nat.le_refl _) _)
  have HWS := Lib.hid (show W.heap.size < W1.heap.size by rw [hW1]; simp)
  have HRC := Lib.hid (fun (w1 : World) (h : Below W1.heap.size W1 w1) => (boxed (w := W) (o := .cells zeroN 67) (w1 := w1) (by rw [← hW1]; exact h)).1)
  have HFit := Lib.hid (fun (w1 : World) (h : Below W1.heap.size W1 w1) => hr.below (HBW.out.trans (h.mono HBW.out.size)))
  have HNW := Lib.hid (rd_new W1 A n c L (hB.below hB.lt HBW.out) (by omega))
  have hb := hB.2.1
  have HL := Lib.hid hb
  have HEP := Lib.hid (ep_lt hb)
  have HW1 := Lib.hid hW1
  have HOK : Hid (ok3 L = (decide (LU L = some []) && formedB 3 (epN L) ⟨#[]⟩ (uidN L) 0 0 0)) := rfl
  have hF := fun w hr => formed_any w 3 (epN L) (uidN L) ⟨#[]⟩ 0 0 none 0 0 (by decide) hr
  have HF := Lib.hid hF
  have HU := Lib.hid (uid_lt hb)
  clear hW1 hB hn hr hb hF
  go_enter Tryz.func26, Tryz.ntmps26
  go_wp2_with fail
  rw [show (#[.int .i64 0, .int .u32 0, .string ⟨#[]⟩, .int .u32 0, .int .i64 0, .int .i64 0, .slice none 0 0] : Array Value) = zeroN from rfl, ← HW1.out]
  refine HNW.out.mono ?_
  rintro x w1 ⟨q, g, rfl, hR1⟩
  have HR1 := Lib.hid hR1
  clear hR1 HNW
  go_wp2_with fail
  refine (rd_ep HR1.out).mono ?_
  rintro x w2 ⟨rfl, hR2⟩
  have HR2 := Lib.hid hR2
  have he := IntWalk.u32_in (epN L : Nat) (by have := HEP.out; omega)
  clear hR2 HR1
  go_wp2_with fail
  have HD2 := Lib.hid (dc_start HR2.out #[.int .i64 3, .int .u32 (epN L), .string ⟨#[]⟩, .int .u32 0, .int .i64 0, .int .i64 0, .slice none 0 0])
  refine (dc_uid HD2.out).mono ?_
  rintro x w3 ⟨rfl, hD3⟩
  have HD3 := Lib.hid hD3
  generalize w2.heap.size = b at *
  have e2 := HD3.out.cell 3 _ rfl
  have f2 := HD3.out.froz 3
  clear hD3 HD2 he HR2
  have he := IntWalk.u32_in (uidN L : Nat) (by have := HU.out; omega)
  go_wp2_with fail
  have HD4 := Lib.hid (HD3.out.set 3 (.int .u32 (uidN L)) rfl)
  generalize w3.setCell ⟨b, 3, none⟩ (.int .u32 (uidN L)) = w4 at *
  clear HD3 e2 f2 he
  have HDn := Lib.hid (dc_Done HD4.out)
  have HK := HOK.out
  clear HOK
  generalize decide (LU L = some []) = DD at *
  generalize formedB 3 (epN L) ⟨#[]⟩ (uidN L) 0 0 0 = FF at *
  generalize hui : uidN L = ui at *
  have Eui := Lib.hid hui
  clear hui
  generalize hep : epN L = ep at *
  have Eep := Lib.hid hep
  clear hep
  have HK := Lib.hid HK
  refine HDn.out.mono ?_
  rintro x w9 ⟨rfl, rfl⟩
  clear HDn
  cases DD
  · · clear HF
      have r0 := cell_at (HRC.out _ HD4.out.1.bel) 0 _ rfl
      have s0 := frozen_of_row _ _ 0 _ _ (HRC.out _ HD4.out.1.bel)
      have r1 := cell_at (HRC.out _ HD4.out.1.bel) 1 _ rfl
      have s1 := frozen_of_row _ _ 1 _ _ (HRC.out _ HD4.out.1.bel)
      have r2 := cell_at (HRC.out _ HD4.out.1.bel) 2 _ rfl
      have s2 := frozen_of_row _ _ 2 _ _ (HRC.out _ HD4.out.1.bel)
      have r3 := cell_at (HRC.out _ HD4.out.1.bel) 3 _ rfl
      have s3 := frozen_of_row _ _ 3 _ _ (HRC.out _ HD4.out.1.bel)
      have r4 := cell_at (HRC.out _ HD4.out.1.bel) 4 _ rfl
      have s4 := frozen_of_row _ _ 4 _ _ (HRC.out _ HD4.out.1.bel)
      have r5 := cell_at (HRC.out _ HD4.out.1.bel) 5 _ rfl
      have s5 := frozen_of_row _ _ 5 _ _ (HRC.out _ HD4.out.1.bel)
      have r6 := cell_at (HRC.out _ HD4.out.1.bel) 6 _ rfl
      have s6 := frozen_of_row _ _ 6 _ _ (HRC.out _ HD4.out.1.bel)
      go_wp2_with fail
      have h7 := seven (HRC.out _ HD4.out.1.bel) rfl (.int .i64 0) (.int .u32 0) (.string ⟨#[]⟩) (.int .u32 0) (.int .i64 0) (.int .i64 0) (.slice none 0 0)
      exact bodyPost_ret (results_note Tryz.results26 _ _ W.heap.size _ _ _ _ rfl h7.1 Tryz.underlying67 rfl (noteSize _ rfl)) rfl ⟨by rw [show ok3 L = false from HK.out]; rfl, h7.2.2 _ _ (HBW.out.trans (HD4.out.1.bel.mono HBW.out.size)) (Nat.le_refl _)⟩
  · cases FF
    · --A
      have c0 := HD4.out.cell 0 _ rfl
      have c1 := HD4.out.cell 1 _ rfl
      have c2 := HD4.out.cell 2 _ rfl
      have c3 := HD4.out.cell 3 _ rfl
      have c4 := HD4.out.cell 4 _ rfl
      have c5 := HD4.out.cell 5 _ rfl
      have c6 := HD4.out.cell 6 _ rfl
      go_wp2_with (go_at_call 47; refine (HF.out _ (HFit.out _ HD4.out.1.bel)).mono ?_; rintro x w5 ⟨rfl, hb5⟩; have HD5 := Lib.hid (HD4.out.below hb5); clear hb5 c0 c1 c2 c3 c4 c5 c6; have r0 := cell_at (HRC.out _ HD5.out.1.bel) 0 _ rfl; have s0 := frozen_of_row _ _ 0 _ _ (HRC.out _ HD5.out.1.bel); have r1 := cell_at (HRC.out _ HD5.out.1.bel) 1 _ rfl; have s1 := frozen_of_row _ _ 1 _ _ (HRC.out _ HD5.out.1.bel); have r2 := cell_at (HRC.out _ HD5.out.1.bel) 2 _ rfl; have s2 := frozen_of_row _ _ 2 _ _ (HRC.out _ HD5.out.1.bel); have r3 := cell_at (HRC.out _ HD5.out.1.bel) 3 _ rfl; have s3 := frozen_of_row _ _ 3 _ _ (HRC.out _ HD5.out.1.bel); have r4 := cell_at (HRC.out _ HD5.out.1.bel) 4 _ rfl; have s4 := frozen_of_row _ _ 4 _ _ (HRC.out _ HD5.out.1.bel); have r5 := cell_at (HRC.out _ HD5.out.1.bel) 5 _ rfl; have s5 := frozen_of_row _ _ 5 _ _ (HRC.out _ HD5.out.1.bel); have r6 := cell_at (HRC.out _ HD5.out.1.bel) 6 _ rfl; have s6 := frozen_of_row _ _ 6 _ _ (HRC.out _ HD5.out.1.bel))
      have h7 := seven (HRC.out _ HD5.out.1.bel) rfl (.int .i64 0) (.int .u32 0) (.string ⟨#[]⟩) (.int .u32 0) (.int .i64 0) (.int .i64 0) (.slice none 0 0)
      exact bodyPost_ret (results_note Tryz.results26 _ _ W.heap.size _ _ _ _ rfl h7.1 Tryz.underlying67 rfl (noteSize _ rfl)) rfl ⟨by rw [show ok3 L = false from HK.out]; rfl, h7.2.2 _ _ (HBW.out.trans (HD5.out.1.bel.mono HBW.out.size)) (Nat.le_refl _)⟩
    · --B
      have c0 := HD4.out.cell 0 _ rfl
      have c1 := HD4.out.cell 1 _ rfl
      have c2 := HD4.out.cell 2 _ rfl
      have c3 := HD4.out.cell 3 _ rfl
      have c4 := HD4.out.cell 4 _ rfl
      have c5 := HD4.out.cell 5 _ rfl
      have c6 := HD4.out.cell 6 _ rfl
      go_wp2_with (go_at_call 47; refine (HF.out _ (HFit.out _ HD4.out.1.bel)).mono ?_; rintro x w5 ⟨rfl, hb5⟩; have HD5 := Lib.hid (HD4.out.below hb5); clear hb5 c0 c1 c2 c3 c4 c5 c6; have c0 := HD5.out.cell 0 _ rfl; have c1 := HD5.out.cell 1 _ rfl; have c2 := HD5.out.cell 2 _ rfl; have c3 := HD5.out.cell 3 _ rfl; have c4 := HD5.out.cell 4 _ rfl; have c5 := HD5.out.cell 5 _ rfl; have c6 := HD5.out.cell 6 _ rfl; have r0 := cell_at (HRC.out _ HD5.out.1.bel) 0 _ rfl; have s0 := frozen_of_row _ _ 0 _ _ (HRC.out _ HD5.out.1.bel); have r1 := cell_at (HRC.out _ HD5.out.1.bel) 1 _ rfl; have s1 := frozen_of_row _ _ 1 _ _ (HRC.out _ HD5.out.1.bel); have r2 := cell_at (HRC.out _ HD5.out.1.bel) 2 _ rfl; have s2 := frozen_of_row _ _ 2 _ _ (HRC.out _ HD5.out.1.bel); have r3 := cell_at (HRC.out _ HD5.out.1.bel) 3 _ rfl; have s3 := frozen_of_row _ _ 3 _ _ (HRC.out _ HD5.out.1.bel); have r4 := cell_at (HRC.out _ HD5.out.1.bel) 4 _ rfl; have s4 := frozen_of_row _ _ 4 _ _ (HRC.out _ HD5.out.1.bel); have r5 := cell_at (HRC.out _ HD5.out.1.bel) 5 _ rfl; have s5 := frozen_of_row _ _ 5 _ _ (HRC.out _ HD5.out.1.bel); have r6 := cell_at (HRC.out _ HD5.out.1.bel) 6 _ rfl; have s6 := frozen_of_row _ _ 6 _ _ (HRC.out _ HD5.out.1.bel))
      have h7 := seven (HRC.out _ HD5.out.1.bel) rfl (.int .i64 3) (.int .u32 ep) (.string ⟨#[]⟩) (.int .u32 ui) (.int .i64 0) (.int .i64 0) (.slice none 0 0)
      exact bodyPost_ret (results_note Tryz.results26 _ _ W.heap.size _ _ _ _ rfl h7.1 Tryz.underlying67 rfl (noteSize _ rfl)) rfl ⟨by rw [show ok3 L = true from HK.out, Eui.out, Eep.out]; rfl, h7.2.2 _ _ (HBW.out.trans (HD5.out.1.bel.mono HBW.out.size)) (Nat.le_refl _)⟩
set_option maxHeartbeats 1000000 in
theorem decode0 (W : World) (k : Int) (h1 : k ≠ 1) (h2 : k ≠ 2) (h3 : k ≠ 3) (A : Option Addr) (n c : Nat) (L : List Nat) (hB : Bytes W A n L) (hn : n ≤ 100000) (hr : Fit W) :
    Calls Tryz.prog 26 #[.int .i64 k, .slice A n c] W fun x w' => x = .returned (tup false #[]) ∧ Below W.heap.size W w' := by
  obtain ⟨W1, hW1⟩ : ∃ W1, W1 = W.alloc (.cells zeroN 67) := ⟨_, rfl⟩
  have HBW := Lib.hid (show Below W.heap.size W W1 by rw [hW1]; exact (Below.refl _ _).alloc (Nat.le_refl _) _)
  have HWS := Lib.hid (show W.heap.size < W1.heap.size by rw [hW1]; simp)
  have HRC := Lib.hid (fun (w1 : World) (h : Below W1.heap.size W1 w1) => (boxed (w := W) (o := .cells zeroN 67) (w1 := w1) (by rw [← hW1]; exact h)).1)
  have HFit := Lib.hid (fun (w1 : World) (h : Below W1.heap.size W1 w1) => hr.below (HBW.out.trans (h.mono HBW.out.size)))
  have HNW := Lib.hid (rd_new W1 A n c L (hB.below hB.lt HBW.out) (by omega))
  have hb := hB.2.1
  have HL := Lib.hid hb
  have HEP := Lib.hid (ep_lt hb)
  have HW1 := Lib.hid hW1
  have HOK : Hid (false = false) := rfl
  have hF := fun w hr => formed_any w k (epN L) 0 ⟨#[]⟩ 0 0 none 0 0 (by decide) hr
  rw [formed_other h1 h2 h3] at hF
  have HF := Lib.hid hF
  have e1 : (k == 1) = false := by rw [beq_eq_false_iff_ne]; exact h1
  have e2 : (k == 2) = false := by rw [beq_eq_false_iff_ne]; exact h2
  have e3 : (k == 3) = false := by rw [beq_eq_false_iff_ne]; exact h3
  clear h1 h2 h3 hW1 hB hn hr hb hF
  go_enter Tryz.func26, Tryz.ntmps26
  go_wp2_with fail
  rw [show (#[.int .i64 0, .int .u32 0, .string ⟨#[]⟩, .int .u32 0, .int .i64 0, .int .i64 0, .slice none 0 0] : Array Value) = zeroN from rfl, ← HW1.out]
  refine HNW.out.mono ?_
  rintro x w1 ⟨q, g, rfl, hR1⟩
  have HR1 := Lib.hid hR1
  clear hR1 HNW
  go_wp2_with fail
  refine (rd_ep HR1.out).mono ?_
  rintro x w2 ⟨rfl, hR2⟩
  have HR2 := Lib.hid hR2
  have he := IntWalk.u32_in (epN L : Nat) (by have := HEP.out; omega)
  clear hR2 HR1
  go_wp2_with fail
  have HD2 := Lib.hid (dc_start HR2.out #[.int .i64 k, .int .u32 (epN L), .string ⟨#[]⟩, .int .u32 0, .int .i64 0, .int .i64 0, .slice none 0 0])
  generalize w2.alloc _ = w4 at *
  generalize w2.heap.size = b at *
  clear he HR2
  have HDn := Lib.hid (dc_Done HD2.out)
  have HK := HOK.out
  clear HOK
  generalize decide (LA L = some []) = DD at *
  generalize hep : epN L = ep at *
  have Eep := Lib.hid hep
  clear hep
  have HK := Lib.hid HK
  refine HDn.out.mono ?_
  rintro x w9 ⟨rfl, rfl⟩
  clear HDn
  cases DD
  · · clear HF
      have r0 := cell_at (HRC.out _ HD2.out.1.bel) 0 _ rfl
      have s0 := frozen_of_row _ _ 0 _ _ (HRC.out _ HD2.out.1.bel)
      have r1 := cell_at (HRC.out _ HD2.out.1.bel) 1 _ rfl
      have s1 := frozen_of_row _ _ 1 _ _ (HRC.out _ HD2.out.1.bel)
      have r2 := cell_at (HRC.out _ HD2.out.1.bel) 2 _ rfl
      have s2 := frozen_of_row _ _ 2 _ _ (HRC.out _ HD2.out.1.bel)
      have r3 := cell_at (HRC.out _ HD2.out.1.bel) 3 _ rfl
      have s3 := frozen_of_row _ _ 3 _ _ (HRC.out _ HD2.out.1.bel)
      have r4 := cell_at (HRC.out _ HD2.out.1.bel) 4 _ rfl
      have s4 := frozen_of_row _ _ 4 _ _ (HRC.out _ HD2.out.1.bel)
      have r5 := cell_at (HRC.out _ HD2.out.1.bel) 5 _ rfl
      have s5 := frozen_of_row _ _ 5 _ _ (HRC.out _ HD2.out.1.bel)
      have r6 := cell_at (HRC.out _ HD2.out.1.bel) 6 _ rfl
      have s6 := frozen_of_row _ _ 6 _ _ (HRC.out _ HD2.out.1.bel)
      go_wp2_with fail
      have h7 := seven (HRC.out _ HD2.out.1.bel) rfl (.int .i64 0) (.int .u32 0) (.string ⟨#[]⟩) (.int .u32 0) (.int .i64 0) (.int .i64 0) (.slice none 0 0)
      exact bodyPost_ret (results_note Tryz.results26 _ _ W.heap.size _ _ _ _ rfl h7.1 Tryz.underlying67 rfl (noteSize _ rfl)) rfl ⟨rfl, h7.2.2 _ _ (HBW.out.trans (HD2.out.1.bel.mono HBW.out.size)) (Nat.le_refl _)⟩
  · · --A
      have c0 := HD2.out.cell 0 _ rfl
      have c1 := HD2.out.cell 1 _ rfl
      have c2 := HD2.out.cell 2 _ rfl
      have c3 := HD2.out.cell 3 _ rfl
      have c4 := HD2.out.cell 4 _ rfl
      have c5 := HD2.out.cell 5 _ rfl
      have c6 := HD2.out.cell 6 _ rfl
      go_wp2_with (go_at_call 47; refine (HF.out _ (HFit.out _ HD2.out.1.bel)).mono ?_; rintro x w5 ⟨rfl, hb5⟩; have HD5 := Lib.hid (HD2.out.below hb5); clear hb5 c0 c1 c2 c3 c4 c5 c6; have r0 := cell_at (HRC.out _ HD5.out.1.bel) 0 _ rfl; have s0 := frozen_of_row _ _ 0 _ _ (HRC.out _ HD5.out.1.bel); have r1 := cell_at (HRC.out _ HD5.out.1.bel) 1 _ rfl; have s1 := frozen_of_row _ _ 1 _ _ (HRC.out _ HD5.out.1.bel); have r2 := cell_at (HRC.out _ HD5.out.1.bel) 2 _ rfl; have s2 := frozen_of_row _ _ 2 _ _ (HRC.out _ HD5.out.1.bel); have r3 := cell_at (HRC.out _ HD5.out.1.bel) 3 _ rfl; have s3 := frozen_of_row _ _ 3 _ _ (HRC.out _ HD5.out.1.bel); have r4 := cell_at (HRC.out _ HD5.out.1.bel) 4 _ rfl; have s4 := frozen_of_row _ _ 4 _ _ (HRC.out _ HD5.out.1.bel); have r5 := cell_at (HRC.out _ HD5.out.1.bel) 5 _ rfl; have s5 := frozen_of_row _ _ 5 _ _ (HRC.out _ HD5.out.1.bel); have r6 := cell_at (HRC.out _ HD5.out.1.bel) 6 _ rfl; have s6 := frozen_of_row _ _ 6 _ _ (HRC.out _ HD5.out.1.bel))
      have h7 := seven (HRC.out _ HD5.out.1.bel) rfl (.int .i64 0) (.int .u32 0) (.string ⟨#[]⟩) (.int .u32 0) (.int .i64 0) (.int .i64 0) (.slice none 0 0)
      exact bodyPost_ret (results_note Tryz.results26 _ _ W.heap.size _ _ _ _ rfl h7.1 Tryz.underlying67 rfl (noteSize _ rfl)) rfl ⟨rfl, h7.2.2 _ _ (HBW.out.trans (HD5.out.1.bel.mono HBW.out.size)) (Nat.le_refl _)⟩
end Go.Proofs.YtfmdhcjniikfdaaGreatDoor.bod
/- How a payload is decoded. -/
namespace Go.Proofs.YtfmdhcjniikfdaaGreatDoor.bod
open Go.ChangeShapes Go.WideShapes Go.ChangeAt Go.RowKit
open Go.Proofs.YtfmdhcjniikfdaaGreatDoor.codec (Bytes bytesOf bytesOf_length strOf strOf_size numOf)
open Go.Proofs.YtfmdhcjniikfdaaGreatDoor.rd
set_option linter.unusedVariables false
set_option linter.unusedSimpArgs false
set_option maxRecDepth 100000

set_option maxHeartbeats 1000000 in
theorem decode2 (W : World) (A : Option Addr) (n c : Nat) (L : List Nat) (hB : Bytes W A n L) (hn : n ≤ 100000) (hr : Fit W) :
    Calls Tryz.prog 26 #[.int .i64 2, .slice A n c] W fun x w' => ∃ gg mm, mm = (octN L).length ∧ x = .returned (tup (ok2 L) #[.int .i64 2, .int .u32 (epN L), .string (TX (LF L)), .int .u32 (uidN L), .int .i64 (datN L), .int .i64 (flaN L), .slice (some ⟨gg, 0, none⟩) mm mm]) ∧ W.heap.size ≤ gg ∧ Bytes w' (some ⟨gg, 0, none⟩) mm (octN L) ∧ Below W.heap.size W w' := by
  obtain ⟨W1, hW1⟩ : ∃ W1, W1 = W.alloc (.cells zeroN 67) := ⟨_, rfl⟩
  have HBW := Lib.hid (show Below W.heap.size W W1 by rw [hW1]; exact (Below.refl _ _).alloc (Nat.le_refl _) _)
  have HWS := Lib.hid (show W.heap.size < W1.heap.size by rw [hW1]; simp)
  have HRC := Lib.hid (fun (w1 : World) (h : Below W1.heap.size W1 w1) => (boxed (w := W) (o := .cells zeroN 67) (w1 := w1) (by rw [← hW1]; exact h)).1)
  have HFit := Lib.hid (fun (w1 : World) (h : Below W1.heap.size W1 w1) => hr.below (HBW.out.trans (h.mono HBW.out.size)))
  have HNW := Lib.hid (rd_new W1 A n c L (hB.below hB.lt HBW.out) (by omega))
  have hb := hB.2.1
  have HL := Lib.hid hb
  have HEP := Lib.hid (ep_lt hb)
  have HW1 := Lib.hid hW1
  have HOK : Hid (ok2 L = (decide (LO L = some []) && formedB 2 (epN L) (TX (LF L)) (uidN L) (datN L) (flaN L) (octN L).length)) := rfl
  have hTX := tx_size (ltLF hb)
  have hF := fun w A n hr => formed_any w 2 (epN L) (uidN L) (TX (LF L)) (datN L) (flaN L) A n n (by omega) hr
  have HF0 := Lib.hid hF
  have HU := Lib.hid (uid_lt hb)
  have HLT := Lib.hid (ltLT hb)
  clear hW1 hB hn hr hb hF hTX
  go_enter Tryz.func26, Tryz.ntmps26
  go_wp2_with fail
  rw [show (#[.int .i64 0, .int .u32 0, .string ⟨#[]⟩, .int .u32 0, .int .i64 0, .int .i64 0, .slice none 0 0] : Array Value) = zeroN from rfl, ← HW1.out]
  refine HNW.out.mono ?_
  rintro x w1 ⟨q, g, rfl, hR1⟩
  have HR1 := Lib.hid hR1
  clear hR1 HNW
  go_wp2_with fail
  refine (rd_ep HR1.out).mono ?_
  rintro x w2 ⟨rfl, hR2⟩
  have HR2 := Lib.hid hR2
  have he := IntWalk.u32_in (epN L : Nat) (by have := HEP.out; omega)
  clear hR2 HR1
  go_wp2_with fail
  have HD2 := Lib.hid (dc_start HR2.out #[.int .i64 2, .int .u32 (epN L), .string ⟨#[]⟩, .int .u32 0, .int .i64 0, .int .i64 0, .slice none 0 0])
  generalize w2.alloc _ = w2' at *
  generalize w2.heap.size = b at *
  clear he HR2
  refine (dc_uid HD2.out).mono ?_
  rintro x w2a ⟨rfl, hD⟩
  have HDa := Lib.hid hD
  have e2 := HDa.out.cell 3 _ rfl
  have f2 := HDa.out.froz 3
  clear hD HD2
  have he := IntWalk.u32_in (uidN L : Nat) (by have := HU.out; omega)
  go_wp2_with fail
  have HD3 := Lib.hid (HDa.out.set (cs' := #[.int .i64 2, .int .u32 (epN L), .string ⟨#[]⟩, .int .u32 (uidN L), .int .i64 0, .int .i64 0, .slice none 0 0]) 3 (.int .u32 (uidN L)) rfl)
  generalize w2a.setCell ⟨b, 3, none⟩ (.int .u32 (uidN L)) = w3 at *
  clear HDa e2 f2
  clear he
  refine (dc_dat HD3.out).mono ?_
  rintro x w3a ⟨rfl, hD⟩
  have HDa := Lib.hid hD
  have e2 := HDa.out.cell 4 _ rfl
  have f2 := HDa.out.froz 4
  clear hD HD3
  go_wp2_with fail
  have HD4 := Lib.hid (HDa.out.set (cs' := #[.int .i64 2, .int .u32 (epN L), .string ⟨#[]⟩, .int .u32 (uidN L), .int .i64 (datN L), .int .i64 0, .slice none 0 0]) 4 (.int .i64 (datN L)) rfl)
  generalize w3a.setCell ⟨b, 4, none⟩ (.int .i64 (datN L)) = w4 at *
  clear HDa e2 f2
  refine (dc_fla HD4.out).mono ?_
  rintro x w4a ⟨rfl, hD⟩
  have HDa := Lib.hid hD
  have e2 := HDa.out.cell 5 _ rfl
  have f2 := HDa.out.froz 5
  clear hD HD4
  go_wp2_with fail
  have HD5 := Lib.hid (HDa.out.set (cs' := #[.int .i64 2, .int .u32 (epN L), .string ⟨#[]⟩, .int .u32 (uidN L), .int .i64 (datN L), .int .i64 (flaN L), .slice none 0 0]) 5 (.int .i64 (flaN L)) rfl)
  generalize w4a.setCell ⟨b, 5, none⟩ (.int .i64 (flaN L)) = w5 at *
  clear HDa e2 f2
  refine (dc_Text HD5.out).mono ?_
  rintro x w5a ⟨rfl, hD⟩
  have HDa := Lib.hid hD
  have e2 := HDa.out.cell 2 _ rfl
  have f2 := HDa.out.froz 2
  clear hD HD5
  go_wp2_with fail
  have HD6 := Lib.hid (HDa.out.set (cs' := #[.int .i64 2, .int .u32 (epN L), .string (TX (LF L)), .int .u32 (uidN L), .int .i64 (datN L), .int .i64 (flaN L), .slice none 0 0]) 2 (.string (TX (LF L))) rfl)
  generalize w5a.setCell ⟨b, 2, none⟩ (.string (TX (LF L))) = w6 at *
  clear HDa e2 f2
  refine (dc_Left HD6.out).mono ?_
  rintro x w6b ⟨rfl, hw⟩
  subst hw
  go_wp2_with fail
  refine (dc_Raw HD6.out (leftN (LT (LF L))) HLT.out).mono ?_
  rintro x w6c ⟨gg, mm, hmm, rfl, hbg, hWg, hO, hD⟩
  have HDa := Lib.hid (show Dc W1 q g (LO L) b _ w6c from hD)
  have HMM := Lib.hid (show mm = (octN L).length from hmm)
  have HGG := Lib.hid (And.intro hbg hWg)
  have HOa := Lib.hid (show Bytes w6c (some ⟨gg, 0, none⟩) mm (octN L) from hO)
  have e2 := HDa.out.cell 6 _ rfl
  have f2 := HDa.out.froz 6
  clear hD HD6 hmm hbg hWg hO
  go_wp2_with fail
  have HD7 := Lib.hid (HDa.out.set (cs' := #[.int .i64 2, .int .u32 (epN L), .string (TX (LF L)), .int .u32 (uidN L), .int .i64 (datN L), .int .i64 (flaN L), .slice (some ⟨gg, 0, none⟩) mm mm]) 6 (.slice (some ⟨gg, 0, none⟩) mm mm) rfl)
  have HO7 := Lib.hid (octs_set HDa.out HGG.out.1 HOa.out 6 (.slice (some ⟨gg, 0, none⟩) mm mm))
  have HF := Lib.hid (HF0.out · (some ⟨gg, 0, none⟩) mm ·)
  rw [← HMM.out] at HOK
  clear HF0
  generalize w6c.setCell ⟨b, 6, none⟩ (.slice (some ⟨gg, 0, none⟩) mm mm) = w7 at *
  clear HDa e2 f2 HOa
  have HDn := Lib.hid (dc_Done HD7.out)
  have HK := HOK.out
  clear HOK
  generalize decide (LO L = some []) = DD at *
  generalize formedB 2 (epN L) (TX (LF L)) (uidN L) (datN L) (flaN L) mm = FF at *
  generalize htx : TX (LF L) = tx at *
  have Etx := Lib.hid htx
  clear htx
  generalize hui : uidN L = ui at *
  have Eui := Lib.hid hui
  clear hui
  generalize hda : (datN L) = da at *
  have Eda := Lib.hid hda
  clear hda
  generalize hfl : (flaN L) = fl at *
  have Efl := Lib.hid hfl
  clear hfl
  generalize hep : epN L = ep at *
  have Eep := Lib.hid hep
  clear hep
  have HK := Lib.hid HK
  refine HDn.out.mono ?_
  rintro x w9 ⟨rfl, rfl⟩
  clear HDn
  cases DD
  · · clear HF
      have r0 := cell_at (HRC.out _ HD7.out.1.bel) 0 _ rfl
      have s0 := frozen_of_row _ _ 0 _ _ (HRC.out _ HD7.out.1.bel)
      have r1 := cell_at (HRC.out _ HD7.out.1.bel) 1 _ rfl
      have s1 := frozen_of_row _ _ 1 _ _ (HRC.out _ HD7.out.1.bel)
      have r2 := cell_at (HRC.out _ HD7.out.1.bel) 2 _ rfl
      have s2 := frozen_of_row _ _ 2 _ _ (HRC.out _ HD7.out.1.bel)
      have r3 := cell_at (HRC.out _ HD7.out.1.bel) 3 _ rfl
      have s3 := frozen_of_row _ _ 3 _ _ (HRC.out _ HD7.out.1.bel)
      have r4 := cell_at (HRC.out _ HD7.out.1.bel) 4 _ rfl
      have s4 := frozen_of_row _ _ 4 _ _ (HRC.out _ HD7.out.1.bel)
      have r5 := cell_at (HRC.out _ HD7.out.1.bel) 5 _ rfl
      have s5 := frozen_of_row _ _ 5 _ _ (HRC.out _ HD7.out.1.bel)
      have r6 := cell_at (HRC.out _ HD7.out.1.bel) 6 _ rfl
      have s6 := frozen_of_row _ _ 6 _ _ (HRC.out _ HD7.out.1.bel)
      go_wp2_with fail
      have h7 := seven (HRC.out _ HD7.out.1.bel) rfl (.int .i64 0) (.int .u32 0) (.string ⟨#[]⟩) (.int .u32 0) (.int .i64 0) (.int .i64 0) (.slice none 0 0)
      exact bodyPost_ret (results_note Tryz.results26 _ _ W.heap.size _ _ _ _ rfl h7.1 Tryz.underlying67 rfl (noteSize _ rfl)) rfl ⟨gg, mm, HMM.out, by rw [show ok2 L = false from HK.out]; rfl, Nat.le_trans HBW.out.size HGG.out.2, HO7.out.kept fun ad e hn => (by cases e; exact h7.2.1 _ (by have := HGG.out.2; have := HWS.out; show gg ≠ _; omega)), h7.2.2 _ _ (HBW.out.trans (HD7.out.1.bel.mono HBW.out.size)) (Nat.le_refl _)⟩
  · cases FF
    · --A
      have c0 := HD7.out.cell 0 _ rfl
      have c1 := HD7.out.cell 1 _ rfl
      have c2 := HD7.out.cell 2 _ rfl
      have c3 := HD7.out.cell 3 _ rfl
      have c4 := HD7.out.cell 4 _ rfl
      have c5 := HD7.out.cell 5 _ rfl
      have c6 := HD7.out.cell 6 _ rfl
      go_wp2_with (go_at_call 47; refine (HF.out _ (HFit.out _ HD7.out.1.bel)).mono ?_; rintro x w5 ⟨rfl, hb5⟩; have HD5 := Lib.hid (HD7.out.below hb5); have HO5 := Lib.hid (HO7.out.below HO7.out.lt hb5); clear hb5 c0 c1 c2 c3 c4 c5 c6; have r0 := cell_at (HRC.out _ HD5.out.1.bel) 0 _ rfl; have s0 := frozen_of_row _ _ 0 _ _ (HRC.out _ HD5.out.1.bel); have r1 := cell_at (HRC.out _ HD5.out.1.bel) 1 _ rfl; have s1 := frozen_of_row _ _ 1 _ _ (HRC.out _ HD5.out.1.bel); have r2 := cell_at (HRC.out _ HD5.out.1.bel) 2 _ rfl; have s2 := frozen_of_row _ _ 2 _ _ (HRC.out _ HD5.out.1.bel); have r3 := cell_at (HRC.out _ HD5.out.1.bel) 3 _ rfl; have s3 := frozen_of_row _ _ 3 _ _ (HRC.out _ HD5.out.1.bel); have r4 := cell_at (HRC.out _ HD5.out.1.bel) 4 _ rfl; have s4 := frozen_of_row _ _ 4 _ _ (HRC.out _ HD5.out.1.bel); have r5 := cell_at (HRC.out _ HD5.out.1.bel) 5 _ rfl; have s5 := frozen_of_row _ _ 5 _ _ (HRC.out _ HD5.out.1.bel); have r6 := cell_at (HRC.out _ HD5.out.1.bel) 6 _ rfl; have s6 := frozen_of_row _ _ 6 _ _ (HRC.out _ HD5.out.1.bel))
      have h7 := seven (HRC.out _ HD5.out.1.bel) rfl (.int .i64 0) (.int .u32 0) (.string ⟨#[]⟩) (.int .u32 0) (.int .i64 0) (.int .i64 0) (.slice none 0 0)
      exact bodyPost_ret (results_note Tryz.results26 _ _ W.heap.size _ _ _ _ rfl h7.1 Tryz.underlying67 rfl (noteSize _ rfl)) rfl ⟨gg, mm, HMM.out, by rw [show ok2 L = false from HK.out]; rfl, Nat.le_trans HBW.out.size HGG.out.2, HO5.out.kept fun ad e hn => (by cases e; exact h7.2.1 _ (by have := HGG.out.2; have := HWS.out; show gg ≠ _; omega)), h7.2.2 _ _ (HBW.out.trans (HD5.out.1.bel.mono HBW.out.size)) (Nat.le_refl _)⟩
    · --B
      have c0 := HD7.out.cell 0 _ rfl
      have c1 := HD7.out.cell 1 _ rfl
      have c2 := HD7.out.cell 2 _ rfl
      have c3 := HD7.out.cell 3 _ rfl
      have c4 := HD7.out.cell 4 _ rfl
      have c5 := HD7.out.cell 5 _ rfl
      have c6 := HD7.out.cell 6 _ rfl
      go_wp2_with (go_at_call 47; refine (HF.out _ (HFit.out _ HD7.out.1.bel)).mono ?_; rintro x w5 ⟨rfl, hb5⟩; have HD5 := Lib.hid (HD7.out.below hb5); have HO5 := Lib.hid (HO7.out.below HO7.out.lt hb5); clear hb5 c0 c1 c2 c3 c4 c5 c6; have c0 := HD5.out.cell 0 _ rfl; have c1 := HD5.out.cell 1 _ rfl; have c2 := HD5.out.cell 2 _ rfl; have c3 := HD5.out.cell 3 _ rfl; have c4 := HD5.out.cell 4 _ rfl; have c5 := HD5.out.cell 5 _ rfl; have c6 := HD5.out.cell 6 _ rfl; have r0 := cell_at (HRC.out _ HD5.out.1.bel) 0 _ rfl; have s0 := frozen_of_row _ _ 0 _ _ (HRC.out _ HD5.out.1.bel); have r1 := cell_at (HRC.out _ HD5.out.1.bel) 1 _ rfl; have s1 := frozen_of_row _ _ 1 _ _ (HRC.out _ HD5.out.1.bel); have r2 := cell_at (HRC.out _ HD5.out.1.bel) 2 _ rfl; have s2 := frozen_of_row _ _ 2 _ _ (HRC.out _ HD5.out.1.bel); have r3 := cell_at (HRC.out _ HD5.out.1.bel) 3 _ rfl; have s3 := frozen_of_row _ _ 3 _ _ (HRC.out _ HD5.out.1.bel); have r4 := cell_at (HRC.out _ HD5.out.1.bel) 4 _ rfl; have s4 := frozen_of_row _ _ 4 _ _ (HRC.out _ HD5.out.1.bel); have r5 := cell_at (HRC.out _ HD5.out.1.bel) 5 _ rfl; have s5 := frozen_of_row _ _ 5 _ _ (HRC.out _ HD5.out.1.bel); have r6 := cell_at (HRC.out _ HD5.out.1.bel) 6 _ rfl; have s6 := frozen_of_row _ _ 6 _ _ (HRC.out _ HD5.out.1.bel))
      have h7 := seven (HRC.out _ HD5.out.1.bel) rfl (.int .i64 2) (.int .u32 ep) (.string tx) (.int .u32 ui) (.int .i64 da) (.int .i64 fl) (.slice (some ⟨gg, 0, none⟩) mm mm)
      exact bodyPost_ret (results_note Tryz.results26 _ _ W.heap.size _ _ _ _ rfl h7.1 Tryz.underlying67 rfl (noteSize _ rfl)) rfl ⟨gg, mm, HMM.out, by rw [show ok2 L = true from HK.out, Eui.out, Eda.out, Efl.out, Etx.out, Eep.out]; rfl, Nat.le_trans HBW.out.size HGG.out.2, HO5.out.kept fun ad e hn => (by cases e; exact h7.2.1 _ (by have := HGG.out.2; have := HWS.out; show gg ≠ _; omega)), h7.2.2 _ _ (HBW.out.trans (HD5.out.1.bel.mono HBW.out.size)) (Nat.le_refl _)⟩
end Go.Proofs.YtfmdhcjniikfdaaGreatDoor.bod
/- When a note is formed, as the document says. -/
namespace Go.Proofs.YtfmdhcjniikfdaaGreatDoor.bod
open Go.ChangeShapes Go.WideShapes Go.ChangeAt Go.RowKit
open Go.Proofs.YtfmdhcjniikfdaaGreatDoor.codec (Bytes)
set_option linter.unusedVariables false
set_option linter.unusedSimpArgs false
set_option maxRecDepth 100000

theorem rFits_any (w : World) (u : Nat) (d f : Int) (A : Option Addr) (n c : Nat) :
    Calls Tryz.prog 15 #[.agg #[.int .u32 u, .int .i64 d, .int .i64 f, .slice A n c]] w fun e w' => e = .returned (.bool (fitsB d f n)) ∧ Below w.heap.size w w' := by
  by_cases h0 : 0 ≤ d
  rotate_left
  · have hE : fitsB d f n = false := by unfold fitsB; simp; omega
    rw [hE]
    have g0 : decide ((0 : Int) ≤ d) = false := decide_eq_false (by omega)
    clear hE h0
    go_enter Tryz.func15, Tryz.ntmps15
    go_wp2
    go_ret
    exact ⟨rfl, (Below.refl _ _).alloc (Nat.le_refl _) _⟩
  by_cases h1 : d ≤ 253402300799
  rotate_left
  · have hE : fitsB d f n = false := by unfold fitsB; simp; omega
    rw [hE]
    have g0 : decide ((0 : Int) ≤ d) = true := decide_eq_true (by omega)
    have g1 : decide (d ≤ 253402300799) = false := decide_eq_false (by omega)
    clear hE h0 h1
    go_enter Tryz.func15, Tryz.ntmps15
    go_wp2
    go_ret
    exact ⟨rfl, (Below.refl _ _).alloc (Nat.le_refl _) _⟩
  by_cases h2 : 0 ≤ f
  rotate_left
  · have hE : fitsB d f n = false := by unfold fitsB; simp; omega
    rw [hE]
    have g0 : decide ((0 : Int) ≤ d) = true := decide_eq_true (by omega)
    have g1 : decide (d ≤ 253402300799) = true := decide_eq_true (by omega)
    have g2 : decide ((0 : Int) ≤ f) = false := decide_eq_false (by omega)
    clear hE h0 h1 h2
    go_enter Tryz.func15, Tryz.ntmps15
    go_wp2
    go_ret
    exact ⟨rfl, (Below.refl _ _).alloc (Nat.le_refl _) _⟩
  by_cases h3 : f < 32
  rotate_left
  · have hE : fitsB d f n = false := by unfold fitsB; simp; omega
    rw [hE]
    have g0 : decide ((0 : Int) ≤ d) = true := decide_eq_true (by omega)
    have g1 : decide (d ≤ 253402300799) = true := decide_eq_true (by omega)
    have g2 : decide ((0 : Int) ≤ f) = true := decide_eq_true (by omega)
    have g3 : decide (f < 32) = false := decide_eq_false (by omega)
    clear hE h0 h1 h2 h3
    go_enter Tryz.func15, Tryz.ntmps15
    go_wp2
    go_ret
    exact ⟨rfl, (Below.refl _ _).alloc (Nat.le_refl _) _⟩
  by_cases h4 : n ≤ 20000
  rotate_left
  · have hE : fitsB d f n = false := by unfold fitsB; simp; omega
    rw [hE]
    have g0 : decide ((0 : Int) ≤ d) = true := decide_eq_true (by omega)
    have g1 : decide (d ≤ 253402300799) = true := decide_eq_true (by omega)
    have g2 : decide ((0 : Int) ≤ f) = true := decide_eq_true (by omega)
    have g3 : decide (f < 32) = true := decide_eq_true (by omega)
    have g4 : decide ((n : Int) ≤ 20000) = false := decide_eq_false (by omega)
    clear hE h0 h1 h2 h3 h4
    go_enter Tryz.func15, Tryz.ntmps15
    go_wp2
    go_ret
    exact ⟨rfl, (Below.refl _ _).alloc (Nat.le_refl _) _⟩
  have hE : fitsB d f n = true := by unfold fitsB; simp; omega
  rw [hE]
  have g0 : decide ((0 : Int) ≤ d) = true := decide_eq_true (by omega)
  have g1 : decide (d ≤ 253402300799) = true := decide_eq_true (by omega)
  have g2 : decide ((0 : Int) ≤ f) = true := decide_eq_true (by omega)
  have g3 : decide (f < 32) = true := decide_eq_true (by omega)
  have g4 : decide ((n : Int) ≤ 20000) = true := decide_eq_true (by omega)
  clear hE h0 h1 h2 h3 h4
  go_enter Tryz.func15, Tryz.ntmps15
  go_wp2
  go_ret
  exact ⟨rfl, (Below.refl _ _).alloc (Nat.le_refl _) _⟩
theorem rFormed1d (w : World) (e u : Nat) (s : ByteArray) (d f : Int) (A : Option Addr) (n c : Nat) (hs : s.size ≤ 100000) (hd : (d == 0) = false) (hE : emptyB d f n = false) :
    Calls Tryz.prog 16 #[.agg #[.int .i64 1, .int .u32 e, .string s, .int .u32 u, .int .i64 d, .int .i64 f, .slice A n c]] w fun x w' => x = .returned (.bool (formedB 1 e s u d f n)) ∧ Below w.heap.size w w' := by
  rw [formed_one, hE]
  clear hE
  by_cases he : e = 0
  · subst he
    rw [decide_eq_false (by omega)]
    go_enter Tryz.func16, Tryz.ntmps16
    go_wp2_with (first
      | fail)
    go_ret
    exact ⟨rfl, (Below.refl _ _).alloc (Nat.le_refl _) _⟩
  · have he1 : decide (0 < e) = true := decide_eq_true (by omega)
    rw [decide_eq_true he]
    clear he
    have hN := fun w => rNamed_any w s hs
    generalize named s = M at *
    have HN := Lib.hid hN
    clear hN hs
    cases M
    · go_enter Tryz.func16, Tryz.ntmps16
      go_wp2_with (first
        | (go_at_call 14; refine (HN.out _).mono ?_; rintro x w1 ⟨rfl, hb⟩; have HB1 := Lib.hid (boxed hb); have h3 := cell_at HB1.out.1 3 _ rfl; have h4 := cell_at HB1.out.1 4 _ rfl; have h5 := cell_at HB1.out.1 5 _ rfl; have h6 := cell_at HB1.out.1 6 _ rfl; clear hb))
      go_ret
      exact ⟨rfl, HB1.out.2⟩
    · by_cases hu : u = 0
      · subst hu
        rw [decide_eq_true rfl]
        go_enter Tryz.func16, Tryz.ntmps16
        go_wp2_with (first
          | (go_at_call 14; refine (HN.out _).mono ?_; rintro x w1 ⟨rfl, hb⟩; have HB1 := Lib.hid (boxed hb); have h3 := cell_at HB1.out.1 3 _ rfl; have h4 := cell_at HB1.out.1 4 _ rfl; have h5 := cell_at HB1.out.1 5 _ rfl; have h6 := cell_at HB1.out.1 6 _ rfl; clear hb))
        go_ret
        exact ⟨rfl, HB1.out.2⟩
      · have hu1 : ((u : Int) == 0) = false := by rw [beq_eq_false_iff_ne]; omega
        rw [decide_eq_false hu]
        clear hu
        go_enter Tryz.func16, Tryz.ntmps16
        go_wp2_with (first
          | (go_at_call 14; refine (HN.out _).mono ?_; rintro x w1 ⟨rfl, hb⟩; have HB1 := Lib.hid (boxed hb); have h3 := cell_at HB1.out.1 3 _ rfl; have h4 := cell_at HB1.out.1 4 _ rfl; have h5 := cell_at HB1.out.1 5 _ rfl; have h6 := cell_at HB1.out.1 6 _ rfl; clear hb))
        go_ret
        exact ⟨rfl, HB1.out.2⟩
theorem rFormed1f (w : World) (e u : Nat) (s : ByteArray) (d f : Int) (A : Option Addr) (n c : Nat) (hs : s.size ≤ 100000) (hd : (d == 0) = true) (hf : (f == 0) = false) (hE : emptyB d f n = false) :
    Calls Tryz.prog 16 #[.agg #[.int .i64 1, .int .u32 e, .string s, .int .u32 u, .int .i64 d, .int .i64 f, .slice A n c]] w fun x w' => x = .returned (.bool (formedB 1 e s u d f n)) ∧ Below w.heap.size w w' := by
  rw [formed_one, hE]
  clear hE
  by_cases he : e = 0
  · subst he
    rw [decide_eq_false (by omega)]
    go_enter Tryz.func16, Tryz.ntmps16
    go_wp2_with (first
      | fail)
    go_ret
    exact ⟨rfl, (Below.refl _ _).alloc (Nat.le_refl _) _⟩
  · have he1 : decide (0 < e) = true := decide_eq_true (by omega)
    rw [decide_eq_true he]
    clear he
    have hN := fun w => rNamed_any w s hs
    generalize named s = M at *
    have HN := Lib.hid hN
    clear hN hs
    cases M
    · go_enter Tryz.func16, Tryz.ntmps16
      go_wp2_with (first
        | (go_at_call 14; refine (HN.out _).mono ?_; rintro x w1 ⟨rfl, hb⟩; have HB1 := Lib.hid (boxed hb); have h3 := cell_at HB1.out.1 3 _ rfl; have h4 := cell_at HB1.out.1 4 _ rfl; have h5 := cell_at HB1.out.1 5 _ rfl; have h6 := cell_at HB1.out.1 6 _ rfl; clear hb))
      go_ret
      exact ⟨rfl, HB1.out.2⟩
    · by_cases hu : u = 0
      · subst hu
        rw [decide_eq_true rfl]
        go_enter Tryz.func16, Tryz.ntmps16
        go_wp2_with (first
          | (go_at_call 14; refine (HN.out _).mono ?_; rintro x w1 ⟨rfl, hb⟩; have HB1 := Lib.hid (boxed hb); have h3 := cell_at HB1.out.1 3 _ rfl; have h4 := cell_at HB1.out.1 4 _ rfl; have h5 := cell_at HB1.out.1 5 _ rfl; have h6 := cell_at HB1.out.1 6 _ rfl; clear hb))
        go_ret
        exact ⟨rfl, HB1.out.2⟩
      · have hu1 : ((u : Int) == 0) = false := by rw [beq_eq_false_iff_ne]; omega
        rw [decide_eq_false hu]
        clear hu
        go_enter Tryz.func16, Tryz.ntmps16
        go_wp2_with (first
          | (go_at_call 14; refine (HN.out _).mono ?_; rintro x w1 ⟨rfl, hb⟩; have HB1 := Lib.hid (boxed hb); have h3 := cell_at HB1.out.1 3 _ rfl; have h4 := cell_at HB1.out.1 4 _ rfl; have h5 := cell_at HB1.out.1 5 _ rfl; have h6 := cell_at HB1.out.1 6 _ rfl; clear hb))
        go_ret
        exact ⟨rfl, HB1.out.2⟩
theorem rFormed1n (w : World) (e u : Nat) (s : ByteArray) (d f : Int) (A : Option Addr) (n c : Nat) (hs : s.size ≤ 100000) (hd : (d == 0) = true) (hf : (f == 0) = true) (hn : ((n : Int) == 0) = false) (hE : emptyB d f n = false) :
    Calls Tryz.prog 16 #[.agg #[.int .i64 1, .int .u32 e, .string s, .int .u32 u, .int .i64 d, .int .i64 f, .slice A n c]] w fun x w' => x = .returned (.bool (formedB 1 e s u d f n)) ∧ Below w.heap.size w w' := by
  rw [formed_one, hE]
  clear hE
  by_cases he : e = 0
  · subst he
    rw [decide_eq_false (by omega)]
    go_enter Tryz.func16, Tryz.ntmps16
    go_wp2_with (first
      | fail)
    go_ret
    exact ⟨rfl, (Below.refl _ _).alloc (Nat.le_refl _) _⟩
  · have he1 : decide (0 < e) = true := decide_eq_true (by omega)
    rw [decide_eq_true he]
    clear he
    have hN := fun w => rNamed_any w s hs
    generalize named s = M at *
    have HN := Lib.hid hN
    clear hN hs
    cases M
    · go_enter Tryz.func16, Tryz.ntmps16
      go_wp2_with (first
        | (go_at_call 14; refine (HN.out _).mono ?_; rintro x w1 ⟨rfl, hb⟩; have HB1 := Lib.hid (boxed hb); have h3 := cell_at HB1.out.1 3 _ rfl; have h4 := cell_at HB1.out.1 4 _ rfl; have h5 := cell_at HB1.out.1 5 _ rfl; have h6 := cell_at HB1.out.1 6 _ rfl; clear hb))
      go_ret
      exact ⟨rfl, HB1.out.2⟩
    · by_cases hu : u = 0
      · subst hu
        rw [decide_eq_true rfl]
        go_enter Tryz.func16, Tryz.ntmps16
        go_wp2_with (first
          | (go_at_call 14; refine (HN.out _).mono ?_; rintro x w1 ⟨rfl, hb⟩; have HB1 := Lib.hid (boxed hb); have h3 := cell_at HB1.out.1 3 _ rfl; have h4 := cell_at HB1.out.1 4 _ rfl; have h5 := cell_at HB1.out.1 5 _ rfl; have h6 := cell_at HB1.out.1 6 _ rfl; clear hb))
        go_ret
        exact ⟨rfl, HB1.out.2⟩
      · have hu1 : ((u : Int) == 0) = false := by rw [beq_eq_false_iff_ne]; omega
        rw [decide_eq_false hu]
        clear hu
        go_enter Tryz.func16, Tryz.ntmps16
        go_wp2_with (first
          | (go_at_call 14; refine (HN.out _).mono ?_; rintro x w1 ⟨rfl, hb⟩; have HB1 := Lib.hid (boxed hb); have h3 := cell_at HB1.out.1 3 _ rfl; have h4 := cell_at HB1.out.1 4 _ rfl; have h5 := cell_at HB1.out.1 5 _ rfl; have h6 := cell_at HB1.out.1 6 _ rfl; clear hb))
        go_ret
        exact ⟨rfl, HB1.out.2⟩
theorem rFormed1a (w : World) (e u : Nat) (s : ByteArray) (d f : Int) (A : Option Addr) (n c : Nat) (hs : s.size ≤ 100000) (hd : (d == 0) = true) (hf : (f == 0) = true) (hn : ((n : Int) == 0) = true) (hE : emptyB d f n = true) :
    Calls Tryz.prog 16 #[.agg #[.int .i64 1, .int .u32 e, .string s, .int .u32 u, .int .i64 d, .int .i64 f, .slice A n c]] w fun x w' => x = .returned (.bool (formedB 1 e s u d f n)) ∧ Below w.heap.size w w' := by
  rw [formed_one, hE]
  clear hE
  by_cases he : e = 0
  · subst he
    rw [decide_eq_false (by omega)]
    go_enter Tryz.func16, Tryz.ntmps16
    go_wp2_with (first
      | fail)
    go_ret
    exact ⟨rfl, (Below.refl _ _).alloc (Nat.le_refl _) _⟩
  · have he1 : decide (0 < e) = true := decide_eq_true (by omega)
    rw [decide_eq_true he]
    clear he
    have hN := fun w => rNamed_any w s hs
    generalize named s = M at *
    have HN := Lib.hid hN
    clear hN hs
    cases M
    · go_enter Tryz.func16, Tryz.ntmps16
      go_wp2_with (first
        | (go_at_call 14; refine (HN.out _).mono ?_; rintro x w1 ⟨rfl, hb⟩; have HB1 := Lib.hid (boxed hb); have h3 := cell_at HB1.out.1 3 _ rfl; have h4 := cell_at HB1.out.1 4 _ rfl; have h5 := cell_at HB1.out.1 5 _ rfl; have h6 := cell_at HB1.out.1 6 _ rfl; clear hb))
      go_ret
      exact ⟨rfl, HB1.out.2⟩
    · by_cases hu : u = 0
      · subst hu
        rw [decide_eq_true rfl]
        go_enter Tryz.func16, Tryz.ntmps16
        go_wp2_with (first
          | (go_at_call 14; refine (HN.out _).mono ?_; rintro x w1 ⟨rfl, hb⟩; have HB1 := Lib.hid (boxed hb); have h3 := cell_at HB1.out.1 3 _ rfl; have h4 := cell_at HB1.out.1 4 _ rfl; have h5 := cell_at HB1.out.1 5 _ rfl; have h6 := cell_at HB1.out.1 6 _ rfl; clear hb))
        go_ret
        exact ⟨rfl, HB1.out.2⟩
      · have hu1 : ((u : Int) == 0) = false := by rw [beq_eq_false_iff_ne]; omega
        rw [decide_eq_false hu]
        clear hu
        go_enter Tryz.func16, Tryz.ntmps16
        go_wp2_with (first
          | (go_at_call 14; refine (HN.out _).mono ?_; rintro x w1 ⟨rfl, hb⟩; have HB1 := Lib.hid (boxed hb); have h3 := cell_at HB1.out.1 3 _ rfl; have h4 := cell_at HB1.out.1 4 _ rfl; have h5 := cell_at HB1.out.1 5 _ rfl; have h6 := cell_at HB1.out.1 6 _ rfl; clear hb))
        go_ret
        exact ⟨rfl, HB1.out.2⟩
theorem rFormed2d (w : World) (e u : Nat) (s : ByteArray) (d f : Int) (A : Option Addr) (n c : Nat) (hs : s.size ≤ 100000) (hd : (d == 0) = false) (hE : emptyB d f n = false) :
    Calls Tryz.prog 16 #[.agg #[.int .i64 2, .int .u32 e, .string s, .int .u32 u, .int .i64 d, .int .i64 f, .slice A n c]] w fun x w' => x = .returned (.bool (formedB 2 e s u d f n)) ∧ Below w.heap.size w w' := by
  rw [formed_two]
  clear hE
  have hL := fun w => rFits_any w u d f A n c
  generalize fitsB d f n = E at *
  have HL := Lib.hid hL
  clear hL
  by_cases he : e = 0
  · subst he
    rw [decide_eq_false (by omega)]
    go_enter Tryz.func16, Tryz.ntmps16
    go_wp2_with (first
      | fail)
    go_ret
    exact ⟨rfl, (Below.refl _ _).alloc (Nat.le_refl _) _⟩
  · have he1 : decide (0 < e) = true := decide_eq_true (by omega)
    rw [decide_eq_true he]
    clear he
    have hN := fun w => rNamed_any w s hs
    generalize named s = M at *
    have HN := Lib.hid hN
    clear hN hs
    cases M
    · go_enter Tryz.func16, Tryz.ntmps16
      go_wp2_with (first
        | (go_at_call 14; refine (HN.out _).mono ?_; rintro x w1 ⟨rfl, hb⟩; have HB1 := Lib.hid (boxed hb); have h3 := cell_at HB1.out.1 3 _ rfl; have h4 := cell_at HB1.out.1 4 _ rfl; have h5 := cell_at HB1.out.1 5 _ rfl; have h6 := cell_at HB1.out.1 6 _ rfl; clear hb))
      go_ret
      exact ⟨rfl, HB1.out.2⟩
    · by_cases hu : u = 0
      · subst hu
        rw [decide_eq_false (by omega)]
        go_enter Tryz.func16, Tryz.ntmps16
        go_wp2_with (first
          | (go_at_call 14; refine (HN.out _).mono ?_; rintro x w1 ⟨rfl, hb⟩; have HB1 := Lib.hid (boxed hb); have h3 := cell_at HB1.out.1 3 _ rfl; have h4 := cell_at HB1.out.1 4 _ rfl; have h5 := cell_at HB1.out.1 5 _ rfl; have h6 := cell_at HB1.out.1 6 _ rfl; clear hb))
        go_ret
        exact ⟨rfl, HB1.out.2⟩
      · have hu1 : decide (0 < u) = true := decide_eq_true (by omega)
        rw [decide_eq_true hu]
        clear hu
        go_enter Tryz.func16, Tryz.ntmps16
        go_wp2_with (first
          | (go_at_call 14; refine (HN.out _).mono ?_; rintro x w1 ⟨rfl, hb⟩; have HB1 := Lib.hid (boxed hb); have h3 := cell_at HB1.out.1 3 _ rfl; have h4 := cell_at HB1.out.1 4 _ rfl; have h5 := cell_at HB1.out.1 5 _ rfl; have h6 := cell_at HB1.out.1 6 _ rfl; clear hb)
          | (go_at_call 15; refine (HL.out _).mono ?_; rintro x w2 ⟨rfl, hb2⟩; have HB2 := Lib.hid (HB1.out.2.trans (hb2.mono HB1.out.2.size)); clear hb2))
        go_ret
        exact ⟨rfl, HB2.out⟩
theorem rFormed2f (w : World) (e u : Nat) (s : ByteArray) (d f : Int) (A : Option Addr) (n c : Nat) (hs : s.size ≤ 100000) (hd : (d == 0) = true) (hf : (f == 0) = false) (hE : emptyB d f n = false) :
    Calls Tryz.prog 16 #[.agg #[.int .i64 2, .int .u32 e, .string s, .int .u32 u, .int .i64 d, .int .i64 f, .slice A n c]] w fun x w' => x = .returned (.bool (formedB 2 e s u d f n)) ∧ Below w.heap.size w w' := by
  rw [formed_two]
  clear hE
  have hL := fun w => rFits_any w u d f A n c
  generalize fitsB d f n = E at *
  have HL := Lib.hid hL
  clear hL
  by_cases he : e = 0
  · subst he
    rw [decide_eq_false (by omega)]
    go_enter Tryz.func16, Tryz.ntmps16
    go_wp2_with (first
      | fail)
    go_ret
    exact ⟨rfl, (Below.refl _ _).alloc (Nat.le_refl _) _⟩
  · have he1 : decide (0 < e) = true := decide_eq_true (by omega)
    rw [decide_eq_true he]
    clear he
    have hN := fun w => rNamed_any w s hs
    generalize named s = M at *
    have HN := Lib.hid hN
    clear hN hs
    cases M
    · go_enter Tryz.func16, Tryz.ntmps16
      go_wp2_with (first
        | (go_at_call 14; refine (HN.out _).mono ?_; rintro x w1 ⟨rfl, hb⟩; have HB1 := Lib.hid (boxed hb); have h3 := cell_at HB1.out.1 3 _ rfl; have h4 := cell_at HB1.out.1 4 _ rfl; have h5 := cell_at HB1.out.1 5 _ rfl; have h6 := cell_at HB1.out.1 6 _ rfl; clear hb))
      go_ret
      exact ⟨rfl, HB1.out.2⟩
    · by_cases hu : u = 0
      · subst hu
        rw [decide_eq_false (by omega)]
        go_enter Tryz.func16, Tryz.ntmps16
        go_wp2_with (first
          | (go_at_call 14; refine (HN.out _).mono ?_; rintro x w1 ⟨rfl, hb⟩; have HB1 := Lib.hid (boxed hb); have h3 := cell_at HB1.out.1 3 _ rfl; have h4 := cell_at HB1.out.1 4 _ rfl; have h5 := cell_at HB1.out.1 5 _ rfl; have h6 := cell_at HB1.out.1 6 _ rfl; clear hb))
        go_ret
        exact ⟨rfl, HB1.out.2⟩
      · have hu1 : decide (0 < u) = true := decide_eq_true (by omega)
        rw [decide_eq_true hu]
        clear hu
        go_enter Tryz.func16, Tryz.ntmps16
        go_wp2_with (first
          | (go_at_call 14; refine (HN.out _).mono ?_; rintro x w1 ⟨rfl, hb⟩; have HB1 := Lib.hid (boxed hb); have h3 := cell_at HB1.out.1 3 _ rfl; have h4 := cell_at HB1.out.1 4 _ rfl; have h5 := cell_at HB1.out.1 5 _ rfl; have h6 := cell_at HB1.out.1 6 _ rfl; clear hb)
          | (go_at_call 15; refine (HL.out _).mono ?_; rintro x w2 ⟨rfl, hb2⟩; have HB2 := Lib.hid (HB1.out.2.trans (hb2.mono HB1.out.2.size)); clear hb2))
        go_ret
        exact ⟨rfl, HB2.out⟩
theorem rFormed2n (w : World) (e u : Nat) (s : ByteArray) (d f : Int) (A : Option Addr) (n c : Nat) (hs : s.size ≤ 100000) (hd : (d == 0) = true) (hf : (f == 0) = true) (hn : ((n : Int) == 0) = false) (hE : emptyB d f n = false) :
    Calls Tryz.prog 16 #[.agg #[.int .i64 2, .int .u32 e, .string s, .int .u32 u, .int .i64 d, .int .i64 f, .slice A n c]] w fun x w' => x = .returned (.bool (formedB 2 e s u d f n)) ∧ Below w.heap.size w w' := by
  rw [formed_two]
  clear hE
  have hL := fun w => rFits_any w u d f A n c
  generalize fitsB d f n = E at *
  have HL := Lib.hid hL
  clear hL
  by_cases he : e = 0
  · subst he
    rw [decide_eq_false (by omega)]
    go_enter Tryz.func16, Tryz.ntmps16
    go_wp2_with (first
      | fail)
    go_ret
    exact ⟨rfl, (Below.refl _ _).alloc (Nat.le_refl _) _⟩
  · have he1 : decide (0 < e) = true := decide_eq_true (by omega)
    rw [decide_eq_true he]
    clear he
    have hN := fun w => rNamed_any w s hs
    generalize named s = M at *
    have HN := Lib.hid hN
    clear hN hs
    cases M
    · go_enter Tryz.func16, Tryz.ntmps16
      go_wp2_with (first
        | (go_at_call 14; refine (HN.out _).mono ?_; rintro x w1 ⟨rfl, hb⟩; have HB1 := Lib.hid (boxed hb); have h3 := cell_at HB1.out.1 3 _ rfl; have h4 := cell_at HB1.out.1 4 _ rfl; have h5 := cell_at HB1.out.1 5 _ rfl; have h6 := cell_at HB1.out.1 6 _ rfl; clear hb))
      go_ret
      exact ⟨rfl, HB1.out.2⟩
    · by_cases hu : u = 0
      · subst hu
        rw [decide_eq_false (by omega)]
        go_enter Tryz.func16, Tryz.ntmps16
        go_wp2_with (first
          | (go_at_call 14; refine (HN.out _).mono ?_; rintro x w1 ⟨rfl, hb⟩; have HB1 := Lib.hid (boxed hb); have h3 := cell_at HB1.out.1 3 _ rfl; have h4 := cell_at HB1.out.1 4 _ rfl; have h5 := cell_at HB1.out.1 5 _ rfl; have h6 := cell_at HB1.out.1 6 _ rfl; clear hb))
        go_ret
        exact ⟨rfl, HB1.out.2⟩
      · have hu1 : decide (0 < u) = true := decide_eq_true (by omega)
        rw [decide_eq_true hu]
        clear hu
        go_enter Tryz.func16, Tryz.ntmps16
        go_wp2_with (first
          | (go_at_call 14; refine (HN.out _).mono ?_; rintro x w1 ⟨rfl, hb⟩; have HB1 := Lib.hid (boxed hb); have h3 := cell_at HB1.out.1 3 _ rfl; have h4 := cell_at HB1.out.1 4 _ rfl; have h5 := cell_at HB1.out.1 5 _ rfl; have h6 := cell_at HB1.out.1 6 _ rfl; clear hb)
          | (go_at_call 15; refine (HL.out _).mono ?_; rintro x w2 ⟨rfl, hb2⟩; have HB2 := Lib.hid (HB1.out.2.trans (hb2.mono HB1.out.2.size)); clear hb2))
        go_ret
        exact ⟨rfl, HB2.out⟩
theorem rFormed2a (w : World) (e u : Nat) (s : ByteArray) (d f : Int) (A : Option Addr) (n c : Nat) (hs : s.size ≤ 100000) (hd : (d == 0) = true) (hf : (f == 0) = true) (hn : ((n : Int) == 0) = true) (hE : emptyB d f n = true) :
    Calls Tryz.prog 16 #[.agg #[.int .i64 2, .int .u32 e, .string s, .int .u32 u, .int .i64 d, .int .i64 f, .slice A n c]] w fun x w' => x = .returned (.bool (formedB 2 e s u d f n)) ∧ Below w.heap.size w w' := by
  rw [formed_two]
  clear hE
  have hL := fun w => rFits_any w u d f A n c
  generalize fitsB d f n = E at *
  have HL := Lib.hid hL
  clear hL
  by_cases he : e = 0
  · subst he
    rw [decide_eq_false (by omega)]
    go_enter Tryz.func16, Tryz.ntmps16
    go_wp2_with (first
      | fail)
    go_ret
    exact ⟨rfl, (Below.refl _ _).alloc (Nat.le_refl _) _⟩
  · have he1 : decide (0 < e) = true := decide_eq_true (by omega)
    rw [decide_eq_true he]
    clear he
    have hN := fun w => rNamed_any w s hs
    generalize named s = M at *
    have HN := Lib.hid hN
    clear hN hs
    cases M
    · go_enter Tryz.func16, Tryz.ntmps16
      go_wp2_with (first
        | (go_at_call 14; refine (HN.out _).mono ?_; rintro x w1 ⟨rfl, hb⟩; have HB1 := Lib.hid (boxed hb); have h3 := cell_at HB1.out.1 3 _ rfl; have h4 := cell_at HB1.out.1 4 _ rfl; have h5 := cell_at HB1.out.1 5 _ rfl; have h6 := cell_at HB1.out.1 6 _ rfl; clear hb))
      go_ret
      exact ⟨rfl, HB1.out.2⟩
    · by_cases hu : u = 0
      · subst hu
        rw [decide_eq_false (by omega)]
        go_enter Tryz.func16, Tryz.ntmps16
        go_wp2_with (first
          | (go_at_call 14; refine (HN.out _).mono ?_; rintro x w1 ⟨rfl, hb⟩; have HB1 := Lib.hid (boxed hb); have h3 := cell_at HB1.out.1 3 _ rfl; have h4 := cell_at HB1.out.1 4 _ rfl; have h5 := cell_at HB1.out.1 5 _ rfl; have h6 := cell_at HB1.out.1 6 _ rfl; clear hb))
        go_ret
        exact ⟨rfl, HB1.out.2⟩
      · have hu1 : decide (0 < u) = true := decide_eq_true (by omega)
        rw [decide_eq_true hu]
        clear hu
        go_enter Tryz.func16, Tryz.ntmps16
        go_wp2_with (first
          | (go_at_call 14; refine (HN.out _).mono ?_; rintro x w1 ⟨rfl, hb⟩; have HB1 := Lib.hid (boxed hb); have h3 := cell_at HB1.out.1 3 _ rfl; have h4 := cell_at HB1.out.1 4 _ rfl; have h5 := cell_at HB1.out.1 5 _ rfl; have h6 := cell_at HB1.out.1 6 _ rfl; clear hb)
          | (go_at_call 15; refine (HL.out _).mono ?_; rintro x w2 ⟨rfl, hb2⟩; have HB2 := Lib.hid (HB1.out.2.trans (hb2.mono HB1.out.2.size)); clear hb2))
        go_ret
        exact ⟨rfl, HB2.out⟩
theorem rFormed3d (w : World) (e u : Nat) (s : ByteArray) (d f : Int) (A : Option Addr) (n c : Nat) (hs : s.size ≤ 100000) (hd : (d == 0) = false) (hE : emptyB d f n = false) :
    Calls Tryz.prog 16 #[.agg #[.int .i64 3, .int .u32 e, .string s, .int .u32 u, .int .i64 d, .int .i64 f, .slice A n c]] w fun x w' => x = .returned (.bool (formedB 3 e s u d f n)) ∧ Below w.heap.size w w' := by
  rw [formed_three, hE]
  clear hE
  by_cases he : e = 0
  · subst he
    rw [decide_eq_false (by omega)]
    go_enter Tryz.func16, Tryz.ntmps16
    go_wp2_with (first
      | fail)
    go_ret
    exact ⟨rfl, (Below.refl _ _).alloc (Nat.le_refl _) _⟩
  · have he1 : decide (0 < e) = true := decide_eq_true (by omega)
    rw [decide_eq_true he]
    clear he
    by_cases hz : s.size = 0
    · have hs1 : s.toList.isEmpty = true := by
        have : s.data = #[] := Array.eq_empty_of_size_eq_zero hz
        simp [ByteArray.toList_eq, this]
      rw [decide_eq_true hz]
      clear hz hs
      by_cases hu : u = 0
      · subst hu
        rw [decide_eq_false (by omega)]
        go_enter Tryz.func16, Tryz.ntmps16
        go_wp2_with (first
          | fail)
        go_ret
        exact ⟨rfl, (Below.refl _ _).alloc (Nat.le_refl _) _⟩
      · have hu1 : decide (0 < u) = true := decide_eq_true (by omega)
        rw [decide_eq_true hu]
        clear hu
        go_enter Tryz.func16, Tryz.ntmps16
        go_wp2_with (first
          | fail)
        go_ret
        exact ⟨rfl, (Below.refl _ _).alloc (Nat.le_refl _) _⟩
    · have hs1 : s.toList.isEmpty = false := by
        rw [Bool.eq_false_iff]
        intro h
        rw [ByteArray.toList_eq] at h
        have h' : s.data = #[] := by simpa using h
        exact hz (by show s.data.size = 0; rw [h']; rfl)
      rw [decide_eq_false hz]
      clear hz hs
      go_enter Tryz.func16, Tryz.ntmps16
      go_wp2_with (first
        | fail)
      go_ret
      exact ⟨rfl, (Below.refl _ _).alloc (Nat.le_refl _) _⟩
theorem rFormed3f (w : World) (e u : Nat) (s : ByteArray) (d f : Int) (A : Option Addr) (n c : Nat) (hs : s.size ≤ 100000) (hd : (d == 0) = true) (hf : (f == 0) = false) (hE : emptyB d f n = false) :
    Calls Tryz.prog 16 #[.agg #[.int .i64 3, .int .u32 e, .string s, .int .u32 u, .int .i64 d, .int .i64 f, .slice A n c]] w fun x w' => x = .returned (.bool (formedB 3 e s u d f n)) ∧ Below w.heap.size w w' := by
  rw [formed_three, hE]
  clear hE
  by_cases he : e = 0
  · subst he
    rw [decide_eq_false (by omega)]
    go_enter Tryz.func16, Tryz.ntmps16
    go_wp2_with (first
      | fail)
    go_ret
    exact ⟨rfl, (Below.refl _ _).alloc (Nat.le_refl _) _⟩
  · have he1 : decide (0 < e) = true := decide_eq_true (by omega)
    rw [decide_eq_true he]
    clear he
    by_cases hz : s.size = 0
    · have hs1 : s.toList.isEmpty = true := by
        have : s.data = #[] := Array.eq_empty_of_size_eq_zero hz
        simp [ByteArray.toList_eq, this]
      rw [decide_eq_true hz]
      clear hz hs
      by_cases hu : u = 0
      · subst hu
        rw [decide_eq_false (by omega)]
        go_enter Tryz.func16, Tryz.ntmps16
        go_wp2_with (first
          | fail)
        go_ret
        exact ⟨rfl, (Below.refl _ _).alloc (Nat.le_refl _) _⟩
      · have hu1 : decide (0 < u) = true := decide_eq_true (by omega)
        rw [decide_eq_true hu]
        clear hu
        go_enter Tryz.func16, Tryz.ntmps16
        go_wp2_with (first
          | fail)
        go_ret
        exact ⟨rfl, (Below.refl _ _).alloc (Nat.le_refl _) _⟩
    · have hs1 : s.toList.isEmpty = false := by
        rw [Bool.eq_false_iff]
        intro h
        rw [ByteArray.toList_eq] at h
        have h' : s.data = #[] := by simpa using h
        exact hz (by show s.data.size = 0; rw [h']; rfl)
      rw [decide_eq_false hz]
      clear hz hs
      go_enter Tryz.func16, Tryz.ntmps16
      go_wp2_with (first
        | fail)
      go_ret
      exact ⟨rfl, (Below.refl _ _).alloc (Nat.le_refl _) _⟩
theorem rFormed3n (w : World) (e u : Nat) (s : ByteArray) (d f : Int) (A : Option Addr) (n c : Nat) (hs : s.size ≤ 100000) (hd : (d == 0) = true) (hf : (f == 0) = true) (hn : ((n : Int) == 0) = false) (hE : emptyB d f n = false) :
    Calls Tryz.prog 16 #[.agg #[.int .i64 3, .int .u32 e, .string s, .int .u32 u, .int .i64 d, .int .i64 f, .slice A n c]] w fun x w' => x = .returned (.bool (formedB 3 e s u d f n)) ∧ Below w.heap.size w w' := by
  rw [formed_three, hE]
  clear hE
  by_cases he : e = 0
  · subst he
    rw [decide_eq_false (by omega)]
    go_enter Tryz.func16, Tryz.ntmps16
    go_wp2_with (first
      | fail)
    go_ret
    exact ⟨rfl, (Below.refl _ _).alloc (Nat.le_refl _) _⟩
  · have he1 : decide (0 < e) = true := decide_eq_true (by omega)
    rw [decide_eq_true he]
    clear he
    by_cases hz : s.size = 0
    · have hs1 : s.toList.isEmpty = true := by
        have : s.data = #[] := Array.eq_empty_of_size_eq_zero hz
        simp [ByteArray.toList_eq, this]
      rw [decide_eq_true hz]
      clear hz hs
      by_cases hu : u = 0
      · subst hu
        rw [decide_eq_false (by omega)]
        go_enter Tryz.func16, Tryz.ntmps16
        go_wp2_with (first
          | fail)
        go_ret
        exact ⟨rfl, (Below.refl _ _).alloc (Nat.le_refl _) _⟩
      · have hu1 : decide (0 < u) = true := decide_eq_true (by omega)
        rw [decide_eq_true hu]
        clear hu
        go_enter Tryz.func16, Tryz.ntmps16
        go_wp2_with (first
          | fail)
        go_ret
        exact ⟨rfl, (Below.refl _ _).alloc (Nat.le_refl _) _⟩
    · have hs1 : s.toList.isEmpty = false := by
        rw [Bool.eq_false_iff]
        intro h
        rw [ByteArray.toList_eq] at h
        have h' : s.data = #[] := by simpa using h
        exact hz (by show s.data.size = 0; rw [h']; rfl)
      rw [decide_eq_false hz]
      clear hz hs
      go_enter Tryz.func16, Tryz.ntmps16
      go_wp2_with (first
        | fail)
      go_ret
      exact ⟨rfl, (Below.refl _ _).alloc (Nat.le_refl _) _⟩
theorem rFormed3a (w : World) (e u : Nat) (s : ByteArray) (d f : Int) (A : Option Addr) (n c : Nat) (hs : s.size ≤ 100000) (hd : (d == 0) = true) (hf : (f == 0) = true) (hn : ((n : Int) == 0) = true) (hE : emptyB d f n = true) :
    Calls Tryz.prog 16 #[.agg #[.int .i64 3, .int .u32 e, .string s, .int .u32 u, .int .i64 d, .int .i64 f, .slice A n c]] w fun x w' => x = .returned (.bool (formedB 3 e s u d f n)) ∧ Below w.heap.size w w' := by
  rw [formed_three, hE]
  clear hE
  by_cases he : e = 0
  · subst he
    rw [decide_eq_false (by omega)]
    go_enter Tryz.func16, Tryz.ntmps16
    go_wp2_with (first
      | fail)
    go_ret
    exact ⟨rfl, (Below.refl _ _).alloc (Nat.le_refl _) _⟩
  · have he1 : decide (0 < e) = true := decide_eq_true (by omega)
    rw [decide_eq_true he]
    clear he
    by_cases hz : s.size = 0
    · have hs1 : s.toList.isEmpty = true := by
        have : s.data = #[] := Array.eq_empty_of_size_eq_zero hz
        simp [ByteArray.toList_eq, this]
      rw [decide_eq_true hz]
      clear hz hs
      by_cases hu : u = 0
      · subst hu
        rw [decide_eq_false (by omega)]
        go_enter Tryz.func16, Tryz.ntmps16
        go_wp2_with (first
          | fail)
        go_ret
        exact ⟨rfl, (Below.refl _ _).alloc (Nat.le_refl _) _⟩
      · have hu1 : decide (0 < u) = true := decide_eq_true (by omega)
        rw [decide_eq_true hu]
        clear hu
        go_enter Tryz.func16, Tryz.ntmps16
        go_wp2_with (first
          | fail)
        go_ret
        exact ⟨rfl, (Below.refl _ _).alloc (Nat.le_refl _) _⟩
    · have hs1 : s.toList.isEmpty = false := by
        rw [Bool.eq_false_iff]
        intro h
        rw [ByteArray.toList_eq] at h
        have h' : s.data = #[] := by simpa using h
        exact hz (by show s.data.size = 0; rw [h']; rfl)
      rw [decide_eq_false hz]
      clear hz hs
      go_enter Tryz.func16, Tryz.ntmps16
      go_wp2_with (first
        | fail)
      go_ret
      exact ⟨rfl, (Below.refl _ _).alloc (Nat.le_refl _) _⟩
theorem rFormed0d (w : World) (k : Int) (e u : Nat) (s : ByteArray) (d f : Int) (A : Option Addr) (n c : Nat) (hd : (d == 0) = false) (h1 : k ≠ 1) (h2 : k ≠ 2) (h3 : k ≠ 3) :
    Calls Tryz.prog 16 #[.agg #[.int .i64 k, .int .u32 e, .string s, .int .u32 u, .int .i64 d, .int .i64 f, .slice A n c]] w fun x w' => x = .returned (.bool (formedB k e s u d f n)) ∧ Below w.heap.size w w' := by
  rw [formed_other h1 h2 h3]
  have e1 : (k == 1) = false := by rw [beq_eq_false_iff_ne]; exact h1
  have e2 : (k == 2) = false := by rw [beq_eq_false_iff_ne]; exact h2
  have e3 : (k == 3) = false := by rw [beq_eq_false_iff_ne]; exact h3
  clear h1 h2 h3
  go_enter Tryz.func16, Tryz.ntmps16
  go_wp2_with (first
    | fail)
  go_ret
  exact ⟨rfl, (Below.refl _ _).alloc (Nat.le_refl _) _⟩
theorem rFormed0f (w : World) (k : Int) (e u : Nat) (s : ByteArray) (d f : Int) (A : Option Addr) (n c : Nat) (hd : (d == 0) = true) (hf : (f == 0) = false) (h1 : k ≠ 1) (h2 : k ≠ 2) (h3 : k ≠ 3) :
    Calls Tryz.prog 16 #[.agg #[.int .i64 k, .int .u32 e, .string s, .int .u32 u, .int .i64 d, .int .i64 f, .slice A n c]] w fun x w' => x = .returned (.bool (formedB k e s u d f n)) ∧ Below w.heap.size w w' := by
  rw [formed_other h1 h2 h3]
  have e1 : (k == 1) = false := by rw [beq_eq_false_iff_ne]; exact h1
  have e2 : (k == 2) = false := by rw [beq_eq_false_iff_ne]; exact h2
  have e3 : (k == 3) = false := by rw [beq_eq_false_iff_ne]; exact h3
  clear h1 h2 h3
  go_enter Tryz.func16, Tryz.ntmps16
  go_wp2_with (first
    | fail)
  go_ret
  exact ⟨rfl, (Below.refl _ _).alloc (Nat.le_refl _) _⟩
theorem rFormed0n (w : World) (k : Int) (e u : Nat) (s : ByteArray) (d f : Int) (A : Option Addr) (n c : Nat) (hd : (d == 0) = true) (hf : (f == 0) = true) (hn : ((n : Int) == 0) = false) (h1 : k ≠ 1) (h2 : k ≠ 2) (h3 : k ≠ 3) :
    Calls Tryz.prog 16 #[.agg #[.int .i64 k, .int .u32 e, .string s, .int .u32 u, .int .i64 d, .int .i64 f, .slice A n c]] w fun x w' => x = .returned (.bool (formedB k e s u d f n)) ∧ Below w.heap.size w w' := by
  rw [formed_other h1 h2 h3]
  have e1 : (k == 1) = false := by rw [beq_eq_false_iff_ne]; exact h1
  have e2 : (k == 2) = false := by rw [beq_eq_false_iff_ne]; exact h2
  have e3 : (k == 3) = false := by rw [beq_eq_false_iff_ne]; exact h3
  clear h1 h2 h3
  go_enter Tryz.func16, Tryz.ntmps16
  go_wp2_with (first
    | fail)
  go_ret
  exact ⟨rfl, (Below.refl _ _).alloc (Nat.le_refl _) _⟩
theorem rFormed0a (w : World) (k : Int) (e u : Nat) (s : ByteArray) (d f : Int) (A : Option Addr) (n c : Nat) (hd : (d == 0) = true) (hf : (f == 0) = true) (hn : ((n : Int) == 0) = true) (h1 : k ≠ 1) (h2 : k ≠ 2) (h3 : k ≠ 3) :
    Calls Tryz.prog 16 #[.agg #[.int .i64 k, .int .u32 e, .string s, .int .u32 u, .int .i64 d, .int .i64 f, .slice A n c]] w fun x w' => x = .returned (.bool (formedB k e s u d f n)) ∧ Below w.heap.size w w' := by
  rw [formed_other h1 h2 h3]
  have e1 : (k == 1) = false := by rw [beq_eq_false_iff_ne]; exact h1
  have e2 : (k == 2) = false := by rw [beq_eq_false_iff_ne]; exact h2
  have e3 : (k == 3) = false := by rw [beq_eq_false_iff_ne]; exact h3
  clear h1 h2 h3
  go_enter Tryz.func16, Tryz.ntmps16
  go_wp2_with (first
    | fail)
  go_ret
  exact ⟨rfl, (Below.refl _ _).alloc (Nat.le_refl _) _⟩
theorem rFormed_any (w : World) (k : Int) (e u : Nat) (s : ByteArray) (d f : Int) (A : Option Addr) (n c : Nat) (hs : s.size ≤ 100000) :
    Calls Tryz.prog 16 #[.agg #[.int .i64 k, .int .u32 e, .string s, .int .u32 u, .int .i64 d, .int .i64 f, .slice A n c]] w fun x w' => x = .returned (.bool (formedB k e s u d f n)) ∧ Below w.heap.size w w' := by
  have hz : ∀ x : Int, x ≠ 0 → (x == 0) = false := fun x h => by rw [beq_eq_false_iff_ne]; exact h
  by_cases h1 : d = 0
  · have d1 : (d == 0) = true := by rw [beq_iff_eq]; exact h1
    by_cases h2 : f = 0
    · have d2 : (f == 0) = true := by rw [beq_iff_eq]; exact h2
      by_cases h3 : n = 0
      · have d3 : ((n : Int) == 0) = true := by rw [beq_iff_eq]; omega
        have hE : emptyB d f n = true := by simp [emptyB, h1, h2, h3]
        by_cases k1 : k = 1
        · subst k1; exact rFormed1a w e u s d f A _ c hs d1 d2 d3 hE
        · by_cases k2 : k = 2
          · subst k2; exact rFormed2a w e u s d f A _ c hs d1 d2 d3 hE
          · by_cases k3 : k = 3
            · subst k3; exact rFormed3a w e u s d f A _ c hs d1 d2 d3 hE
            · exact rFormed0a w k e u s d f A _ c d1 d2 d3 k1 k2 k3
      · have d3 := hz (n : Int) (by omega)
        have hE : emptyB d f n = false := by simp [emptyB, h1, h2, h3]
        by_cases k1 : k = 1
        · subst k1; exact rFormed1n w e u s d f A _ c hs d1 d2 d3 hE
        · by_cases k2 : k = 2
          · subst k2; exact rFormed2n w e u s d f A _ c hs d1 d2 d3 hE
          · by_cases k3 : k = 3
            · subst k3; exact rFormed3n w e u s d f A _ c hs d1 d2 d3 hE
            · exact rFormed0n w k e u s d f A _ c d1 d2 d3 k1 k2 k3
    · have d2 := hz f h2
      have hE : emptyB d f n = false := by simp [emptyB, h1, h2]
      by_cases k1 : k = 1
      · subst k1; exact rFormed1f w e u s d f A _ c hs d1 d2 hE
      · by_cases k2 : k = 2
        · subst k2; exact rFormed2f w e u s d f A _ c hs d1 d2 hE
        · by_cases k3 : k = 3
          · subst k3; exact rFormed3f w e u s d f A _ c hs d1 d2 hE
          · exact rFormed0f w k e u s d f A _ c d1 d2 k1 k2 k3
  · have d1 := hz d h1
    have hE : emptyB d f n = false := by simp [emptyB, h1]
    by_cases k1 : k = 1
    · subst k1; exact rFormed1d w e u s d f A _ c hs d1 hE
    · by_cases k2 : k = 2
      · subst k2; exact rFormed2d w e u s d f A _ c hs d1 hE
      · by_cases k3 : k = 3
        · subst k3; exact rFormed3d w e u s d f A _ c hs d1 hE
        · exact rFormed0d w k e u s d f A _ c d1 k1 k2 k3
end Go.Proofs.YtfmdhcjniikfdaaGreatDoor.bod
