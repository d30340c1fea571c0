/- Texts as bytes; what a program that does nothing answers wrongly; what nil answers. -/
import Derived.Test.YtcmgekimogecaaaC
import Derived.Laws.BytesArg
import Derived.Shelf.Bytes.SlSmallAll
import Derived.Lib.ConvBytes
namespace Go.Proofs.Ytcmgekimogecaaa.codec
open Go.ChangeShapes Go.WideShapes Go.ChangeAt Go.RowKit
set_option linter.unusedVariables false
set_option linter.unusedSimpArgs false

def strOf (l : List Nat) : ByteArray := ⟨(l.map UInt8.ofNat).toArray⟩
theorem strOfNums_nat (l : List Nat) : strOfNums (l.map Int.ofNat) = strOf l := by
  simp only [strOfNums, strOf, List.map_map]
  rfl
theorem strOf_size (a : List Nat) : (strOf a).size = a.length := by simp [strOf, ByteArray.size]
/-- Bytes as a text. -/
theorem Bytes.text {w : World} {A : Option Addr} {n : Nat} {l : List Nat} (h : Bytes w A n l) (c : Nat) : (convert 28 9 (.slice A n c)).run Try.prog w = .ok (.string (strOf l)) w := by
  rcases Nat.eq_zero_or_pos n with h0 | h0
  · subst h0
    obtain rfl : l = [] := List.eq_nil_of_length_eq_zero h.1
    rw [run_convert_bytes_zero w 28 5 Try.underlying28 Try.underlying5 A c 9 Try.underlying9]
    rfl
  · obtain ⟨b, o, rfl, hc⟩ := h.2.2 h0
    have hl := h.1
    rw [run_convert_bytes_arg (P := Try.prog) w 28 5 Try.underlying28 Try.underlying5 b o n c (l.map Int.ofNat) (by simpa using hl) (fun i hi => by
      rw [hc i hi]
      have hi' : i < l.length := by omega
      simp [List.getD, hi']) 9 Try.underlying9, strOfNums_nat]
theorem strOf_inj {a b : List Nat} (ha : ∀ x ∈ a, x < 256) (hb : ∀ x ∈ b, x < 256) (h : strOf a = strOf b) : a = b := by
  unfold strOf at h
  have h1 : a.map UInt8.ofNat = b.map UInt8.ofNat := by
    have := congrArg ByteArray.data h
    simpa using this
  have h2 := congrArg (List.map UInt8.toNat) h1
  simp only [List.map_map] at h2
  have e : ∀ l : List Nat, (∀ x ∈ l, x < 256) → l.map (UInt8.toNat ∘ UInt8.ofNat) = l := by
    intro l hl
    calc l.map (UInt8.toNat ∘ UInt8.ofNat) = l.map id := List.map_congr_left (fun x hx => by simp [Nat.mod_eq_of_lt (hl x hx)])
      _ = l := by simp
  rwa [e a ha, e b hb] at h2
theorem Made.bytes {w w' : World} {l : List Nat} {v : Value} (h : Made w l v w') : ∃ g, v = .slice (some ⟨g, 0, none⟩) l.length l.length ∧ w.heap.size ≤ g ∧ Below w.heap.size w w' ∧ Bytes w' (some ⟨g, 0, none⟩) l.length l := by
  obtain ⟨g, rfl, h1, h2, h3, h4⟩ := h
  refine ⟨g, rfl, h1, h2, rfl, h4, fun _ => ⟨g, 0, rfl, fun i hi => ?_⟩⟩
  simp [World.cell?, h3, vals, List.getD, hi]
theorem outN_good (w : World) (p : Nat) (l F : List Nat) (v n : Int) (h : OutIs w p l F) (hl : l.length ≤ 9000000) (hf : Fits v n) :
    Calls Try.prog 8 #[.pointer (some ⟨p, 0, none⟩), .int .i64 v, .int .i64 n] w fun e w' => e = .returned (.tuple #[]) ∧ More w p (l ++ bytesOf v.toNat n.toNat) F w' := by
  obtain ⟨h1, h7, h0, hv⟩ := hf
  obtain ⟨m, rfl⟩ := Int.eq_ofNat_of_zero_le (show 0 ≤ n by omega)
  obtain ⟨u, rfl⟩ := Int.eq_ofNat_of_zero_le h0
  exact outN_fits w p u m l F h hl (by omega) (by omega) (by
    have : ((u : Nat) : Int) < ((256 ^ m : Nat) : Int) := by simpa using hv
    exact_mod_cast this)
theorem fresh_new (w : World) : OutIs (w.alloc (.cells #[.pointer none, .int .i64 0, .bool false] 27)) w.heap.size [] [w.heap.size] := .inl ⟨heap_alloc_new w _, rfl, rfl⟩

set_option maxHeartbeats 400000 in
theorem awake_any (w : World) : Calls Try.prog 6 #[] w fun e w' => e = .returned (.bool true) ∧ Below w.heap.size w w' := by
  have HF := Lib.hid (fresh_new w)
  go_enter Try.func6, Try.ntmps6
  go_wp2_with fail
  refine (outN_good _ w.heap.size [] _ 258 3 HF.out (by simp) ⟨by decide, by decide, by decide, by decide⟩).mono ?_
  rintro e w1 ⟨rfl, F', hO, hT, _⟩
  have eL : [] ++ bytesOf (258 : Int).toNat (3 : Int).toNat = [0, 1, 2] := by decide
  rw [eL] at hO
  have HO := Lib.hid hO
  have hb1 : Below w.heap.size w w1 := ((Below.refl w.heap.size w).alloc (Nat.le_refl _) _).trans (hT.toBelow _ (by simp) (fun i hi => by simp; omega))
  clear hO hT eL
  go_wp2_with fail
  refine (end_good _ _ _ _ HO.out (by decide)).mono ?_
  rintro e w2 ⟨v, rfl, hM⟩
  obtain ⟨g, rfl, hg, hb2, hB⟩ := hM.bytes
  have hcv := hB.text 3
  have hb : Below w.heap.size w w2 := hb1.trans (hb2.mono hb1.size)
  have e0 : strOf [0, 1, 2] = ⟨#[0, 1, 2]⟩ := by decide
  rw [e0] at hcv
  have HB := Lib.hid hb
  clear hM hB hb2 hb1 hb e0
  simp only [List.length_cons, List.length_nil, Nat.zero_add, Nat.reduceAdd] at hcv ⊢
  go_wp2
  go_ret
  exact ⟨rfl, HB.out⟩

theorem text_nil (w : World) (s : ByteArray) : Calls Try.prog 10 #[.pointer none, .string s] w fun e w' => e = .returned (.tuple #[]) ∧ w = w' := by
  go_enter Try.func10, Try.ntmps10
  go_wp2_with (first | (go_at_call 8; refine (outN_nil _ _ _).mono ?_; rintro e w1 ⟨rfl, rfl⟩) | (go_at_call 22; refine (takes_nil _ _).mono ?_; rintro e w1 ⟨rfl, rfl⟩))
  go_end0
  exact ⟨rfl, rfl⟩
theorem next_nil (w : World) (n : Int) (b : Bool) : Calls Try.prog 27 #[.pointer none, .int .i64 n, .bool b] w fun e w' => e = .returned (.slice none 0 0) ∧ w = w' := by
  go_enter Try.func27, Try.ntmps27
  go_wp2
  go_ret
  exact ⟨rfl, rfl⟩
theorem inN_nil (w : World) (n : Int) : Calls Try.prog 15 #[.pointer none, .int .i64 n] w fun e w' => e = .returned (.int .i64 0) ∧ w = w' := by
  go_enter Try.func15, Try.ntmps15
  go_wp2_with (first | (go_at_call 23; refine (isSize_any _ _).mono ?_; rintro e w1 ⟨rfl, rfl⟩) | (go_at_call 27; refine (next_nil _ _ _).mono ?_; rintro e w1 ⟨rfl, rfl⟩))
  go_loopw [5, 14] (fun v i wr => v = .int .i64 0 ∧ i = .int .i64 0 ∧ wr = w) (fun _ _ _ => 0)
  case atStart => exact ⟨rfl, rfl, rfl⟩
  case round =>
    obtain ⟨rfl, rfl, rfl⟩ := hrel
    go_wp2
    go_ret
    exact ⟨rfl, rfl⟩
theorem inText_nil (w : World) : Calls Try.prog 16 #[.pointer none] w fun e w' => e = .returned (.string ⟨#[]⟩) ∧ w = w' := by
  have hcv : (convert 28 9 (.slice none 0 0)).run Try.prog w = .ok (.string ⟨#[]⟩) w := (show Bytes w none 0 [] from ⟨rfl, by simp, fun h => absurd h (by omega)⟩).text 0
  go_enter Try.func16, Try.ntmps16
  go_wp2_with (first | (go_at_call 15; refine (inN_nil _ _).mono ?_; rintro e w1 ⟨rfl, rfl⟩) | (go_at_call 27; refine (next_nil _ _ _).mono ?_; rintro e w1 ⟨rfl, rfl⟩))
  go_ret
  exact ⟨rfl, rfl⟩
theorem inRaw_nil (w : World) (n : Int) : Calls Try.prog 17 #[.pointer none, .int .i64 n] w fun e w' => e = .returned (.slice (some ⟨w.heap.size, 0, none⟩) 0 0) ∧ w' = w.alloc (.cells (vals []).toArray 5) := by
  go_enter Try.func17, Try.ntmps17
  go_wp2_with (first | (go_at_call 25; refine (copied_any _ none 0 0 [] ⟨rfl, by simp, fun h => absurd h (by omega)⟩ (by omega)).mono ?_; rintro e w1 ⟨rfl, rfl⟩) | (go_at_call 27; refine (next_nil _ _ _).mono ?_; rintro e w1 ⟨rfl, rfl⟩))
  go_ret
  exact ⟨rfl, rfl⟩
theorem left_nil (w : World) : Calls Try.prog 21 #[.pointer none] w fun e w' => e = .returned (.int .i64 0) ∧ w = w' := by
  go_enter Try.func21, Try.ntmps21
  go_wp2
  go_ret
  exact ⟨rfl, rfl⟩
theorem bad_nil (w : World) : Calls Try.prog 19 #[.pointer none] w fun e w' => e = .returned (.bool false) ∧ w = w' := by
  go_enter Try.func19, Try.ntmps19
  go_wp2
  go_ret
  exact ⟨rfl, rfl⟩
theorem done_nil (w : World) : Calls Try.prog 18 #[.pointer none] w fun e w' => e = .returned (.bool false) ∧ w = w' := by
  go_enter Try.func18, Try.ntmps18
  go_wp2
  go_ret
  exact ⟨rfl, rfl⟩

set_option maxHeartbeats 1000000 in
theorem nil_walk (w : World) (v n : Int) : Calls Try.prog 5 #[.int .i64 v, .int .i64 n] w fun e w' => e = .returned (.bool true) ∧ Below w.heap.size w w' := by
  have kc := fun (w : World) (C : Array Value) (n c : Nat) => Lib.run_convert_bytes_const (P := Try.prog) w 28 5 C n c Try.underlying28 Try.underlying5
  go_enter Try.func5, Try.ntmps5
  go_wp2_with (first | (go_at_call 6; refine (awake_any _).mono ?_; rintro e w1 ⟨rfl, hb1⟩; have HB := Lib.hid hb1; clear hb1) | (go_at_call 8; refine (outN_nil _ _ _).mono ?_; rintro e w2 ⟨rfl, rfl⟩) | (go_at_call 10; refine (text_nil _ _).mono ?_; rintro e w3 ⟨rfl, rfl⟩) | (go_at_call 12; refine (raw_stop _ _ _ (takes_nil _ _)).mono ?_; rintro e w3 ⟨rfl, rfl⟩) | (go_at_call 13; refine (end_stop _ _ (takes_nil _ _)).mono ?_; rintro e w3 ⟨rfl, rfl⟩) | (go_at_call 15; refine (inN_nil _ _).mono ?_; rintro e w3 ⟨rfl, rfl⟩) | (go_at_call 16; refine (inText_nil _).mono ?_; rintro e w3 ⟨rfl, rfl⟩) | (go_at_call 17; refine (inRaw_nil _ _).mono ?_; rintro e w3 ⟨rfl, rfl⟩) | (go_at_call 21; refine (left_nil _).mono ?_; rintro e w3 ⟨rfl, rfl⟩) | (go_at_call 19; refine (bad_nil _).mono ?_; rintro e w3 ⟨rfl, rfl⟩) | (go_at_call 18; refine (done_nil _).mono ?_; rintro e w3 ⟨rfl, rfl⟩))
  go_ret
  refine ⟨rfl, ?_⟩
  have := HB.out
  exact this.trans (((Below.refl _ _).alloc this.size _).alloc (by have := this.size; simp; omega) _)
end Go.Proofs.Ytcmgekimogecaaa.codec
