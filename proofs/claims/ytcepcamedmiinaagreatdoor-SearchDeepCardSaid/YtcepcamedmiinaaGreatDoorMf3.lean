/- Right; whether the program is awake; ten deep keys. -/
import Derived.Test.YtcepcamedmiinaaGreatDoorMf2
import Derived.Shelf.Vars
namespace Go.Proofs.YtcepcamedmiinaaGreatDoor.sea
open Go.ChangeShapes Go.WideShapes Go.ChangeAt Go.RowKit
open Go.Proofs.YtcepcamedmiinaaGreatDoor.codec (Bytes vals)
open Go.Proofs.YtcepcamedmiinaaGreatDoor.lg (Y Nt cM Oct nts)
set_option linter.unusedVariables false
set_option maxRecDepth 100000
set_option linter.unusedSimpArgs false

set_option maxHeartbeats 1000000 in
theorem right_any (w : World) (R : Option Addr) (m d : Nat) (l : List Tk) (h : Toks w R m d l) (hE : Env w) :
    Calls Tryz.prog 9 #[.slice R m d] w fun e w' => e = .returned (.bool (isRight lv l)) ∧ Below w.heap.size w w' := by
  have HR := Lib.hid (read_any w R m d l h hE)
  clear h hE
  unfold ReadAns at HR
  generalize isRight lv l = r at *
  go_enter Tryz.func9, Tryz.ntmps9
  go_wp2_with fail
  refine HR.out.mono ?_
  rintro e w1 ⟨y, rfl, hb, _⟩
  have HB := Lib.hid hb
  have hf : fv y = .func (.func y.fn) #[] y.caps := rfl
  rw [hf]
  clear hb hf
  go_wp2
  go_ret
  exact ⟨rfl, HB.out⟩
/-- The one token of awake. -/
def litT : Tk := ⟨1, ⟨#[97, 108, 108]⟩⟩
theorem lit_right : isRight lv [litT] = true ∧ ∀ m, (readP lv [litT]).f m = true := by
  have e : keyP lv 12 1 [litT] false = ⟨fun _ => true, [], false⟩ := by
    have g : greatS litT.t = nALL := by decide +kernel
    have c3 : comesB [litT] (false || decide (10 < 1)) 3 = false := by decide
    have c1 : comesB [litT] (false || decide (10 < 1)) 1 = true := by decide
    unfold keyP
    rw [if_neg (by rw [c3]; exact Bool.false_ne_true), c1]
    have t1 : takeT [litT] (false || decide (10 < 1)) 1 = litT.t := by unfold takeT; rw [if_pos c1]
    have t2 : takeL [litT] (false || decide (10 < 1)) 1 = [] := by unfold takeL; rw [if_pos c1, List.tail_cons]
    rw [t1, t2, g]
    unfold namedP
    rw [if_pos rfl]
    rfl
  have r : readP lv [litT] = ⟨fun _ => true, [], false⟩ := by
    unfold readP keysOf
    rw [e]
    exact loop_stop _ _ (goes_nil false)
  unfold isRight
  rw [r]
  exact ⟨rfl, fun _ => rfl⟩
def noMsg : Y := ⟨⟨2, 0, ⟨#[]⟩, 0, 0, 0, []⟩, 0, none, 0, 0⟩
theorem found_two {f : Md → Bool} (h : ∀ m, f m = true) (qs : List Y) : foundL f qs 2 = [0, 1] := by
  unfold foundL
  rw [show List.range 2 = [0, 1] from rfl]
  simp [h]
def zero8 : Array Value := #[.int .u32 0, .int .i64 0, .int .i64 0, .slice none 0 0, .int .u32 0, .int .i64 0, .int .i64 0, .slice none 0 0]
theorem make_two (w : World) : (Instr.makeSlice 23 (.int .i64 2) (.int .i64 2)).run Tryz.prog w = .ok (.slice (some ⟨w.heap.size, 0, none⟩) 2 2) (w.alloc (.cells zero8 39)) := by kernel_rfl
theorem oct_none (w : World) : Oct w noMsg := ⟨⟨rfl, by simp [noMsg], fun h => absurd h (by decide)⟩, fun _ => rfl⟩
theorem two_msgs (w : World) : Boxy (w.alloc (.cells zero8 39)) (some ⟨w.heap.size, 0, none⟩) 2 [noMsg, noMsg] := by
  have hx : (w.alloc (.cells zero8 39)).heap[w.heap.size]? = some (.cells zero8 39 (0, 0)) := heap_alloc_new _ _
  refine ⟨⟨rfl, fun k hk => ?_⟩, by decide, fun y hy => ?_⟩
  · rcases (by omega : k = 0 ∨ k = 1) with rfl | rfl
    · refine ⟨w.heap.size, 0, noMsg, rfl, rfl, fun j v hv => ?_, oct_none _⟩
      have hj := (List.getElem?_eq_some_iff.1 hv).1
      have : j < 4 := hj
      rcases (by omega : j = 0 ∨ j = 1 ∨ j = 2 ∨ j = 3) with rfl | rfl | rfl | rfl <;> (cases hv; exact sq.cell_at hx _ _ rfl)
    · refine ⟨w.heap.size, 0, noMsg, rfl, rfl, fun j v hv => ?_, oct_none _⟩
      have hj := (List.getElem?_eq_some_iff.1 hv).1
      have : j < 4 := hj
      rcases (by omega : j = 0 ∨ j = 1 ∨ j = 2 ∨ j = 3) with rfl | rfl | rfl | rfl <;> (cases hv; exact sq.cell_at hx _ _ rfl)
  · simp at hy
    subst hy
    exact ⟨Nat.le_refl _, Nat.zero_le _⟩
theorem one_tok (w : World) : Toks (w.alloc (.cells #[.int .i64 1, .string ⟨#[97, 108, 108]⟩] 34)) (some ⟨w.heap.size, 0, none⟩) 1 1 [litT] := by
  have hx : (w.alloc (.cells #[.int .i64 1, .string ⟨#[97, 108, 108]⟩] 34)).heap[w.heap.size]? = some (.cells #[.int .i64 1, .string ⟨#[97, 108, 108]⟩] 34 (0, 0)) := heap_alloc_new _ _
  refine ⟨Nat.le_refl _, (fun e => by cases e), by decide, ⟨rfl, fun k hk => ?_⟩, fun t ht => ?_⟩
  · obtain rfl : k = 0 := by omega
    refine ⟨w.heap.size, 0, litT, rfl, rfl, fun j v hv => ?_⟩
    have hj := (List.getElem?_eq_some_iff.1 hv).1
    have : j < 2 := hj
    rcases (by omega : j = 0 ∨ j = 1) with rfl | rfl <;> (cases hv; exact sq.cell_at hx _ _ rfl)
  · simp at ht
    subst ht
    show (3 : Nat) ≤ _
    decide
theorem own_len {w : World} {B : Nat} {E : TypeId} {v : Value} {ys : List Nat} (h : row.Own cI 1 B E w v ys) : ∃ A c, v = .slice A ys.length c ∧ ys.length ≤ c ∧ (A = none → c = 0) ∧ row.Rd cI 1 w A ys.length ys := h.rd fI
set_option maxHeartbeats 2000000 in
theorem awake_any (W : World) (hE : Env W) :
    Calls Tryz.prog 5 #[] W fun e w' => e = .returned (.bool true) ∧ Below W.heap.size W w' := by
  obtain ⟨W1, hW1⟩ : ∃ W1, W1 = W.alloc (.cells #[.int .i64 1, .string ⟨#[97, 108, 108]⟩] 34) := ⟨_, rfl⟩
  have hb1 : Below W.heap.size W W1 := by rw [hW1]; exact (Below.refl _ _).alloc (Nat.le_refl _) _
  have ht1 : Toks W1 (some ⟨W.heap.size, 0, none⟩) 1 1 [litT] := by rw [hW1]; exact one_tok W
  have hR := right_any W1 _ 1 1 [litT] ht1 (hE.below hb1)
  rw [lit_right.1] at hR
  have HR := Lib.hid hR
  have HF := Lib.hid (fun (w2 : World) (h : Below W1.heap.size W1 w2) => find_any (w2.alloc (.cells zero8 39)) ⟨#[]⟩ 0 0 (some ⟨w2.heap.size, 0, none⟩) 2 2 [noMsg, noMsg] (two_msgs w2) (some ⟨W.heap.size, 0, none⟩) 1 1 [litT] (ht1.below (h.trans (((Below.refl _ _).alloc h.size _)))) ((hE.below hb1).below (h.trans (((Below.refl _ _).alloc h.size _)))))
  have hfp : findP [litT] [noMsg, noMsg] = [0, 1] := by
    unfold findP
    rw [lit_right.1, if_pos rfl]
    exact found_two lit_right.2 _
  unfold FindAns at HF
  rw [hfp] at HF
  have HW1 := Lib.hid hW1
  have HB1 := Lib.hid hb1
  have hmk := make_two
  clear hW1 hb1 ht1 hR hfp hE
  go_enter Tryz.func5, Tryz.ntmps5
  go_upto_region 2 with fail
  rw [← HW1.out]
  go_wp2_with fail
  refine HR.out.mono ?_
  rintro e w2 ⟨rfl, hb2⟩
  have HB2 := Lib.hid hb2
  clear hb2
  go_wp2_with fail
  refine (HF.out w2 HB2.out).mono ?_
  rintro e w3 ⟨v, rfl, ho, hb3⟩
  obtain ⟨A, c, rfl, _, _, _⟩ := own_len ho
  have HB3 := Lib.hid hb3
  clear ho hb3
  go_wp2
  go_ret
  have h2 := HB2.out.size
  have ha : Below w2.heap.size w2 (w2.alloc (.cells zero8 39)) := (Below.refl _ _).alloc (Nat.le_refl _) _
  exact ⟨rfl, HB1.out.trans ((HB2.out.trans ((ha.trans (HB3.out.mono ha.size)).mono h2)).mono HB1.out.size)⟩
theorem tok_new (w : World) (t : Tk) : (w.alloc (.cells (cT t).toArray 34)).heap[w.heap.size]? = some (.cells (cT t).toArray 34 (0, 0)) := heap_alloc_new _ _
theorem tokSize (cs : Array Value) (h : cs.size = 2) : (Tryz.prog.info? 34).map (·.size) = some cs.size := by
  rw [h]
  kernel_rfl
set_option maxHeartbeats 1000000 in
theorem atom_any (w : World) (s : ByteArray) :
    Calls Tryz.prog 10 #[.string s] w fun e w' => e = .returned (.agg #[.int .i64 1, .string s]) ∧ Below w.heap.size w w' := by
  have hx : (w.alloc (.cells #[.int .i64 1, .string s] 34)).heap[w.heap.size]? = some (.cells #[.int .i64 1, .string s] 34 (0, 0)) := heap_alloc_new _ _
  have HX := Lib.hid hx
  have HB := Lib.hid (show Below w.heap.size w (w.alloc (.cells #[.int .i64 1, .string s] 34)) from (Below.refl _ _).alloc (Nat.le_refl _) _)
  clear hx
  go_enter Tryz.func10, Tryz.ntmps10
  go_wp2
  refine bodyPost_ret (results_cell_row Tryz.results10 _ _ w.heap.size _ _ _ _ rfl HX.out Tryz.underlying34 rfl (tokSize _ rfl)) rfl ?_
  exact ⟨rfl, HB.out⟩
/-- Tokens that were made. -/
def TS (W : World) (l : List Tk) (v : Value) (w : World) : Prop := row.Own cT 2 W.heap.size 34 w v l ∧ Below W.heap.size W w
theorem TS.toks {W : World} {l : List Tk} {v : Value} {w : World} (h : TS W l v w) (hl : l.length ≤ 200) (hb : ∀ t ∈ l, Big t) : ∃ A m c, v = .slice A m c ∧ Toks w A m c l := by
  obtain ⟨A, c, e, h1, h2, h3⟩ := h.1.rd fT
  exact ⟨A, _, c, e, h1, h2, hl, h3, hb⟩
set_option maxHeartbeats 4000000 in
theorem deep_walk (W : World) (n : Nat) (hn : n < 256) (hE : Env W) :
    Calls Tryz.prog 4 #[.int .u8 (n : Nat)] W fun e w' => e = .returned (.bool true) ∧ Below W.heap.size W w' := by
  have HA := Lib.hid (awake_any W hE)
  have HE := Lib.hid hE
  have e1 : ((n : Int).tmod 20) = ((n % 20 : Nat) : Int) := by rw [Int.tmod_eq_emod_of_nonneg (by omega)]; omega
  have e2 : IntKind.u8.wrap ((n % 20 : Nat) : Int) = ((n % 20 : Nat) : Int) := IntWalk.u8_in _ (by omega)
  obtain ⟨z, hz⟩ : ∃ z, z = n % 20 := ⟨_, rfl⟩
  rw [← hz] at e1 e2
  have hz20 : z < 20 := by omega
  have e3 : ((n : Int) % 20) = (z : Int) := by omega
  have HZ := Lib.hid hz
  clear hz
  clear hE
  go_enter Tryz.func4, Tryz.ntmps4
  go_wp2_with fail
  refine HA.out.mono ?_
  rintro e w1 ⟨rfl, hb1⟩
  have HB1 := Lib.hid hb1
  clear hb1
  go_upto_region 5 with fail
  go_loopw [3, 9] (fun v i wr => ∃ k : Nat, k ≤ z ∧ i = .int .i64 k ∧ Hid (TS W (List.replicate k notT) v wr)) (fun _ i _ => z - (intOf i).toNat)
  case atStart => exact ⟨0, Nat.zero_le _, rfl, Lib.hid ⟨row.Own.nil _ _ _ _ _, HB1.out⟩⟩
  case round =>
    obtain ⟨k, hk, rfl, HS⟩ := hrel
    have HAt := Lib.hid (fun s => atom_any wr s)
    by_cases hlt : k < z
    · have hlt' : (k : Int) < (z : Int) := by omega
      have HLen := Lib.hid (show (List.replicate k notT).length ≤ 20000000 by rw [List.length_replicate]; omega)
      go_wp2_with (first
        | (go_at_call 10; refine (HAt.out _).mono ?_; rintro e w3 ⟨rfl, hb3⟩; have HO3 := Lib.hid (HS.out.1.below hb3); have HB3 := Lib.hid (HS.out.2.trans (hb3.mono HS.out.2.size)); clear hb3)
        | (at_builtin; refine row.wpList_append_own fT (by decide) (by decide) (by_ := 24) (by decide) (z := .agg #[.int .i64 0, .string ⟨#[]⟩]) rfl rfl (.tmp 11) (.tmp 13) 26 34 rfl Tryz.underlying26 infoT W.heap.size u3 _ rfl HO3.out HB3.out.size HLen.out notT (0, 0) w3.heap.size rfl rfl _ rfl ?_; intro v4 w4 ho4 hg4 h4; have HS4 := Lib.hid (show TS W (List.replicate (k + 1) notT) v4 w4 from ⟨by rw [List.replicate_succ']; exact ho4, row.grown_below HB3.out HO3.out hg4⟩); clear ho4 hg4 h4))
      go_roundw
      case rel => first | exact ⟨k + 1, by omega, by go_num, HS4⟩ | ((repeat apply Exists.intro); exact ⟨⟨k + 1, by omega, by go_num, HS4⟩, rfl⟩)
      case measure => (show z - ((k : Int) + 1).toNat < z - k; omega)
    · obtain rfl : k = z := by omega
      have HLen := Lib.hid (show (List.replicate k notT).length ≤ 20000000 by rw [List.length_replicate]; omega)
      have HDeep := Lib.hid (deep_right lv k)
      have HNone := Lib.hid (none_right lv)
      have e20 : ((n : Int).tmod 20) = (k : Int) := e1
      go_wp2_with (first
        | (go_at_call 10; refine (HAt.out _).mono ?_; rintro e w3 ⟨rfl, hb3⟩; have HO3 := Lib.hid (HS.out.1.below hb3); have HB3 := Lib.hid (HS.out.2.trans (hb3.mono HS.out.2.size)); clear hb3)
        | (at_builtin; refine row.wpList_append_own fT (by decide) (by decide) (by_ := 24) (by decide) (z := .agg #[.int .i64 0, .string ⟨#[]⟩]) rfl rfl (.tmp 16) (.tmp 18) 26 34 rfl Tryz.underlying26 infoT W.heap.size u3 _ rfl HO3.out HB3.out.size HLen.out allT (0, 0) w3.heap.size rfl rfl _ rfl ?_; intro v4 w4 ho4 hg4 h4; have HS4 := Lib.hid (show TS W (List.replicate k notT ++ [allT]) v4 w4 from ⟨ho4, row.grown_below HB3.out HO3.out hg4⟩); clear ho4 hg4 h4; obtain ⟨A4, m4, c4, rfl, ht4⟩ := HS4.out.toks (by rw [List.length_append, List.length_replicate]; simp; omega) (fun t ht => by
            rcases List.mem_append.1 ht with h | h
            · rw [(List.mem_replicate.1 h).2]; show (3 : Nat) ≤ _; decide
            · rw [List.mem_singleton.1 h]; show (3 : Nat) ≤ _; decide); have HR4 := Lib.hid (right_any w4 _ _ _ _ ht4 (HE.out.below HS4.out.2)); rw [HDeep.out] at HR4; clear ht4))
      refine HR4.out.mono ?_
      rintro e w5 ⟨rfl, hb5⟩
      have HB5 := Lib.hid (HS4.out.2.trans (hb5.mono HS4.out.2.size))
      have HRn := Lib.hid (right_any w5 none 0 0 [] ⟨Nat.le_refl _, fun _ => rfl, Nat.zero_le _, ⟨rfl, fun k hk => by omega⟩, fun t ht => by cases ht⟩ (HE.out.below HB5.out))
      rw [HNone.out] at HRn
      clear hb5
      by_cases h10 : k < 10
      · have q1 : decide ((k : Int) < 10) = true := decide_eq_true (by omega)
        rw [decide_eq_true h10]
        go_wp2_with (go_at_call 9; refine HRn.out.mono ?_; rintro e w6 ⟨rfl, hb6⟩; have HB6 := Lib.hid hb6; clear hb6)
        go_ret
        exact ⟨rfl, HB5.out.trans (HB6.out.mono HB5.out.size)⟩
      · have q1 : decide ((k : Int) < 10) = false := decide_eq_false (by omega)
        rw [decide_eq_false h10]
        go_wp2_with (go_at_call 9; refine HRn.out.mono ?_; rintro e w6 ⟨rfl, hb6⟩; have HB6 := Lib.hid hb6; clear hb6)
        go_ret
        exact ⟨rfl, HB5.out.trans (HB6.out.mono HB5.out.size)⟩
end Go.Proofs.YtcepcamedmiinaaGreatDoor.sea
