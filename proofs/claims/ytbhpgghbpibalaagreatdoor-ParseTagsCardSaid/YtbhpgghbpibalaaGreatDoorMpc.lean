/- What the reader stands on; tags; atoms in great letters. -/
import Derived.Test.YtbhpgghbpibalaaGreatDoorMpa
import Derived.Test.YtbhpgghbpibalaaGreatDoorMb1
import Derived.Test.YtbhpgghbpibalaaGreatDoorMb2
import Derived.Test.YtbhpgghbpibalaaGreatDoorMb6
import Derived.Test.YtbhpgghbpibalaaGreatDoorMc2
namespace Go.Proofs.YtbhpgghbpibalaaGreatDoor.par
open Go.ChangeShapes Go.WideShapes Go.ChangeAt Go.RowKit
open Go.Proofs.YtbhpgghbpibalaaGreatDoor.codec (Bytes vals)
open Go.Proofs.YtbhpgghbpibalaaGreatDoor.row
open Go.Proofs.YtbhpgghbpibalaaGreatDoor.lx (Tk cT fT Fit tok_at octs Sl Room)
set_option linter.unusedVariables false
set_option maxRecDepth 100000
set_option linter.unusedSimpArgs false

def items8 : Array Value := #[.string ⟨#[85, 73, 68]⟩, .string ⟨#[70, 76, 65, 71, 83]⟩, .string ⟨#[73, 78, 84, 69, 82, 78, 65, 76, 68, 65, 84, 69]⟩, .string ⟨#[82, 70, 67, 56, 50, 50, 46, 83, 73, 90, 69]⟩, .string ⟨#[69, 78, 86, 69, 76, 79, 80, 69]⟩, .string ⟨#[66, 79, 68, 89, 91, 93]⟩, .string ⟨#[66, 79, 68, 89, 91, 72, 69, 65, 68, 69, 82, 93]⟩, .string ⟨#[66, 79, 68, 89, 91, 84, 69, 88, 84, 93]⟩]
/-- The variable holds the eight names. -/
def Items (w : World) : Prop := ∃ t fr, w.heap[1]? = some (.cells items8 t fr)
theorem Items.below {w w' : World} (h : Items w) (hb : Below w.heap.size w w') : Items w' := by
  obtain ⟨t, fr, h⟩ := h
  have hlt : 1 < w.heap.size := (Array.getElem?_eq_some_iff.1 h).1
  exact ⟨t, fr, (hb.block _ hlt).trans h⟩
/-- What the libraries' variables and the listed ones hold. -/
structure Env (w : World) : Prop where
  room : Room w
  tab : flg.Tab w
  fold : dat.Fold w
  items : Items w
theorem Env.below {w w' : World} (h : Env w) (hb : Below w.heap.size w w') : Env w' := ⟨h.room.below hb, h.tab.below hb, h.fold.below hb, h.items.below hb⟩
/-- A reader, and what it stands on. -/
def ST (w : World) (p : Nat) (l : List Tk) (bad : Bool) : Prop := RS w p l bad ∧ ∃ w0, Env w0 ∧ w0.heap.size ≤ p ∧ Below w0.heap.size w0 w
theorem ST.env {w : World} {p : Nat} {l : List Tk} {b : Bool} (h : ST w p l b) : Env w := by
  obtain ⟨_, w0, he, _, hb⟩ := h
  exact he.below hb
theorem ST.move {w w' : World} {p : Nat} {l l' : List Tk} {b b' : Bool} (h : ST w p l b) (hr : RS w' p l' b') (ht : codec.Touch (· = p) w w') : ST w' p l' b' := by
  obtain ⟨h1, w0, he, hp, hb⟩ := h
  have := h1.lt
  exact ⟨hr, w0, he, hp, hb.trans (ht.toBelow _ (by omega) (fun i hi e => by omega))⟩
theorem ST.touch {w w' : World} {p : Nat} {l : List Tk} {b : Bool} {F : Nat → Prop} (h : ST w p l b) (ht : codec.Touch F w w') (hF : ∀ i, i ≤ p → ¬ F i) : ST w' p l b := by
  obtain ⟨h1, w0, he, hp, hb⟩ := h
  have := h1.lt
  exact ⟨h1.touch ht hF, w0, he, hp, hb.trans (ht.toBelow _ (by omega) (fun i hi e => hF i (by omega) e))⟩
theorem below_touch (G : Nat → Prop) {w w1 : World} (hb : Below w.heap.size w w1) : codec.Touch G w w1 := ⟨hb.os, hb.tape, hb.output, hb.size, fun k hk _ => hb.block k hk⟩
theorem ST.below {w w' : World} {p : Nat} {l : List Tk} {b : Bool} (h : ST w p l b) (hb : Below w.heap.size w w') : ST w' p l b :=
  h.touch (below_touch (fun _ => False) hb) (fun i _ h => h)
theorem touch_trans {p : Nat} {a b c : World} (h : codec.Touch (· = p) a b) (k : codec.Touch (· = p) b c) : codec.Touch (· = p) a c :=
  h.trans (k.mono fun i _ e => .inl e)

/-- The letters and digits of which a tag is. -/
def tagC (x : Nat) : Bool := (decide (97 ≤ x) && decide (x ≤ 122)) || (decide (65 ≤ x) && decide (x ≤ 90)) || (decide (48 ≤ x) && decide (x ≤ 57))
def tagB (l : List Nat) : Bool := decide (0 < l.length) && decide (l.length ≤ 20) && l.all tagC
set_option maxHeartbeats 1600000 in
theorem letter_any (w : World) (x : Nat) (hx : x < 256) :
    Calls Tryz.prog 21 #[.int .u8 x] w fun e w' => e = .returned (.bool (tagC x)) ∧ w' = w := by
  have e : tagC x = ((decide ((97 : Int) ≤ (x : Int)) && decide ((x : Int) ≤ 122)) || (decide ((65 : Int) ≤ (x : Int)) && decide ((x : Int) ≤ 90)) || (decide ((48 : Int) ≤ (x : Int)) && decide ((x : Int) ≤ 57))) := by
    unfold tagC
    congr 1
    · congr 1
      · congr 1 <;> exact decide_eq_decide.2 (by omega)
      · congr 1 <;> exact decide_eq_decide.2 (by omega)
    · congr 1 <;> exact decide_eq_decide.2 (by omega)
  rw [e]
  generalize (x : Int) = z
  go_enter Tryz.func21, Tryz.ntmps21
  cases h1 : decide ((97 : Int) ≤ z) <;> cases h2 : decide (z ≤ (122 : Int)) <;> cases h3 : decide ((65 : Int) ≤ z) <;> cases h4 : decide (z ≤ (90 : Int)) <;> cases h5 : decide ((48 : Int) ≤ z) <;> cases h6 : decide (z ≤ (57 : Int)) <;> (go_wp2; go_ret; simp)
set_option maxHeartbeats 3200000 in
theorem isTag_any (w : World) (A : Option Addr) (n c : Nat) (l : List Nat) (hB : Bytes w A n l) (hn : n ≤ 1000000) :
    Calls Tryz.prog 12 #[.slice A n c] w fun e w' => e = .returned (.bool (tagB l)) ∧ w' = w := by
  have hl := hB.1
  by_cases h0 : n = 0
  · have e : tagB l = false := by unfold tagB; rw [decide_eq_false (by omega : ¬ 0 < l.length)]; rfl
    rw [e]
    subst h0
    clear hB hl e
    go_enter Tryz.func12, Tryz.ntmps12
    go_wp2
    go_ret
    exact ⟨rfl, rfl⟩
  · have q0 : ((n : Int) == 0) = false := by rw [beq_eq_false_iff_ne]; omega
    by_cases h20 : 20 < n
    · have e : tagB l = false := by unfold tagB; rw [decide_eq_false (by omega : ¬ l.length ≤ 20)]; simp
      rw [e]
      have q1 : decide ((20 : Int) < (n : Int)) = true := decide_eq_true (by omega)
      clear hB hl e h0
      go_enter Tryz.func12, Tryz.ntmps12
      go_wp2
      go_ret
      exact ⟨rfl, rfl⟩
    · have q1 : decide ((20 : Int) < (n : Int)) = false := decide_eq_false (by omega)
      have hT : tagB l = l.all tagC := by unfold tagB; rw [decide_eq_true (by omega : 0 < l.length), decide_eq_true (by omega : l.length ≤ 20)]; rfl
      rw [hT]
      obtain ⟨b, o, rfl, hc⟩ := hB.2.2 (by omega)
      have HC := Lib.hid hc
      have HL := Lib.hid hB.2.1
      have hn20 : n ≤ 20 := by omega
      have HLN := Lib.hid hl
      clear hB hc hT hl h20
      go_enter Tryz.func12, Tryz.ntmps12
      go_wp2
      go_loop [15] (fun i => ∃ k : Nat, k ≤ n ∧ i = .int .i64 k ∧ Hid ((l.take k).all tagC = true)) (fun i => n - (intOf i).toNat)
      case atStart => exact ⟨0, Nat.zero_le _, rfl, Lib.hid (by simp)⟩
      case round =>
        obtain ⟨k, hk, rfl, hh⟩ := hrel
        by_cases hkn : k < n
        · have hkl : k < l.length := by rw [HLN.out]; exact hkn
          obtain ⟨x, hx⟩ : ∃ x, l[k] = x := ⟨_, rfl⟩
          have hxl : l[k]? = some x := by rw [List.getElem?_eq_getElem hkl, hx]
          have hx2 : x < 256 := HL.out x (List.mem_of_getElem? hxl)
          have hcell : w.cell? ⟨b, o + k, none⟩ = some (.int .u8 (x : Nat)) := by
            rw [HC.out k hkn]; simp [List.getD, hxl]
          have HX := Lib.hid (letter_any w x hx2)
          have l1 : (k : Int) < (n : Int) := by omega
          have HN := Lib.hid (show tagC x = true → (l.take (k + 1)).all tagC = true from fun h => by
            rw [List.take_add_one, hxl, List.all_append, hh.out]
            simp [h])
          have HF := Lib.hid (show tagC x = false → l.all tagC = false from fun h => by
            rw [List.all_eq_false]
            exact ⟨x, List.mem_of_getElem? hxl, by simp [h]⟩)
          cases ht : tagC x
          · rw [ht] at HX
            have HZ := Lib.hid (HF.out ht)
            clear HF HN hxl hx ht hkl
            go_wp2_with (go_at_call 21; refine HX.out.mono ?_; rintro e w1 ⟨rfl, hw⟩; replace hw := hw.symm; subst hw)
            go_ret
            rw [HZ.out]
            exact ⟨rfl, rfl⟩
          · rw [ht] at HX
            have HZ := Lib.hid (HN.out ht)
            clear HF HN hxl hx ht hkl
            go_wp2_with (go_at_call 21; refine HX.out.mono ?_; rintro e w1 ⟨rfl, hw⟩; replace hw := hw.symm; subst hw)
            exact ⟨⟨k + 1, hkn, by simp, HZ⟩, by simp [intOf]; omega⟩
        · have hke : k = n := by omega
          have l1 : ¬ ((k : Int) < (n : Int)) := by omega
          have HZ := Lib.hid (show l.all tagC = true by
            have := hh.out
            rwa [List.take_of_length_le (by rw [HLN.out]; omega)] at this)
          clear hke
          go_wp2
          go_ret
          rw [HZ.out]
          exact ⟨rfl, rfl⟩
/-- What the next atom is, told great. -/
def upS (l : List Nat) : ByteArray := ⟨(Lib.toUpperA (lx.strOf l).data.toList).toArray⟩
theorem strOf_ascii {l : List Nat} (h : ∀ x ∈ l, x < 128) : ∀ (j : Nat) (b : UInt8), (lx.strOf l).data.toList[j]? = some b → b.toNat < 128 := by
  intro j b hb
  have hm := List.mem_of_getElem? hb
  simp [lx.strOf] at hm
  obtain ⟨x, hx, rfl⟩ := hm
  have := h x hx
  simp
  omega
theorem great_any (w : World) (p : Nat) (l : List Tk) (bad : Bool) (h : ST w p l bad) :
    Calls Tryz.prog 17 #[.pointer (some ⟨p, 0, none⟩)] w fun e w' => e = .returned (.string (upS (takeT l bad 1))) ∧ ST w' p (takeL l bad 1) (!comesB l bad 1) ∧ codec.Touch (· = p) w w' := by
  have HT := Lib.hid (take_any w p l bad 1 (by decide) h.1)
  have HU := Lib.hid (fun w1 => Tryz.strings_ToUpper_ascii (lx.strOf (takeT l bad 1)) w1 (by rw [lx.strOf_size]; have := (takeT_fit (bad := bad) (k := 1) h.1.fit).1; omega) (strOf_ascii (takeT_atom h.1.fit)))
  have HS := Lib.hid h
  clear h
  go_enter Tryz.func17, Tryz.ntmps17
  go_wp2_with (first
    | (go_at_call 27; refine HT.out.mono ?_; rintro e w1 ⟨rfl, hr, ht⟩; have HR := Lib.hid (HS.out.move hr ht); have HTo := Lib.hid ht; clear hr ht)
    | (go_at_call 29; refine (HU.out _).mono ?_; rintro e w2 ⟨rfl, hb⟩; clear HU))
  go_ret
  exact ⟨rfl, HR.out.below hb, HTo.out.below hb⟩
end Go.Proofs.YtbhpgghbpibalaaGreatDoor.par
