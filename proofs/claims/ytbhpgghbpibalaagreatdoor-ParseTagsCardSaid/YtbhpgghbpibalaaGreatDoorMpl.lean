/- Tags of any bytes; the command that is always one. -/
import Derived.Test.YtbhpgghbpibalaaGreatDoorMpj
namespace Go.Proofs.YtbhpgghbpibalaaGreatDoor.par
open Go.ChangeShapes Go.WideShapes Go.ChangeAt Go.RowKit
open Go.Proofs.YtbhpgghbpibalaaGreatDoor.codec (Bytes vals)
open Go.Proofs.YtbhpgghbpibalaaGreatDoor.row
open Go.Proofs.YtbhpgghbpibalaaGreatDoor.lx (Tk cT fT Fit tok_at octs Sl Room own_slice ix sep_in nums_byte index_ix ix_le octs_of)
set_option linter.unusedVariables false
set_option maxRecDepth 100000
set_option linter.unusedSimpArgs false

/-- What stands behind a place of a slice. -/
def restV (A : Option Addr) (n c k : Nat) : Value := if k < n then .slice (if c = k + 1 then A else A.map fun x => x.add (k + 1)) (n - (k + 1)) (c - (k + 1)) else .slice none 0 0
theorem cut_any (w : World) (A : Option Addr) (n c g d s : Nat) (l : List Nat) (hS : Sl w A n c l) (hn : n ≤ 4000000000) (hs : s < 256) (hg : w.cell? ⟨g, 0, none⟩ = some (.int .u8 (s : Nat))) (hr : Room w) :
    Calls Tryz.prog 11 #[.slice A n c, .slice (some ⟨g, 0, none⟩) 1 d] w fun e w' => e = .returned (.tuple #[.slice A (ix s l) c, restV A n c (ix s l), .bool (decide (ix s l < n))]) ∧ Below w.heap.size w w' := by
  obtain ⟨m, hm⟩ := hr
  have hB := sep_in hg hs
  refine (Tryz.bytes_Cut_all A (some ⟨g, 0, none⟩) n c 1 d (l.map Int.ofNat) ([s].map Int.ofNat) m w (by rw [List.length_map]; exact hS.1.1) rfl (nums_byte hS.1.2.1) (nums_byte hB.2.1) (lx.Bytes.into hS.1) (lx.Bytes.into hB) hS.2.2.2 hS.2.1 (by omega) (by decide) hm).mono ?_
  rintro e w' ⟨rfl, q, rfl⟩
  refine ⟨?_, codec.below_draws (Below.refl _ _) q⟩
  rw [octs_of, octs_of, show octs [s] = [UInt8.ofNat s] from rfl, index_ix s hs l hS.1.2.1, hS.1.1]
  have hle := ix_le s l
  rw [hS.1.1] at hle
  unfold Lib.cutV restV Lib.fromV
  by_cases h : ix s l < n
  · rw [if_pos h, if_pos (by omega), if_pos h, decide_eq_true h]
    simp
  · have he : ix s l = n := by omega
    rw [if_neg h, if_neg (by omega), if_neg h, decide_eq_false h, he]

/-- What stands ahead of the first blank. -/
def ahead (b : List Nat) : List Nat := b.take (ix 32 b)
def tagS (b : List Nat) : ByteArray := if tagB (ahead b) = true then lx.strOf (ahead b) else ⟨#[42]⟩
set_option maxHeartbeats 1600000 in
theorem Tag_any (w : World) (A : Option Addr) (n c : Nat) (b : List Nat) (hS : Sl w A n c b) (hn : n ≤ 1000000) (hr : Room w) :
    Calls Tryz.prog 7 #[.slice A n c] w fun e w' => e = .returned (.string (tagS b)) ∧ Below w.heap.size w w' := by
  have hle : ix 32 b ≤ n := by have := ix_le 32 b; rw [hS.1.1] at this; exact this
  have HSl := Lib.hid hS
  have HR := Lib.hid hr
  have HN := Lib.hid hn
  have HB1 := Lib.hid (show Below w.heap.size w (w.alloc (.cells #[.int .u8 32] 5)) from (Below.refl _ _).alloc (Nat.le_refl _) _)
  have HG := Lib.hid (show (w.alloc (.cells #[.int .u8 32] 5)).cell? ⟨w.heap.size, 0, none⟩ = some (.int .u8 (32 : Nat)) from by rw [World.cell?, heap_alloc_new]; rfl)
  have HCut := Lib.hid (cut_any (w.alloc (.cells #[.int .u8 32] 5)) A n c w.heap.size 1 32 b (HSl.out.below HB1.out) (Nat.le_trans HN.out (by decide)) (by decide) HG.out (HR.out.below HB1.out))
  have HT := Lib.hid (fun w1 (hb : Below w.heap.size w w1) => isTag_any w1 A (ix 32 b) c (ahead b) (lx.Bytes.part (HSl.out.below hb).1 _ hle) (Nat.le_trans hle HN.out))
  have HV := Lib.hid (fun w1 (hb : Below w.heap.size w w1) => (show (convert 22 9 (.slice A (ix 32 b) c)).run Tryz.prog w1 = .ok (.string (lx.strOf (ahead b))) w1 from lx.Bytes.text (lx.Bytes.part (HSl.out.below hb).1 _ hle) c))
  clear hS hr hn
  unfold tagS
  cases ht : tagB (ahead b) <;> rw [ht] at HT
  · go_enter Tryz.func7, Tryz.ntmps7
    go_wp2_with (first
      | (go_at_call 11; refine HCut.out.mono ?_; rintro e w1 ⟨rfl, hb⟩; have HB2 := Lib.hid (HB1.out.trans (hb.mono HB1.out.size)); clear hb; generalize restV A n c (ix 32 b) = V)
      | (go_at_call 12; refine (HT.out _ HB2.out).mono ?_; rintro e w2 ⟨rfl, hw⟩; replace hw := hw.symm; subst hw))
    go_ret
    exact ⟨rfl, HB2.out⟩
  · go_enter Tryz.func7, Tryz.ntmps7
    go_wp2_with (first
      | (go_at_call 11; refine HCut.out.mono ?_; rintro e w1 ⟨rfl, hb⟩; have HB2 := Lib.hid (HB1.out.trans (hb.mono HB1.out.size)); clear hb; generalize restV A n c (ix 32 b) = V)
      | (go_at_call 12; refine (HT.out _ HB2.out).mono ?_; rintro e w2 ⟨rfl, hw⟩; replace hw := hw.symm; subst hw; have hcv := HV.out _ HB2.out))
    go_ret
    exact ⟨rfl, HB2.out⟩

/-- The command that is always one. -/
def tokA : Tk := ⟨1, [97]⟩
def tokN : Tk := ⟨1, [110, 111, 111, 112]⟩
theorem great_noop : upS (takeT [tokN] false 1) = ⟨#[78, 79, 79, 80]⟩ := by
  have e : takeT [tokN] false 1 = [110, 111, 111, 112] := rfl
  rw [e]
  unfold upS
  rw [show (lx.strOf [110, 111, 111, 112]).data.toList = [110, 111, 111, 112] by rfl]
  rfl
end Go.Proofs.YtbhpgghbpibalaaGreatDoor.par
