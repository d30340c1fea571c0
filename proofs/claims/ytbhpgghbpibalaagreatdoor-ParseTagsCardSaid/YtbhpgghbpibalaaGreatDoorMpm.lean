/- The command that is always one, as the reader tells it. -/
import Derived.Test.YtbhpgghbpibalaaGreatDoorMpk
import Derived.Test.YtbhpgghbpibalaaGreatDoorMpl
namespace Go.Proofs.YtbhpgghbpibalaaGreatDoor.par
open Go.ChangeShapes Go.WideShapes Go.ChangeAt Go.RowKit
open Go.Proofs.YtbhpgghbpibalaaGreatDoor.codec (Bytes vals)
open Go.Proofs.YtbhpgghbpibalaaGreatDoor.row
open Go.Proofs.YtbhpgghbpibalaaGreatDoor.lx (Tk cT fT Fit tok_at octs Sl Room own_slice)
set_option linter.unusedVariables false
set_option maxRecDepth 100000
set_option linter.unusedSimpArgs false

theorem Fin.closeS {w w3 : World} {p : Nat} {cs : Array Value} {l : List Tk} {b : Bool} (h : Fin w p w3) (hs : ST w3 p l b) (hp : p < w.heap.size) : ST (w3.setRow w.heap.size cs) p l b := by
  have hk := touch_setRow w3 w.heap.size cs
  exact hs.touch hk (fun i hi e => by omega)
theorem tags_all (A B : ByteArray) : (tags17 A B).all (·.oneCell') = true := by
  unfold tags17
  simp [Value.oneCell']
set_option maxHeartbeats 6400000 in
theorem command_noop (w : World) (p : Nat) (h : ST w p [tokA, tokN] false) :
    Calls Tryz.prog 9 #[.pointer (some ⟨p, 0, none⟩)] w fun e w' => e = .returned (.agg (tags17 ⟨#[97]⟩ ⟨#[78, 79, 79, 80]⟩)) ∧ ST w' p [] false ∧ codec.Touch (· = p) w w' := by
  have HST := Lib.hid (show ST (w.alloc (.cells zero17 29)) p [tokA, tokN] false from h.below ((Below.refl _ _).alloc (Nat.le_refl _) _))
  have HP := Lib.hid h.1.lt
  have HTA := Lib.hid (show Calls Tryz.prog 16 #[.pointer (some ⟨p, 0, none⟩)] (w.alloc (.cells zero17 29)) fun e w' => e = .returned (.string ⟨#[97]⟩) ∧ ST w' p [tokN] false ∧ codec.Touch (· = p) (w.alloc (.cells zero17 29)) w' from tag_any _ p [tokA, tokN] false HST.out)
  have HG := Lib.hid (fun w1 (h1 : ST w1 p [tokN] false) => (show Calls Tryz.prog 17 #[.pointer (some ⟨p, 0, none⟩)] w1 fun e w' => e = .returned (.string ⟨#[78, 79, 79, 80]⟩) ∧ ST w' p [] false ∧ codec.Touch (· = p) w1 w' from by
    have := great_any w1 p [tokN] false h1
    rw [great_noop] at this
    exact this))
  clear h
  go_enter Tryz.func9, Tryz.ntmps9
  go_wp2_with (first
    | (go_at_call 16; refine HTA.out.mono ?_; rintro e w1 ⟨rfl, hr, ht⟩; have HR := Lib.hid hr; have HT := Lib.hid ht; clear hr ht)
    | (go_at_call 17; refine (HG.out _ HR.out).mono ?_; rintro e w2 ⟨rfl, hr, ht⟩; have HCC := Lib.hid (cc_start hr ⟨#[97]⟩ ⟨#[78, 79, 79, 80]⟩); have HT2 := Lib.hid ht; have HR2 := Lib.hid hr; clear hr ht)
    | (go_at_call 19; refine (takeRest_noop _ w2.heap.size _ (start_name w2 ⟨#[97]⟩ ⟨#[78, 79, 79, 80]⟩)).mono ?_; rintro e w3 ⟨rfl, hw⟩; have hcc : CC w2 p w2.heap.size w3 := by rw [hw]; exact HCC.out
       have HZ := Lib.hid (show w3.heap[w2.heap.size]? = some (.cells (tags17 ⟨#[97]⟩ ⟨#[78, 79, 79, 80]⟩) 29 (0, 0)) from by rw [hw]; exact heap_alloc_new w2 _)
       have HS3 := Lib.hid (show ST w3 p [] false from by rw [hw]; exact HR2.out.below ((Below.refl _ _).alloc (Nat.le_refl _) _))
       have HF := Lib.hid (fin_of HT.out HT2.out hcc HP.out); clear hcc hw)
    | (refine wpList_load_row rfl 29 (.tmp 3) rfl w2.heap.size rfl 29 (tags17 ⟨#[97]⟩ ⟨#[78, 79, 79, 80]⟩) (0, 0) _ HZ.out Tryz.underlying29 rfl (size17 _ rfl) ?_)
    | (refine wpList_store_row rfl 29 (.tmp 2) (.tmp 21) rfl w.heap.size (tags17 ⟨#[97]⟩ ⟨#[78, 79, 79, 80]⟩) rfl rfl 29 zero17 HF.out.1 (size17 _ rfl) rfl (tags_all _ _) ?_))
  refine bodyPost_ret (results_cell_row Tryz.results9 _ _ w.heap.size _ _ _ _ rfl (HF.out.close HP.out).1 Tryz.underlying29 rfl (size17 _ rfl)) rfl ?_
  exact ⟨rfl, HF.out.closeS HS3.out HP.out, (HF.out.close HP.out).2.2⟩
end Go.Proofs.YtbhpgghbpibalaaGreatDoor.par
