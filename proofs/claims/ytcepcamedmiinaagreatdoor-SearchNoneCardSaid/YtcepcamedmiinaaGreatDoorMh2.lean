/- The value of a head's field: the program's walk. -/
import Derived.Test.YtcepcamedmiinaaGreatDoorMh1
import Derived.Shelf.Vars
import Derived.Lib.SmallJoins
namespace Go.Proofs.YtcepcamedmiinaaGreatDoor.hd
open Go.ChangeShapes Go.WideShapes Go.ChangeAt Go.RowKit Go.Shelf
open Go.Proofs.YtcepcamedmiinaaGreatDoor.codec (Bytes vals run_append_bytes)
set_option linter.unusedVariables false
set_option maxRecDepth 100000
set_option linter.unusedSimpArgs false

attribute [local go_sem] Oper.semAt_some
/-- What is left of bytes without blanks and tabs around them. -/
def trimL (l : List Nat) : List Nat := (Lib.trimS (octs l) [32, 9]).map UInt8.toNat
theorem octs_back {l : List Nat} (h : ∀ b ∈ l, b < 256) : (octs l).map UInt8.toNat = l := by
  unfold octs
  rw [List.map_map]
  calc l.map (UInt8.toNat ∘ UInt8.ofNat) = l.map id := List.map_congr_left (fun x hx => by simp [Nat.mod_eq_of_lt (h x hx)])
    _ = l := by simp
theorem dropWhile_drop {α : Type} (p : α → Bool) : ∀ l : List α, l.dropWhile p = l.drop (l.length - (l.dropWhile p).length)
  | [] => rfl
  | x :: r => by
    have ih := dropWhile_drop p r
    have hle : (r.dropWhile p).length ≤ r.length := (List.dropWhile_suffix p).length_le
    rw [List.dropWhile_cons]
    split
    · rw [List.length_cons, show r.length + 1 - (r.dropWhile p).length = (r.length - (r.dropWhile p).length) + 1 by omega, List.drop_succ_cons]
      exact ih
    · simp
theorem trim_form (l : List Nat) (h : ∀ b ∈ l, b < 256) : trimL l = (l.take (Lib.trimRightS (octs l) [32, 9]).length).drop ((Lib.trimRightS (octs l) [32, 9]).length - (Lib.trimS (octs l) [32, 9]).length) := by
  have h1 := Lib.trimRightS_eq_take (octs l) [32, 9]
  have h2 := dropWhile_drop (([32, 9] : List UInt8).contains ·) (Lib.trimRightS (octs l) [32, 9])
  have h3 : Lib.trimS (octs l) [32, 9] = (Lib.trimRightS (octs l) [32, 9]).dropWhile (([32, 9] : List UInt8).contains ·) := rfl
  have h4 : (Lib.trimRightS (octs l) [32, 9]).map UInt8.toNat = l.take (Lib.trimRightS (octs l) [32, 9]).length := (congrArg (List.map UInt8.toNat) h1).trans (by rw [List.map_take, octs_back h])
  rw [← h4, ← List.map_drop]
  unfold trimL
  rw [h3]
  exact congrArg _ h2
theorem trim_any (w : World) (A : Option Addr) (n c : Nat) (l : List Nat) (hB : Bytes w A n l) (hnc : n ≤ c) (hc : c ≤ 9223372036854775807) :
    Calls Tryz.prog 66 #[.slice A n c, .string ⟨#[32, 9]⟩] w fun e w' => ∃ R m d, e = .returned (.slice R m d) ∧ Bytes w R m (trimL l) ∧ Below w.heap.size w w' := by
  refine (Tryz.bytes_Trim_laid A n c (l.map Int.ofNat) ⟨#[32, 9]⟩ w (by rw [List.length_map]; exact hB.1) hnc hc (Bytes.into hB) (nums_byte hB.2.1) (by decide) (fun j b hj => ?_)).mono ?_
  · have : b ∈ ([32, 9] : List UInt8) := List.mem_of_getElem? hj
    simp at this
    rcases this with rfl | rfl <;> decide
  · rintro e w' ⟨rfl, hb⟩
    rw [octs_of, show (⟨#[32, 9]⟩ : ByteArray).data.toList = [32, 9] from rfl]
    have hf := trim_form l hB.2.1
    have hle : (Lib.trimRightS (octs l) [32, 9]).length ≤ n := by
      have := Lib.trimRightS_len_le (octs l) [32, 9]
      rw [octs_length, hB.1] at this
      exact this
    have hle2 : (Lib.trimS (octs l) [32, 9]).length ≤ (Lib.trimRightS (octs l) [32, 9]).length := (List.dropWhile_suffix _).length_le
    generalize (Lib.trimRightS (octs l) [32, 9]).length = k at *
    generalize (Lib.trimS (octs l) [32, 9]).length = q at *
    unfold Lib.leftV Lib.fromV
    rw [hf]
    have hp := Bytes.part hB k hle
    by_cases hj : k - q = k
    · rw [if_pos hj, hj, List.drop_of_length_le (by rw [hp.1]; exact Nat.le_refl _)]
      exact ⟨none, 0, 0, rfl, ⟨rfl, by simp, fun h => absurd h (Nat.lt_irrefl 0)⟩, hb⟩
    · rw [if_neg hj]
      refine ⟨_, _, _, rfl, Bytes.rest hp (k - q) (by omega) _ ?_, hb⟩
      rintro b o rfl hlt
      rw [if_neg (by omega)]
      simp [codec.add_none]
theorem parse_len {l a b : List Nat} (h : parseL l = some (a, b)) : a.length ≤ l.length ∧ b.length ≤ l.length := by
  unfold parseL at h
  split at h
  · cases h
    rw [List.length_take, List.length_drop]
    omega
  · cases h
theorem not_flag {w : World} {g : Nat} {f : Bool} {t : TypeId} {A : Option Addr} {n : Nat} {l : List Nat} (h : w.heap[g]? = some (.cells #[.bool f] t (0, 0))) (hB : Bytes w A n l) {ad : Addr} (e : A = some ad) (h0 : 0 < n) : ad.block ≠ g := by
  rintro rfl
  obtain ⟨b, o, e', hc⟩ := hB.2.2 h0
  rw [e] at e'
  cases e'
  have := hc 0 h0
  rw [Nat.add_zero] at this
  cases o with
  | zero => simp [World.cell?, h] at this
  | succ o => simp [World.cell?, h] at this
theorem row_bytes {w : World} {B n c : Nat} {A : Option Addr} {l : List Nat} (h : w.ownsRow B 5 1 (.slice A n c) l.length (vals l)) (hl : ∀ b ∈ l, b < 256) : Bytes w A n l ∧ n ≤ c ∧ c ≤ 9223372036854775807 := by
  rcases h.2 with ⟨e, h0⟩ | ⟨g, cap, cur, e, hB, hg, hc, hm, _⟩
  · cases e
    exact ⟨⟨h0, hl, fun h => absurd h (Nat.lt_irrefl 0)⟩, Nat.le_refl _, Nat.zero_le _⟩
  · cases e
    refine ⟨⟨rfl, hl, fun _ => ⟨g, 0, rfl, fun i hi => ?_⟩⟩, hc, by unfold maxLen at hm; omega⟩
    have := World.ownsRow.cells h (g := g) rfl i (.int .u8 (l.getD i 0 : Nat)) (by simp [vals, List.getD, hi])
    rw [codec.add_none] at this
    exact this
theorem own_slice {w : World} {B n : Nat} {e : TypeId} {v : Value} {xs : List Value} {k : Nat} (h : w.ownsRow B e k v n xs) : ∃ A n' c, v = .slice A n' c := by
  rcases h.2 with ⟨rfl, _⟩ | ⟨g, cap, cur, rfl, _⟩
  · exact ⟨_, _, _, rfl⟩
  · exact ⟨_, _, _, rfl⟩
set_option maxHeartbeats 4000000 in
theorem field_any (W : World) (A : Option Addr) (N c : Nat) (l : List Nat) (nm : ByteArray) (hS : Sl W A N c l) (hN : N ≤ 60000) (hr : Room W) :
    Calls Tryz.prog 49 #[.slice A N c, .string nm] W fun e w' => e = .returned (.tuple #[.string (strOf (trimL (runF nm (false, []) (linesOf l)).2)), .bool (runF nm (false, []) (linesOf l)).1]) ∧ Below W.heap.size W w' := by
  have HS := Lib.hid hS
  have HN := Lib.hid hN
  have HR := Lib.hid hr
  clear hS hN hr
  refine (callsIn_wide (n := 6)).1 ?_
  refine callsIn_of_wp_marks Tryz.func49 rfl trivial ?_ rfl
  simp only [Tryz.ntmps49, List.size_toArray, List.length_cons, List.length_nil, Nat.reduceAdd, Nat.reduceSub, Array.replicate_succ, Array.replicate_zero, List.push_toArray, List.append_toArray, List.nil_append, List.cons_append]
  gi_wp2
  rw [show W.heap.size + 1 + 1 = W.heap.size + 2 from rfl]
  obtain ⟨W1, hW1⟩ : ∃ W1, W1 = ((W.alloc (.cells #[.string nm] 9)).alloc (.cells #[.slice none 0 0] 37)).alloc (.cells #[.bool false] 4) := ⟨_, rfl⟩
  rw [← hW1]
  have hz1 : W1.heap.size = W.heap.size + 3 := by rw [hW1]; simp
  have hb1 : Below W.heap.size W W1 := by rw [hW1]; exact (((Below.refl _ W).alloc (Nat.le_refl _) _).alloc (by simp) _).alloc (by simp; omega) _
  have hF1 : FS W nm (false, []) W1 := by
    refine ⟨.slice none 0 0, ?_, ?_, ?_, ⟨rfl, .inl ⟨rfl, rfl⟩⟩, by simp, hb1, by omega⟩
    · rw [hW1]
      have e1 : W.heap.size < ((W.alloc (.cells #[.string nm] 9)).alloc (.cells #[.slice none 0 0] 37)).heap.size := by simp; omega
      have e2 : W.heap.size < (W.alloc (.cells #[.string nm] 9)).heap.size := by simp
      exact ((Below.heap_alloc _ (.cells #[.bool false] 4) _ e1).trans (Below.heap_alloc _ (.cells #[.slice none 0 0] 37) _ e2)).trans (heap_alloc_new _ _)
    · rw [hW1]
      have e1 : W.heap.size + 1 < ((W.alloc (.cells #[.string nm] 9)).alloc (.cells #[.slice none 0 0] 37)).heap.size := by simp
      have := heap_alloc_new (W.alloc (.cells #[.string nm] 9)) (.cells #[.slice none 0 0] 37)
      exact (Below.heap_alloc _ (.cells #[.bool false] 4) _ e1).trans (by simpa using this)
    · rw [hW1]
      have := heap_alloc_new ((W.alloc (.cells #[.string nm] 9)).alloc (.cells #[.slice none 0 0] 37)) (.cells #[.bool false] 4)
      simpa using this
  have HZ1 := Lib.hid hz1
  have HB1 := Lib.hid hb1
  have HF1 := Lib.hid hF1
  clear hW1 hz1 hb1 hF1
  refine ⟨trivial, ?_⟩
  refine (lines_in 5 A N c W1).mono ?_
  rintro e w' ⟨rfl, rfl⟩
  rw [HZ1.out]
  obtain ⟨W2, hW2⟩ : ∃ W2, W2 = W1.alloc (.cells #[.slice A N c] 37) := ⟨_, rfl⟩
  rw [← hW2]
  have hz2 : W2.heap.size = W.heap.size + 4 := by rw [hW2]; simp [HZ1.out]
  have hb12 : Below W1.heap.size W1 W2 := by rw [hW2]; exact (Below.refl _ _).alloc (Nat.le_refl _) _
  have HZ2 := Lib.hid hz2
  have HB2 := Lib.hid (HB1.out.trans (hb12.mono HB1.out.size))
  have HF2 := Lib.hid (HF1.out.below hb12)
  have hc2 : W2.cell? ⟨W.heap.size + 3, 0, none⟩ = some (.slice A N c) := by rw [hW2, ← HZ1.out]; simp
  have HC2 := Lib.hid hc2
  clear hW2 hz2 hb12 hc2
  gi_wp2
  refine wpIn_rangeFunc_ownF rfl (by omega) (gf := 81) (lb := #[.pointer (some ⟨W.heap.size + 3, 0, none⟩)]) rfl trivial (enters_of Tryz.func81 (by kernel_rfl) rfl)
    (lines_stops 5 (by omega) (W.heap.size + 3) W A N c l HS.out HN.out HR.out W2 (by rw [HZ2.out]; omega) HB2.out.size HB2.out HC2.out) belowK_t (belowK_b (by rw [HZ2.out]; omega)) (Below.refl _ _) (fun _ => rfl)
    (fun pre W' => ∃ s, (goF nm (pre.map (·.1.2.2)) = some s ∧ s.2.length ≤ pre.length * 60000) ∧ FS W nm s W')
    (fun j pre W' => ∃ s, (j = .exit 0 ∧ ∀ r, runF nm (false, []) (pre.map (·.1.2.2) ++ r) = s) ∧ FS W nm s W')
    (FS.own W nm (fun (pre : List (Lin W)) s => goF nm (pre.map (·.1.2.2)) = some s ∧ s.2.length ≤ pre.length * 60000) _ (by rw [HZ2.out]; omega))
    (fun j => FS.own W nm (fun (pre : List (Lin W)) s => j = .exit 0 ∧ ∀ r, runF nm (false, []) (pre.map (·.1.2.2) ++ r) = s) _ (by rw [HZ2.out]; omega))
    ⟨(false, []), ⟨rfl, Nat.zero_le _⟩, HF2.out⟩
    (fun x => { tmps := #[.slice A N c, .string nm, undef, .pointer (some ⟨W.heap.size, 0, none⟩), .string ⟨#[]⟩, .bool false, .pointer (some ⟨W.heap.size + 1, 0, none⟩), .pointer (some ⟨W.heap.size + 2, 0, none⟩), linV x, undef, undef, .slice A N c, .func (.func 81) #[] #[.pointer (some ⟨W.heap.size + 3, 0, none⟩)], linV x, undef, undef, undef, undef, undef, undef, undef, undef, undef, undef, undef, undef, undef, undef, undef, undef, undef, undef, undef, undef, undef, undef, undef, undef, undef, undef, undef, undef, undef, undef], defers := [] }) ?assign ?body ?done ?stop
  case assign =>
    intro k x W' K hK
    gi_wp2
    exact hK
  case body =>
    rintro k pre ⟨⟨B, d, L⟩, hx⟩ W' ⟨⟨f, v⟩, ⟨hgo, hvl⟩, hF⟩ hlt
    simp only [] at hx hvl
    have HF := Lib.hid hF
    obtain ⟨u, h1, h2, h3, h4, h5, h6, h7⟩ := hF
    have HXS := Lib.hid (show Sl W' B L.length d L from hx.1.below' h6)
    have HXL := Lib.hid hx.2
    have HVl := Lib.hid (show v.length + L.length ≤ 100000000000 by have h8 := hx.2.2; have h9 := HN.out; have : pre.length * 60000 ≤ 60001 * 60000 := Nat.mul_le_mul (by omega) (Nat.le_refl _); omega)
    have HVn := Lib.hid (show ∀ y : List Nat, y.length ≤ L.length → (v ++ y).length ≤ (pre ++ [(⟨(B, d, L), hx⟩ : Lin W)]).length * 60000 from fun y hy => by
      have h8 := hx.2.2
      rw [List.length_append, List.length_append]
      simp
      omega)
    have HVm := Lib.hid (show v.length ≤ (pre ++ [(⟨(B, d, L), hx⟩ : Lin W)]).length * 60000 by have := HVn.out [] (Nat.zero_le _); rwa [List.append_nil] at this)
    have HU := Lib.hid (And.intro h2 h4)
    have HS3 := Lib.hid h7
    have HBW := Lib.hid h6
    have HSn := Lib.hid (show ∀ s, stepF nm (f, v) L = s → stopB (f, v) L = false → goF nm ((pre ++ [(⟨(B, d, L), hx⟩ : Lin W)]).map (·.1.2.2)) = some s from fun s h1 h2 => by
      rw [List.map_append, show [(⟨(B, d, L), hx⟩ : Lin W)].map (·.1.2.2) = [L] from rfl, goF_snoc, hgo, Option.bind_some, h2, h1]
      rfl)
    have HSx := Lib.hid (show stopB (f, v) L = true → ∀ r, runF nm (false, []) ((pre ++ [(⟨(B, d, L), hx⟩ : Lin W)]).map (·.1.2.2) ++ r) = (f, v) from fun h r => by
      rw [List.map_append, show [(⟨(B, d, L), hx⟩ : Lin W)].map (·.1.2.2) = [L] from rfl, List.append_assoc, goF_run hgo, List.singleton_append, runF, if_pos h])
    have c1 := cell_at h1 0 _ rfl
    have c2 := cell_at h2 0 _ rfl
    have c3 := cell_at h3 0 _ rfl
    have z2 := frozen_of_row _ _ 0 _ _ h2
    have z3 := frozen_of_row _ _ 0 _ _ h3
    have hl0 : linV (⟨(B, d, L), hx⟩ : Lin W) = .slice B L.length d := rfl
    rw [hl0]
    generalize pre ++ [(⟨(B, d, L), hx⟩ : Lin W)] = pre2 at *
    have HR1 := Lib.hid (HR.out.below' h6)
    clear hgo hvl h1 h2 h3 h4 h5 h6 h7 hlt hl0 hx
    cases f with
    | true =>
      have HG := Lib.hid (goesOn_any W' B L.length d L HXS.out.1 HXL.out.1)
      cases hg : goB L with
      | false =>
        have HE := Lib.hid (HSx.out (by unfold stopB; rw [hg]; rfl))
        rw [hg] at HG
        clear hg
        gi_wp2
        refine ⟨trivial, ?_⟩
        refine (CallsIn.inRound k (callsIn_wide.2 HG.out)).mono ?_
        rintro e w3 ⟨rfl, hw⟩
        replace hw := hw.symm
        subst hw
        gi_wp2
        exact ⟨KeepsOthers.refl _, _, ⟨rfl, HE.out⟩, HF.out⟩
      | true =>
        have HE := Lib.hid (HSn.out (true, v ++ L) rfl (by unfold stopB; rw [hg]; rfl))
        rw [hg] at HG
        clear hg
        gi_wp2
        refine ⟨trivial, ?_⟩
        refine (CallsIn.inRound k (callsIn_wide.2 HG.out)).mono ?_
        rintro e w3 ⟨rfl, hw⟩
        replace hw := hw.symm
        subst hw
        gi_wp2_with (gi_at_builtin; refine wpListIn_append_bytes rfl (.tmp 21) (.tmp 22) rfl (W.heap.size + 3) u v rfl HU.out.2 HS3.out B L.length d L rfl HXS.out.1 HXS.out.2.2.2 HVl.out ?_; intro u' w4 ho hg _; obtain ⟨A4, n4, c4, rfl⟩ := own_slice ho; have HP4 := Lib.hid (HF.out.put HU.out.1 HXS.out.1.2.1 ho hg); have c24 := cell_at HP4.out.2.2.2 0 _ rfl; have z24 := frozen_of_row _ _ 0 _ _ HP4.out.2.2.2; clear ho hg)
        exact ⟨HP4.out.2.1, HP4.out.2.2.1, (true, v ++ L), ⟨HE.out, HVn.out L (Nat.le_refl _)⟩, HP4.out.1⟩
    | false =>
      have HPa := Lib.hid (parse_any W' B L.length d L HXS.out (by have := HXL.out; omega) HR1.out)
      gi_wp2
      refine ⟨trivial, ?_⟩
      gi_wp2
      refine ⟨trivial, ?_⟩
      refine (CallsIn.inRound k (callsIn_wide.2 HPa.out)).mono ?_
      rintro e w3 ⟨A1, n1, c1', A2, n2, c2', rfl, hp, hb3⟩
      have HF3 := Lib.hid (HF.out.below hb3)
      have HB3 := Lib.hid hb3
      have HPr := Lib.hid hp
      clear hp
      obtain ⟨w4, hw4⟩ : ∃ w4, w4 = w3.alloc (.cells #[.slice A1 n1 c1', .slice A2 n2 c2'] 106) := ⟨_, rfl⟩
      have hb4 : Below W'.heap.size W' w4 := by rw [hw4]; exact hb3.alloc hb3.size _
      have HF4 := Lib.hid (HF.out.below hb4)
      have HB4 := Lib.hid hb4
      have HK4 := Lib.hid (keeps_of hb4)
      have HB4n := Lib.hid (show Below W.heap.size W' w4 from hb4.mono (by have := HS3.out; omega))
      have HW4 := Lib.hid hw4
      clear hb3 hb4 hw4
      cases hpl : parseL L with
      | none =>
        have HE := Lib.hid (HSn.out (false, v) (by unfold stepF; rw [hpl]; rfl) rfl)
        clear hpl
        gi_wp2
        refine ⟨trivial, ?_⟩
        rw [← HW4.out]
        gi_wp2
        exact ⟨HK4.out, HB4n.out, (false, v), ⟨HE.out, HVm.out⟩, HF4.out⟩
      | some ab =>
        obtain ⟨a, b⟩ := ab
        obtain ⟨hsa, hsb⟩ := HPr.out a b hpl
        have hab := parse_len hpl
        have HSa := Lib.hid (hsa.below' HB4.out)
        have HSb := Lib.hid hsb
        have HSm := Lib.hid (isSame_any w4 A1 n1 c1' a nm HSa.out.1 (by have h1 := hsa.1.1; have := HXL.out; omega))
        have HLb := Lib.hid (show b.length ≤ L.length ∧ n2 = b.length from ⟨hab.2, hsb.1.1.symm⟩)
        have HPl := Lib.hid hpl
        have hx4 : w4.heap[w3.heap.size]? = some (.cells #[.slice A1 n1 c1', .slice A2 n2 c2'] 106 (0, 0)) := by rw [HW4.out]; exact heap_alloc_new _ _
        have HX4 := Lib.hid hx4
        have c14 : (w3.alloc (.cells #[.slice A1 n1 c1', .slice A2 n2 c2'] 106)).cell? ⟨W.heap.size, 0, none⟩ = some (.string nm) := by
          rw [← HW4.out]
          obtain ⟨_, h1, _⟩ := HF4.out
          exact cell_at h1 0 _ rfl
        clear hpl hsa hsb hab hx4
        gi_wp2
        refine ⟨trivial, ?_⟩
        rw [← HW4.out]
        refine (CallsIn.inRound k (callsIn_wide.2 HSm.out)).mono ?_
        rintro e w5 ⟨rfl, hb5⟩
        have HB5 := Lib.hid hb5
        have HK5 := Lib.hid (HK4.out.trans (keeps_of hb5))
        have HB5n := Lib.hid (HB4n.out.trans (hb5.mono (by have := HB4.out.size; have := HS3.out; omega)))
        have HF5 := Lib.hid (HF4.out.below hb5)
        have hx5 := (hb5.block _ (Array.getElem?_eq_some_iff.1 HX4.out).1).trans HX4.out
        have d0 := cell_at hx5 0 _ rfl
        have d1 := cell_at hx5 1 _ rfl
        have HNe := Lib.hid (show W.heap.size + 2 < w3.heap.size by have := HS3.out; have := HB3.out.size; omega)
        clear c14 hb5 hx5
        cases hsm : sameB a nm with
        | false =>
          have HE := Lib.hid (HSn.out (false, v) (by unfold stepF; rw [HPl.out]; simp [hsm]) rfl)
          clear hsm
          gi_wp2
          exact ⟨HK5.out, HB5n.out, (false, v), ⟨HE.out, HVm.out⟩, HF5.out⟩
        | true =>
          have HE := Lib.hid (HSn.out (true, v ++ b) (by unfold stepF; rw [HPl.out]; simp [hsm]) rfl)
          have HF6 := Lib.hid HF5.out.find
          obtain ⟨u5, e1, e2, e3, e4, -⟩ := HF5.out
          obtain ⟨u6, f1, f2, f3, f4, -, -, f7⟩ := HF6.out
          have hu6 : u6 = u5 := by
            rw [heap_setCell_other _ _ _ _ (by simp), e2] at f2
            simpa using f2.symm
          subst hu6
          have x2 := cell_at e2 0 _ rfl
          have x3 := cell_at e3 0 _ rfl
          have y3 := frozen_of_row _ _ 0 _ _ e3
          have HU6 := Lib.hid (And.intro f2 (And.intro f4 f7))
          have hne1 : ¬ w3.heap.size = W.heap.size + 2 := by have := HNe.out; omega
          have hne2 : ¬ W.heap.size + 2 = w3.heap.size := by have := HNe.out; omega
          have HSb6 := Lib.hid (show Sl (w5.setCell ⟨W.heap.size + 2, 0, none⟩ (.bool true)) A2 n2 c2' b from ⟨(HSb.out.1.below HSb.out.1.lt ((HB4.out.trans (HB5.out.mono HB4.out.size)))).kept fun ad e0 h0 => heap_setCell_other _ _ _ _ (fun e' => not_flag (let ⟨_, _, _, h3, _⟩ := HF.out; h3) HSb.out.1 e0 h0 e'), HSb.out.2⟩)
          have HBd := Lib.hid (show v.length + n2 ≤ 100000000000 by have := HVl.out; have := HLb.out; omega)
          have HK6 := Lib.hid (HK5.out.trans (KeepsOthers.setCell w5 ⟨W.heap.size + 2, 0, none⟩ (.bool true)))
          have HB6n := Lib.hid (HB5n.out.setCell (p := ⟨W.heap.size + 2, 0, none⟩) (by show W.heap.size ≤ W.heap.size + 2; omega) (.bool true))
          clear hsm e1 e2 e3 e4 f1 f2 f3 f4 f7
          gi_wp2_with (gi_at_builtin; refine wpListIn_append_bytes rfl (.tmp 36) (.tmp 38) rfl (W.heap.size + 3) u6 v rfl HU6.out.2.1 HU6.out.2.2 A2 n2 c2' b rfl HSb6.out.1 HSb6.out.2.2.2 HBd.out ?_; intro u' w7 ho hg _; obtain ⟨A7, n7, c7, rfl⟩ := own_slice ho; have HP7 := Lib.hid (HF6.out.put HU6.out.1 HSb6.out.1.2.1 ho hg); have c27 := cell_at HP7.out.2.2.2 0 _ rfl; have z27 := frozen_of_row _ _ 0 _ _ HP7.out.2.2.2; clear ho hg)
          exact ⟨HK6.out.trans HP7.out.2.1, HB6n.out.trans HP7.out.2.2.1, (true, v ++ b), ⟨HE.out, HVn.out b HLb.out.1⟩, HP7.out.1⟩
  case done =>
    rintro D ys W' hD hys ⟨⟨f, v⟩, ⟨hgo, -⟩, hF⟩ hK
    have HRun := Lib.hid (show runF nm (false, []) (linesOf l) = (f, v) by have := goF_run (r := []) hgo; rw [List.append_nil, hys] at this; exact this)
    have HF := Lib.hid hF
    have HK := Lib.hid hK
    have HD := Lib.hid hD
    clear hgo hys hF hK hD
    gi_wp2
    refine wpIn_wide.2 ?_
    obtain ⟨u, -, h2, h3, h4, h5, h6, h7⟩ := HF.out
    obtain ⟨A5, n5, c5, rfl⟩ := own_slice h4
    obtain ⟨hb5, hn5, hc5⟩ := row_bytes h4 h5
    have HTr := Lib.hid (trim_any W'.drew A5 n5 c5 v (hb5.drewN 1) hn5 hc5)
    have H2 := Lib.hid h2
    have H3 := Lib.hid h3
    have H6 := Lib.hid h6
    have H7 := Lib.hid h7
    clear h2 h3 h4 h5 h6 h7 hb5 hn5 hc5
    refine wp_region_noPanic ?_
    refine wp_region_held_drew (S := fun w' => Below W'.heap.size W' w') (by kernel_rfl) (codec.below_draws (Below.refl _ _) 1) (fun hHeld => ?_)
    refine wpAnyH_take (i := 0) (v := ?_) rfl (by kernel_rfl) (by kernel_rfl) (by kernel_rfl) (fun _ _ _ h => h) (Or.inl ⟨by kernel_rfl, ?_⟩) hHeld ?_
    rotate_left
    · (intro w' hw'; have hc := cell_at ((hw'.block _ (Array.getElem?_eq_some_iff.1 H2.out).1).trans H2.out) 0 _ rfl; go_simp; first | done | with_reducible rfl)
    refine wpAnyH_take (i := 3) (v := ?_) rfl (by kernel_rfl) (by kernel_rfl) (by kernel_rfl) (fun _ _ _ h => h) (Or.inl ⟨by kernel_rfl, ?_⟩) hHeld ?_
    rotate_left
    · (intro w' hw'; have hc := cell_at ((hw'.block _ (Array.getElem?_eq_some_iff.1 H3.out).1).trans H3.out) 0 _ rfl; go_simp; first | done | with_reducible rfl)
    refine wpAnyH_ready (rs := [1]) (by kernel_rfl) (by simp) ?_
    refine AllReadyH.cons rfl (fun K hK => ?_) AllReadyH.nil
    go_simp
    refine HTr.out.mono ?_
    rintro e w6 ⟨R, m, d, rfl, hbR, hb6⟩
    have HB6 := Lib.hid (show Below W'.heap.size W' w6 from (codec.below_draws (Below.refl _ _) 1).trans hb6)
    have HBR := Lib.hid (show Bytes W' R m (trimL v) from hbR)
    clear hbR hb6
    go_wp2_with fail
    refine hK.out _ _ HB6.out (fun hH1 => ?_)
    clear hK K hHeld
    refine wpAnyH_take (i := 2) (v := ?_) rfl (by kernel_rfl) (by kernel_rfl) (by kernel_rfl) (fun _ _ _ h => h) (Or.inl ⟨by kernel_rfl, ?_⟩) hH1 ?_
    rotate_left
    · (intro w' hw'; have hcv := Bytes.text (HBR.out.below HBR.out.lt hw') d; go_simp; first | done | with_reducible rfl)
    refine wpAnyH_take (i := 4) (v := ?_) rfl (by kernel_rfl) (by kernel_rfl) (by kernel_rfl) (fun _ _ _ h => h) (Or.inl ⟨by kernel_rfl, ?_⟩) hH1 ?_
    rotate_left
    · (intro w' hw'; go_simp; first | done | with_reducible rfl)
    refine wpAnyH_take (i := 5) (v := ?_) rfl (by kernel_rfl) (by kernel_rfl) (by kernel_rfl) (fun _ _ _ h => h) (Or.inl ⟨by kernel_rfl, ?_⟩) hH1 ?_
    rotate_left
    · (intro w' hw'; go_simp; first | done | with_reducible rfl)
    refine wpAnyH_done (by kernel_rfl) ?_ _
    refine NoPanic.normal ?_
    go_simp
    have HK6 := Lib.hid (show w6.heap[D]? = some (.deferred (some [])) from (HB6.out.block _ (Array.getElem?_eq_some_iff.1 HK.out).1).trans HK.out)
    have HF6 := Lib.hid (show Below W.heap.size W w6 from H6.out.trans (HB6.out.mono (by have := H7.out; omega)))
    gi_wp2
    refine ⟨by simp, .inl ⟨_, _, rfl, run_takeDeferred HK6.out, ?_⟩⟩
    exact ⟨_, results_tmp2 rfl _ _ _, by rw [HRun.out]; rfl, HF6.out.trans (belowK_b (w := W) (Nat.le_refl _) w6 D _ _ (by have := HD.out; have := HZ2.out; omega) HK6.out rfl rfl)⟩
  case stop =>
    rintro D j pre W' hD ⟨r, hr⟩ ⟨⟨f, v⟩, ⟨rfl, hgo⟩, hF⟩ hK
    have HRun := Lib.hid (show runF nm (false, []) (linesOf l) = (f, v) by rw [← hr]; exact hgo r)
    have HF := Lib.hid hF
    have HK := Lib.hid hK
    have HD := Lib.hid hD
    clear hgo hr hF hK hD
    gi_wp2
    refine wpIn_wide.2 ?_
    obtain ⟨u, -, h2, h3, h4, h5, h6, h7⟩ := HF.out
    obtain ⟨A5, n5, c5, rfl⟩ := own_slice h4
    obtain ⟨hb5, hn5, hc5⟩ := row_bytes h4 h5
    have HTr := Lib.hid (trim_any W'.drew A5 n5 c5 v (hb5.drewN 1) hn5 hc5)
    have H2 := Lib.hid h2
    have H3 := Lib.hid h3
    have H6 := Lib.hid h6
    have H7 := Lib.hid h7
    clear h2 h3 h4 h5 h6 h7 hb5 hn5 hc5
    refine wp_region_noPanic ?_
    refine wp_region_held_drew (S := fun w' => Below W'.heap.size W' w') (by kernel_rfl) (codec.below_draws (Below.refl _ _) 1) (fun hHeld => ?_)
    refine wpAnyH_take (i := 0) (v := ?_) rfl (by kernel_rfl) (by kernel_rfl) (by kernel_rfl) (fun _ _ _ h => h) (Or.inl ⟨by kernel_rfl, ?_⟩) hHeld ?_
    rotate_left
    · (intro w' hw'; have hc := cell_at ((hw'.block _ (Array.getElem?_eq_some_iff.1 H2.out).1).trans H2.out) 0 _ rfl; go_simp; first | done | with_reducible rfl)
    refine wpAnyH_take (i := 3) (v := ?_) rfl (by kernel_rfl) (by kernel_rfl) (by kernel_rfl) (fun _ _ _ h => h) (Or.inl ⟨by kernel_rfl, ?_⟩) hHeld ?_
    rotate_left
    · (intro w' hw'; have hc := cell_at ((hw'.block _ (Array.getElem?_eq_some_iff.1 H3.out).1).trans H3.out) 0 _ rfl; go_simp; first | done | with_reducible rfl)
    refine wpAnyH_ready (rs := [1]) (by kernel_rfl) (by simp) ?_
    refine AllReadyH.cons rfl (fun K hK => ?_) AllReadyH.nil
    go_simp
    refine HTr.out.mono ?_
    rintro e w6 ⟨R, m, d, rfl, hbR, hb6⟩
    have HB6 := Lib.hid (show Below W'.heap.size W' w6 from (codec.below_draws (Below.refl _ _) 1).trans hb6)
    have HBR := Lib.hid (show Bytes W' R m (trimL v) from hbR)
    clear hbR hb6
    go_wp2_with fail
    refine hK.out _ _ HB6.out (fun hH1 => ?_)
    clear hK K hHeld
    refine wpAnyH_take (i := 2) (v := ?_) rfl (by kernel_rfl) (by kernel_rfl) (by kernel_rfl) (fun _ _ _ h => h) (Or.inl ⟨by kernel_rfl, ?_⟩) hH1 ?_
    rotate_left
    · (intro w' hw'; have hcv := Bytes.text (HBR.out.below HBR.out.lt hw') d; go_simp; first | done | with_reducible rfl)
    refine wpAnyH_take (i := 4) (v := ?_) rfl (by kernel_rfl) (by kernel_rfl) (by kernel_rfl) (fun _ _ _ h => h) (Or.inl ⟨by kernel_rfl, ?_⟩) hH1 ?_
    rotate_left
    · (intro w' hw'; go_simp; first | done | with_reducible rfl)
    refine wpAnyH_take (i := 5) (v := ?_) rfl (by kernel_rfl) (by kernel_rfl) (by kernel_rfl) (fun _ _ _ h => h) (Or.inl ⟨by kernel_rfl, ?_⟩) hH1 ?_
    rotate_left
    · (intro w' hw'; go_simp; first | done | with_reducible rfl)
    refine wpAnyH_done (by kernel_rfl) ?_ _
    refine NoPanic.normal ?_
    go_simp
    have HK6 := Lib.hid (show w6.heap[D]? = some (.deferred (some [])) from (HB6.out.block _ (Array.getElem?_eq_some_iff.1 HK.out).1).trans HK.out)
    have HF6 := Lib.hid (show Below W.heap.size W w6 from H6.out.trans (HB6.out.mono (by have := H7.out; omega)))
    gi_wp2
    refine ⟨by simp, .inl ⟨_, _, rfl, run_takeDeferred HK6.out, ?_⟩⟩
    exact ⟨_, results_tmp2 rfl _ _ _, by rw [HRun.out]; rfl, HF6.out.trans (belowK_b (w := W) (Nat.le_refl _) w6 D _ _ (by have := HD.out; have := HZ2.out; omega) HK6.out rfl rfl)⟩
end Go.Proofs.YtcepcamedmiinaaGreatDoor.hd
namespace Go.Proofs.YtcepcamedmiinaaGreatDoor.hd
open Go.ChangeShapes Go.WideShapes Go.ChangeAt Go.RowKit
open Go.Proofs.YtcepcamedmiinaaGreatDoor.codec (Bytes vals)
set_option linter.unusedVariables false
set_option maxRecDepth 100000
set_option linter.unusedSimpArgs false

theorem Room.of_shape {w : World} (h : w.ShapedOpen Tryz.prog) : Room w :=
  cell_of_shapedOpen_int (t := 3) (zero := #[.int .i64 0]) h (of_decide_eq_true (by kernel_rfl)) (by kernel_rfl) rfl (by kernel_rfl) (by kernel_rfl) Tryz.underlying3
def lit : List Nat := [65, 58, 32, 98, 13, 10, 32, 99, 13, 10, 13, 10]
theorem lit_field : trimL (runF ⟨#[97]⟩ (false, []) (linesOf lit)).2 = [98, 32, 99] ∧ (runF ⟨#[97]⟩ (false, []) (linesOf lit)).1 = true := by decide +kernel
end Go.Proofs.YtcepcamedmiinaaGreatDoor.hd
