/- Acts that come in, and how many they are. -/
import Derived.Test.YtedhbcaakdfcbaaY
namespace Go.Proofs.Ytedhbcaakdfcbaa.disk
open Go.ChangeShapes Go.WideShapes Go.ChangeAt Go.RowKit Go.Maps Go.WideMaps Go.Sort Go.Shelf
set_option linter.unusedVariables false
set_option linter.unusedSimpArgs false

/-- An act. -/
structure ActV where
  kind : Nat
  a : ByteArray
  b : ByteArray
  at_ : Int
  dA : Option Addr
  dn : Nat
  dc : Nat
  data : List Nat
  kA : Option Addr
  kn : Nat
  kc : Nat
  keep : List Int
instance : Inhabited ActV := ⟨⟨0, ⟨#[]⟩, ⟨#[]⟩, 0, none, 0, 0, [], none, 0, 0, []⟩⟩
/-- An act, as it lies in memory, below B. -/
structure ActIs (w : World) (B b o : Nat) (x : ActV) : Prop where
  low : b < B
  kind : w.cell? ⟨b, o, none⟩ = some (.int .u8 (x.kind : Nat))
  ca : w.cell? ⟨b, o + 1, none⟩ = some (.string x.a)
  cb : w.cell? ⟨b, o + 2, none⟩ = some (.string x.b)
  at_ : w.cell? ⟨b, o + 3, none⟩ = some (.int .i64 x.at_)
  data : w.cell? ⟨b, o + 4, none⟩ = some (.slice x.dA x.dn x.dc)
  keep : w.cell? ⟨b, o + 5, none⟩ = some (.slice x.kA x.kn x.kc)
  bytes : Bytes w x.dA x.dn x.data
  blow : ∀ ad, x.dA = some ad → 0 < x.dn → ad.block < B
  ints : Ints w x.kA x.kn x.keep
  ilow : ∀ ad, x.kA = some ad → 0 < x.kn → ad.block < B
  dnil : x.dA = none → x.dc = 0
  dle : x.dn ≤ x.dc
  k256 : x.kind < 256
  sa : x.a.size ≤ 140737488355328
  sb : x.b.size ≤ 140737488355328
  sd : x.dn ≤ 140737488355328
  sk : x.kn ≤ 140737488355328
/-- A slice of acts that came in. -/
def Acts (w : World) (B : Nat) (A : Option Addr) (n : Nat) (L : List ActV) : Prop :=
  L.length = n ∧ n ≤ maxLen ∧ (0 < n → ∃ b o, A = some ⟨b, o, none⟩ ∧ ∀ i, i < n → ActIs w B b (o + i * 6) (L.getD i default))
theorem ActIs.touch {F : Nat → Prop} {w w' : World} {B b o : Nat} {x : ActV} (h : ActIs w B b o x) (hF : ∀ j, j < B → ¬ F j) (ht : Touch F w w') : ActIs w' B b o x := by
  have hh := ht.2.2.2.2 b (block_lt_of_cell h.kind) (hF b h.low)
  have e : ∀ j, w'.cell? ⟨b, j, none⟩ = w.cell? ⟨b, j, none⟩ := fun j => by simp [World.cell?, hh]
  exact ⟨h.low, (e _).trans h.kind, (e _).trans h.ca, (e _).trans h.cb, (e _).trans h.at_, (e _).trans h.data, (e _).trans h.keep, h.bytes.touch (fun ad e0 h0 => hF _ (h.blow ad e0 h0)) ht, h.blow, h.ints.touch (fun ad e0 h0 => hF _ (h.ilow ad e0 h0)) ht, h.ilow, h.dnil, h.dle, h.k256, h.sa, h.sb, h.sd, h.sk⟩
theorem Acts.touch {F : Nat → Prop} {w w' : World} {B : Nat} {A : Option Addr} {n : Nat} {L : List ActV} (h : Acts w B A n L) (hF : ∀ j, j < B → ¬ F j) (ht : Touch F w w') : Acts w' B A n L :=
  ⟨h.1, h.2.1, fun h0 => by obtain ⟨b, o, e, hc⟩ := h.2.2 h0; exact ⟨b, o, e, fun i hi => (hc i hi).touch hF ht⟩⟩
theorem Acts.at_ {w : World} {B : Nat} {A : Option Addr} {n : Nat} {L : List ActV} (h : Acts w B A n L) {k : Nat} (hk : k < n) : ∃ b o x, A = some ⟨b, o, none⟩ ∧ x = L.getD k default ∧ ActIs w B b (o + k * 6) x := by
  obtain ⟨b, o, rfl, hc⟩ := h.2.2 (by omega)
  exact ⟨b, o, _, rfl, rfl, hc k hk⟩
def ActV.len (x : ActV) : Nat := x.a.size + x.b.size + x.dn + x.kn
def tot (L : List ActV) : Nat := (L.map (·.len)).sum
theorem tot_take (L : List ActV) (k : Nat) (hk : k < L.length) : tot (L.take (k + 1)) = tot (L.take k) + (L.getD k default).len := by
  have : L.take (k + 1) = L.take k ++ [L.getD k default] := by
    rw [List.take_add_one]
    simp [List.getD, hk]
  rw [this]
  simp [tot]
theorem tot_le (L : List ActV) (k : Nat) : tot (L.take k) ≤ tot L := by
  have := List.take_append_drop k L
  have e : tot L = tot (L.take k) + tot (L.drop k) := by
    unfold tot
    rw [← List.sum_append_nat, ← List.map_append, this]
  omega
set_option maxRecDepth 50000 in
set_option maxHeartbeats 4000000 in
theorem few_exact (w : World) (B : Nat) (A : Option Addr) (n c : Nat) (L : List ActV) (most : Nat) (hm : most ≤ 1000) (h : Acts w B A n L) :
    Calls Try.prog 7 #[.slice A n c, .int .i64 most] w fun e w' => e = .returned (.bool (decide (n ≤ most ∧ tot L ≤ 100000))) ∧ Below w.heap.size w w' := by
  have hn := h.2.1
  unfold maxLen at hn
  have HI := Lib.hid h
  clear h
  obtain ⟨R, hR⟩ : ∃ R, R = decide (n ≤ most ∧ tot L ≤ 100000) := ⟨_, rfl⟩
  have HR := Lib.hid hR
  rw [← hR]
  clear hR
  go_enter Try.func7, Try.ntmps7
  go_wp2
  go_loopw [5, 9] (fun v i wr => ∃ k z : Nat, k ≤ n ∧ k ≤ most ∧ i = .int .i64 k ∧ v = .int .i64 z ∧ z = tot (L.take k) ∧ z ≤ 100000 ∧ Below w.heap.size w wr ∧ Acts wr B A n L) (fun _ i _ => n - (intOf i).toNat)
  case atStart => exact ⟨0, 0, by omega, by omega, rfl, rfl, by simp [tot], by omega, Below.refl _ _, HI.out⟩
  case round =>
    obtain ⟨k, z, hk, hk1, rfl, rfl, hz, hz2, hb, hac⟩ := hrel
    by_cases hlt : k < n
    · obtain ⟨b', o', x, rfl, hx, hi⟩ := hac.at_ hlt
      have hkl : k < L.length := by have := HI.out.1; omega
      have HZ := Lib.hid (show tot (L.take (k + 1)) = z + x.len by rw [tot_take L k hkl, ← hz, hx])
      have h1 := hi.ca
      have h2 := hi.cb
      have h3 := hi.data
      have h4 := hi.keep
      have s1 := hi.sa
      have s2 := hi.sb
      have s3 := hi.sd
      have s4 := hi.sk
      have HB := Lib.hid hb
      have HA := Lib.hid hac
      clear hi hx hz hb hac
      have hL : x.len = x.a.size + x.b.size + x.dn + x.kn := rfl
      by_cases hbig : k = most ∨ 100000 < z + x.len
      · have HF : Hid (R = false) := by
          show _ = _
          rw [HR.out, decide_eq_false_iff_not]
          have := tot_le L (k + 1)
          rw [HZ.out] at this
          rintro ⟨h1, h2⟩
          omega
        rw [hL] at hbig
        clear hL
        by_cases h100 : k = most
        · subst h100
          clear hbig
          go_wp2_with fail
          go_quiet (fail)
          go_wp2
          go_ret
          exact ⟨by rw [HF.out]; rfl, below_draws HB.out _⟩
        · have hbg : (100000 : Int) < (z : Int) + (x.a.size : Int) + (x.b.size : Int) + (x.dn : Int) + (x.kn : Int) := by omega
          have h101 : k < most := by omega
          clear hbig h100
          go_wp2_with fail
          go_quiet (fail)
          go_wp2
          go_ret
          exact ⟨by rw [HF.out]; rfl, below_draws HB.out _⟩
      · have hkm : k < most := by omega
        have hsm : ¬ (100000 : Int) < (z : Int) + (x.a.size : Int) + (x.b.size : Int) + (x.dn : Int) + (x.kn : Int) := by omega
        have hsn : z + (x.a.size + x.b.size + x.dn + x.kn) ≤ 100000 := by omega
        clear hbig hL
        go_wp2_with fail
        go_quiet (fail)
        go_wp2
        go_roundw
        case rel => exact ⟨k + 1, z + (x.a.size + x.b.size + x.dn + x.kn), by omega, by omega, by go_num, by go_num, HZ.out.symm, hsn, below_draws HB.out _, HA.out.touch (F := fun _ => False) (fun _ _ h => h) ((Touch.refl _ _).drewN _)⟩
        case measure => simp [intOf]; omega
    · obtain rfl : k = n := by omega
      have HT : Hid (R = true) := by
        show _ = _
        rw [HR.out, decide_eq_true_eq]
        refine ⟨hk1, ?_⟩
        rw [List.take_of_length_le (by have := HI.out.1; omega)] at hz
        omega
      have HB := Lib.hid hb
      clear hz hb hac
      go_wp2
      go_ret
      exact ⟨by rw [HT.out]; rfl, HB.out⟩
end Go.Proofs.Ytedhbcaakdfcbaa.disk
