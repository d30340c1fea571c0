/- Tokens that came in, written down, are read as they were. -/
import Derived.Test.YtihcgbjmgfgenaaLexZf
import Derived.Test.YtihcgbjmgfgenaaArgIn
import Derived.HandedShaped
import Derived.Deep.Slices
import Derived.Deep.Fields
namespace Go.Proofs.Ytihcgbjmgfgenaa.lx
open Go.ChangeShapes Go.WideShapes Go.ChangeAt Go.RowKit
open Go.Proofs.Ytihcgbjmgfgenaa.codec (Bytes vals)
open Go.Proofs.Ytihcgbjmgfgenaa.row
set_option linter.unusedVariables false
set_option maxRecDepth 100000
set_option linter.unusedSimpArgs false

set_option maxHeartbeats 4000000 in
theorem back_walk (W : World) (A : Option Addr) (n c : Nat) (l : List Tk) (hR : Rd cT 2 W A n l) (hb : ∀ t ∈ l, ∀ x ∈ t.t, x < 256) (lits : Bool) (hr : Room W) :
    Calls Try.prog 4 #[.slice A n c, .bool lits] W fun e w' => e = .returned (.bool true) ∧ Below W.heap.size W w' := by
  have HW := Lib.hid (awake_any W)
  have HS := Lib.hid hR
  have HBy := Lib.hid hb
  have HR := Lib.hid hr
  clear hR hb hr
  by_cases hn : n ≤ 250
  · have q1 : decide ((250 : Int) < (n : Int)) = false := decide_eq_false (by omega)
    go_enter Try.func4, Try.ntmps4
    go_wp2_with fail
    refine HW.out.mono ?_
    rintro e w1 ⟨rfl, hb1⟩
    have HB1 := Lib.hid hb1
    have HS1 := Lib.hid (HS.out.below hb1)
    clear hb1
    go_wp2_with fail
    clear q1
    go_loop [21] (fun i => ∃ k : Nat, k ≤ n ∧ i = .int .i64 k ∧ Hid (∀ t ∈ l.take k, t.t.length ≤ 300)) (fun i => n - (intOf i).toNat)
    case atStart => exact ⟨0, Nat.zero_le _, rfl, Lib.hid (by simp)⟩
    case round =>
      obtain ⟨k, hk, rfl, HK⟩ := hrel
      by_cases hkn : k < n
      · have hkn' : (k : Int) < (n : Int) := by omega
        have e0 : IntKind.i64.wrap ((k : Int) + 1) = (k : Int) + 1 := IntWalk.i64_in _ (by omega)
        obtain ⟨b1, o1, ⟨K, T⟩, rfl, hy, c0, c1⟩ := tok_at HS1.out k hkn
        simp only at c0 c1
        obtain ⟨SX, hSX⟩ : ∃ SX, SX = strOf T := ⟨_, rfl⟩
        rw [← hSX] at c1
        have hsz : SX.size = T.length := by rw [hSX, strOf_size]
        by_cases hT : T.length ≤ 300
        · have q2 : decide ((300 : Int) < (SX.size : Int)) = false := decide_eq_false (by omega)
          have q3 : decide (300 < SX.size) = false := decide_eq_false (by omega)
          have HK2 := Lib.hid (show ∀ t ∈ l.take (k + 1), t.t.length ≤ 300 from by
            intro t ht
            rw [List.take_add_one, hy] at ht
            rcases List.mem_append.1 ht with ht | ht
            · exact HK.out t ht
            · simp at ht
              rw [ht]
              exact hT)
          clear hy hSX hsz hT
          go_wp2_with fail
          go_round
          case rel => first | exact ⟨k + 1, by omega, by go_num, HK2⟩ | ((repeat apply Exists.intro); exact ⟨⟨k + 1, by omega, by go_num, HK2⟩, rfl⟩)
          case measure => (show n - ((k : Int) + 1).toNat < n - k; omega)
        · have q2 : decide ((300 : Int) < (SX.size : Int)) = true := decide_eq_true (by omega)
          have q3 : decide (300 < SX.size) = true := decide_eq_true (by omega)
          clear hy hSX hsz hT
          go_wp2_with fail
          go_ret
          exact ⟨rfl, HB1.out⟩
      · obtain rfl : k = n := by omega
        have hln : l.length = k := HS.out.1
        have hT3 : ∀ t ∈ l, t.t.length ≤ 300 := by
          have h1 := HK.out
          rw [List.take_of_length_le (by omega)] at h1
          exact h1
        have HT3 := Lib.hid hT3
        have HSum := Lib.hid (show sumT l ≤ 100000 from by
          have h1 := sum_le 300 l hT3
          rw [hln] at h1
          omega)
        have HWr := Lib.hid (written_any w1 lits A k c l HS1.out hn (fun t ht => ⟨by have := hT3 t ht; omega, HBy.out t ht⟩))
        unfold WrAns at HWr
        have HLn := Lib.hid hln
        have hcv := fun (w' : World) (s : ByteArray) => Lib.run_convert_string_bytes (P := Try.prog) w' 9 22 5 s Try.underlying9 Try.underlying22 Try.underlying5
        clear hkn hln hT3
        go_wp2_with fail
        refine HWr.out.mono ?_
        rintro e w3 ⟨hb3, S, B, rfl, hBo, hSo⟩
        have HB3 := Lib.hid (HB1.out.trans (hb3.mono HB1.out.size))
        have HRd3 := Lib.hid (HS1.out.below hb3)
        cases B with
        | false =>
          clear hb3 hBo hSo hcv
          go_wp2_with fail
          go_ret
          exact ⟨rfl, HB3.out⟩
        | true =>
          have hok := hBo.1 rfl
          have HAg := Lib.hid (again_any w3 lits l S (hSo rfl) hok (fun t ht => by have := HT3.out t ht; omega) HBy.out HSum.out (HR.out.below HB3.out))
          rw [HLn.out] at HAg
          clear hb3 hBo hSo hok
          go_wp2_with fail
          refine HAg.out.mono ?_
          rintro e w5 ⟨A5, c5, rfl, hR5, hb5⟩
          have HB5 := Lib.hid (HB3.out.trans (hb5.mono HB3.out.size))
          have HR5 := Lib.hid hR5
          have HR3 := Lib.hid (HRd3.out.below hb5)
          clear hb5 hR5 hcv
          go_wp2_with fail
          go_loopw [57] (fun i wr => ∃ j : Nat, j ≤ k ∧ i = .int .i64 j ∧ Hid (Below w5.heap.size w5 wr)) (fun i _ => k - (intOf i).toNat)
          case atStart => exact ⟨0, Nat.zero_le _, rfl, Lib.hid (Below.refl _ _)⟩
          case round =>
            obtain ⟨j, hj, rfl, HBr⟩ := hrel
            by_cases hjn : j < k
            · have hjn' : (j : Int) < (k : Int) := by omega
              obtain ⟨b1, o1, y1, rfl, hy1, c1, c2⟩ := tok_at (HR5.out.below HBr.out) j hjn
              obtain ⟨b2, o2, y2, rfl, hy2, c3, c4⟩ := tok_at (HR3.out.below HBr.out) j hjn
              obtain rfl : y1 = y2 := by rw [hy1] at hy2; exact Option.some.inj hy2
              generalize y1.k = K at *
              generalize strOf y1.t = T at *
              clear hy1 hy2
              go_wp2_with fail
              go_quiet (fail)
              have HB6 := Lib.hid (codec.below_draws HBr.out nq)
              go_wp2_with fail
              go_roundw
              case rel => first | exact ⟨j + 1, by omega, by go_num, HB6⟩ | ((repeat apply Exists.intro); exact ⟨⟨j + 1, by omega, by go_num, HB6⟩, rfl⟩)
              case measure => (show k - ((j : Int) + 1).toNat < k - j; omega)
            · obtain rfl : j = k := by omega
              go_wp2_with fail
              go_ret
              exact ⟨rfl, HB5.out.trans (HBr.out.mono HB5.out.size)⟩
  · have q1 : decide ((250 : Int) < (n : Int)) = true := decide_eq_true (by omega)
    clear hn
    go_enter Try.func4, Try.ntmps4
    go_wp2_with fail
    refine HW.out.mono ?_
    rintro e w1 ⟨rfl, hb1⟩
    have HB1 := Lib.hid hb1
    have HW1 := Lib.hid (awake_any w1)
    clear hb1
    go_wp2_with fail
    refine HW1.out.mono ?_
    rintro e w2 ⟨rfl, hb2⟩
    have HB2 := Lib.hid (HB1.out.trans (hb2.mono HB1.out.size))
    clear hb2
    go_wp2_with fail
    go_ret
    exact ⟨rfl, HB2.out⟩
theorem strOf_bytes (s : ByteArray) : ∃ T : List Nat, s = strOf T ∧ ∀ x ∈ T, x < 256 := by
  refine ⟨s.data.toList.map UInt8.toNat, ?_, fun x hx => ?_⟩
  · apply ByteArray.ext
    unfold strOf
    simp only [List.map_map]
    have e : (UInt8.ofNat ∘ UInt8.toNat) = id := by funext x; simp
    rw [e, List.map_id]
  · obtain ⟨y, -, rfl⟩ := List.mem_map.1 hx
    exact UInt8.toNat_lt y
end Go.Proofs.Ytihcgbjmgfgenaa.lx
namespace Go.Proofs.Ytihcgbjmgfgenaa.cardIn
open Go.ChangeShapes Go.WideShapes Go.ChangeAt Go.RowKit
open Go.Deep (open_slice choose_lt)
open Go.Proofs.Ytihcgbjmgfgenaa.lx (Tk cT strOf strOf_bytes)
open Go.Proofs.Ytihcgbjmgfgenaa.row
set_option linter.unusedVariables false
set_option linter.unusedSimpArgs false
set_option maxRecDepth 100000

instance : Inhabited Tk := ⟨⟨0, []⟩⟩
theorem cellsTk : Try.prog.cellsOf 33 = 2 := by kernel_rfl
theorem cellsI : Try.prog.cellsOf 3 = 1 := by kernel_rfl
theorem cellsS : Try.prog.cellsOf 9 = 1 := by kernel_rfl
theorem tok_in {H : Type} {enc : TypeId × Value → H} {W : World} {n : Nat} {cs : List Value} {x : DataW H × List MemPlace} (hl : cs.length = 2) (h2 : DataW.trod enc Try.prog W 0 (fun _ => true) true n 33 cs = some x) :
    ∃ z : Tk, cs = cT z ∧ ∀ x ∈ z.t, x < 256 := by
  obtain ⟨xs, k, hk, hxy, _, hxl, hf⟩ := DataW.trod_struct Try.underlying33 h2
  match xs, hxl, cs, hl with
  | [y0, y1], _, [v0, v1], _ =>
    have g0 := hf 0 _ rfl
    have g1 := hf 1 _ rfl
    simp [cellsI, cellsS] at g0 g1
    obtain ⟨m, q0, _, w0⟩ := DataW.trod_int Try.underlying3 g0
    obtain ⟨s, q1, _⟩ := DataW.trod_string Try.underlying9 g1
    simp only [List.cons.injEq, and_true] at q0 q1
    subst q0 q1
    obtain ⟨T, rfl, hT⟩ := strOf_bytes s
    exact ⟨⟨m, T⟩, rfl, hT⟩
/-- Tokens that came in. -/
theorem toks_in {H : Type} {enc : TypeId × Value → H} {W : World} {A0 : Option Addr} {N0 C0 : Nat} {d0 : DataW H} {p0 : List MemPlace} (h0 : DataW.Trod enc Try.prog W 0 (fun _ => true) true 31 (.slice A0 N0 C0) d0 p0) :
    ∃ zs, Rd cT 2 W A0 N0 zs ∧ ∀ t ∈ zs, ∀ x ∈ t.t, x < 256 := by
  obtain ⟨fuel, hf⟩ := h0
  rcases open_slice Try.underlying31 hf with ⟨hcs, _⟩ | ⟨a, len, cap, m, n, D, Pl, hcs, _, hl, hm, hmm, hx, hel⟩
  · simp [Value.cells] at hcs
    obtain ⟨rfl, rfl, rfl⟩ := hcs
    exact ⟨[], Rd.empty W, by simp⟩
  · simp [Value.cells] at hcs
    obtain ⟨rfl, rfl, rfl⟩ := hcs
    simp at hmm
    subst hmm
    rw [cellsTk] at hel
    obtain ⟨b, o, spot⟩ := a
    have hspot : 0 < N0 → spot = none := by
      intro h
      obtain ⟨cs', h1, h2⟩ := hel 0 (by omega)
      obtain ⟨_, hl', hc'⟩ := World.cells?_some h1
      have := hc' 0 (by omega)
      have h4 : 0 < cs'.length := by omega
      rw [List.getElem?_eq_getElem h4] at this
      simpa [Addr.add] using World.cell?_spot this
    by_cases hz : 0 < N0
    · have := hspot hz
      subst this
      obtain ⟨it, hit⟩ := choose_lt (α := Tk) (n := N0) (p := fun i z => (∀ x ∈ z.t, x < 256) ∧ ∀ j u, (cT z)[j]? = some u → W.cell? ⟨b, o + i * 2 + j, none⟩ = some u) (fun i hi => by
        obtain ⟨cs', h1, h2⟩ := hel i (by omega)
        rw [codec.add_none] at h1
        obtain ⟨_, hl', hc'⟩ := World.cells?_some h1
        obtain ⟨y, rfl, hy⟩ := tok_in hl' h2
        refine ⟨y, hy, fun j u hu => ?_⟩
        have hj := (List.getElem?_eq_some_iff.1 hu).1
        have := hc' j (by omega)
        rw [codec.add_none, hu] at this
        exact this)
      refine ⟨(List.range N0).map it, ⟨by simp, fun k hk => ⟨b, o, it k, rfl, by simp [hk], (hit k hk).2⟩⟩, fun t ht => ?_⟩
      obtain ⟨i, hi, rfl⟩ := List.mem_map.1 ht
      exact (hit i (List.mem_range.1 hi)).1
    · obtain rfl : N0 = 0 := by omega
      exact ⟨[], ⟨rfl, fun k hk => by omega⟩, by simp⟩
end Go.Proofs.Ytihcgbjmgfgenaa.cardIn
