/- What reading a page answers. -/
import Derived.Test.YtklmbiekpilkhaaGreatDoorPagA
import Derived.Test.YtklmbiekpilkhaaGreatDoorRd
namespace Go.Proofs.YtklmbiekpilkhaaGreatDoor.pg
open Go.ChangeShapes Go.WideShapes Go.ChangeAt Go.RowKit
open Go.Proofs.YtklmbiekpilkhaaGreatDoor.codec (Bytes vals vals_append vals_length vals_one OutIs More Made New bytesOf byteAt bytesOf_length bytesOf_lt Fits strOf)
open Go.Proofs.YtklmbiekpilkhaaGreatDoor.crc (crcOf crcOf_lt crc_prog crc_ref)
open Go.Proofs.YtklmbiekpilkhaaGreatDoor.two
open Go.Proofs.YtklmbiekpilkhaaGreatDoor.rd
set_option linter.unusedVariables false
set_option maxRecDepth 100000
set_option linter.unusedSimpArgs false

/-- The length that bytes tell. -/
def told (l : List Nat) : Nat := codec.numOf (got 4 (rest 1 (rest 3 (some l))))
/-- What is left behind the payload's length. -/
def left4 (l : List Nat) : Option (List Nat) := rest 4 (rest 1 (rest 3 (some l)))
def payL (l : List Nat) : List Nat := got (told l) (left4 l)
/-- The bytes are formed as a page of a kind. -/
def Formed (k : Int) (l : List Nat) : Prop := got 3 (some l) = [112, 97, 103] ∧ (1 ≤ k ∧ k ≤ 3) ∧ ((codec.numOf (got 1 (rest 3 (some l))) : Nat) : Int) = k ∧ rest 4 (rest (told l) (left4 l)) = some []
theorem rest_some {k : Nat} {L : Option (List Nat)} {m : List Nat} (h : rest k L = some m) : ∃ l, L = some l ∧ k ≤ l.length ∧ m = l.drop k ∧ got k L = l.take k := by
  cases L with
  | none => simp [rest] at h
  | some l =>
    simp only [rest] at h
    split at h
    · cases h
      exact ⟨l, rfl, by assumption, rfl, by simp [got]; omega⟩
    · simp at h
theorem num_one {a : Nat} : codec.numOf [a] = a := by simp [codec.numOf, codec.numFrom]
theorem num4_bytes (l : List Nat) (h4 : l.length = 4) (hl : ∀ b ∈ l, b < 256) : bytesOf (codec.numOf l) 4 = l := by
  match l, h4 with
  | [a, b, c, d], _ =>
    have ha := hl a (by simp)
    have hb := hl b (by simp)
    have hc := hl c (by simp)
    have hd := hl d (by simp)
    simp only [bytesOf, byteAt, codec.numOf, codec.numFrom, List.range, List.range.loop, List.map, List.foldl]
    simp only [List.cons.injEq, and_true]
    refine ⟨?_, ?_, ?_, ?_⟩ <;> omega
theorem formed_is {k : Int} {l : List Nat} (hl : ∀ b ∈ l, b < 256) (h : Formed k l) : ∃ m : Nat, k = m ∧ 1 ≤ m ∧ m ≤ 3 ∧ 12 ≤ l.length ∧ l.take (l.length - 4) = body m (payL l) ∧ got 4 (rest (told l) (left4 l)) = l.drop (l.length - 4) ∧ l.length = 12 + (payL l).length := by
  obtain ⟨h3, ⟨hk1, hk3⟩, hkd, hr⟩ := h
  obtain ⟨l4, e4, n4, d4, g4⟩ := rest_some hr
  obtain ⟨lp, ep, np, dp, gp⟩ := rest_some e4
  have ep' : rest 4 (rest 1 (rest 3 (some l))) = some lp := ep
  obtain ⟨ln, en, nn, dn, gn⟩ := rest_some ep'
  obtain ⟨lk, ek, nk, dk, gk⟩ := rest_some en
  obtain ⟨l0, e0, n0, d0, g0⟩ := rest_some ek
  cases e0
  rw [g0] at h3
  rw [gk] at hkd
  have hlen4 : l4.length = 4 := by
    have := congrArg List.length d4
    simp at this
    omega
  obtain ⟨m, rfl⟩ := Int.eq_ofNat_of_zero_le (show 0 ≤ k by omega)
  have et : told l = codec.numOf (ln.take 4) := by unfold told; rw [gn]
  have epy : payL l = lp.take (told l) := by unfold payL; exact gp
  have hpl : (payL l).length = told l := by rw [epy]; simp; omega
  obtain ⟨a, hlk⟩ : ∃ a, lk.take 1 = [a] := by
    match lk, nk with
    | a :: r, _ => exact ⟨a, rfl⟩
  have ham : a = m := by
    rw [hlk, num_one] at hkd
    omega
  subst ham
  have s0 : l = [112, 97, 103] ++ lk := by rw [← h3, d0, List.take_append_drop]
  have s1 : lk = [a] ++ ln := by rw [← hlk, dk, List.take_append_drop]
  have hln : ∀ b ∈ ln, b < 256 := fun b hb => hl b (by rw [s0, s1]; simp [hb])
  have s2 : ln = bytesOf (told l) 4 ++ lp := by
    rw [et, num4_bytes (ln.take 4) (by simp; omega) (fun b hb => hln b (List.mem_of_mem_take hb)), dn, List.take_append_drop]
  have s3 : lp = payL l ++ l4 := by rw [epy, dp, List.take_append_drop]
  have s : l = body a (payL l) ++ l4 := by
    have : l = [112, 97, 103] ++ ([a] ++ (bytesOf (told l) 4 ++ (payL l ++ l4))) := by rw [← s3, ← s2, ← s1]; exact s0
    unfold body first
    rw [hpl]
    simpa using this
  have hll : l.length = 12 + (payL l).length := by
    have := congrArg List.length s
    rw [List.length_append, body_length, hlen4] at this
    omega
  have hn12 : 12 ≤ l.length := by omega
  generalize payL l = P at s hll ⊢
  refine ⟨a, rfl, by omega, by omega, hn12, ?_, ?_, hll⟩
  · rw [hll, s]
    rw [List.take_append_of_le_length (by rw [body_length]; omega), List.take_of_length_le (by rw [body_length]; omega)]
  · rw [g4, List.take_of_length_le (by omega), hll, s]
    rw [List.drop_append_of_le_length (by rw [body_length]; omega), List.drop_of_length_le (by rw [body_length]; omega), List.nil_append]
theorem rest_app (a b : List Nat) (k : Nat) (h : a.length = k) : rest k (some (a ++ b)) = some b ∧ got k (some (a ++ b)) = a := by
  subst h
  simp [rest, got]
theorem page_formed {m : Nat} {p : List Nat} (h1 : 1 ≤ m) (h3 : m ≤ 3) (hn : p.length < 4294967296) : Formed m (pageL m p) ∧ payL (pageL m p) = p := by
  have e : pageL m p = [112, 97, 103] ++ ([m] ++ (bytesOf p.length 4 ++ (p ++ bytesOf (crcOf (body m p)) 4))) := by simp [pageL, body, first]
  have e3 := rest_app [112, 97, 103] ([m] ++ (bytesOf p.length 4 ++ (p ++ bytesOf (crcOf (body m p)) 4))) 3 rfl
  have e1 := rest_app [m] (bytesOf p.length 4 ++ (p ++ bytesOf (crcOf (body m p)) 4)) 1 rfl
  have e4 := rest_app (bytesOf p.length 4) (p ++ bytesOf (crcOf (body m p)) 4) 4 (by simp [bytesOf])
  have ep := rest_app p (bytesOf (crcOf (body m p)) 4) p.length rfl
  have ec := rest_app (bytesOf (crcOf (body m p)) 4) [] 4 (by simp [bytesOf])
  rw [List.append_nil] at ec
  have ht : told (pageL m p) = p.length := by
    unfold told
    rw [e, e3.1, e1.1, e4.2, codec.numOf_bytes _ 4 (by omega)]
  have hl : left4 (pageL m p) = some (p ++ bytesOf (crcOf (body m p)) 4) := by
    unfold left4
    rw [e, e3.1, e1.1, e4.1]
  refine ⟨⟨?_, by omega, ?_, ?_⟩, ?_⟩
  · rw [e, e3.2]
  · rw [e, e3.1, e1.2, num_one]
  · rw [ht, hl, ep.1, ec.1]
  · unfold payL
    rw [ht, hl, ep.2]
/-- The bytes are a page of a kind. -/
def IsPage (k : Int) (l : List Nat) : Prop := ∃ (m : Nat) (p : List Nat), k = m ∧ 1 ≤ m ∧ m ≤ 3 ∧ l = pageL m p
theorem num4_lt {l : List Nat} (hl : ∀ b ∈ l, b < 256) (k : Nat) (L : Option (List Nat)) (hL : ∀ m, L = some m → ∀ b ∈ m, b < 256) : codec.numOf (got 4 L) < 4294967296 := by
  cases L with
  | none => simp [got, codec.numOf, codec.numFrom]
  | some m =>
    simp only [got]
    split
    · exact codec.numOf_lt m (hL m rfl) 4
    · simp [codec.numOf, codec.numFrom]
/-- A page is what is formed, and has the right CRC. -/
theorem isPage_iff {k : Int} {l : List Nat} (hl : ∀ b ∈ l, b < 256) (hn : l.length < 4294967296) :
    IsPage k l ↔ Formed k l ∧ codec.numOf (got 4 (rest (told l) (left4 l))) = crcOf (l.take (l.length - 4)) := by
  constructor
  · rintro ⟨m, p, rfl, h1, h3, rfl⟩
    have hp : p.length < 4294967296 := by rw [pageL_length] at hn; omega
    have hf := page_formed (p := p) h1 h3 hp
    refine ⟨hf.1, ?_⟩
    obtain ⟨m', e, _, _, _, h5, h6, h7⟩ := formed_is hl hf.1
    rw [h6, h5, hf.2]
    obtain rfl : m = m' := by omega
    have : (pageL m p).drop ((pageL m p).length - 4) = bytesOf (crcOf (body m p)) 4 := by
      rw [pageL_length, show 12 + p.length - 4 = (body m p).length by rw [body_length]; omega]
      unfold pageL
      rw [List.drop_left]
    rw [this, codec.numOf_bytes _ 4 (crcOf_lt (body_lt (by omega) (fun b hb => hl b (by unfold pageL body; simp [hb]))))]
  · rintro ⟨hf, hc⟩
    obtain ⟨m, rfl, h1, h3, h12, h5, h6, h7⟩ := formed_is hl hf
    refine ⟨m, payL l, rfl, h1, h3, ?_⟩
    unfold pageL
    rw [← h5, ← hc, h6, num4_bytes _ (by simp; omega) (fun b hb => hl b (List.mem_of_mem_drop hb)), List.take_append_drop]
theorem isPage_pay {k : Int} {l : List Nat} (hl : ∀ b ∈ l, b < 256) (hn : l.length < 4294967296) (h : IsPage k l) : ∃ m : Nat, k = m ∧ 1 ≤ m ∧ m ≤ 3 ∧ l = pageL m (payL l) := by
  obtain ⟨m, p, rfl, h1, h3, rfl⟩ := h
  have hp : p.length < 4294967296 := by rw [pageL_length] at hn; omega
  exact ⟨m, rfl, h1, h3, by rw [(page_formed h1 h3 hp).2]⟩
end Go.Proofs.YtklmbiekpilkhaaGreatDoor.pg
