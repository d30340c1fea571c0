/- Sums of bytes as plain functions of numbers. -/
import Derived.Laws.BitsAllLaws
import Derived.Test.YthhflkgngencdaaGreatDoorRows
import Derived.WalkKit
import Derived.ProofKit
import Derived.OpenShut
import Derived.ChangeOld
import Derived.Below
import Derived.Outline
import Derived.WalkSpells
import Derived.Lib.Hide
import Derived.Deep.QuietTactic
import Derived.BigQuiet
import Derived.Deep.OwnRows
import Derived.Deep.WholeRow
import Derived.StillTailTactics
import Derived.Lib.SlBytesConst
import Derived.Laws.CopyOwn
namespace Go.Proofs.YthhflkgngencdaaGreatDoor.sumPlain

/-- A word turned to the right. -/
def rot (x n : Nat) : Nat := x / 2 ^ n ||| x * 2 ^ (32 - n) % 4294967296
def sm0 (x : Nat) : Nat := (rot x 7 ^^^ rot x 18) ^^^ x / 8
def sm1 (x : Nat) : Nat := (rot x 17 ^^^ rot x 19) ^^^ x / 1024
def bg0 (x : Nat) : Nat := (rot x 2 ^^^ rot x 13) ^^^ rot x 22
def bg1 (x : Nat) : Nat := (rot x 6 ^^^ rot x 11) ^^^ rot x 25
def chs (e f g : Nat) : Nat := (e &&& f) ^^^ ((4294967295 ^^^ e) &&& g)
def mjr (a b c : Nat) : Nat := ((a &&& b) ^^^ (a &&& c)) ^^^ (b &&& c)

/-- The word at place k of a block of bytes. -/
def word (g : Nat → Nat) (k : Nat) : Nat := g (4 * k) * 16777216 + g (4 * k + 1) * 65536 + g (4 * k + 2) * 256 + g (4 * k + 3)
/-- The next word of those that are there. -/
def next (l : List Nat) (k : Nat) : Nat := (l.getD (k - 16) 0 + sm0 (l.getD (k - 15) 0) + l.getD (k - 7) 0 + sm1 (l.getD (k - 2) 0)) % 4294967296
/-- The first words of a block. -/
def words (g : Nat → Nat) : Nat → List Nat
  | 0 => []
  | k + 1 => words g k ++ [if k < 16 then word g k else next (words g k) k]

/-- The words of the rounds. -/
def consts : List Nat := [1116352408, 1899447441, 3049323471, 3921009573, 961987163, 1508970993, 2453635748, 2870763221, 3624381080, 310598401, 607225278, 1426881987, 1925078388, 2162078206, 2614888103, 3248222580, 3835390401, 4022224774, 264347078, 604807628, 770255983, 1249150122, 1555081692, 1996064986, 2554220882, 2821834349, 2952996808, 3210313671, 3336571891, 3584528711, 113926993, 338241895, 666307205, 773529912, 1294757372, 1396182291, 1695183700, 1986661051, 2177026350, 2456956037, 2730485921, 2820302411, 3259730800, 3345764771, 3516065817, 3600352804, 4094571909, 275423344, 430227734, 506948616, 659060556, 883997877, 958139571, 1322822218, 1537002063, 1747873779, 1955562222, 2024104815, 2227730452, 2361852424, 2428436474, 2756734187, 3204031479, 3329325298]

/-- Eight words. -/
structure Eight where
  a : Nat
  b : Nat
  c : Nat
  d : Nat
  e : Nat
  f : Nat
  g : Nat
  h : Nat
def seed8 : Eight := ⟨1779033703, 3144134277, 1013904242, 2773480762, 1359893119, 2600822924, 528734635, 1541459225⟩
def low (s : Eight) (k w : Nat) : Nat := (s.h + bg1 s.e + chs s.e s.f s.g + k + w) % 4294967296
def high (s : Eight) : Nat := (bg0 s.a + mjr s.a s.b s.c) % 4294967296
def round (s : Eight) (k w : Nat) : Eight :=
  ⟨(low s k w + high s) % 4294967296, s.a, s.b, s.c, (s.d + low s k w) % 4294967296, s.e, s.f, s.g⟩
def rounds (ws : List Nat) (s : Eight) : Nat → Eight
  | 0 => s
  | k + 1 => round (rounds ws s k) (consts.getD k 0) (ws.getD k 0)
def Eight.add (s t : Eight) : Eight :=
  ⟨(s.a + t.a) % 4294967296, (s.b + t.b) % 4294967296, (s.c + t.c) % 4294967296, (s.d + t.d) % 4294967296, (s.e + t.e) % 4294967296, (s.f + t.f) % 4294967296, (s.g + t.g) % 4294967296, (s.h + t.h) % 4294967296⟩
def block (s : Eight) (g : Nat → Nat) : Eight := s.add (rounds (words g 64) s 64)
def Eight.Ok (s : Eight) : Prop := s.a < 4294967296 ∧ s.b < 4294967296 ∧ s.c < 4294967296 ∧ s.d < 4294967296 ∧ s.e < 4294967296 ∧ s.f < 4294967296 ∧ s.g < 4294967296 ∧ s.h < 4294967296

theorem xor_lt32 {a b : Nat} (ha : a < 4294967296) (hb : b < 4294967296) : a ^^^ b < 4294967296 := Nat.xor_lt_two_pow (n := 32) ha hb
theorem or_lt32 {a b : Nat} (ha : a < 4294967296) (hb : b < 4294967296) : a ||| b < 4294967296 := Nat.or_lt_two_pow (n := 32) ha hb
theorem and_lt32 {a b : Nat} (hb : b < 4294967296) : a &&& b < 4294967296 := Nat.and_lt_two_pow (n := 32) a hb
theorem div_lt32 {a : Nat} (k : Nat) (ha : a < 4294967296) : a / k < 4294967296 := Nat.lt_of_le_of_lt (Nat.div_le_self _ _) ha
theorem rot_lt {x : Nat} (n : Nat) (h : x < 4294967296) : rot x n < 4294967296 := or_lt32 (div_lt32 _ h) (Nat.mod_lt _ (by omega))
theorem sm0_lt {x : Nat} (h : x < 4294967296) : sm0 x < 4294967296 := xor_lt32 (xor_lt32 (rot_lt _ h) (rot_lt _ h)) (div_lt32 _ h)
theorem sm1_lt {x : Nat} (h : x < 4294967296) : sm1 x < 4294967296 := xor_lt32 (xor_lt32 (rot_lt _ h) (rot_lt _ h)) (div_lt32 _ h)
theorem word_lt {g : Nat → Nat} (hg : ∀ i, g i < 256) (k : Nat) : word g k < 4294967296 := by
  have h0 := hg (4 * k)
  have h1 := hg (4 * k + 1)
  have h2 := hg (4 * k + 2)
  have h3 := hg (4 * k + 3)
  unfold word
  omega
theorem next_lt (l : List Nat) (k : Nat) : next l k < 4294967296 := Nat.mod_lt _ (by omega)
theorem words_len (g : Nat → Nat) : ∀ k, (words g k).length = k
  | 0 => rfl
  | k + 1 => by simp [words, words_len g k]
theorem words_lt {g : Nat → Nat} (hg : ∀ i, g i < 256) : ∀ k, ∀ x ∈ words g k, x < 4294967296
  | 0 => by simp [words]
  | k + 1 => by
    intro x hx
    rw [words, List.mem_append] at hx
    rcases hx with hx | hx
    · exact words_lt hg k x hx
    · simp only [List.mem_singleton] at hx
      subst hx
      split
      · exact word_lt hg k
      · exact next_lt _ _
theorem getD_lt {l : List Nat} (h : ∀ x ∈ l, x < 4294967296) (i : Nat) : l.getD i 0 < 4294967296 := by
  by_cases hi : i < l.length
  · have : l.getD i 0 = l[i] := by simp [List.getD, hi]
    rw [this]
    exact h _ (List.getElem_mem hi)
  · have : l.getD i 0 = 0 := by simp [List.getD, List.getElem?_eq_none (Nat.le_of_not_lt hi)]
    omega
theorem words_old (g : Nat → Nat) (k i : Nat) (h : i < k) : (words g (k + 1)).getD i 0 = (words g k).getD i 0 := by
  have := words_len g k
  simp [words, List.getD, List.getElem?_append, this, h]
theorem words_new (g : Nat → Nat) (k : Nat) : (words g (k + 1)).getD k 0 = if k < 16 then word g k else next (words g k) k := by
  have := words_len g k
  simp [words, List.getD, this]
theorem round_ok {s : Eight} (h : s.Ok) (k w : Nat) : (round s k w).Ok := by
  obtain ⟨h1, h2, h3, h4, h5, h6, h7, h8⟩ := h
  exact ⟨Nat.mod_lt _ (by omega), h1, h2, h3, Nat.mod_lt _ (by omega), h5, h6, h7⟩
theorem rounds_ok {s : Eight} (h : s.Ok) (ws : List Nat) : ∀ k, (rounds ws s k).Ok
  | 0 => h
  | k + 1 => round_ok (rounds_ok h ws k) _ _
theorem add_ok (s t : Eight) : (s.add t).Ok := by
  refine ⟨?_, ?_, ?_, ?_, ?_, ?_, ?_, ?_⟩ <;> exact Nat.mod_lt _ (by omega)
/-- The word at a place. -/
def Eight.nth (s : Eight) : Nat → Nat
  | 0 => s.a
  | 1 => s.b
  | 2 => s.c
  | 3 => s.d
  | 4 => s.e
  | 5 => s.f
  | 6 => s.g
  | 7 => s.h
  | _ => 0
theorem nth_lt {s : Eight} (h : s.Ok) : ∀ i, s.nth i < 4294967296
  | 0 => h.1
  | 1 => h.2.1
  | 2 => h.2.2.1
  | 3 => h.2.2.2.1
  | 4 => h.2.2.2.2.1
  | 5 => h.2.2.2.2.2.1
  | 6 => h.2.2.2.2.2.2.1
  | 7 => h.2.2.2.2.2.2.2
  | _ + 8 => by simp [Eight.nth]
theorem add_nth (s t : Eight) : ∀ i, i < 8 → (s.add t).nth i = (s.nth i + t.nth i) % 4294967296
  | 0, _ => rfl
  | 1, _ => rfl
  | 2, _ => rfl
  | 3, _ => rfl
  | 4, _ => rfl
  | 5, _ => rfl
  | 6, _ => rfl
  | 7, _ => rfl
  | n + 8, h => by omega
end Go.Proofs.YthhflkgngencdaaGreatDoor.sumPlain
namespace Go.Proofs.YthhflkgngencdaaGreatDoor.sumDoor
open Go.ChangeShapes Go.WideShapes Go.ChangeAt Go.RowKit Go.Proofs.YthhflkgngencdaaGreatDoor.sumPlain
set_option linter.unusedVariables false
set_option maxRecDepth 100000

theorem ret_int {k : IntKind} {a b : Int} (h : a = b) : Ending.returned (.int k a) = .returned (.int k b) := by rw [h]
theorem below_draws {B : Nat} {a w : World} (h : Below B a w) (n : Nat) : Below B a (w.drewN n) := ⟨h.os, h.tape, h.output, h.size, h.block⟩
/-- Eight words as a value. -/
def cells8 (k : IntKind) (s : Eight) : Array Value := #[.int k s.a, .int k s.b, .int k s.c, .int k s.d, .int k s.e, .int k s.f, .int k s.g, .int k s.h]
/-- Numbers as cells. -/
def cellsOf (k : IntKind) (l : List Nat) : Array Value := (l.map fun x => Value.int k (x : Nat)).toArray

/-- The slice reads as these bytes. -/
def Bytes (w : World) (A : Option Addr) (n : Nat) (l : List Nat) : Prop :=
  l.length = n ∧ (∀ b ∈ l, b < 256) ∧ (0 < n → ∃ b o, A = some ⟨b, o, none⟩ ∧ ∀ i, i < n → w.cell? ⟨b, o + i, none⟩ = some (.int .u8 (l.getD i 0 : Nat)))
theorem getD_lt256 {l : List Nat} (h : ∀ x ∈ l, x < 256) (i : Nat) : l.getD i 0 < 256 := by
  by_cases hi : i < l.length
  · have : l.getD i 0 = l[i] := by simp [List.getD, hi]
    rw [this]
    exact h _ (List.getElem_mem hi)
  · have : l.getD i 0 = 0 := by simp [List.getD, List.getElem?_eq_none (Nat.le_of_not_lt hi)]
    omega
theorem Bytes.lt {w : World} {A : Option Addr} {n : Nat} {l : List Nat} (h : Bytes w A n l) : ∀ ad, A = some ad → 0 < n → ad.block < w.heap.size := by
  rintro ad rfl hn
  obtain ⟨b, o, e, hc⟩ := h.2.2 hn
  cases e
  exact block_lt_of_cell (hc 0 hn)
theorem Bytes.below {w w' : World} {A : Option Addr} {n B : Nat} {l : List Nat} (h : Bytes w A n l) (hA : ∀ ad, A = some ad → 0 < n → ad.block < B) (hb : Below B w w') : Bytes w' A n l := by
  obtain ⟨h1, h2, h3⟩ := h
  refine ⟨h1, h2, fun hn => ?_⟩
  obtain ⟨b, o, rfl, hc⟩ := h3 hn
  refine ⟨b, o, rfl, fun i hi => ?_⟩
  exact (hb.cell (p := ⟨b, o + i, none⟩) (hA ⟨b, o, none⟩ rfl hn)).trans (hc i hi)
/-- One byte of them. -/
theorem Bytes.at_ {w : World} {b o n : Nat} {l : List Nat} (h : Bytes w (some ⟨b, o, none⟩) n l) (i : Nat) (hi : i < n) :
    ∃ x : Nat, l.getD i 0 = x ∧ x < 256 ∧ w.cell? ⟨b, o + i, none⟩ = some (.int .u8 (x : Nat)) := by
  obtain ⟨b', o', e, hc⟩ := h.2.2 (by omega)
  cases e
  exact ⟨_, rfl, getD_lt256 h.2.1 i, hc i hi⟩

theorem rot_i (x n : Nat) (hx : x < 4294967296) (h1 : 1 ≤ n) (hn : n ≤ 31) : bits .or .u32 ((x : Int) / 2 ^ n) ((x : Int) * 2 ^ (32 - n) % 4294967296) = ((rot x n : Nat) : Int) := by
  have := u32_or_nat (x / 2 ^ n) (x * 2 ^ (32 - n) % 4294967296) (div_lt32 _ hx) (Nat.mod_lt _ (by omega))
  unfold rot
  rw [← this]
  simp

set_option maxHeartbeats 400000 in
theorem rotated_any (w : World) (x n : Nat) (hx : x < 4294967296) (h1 : 1 ≤ n) (hn : n ≤ 31) :
    Calls Tryz.prog 245 #[.int .u32 x, .int .u64 n] w fun e w' => e = .returned (.int .u32 (rot x n : Nat)) ∧ w = w' := by
  have HR := Lib.hid (rot_i x n hx h1 hn)
  go_enter Tryz.func245, Tryz.ntmps245
  go_wp2
  go_ret
  exact ⟨ret_int HR.out, rfl⟩

theorem rotated_i (w : World) (x : Nat) (m : Int) (n : Nat) (hm : m = n) (hx : x < 4294967296) (h1 : 1 ≤ n) (hn : n ≤ 31) :
    Calls Tryz.prog 245 #[.int .u32 x, .int .u64 m] w fun e w' => e = .returned (.int .u32 (rot x n : Nat)) ∧ w = w' := by
  subst hm
  exact rotated_any w x n hx h1 hn

set_option maxHeartbeats 400000 in
theorem firstState_any (w : World) :
    Calls Tryz.prog 221 #[] w fun e w' => e = .returned (.agg (cells8 .u32 seed8)) ∧ Below w.heap.size w w' := by
  go_enter Tryz.func221, Tryz.ntmps221
  go_wp2
  exact bodyPost_ret (v := .agg (cells8 .u32 seed8)) (by simp [results, Tryz.results221, go_sem]; rfl) rfl ⟨rfl, (Below.refl _ _).alloc (Nat.le_refl _) _⟩

end Go.Proofs.YthhflkgngencdaaGreatDoor.sumDoor
namespace Go.Proofs.YthhflkgngencdaaGreatDoor.sumDoor
open Go.ChangeShapes Go.WideShapes Go.ChangeAt Go.RowKit Go.Proofs.YthhflkgngencdaaGreatDoor.sumPlain
set_option linter.unusedVariables false
set_option maxRecDepth 100000

theorem word_i (x0 x1 x2 x3 : Nat) (h0 : x0 < 256) (h1 : x1 < 256) (h2 : x2 < 256) (h3 : x3 < 256) :
    bits .or .u32 (bits .or .u32 (bits .or .u32 ((x0 : Int) * 16777216) ((x1 : Int) * 65536)) ((x2 : Int) * 256)) (x3 : Int) = ((x0 * 16777216 + x1 * 65536 + x2 * 256 + x3 : Nat) : Int) := by
  rw [show (x0 : Int) * 16777216 = ((x0 * 16777216 : Nat) : Int) by simp, show (x1 : Int) * 65536 = ((x1 * 65536 : Nat) : Int) by simp, show (x2 : Int) * 256 = ((x2 * 256 : Nat) : Int) by simp,
    u32_or_nat _ _ (by omega) (by omega), nat_join 24 _ _ (by omega) (by omega), u32_or_nat _ _ (by omega) (by omega), nat_join 16 _ _ (by omega) (by omega),
    u32_or_nat _ _ (by omega) (by omega), nat_join 8 _ _ (by omega) (by omega)]

theorem words_other (g : Nat → Nat) (k j : Nat) (h : j ≠ k) : (words g (k + 1)).getD j 0 = (words g k).getD j 0 := by
  have := words_len g k
  by_cases hj : j < k
  · exact words_old g k j hj
  · have h1 : (words g (k + 1)).length = k + 1 := words_len g (k + 1)
    simp [List.getD, List.getElem?_eq_none (show (words g (k + 1)).length ≤ j by omega), List.getElem?_eq_none (show (words g k).length ≤ j by omega)]

theorem row_step {wr : World} {N k : Nat} {kd : IntKind} {t : TypeId} {g : Nat → Nat} {v : Int} (h : wr.rowIs N t 64 (fun j => .int kd ((words g k).getD j 0 : Nat))) (hv : v = ((words g (k + 1)).getD k 0 : Nat)) :
    (wr.setCell ⟨N, k, none⟩ (.int kd v)).rowIs N t 64 (fun j => .int kd ((words g (k + 1)).getD j 0 : Nat)) := by
  refine (h.set k _).congr fun j hj => ?_
  by_cases e : j = k
  · subst e; simp only [if_true]; rw [hv]
  · simp only [if_neg e]; rw [words_other g k j e]

theorem cells_words {cs : Array Value} {kd : IntKind} {g : Nat → Nat} (hs : cs.size = 64) (h : ∀ i, i < 64 → cs[i]? = some (.int kd ((words g 64).getD i 0 : Nat))) : cs = cellsOf kd (words g 64) := by
  apply Array.ext_getElem?
  intro i
  have hl := words_len g 64
  by_cases hi : i < 64
  · rw [h i hi]
    simp [cellsOf, List.getD, hl, hi]
  · rw [Array.getElem?_eq_none (by omega)]
    rw [Array.getElem?_eq_none (by simp [cellsOf]; omega)]
theorem all_cells (kd : IntKind) (l : List Nat) : (cellsOf kd l).all (·.oneCell') = true := by
  rw [Array.all_eq_true_iff_forall_mem]
  intro v hv
  simp only [cellsOf, List.mem_toArray, List.mem_map] at hv
  obtain ⟨x, _, rfl⟩ := hv
  rfl
theorem row_new {w : World} {g : Nat} {t : TypeId} {cs cs' : Array Value} (h : w.heap[g]? = some (.cells cs t (0, 0))) : (w.setRow g cs').heap[g]? = some (.cells cs' t (0, 0)) := by
  simp [World.setRow, Array.getElem?_modify, h]
theorem below_setRow {B g : Nat} {a w : World} (h : Below B a w) (hg : B ≤ g) (cs : Array Value) : Below B a (w.setRow g cs) :=
  h.trans ⟨rfl, rfl, rfl, by simp, fun k hk => by simp only [World.setRow, Array.getElem?_modify]; rw [if_neg (by omega)]⟩
theorem row_rep (w : World) {N : Nat} (hN : N = w.heap.size) (v : Value) (t : TypeId) (n : Nat) : (w.alloc (.cells (Array.replicate n v) t)).rowIs N t n (fun _ => v) := by
  subst hN
  exact ⟨Array.replicate n v, heap_alloc_new _ _, by simp, fun i hi => by simp [hi]⟩
theorem sm0_i (x : Nat) (hx : x < 4294967296) : bits .xor .u32 (bits .xor .u32 ((rot x 7 : Nat) : Int) ((rot x 18 : Nat) : Int)) ((x : Int) / 8) = ((sm0 x : Nat) : Int) := by
  rw [u32_xor_nat _ _ (rot_lt 7 hx) (rot_lt 18 hx)]
  exact u32_xor_nat _ (x / 8) (xor_lt32 (rot_lt 7 hx) (rot_lt 18 hx)) (div_lt32 _ hx)
theorem sm1_i (x : Nat) (hx : x < 4294967296) : bits .xor .u32 (bits .xor .u32 ((rot x 17 : Nat) : Int) ((rot x 19 : Nat) : Int)) ((x : Int) / 1024) = ((sm1 x : Nat) : Int) := by
  rw [u32_xor_nat _ _ (rot_lt 17 hx) (rot_lt 19 hx)]
  exact u32_xor_nat _ (x / 1024) (xor_lt32 (rot_lt 17 hx) (rot_lt 19 hx)) (div_lt32 _ hx)

set_option maxHeartbeats 1000000 in
theorem scheduled_any (w : World) (b o n c : Nat) (l : List Nat) (hB : Bytes w (some ⟨b, o, none⟩) n l) (h64 : 64 ≤ n) (hn : n ≤ maxLen) :
    Calls Tryz.prog 223 #[.slice (some ⟨b, o, none⟩) n c] w fun e w' => e = .returned (.agg (cellsOf .u32 (words (fun i => l.getD i 0) 64))) ∧ Below w.heap.size w w' := by
  unfold maxLen at hn
  have HB := Lib.hid hB
  have hL : b < w.heap.size := hB.lt _ rfl (by omega)
  clear hB
  go_enter Tryz.func223, Tryz.ntmps223
  go_wp2
  go_loopw [4, 8] (fun _ i wr => ∃ k : Nat, k ≤ 16 ∧ i = .int .i64 k ∧ wr.rowIs (w.heap.size + 1) 304 64 (fun j => .int .u32 ((words (fun i => l.getD i 0) k).getD j 0 : Nat)) ∧ wr.rowIs w.heap.size 304 64 (fun _ => .int .u32 0) ∧ Below w.heap.size w wr) (fun _ i _ => 16 - (intOf i).toNat)
  case atStart =>
    refine ⟨0, by omega, rfl, ?_, ?_, ?_⟩
    · exact row_rep (w.alloc _) (by simp) (.int .u32 0) 304 64
    · exact (row_rep w rfl (.int .u32 0) 304 64).alloc _
    · exact ((Below.refl _ _).alloc (Nat.le_refl _) _).alloc (by simp) _
  case round =>
    obtain ⟨k, hk, rfl, hr1, hr0, hbel⟩ := hrel
    by_cases hlt : k < 16
    · have hB' : Bytes wr (some ⟨b, o, none⟩) n l := HB.out.below (fun ad' e _ => by cases e; exact hL) hbel
      obtain ⟨x0, E0, y0, c0⟩ := hB'.at_ (4 * k) (by omega)
      obtain ⟨x1, E1, y1, c1⟩ := hB'.at_ (4 * k + 1) (by omega)
      obtain ⟨x2, E2, y2, c2⟩ := hB'.at_ (4 * k + 2) (by omega)
      obtain ⟨x3, E3, y3, c3⟩ := hB'.at_ (4 * k + 3) (by omega)
      have HW : Hid (word (fun i => l.getD i 0) k = x0 * 16777216 + x1 * 65536 + x2 * 256 + x3) := by
        rw [← E0, ← E1, ← E2, ← E3]
        exact rfl
      have HI := Lib.hid (word_i x0 x1 x2 x3 y0 y1 y2 y3)
      clear E0 E1 E2 E3 hB'
      have cw := hr1.cell (i := k) (by omega)
      have cf := hr1.frozen k
      have HR1 := Lib.hid hr1
      have HR0 := Lib.hid hr0
      have HBel := Lib.hid hbel
      clear hr1 hr0 hbel
      go_wp2
      have e0 : IntKind.i64.wrap (4 * (k : Int)) = 4 * (k : Int) := IntWalk.i64_in _ (by omega)
      have e1 : IntKind.i64.wrap (4 * (k : Int) + 1) = 4 * (k : Int) + 1 := IntWalk.i64_in _ (by omega)
      have e2 : IntKind.i64.wrap (4 * (k : Int) + 2) = 4 * (k : Int) + 2 := IntWalk.i64_in _ (by omega)
      have e3 : IntKind.i64.wrap (4 * (k : Int) + 3) = 4 * (k : Int) + 3 := IntWalk.i64_in _ (by omega)
      have t0 : (4 * (k : Int)).toNat = 4 * k := by omega
      have t1 : (4 * (k : Int) + 1).toNat = 4 * k + 1 := by omega
      have t2 : (4 * (k : Int) + 2).toNat = 4 * k + 2 := by omega
      have t3 : (4 * (k : Int) + 3).toNat = 4 * k + 3 := by omega
      have b0 : (0 : Int) ≤ 4 * (k : Int) := by omega
      have b1 : (0 : Int) ≤ 4 * (k : Int) + 1 := by omega
      have b2 : (0 : Int) ≤ 4 * (k : Int) + 2 := by omega
      have b3 : (0 : Int) ≤ 4 * (k : Int) + 3 := by omega
      have l0 : 4 * (k : Int) < n := by omega
      have l1 : 4 * (k : Int) + 1 < n := by omega
      have l2 : 4 * (k : Int) + 2 < n := by omega
      have l3 : 4 * (k : Int) + 3 < n := by omega
      have l4 : (k : Int) < 64 := by omega
      go_still_tail 35, (by kernel_rfl)
      clear e0 e1 e2 e3 t0 t1 t2 t3
      go_wp2
      go_roundw
      case rel =>
        refine ⟨k + 1, by omega, by go_num, World.rowIs.drew (row_step HR1.out ?_), World.rowIs.drew (HR0.out.setOther (by simp) _), Below.drew (HBel.out.setCell (by simp) _)⟩
        rw [words_new, if_pos hlt, HW.out]
        exact HI.out
      case measure => simp [intOf]; omega
    · obtain rfl : k = 16 := by omega
      have HR1 := Lib.hid hr1
      have HR0 := Lib.hid hr0
      have HBel := Lib.hid hbel
      clear hr1 hr0 hbel
      rw [show ((16 : Nat) : Int) = 16 from rfl]
      go_wp2
      go_loopw [5, 6, 7] (fun i _ _ wr => ∃ k : Nat, 16 ≤ k ∧ k ≤ 64 ∧ i = .int .i64 k ∧ wr.rowIs (w.heap.size + 1) 304 64 (fun j => .int .u32 ((words (fun i => l.getD i 0) k).getD j 0 : Nat)) ∧ wr.rowIs w.heap.size 304 64 (fun _ => .int .u32 0) ∧ Below w.heap.size w wr) (fun i _ _ _ => 64 - (intOf i).toNat)
      case atStart => exact ⟨16, by omega, by omega, rfl, HR1.out, HR0.out, HBel.out⟩
      case round =>
        obtain ⟨k, hk1, hk2, rfl, hr1, hr0, hbel⟩ := hrel
        by_cases hlt2 : k < 64
        · have hW := words_lt (fun i => getD_lt256 HB.out.2.1 i) k
          have c15 := hr1.cell (i := k - 15) (by omega)
          have c2 := hr1.cell (i := k - 2) (by omega)
          have c16 := hr1.cell (i := k - 16) (by omega)
          have c7 := hr1.cell (i := k - 7) (by omega)
          have ck := hr1.cell (i := k) (by omega)
          have cf := hr1.frozen k
          have y15 := getD_lt hW (k - 15)
          have y2 := getD_lt hW (k - 2)
          have y16 := getD_lt hW (k - 16)
          have y7 := getD_lt hW (k - 7)
          have HN : Hid ((words (fun i => l.getD i 0) (k + 1)).getD k 0 = next (words (fun i => l.getD i 0) k) k) := by
            rw [words_new, if_neg (by omega)]; exact rfl
          unfold next at HN
          have HR1 := Lib.hid hr1
          have HR0 := Lib.hid hr0
          have HBel := Lib.hid hbel
          clear hr1 hr0 hbel hW
          generalize (words (fun i => l.getD i 0) k).getD (k - 15) 0 = x15 at *
          generalize (words (fun i => l.getD i 0) k).getD (k - 2) 0 = x2 at *
          generalize (words (fun i => l.getD i 0) k).getD (k - 16) 0 = x16 at *
          generalize (words (fun i => l.getD i 0) k).getD (k - 7) 0 = x7 at *
          have H15 := Lib.hid (sm0_i x15 y15)
          have H2 := Lib.hid (sm1_i x2 y2)
          go_wp2
          have e15 : IntKind.i64.wrap ((k : Int) - 15) = (k : Int) - 15 := IntWalk.i64_in _ (by omega)
          have e2 : IntKind.i64.wrap ((k : Int) - 2) = (k : Int) - 2 := IntWalk.i64_in _ (by omega)
          have t15 : ((k : Int) - 15).toNat = k - 15 := by omega
          have t2 : ((k : Int) - 2).toNat = k - 2 := by omega
          have b15 : (0 : Int) ≤ (k : Int) - 15 := by omega
          have b2 : (0 : Int) ≤ (k : Int) - 2 := by omega
          have d15 : (15 : Int) ≤ (k : Int) := by omega
          have d2 : (2 : Int) ≤ (k : Int) := by omega
          have l15 : (k : Int) - 15 < 64 := by omega
          have l2 : (k : Int) - 2 < 64 := by omega
          go_quiet (fail)
          clear e15 e2 t15 t2
          go_wp2_with fail
          (with_reducible refine (rotated_i _ x15 7 7 rfl y15 (by omega) (by omega)).mono ?_)
          rintro e w' ⟨rfl, rfl⟩
          go_wp2_with fail
          (with_reducible refine (rotated_i _ x15 18 18 rfl y15 (by omega) (by omega)).mono ?_)
          rintro e w' ⟨rfl, rfl⟩
          go_wp2_with fail
          (with_reducible refine (rotated_i _ x2 17 17 rfl y2 (by omega) (by omega)).mono ?_)
          rintro e w' ⟨rfl, rfl⟩
          go_wp2_with fail
          (with_reducible refine (rotated_i _ x2 19 19 rfl y2 (by omega) (by omega)).mono ?_)
          rintro e w' ⟨rfl, rfl⟩
          go_wp2
          rw [H15.out, H2.out]
          have q16 : (wr.drewN nq).cell? ⟨w.heap.size + 1, k - 16, none⟩ = some (.int .u32 (x16 : Nat)) := c16
          have q7 : (wr.drewN nq).cell? ⟨w.heap.size + 1, k - 7, none⟩ = some (.int .u32 (x7 : Nat)) := c7
          have qk : (wr.drewN nq).cell? ⟨w.heap.size + 1, k, none⟩ = some (.int .u32 ((words (fun i => l.getD i 0) k).getD k 0 : Nat)) := ck
          have qf : (wr.drewN nq).frozen? ⟨w.heap.size + 1, k, none⟩ = false := cf
          have QR1 : Hid ((wr.drewN nq).rowIs (w.heap.size + 1) 304 64 (fun j => .int .u32 ((words (fun i => l.getD i 0) k).getD j 0 : Nat))) := HR1.out
          have QR0 : Hid ((wr.drewN nq).rowIs w.heap.size 304 64 (fun _ => .int .u32 0)) := HR0.out
          have QBel : Hid (Below w.heap.size w (wr.drewN nq)) := below_draws HBel.out nq
          clear c16 c7 ck cf c15 c2 HR1 HR0 HBel
          generalize wr.drewN nq = wq at *
          have z15 := sm0_lt y15
          have z2 := sm1_lt y2
          generalize sm0 x15 = s15 at *
          generalize sm1 x2 = s2 at *
          have e16 : IntKind.i64.wrap ((k : Int) - 16) = (k : Int) - 16 := IntWalk.i64_in _ (by omega)
          have e7 : IntKind.i64.wrap ((k : Int) - 7) = (k : Int) - 7 := IntWalk.i64_in _ (by omega)
          have t16 : ((k : Int) - 16).toNat = k - 16 := by omega
          have t7 : ((k : Int) - 7).toNat = k - 7 := by omega
          have b16 : (0 : Int) ≤ (k : Int) - 16 := by omega
          have b7 : (0 : Int) ≤ (k : Int) - 7 := by omega
          have d16 : (16 : Int) ≤ (k : Int) := by omega
          have d7 : (7 : Int) ≤ (k : Int) := by omega
          have l16 : (k : Int) - 16 < 64 := by omega
          have l7 : (k : Int) - 7 < 64 := by omega
          have lk : (k : Int) < 64 := by omega
          go_still_tail 15, (by kernel_rfl)
          clear e16 e7 t16 t7
          go_wp2
          go_roundw
          case rel =>
            refine ⟨k + 1, by omega, by omega, by go_num, World.rowIs.drew (row_step QR1.out ?_), World.rowIs.drew (QR0.out.setOther (by simp) _), Below.drew (QBel.out.setCell (by simp) _)⟩
            rw [HN.out]
            omega
          case measure => simp [intOf]; omega
        · obtain rfl : k = 64 := by omega
          obtain ⟨cs, hcs, hsz, hget⟩ := hr1
          obtain ⟨cz, hcz, hzz, _⟩ := hr0
          obtain rfl : cs = cellsOf .u32 (words (fun i => l.getD i 0) 64) := cells_words hsz hget
          have HBel := Lib.hid hbel
          have hall : (cellsOf .u32 (words (fun i => l.getD i 0) 64)).all (·.oneCell') = true := all_cells _ _
          have hsz' : cz.size = (cellsOf .u32 (words (fun i => l.getD i 0) 64)).size := by omega
          have hp : (Tryz.prog.info? 304).map (·.size) = some (cellsOf .u32 (words (fun i => l.getD i 0) 64)).size := by rw [hsz]; kernel_rfl
          have HCS := Lib.hid hcs
          have HCZ := Lib.hid hcz
          have HALL := Lib.hid hall
          have HSZ := Lib.hid hsz'
          have HP := Lib.hid hp
          clear hcs hcz hall hsz' hp hget hsz hzz hbel
          go_wp2_with (first | (refine wpList_load_row rfl 304 (.tmp 3) rfl (w.heap.size + 1) rfl 304 _ (0, 0) _ HCS.out Tryz.underlying304 rfl HP.out ?_) | (refine wpList_store_row rfl 304 (.tmp 2) (.tmp 90) rfl w.heap.size _ rfl rfl 304 _ HCZ.out HP.out HSZ.out HALL.out ?_))
          refine bodyPost_ret (v := .agg (cellsOf .u32 (words (fun i => l.getD i 0) 64))) ?_ rfl ⟨rfl, ?_⟩
          · refine results_cell_row Tryz.results223 _ _ w.heap.size 304 _ (0, 0) _ rfl ?_ Tryz.underlying304 rfl HP.out
            exact row_new HCZ.out
          · exact below_setRow HBel.out (Nat.le_refl _) _
end Go.Proofs.YthhflkgngencdaaGreatDoor.sumDoor
namespace Go.Proofs.YthhflkgngencdaaGreatDoor.sumDoor
open Go.ChangeShapes Go.WideShapes Go.ChangeAt Go.RowKit Go.Proofs.YthhflkgngencdaaGreatDoor.sumPlain
set_option linter.unusedVariables false
set_option maxRecDepth 100000

/-- The words of the rounds are laid. -/
def Laid (w : World) : Prop := ∀ i, i < 64 → w.cell? ⟨1, i, none⟩ = some (.int .u32 (consts.getD i 0 : Nat))
theorem Laid.lt {w : World} (h : Laid w) : 1 < w.heap.size := block_lt_of_cell (h 0 (by omega))
theorem Laid.below {w w' : World} {B : Nat} (h : Laid w) (hB : 1 < B) (hb : Below B w w') : Laid w' := fun i hi => (hb.cell (p := ⟨1, i, none⟩) hB).trans (h i hi)

theorem rot_quiet (w : World) (q x : Nat) (m : Int) (n : Nat) (hm : m = n) (hx : x < 4294967296) (h1 : 1 ≤ n) (hn : n ≤ 31) :
    Calls Tryz.prog 245 #[.int .u32 x, .int .u64 m] (w.drewN q) fun e w'' => e = .returned (.int .u32 (rot x n : Nat)) ∧ ∃ r, w'' = w.drewN r :=
  (rotated_i (w.drewN q) x m n hm hx h1 hn).mono fun _ _ ⟨he, hw⟩ => ⟨he, q, hw.symm⟩

theorem start11 (w : World) (s : Eight) (ws : List Nat) (hw : ws.length = 64) (Z : Array Value) :
    (((w.alloc (.cells (cells8 .u32 s) 301)).alloc (.cells (cellsOf .u32 ws) 304)).alloc (.cells Z 301)).heap[w.heap.size]? = some (.cells (cells8 .u32 s) 301 (0, 0)) ∧
    (((w.alloc (.cells (cells8 .u32 s) 301)).alloc (.cells (cellsOf .u32 ws) 304)).alloc (.cells Z 301)).rowIs (w.heap.size + 1) 304 64 (fun j => .int .u32 (ws.getD j 0 : Nat)) ∧
    (((w.alloc (.cells (cells8 .u32 s) 301)).alloc (.cells (cellsOf .u32 ws) 304)).alloc (.cells Z 301)).heap[w.heap.size + 1 + 1]? = some (.cells Z 301 (0, 0)) ∧
    Below w.heap.size w (((w.alloc (.cells (cells8 .u32 s) 301)).alloc (.cells (cellsOf .u32 ws) 304)).alloc (.cells Z 301)) := by
  refine ⟨?_, ?_, ?_, ?_⟩
  · rw [Below.heap_alloc _ _ _ (by simp; omega), Below.heap_alloc _ _ _ (by simp)]
    exact heap_alloc_new _ _
  · refine World.rowIs.alloc ?_ _
    have := World.rowIs_alloc (w.alloc (.cells (cells8 .u32 s) 301)) (cellsOf .u32 ws) 304 (fun j => .int .u32 (ws.getD j 0 : Nat)) (fun i hi => by
      simp [cellsOf] at hi
      simp [cellsOf, List.getD, hi])
    have e1 : (cellsOf .u32 ws).size = 64 := by simp [cellsOf, hw]
    have e2 : (w.alloc (.cells (cells8 .u32 s) 301)).heap.size = w.heap.size + 1 := by simp
    rwa [e1, e2] at this
  · have := heap_alloc_new ((w.alloc (.cells (cells8 .u32 s) 301)).alloc (.cells (cellsOf .u32 ws) 304)) (.cells Z 301)
    simpa using this
  · exact (((Below.refl _ _).alloc (Nat.le_refl _) _).alloc (by simp) _).alloc (by simp; omega) _

/-- What lies in memory while a block is turned. -/
def Turn (w : World) (s : Eight) (ws : List Nat) (wr : World) : Prop :=
  wr.heap[w.heap.size]? = some (.cells (cells8 .u32 s) 301 (0, 0)) ∧ wr.rowIs (w.heap.size + 1) 304 64 (fun j => .int .u32 (ws.getD j 0 : Nat)) ∧
  wr.heap[w.heap.size + 1 + 1]? = some (.cells #[.int .u32 0, .int .u32 0, .int .u32 0, .int .u32 0, .int .u32 0, .int .u32 0, .int .u32 0, .int .u32 0] 301 (0, 0)) ∧ Below w.heap.size w wr ∧ Laid wr
theorem Turn.draws {w wr : World} {s : Eight} {ws : List Nat} (h : Turn w s ws wr) (n : Nat) : Turn w s ws (wr.drewN n) :=
  ⟨h.1, h.2.1, h.2.2.1, below_draws h.2.2.2.1 n, h.2.2.2.2⟩

theorem not_i (e : Nat) (he : e < 4294967296) : bits .xor .u32 IntKind.u32.max (e : Int) = ((4294967295 ^^^ e : Nat) : Int) := u32_xor_nat 4294967295 e (by omega) he
theorem chs_i (e f g : Nat) (he : e < 4294967296) (hf : f < 4294967296) (hg : g < 4294967296) :
    bits .xor .u32 (bits .and .u32 (e : Int) (f : Int)) (bits .and .u32 (bits .xor .u32 IntKind.u32.max (e : Int)) (g : Int)) = ((chs e f g : Nat) : Int) := by
  rw [not_i e he, u32_and_nat _ _ he hf, u32_and_nat _ _ (xor_lt32 (by omega) he) hg, u32_xor_nat _ _ (and_lt32 hf) (and_lt32 hg)]
  rfl
theorem mjr_i (a b c : Nat) (ha : a < 4294967296) (hb : b < 4294967296) (hc : c < 4294967296) :
    bits .xor .u32 (bits .xor .u32 (bits .and .u32 (a : Int) (b : Int)) (bits .and .u32 (a : Int) (c : Int))) (bits .and .u32 (b : Int) (c : Int)) = ((mjr a b c : Nat) : Int) := by
  rw [u32_and_nat _ _ ha hb, u32_and_nat _ _ ha hc, u32_and_nat _ _ hb hc, u32_xor_nat _ _ (and_lt32 hb) (and_lt32 hc), u32_xor_nat _ _ (xor_lt32 (and_lt32 hb) (and_lt32 hc)) (and_lt32 hc)]
  rfl
theorem bg0_i (x : Nat) (hx : x < 4294967296) : bits .xor .u32 (bits .xor .u32 ((rot x 2 : Nat) : Int) ((rot x 13 : Nat) : Int)) ((rot x 22 : Nat) : Int) = ((bg0 x : Nat) : Int) := by
  rw [u32_xor_nat _ _ (rot_lt 2 hx) (rot_lt 13 hx)]
  exact u32_xor_nat _ _ (xor_lt32 (rot_lt 2 hx) (rot_lt 13 hx)) (rot_lt 22 hx)
theorem bg1_i (x : Nat) (hx : x < 4294967296) : bits .xor .u32 (bits .xor .u32 ((rot x 6 : Nat) : Int) ((rot x 11 : Nat) : Int)) ((rot x 25 : Nat) : Int) = ((bg1 x : Nat) : Int) := by
  rw [u32_xor_nat _ _ (rot_lt 6 hx) (rot_lt 11 hx)]
  exact u32_xor_nat _ _ (xor_lt32 (rot_lt 6 hx) (rot_lt 11 hx)) (rot_lt 25 hx)

/-- The first k words are added. -/
def half (s t : Eight) (k j : Nat) : Nat := if j < k then (s.nth j + t.nth j) % 4294967296 else s.nth j
theorem get8 (kd : IntKind) (s : Eight) : ∀ i, i < 8 → (cells8 kd s)[i]? = some (.int kd (s.nth i : Nat))
  | 0, _ => rfl
  | 1, _ => rfl
  | 2, _ => rfl
  | 3, _ => rfl
  | 4, _ => rfl
  | 5, _ => rfl
  | 6, _ => rfl
  | 7, _ => rfl
  | n + 8, h => by omega
theorem size8 (s : Eight) : (Tryz.prog.info? 301).map (·.size) = some (cells8 .u32 s).size := by
  rw [show (cells8 .u32 s).size = 8 from rfl]
  kernel_rfl
theorem all8 (kd : IntKind) (s : Eight) : (cells8 kd s).all (·.oneCell') = true := by
  simp [cells8, Value.oneCell']
theorem row8 {w : World} {g : Nat} {t' : TypeId} {s t : Eight} (h : w.heap[g]? = some (.cells (cells8 .u32 s) t' (0, 0))) : w.rowIs g t' 8 (fun j => .int .u32 (half s t 0 j : Nat)) :=
  ⟨_, h, rfl, fun i hi => by rw [get8 _ s i hi]; simp [half]⟩
theorem index8 (w : World) (t : Eight) : ∀ k : Nat, k < 8 → (Instr.index 301 (.agg #[.int .u32 t.a, .int .u32 t.b, .int .u32 t.c, .int .u32 t.d, .int .u32 t.e, .int .u32 t.f, .int .u32 t.g, .int .u32 t.h]) (.int .i64 (k : Int))).run Tryz.prog w = .ok (.int .u32 (t.nth k : Nat)) w
  | 0, _ => by kernel_rfl
  | 1, _ => by kernel_rfl
  | 2, _ => by kernel_rfl
  | 3, _ => by kernel_rfl
  | 4, _ => by kernel_rfl
  | 5, _ => by kernel_rfl
  | 6, _ => by kernel_rfl
  | 7, _ => by kernel_rfl
  | n + 8, h => by omega
theorem half_step {wr : World} {N k : Nat} {t' : TypeId} {s t : Eight} {v : Int} (h : wr.rowIs N t' 8 (fun j => .int .u32 (half s t k j : Nat))) (hv : v = ((s.nth k + t.nth k) % 4294967296 : Nat)) :
    (wr.setCell ⟨N, k, none⟩ (.int .u32 v)).rowIs N t' 8 (fun j => .int .u32 (half s t (k + 1) j : Nat)) := by
  refine (h.set k _).congr fun j hj => ?_
  by_cases e : j = k
  · subst e; simp only [if_true]; rw [hv]; simp [half]
  · simp only [if_neg e]
    have : (j < k + 1) ↔ (j < k) := by omega
    simp [half, this]
theorem half_done {cs : Array Value} {s t : Eight} (hs : cs.size = 8) (h : ∀ i, i < 8 → cs[i]? = some (.int .u32 (half s t 8 i : Nat))) : cs = cells8 .u32 (s.add t) := by
  apply Array.ext_getElem?
  intro i
  by_cases hi : i < 8
  · rw [h i hi, get8 _ _ i hi, add_nth s t i hi]
    simp [half, hi]
  · rw [Array.getElem?_eq_none (by omega), Array.getElem?_eq_none (by simp [cells8]; omega)]

set_option maxRecDepth 100000 in
set_option maxHeartbeats 1000000 in
theorem turnedBlock_any (w : World) (s : Eight) (ws : List Nat) (hs : s.Ok) (hw : ws.length = 64) (hlt : ∀ x ∈ ws, x < 4294967296) (hL : Laid w) :
    Calls Tryz.prog 222 #[.agg (cells8 .u32 s), .agg (cellsOf .u32 ws)] w fun e w' => e = .returned (.agg (cells8 .u32 (s.add (rounds ws s 64)))) ∧ Below w.heap.size w w' := by
  have HL := Lib.hid hL
  have HT := Lib.hid hlt
  have HS := Lib.hid hs
  have hN : 1 < w.heap.size := hL.lt
  have F := Lib.hid (start11 w s ws hw #[.int .u32 0, .int .u32 0, .int .u32 0, .int .u32 0, .int .u32 0, .int .u32 0, .int .u32 0, .int .u32 0])
  clear hL hw hlt hs
  go_enter Tryz.func222, Tryz.ntmps222
  go_wp2
  generalize (((w.alloc (.cells (cells8 .u32 s) 301)).alloc (.cells (cellsOf .u32 ws) 304)).alloc (.cells #[.int .u32 0, .int .u32 0, .int .u32 0, .int .u32 0, .int .u32 0, .int .u32 0, .int .u32 0, .int .u32 0] 301)) = wz at *
  obtain ⟨f0, f1, f2, fB⟩ := F.out
  have LZ : Hid (Laid wz) := HL.out.below hN fB
  have c0 : wz.cell? ⟨w.heap.size, 0, none⟩ = some (.int .u32 s.a) := (cell_of_row _ _ _ _ _ _ f0)
  have c1 : wz.cell? ⟨w.heap.size, 1, none⟩ = some (.int .u32 s.b) := (cell_of_row _ _ _ _ _ _ f0)
  have c2 : wz.cell? ⟨w.heap.size, 2, none⟩ = some (.int .u32 s.c) := (cell_of_row _ _ _ _ _ _ f0)
  have c3 : wz.cell? ⟨w.heap.size, 3, none⟩ = some (.int .u32 s.d) := (cell_of_row _ _ _ _ _ _ f0)
  have c4 : wz.cell? ⟨w.heap.size, 4, none⟩ = some (.int .u32 s.e) := (cell_of_row _ _ _ _ _ _ f0)
  have c5 : wz.cell? ⟨w.heap.size, 5, none⟩ = some (.int .u32 s.f) := (cell_of_row _ _ _ _ _ _ f0)
  have c6 : wz.cell? ⟨w.heap.size, 6, none⟩ = some (.int .u32 s.g) := (cell_of_row _ _ _ _ _ _ f0)
  have c7 : wz.cell? ⟨w.heap.size, 7, none⟩ = some (.int .u32 s.h) := (cell_of_row _ _ _ _ _ _ f0)
  have HF : Hid (Turn w s ws wz) := ⟨f0, f1, f2, fB, LZ.out⟩
  clear f0 f1 f2 fB F HL LZ
  go_quiet (fail)
  go_wp2
  go_quiet (fail)
  clear c0 c1 c2 c3 c4 c5 c6 c7
  go_wp2
  rename_i nq1 _ nq2
  go_loopw [5, 6, 7, 8, 9, 10, 11, 12, 13, 14, 15, 16, 17, 36] (fun a b c d e f g h _ _ _ _ _ i wr => ∃ k : Nat, k ≤ 64 ∧ i = .int .i64 k ∧ a = .int .u32 (rounds ws s k).a ∧ b = .int .u32 (rounds ws s k).b ∧ c = .int .u32 (rounds ws s k).c ∧ d = .int .u32 (rounds ws s k).d ∧ e = .int .u32 (rounds ws s k).e ∧ f = .int .u32 (rounds ws s k).f ∧ g = .int .u32 (rounds ws s k).g ∧ h = .int .u32 (rounds ws s k).h ∧ Turn w s ws wr) (fun _ _ _ _ _ _ _ _ _ _ _ _ _ i _ => 64 - (intOf i).toNat)
  case atStart => exact ⟨0, by omega, rfl, rfl, rfl, rfl, rfl, rfl, rfl, rfl, rfl, (HF.out.draws _).draws _⟩
  case round =>
    obtain ⟨k, hk, rfl, rfl, rfl, rfl, rfl, rfl, rfl, rfl, rfl, hturn⟩ := hrel
    by_cases hlt : k < 64
    · obtain ⟨oa, ob, oc, od, oe, of, og, oh⟩ := rounds_ok HS.out ws k
      have HN : Hid (rounds ws s (k + 1) = round (rounds ws s k) (consts.getD k 0) (ws.getD k 0)) := rfl
      have ck := hturn.2.2.2.2 k hlt
      have cw := hturn.2.1.cell hlt
      have yw := getD_lt HT.out k
      have yk : consts.getD k 0 < 4294967296 := getD_lt (by decide) k
      have HF := Lib.hid hturn
      clear hturn
      generalize rounds ws s k = R at *
      generalize consts.getD k 0 = kk at *
      generalize ws.getD k 0 = ww at *
      obtain ⟨a, b, c, d, e, f, g, h⟩ := R
      simp only at oa ob oc od oe of og oh
      simp only
      have HCH := Lib.hid (chs_i e f g oe of og)
      have HMJ := Lib.hid (mjr_i a b c oa ob oc)
      have HB0 := Lib.hid (bg0_i a oa)
      have HB1 := Lib.hid (bg1_i e oe)
      have lk : (k : Int) < 64 := by omega
      go_wp2
      rw [HCH.out]
      go_quiet ((go_at_call 245; first | (with_reducible exact rot_quiet _ _ e 6 6 rfl oe (by omega) (by omega)) | (with_reducible exact rot_quiet _ _ e 11 11 rfl oe (by omega) (by omega)) | (with_reducible exact rot_quiet _ _ e 25 25 rfl oe (by omega) (by omega))))
      rw [HB1.out]
      have HFq : Hid (Turn w s ws (wr.drewN nq)) := HF.out.draws nq
      clear ck cw HF
      generalize wr.drewN nq = wq at *
      go_wp2_with fail
      (with_reducible refine (rotated_i _ a 2 2 rfl oa (by omega) (by omega)).mono ?_)
      rintro e w' ⟨rfl, rfl⟩
      go_wp2_with fail
      (with_reducible refine (rotated_i _ a 13 13 rfl oa (by omega) (by omega)).mono ?_)
      rintro e w' ⟨rfl, rfl⟩
      go_wp2_with fail
      (with_reducible refine (rotated_i _ a 22 22 rfl oa (by omega) (by omega)).mono ?_)
      rintro e w' ⟨rfl, rfl⟩
      rw [HMJ.out]
      go_wp2
      rw [HB0.out]
      go_roundw
      case rel => exact ⟨k + 1, by omega, by go_num, by rw [HN.out]; simp [round, low, high], by rw [HN.out]; rfl, by rw [HN.out]; rfl, by rw [HN.out]; rfl, by rw [HN.out]; simp [round, low], by rw [HN.out]; rfl, by rw [HN.out]; rfl, by rw [HN.out]; rfl, HFq.out⟩
      case measure => simp [intOf]; omega
    · obtain rfl : k = 64 := by omega
      have HF := Lib.hid hturn
      have HO := Lib.hid (rounds_ok HS.out ws 64)
      clear hturn
      obtain ⟨t, ht⟩ : ∃ t, t = rounds ws s 64 := ⟨_, rfl⟩
      rw [← ht] at HO
      rw [← ht]
      have HTT := Lib.hid ht
      clear ht
      rw [show ((64 : Nat) : Int) = 64 from rfl]
      go_wp2
      go_loopw [18, 19, 110] (fun _ _ i wr => ∃ k : Nat, k ≤ 8 ∧ i = .int .i64 k ∧ wr.rowIs w.heap.size 301 8 (fun j => .int .u32 (half s t k j : Nat)) ∧ wr.heap[w.heap.size + 1 + 1]? = some (.cells #[.int .u32 0, .int .u32 0, .int .u32 0, .int .u32 0, .int .u32 0, .int .u32 0, .int .u32 0, .int .u32 0] 301 (0, 0)) ∧ Below w.heap.size w wr) (fun _ _ i _ => 8 - (intOf i).toNat)
      case atStart => exact ⟨0, by omega, rfl, row8 HF.out.1, HF.out.2.2.1, HF.out.2.2.2.1⟩
      case round =>
        clear HF
        obtain ⟨k, hk, rfl, hr, hz, hbel⟩ := hrel
        by_cases hlt : k < 8
        · have hidx := fun w => index8 w t k hlt
          have hc := hr.cell hlt
          have hf := hr.frozen k
          have o1 := nth_lt HS.out k
          have o2 := nth_lt HO.out k
          have HR := Lib.hid hr
          have HZ := Lib.hid hz
          have HBel := Lib.hid hbel
          have HH : Hid (half s t k k = s.nth k) := by simp [half, Hid]
          rw [HH.out] at hc
          have lk : (k : Int) < 8 := by omega
          clear hr hz hbel
          go_wp2
          go_roundw
          case rel => exact ⟨k + 1, by omega, by go_num, half_step HR.out (by simp), (Below.heap_setCell _ _ _ _ (by simp; omega)).trans HZ.out, HBel.out.setCell (Nat.le_refl _) _⟩
          case measure => simp [intOf]; omega
        · obtain rfl : k = 8 := by omega
          obtain ⟨cs, hcs, hsz, hget⟩ := hr
          obtain rfl : cs = cells8 .u32 (s.add t) := half_done hsz hget
          have HCS := Lib.hid hcs
          have HCZ := Lib.hid hz
          have HBel := Lib.hid hbel
          have HP := Lib.hid (size8 (s.add t))
          have HA := Lib.hid (all8 .u32 (s.add t))
          clear hcs hz hbel hget hsz
          go_wp2_with (first | (refine wpList_load_row rfl 301 (.tmp 2) rfl w.heap.size rfl 301 _ (0, 0) _ HCS.out Tryz.underlying301 rfl HP.out ?_) | (refine wpList_store_row rfl 301 (.tmp 4) (.tmp 121) rfl (w.heap.size + 1 + 1) _ rfl rfl 301 _ HCZ.out HP.out rfl HA.out ?_))
          refine bodyPost_ret (v := .agg (cells8 .u32 (s.add t))) ?_ rfl ⟨by rw [HTT.out], ?_⟩
          · refine results_cell_row Tryz.results222 _ _ (w.heap.size + 1 + 1) 301 _ (0, 0) _ rfl ?_ Tryz.underlying301 rfl HP.out
            exact row_new HCZ.out
          · exact below_setRow HBel.out (by omega) _
end Go.Proofs.YthhflkgngencdaaGreatDoor.sumDoor
namespace Go.Proofs.YthhflkgngencdaaGreatDoor.sumDoor
open Go.ChangeShapes Go.WideShapes Go.ChangeAt Go.RowKit Go.Proofs.YthhflkgngencdaaGreatDoor.sumPlain
set_option linter.unusedVariables false
set_option maxRecDepth 100000

/-- The rest, padded, with the last k bytes of its length. -/
def padTo (l : List Nat) (bs e k j : Nat) : Nat :=
  if e - k ≤ j ∧ j < e then bs / 2 ^ (8 * (e - 1 - j)) % 256 else if j < l.length then l.getD j 0 else if j = l.length then 128 else 0
def padEnd (n : Nat) : Nat := if 55 < n then 128 else 64
def padList (l : List Nat) (bs e : Nat) : List Nat := (List.range 128).map (padTo l bs e 8)

/-- A room of 128 zeros. -/
def room : List Value := List.replicate 128 (.int .u8 0)
theorem zero37 (w : World) : (zeroValue 306).run Tryz.prog w = .ok (.agg room.toArray) w := by kernel_rfl

/-- The rest stands in the room. -/
def laidIn (l : List Nat) (j : Nat) : Nat := if j < l.length then l.getD j 0 else 0
theorem copied {w1 : World} {g : Nat} {t : TypeId} {l : List Nat} (hn : l.length < 64) (h : w1.heap[g]? = some (.cells (splice room 0 (l.map fun x => Value.int .u8 (x : Nat))).toArray t (0, 0))) :
    w1.rowIs g t 128 (fun j => .int .u8 (laidIn l j : Nat)) := by
  have hr : room.length = 128 := by simp [room]
  refine ⟨_, h, ?_, fun i hi => ?_⟩
  · simp [splice, hr]
    omega
  · simp only [List.getElem?_toArray, splice, List.take_zero, List.nil_append, Nat.zero_add]
    rw [List.getElem?_append]
    by_cases hj : i < l.length
    · simp [hj, laidIn, List.getD]
    · simp only [List.length_map, if_neg hj]
      simp only [laidIn, if_neg hj]
      rw [List.getElem?_drop]
      unfold room
      rw [List.getElem?_replicate, if_pos (by omega)]
      rfl

theorem start13 (w : World) (A : Option Addr) (n : Nat) (l : List Nat) (hB : Bytes w A n l) (hn : n < 64) :
    ((w.alloc (.cells room.toArray 306)).alloc (.cells room.toArray 306)).heap[w.heap.size + 1]? = some (.cells room.toArray 306 (0, 0)) ∧
    (l.map fun x => Value.int .u8 (x : Nat)).length = Nat.min n 128 ∧
    (0 < (l.map fun x => Value.int .u8 (x : Nat)).length → some (Addr.mk (w.heap.size + 1) 0 none) = some ⟨w.heap.size + 1, 0, none⟩ ∧ ∃ ad, A = some ad ∧ ∀ j v, (l.map fun x => Value.int .u8 (x : Nat))[j]? = some v → ((w.alloc (.cells room.toArray 306)).alloc (.cells room.toArray 306)).cell? (ad.add j) = some v) ∧
    0 + (l.map fun x => Value.int .u8 (x : Nat)).length ≤ room.length ∧ (∀ v ∈ (l.map fun x => Value.int .u8 (x : Nat)), v.oneCell' = true) ∧
    ((w.alloc (.cells room.toArray 306)).alloc (.cells room.toArray 306)).heap[w.heap.size]? = some (.cells room.toArray 306 (0, 0)) ∧
    Below w.heap.size w ((w.alloc (.cells room.toArray 306)).alloc (.cells room.toArray 306)) := by
  have hbel : Below w.heap.size w ((w.alloc (.cells room.toArray 306)).alloc (.cells room.toArray 306)) := ((Below.refl _ _).alloc (Nat.le_refl _) _).alloc (by simp) _
  have hl := hB.1
  refine ⟨?_, ?_, ?_, ?_, ?_, ?_, hbel⟩
  · have := heap_alloc_new (w.alloc (.cells room.toArray 306)) (.cells room.toArray 306)
    simpa using this
  · rw [List.length_map, hl]
    exact (Nat.min_eq_left (by omega)).symm
  · intro h0
    refine ⟨rfl, ?_⟩
    have hB' := hB.below hB.lt hbel
    have hn0 : 0 < n := by simp at h0; omega
    obtain ⟨b, o, rfl, hc⟩ := hB'.2.2 hn0
    refine ⟨_, rfl, fun j v hv => ?_⟩
    have ha : (Addr.mk b o none).add j = ⟨b, o + j, none⟩ := by unfold Addr.add; split <;> simp_all
    rw [ha]
    simp only [List.getElem?_map, Option.map_eq_some_iff] at hv
    obtain ⟨x, hx, rfl⟩ := hv
    have hj : j < l.length := (List.getElem?_eq_some_iff.1 hx).1
    rw [hc j (by omega)]
    simp [List.getD, hx]
  · simp [room]
    omega
  · intro v hv
    obtain ⟨x, _, rfl⟩ := List.mem_map.1 hv
    rfl
  · rw [Below.heap_alloc _ _ _ (by simp)]
    exact heap_alloc_new _ _

theorem pad_start {w1 : World} {g n bs e : Nat} {t : TypeId} {l : List Nat} (hl : l.length = n) (hn : n < 64) (hE : n + 9 ≤ e) (h : w1.rowIs g t 128 (fun j => .int .u8 (laidIn l j : Nat))) :
    (w1.setCell ⟨g, n, none⟩ (.int .u8 128)).rowIs g t 128 (fun j => .int .u8 (padTo l bs e 0 j : Nat)) := by
  refine (h.set n _).congr fun j hj => ?_
  have h1 : ¬ (e - 0 ≤ j ∧ j < e) := by omega
  by_cases e1 : j = n
  · subst e1
    simp only [if_true, padTo, if_neg h1, hl]
    simp
  · simp only [if_neg e1, padTo, if_neg h1, laidIn, hl]
theorem pad_step {wr : World} {g n bs e k : Nat} {t : TypeId} {l : List Nat} {v : Int} {m : Nat} (hm : m = e - 1 - k) (hl : l.length = n) (hE : n + 9 ≤ e) (hk : k < 8) (hv : v = ((bs / 2 ^ (8 * k) % 256 : Nat) : Int)) (h : wr.rowIs g t 128 (fun j => .int .u8 (padTo l bs e k j : Nat))) :
    (wr.setCell ⟨g, m, none⟩ (.int .u8 v)).rowIs g t 128 (fun j => .int .u8 (padTo l bs e (k + 1) j : Nat)) := by
  subst hm
  refine (h.set _ _).congr fun j hj => ?_
  by_cases e1 : j = e - 1 - k
  · simp only [if_pos e1]
    have h1 : e - (k + 1) ≤ j ∧ j < e := by omega
    have h2 : e - 1 - j = k := by omega
    simp only [padTo, if_pos h1, h2, hv]
  · simp only [if_neg e1]
    have h1 : (e - (k + 1) ≤ j ∧ j < e) ↔ (e - k ≤ j ∧ j < e) := by omega
    simp only [padTo, h1]
theorem size128 (cs : Array Value) (h : cs.size = 128) : (Tryz.prog.info? 306).map (·.size) = some cs.size := by
  rw [h]
  kernel_rfl
theorem row_list {cs : Array Value} {kd : IntKind} {n : Nat} {f : Nat → Nat} (hs : cs.size = n) (h : ∀ i, i < n → cs[i]? = some (.int kd (f i : Nat))) : cs = cellsOf kd ((List.range n).map f) := by
  apply Array.ext_getElem?
  intro i
  by_cases hi : i < n
  · rw [h i hi]
    simp [cellsOf, hi]
  · rw [Array.getElem?_eq_none (by omega), Array.getElem?_eq_none (by simp [cellsOf]; omega)]

set_option maxRecDepth 100000 in
set_option maxHeartbeats 1000000 in
theorem lastBlocks_at (w : World) (A : Option Addr) (n c bs e : Nat) (l : List Nat) (hB : Bytes w A n l) (hn : n < 64) (hbs : bs < 18446744073709551616) (he : 55 < n ∧ e = 128 ∨ n ≤ 55 ∧ e = 64) :
    Calls Tryz.prog 224 #[.slice A n c, .int .u64 bs] w fun r w' => r = .returned (.tuple #[.agg (cellsOf .u8 (padList l bs e)), .int .i64 (e : Nat)]) ∧ Below w.heap.size w w' := by
  have HS := Lib.hid (start13 w A n l hB hn)
  have HL := Lib.hid hB.1
  have HU := Lib.hid (show (Tryz.prog.info? 5).map (·.size) = some 1 by kernel_rfl)
  clear hB
  have hz := zero37
  have hd : decide ((64 : Int) < (n : Int) + 1 + 8) = decide (55 < n) := by simp only [decide_eq_decide]; omega
  have hE : n + 9 ≤ e ∧ e ≤ 128 ∧ 64 ≤ e := by omega
  rcases he with ⟨h55, he⟩ | ⟨h55, he⟩
  · have hd' : decide ((64 : Int) < (n : Int) + 1 + 8) = true := by rw [hd]; simpa using h55
    clear hd
    subst he
    go_enter Tryz.func224, Tryz.ntmps224
    go_wp2_with (refine wpList_copy_splice rfl (.tmp 9) (.tmp 10) 40 40 rfl 5 Tryz.underlying40 HU.out _ _ _ _ _ _ rfl rfl (w.heap.size + 1) 0 room 306 HS.out.1 (l.map fun x => Value.int .u8 (x : Nat)) HS.out.2.1 HS.out.2.2.1 HS.out.2.2.2.1 HS.out.2.2.2.2.1 (w.heap.size + 1) _ (Below.refl _ _) (Nat.le_refl _) ?_; intro w1 hg1 hb1; have hr1 := copied (by rw [HL.out]; exact hn) hg1.out; have hc1 := hr1.cell (i := n) (by omega); have hf1 := hr1.frozen n; have HR1 := Lib.hid hr1; have HB1 := Lib.hid hb1; clear hb1 hr1 hg1)
    go_loopw [8, 22] (fun _ i wr => ∃ k : Nat, k ≤ 8 ∧ i = .int .i64 k ∧ wr.rowIs (w.heap.size + 1) 306 128 (fun j => .int .u8 (padTo l bs 128 k j : Nat)) ∧ wr.heap[w.heap.size]? = some (.cells room.toArray 306 (0, 0)) ∧ Below w.heap.size w wr) (fun _ i _ => 8 - (intOf i).toNat)
    case atStart =>
      refine ⟨0, by omega, rfl, pad_start HL.out hn (by omega) HR1.out, ?_, ?_⟩
      · rw [Below.heap_setCell _ _ _ _ (by simp), HB1.out.block _ (by omega)]
        exact HS.out.2.2.2.2.2.1
      · exact (HS.out.2.2.2.2.2.2.trans (HB1.out.mono (by omega))).setCell (by simp) _
    case round =>
      clear hc1 hf1 HB1 HR1 HS HU
      obtain ⟨k, hk, rfl, hr, hzz, hbel⟩ := hrel
      by_cases hlt : k < 8
      · have hc := hr.cell (i := 128 - 1 - k) (by omega)
        have hf := hr.frozen (128 - 1 - k)
        have HR := Lib.hid hr
        have HZ := Lib.hid hzz
        have HBel := Lib.hid hbel
        have lk : (k : Int) < 8 := by omega
        clear hr hzz hbel
        simp only [show 128 - 1 - k = 127 - k by omega] at hc hf
        go_wp2
        go_roundw
        case rel => exact ⟨k + 1, by omega, by go_num, pad_step (by omega) HL.out (by omega) hlt (by simp) HR.out, (Below.heap_setCell _ _ _ _ (by simp)).trans HZ.out, HBel.out.setCell (by simp) _⟩
        case measure => simp [intOf]; omega
      · obtain rfl : k = 8 := by omega
        obtain ⟨cs, hcs, hsz, hget⟩ := hr
        obtain rfl : cs = cellsOf .u8 (padList l bs 128) := row_list hsz hget
        have HCS := Lib.hid hcs
        have HCZ := Lib.hid hzz
        have HBel := Lib.hid hbel
        have HP := Lib.hid (size128 _ hsz)
        have HA := Lib.hid (all_cells .u8 (padList l bs 128))
        have HZ2 := Lib.hid (show room.toArray.size = (cellsOf .u8 (padList l bs 128)).size by rw [hsz]; simp [room])
        clear hcs hzz hbel hget hsz
        go_wp2_with (first | (refine wpList_load_row rfl 306 (.tmp 6) rfl (w.heap.size + 1) rfl 306 _ (0, 0) _ HCS.out Tryz.underlying306 rfl HP.out ?_) | (refine wpList_store_row rfl 306 (.tmp 4) (.tmp 36) rfl w.heap.size _ rfl rfl 306 _ HCZ.out HP.out HZ2.out HA.out ?_))
        have hld := run_loadVar_row (P := Tryz.prog) _ w.heap.size 306 306 _ (0, 0) _ (row_new (cs' := cellsOf .u8 (padList l bs 128)) HCZ.out) Tryz.underlying306 rfl HP.out
        refine bodyPost_ret (v := .tuple #[.agg (cellsOf .u8 (padList l bs 128)), .int .i64 ((128 : Nat) : Int)]) ?_ rfl ⟨rfl, ?_⟩
        · simp [results, Tryz.results224, asAddr, hld]
        · exact below_setRow HBel.out (Nat.le_refl _) _
  · have hd' : decide ((64 : Int) < (n : Int) + 1 + 8) = false := by rw [hd]; simp; omega
    clear hd
    subst he
    go_enter Tryz.func224, Tryz.ntmps224
    go_wp2_with (refine wpList_copy_splice rfl (.tmp 9) (.tmp 10) 40 40 rfl 5 Tryz.underlying40 HU.out _ _ _ _ _ _ rfl rfl (w.heap.size + 1) 0 room 306 HS.out.1 (l.map fun x => Value.int .u8 (x : Nat)) HS.out.2.1 HS.out.2.2.1 HS.out.2.2.2.1 HS.out.2.2.2.2.1 (w.heap.size + 1) _ (Below.refl _ _) (Nat.le_refl _) ?_; intro w1 hg1 hb1; have hr1 := copied (by rw [HL.out]; exact hn) hg1.out; have hc1 := hr1.cell (i := n) (by omega); have hf1 := hr1.frozen n; have HR1 := Lib.hid hr1; have HB1 := Lib.hid hb1; clear hb1 hr1 hg1)
    go_loopw [8, 22] (fun _ i wr => ∃ k : Nat, k ≤ 8 ∧ i = .int .i64 k ∧ wr.rowIs (w.heap.size + 1) 306 128 (fun j => .int .u8 (padTo l bs 64 k j : Nat)) ∧ wr.heap[w.heap.size]? = some (.cells room.toArray 306 (0, 0)) ∧ Below w.heap.size w wr) (fun _ i _ => 8 - (intOf i).toNat)
    case atStart =>
      refine ⟨0, by omega, rfl, pad_start HL.out hn (by omega) HR1.out, ?_, ?_⟩
      · rw [Below.heap_setCell _ _ _ _ (by simp), HB1.out.block _ (by omega)]
        exact HS.out.2.2.2.2.2.1
      · exact (HS.out.2.2.2.2.2.2.trans (HB1.out.mono (by omega))).setCell (by simp) _
    case round =>
      clear hc1 hf1 HB1 HR1 HS HU
      obtain ⟨k, hk, rfl, hr, hzz, hbel⟩ := hrel
      by_cases hlt : k < 8
      · have hc := hr.cell (i := 64 - 1 - k) (by omega)
        have hf := hr.frozen (64 - 1 - k)
        have HR := Lib.hid hr
        have HZ := Lib.hid hzz
        have HBel := Lib.hid hbel
        have lk : (k : Int) < 8 := by omega
        clear hr hzz hbel
        simp only [show 64 - 1 - k = 63 - k by omega] at hc hf
        go_wp2
        go_roundw
        case rel => exact ⟨k + 1, by omega, by go_num, pad_step (by omega) HL.out (by omega) hlt (by simp) HR.out, (Below.heap_setCell _ _ _ _ (by simp)).trans HZ.out, HBel.out.setCell (by simp) _⟩
        case measure => simp [intOf]; omega
      · obtain rfl : k = 8 := by omega
        obtain ⟨cs, hcs, hsz, hget⟩ := hr
        obtain rfl : cs = cellsOf .u8 (padList l bs 64) := row_list hsz hget
        have HCS := Lib.hid hcs
        have HCZ := Lib.hid hzz
        have HBel := Lib.hid hbel
        have HP := Lib.hid (size128 _ hsz)
        have HA := Lib.hid (all_cells .u8 (padList l bs 64))
        have HZ2 := Lib.hid (show room.toArray.size = (cellsOf .u8 (padList l bs 64)).size by rw [hsz]; simp [room])
        clear hcs hzz hbel hget hsz
        go_wp2_with (first | (refine wpList_load_row rfl 306 (.tmp 6) rfl (w.heap.size + 1) rfl 306 _ (0, 0) _ HCS.out Tryz.underlying306 rfl HP.out ?_) | (refine wpList_store_row rfl 306 (.tmp 4) (.tmp 36) rfl w.heap.size _ rfl rfl 306 _ HCZ.out HP.out HZ2.out HA.out ?_))
        have hld := run_loadVar_row (P := Tryz.prog) _ w.heap.size 306 306 _ (0, 0) _ (row_new (cs' := cellsOf .u8 (padList l bs 64)) HCZ.out) Tryz.underlying306 rfl HP.out
        refine bodyPost_ret (v := .tuple #[.agg (cellsOf .u8 (padList l bs 64)), .int .i64 ((64 : Nat) : Int)]) ?_ rfl ⟨rfl, ?_⟩
        · simp [results, Tryz.results224, asAddr, hld]
        · exact below_setRow HBel.out (Nat.le_refl _) _
theorem lastBlocks_any (w : World) (A : Option Addr) (n c bs : Nat) (l : List Nat) (hB : Bytes w A n l) (hn : n < 64) (hbs : bs < 18446744073709551616) :
    Calls Tryz.prog 224 #[.slice A n c, .int .u64 bs] w fun r w' => r = .returned (.tuple #[.agg (cellsOf .u8 (padList l bs (padEnd n))), .int .i64 (padEnd n : Nat)]) ∧ Below w.heap.size w w' :=
  lastBlocks_at w A n c bs (padEnd n) l hB hn hbs (by unfold padEnd; split <;> omega)
end Go.Proofs.YthhflkgngencdaaGreatDoor.sumDoor
