/- Sums of bytes as plain functions of numbers. -/
import Derived.Laws.BitsAllLaws
namespace Go.Proofs.YtdbdeplabipfaaaGreatDoor.sumPlain

/-- A word turned to the right. -/
def rot (x n : Nat) : Nat := x / 2 ^ n ||| x * 2 ^ (32 - n) % 4294967296
def sm0 (x : Nat) : Nat := (rot x 7 ^^^ rot x 18) ^^^ x / 8
def sm1 (x : Nat) : Nat := (rot x 17 ^^^ rot x 19) ^^^ x / 1024
def bg0 (x : Nat) : Nat := (rot x 2 ^^^ rot x 13) ^^^ rot x 22
def bg1 (x : Nat) : Nat := (rot x 6 ^^^ rot x 11) ^^^ rot x 25
def chs (e f g : Nat) : Nat := (e &&& f) ^^^ ((4294967295 ^^^ e) &&& g)
def mjr (a b c : Nat) : Nat := ((a &&& b) ^^^ (a &&& c)) ^^^ (b &&& c)

/-- The word at place k of a block of bytes. -/
def word (g : Nat → Nat) (k : Nat) : Nat := g (4 * k) * 16777216 + g (4 * k + 1) * 65536 + g (4 * k + 2) * 256 + g (4 * k + 3)
/-- The next word of those that are there. -/
def next (l : List Nat) (k : Nat) : Nat := (l.getD (k - 16) 0 + sm0 (l.getD (k - 15) 0) + l.getD (k - 7) 0 + sm1 (l.getD (k - 2) 0)) % 4294967296
/-- The first words of a block. -/
def words (g : Nat → Nat) : Nat → List Nat
  | 0 => []
  | k + 1 => words g k ++ [if k < 16 then word g k else next (words g k) k]

/-- The words of the rounds. -/
def consts : List Nat := [1116352408, 1899447441, 3049323471, 3921009573, 961987163, 1508970993, 2453635748, 2870763221, 3624381080, 310598401, 607225278, 1426881987, 1925078388, 2162078206, 2614888103, 3248222580, 3835390401, 4022224774, 264347078, 604807628, 770255983, 1249150122, 1555081692, 1996064986, 2554220882, 2821834349, 2952996808, 3210313671, 3336571891, 3584528711, 113926993, 338241895, 666307205, 773529912, 1294757372, 1396182291, 1695183700, 1986661051, 2177026350, 2456956037, 2730485921, 2820302411, 3259730800, 3345764771, 3516065817, 3600352804, 4094571909, 275423344, 430227734, 506948616, 659060556, 883997877, 958139571, 1322822218, 1537002063, 1747873779, 1955562222, 2024104815, 2227730452, 2361852424, 2428436474, 2756734187, 3204031479, 3329325298]

/-- Eight words. -/
structure Eight where
  a : Nat
  b : Nat
  c : Nat
  d : Nat
  e : Nat
  f : Nat
  g : Nat
  h : Nat
def seed8 : Eight := ⟨1779033703, 3144134277, 1013904242, 2773480762, 1359893119, 2600822924, 528734635, 1541459225⟩
def low (s : Eight) (k w : Nat) : Nat := (s.h + bg1 s.e + chs s.e s.f s.g + k + w) % 4294967296
def high (s : Eight) : Nat := (bg0 s.a + mjr s.a s.b s.c) % 4294967296
def round (s : Eight) (k w : Nat) : Eight :=
  ⟨(low s k w + high s) % 4294967296, s.a, s.b, s.c, (s.d + low s k w) % 4294967296, s.e, s.f, s.g⟩
def rounds (ws : List Nat) (s : Eight) : Nat → Eight
  | 0 => s
  | k + 1 => round (rounds ws s k) (consts.getD k 0) (ws.getD k 0)
def Eight.add (s t : Eight) : Eight :=
  ⟨(s.a + t.a) % 4294967296, (s.b + t.b) % 4294967296, (s.c + t.c) % 4294967296, (s.d + t.d) % 4294967296, (s.e + t.e) % 4294967296, (s.f + t.f) % 4294967296, (s.g + t.g) % 4294967296, (s.h + t.h) % 4294967296⟩
def block (s : Eight) (g : Nat → Nat) : Eight := s.add (rounds (words g 64) s 64)
def Eight.Ok (s : Eight) : Prop := s.a < 4294967296 ∧ s.b < 4294967296 ∧ s.c < 4294967296 ∧ s.d < 4294967296 ∧ s.e < 4294967296 ∧ s.f < 4294967296 ∧ s.g < 4294967296 ∧ s.h < 4294967296

theorem xor_lt32 {a b : Nat} (ha : a < 4294967296) (hb : b < 4294967296) : a ^^^ b < 4294967296 := Nat.xor_lt_two_pow (n := 32) ha hb
theorem or_lt32 {a b : Nat} (ha : a < 4294967296) (hb : b < 4294967296) : a ||| b < 4294967296 := Nat.or_lt_two_pow (n := 32) ha hb
theorem and_lt32 {a b : Nat} (hb : b < 4294967296) : a &&& b < 4294967296 := Nat.and_lt_two_pow (n := 32) a hb
theorem div_lt32 {a : Nat} (k : Nat) (ha : a < 4294967296) : a / k < 4294967296 := Nat.lt_of_le_of_lt (Nat.div_le_self _ _) ha
theorem rot_lt {x : Nat} (n : Nat) (h : x < 4294967296) : rot x n < 4294967296 := or_lt32 (div_lt32 _ h) (Nat.mod_lt _ (by omega))
theorem sm0_lt {x : Nat} (h : x < 4294967296) : sm0 x < 4294967296 := xor_lt32 (xor_lt32 (rot_lt _ h) (rot_lt _ h)) (div_lt32 _ h)
theorem sm1_lt {x : Nat} (h : x < 4294967296) : sm1 x < 4294967296 := xor_lt32 (xor_lt32 (rot_lt _ h) (rot_lt _ h)) (div_lt32 _ h)
theorem bg0_lt {x : Nat} (h : x < 4294967296) : bg0 x < 4294967296 := xor_lt32 (xor_lt32 (rot_lt _ h) (rot_lt _ h)) (rot_lt _ h)
theorem bg1_lt {x : Nat} (h : x < 4294967296) : bg1 x < 4294967296 := xor_lt32 (xor_lt32 (rot_lt _ h) (rot_lt _ h)) (rot_lt _ h)
theorem chs_lt {e f g : Nat} (hf : f < 4294967296) (hg : g < 4294967296) : chs e f g < 4294967296 := xor_lt32 (and_lt32 hf) (and_lt32 hg)
theorem mjr_lt {a b c : Nat} (hb : b < 4294967296) (hc : c < 4294967296) : mjr a b c < 4294967296 := xor_lt32 (xor_lt32 (and_lt32 hb) (and_lt32 hc)) (and_lt32 hc)
theorem word_lt {g : Nat → Nat} (hg : ∀ i, g i < 256) (k : Nat) : word g k < 4294967296 := by
  have h0 := hg (4 * k)
  have h1 := hg (4 * k + 1)
  have h2 := hg (4 * k + 2)
  have h3 := hg (4 * k + 3)
  unfold word
  omega
theorem next_lt (l : List Nat) (k : Nat) : next l k < 4294967296 := Nat.mod_lt _ (by omega)
theorem words_len (g : Nat → Nat) : ∀ k, (words g k).length = k
  | 0 => rfl
  | k + 1 => by simp [words, words_len g k]
theorem words_lt {g : Nat → Nat} (hg : ∀ i, g i < 256) : ∀ k, ∀ x ∈ words g k, x < 4294967296
  | 0 => by simp [words]
  | k + 1 => by
    intro x hx
    rw [words, List.mem_append] at hx
    rcases hx with hx | hx
    · exact words_lt hg k x hx
    · simp only [List.mem_singleton] at hx
      subst hx
      split
      · exact word_lt hg k
      · exact next_lt _ _
theorem getD_lt {l : List Nat} (h : ∀ x ∈ l, x < 4294967296) (i : Nat) : l.getD i 0 < 4294967296 := by
  by_cases hi : i < l.length
  · have : l.getD i 0 = l[i] := by simp [List.getD, hi]
    rw [this]
    exact h _ (List.getElem_mem hi)
  · have : l.getD i 0 = 0 := by simp [List.getD, List.getElem?_eq_none (Nat.le_of_not_lt hi)]
    omega
theorem words_old (g : Nat → Nat) (k i : Nat) (h : i < k) : (words g (k + 1)).getD i 0 = (words g k).getD i 0 := by
  have := words_len g k
  simp [words, List.getD, List.getElem?_append, this, h]
theorem words_new (g : Nat → Nat) (k : Nat) : (words g (k + 1)).getD k 0 = if k < 16 then word g k else next (words g k) k := by
  have := words_len g k
  simp [words, List.getD, this]
theorem low_lt (s : Eight) (k w : Nat) : low s k w < 4294967296 := Nat.mod_lt _ (by omega)
theorem high_lt (s : Eight) : high s < 4294967296 := Nat.mod_lt _ (by omega)
theorem round_ok {s : Eight} (h : s.Ok) (k w : Nat) : (round s k w).Ok := by
  obtain ⟨h1, h2, h3, h4, h5, h6, h7, h8⟩ := h
  exact ⟨Nat.mod_lt _ (by omega), h1, h2, h3, Nat.mod_lt _ (by omega), h5, h6, h7⟩
theorem rounds_ok {s : Eight} (h : s.Ok) (ws : List Nat) : ∀ k, (rounds ws s k).Ok
  | 0 => h
  | k + 1 => round_ok (rounds_ok h ws k) _ _
theorem add_ok (s t : Eight) : (s.add t).Ok := by
  refine ⟨?_, ?_, ?_, ?_, ?_, ?_, ?_, ?_⟩ <;> exact Nat.mod_lt _ (by omega)
/-- The word at a place. -/
def Eight.nth (s : Eight) : Nat → Nat
  | 0 => s.a
  | 1 => s.b
  | 2 => s.c
  | 3 => s.d
  | 4 => s.e
  | 5 => s.f
  | 6 => s.g
  | 7 => s.h
  | _ => 0
theorem nth_lt {s : Eight} (h : s.Ok) : ∀ i, s.nth i < 4294967296
  | 0 => h.1
  | 1 => h.2.1
  | 2 => h.2.2.1
  | 3 => h.2.2.2.1
  | 4 => h.2.2.2.2.1
  | 5 => h.2.2.2.2.2.1
  | 6 => h.2.2.2.2.2.2.1
  | 7 => h.2.2.2.2.2.2.2
  | _ + 8 => by simp [Eight.nth]
theorem add_nth (s t : Eight) : ∀ i, i < 8 → (s.add t).nth i = (s.nth i + t.nth i) % 4294967296
  | 0, _ => rfl
  | 1, _ => rfl
  | 2, _ => rfl
  | 3, _ => rfl
  | 4, _ => rfl
  | 5, _ => rfl
  | 6, _ => rfl
  | 7, _ => rfl
  | n + 8, h => by omega
end Go.Proofs.YtdbdeplabipfaaaGreatDoor.sumPlain
