/- Plain mathematics of keys: how tokens are read as keys, and what a token more does. -/
import Derived.Test.YtcepcamedmiinaaGreatDoorMa1
import Derived.Lib.ConvBytes
import Derived.Lib.AtoiErrMem
namespace Go.Proofs.YtcepcamedmiinaaGreatDoor.sea

/-- A token: its kind, and its text. -/
structure Tk where
  k : Int
  t : ByteArray
instance : Inhabited Tk := ⟨⟨0, ⟨#[]⟩⟩⟩
/-- What has been read: what it asks of a message, what is left, and whether it went wrong. -/
structure Rs (M : Type) where
  f : M → Bool
  l : List Tk
  b : Bool
/-- Whether a token of the kind comes; its text; what is left behind it. -/
def comesB (l : List Tk) (bad : Bool) (k : Int) : Bool := !bad && (match l with | [] => false | t :: _ => decide (t.k = k))
def takeT (l : List Tk) (bad : Bool) (k : Int) : ByteArray := if comesB l bad k = true then (match l with | [] => ⟨#[]⟩ | t :: _ => t.t) else ⟨#[]⟩
def takeL (l : List Tk) (bad : Bool) (k : Int) : List Tk := if comesB l bad k = true then l.tail else l
def goesB (l : List Tk) (bad : Bool) : Bool := !bad && (match l with | [] => false | t :: _ => !decide (t.k = 4))
theorem comes_bad (l : List Tk) (k : Int) : comesB l true k = false := rfl
theorem comes_nil (b : Bool) (k : Int) : comesB [] b k = false := by cases b <;> rfl
theorem goes_bad (l : List Tk) : goesB l true = false := rfl
theorem goes_nil (b : Bool) : goesB [] b = false := by cases b <;> rfl
theorem comes_more (t : Tk) (r c : List Tk) (b : Bool) (k : Int) : comesB (t :: r ++ c) b k = comesB (t :: r) b k := rfl
theorem goes_more (t : Tk) (r c : List Tk) (b : Bool) : goesB (t :: r ++ c) b = goesB (t :: r) b := rfl
theorem takeT_more {a : List Tk} {b : Bool} {k : Int} (h : comesB a b k = true) (c : List Tk) : comesB (a ++ c) b k = true ∧ takeT (a ++ c) b k = takeT a b k ∧ takeL (a ++ c) b k = takeL a b k ++ c := by
  cases a with
  | nil => rw [comes_nil] at h; cases h
  | cons t r =>
    have h2 : comesB (t :: r ++ c) b k = true := h
    refine ⟨h2, ?_, ?_⟩
    · unfold takeT; rw [if_pos h2, if_pos h]; rfl
    · unfold takeL; rw [if_pos h2, if_pos h]; rfl
theorem comes_good {l : List Tk} {b : Bool} {k : Int} (h : comesB l b k = true) : b = false := by
  cases b with
  | true => rw [comes_bad] at h; cases h
  | false => rfl
theorem goes_good {l : List Tk} {b : Bool} (h : goesB l b = true) : b = false := by
  cases b with
  | true => rw [goes_bad] at h; cases h
  | false => rfl
theorem takeL_less {l : List Tk} {bad : Bool} {k : Int} (h : comesB l bad k = true) : (takeL l bad k).length + 1 = l.length := by
  unfold takeL
  rw [if_pos h]
  cases l with
  | nil => rw [comes_nil] at h; cases h
  | cons t r => rfl
theorem takeL_no {l : List Tk} {bad : Bool} {k : Int} (h : comesB l bad k = false) : takeL l bad k = l := by
  unfold takeL
  rw [if_neg (by rw [h]; exact Bool.false_ne_true)]
theorem takeL_le (l : List Tk) (bad : Bool) (k : Int) : (takeL l bad k).length ≤ l.length := by
  unfold takeL
  split
  · rw [List.length_tail]; omega
  · exact Nat.le_refl _
/-- A word: a text, or else an atom. -/
def wordT (l : List Tk) (b : Bool) : ByteArray := if comesB l b 2 = true then takeT l b 2 else takeT l b 1
def wordL (l : List Tk) (b : Bool) : List Tk := if comesB l b 2 = true then takeL l b 2 else takeL l b 1
def wordB (l : List Tk) (b : Bool) : Bool := if comesB l b 2 = true then !comesB l b 2 else !comesB l b 1
theorem word_good {l : List Tk} {b : Bool} (h : wordB l b = false) : b = false := by
  unfold wordB at h
  split at h
  · rename_i h2
    exact comes_good h2
  · exact comes_good (k := 1) (by simpa using h)
theorem word_more {a : List Tk} {b : Bool} (h : wordB a b = false) (c : List Tk) : wordB (a ++ c) b = false ∧ wordT (a ++ c) b = wordT a b ∧ wordL (a ++ c) b = wordL a b ++ c := by
  unfold wordB wordT wordL at *
  split at h
  · rename_i h2
    have e := takeT_more h2 c
    rw [if_pos e.1, if_pos e.1, if_pos e.1, if_pos h2, if_pos h2, e.1]
    exact ⟨rfl, e.2⟩
  · rename_i h2
    have h1 : comesB a b 1 = true := by simpa using h
    have e := takeT_more h1 c
    cases a with
    | nil => rw [comes_nil] at h1; cases h1
    | cons t r =>
      have h3 : ¬ comesB (t :: r ++ c) b 2 = true := h2
      rw [if_neg h3, if_neg h3, if_neg h3, if_neg h2, if_neg h2, e.1]
      exact ⟨rfl, e.2⟩
theorem wordL_le (l : List Tk) (b : Bool) : (wordL l b).length ≤ l.length := by
  unfold wordL
  split <;> exact takeL_le _ _ _
/-- Great letters. -/
def upB (c : UInt8) : UInt8 := if 97 ≤ c ∧ c ≤ 122 then c - 32 else c
def greatS (s : ByteArray) : ByteArray := ⟨s.data.map upB⟩
/-- What single keys ask. -/
structure Lv (M : Type) where
  fld : ByteArray → ByteArray → M → Bool
  bod : ByteArray → M → Bool
  txt : ByteArray → M → Bool
  big : ByteArray → M → Bool
  sml : ByteArray → M → Bool
  uid : ByteArray → M → Bool
  own : ByteArray → M → Bool
  isNum : ByteArray → Bool
  isSet : ByteArray → Bool
  isOwn : ByteArray → Bool
def nALL : ByteArray := ⟨#[65, 76, 76]⟩
def nNOT : ByteArray := ⟨#[78, 79, 84]⟩
def nOR : ByteArray := ⟨#[79, 82]⟩
def nSUBJECT : ByteArray := ⟨#[83, 85, 66, 74, 69, 67, 84]⟩
def nFROM : ByteArray := ⟨#[70, 82, 79, 77]⟩
def nTO : ByteArray := ⟨#[84, 79]⟩
def nBODY : ByteArray := ⟨#[66, 79, 68, 89]⟩
def nTEXT : ByteArray := ⟨#[84, 69, 88, 84]⟩
def nLARGER : ByteArray := ⟨#[76, 65, 82, 71, 69, 82]⟩
def nSMALLER : ByteArray := ⟨#[83, 77, 65, 76, 76, 69, 82]⟩
def nUID : ByteArray := ⟨#[85, 73, 68]⟩
section
variable {M : Type}
def namedP (V : Lv M) (rec : List Tk → Bool → Rs M) (nm : ByteArray) (l : List Tk) (b : Bool) : Rs M :=
  if nm = nALL then ⟨fun _ => true, l, b⟩
  else if nm = nNOT then ⟨fun m => !(rec l b).f m, (rec l b).l, (rec l b).b⟩
  else if nm = nOR then ⟨fun m => (rec l b).f m || (rec (rec l b).l (rec l b).b).f m, (rec (rec l b).l (rec l b).b).l, (rec (rec l b).l (rec l b).b).b⟩
  else if nm = nSUBJECT ∨ nm = nFROM ∨ nm = nTO then ⟨V.fld nm (wordT l b), wordL l b, wordB l b⟩
  else if nm = nBODY then ⟨V.bod (wordT l b), wordL l b, wordB l b⟩
  else if nm = nTEXT then ⟨V.txt (wordT l b), wordL l b, wordB l b⟩
  else if nm = nLARGER then ⟨V.big (takeT l b 1), takeL l b 1, !comesB l b 1 || !V.isNum (takeT l b 1)⟩
  else if nm = nSMALLER then ⟨V.sml (takeT l b 1), takeL l b 1, !comesB l b 1 || !V.isNum (takeT l b 1)⟩
  else if nm = nUID then ⟨V.uid (takeT l b 1), takeL l b 1, !comesB l b 1 || !V.isSet (takeT l b 1)⟩
  else ⟨V.own nm, l, b || !V.isOwn nm⟩
/-- Keys, one behind the other: each one more asks for more. -/
def loopP (key : List Tk → Bool → Rs M) : Nat → (M → Bool) → List Tk → Bool → Rs M
  | 0, f, l, b => ⟨f, l, b⟩
  | k + 1, f, l, b => if goesB l b = true then loopP key k (fun m => f m && (key l b).f m) (key l b).l (key l b).b else ⟨f, l, b⟩
def keysOf (key : List Tk → Bool → Rs M) (l : List Tk) (b : Bool) : Rs M := loopP key 200 (key l b).f (key l b).l (key l b).b
def keyP (V : Lv M) : Nat → Nat → List Tk → Bool → Rs M
  | 0, _, l, _ => ⟨fun _ => false, l, true⟩
  | n + 1, d, l, b =>
    if comesB l (b || decide (10 < d)) 3 = true then
      ⟨(keysOf (keyP V n (d + 1)) (takeL l (b || decide (10 < d)) 3) false).f,
       takeL (keysOf (keyP V n (d + 1)) (takeL l (b || decide (10 < d)) 3) false).l (keysOf (keyP V n (d + 1)) (takeL l (b || decide (10 < d)) 3) false).b 4,
       !comesB (keysOf (keyP V n (d + 1)) (takeL l (b || decide (10 < d)) 3) false).l (keysOf (keyP V n (d + 1)) (takeL l (b || decide (10 < d)) 3) false).b 4⟩
    else namedP V (keyP V n (d + 1)) (greatS (takeT l (b || decide (10 < d)) 1)) (takeL l (b || decide (10 < d)) 1) (!comesB l (b || decide (10 < d)) 1)
/-- Reading goes on, and what went wrong stays so. -/
structure Sound (key : List Tk → Bool → Rs M) : Prop where
  le : ∀ l b, (key l b).l.length ≤ l.length
  good : ∀ l b, (key l b).b = false → b = false
  less : ∀ l b, (key l b).b = false → (key l b).l.length < l.length
  more : ∀ a c b, (key a b).b = false → key (a ++ c) b = ⟨(key a b).f, (key a b).l ++ c, false⟩
theorem loop_le {key : List Tk → Bool → Rs M} (hK : Sound key) : ∀ (k : Nat) (f : M → Bool) (l : List Tk) (b : Bool), (loopP key k f l b).l.length ≤ l.length
  | 0, f, l, b => Nat.le_refl _
  | k + 1, f, l, b => by
    unfold loopP
    split
    · exact Nat.le_trans (loop_le hK k _ _ _) (hK.le _ _)
    · exact Nat.le_refl _
theorem loop_good {key : List Tk → Bool → Rs M} (_ : Sound key) : ∀ (k : Nat) (f : M → Bool) (l : List Tk) (b : Bool), (loopP key k f l b).b = false → b = false
  | 0, f, l, b => fun h => h
  | k + 1, f, l, b => by
    unfold loopP
    split
    · rename_i hg
      exact fun _ => goes_good hg
    · exact fun h => h
/-- Keys that end where others do end there too, whatever comes behind. -/
theorem loop_more {key : List Tk → Bool → Rs M} (hK : Sound key) : ∀ (k : Nat) (f : M → Bool) (a c : List Tk) (b : Bool), (loopP key k f a b).b = false → (loopP key k f a b).l ≠ [] → loopP key k f (a ++ c) b = ⟨(loopP key k f a b).f, (loopP key k f a b).l ++ c, false⟩
  | 0, f, a, c, b => fun h _ => by
    cases (show b = false from h)
    rfl
  | k + 1, f, a, c, b => by
    unfold loopP
    cases a with
    | nil =>
      rw [if_neg (by rw [goes_nil]; exact Bool.false_ne_true)]
      exact fun _ h => absurd rfl h
    | cons t r =>
      by_cases hg : goesB (t :: r) b = true
      · have hg2 : goesB (t :: r ++ c) b = true := hg
        rw [if_pos hg, if_pos hg2]
        intro h1 h2
        have e := hK.more (t :: r) c b (loop_good hK _ _ _ _ h1)
        rw [e]
        have e2 := loop_more hK k (fun m => f m && (key (t :: r) b).f m) (key (t :: r) b).l c (key (t :: r) b).b h1 h2
        rw [loop_good hK _ _ _ _ h1] at e2 ⊢
        exact e2
      · have hg2 : ¬ goesB (t :: r ++ c) b = true := hg
        rw [if_neg hg, if_neg hg2]
        intro h1 _
        rw [show b = false from h1]
theorem keys_le {key : List Tk → Bool → Rs M} (hK : Sound key) (l : List Tk) (b : Bool) : (keysOf key l b).l.length ≤ l.length := Nat.le_trans (loop_le hK _ _ _ _) (hK.le _ _)
theorem keys_good {key : List Tk → Bool → Rs M} (hK : Sound key) (l : List Tk) (b : Bool) (h : (keysOf key l b).b = false) : b = false := hK.good _ _ (loop_good hK _ _ _ _ h)
theorem keys_more {key : List Tk → Bool → Rs M} (hK : Sound key) (a c : List Tk) (b : Bool) (h1 : (keysOf key a b).b = false) (h2 : (keysOf key a b).l ≠ []) : keysOf key (a ++ c) b = ⟨(keysOf key a b).f, (keysOf key a b).l ++ c, false⟩ := by
  unfold keysOf at *
  have e := hK.more a c b (loop_good hK _ _ _ _ h1)
  rw [e]
  have e2 := loop_more hK 200 (key a b).f (key a b).l c (key a b).b h1 h2
  rw [loop_good hK _ _ _ _ h1] at e2 ⊢
  exact e2
theorem or_not {a b : Bool} (h : (!a || !b) = false) : a = true ∧ b = true := by cases a <;> cases b <;> simp_all
theorem named_le (V : Lv M) {key : List Tk → Bool → Rs M} (hK : Sound key) (nm : ByteArray) (l : List Tk) (b : Bool) : (namedP V key nm l b).l.length ≤ l.length := by
  unfold namedP
  repeat' split
  all_goals first
    | exact Nat.le_refl _
    | exact hK.le _ _
    | exact Nat.le_trans (hK.le _ _) (hK.le _ _)
    | exact wordL_le _ _
    | exact takeL_le _ _ _
theorem named_good (V : Lv M) {key : List Tk → Bool → Rs M} (hK : Sound key) (nm : ByteArray) (l : List Tk) (b : Bool) : (namedP V key nm l b).b = false → b = false := by
  unfold namedP
  repeat' split
  all_goals first
    | exact fun h => h
    | exact fun h => hK.good _ _ h
    | exact fun h => hK.good _ _ (hK.good _ _ h)
    | exact fun h => word_good h
    | exact fun h => comes_good (or_not h).1
    | exact fun h => by
        cases b
        · rfl
        · cases h
theorem named_more (V : Lv M) {key : List Tk → Bool → Rs M} (hK : Sound key) (nm : ByteArray) (a c : List Tk) (b : Bool) : (namedP V key nm a b).b = false → namedP V key nm (a ++ c) b = ⟨(namedP V key nm a b).f, (namedP V key nm a b).l ++ c, false⟩ := by
  unfold namedP
  repeat' split
  · intro h; rw [show b = false from h]
  · intro h; rw [hK.more a c b h]
  · intro h
    have h1 : (key a b).b = false := hK.good _ _ h
    rw [hK.more a c b h1]
    have h2 : (key (key a b).l (key a b).b).b = false := h
    rw [h1] at h2
    have e := hK.more (key a b).l c false h2
    simp only [h1, e]
  · intro h; obtain ⟨e1, e2, e3⟩ := word_more h c; rw [e1, e2, e3]
  · intro h; obtain ⟨e1, e2, e3⟩ := word_more h c; rw [e1, e2, e3]
  · intro h; obtain ⟨e1, e2, e3⟩ := word_more h c; rw [e1, e2, e3]
  · intro h; obtain ⟨e1, e2, e3⟩ := takeT_more (or_not h).1 c; rw [e1, e2, e3, (or_not h).2]; rfl
  · intro h; obtain ⟨e1, e2, e3⟩ := takeT_more (or_not h).1 c; rw [e1, e2, e3, (or_not h).2]; rfl
  · intro h; obtain ⟨e1, e2, e3⟩ := takeT_more (or_not h).1 c; rw [e1, e2, e3, (or_not h).2]; rfl
  · intro h; rw [show (b || !V.isOwn nm) = false from h]
theorem key_sound (V : Lv M) : ∀ n d, Sound (keyP V n d)
  | 0, d => ⟨fun l b => Nat.le_refl _, fun l b h => (by cases h), fun l b h => (by cases h), fun a c b h => (by cases h)⟩
  | n + 1, d => by
    have hK := key_sound V n (d + 1)
    refine ⟨fun l b => ?_, fun l b => ?_, fun l b => ?_, fun a c b => ?_⟩
    · unfold keyP
      split
      · exact Nat.le_trans (takeL_le _ _ _) (Nat.le_trans (keys_le hK _ _) (takeL_le _ _ _))
      · exact Nat.le_trans (named_le V hK _ _ _) (takeL_le _ _ _)
    · unfold keyP
      split
      · rename_i h
        intro _
        have := comes_good h
        cases b
        · rfl
        · cases this
      · intro h
        have h1 : comesB l (b || decide (10 < d)) 1 = true := by simpa using named_good V hK _ _ _ h
        have := comes_good h1
        cases b
        · rfl
        · cases this
    · unfold keyP
      split
      · rename_i h
        intro _
        have := takeL_less h
        exact Nat.lt_of_le_of_lt (Nat.le_trans (takeL_le _ _ _) (keys_le hK _ _)) (by omega)
      · intro h
        have h1 : comesB l (b || decide (10 < d)) 1 = true := by simpa using named_good V hK _ _ _ h
        have := takeL_less h1
        exact Nat.lt_of_le_of_lt (named_le V hK _ _ _) (by omega)
    · unfold keyP
      by_cases h3 : comesB a (b || decide (10 < d)) 3 = true
      · obtain ⟨e1, e2, e3⟩ := takeT_more h3 c
        rw [if_pos h3, if_pos e1, e3]
        intro h
        have h4 : comesB (keysOf (keyP V n (d + 1)) (takeL a (b || decide (10 < d)) 3) false).l (keysOf (keyP V n (d + 1)) (takeL a (b || decide (10 < d)) 3) false).b 4 = true := by simpa using h
        have h5 := comes_good h4
        have h6 : (keysOf (keyP V n (d + 1)) (takeL a (b || decide (10 < d)) 3) false).l ≠ [] := fun e => by rw [e, comes_nil] at h4; cases h4
        rw [keys_more hK _ c _ h5 h6]
        rw [h5] at h4
        obtain ⟨g1, g2, g3⟩ := takeT_more h4 c
        simp only [g1, g3, h5]
        rfl
      · rw [if_neg h3]
        intro h
        have h1 : comesB a (b || decide (10 < d)) 1 = true := by simpa using named_good V hK _ _ _ h
        obtain ⟨e1, e2, e3⟩ := takeT_more h1 c
        have h7 : ¬ comesB (a ++ c) (b || decide (10 < d)) 3 = true := by
          cases a with
          | nil => rw [comes_nil] at h1; cases h1
          | cons t r => exact h3
        rw [if_neg h7, e1, e2, e3]
        rw [h1] at h
        have := named_more V hK (greatS (takeT a (b || decide (10 < d)) 1)) (takeL a (b || decide (10 < d)) 1) c (!true) h
        rw [h1]
        exact this
/-- What is read of all tokens. -/
def readP (V : Lv M) (l : List Tk) : Rs M := keysOf (keyP V 12 1) l false
def isRight (V : Lv M) (l : List Tk) : Bool := !(readP V l).b && (readP V l).l.isEmpty
/-- Going on asks for more. -/
theorem loop_asks {key : List Tk → Bool → Rs M} : ∀ (k : Nat) (f : M → Bool) (l : List Tk) (b : Bool), ∃ g : M → Bool, (loopP key k f l b).f = fun m => f m && g m
  | 0, f, l, b => ⟨fun _ => true, by funext m; simp [loopP]⟩
  | k + 1, f, l, b => by
    unfold loopP
    split
    · obtain ⟨g, hg⟩ := loop_asks (key := key) k (fun m => f m && (key l b).f m) (key l b).l (key l b).b
      exact ⟨fun m => (key l b).f m && g m, by rw [hg]; funext m; simp [Bool.and_assoc]⟩
    · exact ⟨fun _ => true, by funext m; simp⟩
/-- All tokens of one are read ahead of what comes behind. -/
theorem loop_on {key : List Tk → Bool → Rs M} (hK : Sound key) : ∀ (k : Nat) (f : M → Bool) (a c : List Tk) (b : Bool), (loopP key k f a b).b = false → ∃ g : M → Bool, (loopP key k f (a ++ c) b).f = fun m => (loopP key k f a b).f m && g m
  | 0, f, a, c, b => fun _ => ⟨fun _ => true, by funext m; simp [loopP]⟩
  | k + 1, f, a, c, b => by
    intro h
    cases a with
    | nil =>
      have e : loopP key (k + 1) f [] b = ⟨f, [], b⟩ := by unfold loopP; rw [if_neg (by rw [goes_nil]; exact Bool.false_ne_true)]
      rw [e, List.nil_append]
      exact loop_asks _ _ _ _
    | cons t r =>
      unfold loopP at h ⊢
      by_cases hg : goesB (t :: r) b = true
      · have hg2 : goesB (t :: r ++ c) b = true := hg
        rw [if_pos hg] at h ⊢
        rw [if_pos hg2, hK.more (t :: r) c b (loop_good hK _ _ _ _ h)]
        have := loop_on hK k (fun m => f m && (key (t :: r) b).f m) (key (t :: r) b).l c (key (t :: r) b).b h
        rw [loop_good hK _ _ _ _ h] at this ⊢
        exact this
      · have hg2 : ¬ goesB (t :: r ++ c) b = true := hg
        rw [if_neg hg, if_neg hg2]
        exact ⟨fun _ => true, by funext m; simp⟩
/-- A key more finds no more. -/
theorem read_more (V : Lv M) (a c : List Tk) (h : isRight V a = true) (m : M) (hm : (readP V (a ++ c)).f m = true) : (readP V a).f m = true := by
  have hb : (readP V a).b = false := by unfold isRight at h; simp at h; exact h.1
  unfold readP keysOf at *
  have e := (key_sound V 12 1).more a c false (loop_good (key_sound V 12 1) _ _ _ _ hb)
  rw [e] at hm
  dsimp only at hm
  obtain ⟨g, hg⟩ := loop_on (key_sound V 12 1) 200 (keyP V 12 1 a false).f (keyP V 12 1 a false).l c (keyP V 12 1 a false).b hb
  rw [loop_good (key_sound V 12 1) _ _ _ _ hb] at hg ⊢
  rw [hg] at hm
  simp at hm
  exact hm.1
/-- The loop ends where it ends. -/
theorem loop_stop {key : List Tk → Bool → Rs M} (k : Nat) (f : M → Bool) {l : List Tk} {b : Bool} (h : goesB l b = false) : loopP key k f l b = ⟨f, l, b⟩ := by
  cases k with
  | zero => rfl
  | succ k => unfold loopP; rw [if_neg (by rw [h]; exact Bool.false_ne_true)]
theorem loop_next {key : List Tk → Bool → Rs M} (k : Nat) (f : M → Bool) {l : List Tk} {b : Bool} (h : goesB l b = true) : loopP key (k + 1) f l b = loopP key k (fun m => f m && (key l b).f m) (key l b).l (key l b).b := by
  rw [loopP, if_pos h]
/-- Ten deep, and no deeper. -/
def notT : Tk := ⟨1, nNOT⟩
def allT : Tk := ⟨1, nALL⟩
theorem great_not : greatS nNOT = nNOT := by decide +kernel
theorem great_all : greatS nALL = nALL := by decide +kernel
theorem deep_yes (V : Lv M) : ∀ (k n d : Nat), d + k ≤ 10 → k < n → ∃ f, keyP V n d (List.replicate k notT ++ [allT]) false = ⟨f, [], false⟩
  | 0, n, d, h, hn => by
    obtain ⟨n, rfl⟩ : ∃ m, n = m + 1 := ⟨n - 1, by omega⟩
    have hd : decide (10 < d) = false := decide_eq_false (by omega)
    unfold keyP
    rw [hd]
    rw [if_neg (by decide)]
    exact ⟨_, by unfold namedP; rw [if_pos (by exact great_all)]; rfl⟩
  | k + 1, n, d, h, hn => by
    obtain ⟨n, rfl⟩ : ∃ m, n = m + 1 := ⟨n - 1, by omega⟩
    have hd : decide (10 < d) = false := decide_eq_false (by omega)
    obtain ⟨f, hf⟩ := deep_yes V k n (d + 1) (by omega) (by omega)
    unfold keyP
    rw [hd, List.replicate_succ, List.cons_append]
    have c3 : comesB (notT :: (List.replicate k notT ++ [allT])) (false || false) 3 = false := rfl
    have c1 : comesB (notT :: (List.replicate k notT ++ [allT])) (false || false) 1 = true := rfl
    rw [if_neg (by rw [c3]; exact Bool.false_ne_true), c1]
    have t1 : takeT (notT :: (List.replicate k notT ++ [allT])) (false || false) 1 = nNOT := by unfold takeT; rw [if_pos c1]; rfl
    have t2 : takeL (notT :: (List.replicate k notT ++ [allT])) (false || false) 1 = List.replicate k notT ++ [allT] := by unfold takeL; rw [if_pos c1]; rfl
    rw [t1, t2, great_not]
    unfold namedP
    rw [if_neg (by decide), if_pos rfl]
    exact ⟨_, by rw [show (!true) = false from rfl, hf]⟩
theorem deep_no (V : Lv M) : ∀ (k n d : Nat), 11 ≤ d + k → (keyP V n d (List.replicate k notT ++ [allT]) false).b = true
  | k, 0, d, h => rfl
  | 0, n + 1, d, h => by
    have hd : decide (10 < d) = true := decide_eq_true (by omega)
    cases hb : (keyP V (n + 1) d (List.replicate 0 notT ++ [allT]) false).b with
    | true => rfl
    | false =>
      exfalso
      unfold keyP at hb
      rw [hd] at hb
      have c3 : ∀ l : List Tk, comesB l (false || true) 3 = false := fun _ => rfl
      rw [if_neg (by rw [c3]; exact Bool.false_ne_true)] at hb
      have := named_good V (key_sound V n (d + 1)) _ _ _ hb
      cases this
  | k + 1, n + 1, d, h => by
    by_cases hd : 10 < d
    · cases hb : (keyP V (n + 1) d (List.replicate (k + 1) notT ++ [allT]) false).b with
      | true => rfl
      | false =>
        exfalso
        unfold keyP at hb
        rw [decide_eq_true hd] at hb
        have c3 : ∀ l : List Tk, comesB l (false || true) 3 = false := fun _ => rfl
        rw [if_neg (by rw [c3]; exact Bool.false_ne_true)] at hb
        have := named_good V (key_sound V n (d + 1)) _ _ _ hb
        cases this
    · have ih := deep_no V k n (d + 1) (by omega)
      unfold keyP
      rw [decide_eq_false hd, List.replicate_succ, List.cons_append]
      have c3 : comesB (notT :: (List.replicate k notT ++ [allT])) (false || false) 3 = false := rfl
      have c1 : comesB (notT :: (List.replicate k notT ++ [allT])) (false || false) 1 = true := rfl
      rw [if_neg (by rw [c3]; exact Bool.false_ne_true), c1]
      have t1 : takeT (notT :: (List.replicate k notT ++ [allT])) (false || false) 1 = nNOT := by unfold takeT; rw [if_pos c1]; rfl
      have t2 : takeL (notT :: (List.replicate k notT ++ [allT])) (false || false) 1 = List.replicate k notT ++ [allT] := by unfold takeL; rw [if_pos c1]; rfl
      rw [t1, t2, great_not]
      unfold namedP
      rw [if_neg (by decide), if_pos rfl]
      exact ih
theorem deep_right (V : Lv M) (k : Nat) : isRight V (List.replicate k notT ++ [allT]) = decide (k < 10) := by
  unfold isRight readP keysOf
  by_cases h : k < 10
  · obtain ⟨f, hf⟩ := deep_yes V k 12 1 (by omega) (by omega)
    rw [hf, loop_stop _ _ (goes_nil false), decide_eq_true h]
    rfl
  · have hb := deep_no V k 12 1 (by omega)
    rw [decide_eq_false h, hb, loop_stop _ _ (goes_bad _)]
    rfl
theorem none_right (V : Lv M) : isRight V [] = false := by
  unfold isRight
  cases hb : (readP V ([] : List Tk)).b with
  | true => rfl
  | false =>
    exfalso
    unfold readP keysOf at hb
    have := (key_sound V 12 1).less _ _ (loop_good (key_sound V 12 1) _ _ _ _ hb)
    simp at this
end
end Go.Proofs.YtcepcamedmiinaaGreatDoor.sea
namespace Go.Proofs.YtcepcamedmiinaaGreatDoor.sea
open Go.ChangeShapes Go.WideShapes Go.ChangeAt Go.RowKit
open Go.Proofs.YtcepcamedmiinaaGreatDoor.codec (Bytes vals info5)
open Go.Proofs.YtcepcamedmiinaaGreatDoor.hd (lowB byt byt_at byt_lt Sl)
set_option linter.unusedVariables false
set_option maxRecDepth 100000
set_option linter.unusedSimpArgs false

/-- A text's bytes. -/
def nums (s : ByteArray) : List Nat := s.data.toList.map UInt8.toNat
theorem nums_len (s : ByteArray) : (nums s).length = s.size := by unfold nums; rw [List.length_map]; rfl
theorem nums_lt (s : ByteArray) : ∀ b ∈ nums s, b < 256 := by
  intro b hb
  obtain ⟨c, _, rfl⟩ := List.mem_map.1 hb
  exact UInt8.toNat_lt _
theorem nums_at (s : ByteArray) (i : Nat) (hi : i < s.size) : (nums s)[i]? = some (byt s i) := by
  unfold nums byt
  have h : i < s.data.size := hi
  have h2 : i < s.data.toList.length := h
  rw [List.getElem?_map, List.getElem?_eq_getElem h2, getElem!_pos s.data i h]
  rfl
def lowL (l : List Nat) : List Nat := l.map lowB
theorem lowB_lt {c : Nat} (h : c < 256) : lowB c < 256 := by unfold lowB; split <;> omega
theorem lowL_len (l : List Nat) : (lowL l).length = l.length := by simp [lowL]
theorem lowL_lt {l : List Nat} (h : ∀ b ∈ l, b < 256) : ∀ b ∈ lowL l, b < 256 := by
  intro b hb
  obtain ⟨c, hc, rfl⟩ := List.mem_map.1 hb
  exact lowB_lt (h c hc)
/-- A row of bytes that are known, as bytes. -/
theorem row_bytes {w : World} {g n : Nat} {l : List Nat} (h : w.rowIs g 5 n (fun j => .int .u8 (l.getD j 0 : Nat))) (hn : l.length = n) (hl : ∀ b ∈ l, b < 256) : Bytes w (some ⟨g, 0, none⟩) n l :=
  ⟨hn, hl, fun _ => ⟨g, 0, rfl, fun i hi => by rw [Nat.zero_add, h.cell hi]⟩⟩
/-- What making small letters answers. -/
def SmallAns (l : List Nat) (w : World) (e : Ending) (w' : World) : Prop :=
  ∃ g, e = .returned (.slice (some ⟨g, 0, none⟩) l.length l.length) ∧ w.heap.size ≤ g ∧ g < w'.heap.size ∧ Bytes w' (some ⟨g, 0, none⟩) l.length (lowL l) ∧ Below w.heap.size w w'
def SR (w : World) (l : List Nat) (k : Nat) (wr : World) : Prop :=
  wr.rowIs w.heap.size 5 l.length (fun j => .int .u8 (if j < k then lowB (l.getD j 0) else 0 : Nat)) ∧ Below w.heap.size w wr
theorem SR.start (w : World) (l : List Nat) : SR w l 0 (w.alloc (.cells (madeCells #[.int .u8 0] l.length) 5)) :=
  ⟨(World.rowIs_made w (.int .u8 0) l.length 5).congr (fun i hi => by rw [if_neg (by omega)]; rfl), (Below.refl _ _).alloc (Nat.le_refl _) _⟩
theorem SR.put {w wr : World} {l : List Nat} {k : Nat} (h : SR w l k wr) (hk : k < l.length) : SR w l (k + 1) (wr.setCell ⟨w.heap.size, k, none⟩ (.int .u8 (lowB (l.getD k 0) : Nat))) := by
  refine ⟨(h.1.set _ _).congr fun j hj => ?_, h.2.setCell (Nat.le_refl _) _⟩
  by_cases e : j = k
  · subst e
    simp only [if_true]
    rw [if_pos (by omega)]
  · simp only [if_neg e]
    have : (j < k + 1) ↔ (j < k) := by omega
    simp only [this]
theorem SR.two {w wr : World} {l : List Nat} {k : Nat} (h : SR w l k wr) (hk : k < l.length) (v : Value) : SR w l (k + 1) ((wr.setCell ⟨w.heap.size, k, none⟩ v).setCell ⟨w.heap.size, k, none⟩ (.int .u8 (lowB (l.getD k 0) : Nat))) := by
  refine ⟨((h.1.set k v).set k _).congr fun j hj => ?_, (h.2.setCell (Nat.le_refl _) _).setCell (Nat.le_refl _) _⟩
  by_cases e : j = k
  · subst e
    simp only [if_true]
    rw [if_pos (by omega)]
  · simp only [if_neg e]
    have : (j < k + 1) ↔ (j < k) := by omega
    simp only [this]
theorem SR.done {w wr : World} {l : List Nat} (h : SR w l l.length wr) (hl : ∀ b ∈ l, b < 256) : SmallAns l w (.returned (.slice (some ⟨w.heap.size, 0, none⟩) l.length l.length)) wr := by
  refine ⟨w.heap.size, rfl, Nat.le_refl _, h.1.lt, row_bytes (h.1.congr fun i hi => ?_) (lowL_len l) (lowL_lt hl), h.2⟩
  rw [if_pos hi]
  simp [lowL, List.getD, hi]
theorem SR.cell {w wr : World} {l : List Nat} {k : Nat} (h : SR w l k wr) (hk : k < l.length) : wr.cell? ⟨w.heap.size, k, none⟩ = some (.int .u8 0) ∧ wr.frozen? ⟨w.heap.size, k, none⟩ = false := by
  refine ⟨?_, h.1.frozen k⟩
  rw [h.1.cell hk, if_neg (by omega)]
  rfl
set_option maxHeartbeats 2000000 in
theorem smallS_any (w : World) (s : ByteArray) (hs : s.size ≤ 140737488355328) :
    Calls Tryz.prog 48 #[.string s] w (SmallAns (nums s) w) := by
  have hmk := run_make_row' (P := Tryz.prog) 37 5 (.int .u8 0) 1 Tryz.underlying37 info5 rfl .i64 .i64 s.size (by omega) (by omega)
  have HS0 := Lib.hid (SR.start w (nums s))
  have HL := Lib.hid (nums_len s)
  have HA := Lib.hid (nums_at s)
  have HB := Lib.hid (nums_lt s)
  rw [nums_len s] at HS0
  generalize nums s = l at *
  go_enter Tryz.func48, Tryz.ntmps48
  go_wp2
  go_loopw [4, 10] (fun _ i wr => ∃ k : Nat, k ≤ s.size ∧ i = .int .i64 k ∧ Hid (SR w l k wr)) (fun _ i _ => s.size - (intOf i).toNat)
  case atStart => exact ⟨0, Nat.zero_le _, rfl, HS0⟩
  case round =>
    obtain ⟨k, hk, rfl, HR⟩ := hrel
    by_cases hlt : k < s.size
    · have hlt' : (k : Int) < (s.size : Int) := by omega
      obtain ⟨c0, f0⟩ := HR.out.cell (by rw [HL.out]; exact hlt)
      obtain ⟨c, hc⟩ : ∃ c : Nat, (s[k]'hlt).toNat = c := ⟨_, rfl⟩
      have hc9 : c < 256 := by rw [← hc]; exact UInt8.toNat_lt _
      have hD : l.getD k 0 = c := by
        have := HA.out k hlt
        rw [List.getD, this, ← byt_at s k hlt, hc]
        rfl
      have HP := Lib.hid (HR.out.put (by rw [HL.out]; exact hlt))
      have HT := Lib.hid (fun v => HR.out.two (by rw [HL.out]; exact hlt) v)
      rw [hD] at HP HT
      have HC9 := Lib.hid hc9
      clear hD hc9
      by_cases h1 : 65 ≤ c
      · have q1 : decide ((c : Int) < 65) = false := decide_eq_false (by omega)
        by_cases h2 : c ≤ 90
        · have q2 : decide ((90 : Int) < (c : Int)) = false := decide_eq_false (by omega)
          have e1 : IntKind.u8.wrap ((c : Int) + 32) = ((c + 32 : Nat) : Int) := (IntWalk.u8_in _ (by omega)).trans (by omega)
          have e2 : lowB c = c + 32 := by unfold lowB; rw [if_pos ⟨h1, h2⟩]
          rw [e2] at HT
          have HE := Lib.hid e1
          clear e1 e2 HP
          go_wp2
          go_roundw
          case rel => exact ⟨k + 1, by omega, by go_num, by first | exact Lib.hid (HT.out _) | (rw [← HE.out] at HT; exact Lib.hid (HT.out _))⟩
          case measure => (show s.size - ((k : Int) + 1).toNat < s.size - k; omega)
        · have q2 : decide ((90 : Int) < (c : Int)) = true := decide_eq_true (by omega)
          have e2 : lowB c = c := by unfold lowB; rw [if_neg (by omega)]
          rw [e2] at HP
          clear e2 HT
          go_wp2
          go_roundw
          case rel => exact ⟨k + 1, by omega, by go_num, HP⟩
          case measure => (show s.size - ((k : Int) + 1).toNat < s.size - k; omega)
      · have q1 : decide ((c : Int) < 65) = true := decide_eq_true (by omega)
        have e2 : lowB c = c := by unfold lowB; rw [if_neg (by omega)]
        rw [e2] at HP
        clear e2 HT
        go_wp2
        go_roundw
        case rel => exact ⟨k + 1, by omega, by go_num, HP⟩
        case measure => (show s.size - ((k : Int) + 1).toNat < s.size - k; omega)
    · obtain rfl : k = s.size := by omega
      go_wp2
      go_ret
      have := HR.out
      rw [← HL.out] at this ⊢
      exact this.done HB.out
set_option maxHeartbeats 2000000 in
theorem smallB_any (w : World) (A : Option Addr) (n cp : Nat) (l : List Nat) (hB : Bytes w A n l) (hn : n ≤ 140737488355328) :
    Calls Tryz.prog 52 #[.slice A n cp] w (SmallAns l w) := by
  have hmk := run_make_row' (P := Tryz.prog) 37 5 (.int .u8 0) 1 Tryz.underlying37 info5 rfl .i64 .i64 n (by omega) (by omega)
  have HS0 := Lib.hid (SR.start w l)
  have HL := Lib.hid hB.1
  have HB := Lib.hid hB.2.1
  have HX := Lib.hid hB
  rw [hB.1] at HS0
  clear hB
  go_enter Tryz.func52, Tryz.ntmps52
  go_wp2
  go_loopw [4, 10] (fun _ i wr => ∃ k : Nat, k ≤ n ∧ i = .int .i64 k ∧ Hid (SR w l k wr)) (fun _ i _ => n - (intOf i).toNat)
  case atStart => exact ⟨0, Nat.zero_le _, rfl, HS0⟩
  case round =>
    obtain ⟨k, hk, rfl, HR⟩ := hrel
    by_cases hlt : k < n
    · have hlt' : (k : Int) < (n : Int) := by omega
      obtain ⟨c0, f0⟩ := HR.out.cell (by rw [HL.out]; exact hlt)
      obtain ⟨b, o, rfl, hcell⟩ := (HX.out.below HX.out.lt HR.out.2).2.2 (by omega)
      have hck := hcell k hlt
      have hD' : ∃ c : Nat, l.getD k 0 = c := ⟨_, rfl⟩
      have hc9 : l.getD k 0 < 256 := by
        have hk2 : k < l.length := by rw [HL.out]; exact hlt
        rw [List.getD, List.getElem?_eq_getElem hk2]
        exact HB.out _ (List.getElem_mem hk2)
      obtain ⟨c, hD⟩ := hD'
      rw [hD] at hck hc9
      clear hcell
      have HP := Lib.hid (HR.out.put (by rw [HL.out]; exact hlt))
      have HT := Lib.hid (fun v => HR.out.two (by rw [HL.out]; exact hlt) v)
      rw [hD] at HP HT
      have HC9 := Lib.hid hc9
      clear hD hc9
      by_cases h1 : 65 ≤ c
      · have q1 : decide ((c : Int) < 65) = false := decide_eq_false (by omega)
        by_cases h2 : c ≤ 90
        · have q2 : decide ((90 : Int) < (c : Int)) = false := decide_eq_false (by omega)
          have e1 : IntKind.u8.wrap ((c : Int) + 32) = ((c + 32 : Nat) : Int) := (IntWalk.u8_in _ (by omega)).trans (by omega)
          have e2 : lowB c = c + 32 := by unfold lowB; rw [if_pos ⟨h1, h2⟩]
          rw [e2] at HT
          have HE := Lib.hid e1
          clear e1 e2 HP
          go_wp2
          go_roundw
          case rel => exact ⟨k + 1, by omega, by go_num, by first | exact Lib.hid (HT.out _) | (rw [← HE.out] at HT; exact Lib.hid (HT.out _))⟩
          case measure => (show n - ((k : Int) + 1).toNat < n - k; omega)
        · have q2 : decide ((90 : Int) < (c : Int)) = true := decide_eq_true (by omega)
          have e2 : lowB c = c := by unfold lowB; rw [if_neg (by omega)]
          rw [e2] at HP
          clear e2 HT
          go_wp2
          go_roundw
          case rel => exact ⟨k + 1, by omega, by go_num, HP⟩
          case measure => (show n - ((k : Int) + 1).toNat < n - k; omega)
      · have q1 : decide ((c : Int) < 65) = true := decide_eq_true (by omega)
        have e2 : lowB c = c := by unfold lowB; rw [if_neg (by omega)]
        rw [e2] at HP
        clear e2 HT
        go_wp2
        go_roundw
        case rel => exact ⟨k + 1, by omega, by go_num, HP⟩
        case measure => (show n - ((k : Int) + 1).toNat < n - k; omega)
    · obtain rfl : k = n := by omega
      go_wp2
      go_ret
      have := HR.out
      rw [← HL.out] at this ⊢
      exact this.done HB.out
/-- A letter in great. -/
def upN (c : Nat) : Nat := if 97 ≤ c ∧ c ≤ 122 then c - 32 else c
theorem up_byte (c : UInt8) : UInt8.ofNat (upN c.toNat) = upB c := by
  have h := UInt8.toNat_lt c
  unfold upN upB
  have e : (97 ≤ c ∧ c ≤ 122) ↔ (97 ≤ c.toNat ∧ c.toNat ≤ 122) := by rw [UInt8.le_iff_toNat_le, UInt8.le_iff_toNat_le]; exact Iff.rfl
  by_cases h1 : 97 ≤ c.toNat ∧ c.toNat ≤ 122
  · rw [if_pos h1, if_pos (e.2 h1)]
    apply UInt8.toNat_inj.1
    rw [UInt8.toNat_sub_of_le c 32 (by rw [UInt8.le_iff_toNat_le]; show 32 ≤ c.toNat; omega)]
    simp
    omega
  · rw [if_neg h1, if_neg (fun h => h1 (e.1 h))]
    simp
theorem great_of (s : ByteArray) : hd.strOf ((nums s).map upN) = greatS s := by
  unfold hd.strOf greatS nums
  congr 1
  rw [List.map_map, List.map_map]
  apply Array.ext'
  simp only [List.toList_toArray, Array.toList_map]
  refine List.map_congr_left fun c _ => up_byte c
def GR (w : World) (s : ByteArray) (k : Nat) (wr : World) : Prop :=
  ∃ c, wr.heap[w.heap.size]? = some (.cells c 5 (c.size, c.size + 1)) ∧ s.size ≤ c.size ∧ (∀ i, i < s.size → c[i]? = some (.int .u8 (if i < k then upN (byt s i) else byt s i : Nat))) ∧ Below w.heap.size w wr
theorem GR.start (w : World) (s : ByteArray) : GR w s 0 (Lib.bytesWorld w 5 s) := by
  refine ⟨_, Lib.bytesWorld_at_new w 5 s, ?_, fun i hi => ?_, Lib.bytesWorld_below w 5 s⟩
  · show s.size ≤ (_ ++ _ : Array Value).size
    rw [Array.size_append, Array.size_map]
    exact Nat.le_add_right _ _
  · have h := Lib.bytesWorld_cell w 5 s i hi
    rw [World.cell?] at h
    simp only [Lib.bytesWorld_at_new] at h
    rw [if_neg (by omega)]
    have h2 := h
    rw [← byt_at s i hi]
    have h3 : i < s.data.toList.length := hi
    rw [List.getD, List.getElem?_eq_getElem h3] at h2
    exact h2
theorem GR.cell {w wr : World} {s : ByteArray} {k : Nat} (h : GR w s k wr) (hk : k < s.size) : wr.cell? ⟨w.heap.size, k, none⟩ = some (.int .u8 (byt s k : Nat)) ∧ wr.frozen? ⟨w.heap.size, k, none⟩ = false := by
  obtain ⟨c, h1, h2, h3, h4⟩ := h
  have := h3 k hk
  rw [if_neg (by omega)] at this
  refine ⟨by simp only [World.cell?, h1]; exact this, ?_⟩
  simp only [World.frozen?, h1]
  rw [decide_eq_false (by omega)]
  rfl
theorem GR.skip {w wr : World} {s : ByteArray} {k : Nat} (h : GR w s k wr) (hu : upN (byt s k) = byt s k) : GR w s (k + 1) wr := by
  obtain ⟨c, h1, h2, h3, h4⟩ := h
  refine ⟨c, h1, h2, fun i hi => ?_, h4⟩
  rw [h3 i hi]
  by_cases e : i = k
  · subst e
    rw [if_neg (by omega), if_pos (by omega), hu]
  · have : (i < k + 1) ↔ (i < k) := by omega
    simp only [this]
theorem GR.put {w wr : World} {s : ByteArray} {k : Nat} (h : GR w s k wr) (hk : k < s.size) : GR w s (k + 1) (wr.setCell ⟨w.heap.size, k, none⟩ (.int .u8 (upN (byt s k) : Nat))) := by
  obtain ⟨c, h1, h2, h3, h4⟩ := h
  refine ⟨c.setIfInBounds k (.int .u8 (upN (byt s k) : Nat)), ?_, by simpa using h2, fun i hi => ?_, h4.setCell (Nat.le_refl _) _⟩
  · simp [World.setCell, Array.getElem?_modify, h1]
  · rw [Array.getElem?_setIfInBounds]
    by_cases e : k = i
    · subst e
      rw [if_pos rfl, if_pos (by omega), if_pos (by omega)]
    · rw [if_neg e, h3 i hi]
      have : (i < k + 1) ↔ (i < k) := by omega
      simp only [this]
theorem GR.done {w wr : World} {s : ByteArray} (h : GR w s s.size wr) : Bytes wr (some ⟨w.heap.size, 0, none⟩) s.size ((nums s).map upN) := by
  obtain ⟨c, h1, h2, h3, h4⟩ := h
  refine ⟨by rw [List.length_map, nums_len], fun b hb => ?_, fun _ => ⟨w.heap.size, 0, rfl, fun i hi => ?_⟩⟩
  · obtain ⟨x, hx, rfl⟩ := List.mem_map.1 hb
    have := nums_lt s x hx
    unfold upN
    split <;> omega
  · rw [Nat.zero_add]
    have := h3 i hi
    rw [if_pos hi] at this
    simp only [World.cell?, h1]
    rw [this, List.getD, List.getElem?_map, nums_at s i hi]
    rfl
set_option maxHeartbeats 2000000 in
theorem great_any (w : World) (s : ByteArray) (hs : s.size ≤ 140737488355328) :
    Calls Tryz.prog 26 #[.string s] w fun e w' => e = .returned (.string (greatS s)) ∧ Below w.heap.size w w' := by
  have hcv := fun (w' : World) (s : ByteArray) => Lib.run_convert_string_bytes (P := Tryz.prog) w' 9 37 5 s Tryz.underlying9 Tryz.underlying37 Tryz.underlying5
  have HS0 := Lib.hid (GR.start w s)
  obtain ⟨cp, hcp⟩ : ∃ cp, cp = grownCap w s.size 0 5 := ⟨_, rfl⟩
  rw [← great_of s]
  go_enter Tryz.func26, Tryz.ntmps26
  go_wp2
  rw [← hcp]
  clear hcp
  generalize Lib.bytesWorld w 5 s = w1 at *
  go_loopw [4, 5, 10] (fun _ _ i wr => ∃ k : Nat, k ≤ s.size ∧ i = .int .i64 k ∧ Hid (GR w s k wr)) (fun _ _ i _ => s.size - (intOf i).toNat)
  case atStart => exact ⟨0, Nat.zero_le _, rfl, HS0⟩
  case round =>
    obtain ⟨k, hk, rfl, HR⟩ := hrel
    by_cases hlt : k < s.size
    · have hlt' : (k : Int) < (s.size : Int) := by omega
      obtain ⟨c0, f0⟩ := HR.out.cell hlt
      have HP := Lib.hid (HR.out.put hlt)
      have HT := Lib.hid (fun h => HR.out.skip (k := k) h)
      have hc9 := byt_lt s k
      generalize byt s k = c at *
      have HC9 := Lib.hid hc9
      clear hc9
      by_cases h1 : 97 ≤ c
      · have q1 : decide ((c : Int) < 97) = false := decide_eq_false (by omega)
        by_cases h2 : c ≤ 122
        · have q2 : decide ((122 : Int) < (c : Int)) = false := decide_eq_false (by omega)
          have e1 : IntKind.u8.wrap ((c : Int) - 32) = ((c - 32 : Nat) : Int) := (IntWalk.u8_in _ (by omega)).trans (by omega)
          have e2 : upN c = c - 32 := by unfold upN; rw [if_pos ⟨h1, h2⟩]
          rw [e2] at HP
          have HE := Lib.hid e1
          clear e1 e2 HT
          go_wp2
          go_roundw
          case rel => exact ⟨k + 1, by omega, by go_num, by first | exact HP | (rw [← HE.out] at HP; exact HP) | (rw [show ((c - 32 : Nat) : Int) = (c : Int) - 32 by omega] at HP; exact HP)⟩
          case measure => (show s.size - ((k : Int) + 1).toNat < s.size - k; omega)
        · have q2 : decide ((122 : Int) < (c : Int)) = true := decide_eq_true (by omega)
          have HT2 := Lib.hid (HT.out (by unfold upN; rw [if_neg (by omega)]))
          clear HT HP
          go_wp2
          go_roundw
          case rel => exact ⟨k + 1, by omega, by go_num, HT2⟩
          case measure => (show s.size - ((k : Int) + 1).toNat < s.size - k; omega)
      · have q1 : decide ((c : Int) < 97) = true := decide_eq_true (by omega)
        have HT2 := Lib.hid (HT.out (by unfold upN; rw [if_neg (by omega)]))
        clear HT HP
        go_wp2
        go_roundw
        case rel => exact ⟨k + 1, by omega, by go_num, HT2⟩
        case measure => (show s.size - ((k : Int) + 1).toNat < s.size - k; omega)
    · obtain rfl : k = s.size := by omega
      have HD := Lib.hid HR.out.done
      have hb := fun c => hd.Bytes.text HD.out c
      have HBl : Hid (Below w.heap.size w wr) := Lib.hid (by obtain ⟨c, h1, h2, h3, h4⟩ := HR.out; exact h4)
      go_wp2
      go_ret
      exact ⟨by first | rfl | simp, HBl.out⟩
end Go.Proofs.YtcepcamedmiinaaGreatDoor.sea
