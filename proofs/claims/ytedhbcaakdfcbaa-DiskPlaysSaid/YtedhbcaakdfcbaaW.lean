/- Clone. -/
import Derived.Test.YtedhbcaakdfcbaaV
import Derived.Maps.RangeWalk
import Derived.Maps.Ext
import Derived.Sort.KeysCollected
import Derived.Laws.IdiomRangeMap
namespace Go.Proofs.Ytedhbcaakdfcbaa.disk
open Go.ChangeShapes Go.WideShapes Go.ChangeAt Go.RowKit Go.Maps Go.WideMaps Go.Sort Go.Shelf
set_option linter.unusedVariables false
set_option linter.unusedSimpArgs false

theorem mk52h (w : World) (k : Nat) : (Instr.makeMap 52 (some (.int .i64 (k : Nat)))).run Try.prog w = .ok (.map (some w.heap.size)) (w.alloc (.map #[] 0)) := by
  simp [Instr.makeMap, run_underlying Try.underlying52, asInt, asIntOf]
/-- The files that have come. -/
def part (fm : FM) (left : Lit → Bool) : FM := fun s => if left (.string s) then none else fm s
theorem part_step {fm : FM} {left : Lit → Bool} {k : List UInt8} {f : File} (hf : fm k = some f) : upd (part fm left) k f = part fm (fun z => left z && !z.sameKey (.string k)) := by
  funext s
  unfold upd part
  by_cases e : s = k
  · subst e
    simp [hf, WideAt.sameKey_self (show WideAt.IsKeyLit (.string s) from trivial)]
  · show (if s = k then some f else _) = if (left (.string s) && !(Lit.string s).sameKey (.string k)) = true then none else fm s
    rw [if_neg e, sameKey_ne (lit_ne e)]
    simp
theorem part_end {fm : FM} {left : Lit → Bool} (hl : ∀ kl, left kl = false) : part fm left = fm := by
  funext s
  simp [part, hl]
theorem part_start {w : World} {base p : Nat} {mb : Option Nat} {D : DataW Value} {c : Cfg} {fm : FM} {N : Nat} (h : Dsk w base p mb D c fm N) : part fm (Maps.has D) = fun _ => none := by
  funext s
  unfold part
  rw [h.has s]
  cases fm s <;> simp
/-- A new disk, with no file. -/
theorem dsk_empty {w : World} {B p b : Nat} {c : Cfg} {N : Nat} (hp : w.heap[p]? = some (.cells #[.int .i64 c.cap, .int .i64 c.used, .map (some b), .bool c.fused, .int .i64 c.fuse, .bool c.lost] 54 (0, 0))) (hB : B ≤ p) (hb : B ≤ b) (hne : b ≠ p) (ho : w.ownsMap (H := Value) Try.prog 9 raw b 0 (.map [])) :
    Dsk w B p (some b) (.map []) c (fun _ => none) N := by
  have hat : ∀ s, At (.map []) s = noFile := fun s => rfl
  refine ⟨hp, hB, fun e => (by cases e), fun b' e => (by cases e; exact ⟨hb, hne, ho⟩), fun s => ⟨noFile, rfl⟩, ⟨[], rfl⟩, Nat.zero_le _, fun s => rfl, fun s _ => hat s, fun s f e => (by cases e), fun s e => (by rw [hat] at e; simp [blk, Value.ownBlock] at e), fun s b e1 e => (by rw [hat] at e; simp [blk, Value.ownBlock] at e), fun s s' g e => (by rw [hat] at e; simp [blk, Value.ownBlock] at e), fun s e => (by cases e)⟩
/-- The loop's state. -/
structure CS (w0 : World) (p' b' r b : Nat) (D : DataW Value) (c : Cfg) (fm : FM) (left : Lit → Bool) (cnt : Nat) (wr : World) : Prop where
  rg : wr.ranges Try.prog 9 raw b r (Maps.size D) D left cnt
  le : cnt ≤ Maps.size D
  dsk : ∃ D2, Dsk wr w0.heap.size p' (some b') D2 c (part fm left) (Maps.size D - cnt) ∧ ∀ s, blk (At D2 s) ≠ some r
  below : Below w0.heap.size w0 wr
/-- What Clone gives. -/
def Cloned (w : World) (c : Cfg) (fm : FM) (N : Nat) (e : Ending) (w' : World) : Prop :=
  ∃ b' D', e = .returned (.pointer (some ⟨w.heap.size, 0, none⟩)) ∧ Dsk w' w.heap.size w.heap.size (some b') D' c fm N ∧ Below w.heap.size w w'
theorem cs_start {w w0 : World} {base p b : Nat} {D : DataW Value} {c : Cfg} {fm : FM} {N : Nat} (h : Dsk w base p (some b) D c fm N)
    (hrg : w0.ranges Try.prog 9 raw b (w.heap.size + 2) (Maps.size D) D (Maps.has D) (Maps.size D))
    (hg : ((w.alloc (.cells #[.int .i64 c.cap, .int .i64 c.used, .map (some (w.heap.size + 1)), .bool c.fused, .int .i64 c.fuse, .bool c.lost] 54)).alloc (.map #[] 0)).grownBy w0 none) :
    CS w w.heap.size (w.heap.size + 1) (w.heap.size + 2) b D c fm (Maps.has D) (Maps.size D) w0 := by
  have e1 : (w.alloc (.cells #[.int .i64 c.cap, .int .i64 c.used, .map (some (w.heap.size + 1)), .bool c.fused, .int .i64 c.fuse, .bool c.lost] 54)).heap.size = w.heap.size + 1 := Array.size_push _
  have hb : Below w.heap.size w w0 := (((Below.refl w.heap.size w).alloc (Nat.le_refl _) _).alloc (by rw [e1]; exact Nat.le_succ _) _).grown hg (by simp; omega) (fun j hj => by cases hj)
  refine ⟨hrg, Nat.le_refl _, ⟨.map [], ?_, fun s => by rw [show At (.map []) s = noFile from rfl]; simp [blk, Value.ownBlock]⟩, hb⟩
  rw [part_start h]
  refine dsk_empty ?_ (Nat.le_refl _) (Nat.le_succ _) (by omega) ?_
  · rw [hg.block _ (by simp; omega) (by simp)]
    exact (heap_alloc_old _ _ _ (by rw [e1]; omega)).trans (heap_alloc_new w _)
  · have := World.ownsMap_made (H := Value) (w.alloc (.cells #[.int .i64 c.cap, .int .i64 c.used, .map (some (w.heap.size + 1)), .bool c.fused, .int .i64 c.fuse, .bool c.lost] 54)) Try.prog 9 raw
    rw [e1] at this
    exact this.kept hg (by simp)
theorem new_file {w1 : World} {B : Nat} {f : File} (o : Obj) (hB : B ≤ w1.heap.size) (h256 : ∀ x ∈ f.l, x < 256) (hsf : f.safe ≤ f.l.length) (hn : f.l.length ≤ 10000000) :
    FileIs ((w1.alloc o).alloc (.cells (vals f.l).toArray 5)) B (.agg #[.slice (some ⟨w1.heap.size + 1, 0, none⟩) f.l.length f.l.length, .int .i64 (f.safe : Nat), .bool f.ever]) f := by
  have e1 : (w1.alloc o).heap.size = w1.heap.size + 1 := Array.size_push _
  have hh := heap_alloc_new (w1.alloc o) (.cells (vals f.l).toArray 5)
  rw [e1] at hh
  refine ⟨_, rfl, ⟨by simp [vals], .inr ⟨w1.heap.size + 1, f.l.length, (vals f.l).toArray, rfl, by omega, hh, Nat.le_refl _, by unfold maxLen; omega, by simp [vals], ?_⟩⟩, h256, hsf⟩
  simp only [vals, Nat.mul_one]
  rw [← List.map_take, List.take_length]
theorem cs_round {w w1 w2 : World} {base p b n0 : Nat} {D D2 : DataW Value} {c : Cfg} {fm : FM} {N : Nat} {left : Lit → Bool} {cnt cnt1 : Nat} {x : List UInt8} {f : File} (o : Obj) (h : Dsk w base p (some b) D c fm N) (hd : Dsk w1 w.heap.size w.heap.size (some (w.heap.size + 1)) D2 c (part fm left) (Maps.size D - cnt)) (hr : ∀ s, blk (At D2 s) ≠ some (w.heap.size + 2))
    (hf : fm x = some f) (hl : left (.string x) = true) (hle : cnt ≤ Maps.size D) (hlt : cnt1 < cnt) (h256 : ∀ x ∈ f.l, x < 256) (hsf : f.safe ≤ f.l.length) (hn : f.l.length ≤ 10000000) (hsz : w.heap.size + 3 ≤ w1.heap.size)
    (hb1 : Below w.heap.size w w1) (hrg : w1.ranges Try.prog 9 raw b (w.heap.size + 2) (Maps.size D) D (fun z => left z && !z.sameKey (.string x)) cnt1)
    (ho : w2.ownsMap Try.prog 9 raw (w.heap.size + 1) n0 (D2.put (.string x) (.held (.agg #[.slice (some ⟨w1.heap.size + 1, 0, none⟩) f.l.length f.l.length, .int .i64 (f.safe : Nat), .bool f.ever])))) (hg : ((w1.alloc o).alloc (.cells (vals f.l).toArray 5)).grownBy w2 (some (w.heap.size + 1))) :
    CS w w.heap.size (w.heap.size + 1) (w.heap.size + 2) b D c fm (fun z => left z && !z.sameKey (.string x)) cnt1 w2 := by
  have e1 : (w1.alloc o).heap.size = w1.heap.size + 1 := Array.size_push _
  have hbl := (h.map b rfl).2.2.lt
  have hd5 : Dsk ((w1.alloc o).alloc (.cells (vals f.l).toArray 5)) w.heap.size w.heap.size (some (w.heap.size + 1)) D2 c (part fm left) (Maps.size D - cnt) := hd.below (((Below.refl w1.heap.size w1).alloc (Nat.le_refl _) _).alloc (by rw [e1]; exact Nat.le_succ _) _)
  have hlow : ∀ s g, blk (At D2 s) = some g → g < w1.heap.size := fun s g e => (hd.blk_lt s g e).2
  refine ⟨((hrg.alloc o).alloc _).kept hg (by simp; omega) (by simp), by omega, ⟨D2.put (.string x) (.held (.agg #[.slice (some ⟨w1.heap.size + 1, 0, none⟩) f.l.length f.l.length, .int .i64 (f.safe : Nat), .bool f.ever])), ?_, fun s => ?_⟩, ?_⟩
  · rw [← part_step hf]
    refine dsk_put hd5 x _ f (by simp [part, hl]) ho hg (new_file o (by omega) h256 hsf hn) (by simp [blk, Value.ownBlock]; omega) (by simp [blk, Value.ownBlock]; omega) (fun s g e => by have := hlow s g e; simp [blk, Value.ownBlock]; omega) (by have := hd.sz; omega) (h.short x (by rw [hf]; rfl))
  · rw [At_put hd.isMap]
    by_cases e : s = x
    · rw [if_pos e]
      simp [blk, Value.ownBlock]
      omega
    · rw [if_neg e]
      exact hr s
  · exact (hb1.trans (((Below.refl w.heap.size w1).alloc (by omega) _).alloc (by rw [e1]; omega) _)).grown hg (by simp; omega) (fun j hj => by cases hj; omega)
set_option maxRecDepth 50000 in
set_option maxHeartbeats 4000000 in
theorem clone_some {w : World} {base p b : Nat} {D : DataW Value} {c : Cfg} {fm : FM} {N M : Nat} (h : Dsk w base p (some b) D c fm N) (hM : ∀ s f, fm s = some f → f.l.length ≤ M) (hMM : M ≤ 1000000) (hN : N < 1000000) (hB : base ≤ w.heap.size) :
    Calls Try.prog 13 #[.pointer (some ⟨p, 0, none⟩)] w (Cloned w c fm N) := by
  obtain ⟨d0, d1, d2, d3, d4, d5, hf, hlt⟩ := h.facts
  have hm := fun w' k => mk52h w' k
  have hln : ∀ o ty, (Builtin.len_ #[52] ty #[.map (some b)]).run Try.prog (w.alloc o) = .ok (.int .i64 (Maps.size D)) (w.alloc o) := fun o ty => ((h.map b rfl).2.2.alloc o).len Try.underlying52 ty
  have HD := Lib.hid h
  have HOw := Lib.hid (h.map b rfl).2.2
  clear h
  go_enter Try.func13, Try.ntmps13
  go_wp2_with (first
    | (at_range; refine wpList_range_own _ rfl _ 52 rfl 9 64 keyed9 Try.underlying52 _ b _ D rfl ((HOw.out.alloc _).alloc _) ?_; intro w0 hrg0 hg0 hs0))
  rw [show ∀ o o' : Obj, ((w.alloc o).alloc o').heap.size = w.heap.size + 2 from fun o o' => by simp] at hrg0 hs0 ⊢
  have HC0 := Lib.hid (cs_start HD.out hrg0 hg0)
  clear hrg0 hg0 hln hm d0 d1 d2 d3 d4 d5 hf
  go_frame
  go_loopw [4, 5] (fun _ _ wr => ∃ left cnt, CS w w.heap.size (w.heap.size + 1) (w.heap.size + 2) b D c fm left cnt wr) (fun _ _ wr => wr.rangeLeft b (w.heap.size + 2))
  case atStart => exact ⟨_, _, HC0.out⟩
  case round =>
    clear HC0
    obtain ⟨left, cnt, hC⟩ := hrel
    have HC := Lib.hid hC
    clear hC
    go_wp2_with (first
      | (at_next; refine wpList_next_ranges _ rfl _ rfl 9 keyed9 raw encStr (fun v => v) (fun key kl hk => by obtain ⟨x, hx, _⟩ := Maps.keyOf_str Try.underlying9 hk; exact ⟨x, hx⟩) (fun v y _ => ⟨v, rfl⟩) b (w.heap.size + 2) (Maps.size D) D left cnt rfl HC.out.rg ?_ ?_))
    · intro hc0 hl0
      go_wp2
      go_ret
      obtain ⟨D2, hd2, hr2⟩ := HC.out.dsk
      rw [part_end hl0] at hd2
      exact ⟨_, D2, rfl, hd2.up (by have := HD.out.sz; omega), HC.out.below⟩
    · intro x v kl y ps w1 cnt1 hkey hlk hv hat hrg1 hlt1 hg1 hs1 hen
      obtain ⟨x', ex, hkl, hxl⟩ := Maps.keyOf_str Try.underlying9 hkey
      obtain rfl : x = x' := by simpa [encStr_def] using ex
      subst hkl
      simp only [raw, Option.some.injEq, Prod.mk.injEq] at hv
      obtain ⟨rfl, rfl⟩ := hv
      have hAx : At D x = v := by unfold At; rw [hat]
      have hsome : (fm x).isSome = true := by rw [← HD.out.has x]; exact has_true_of_atKey hat
      obtain ⟨f, hfx⟩ := Option.isSome_iff_exists.1 hsome
      have hb1 : Below w.heap.size w w1 := HC.out.below.grown hg1 HC.out.below.size (fun j hj => by cases hj; omega)
      obtain ⟨A, n, cp, hAt, hown, h256, hsf, hn, hcp⟩ := (HD.out.below hb1).whole x
      rw [fileAt_some hfx] at hAt hown h256 hsf hn
      rw [hAx] at hAt
      subst hAt
      obtain ⟨S, hS⟩ : ∃ S : ByteArray, S = ⟨x.toArray⟩ := ⟨_, rfl⟩
      rw [encStr_def, ← hS] at hen ⊢
      have HB := Lib.hid (bytes_of_own hown h256 hn)
      have HBl : Hid (∀ ad, A = some ad → 0 < n → ad.block < w1.heap.size) := fun ad e h0 => HB.out.lt ad e h0
      have hn2 : n ≤ 10000000 := by have := hM x f hfx; omega
      have H34 : Hid (∀ w2, Below w1.heap.size w1 w2 → Calls Try.prog 34 #[.slice A n cp] w2 fun e w' => e = .returned (.slice (some ⟨w2.heap.size, 0, none⟩) n n) ∧ w' = w2.alloc (.cells (vals f.l).toArray 5)) := fun w2 hb => copied_any w2 A n cp f.l (HB.out.below HBl.out hb) hn2
      have HRg := Lib.hid hrg1
      have HLt := Lib.hid (And.intro hlt1 (And.intro hg1 hs1))
      have HB1 := Lib.hid hb1
      obtain ⟨D2, hd2, hr2⟩ := HC.out.dsk
      have hd3 : Dsk w1 w.heap.size w.heap.size (some (w.heap.size + 1)) D2 c (part fm left) (Maps.size D - cnt) := hd2.touch (F := fun j => j = w.heap.size + 2) ⟨hg1.os, hg1.tape, hg1.output, hg1.size, fun k hk hn => hg1.block k hk (fun e => hn (Option.some.inj e))⟩ (by
        rintro j (rfl | e | ⟨s, e⟩) h
        · omega
        · cases e; omega
        · subst h; exact hr2 s e)
      have hc2 := hd3.facts.2.2.1
      have HSz := Lib.hid (show S.size ≤ maxLen from by
        have h1 := HD.out.short x hsome
        have h2 : S.size = x.length := by rw [hS]; exact List.size_toArray
        unfold maxLen
        omega)
      have HKy := Lib.hid (show keyOf Try.prog 9 (.string S) = some (.string x) from by
        have := keyOf_string_mk Try.underlying9 HSz.out
        rw [hS] at this ⊢
        exact this)
      have HN2 := Lib.hid (show Maps.size D2 < maxLen from by have h1 := hd3.sz; have h2 := HD.out.sz; unfold maxLen; omega)
      have HS3 := Lib.hid (show w.heap.size + 3 ≤ w1.heap.size from by have h1 := HC.out.rg.lt; omega)
      have HD3 := Lib.hid hd3
      have HR2 := Lib.hid hr2
      have HF := Lib.hid (And.intro hfx (And.intro hlk (And.intro h256 hsf)))
      have HNe := Lib.hid hn
      have hlt3 : w.heap.size < w1.heap.size := by have := HS3.out; omega
      clear hrg1 hlt1 hg1 hs1 hb1 hfx hlk h256 hsf hn hS hown hcp hat hAx hsome hkey hxl hd2 hr2 hd3
      go_wp2_with (first
        | (go_at_call 34; refine (H34.out _ ?_).mono ?_; rotate_left; rintro e w2 ⟨rfl, rfl⟩)
        | (at_mapUpdate; refine wpList_mapUpdate_own _ rfl _ _ _ 52 rfl 9 64 keyed9 Try.underlying52 _ (w.heap.size + 1) _ _ rfl (((HD3.out.map _ rfl).2.2.alloc _).alloc _) HN2.out _ _ _ rfl rfl HKy.out _ [] rfl ?_; intro w2 ho2 hg2; have HO2 := Lib.hid ho2; have HG2 := Lib.hid hg2; clear ho2 hg2; go_frame))
      · have hnn := HNe.out
        subst hnn
        have hC2 := cs_round _ HD.out HD3.out HR2.out HF.out.1 HF.out.2.1 HC.out.le HLt.out.1 HF.out.2.2.1 HF.out.2.2.2 hn2 HS3.out HB1.out HRg.out HO2.out HG2.out
        have HC2 := Lib.hid hC2
        clear hC2
        go_roundw
        case rel => exact ⟨_, _, HC2.out⟩
        case measure => rw [HC2.out.rg.left_eq, HC.out.rg.left_eq]; exact HLt.out.1
      · exact (Below.refl _ _).alloc (Nat.le_refl _) _
end Go.Proofs.Ytedhbcaakdfcbaa.disk
