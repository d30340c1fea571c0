/- How a file grows. -/
import Derived.Test.YtedhbcaakdfcbaaH
namespace Go.Proofs.Ytedhbcaakdfcbaa.disk
open Go.ChangeShapes Go.WideShapes Go.ChangeAt Go.RowKit Go.Maps Go.WideMaps
set_option linter.unusedVariables false
set_option linter.unusedSimpArgs false

theorem wpList_append_file {ops : Array Oper} {rest : List Oper} {o : Oper} {a : Act} {w : World} {Q : Exit → Act → World → Prop} (hgd : o.guard = none) (s x : Operand)
    (ho : o.op = .call { callee := .builtin .append, args := #[s, x], argTypes := #[33, 33] })
    (base : Nat) (v : Value) (M : List Nat) (hs : a.eval s = v) (hown : w.ownsRow base 5 1 v M.length (vals M)) (hbase : base ≤ w.heap.size)
    (A : Option Addr) (m c : Nat) (L : List Nat) (hx : a.eval x = .slice A m c) (hB : Bytes w A m L) (hnil : A = none → c = 0) (hbound : M.length + m ≤ 1000000000)
    (h : ∀ v' w', w'.ownsRow base 5 1 v' (M ++ L).length (vals (M ++ L)) → w.grownBy w' v.ownBlock → (v'.ownBlock = v.ownBlock ∨ v'.ownBlock = some w.heap.size) → w'.ownsRow base 5 1 v M.length (vals M) → wpList Try.prog ops Q rest (a.put o.dst v') w') : wpList Try.prog ops Q (o :: rest) a w := by
  refine wpList_plain hgd fun K hK => ?_
  obtain ⟨v', w', hr, h1, h2, h3, h4⟩ := run_append_bytes w o.type base v M hown hbase A m c L hB hnil hbound
  have h5 := append_keeps hown hB hnil hbound hr
  unfold Oper.wp execOp
  simp only [ho, resolve, invoke, builtin, Sem.run_bind, Sem.run_pure, Result.andThen_ok, List.map_toArray, List.map_cons, List.map_nil, hs, hx, hr]
  exact hK _ _ (h v' w' h1 h2 h4 h5)
/-- A disk stays, where its blocks do. -/
theorem Dsk.touch {F : Nat → Prop} {w w' : World} {base p : Nat} {mb : Option Nat} {D : DataW Value} {c : Cfg} {fm : FM} {N : Nat} (h : Dsk w base p mb D c fm N) (ht : Touch F w w') (hF : ∀ k, Foot p mb D k → ¬ F k) : Dsk w' base p mb D c fm N := by
  refine ⟨(ht.2.2.2.2 p h.facts.2.2.2.2.2.2.2 (hF p (.inl rfl))).trans h.head, h.pb, h.nomap, fun b e => ?_, h.held, h.isMap, h.sz, h.has, h.none_, fun s f e => (h.file s f e).touch ht (fun g e2 => hF g (.inr (.inr ⟨s, e2⟩))), h.np, h.nb, h.apart, h.short⟩
  obtain ⟨h1, h2, h3⟩ := h.map b e
  refine ⟨h1, h2, ?_⟩
  obtain ⟨es, clock, hb, rest⟩ := h3
  exact ⟨es, clock, (ht.2.2.2.2 b (Array.getElem?_eq_some_iff.1 hb).1 (hF b (.inr (.inl e)))).trans hb, rest⟩
/-- .. where a file's bytes grow. -/
theorem dsk_append {w w' : World} {base p : Nat} {mb : Option Nat} {D : DataW Value} {c : Cfg} {fm : FM} {N : Nat} (h : Dsk w base p mb D c fm N) (k : List UInt8) (hg : w.grownBy w' (blk (At D k))) (hk : ∀ f, fm k = some f → FileIs w' base (At D k) f) : Dsk w' base p mb D c fm N := by
  refine ⟨(hg.block p h.facts.2.2.2.2.2.2.2 (fun e => h.np k e.symm)).trans h.head, h.pb, h.nomap, fun b e => ?_, h.held, h.isMap, h.sz, h.has, h.none_, fun s f e => ?_, h.np, h.nb, h.apart, h.short⟩
  · obtain ⟨h1, h2, h3⟩ := h.map b e
    exact ⟨h1, h2, h3.kept hg (fun e2 => h.nb k b e e2.symm)⟩
  · by_cases e2 : s = k
    · subst e2
      exact hk f e
    · refine (h.file s f e).kept hg ?_
      cases hb : blk (At D s) with
      | none => exact .inl rfl
      | some g => exact .inr (fun e3 => e2 (h.apart s k g hb e3.symm))
theorem put_disk (w : World) (base p : Nat) (mb : Option Nat) (D : DataW Value) (c : Cfg) (fm : FM) (N : Nat) (s : ByteArray) (hs : s.size ≤ 281474976710656) (A : Option Addr) (n cp : Nat) (sf : Nat) (ev : Bool) (f : File) (h : Dsk w base p mb D c fm N)
    (hf : Comes w base p mb D s.data.toList (.agg #[.slice A n cp, .int .i64 (sf : Nat), .bool ev]) f) (hN : N < 1000000) (hB : base ≤ w.heap.size) :
    Calls Try.prog 42 #[.pointer (some ⟨p, 0, none⟩), .string s, .agg #[.slice A n cp, .int .i64 (sf : Nat), .bool ev]] w fun e w' => e = .returned (.tuple #[]) ∧
      ∃ mb', Dsk w' base p mb' ((D.del (.string s.data.toList)).put (.string s.data.toList) (.held (.agg #[.slice A n cp, .int .i64 (sf : Nat), .bool ev]))) { c with used := wrap64 (wrap64 (c.used - lenAt fm s.data.toList) + n) } (upd fm s.data.toList f) (bump fm s.data.toList N) ∧ Touch (fun k => k = p ∨ mb = some k) w w' ∧ ∀ b, mb' = some b → mb = some b ∨ w.heap.size ≤ b := by
  cases mb with
  | none =>
    refine (put_nil w base p D c fm N s hs A n cp sf ev f h hf hN hB).mono ?_
    rintro e w' ⟨rfl, b, h1, h2, h3⟩
    exact ⟨rfl, some b, h1, h2.mono fun i _ h => .inl h, fun b' e => .inr (by cases e; exact h3)⟩
  | some b =>
    refine (put_some w base p b D c fm N s hs A n cp sf ev f h hf hN).mono ?_
    rintro e w' ⟨rfl, h1, h2⟩
    exact ⟨rfl, some b, h1, h2.mono fun i _ h => h.imp id (fun e => by rw [e]), fun b' e => .inl e⟩
/-- The file that is there, or none. -/
def fileAt (fm : FM) (k : List UInt8) : File := (fm k).getD ⟨[], 0, false⟩
theorem Dsk.whole {w : World} {base p : Nat} {mb : Option Nat} {D : DataW Value} {c : Cfg} {fm : FM} {N : Nat} (h : Dsk w base p mb D c fm N) (k : List UInt8) :
    ∃ A n cp, At D k = .agg #[.slice A n cp, .int .i64 ((fileAt fm k).safe : Nat), .bool (fileAt fm k).ever] ∧ w.ownsRow base 5 1 (.slice A n cp) (fileAt fm k).l.length (vals (fileAt fm k).l) ∧ (∀ x ∈ (fileAt fm k).l, x < 256) ∧ (fileAt fm k).safe ≤ (fileAt fm k).l.length ∧ n = (fileAt fm k).l.length ∧ (A = none → cp = 0) := by
  unfold fileAt
  cases hf : fm k with
  | none => exact ⟨none, 0, 0, h.none_ k hf, World.ownsRow_nil w base 5 1, by simp, by simp, rfl, fun _ => rfl⟩
  | some f =>
    obtain ⟨sl, e, ho, h1, h2⟩ := h.file k f hf
    rcases ho.2 with ⟨e1, e2⟩ | ⟨g, cap, cur, e1, _⟩
    · subst e1
      exact ⟨none, 0, 0, e, ho, h1, h2, by simpa using e2.symm, fun _ => rfl⟩
    · subst e1
      exact ⟨_, _, _, e, ho, h1, h2, rfl, fun e => by cases e⟩
theorem Dsk.blk_lt {w : World} {base p : Nat} {mb : Option Nat} {D : DataW Value} {c : Cfg} {fm : FM} {N : Nat} (h : Dsk w base p mb D c fm N) (s : List UInt8) (g : Nat) (e : blk (At D s) = some g) : base ≤ g ∧ g < w.heap.size := by
  obtain ⟨A, n, cp, hat, hown, _⟩ := h.whole s
  rw [hat] at e
  exact hown.lt g e
theorem own_form {w : World} {base k : Nat} {v : Value} {xs : List Value} (h : w.ownsRow base 5 1 v k xs) : ∃ A n c, v = .slice A n c ∧ n = k := by
  rcases h.2 with ⟨e1, e2⟩ | ⟨g, cap, cur, e1, _⟩
  · exact ⟨_, _, _, e1, e2.symm⟩
  · exact ⟨_, _, _, e1, rfl⟩
/-- What stands behind an append to a file that was boxed. -/
theorem grow_step {w w2 : World} {base p : Nat} {mb : Option Nat} {D : DataW Value} {c : Cfg} {fm : FM} {N : Nat} {k : List UInt8} {A : Option Addr} {n cp : Nat} {f : File} {L : List Nat} {v' : Value} {ob : Obj} (h : Dsk w base p mb D c fm N) (hf : f = fileAt fm k)
    (hat : At D k = .agg #[.slice A n cp, .int .i64 (f.safe : Nat), .bool f.ever]) (h256 : ∀ x ∈ f.l, x < 256) (hL : ∀ x ∈ L, x < 256) (hsf : f.safe ≤ f.l.length)
    (ho : w2.ownsRow base 5 1 v' (f.l ++ L).length (vals (f.l ++ L))) (hg : (w.alloc ob).grownBy w2 (Value.slice A n cp).ownBlock) (hb : v'.ownBlock = (Value.slice A n cp).ownBlock ∨ v'.ownBlock = some (w.alloc ob).heap.size) (hk : w2.ownsRow base 5 1 (.slice A n cp) f.l.length (vals f.l)) :
    Dsk w2 base p mb D c fm N ∧ w2.heap[w.heap.size]? = some ob ∧ (∀ u, Dsk (w2.setCell ⟨w.heap.size, 0, none⟩ u) base p mb D c fm N ∧ Comes (w2.setCell ⟨w.heap.size, 0, none⟩ u) base p mb D k (.agg #[v', .int .i64 (f.safe : Nat), .bool f.ever]) ⟨f.l ++ L, f.safe, f.ever⟩ ∧ Touch (Foot p mb D) w (w2.setCell ⟨w.heap.size, 0, none⟩ u) ∧ w.heap.size < (w2.setCell ⟨w.heap.size, 0, none⟩ u).heap.size) := by
  have hblk : blk (At D k) = (Value.slice A n cp).ownBlock := by rw [hat]; rfl
  have hown : ∀ g, (Value.slice A n cp).ownBlock = some g → g < w.heap.size := fun g e => (h.blk_lt k g (hblk.trans e)).2
  have hX : w2.heap[w.heap.size]? = some ob := (hg.block w.heap.size (by simp) (fun e => by have := hown _ e.symm; omega)).trans (heap_alloc_new w ob)
  have h1 := h.below ((Below.refl w.heap.size w).alloc (Nat.le_refl _) ob)
  have h2 : Dsk w2 base p mb D c fm N := dsk_append h1 k (by rw [hblk]; exact hg) (fun f' e => by
    have : f = f' := by rw [hf, fileAt, e]; rfl
    subst this
    exact ⟨_, hat, hk, h256, hsf⟩)
  have hfoot : ∀ j, Foot p mb D j → j < w.heap.size := fun j hj => by
    rcases hj with rfl | e | ⟨s, e⟩
    · exact h.facts.2.2.2.2.2.2.2
    · exact (h.map j e).2.2.lt
    · exact (h.blk_lt s j e).2
  have ht : Touch (Foot p mb D) w w2 := by
    refine ((Touch.refl (Foot p mb D) w).alloc ob).trans ⟨hg.os, hg.tape, hg.output, hg.size, fun j hj hn => hg.block j hj (fun e => hn (.inl (.inr (.inr ⟨k, hblk.trans e.symm⟩))))⟩
  refine ⟨h2, hX, fun u => ?_⟩
  have htu : Touch (fun i => i = w.heap.size) w2 (w2.setCell ⟨w.heap.size, 0, none⟩ u) := (Touch.refl (fun i => i = w.heap.size) w2).setCell ⟨w.heap.size, 0, none⟩ (.inr rfl) u
  have hlt2 : w.heap.size < w2.heap.size := (Array.getElem?_eq_some_iff.1 hX).1
  have hsz : (w.alloc ob).heap.size = w.heap.size + 1 := by simp
  have hvb : ∀ g, v'.ownBlock = some g → blk (At D k) = some g ∨ g = w.heap.size + 1 := fun g e => by
    rcases hb with e1 | e1
    · exact .inl (by rw [hblk, ← e1]; exact e)
    · rw [e1] at e
      exact .inr (by have := Option.some.inj e; omega)
  refine ⟨h2.touch htu (fun j hj e => by have := hfoot j hj; omega), ⟨?_, fun e => ?_, fun b e e2 => ?_, fun s g hs e e2 => ?_⟩, ht.trans (htu.mono fun i _ e => .inr (by omega)), by simpa using hlt2⟩
  · have g1 : FileIs w2 base (.agg #[v', .int .i64 (f.safe : Nat), .bool f.ever]) ⟨f.l ++ L, f.safe, f.ever⟩ := ⟨v', rfl, ho, fun x hx => by
      rcases List.mem_append.1 hx with h | h
      · exact h256 x h
      · exact hL x h, by simp; omega⟩
    exact g1.touch htu (fun g e e2 => by
      rcases hvb g e with e3 | e3
      · have := (h.blk_lt k g e3).2
        omega
      · omega)
  · rcases hvb p e with e3 | e3
    · exact h.np k e3
    · have := hfoot p (.inl rfl)
      omega
  · rcases hvb b e2 with e3 | e3
    · exact h.nb k b e e3
    · have := hfoot b (.inr (.inl e))
      omega
  · rcases hvb g e2 with e3 | e3
    · exact hs (h.apart s k g e e3)
    · have := (h.blk_lt s g e).2
      omega
theorem foot_put {p : Nat} {mb mb' : Option Nat} {D : DataW Value} {k : List UInt8} {v : Value} {S : Nat} (hm : IsMap D) (hmb : ∀ b, mb' = some b → mb = some b ∨ S ≤ b) (hv : ∀ g, blk v = some g → blk (At D k) = some g ∨ S ≤ g) : ∀ j, Foot p mb' ((D.del (.string k)).put (.string k) (.held v)) j → Foot p mb D j ∨ S ≤ j := by
  intro j hj
  have hm' : IsMap (D.del (.string k)) := by obtain ⟨es, rfl⟩ := hm; exact ⟨_, rfl⟩
  rcases hj with e | e | ⟨s, e⟩
  · exact .inl (.inl e)
  · rcases hmb j e with h | h
    · exact .inl (.inr (.inl h))
    · exact .inr h
  · rw [At_put hm'] at e
    by_cases e2 : s = k
    · rw [if_pos e2] at e
      rcases hv j e with h | h
      · exact .inl (.inr (.inr ⟨k, h⟩))
      · exact .inr h
    · rw [if_neg e2, At_del, if_neg e2] at e
      exact .inl (.inr (.inr ⟨s, e⟩))
set_option maxRecDepth 50000 in
set_option maxHeartbeats 2000000 in
theorem grow_any (w : World) (base p : Nat) (mb : Option Nat) (D : DataW Value) (c : Cfg) (fm : FM) (N : Nat) (s : ByteArray) (hs : s.size ≤ 281474976710656) (B : Option Addr) (m cb : Nat) (L : List Nat) (h : Dsk w base p mb D c fm N)
    (hL : Bytes w B m L) (hnil : B = none → cb = 0) (hN : N < 1000000) (hB : base ≤ w.heap.size) (hbound : (fileAt fm s.data.toList).l.length + m ≤ 1000000000) :
    Calls Try.prog 46 #[.pointer (some ⟨p, 0, none⟩), .string s, .slice B m cb] w fun e w' => e = .returned (.tuple #[]) ∧
      ∃ mb' D' c', Dsk w' base p mb' D' c' (upd fm s.data.toList ⟨(fileAt fm s.data.toList).l ++ L, (fileAt fm s.data.toList).safe, (fileAt fm s.data.toList).ever⟩) (bump fm s.data.toList N) ∧ c'.lost = c.lost ∧ Touch (Foot p mb D) w w' ∧ ∀ j, Foot p mb' D' j → Foot p mb D j ∨ w.heap.size ≤ j := by
  obtain ⟨A, n, cp, hat, hown, h256, hsf, hn, hcp⟩ := h.whole s.data.toList
  have hlk := (h.look s (by unfold maxLen; omega)).1
  rw [hat] at hlk
  obtain ⟨d0, d1, d2, d3, d4, d5, hf, hlt⟩ := h.facts
  have HD := Lib.hid h
  have HL := Lib.hid hL
  have HNil := Lib.hid hnil
  have HOwn := Lib.hid (hown.alloc (.cells #[.slice A n cp, .int .i64 ((fileAt fm s.data.toList).safe : Nat), .bool (fileAt fm s.data.toList).ever] 64))
  have HAt := Lib.hid hat
  obtain ⟨f, hfe⟩ : ∃ f, f = fileAt fm s.data.toList := ⟨_, rfl⟩
  rw [← hfe] at HAt HOwn hlk hn hsf h256 hbound ⊢
  have HFe := Lib.hid hfe
  have HN := Lib.hid hn
  have H256 := Lib.hid h256
  clear h hL hnil hf d0 d1 d3 d4 d5 hown hat hfe hn h256 hcp
  go_enter Try.func46, Try.ntmps46
  go_wp2_with (first | (at_builtin; refine wpList_append_file rfl (.tmp 14) (.tmp 15) rfl base (.slice A n cp) f.l rfl HOwn.out (by simp; omega) B m cb L rfl (HL.out.alloc _) HNil.out hbound ?_; intro v' w2 ho2 hg2 hat2 hk2; obtain ⟨q1, q2, q3⟩ := grow_step HD.out HFe.out HAt.out H256.out HL.out.2.1 hsf ho2 hg2 hat2 hk2; obtain ⟨A', n', cp', rfl, hn'⟩ := own_form ho2; obtain ⟨y0, y1, y2⟩ := box_cells q2; have hyf : w2.frozen? ⟨w.heap.size, 0, none⟩ = false := (by simp [World.frozen?, q2]); have HQ := Lib.hid (q3 (.slice A' n' cp')); have HNn := Lib.hid hn'; have HAb := Lib.hid hat2; clear ho2 hg2 hat2 hk2 q1 q2 q3 hn') | (go_at_call 42; refine (put_disk _ base p mb D c fm N s hs A' n' cp' f.safe f.ever ⟨f.l ++ L, f.safe, f.ever⟩ HQ.out.1 HQ.out.2.1 hN (by have := HQ.out.2.2.2; omega)).mono ?_; rintro e w4 ⟨rfl, mb', hd4, ht4, hb4⟩; have HD4 := Lib.hid hd4; have HT4 := Lib.hid ht4; have HB4 := Lib.hid hb4; clear hd4 ht4 hb4))
  go_end0
  refine ⟨rfl, mb', _, _, HD4.out, rfl, HQ.out.2.2.1.trans (HT4.out.mono fun i _ h => .inl (h.imp id .inl)), foot_put HD.out.isMap (fun b e => (HB4.out b e).imp id (fun h => by have := HQ.out.2.2.2; omega)) (fun g e => ?_)⟩
  have e' : (Value.slice A' n' cp').ownBlock = some g := e
  rcases HAb.out with h | h
  · exact .inl (by rw [HAt.out]; show (Value.slice A n cp).ownBlock = some g; rw [← h]; exact e')
  · rw [h] at e'
    exact .inr (by have := Option.some.inj e'; simp at this; omega)
end Go.Proofs.Ytedhbcaakdfcbaa.disk
