/- How a file grows. -/
import Derived.Test.YthhflkgngencdaaGreatDoorMa15
namespace Go.Proofs.YthhflkgngencdaaGreatDoor.dis
open Go.Proofs.YthhflkgngencdaaGreatDoor.codec
open Go.ChangeShapes Go.WideShapes Go.ChangeAt Go.RowKit Go.Maps Go.WideMaps
set_option linter.unusedVariables false
set_option linter.unusedSimpArgs false

theorem wpList_append_file {ops : Array Oper} {rest : List Oper} {o : Oper} {a : Act} {w : World} {Q : Exit → Act → World → Prop} (hgd : o.guard = none) (s x : Operand)
    (ho : o.op = .call { callee := .builtin .append, args := #[s, x], argTypes := #[40, 40] })
    (base : Nat) (v : Value) (M : List Nat) (hs : a.eval s = v) (hown : w.ownsRow base 5 1 v M.length (vals M)) (hbase : base ≤ w.heap.size)
    (A : Option Addr) (m c : Nat) (L : List Nat) (hx : a.eval x = .slice A m c) (hB : Bytes w A m L) (hnil : A = none → c = 0) (hbound : M.length + m ≤ 1000000000)
    (h : ∀ v' w', w'.ownsRow base 5 1 v' (M ++ L).length (vals (M ++ L)) → w.grownBy w' v.ownBlock → (v'.ownBlock = v.ownBlock ∨ v'.ownBlock = some w.heap.size) → w'.ownsRow base 5 1 v M.length (vals M) → wpList Tryz.prog ops Q rest (a.put o.dst v') w') : wpList Tryz.prog ops Q (o :: rest) a w := by
  refine wpList_plain hgd fun K hK => ?_
  obtain ⟨v', w', hr, h1, h2, h3, h4⟩ := run_append_bytes w o.type base v M hown hbase A m c L hB hnil hbound
  have h5 := append_keeps hown hB hnil hbound hr
  unfold Oper.wp execOp
  simp only [ho, resolve, invoke, builtin, Sem.run_bind, Sem.run_pure, Result.andThen_ok, List.map_toArray, List.map_cons, List.map_nil, hs, hx, hr]
  exact hK _ _ (h v' w' h1 h2 h4 h5)
/-- A disk stays, where its blocks do. -/
theorem Dsk.touch {F : Nat → Prop} {w w' : World} {base p : Nat} {mb : Option Nat} {D : DataW Value} {c : Cfg} {fm : FM} {N : Nat} (h : Dsk w base p mb D c fm N) (ht : codec.Touch F w w') (hF : ∀ k, Foot p mb D k → ¬ F k) : Dsk w' base p mb D c fm N := by
  refine ⟨(ht.2.2.2.2 p h.facts.2.2.2.2.2.2.2 (hF p (.inl rfl))).trans h.head, h.pb, h.nomap, fun b e => ?_, h.held, h.isMap, h.sz, h.has, h.none_, fun s f e => (h.file s f e).touch ht (fun g e2 => hF g (.inr (.inr ⟨s, e2⟩))), h.np, h.nb, h.apart, h.short⟩
  obtain ⟨h1, h2, h3⟩ := h.map b e
  refine ⟨h1, h2, ?_⟩
  obtain ⟨es, clock, hb, rest⟩ := h3
  exact ⟨es, clock, (ht.2.2.2.2 b (Array.getElem?_eq_some_iff.1 hb).1 (hF b (.inr (.inl e)))).trans hb, rest⟩
/-- .. where a file's bytes grow. -/
theorem dsk_append {w w' : World} {base p : Nat} {mb : Option Nat} {D : DataW Value} {c : Cfg} {fm : FM} {N : Nat} (h : Dsk w base p mb D c fm N) (k : List UInt8) (hg : w.grownBy w' (blk (At D k))) (hk : ∀ f, fm k = some f → FileIs w' base (At D k) f) : Dsk w' base p mb D c fm N := by
  refine ⟨(hg.block p h.facts.2.2.2.2.2.2.2 (fun e => h.np k e.symm)).trans h.head, h.pb, h.nomap, fun b e => ?_, h.held, h.isMap, h.sz, h.has, h.none_, fun s f e => ?_, h.np, h.nb, h.apart, h.short⟩
  · obtain ⟨h1, h2, h3⟩ := h.map b e
    exact ⟨h1, h2, h3.kept hg (fun e2 => h.nb k b e e2.symm)⟩
  · by_cases e2 : s = k
    · subst e2
      exact hk f e
    · refine (h.file s f e).kept hg ?_
      cases hb : blk (At D s) with
      | none => exact .inl rfl
      | some g => exact .inr (fun e3 => e2 (h.apart s k g hb e3.symm))
theorem put_disk (w : World) (base p : Nat) (mb : Option Nat) (D : DataW Value) (c : Cfg) (fm : FM) (N : Nat) (s : ByteArray) (hs : s.size ≤ 281474976710656) (A : Option Addr) (n cp : Nat) (sf : Nat) (ev : Bool) (f : File) (h : Dsk w base p mb D c fm N)
    (hf : Comes w base p mb D s.data.toList (.agg #[.slice A n cp, .int .i64 (sf : Nat), .bool ev]) f) (hN : N < 1000000) (hB : base ≤ w.heap.size) :
    Calls Tryz.prog 83 #[.pointer (some ⟨p, 0, none⟩), .string s, .agg #[.slice A n cp, .int .i64 (sf : Nat), .bool ev]] w fun e w' => e = .returned (.tuple #[]) ∧
      ∃ mb', Dsk w' base p mb' ((D.del (.string s.data.toList)).put (.string s.data.toList) (.held (.agg #[.slice A n cp, .int .i64 (sf : Nat), .bool ev]))) { c with used := wrap64 (wrap64 (c.used - lenAt fm s.data.toList) + n) } (upd fm s.data.toList f) (bump fm s.data.toList N) ∧ codec.Touch (fun k => k = p ∨ mb = some k) w w' ∧ ∀ b, mb' = some b → mb = some b ∨ w.heap.size ≤ b := by
  cases mb with
  | none =>
    refine (put_nil w base p D c fm N s hs A n cp sf ev f h hf hN hB).mono ?_
    rintro e w' ⟨rfl, b, h1, h2, h3⟩
    exact ⟨rfl, some b, h1, h2.mono fun i _ h => .inl h, fun b' e => .inr (by cases e; exact h3)⟩
  | some b =>
    refine (put_some w base p b D c fm N s hs A n cp sf ev f h hf hN).mono ?_
    rintro e w' ⟨rfl, h1, h2⟩
    exact ⟨rfl, some b, h1, h2.mono fun i _ h => h.imp id (fun e => by rw [e]), fun b' e => .inl e⟩
/-- The file that is there, or none. -/
def fileAt (fm : FM) (k : List UInt8) : File := (fm k).getD ⟨[], 0, false⟩
theorem Dsk.whole {w : World} {base p : Nat} {mb : Option Nat} {D : DataW Value} {c : Cfg} {fm : FM} {N : Nat} (h : Dsk w base p mb D c fm N) (k : List UInt8) :
    ∃ A n cp, At D k = .agg #[.slice A n cp, .int .i64 ((fileAt fm k).safe : Nat), .bool (fileAt fm k).ever] ∧ w.ownsRow base 5 1 (.slice A n cp) (fileAt fm k).l.length (vals (fileAt fm k).l) ∧ (∀ x ∈ (fileAt fm k).l, x < 256) ∧ (fileAt fm k).safe ≤ (fileAt fm k).l.length ∧ n = (fileAt fm k).l.length ∧ (A = none → cp = 0) := by
  unfold fileAt
  cases hf : fm k with
  | none => exact ⟨none, 0, 0, h.none_ k hf, World.ownsRow_nil w base 5 1, by simp, by simp, rfl, fun _ => rfl⟩
  | some f =>
    obtain ⟨sl, e, ho, h1, h2⟩ := h.file k f hf
    rcases ho.2 with ⟨e1, e2⟩ | ⟨g, cap, cur, e1, _⟩
    · subst e1
      exact ⟨none, 0, 0, e, ho, h1, h2, by simpa using e2.symm, fun _ => rfl⟩
    · subst e1
      exact ⟨_, _, _, e, ho, h1, h2, rfl, fun e => by cases e⟩
theorem Dsk.blk_lt {w : World} {base p : Nat} {mb : Option Nat} {D : DataW Value} {c : Cfg} {fm : FM} {N : Nat} (h : Dsk w base p mb D c fm N) (s : List UInt8) (g : Nat) (e : blk (At D s) = some g) : base ≤ g ∧ g < w.heap.size := by
  obtain ⟨A, n, cp, hat, hown, _⟩ := h.whole s
  rw [hat] at e
  exact hown.lt g e
theorem own_form {w : World} {base k : Nat} {v : Value} {xs : List Value} (h : w.ownsRow base 5 1 v k xs) : ∃ A n c, v = .slice A n c ∧ n = k := by
  rcases h.2 with ⟨e1, e2⟩ | ⟨g, cap, cur, e1, _⟩
  · exact ⟨_, _, _, e1, e2.symm⟩
  · exact ⟨_, _, _, e1, rfl⟩
/-- What stands behind an append to a file that was boxed. -/
theorem grow_step {w w2 : World} {base p : Nat} {mb : Option Nat} {D : DataW Value} {c : Cfg} {fm : FM} {N : Nat} {k : List UInt8} {A : Option Addr} {n cp : Nat} {f : File} {L : List Nat} {v' : Value} {ob : Obj} (h : Dsk w base p mb D c fm N) (hf : f = fileAt fm k)
    (hat : At D k = .agg #[.slice A n cp, .int .i64 (f.safe : Nat), .bool f.ever]) (h256 : ∀ x ∈ f.l, x < 256) (hL : ∀ x ∈ L, x < 256) (hsf : f.safe ≤ f.l.length)
    (ho : w2.ownsRow base 5 1 v' (f.l ++ L).length (vals (f.l ++ L))) (hg : (w.alloc ob).grownBy w2 (Value.slice A n cp).ownBlock) (hb : v'.ownBlock = (Value.slice A n cp).ownBlock ∨ v'.ownBlock = some (w.alloc ob).heap.size) (hk : w2.ownsRow base 5 1 (.slice A n cp) f.l.length (vals f.l)) :
    Dsk w2 base p mb D c fm N ∧ w2.heap[w.heap.size]? = some ob ∧ (∀ u, Dsk (w2.setCell ⟨w.heap.size, 0, none⟩ u) base p mb D c fm N ∧ Comes (w2.setCell ⟨w.heap.size, 0, none⟩ u) base p mb D k (.agg #[v', .int .i64 (f.safe : Nat), .bool f.ever]) ⟨f.l ++ L, f.safe, f.ever⟩ ∧ codec.Touch (Foot p mb D) w (w2.setCell ⟨w.heap.size, 0, none⟩ u) ∧ w.heap.size < (w2.setCell ⟨w.heap.size, 0, none⟩ u).heap.size) := by
  have hblk : blk (At D k) = (Value.slice A n cp).ownBlock := by rw [hat]; rfl
  have hown : ∀ g, (Value.slice A n cp).ownBlock = some g → g < w.heap.size := fun g e => (h.blk_lt k g (hblk.trans e)).2
  have hX : w2.heap[w.heap.size]? = some ob := (hg.block w.heap.size (by simp) (fun e => by have := hown _ e.symm; omega)).trans (heap_alloc_new w ob)
  have h1 := h.below ((Below.refl w.heap.size w).alloc (Nat.le_refl _) ob)
  have h2 : Dsk w2 base p mb D c fm N := dsk_append h1 k (by rw [hblk]; exact hg) (fun f' e => by
    have : f = f' := by rw [hf, fileAt, e]; rfl
    subst this
    exact ⟨_, hat, hk, h256, hsf⟩)
  have hfoot : ∀ j, Foot p mb D j → j < w.heap.size := fun j hj => by
    rcases hj with rfl | e | ⟨s, e⟩
    · exact h.facts.2.2.2.2.2.2.2
    · exact (h.map j e).2.2.lt
    · exact (h.blk_lt s j e).2
  have ht : codec.Touch (Foot p mb D) w w2 := by
    refine ((codec.Touch.refl (Foot p mb D) w).alloc ob).trans ⟨hg.os, hg.tape, hg.output, hg.size, fun j hj hn => hg.block j hj (fun e => hn (.inl (.inr (.inr ⟨k, hblk.trans e.symm⟩))))⟩
  refine ⟨h2, hX, fun u => ?_⟩
  have htu : codec.Touch (fun i => i = w.heap.size) w2 (w2.setCell ⟨w.heap.size, 0, none⟩ u) := (codec.Touch.refl (fun i => i = w.heap.size) w2).setCell ⟨w.heap.size, 0, none⟩ (.inr rfl) u
  have hlt2 : w.heap.size < w2.heap.size := (Array.getElem?_eq_some_iff.1 hX).1
  have hsz : (w.alloc ob).heap.size = w.heap.size + 1 := by simp
  have hvb : ∀ g, v'.ownBlock = some g → blk (At D k) = some g ∨ g = w.heap.size + 1 := fun g e => by
    rcases hb with e1 | e1
    · exact .inl (by rw [hblk, ← e1]; exact e)
    · rw [e1] at e
      exact .inr (by have := Option.some.inj e; omega)
  refine ⟨h2.touch htu (fun j hj e => by have := hfoot j hj; omega), ⟨?_, fun e => ?_, fun b e e2 => ?_, fun s g hs e e2 => ?_⟩, ht.trans (htu.mono fun i _ e => .inr (by omega)), by simpa using hlt2⟩
  · have g1 : FileIs w2 base (.agg #[v', .int .i64 (f.safe : Nat), .bool f.ever]) ⟨f.l ++ L, f.safe, f.ever⟩ := ⟨v', rfl, ho, fun x hx => by
      rcases List.mem_append.1 hx with h | h
      · exact h256 x h
      · exact hL x h, by simp; omega⟩
    exact g1.touch htu (fun g e e2 => by
      rcases hvb g e with e3 | e3
      · have := (h.blk_lt k g e3).2
        omega
      · omega)
  · rcases hvb p e with e3 | e3
    · exact h.np k e3
    · have := hfoot p (.inl rfl)
      omega
  · rcases hvb b e2 with e3 | e3
    · exact h.nb k b e e3
    · have := hfoot b (.inr (.inl e))
      omega
  · rcases hvb g e2 with e3 | e3
    · exact hs (h.apart s k g e e3)
    · have := (h.blk_lt s g e).2
      omega
theorem foot_put {p : Nat} {mb mb' : Option Nat} {D : DataW Value} {k : List UInt8} {v : Value} {S : Nat} (hm : IsMap D) (hmb : ∀ b, mb' = some b → mb = some b ∨ S ≤ b) (hv : ∀ g, blk v = some g → blk (At D k) = some g ∨ S ≤ g) : ∀ j, Foot p mb' ((D.del (.string k)).put (.string k) (.held v)) j → Foot p mb D j ∨ S ≤ j := by
  intro j hj
  have hm' : IsMap (D.del (.string k)) := by obtain ⟨es, rfl⟩ := hm; exact ⟨_, rfl⟩
  rcases hj with e | e | ⟨s, e⟩
  · exact .inl (.inl e)
  · rcases hmb j e with h | h
    · exact .inl (.inr (.inl h))
    · exact .inr h
  · rw [At_put hm'] at e
    by_cases e2 : s = k
    · rw [if_pos e2] at e
      rcases hv j e with h | h
      · exact .inl (.inr (.inr ⟨k, h⟩))
      · exact .inr h
    · rw [if_neg e2, At_del, if_neg e2] at e
      exact .inl (.inr (.inr ⟨s, e⟩))
set_option maxRecDepth 50000 in
set_option maxHeartbeats 2000000 in
theorem grow_any (w : World) (base p : Nat) (mb : Option Nat) (D : DataW Value) (c : Cfg) (fm : FM) (N : Nat) (s : ByteArray) (hs : s.size ≤ 281474976710656) (B : Option Addr) (m cb : Nat) (L : List Nat) (h : Dsk w base p mb D c fm N)
    (hL : Bytes w B m L) (hnil : B = none → cb = 0) (hN : N < 1000000) (hB : base ≤ w.heap.size) (hbound : (fileAt fm s.data.toList).l.length + m ≤ 1000000000) :
    Calls Tryz.prog 82 #[.pointer (some ⟨p, 0, none⟩), .string s, .slice B m cb] w fun e w' => e = .returned (.tuple #[]) ∧
      ∃ mb' D' c', Dsk w' base p mb' D' c' (upd fm s.data.toList ⟨(fileAt fm s.data.toList).l ++ L, (fileAt fm s.data.toList).safe, (fileAt fm s.data.toList).ever⟩) (bump fm s.data.toList N) ∧ c'.lost = c.lost ∧ codec.Touch (Foot p mb D) w w' ∧ ∀ j, Foot p mb' D' j → Foot p mb D j ∨ w.heap.size ≤ j := by
  obtain ⟨A, n, cp, hat, hown, h256, hsf, hn, hcp⟩ := h.whole s.data.toList
  have hlk := (h.look s (by unfold maxLen; omega)).1
  rw [hat] at hlk
  obtain ⟨d0, d1, d2, d3, d4, d5, hf, hlt⟩ := h.facts
  have HD := Lib.hid h
  have HL := Lib.hid hL
  have HNil := Lib.hid hnil
  have HOwn := Lib.hid (hown.alloc (.cells #[.slice A n cp, .int .i64 ((fileAt fm s.data.toList).safe : Nat), .bool (fileAt fm s.data.toList).ever] 93))
  have HAt := Lib.hid hat
  obtain ⟨f, hfe⟩ : ∃ f, f = fileAt fm s.data.toList := ⟨_, rfl⟩
  rw [← hfe] at HAt HOwn hlk hn hsf h256 hbound ⊢
  have HFe := Lib.hid hfe
  have HN := Lib.hid hn
  have H256 := Lib.hid h256
  clear h hL hnil hf d0 d1 d3 d4 d5 hown hat hfe hn h256 hcp
  go_enter Tryz.func82, Tryz.ntmps82
  go_wp2_with (first | (at_builtin; refine wpList_append_file rfl (.tmp 14) (.tmp 15) rfl base (.slice A n cp) f.l rfl HOwn.out (by simp; omega) B m cb L rfl (HL.out.alloc _) HNil.out hbound ?_; intro v' w2 ho2 hg2 hat2 hk2; obtain ⟨q1, q2, q3⟩ := grow_step HD.out HFe.out HAt.out H256.out HL.out.2.1 hsf ho2 hg2 hat2 hk2; obtain ⟨A', n', cp', rfl, hn'⟩ := own_form ho2; obtain ⟨y0, y1, y2⟩ := box_cells q2; have hyf : w2.frozen? ⟨w.heap.size, 0, none⟩ = false := (by simp [World.frozen?, q2]); have HQ := Lib.hid (q3 (.slice A' n' cp')); have HNn := Lib.hid hn'; have HAb := Lib.hid hat2; clear ho2 hg2 hat2 hk2 q1 q2 q3 hn') | (go_at_call 83; refine (put_disk _ base p mb D c fm N s hs A' n' cp' f.safe f.ever ⟨f.l ++ L, f.safe, f.ever⟩ HQ.out.1 HQ.out.2.1 hN (by have := HQ.out.2.2.2; omega)).mono ?_; rintro e w4 ⟨rfl, mb', hd4, ht4, hb4⟩; have HD4 := Lib.hid hd4; have HT4 := Lib.hid ht4; have HB4 := Lib.hid hb4; clear hd4 ht4 hb4))
  go_end0
  refine ⟨rfl, mb', _, _, HD4.out, rfl, HQ.out.2.2.1.trans (HT4.out.mono fun i _ h => .inl (h.imp id .inl)), foot_put HD.out.isMap (fun b e => (HB4.out b e).imp id (fun h => by have := HQ.out.2.2.2; omega)) (fun g e => ?_)⟩
  have e' : (Value.slice A' n' cp').ownBlock = some g := e
  rcases HAb.out with h | h
  · exact .inl (by rw [HAt.out]; show (Value.slice A n cp).ownBlock = some g; rw [← h]; exact e')
  · rw [h] at e'
    exact .inr (by have := Option.some.inj e'; simp at this; omega)
end Go.Proofs.YthhflkgngencdaaGreatDoor.dis
namespace Go.Proofs.YthhflkgngencdaaGreatDoor.dis
open Go.Proofs.YthhflkgngencdaaGreatDoor.codec
open Go.ChangeShapes Go.WideShapes Go.ChangeAt Go.RowKit Go.Maps Go.WideMaps
set_option linter.unusedVariables false
set_option linter.unusedSimpArgs false

set_option maxRecDepth 20000 in
theorem room_any {w : World} {base p : Nat} {mb : Option Nat} {D : DataW Value} {c : Cfg} {fm : FM} {N : Nat} (h : Dsk w base p mb D c fm N) :
    Calls Tryz.prog 10 #[.pointer (some ⟨p, 0, none⟩)] w fun e w' => e = .returned (.int .i64 (wrap64 (c.cap - c.used))) ∧ ∃ q, w' = w.drewN q := by
  obtain ⟨d0, d1, d2, d3, d4, d5, hf, hlt⟩ := h.facts
  clear h
  go_enter Tryz.func10, Tryz.ntmps10
  go_wp2
  go_quiet (fail)
  go_wp2
  go_ret
  exact ⟨rfl, _, rfl⟩
theorem Dsk.up {w : World} {base p : Nat} {mb : Option Nat} {D : DataW Value} {c : Cfg} {fm : FM} {N N' : Nat} (h : Dsk w base p mb D c fm N) (hN : N ≤ N') : Dsk w base p mb D c fm N' :=
  ⟨h.head, h.pb, h.nomap, h.map, h.held, h.isMap, Nat.le_trans h.sz hN, h.has, h.none_, h.file, h.np, h.nb, h.apart, h.short⟩
theorem bump_le (fm : FM) (k : List UInt8) (N : Nat) : bump fm k N ≤ N + 1 := by
  unfold bump
  split <;> omega
theorem upd_bound {fm : FM} {k : List UInt8} {f : File} {M : Nat} (h : ∀ s f, fm s = some f → f.l.length ≤ M) (hf : f.l.length ≤ M) : ∀ s g, upd fm k f s = some g → g.l.length ≤ M := by
  intro s g e
  unfold upd at e
  by_cases h2 : s = k
  · rw [if_pos h2] at e
    cases e
    exact hf
  · rw [if_neg h2] at e
    exact h s g e
theorem erase_bound {fm : FM} {k : List UInt8} {M : Nat} (h : ∀ s f, fm s = some f → f.l.length ≤ M) : ∀ s g, erase fm k s = some g → g.l.length ≤ M := by
  intro s g e
  unfold erase at e
  by_cases h2 : s = k
  · rw [if_pos h2] at e
    cases e
  · rw [if_neg h2] at e
    exact h s g e
theorem fileAt_bound {fm : FM} {k : List UInt8} {M : Nat} (h : ∀ s f, fm s = some f → f.l.length ≤ M) : (fileAt fm k).l.length ≤ M := by
  unfold fileAt
  cases hk : fm k with
  | none => simp
  | some f => exact h k f hk
theorem _root_.Go.Proofs.YthhflkgngencdaaGreatDoor.codec.Bytes.half {w : World} {B : Option Addr} {m k : Nat} {L : List Nat} (h : Bytes w B m L) (hk : k ≤ m) : Bytes w B k (L.take k) := by
  refine ⟨by have := h.1; simp; omega, fun x hx => h.2.1 x (List.mem_of_mem_take hx), fun h0 => ?_⟩
  obtain ⟨b, o, e, hc⟩ := h.2.2 (by omega)
  refine ⟨b, o, e, fun i hi => ?_⟩
  rw [hc i (by omega)]
  simp [List.getD, List.getElem?_take, hi]
end Go.Proofs.YthhflkgngencdaaGreatDoor.dis
namespace Go.Proofs.YthhflkgngencdaaGreatDoor.dis
open Go.Proofs.YthhflkgngencdaaGreatDoor.codec
open Go.ChangeShapes Go.WideShapes Go.ChangeAt Go.RowKit Go.Maps Go.WideMaps
set_option linter.unusedVariables false
set_option linter.unusedSimpArgs false

theorem own_take {w : World} {base : Nat} {A : Option Addr} {n cp left : Nat} {l : List Nat} (h : w.ownsRow base 5 1 (.slice A n cp) l.length (vals l)) (hl : left ≤ l.length) : w.ownsRow base 5 1 (.slice A left cp) (l.take left).length (vals (l.take left)) := by
  have hlen : (l.take left).length = left := by simp; omega
  rw [hlen]
  rcases h.2 with ⟨e, h0⟩ | ⟨g, cap, cur, e, hb, hg, hc, hm, hs, ht⟩
  · cases e
    obtain rfl : left = 0 := by omega
    exact ⟨by simp [vals], .inl ⟨rfl, rfl⟩⟩
  · cases e
    refine ⟨by simp [vals]; omega, .inr ⟨g, cp, cur, rfl, hb, hg, by omega, hm, hs, ?_⟩⟩
    have e2 : vals (l.take left) = (vals l).take left := by simp [vals, List.map_take]
    rw [e2, ← ht, List.take_take]
    congr 1
    omega
/-- The first bytes of a file that is there, as a file that is safe. -/
theorem comes_cut {w : World} {base p : Nat} {mb : Option Nat} {D : DataW Value} {c : Cfg} {fm : FM} {N : Nat} (h : Dsk w base p mb D c fm N) (k : List UInt8) {A : Option Addr} {n cp : Nat} (hat : At D k = .agg #[.slice A n cp, .int .i64 ((fileAt fm k).safe : Nat), .bool (fileAt fm k).ever]) (left : Nat) (hl : left ≤ (fileAt fm k).l.length) (sf : Nat) (hsf : sf ≤ left) (ev : Bool) :
    Comes w base p mb D k (.agg #[.slice A left cp, .int .i64 (sf : Nat), .bool ev]) ⟨(fileAt fm k).l.take left, sf, ev⟩ := by
  obtain ⟨A', n', cp', hat', hown, h256, _⟩ := h.whole k
  rw [hat] at hat'
  simp only [Value.agg.injEq, Array.mk.injEq, List.cons.injEq, Value.slice.injEq, and_true] at hat'
  obtain ⟨rfl, rfl, rfl⟩ := hat'
  have hbl : blk (.agg #[.slice A left cp, .int .i64 (sf : Nat), .bool ev]) = blk (At D k) := by
    rw [hat]
    cases A <;> rfl
  refine ⟨⟨_, rfl, own_take hown hl, fun x hx => h256 x (List.mem_of_mem_take hx), by simp; omega⟩, ?_, ?_, ?_⟩
  · rw [hbl]; exact h.np k
  · intro b e; rw [hbl]; exact h.nb k b e
  · intro s g hs e; rw [hbl]; exact fun e2 => hs (h.apart s k g e e2)
theorem touch_below {F : Nat → Prop} {w w' : World} (hb : Below w.heap.size w w') : codec.Touch F w w' := ⟨hb.os, hb.tape, hb.output, hb.size, fun k hk _ => hb.block k hk⟩
theorem fileAt_some {fm : FM} {k : List UInt8} {f : File} (h : fm k = some f) : fileAt fm k = f := by simp [fileAt, h]
end Go.Proofs.YthhflkgngencdaaGreatDoor.dis
namespace Go.Proofs.YthhflkgngencdaaGreatDoor.dis
open Go.Proofs.YthhflkgngencdaaGreatDoor.codec
open Go.ChangeShapes Go.WideShapes Go.ChangeAt Go.RowKit Go.Maps Go.WideMaps
set_option linter.unusedVariables false
set_option linter.unusedSimpArgs false

theorem foot_del {p : Nat} {mb : Option Nat} {D : DataW Value} {k : List UInt8} : ∀ j, Foot p mb (D.del (.string k)) j → Foot p mb D j := by
  intro j hj
  rcases hj with e | e | ⟨s, e⟩
  · exact .inl e
  · exact .inr (.inl e)
  · rw [At_del] at e
    by_cases e2 : s = k
    · rw [if_pos e2] at e
      simp [blk, Value.ownBlock] at e
    · rw [if_neg e2] at e
      exact .inr (.inr ⟨s, e⟩)
end Go.Proofs.YthhflkgngencdaaGreatDoor.dis
namespace Go.Proofs.YthhflkgngencdaaGreatDoor.dis
open Go.Proofs.YthhflkgngencdaaGreatDoor.codec
open Go.ChangeShapes Go.WideShapes Go.ChangeAt Go.RowKit Go.Maps Go.WideMaps
set_option linter.unusedVariables false
set_option linter.unusedSimpArgs false

end Go.Proofs.YthhflkgngencdaaGreatDoor.dis
namespace Go.Proofs.YthhflkgngencdaaGreatDoor.dis
open Go.Proofs.YthhflkgngencdaaGreatDoor.codec
open Go.ChangeShapes Go.WideShapes Go.ChangeAt Go.RowKit Go.Maps Go.WideMaps
set_option linter.unusedVariables false
set_option linter.unusedSimpArgs false

/-- A file that was under another name comes under a new one. -/
theorem comes_moved {w w4 : World} {base p : Nat} {mb : Option Nat} {D : DataW Value} {c : Cfg} {fm : FM} {N : Nat} (h : Dsk w base p mb D c fm N) (k t : List UInt8) (f : File) (hf : fm k = some f) (ht : codec.Touch (fun i => i = p ∨ mb = some i) w w4) :
    Comes w4 base p mb (D.del (.string k)) t (At D k) f := by
  refine ⟨(h.file k f hf).touch ht ?_, h.np k, fun b e => h.nb k b e, ?_⟩
  · intro g e hg
    rcases hg with rfl | e2
    · exact h.np k e
    · exact h.nb k g e2 e
  · intro s g hs e
    rw [At_del] at e
    by_cases e2 : s = k
    · rw [if_pos e2] at e
      simp [blk, Value.ownBlock] at e
    · rw [if_neg e2] at e
      intro e3
      exact e2 (h.apart s k g e e3)
theorem isMap_del {D : DataW Value} (h : IsMap D) (k : List UInt8) : IsMap (D.del (.string k)) := by obtain ⟨es, rfl⟩ := h; exact ⟨_, rfl⟩
end Go.Proofs.YthhflkgngencdaaGreatDoor.dis
namespace Go.Proofs.YthhflkgngencdaaGreatDoor.dis
open Go.Proofs.YthhflkgngencdaaGreatDoor.codec
open Go.ChangeShapes Go.WideShapes Go.ChangeAt Go.RowKit Go.Maps Go.WideMaps
set_option linter.unusedVariables false
set_option linter.unusedSimpArgs false

/-- Numbers that somebody else holds. -/
def Ints (w : World) (A : Option Addr) (n : Nat) (l : List Int) : Prop :=
  l.length = n ∧ (∀ x ∈ l, -9223372036854775808 ≤ x ∧ x < 9223372036854775808) ∧ (0 < n → ∃ b o, A = some ⟨b, o, none⟩ ∧ ∀ i, i < n → w.cell? ⟨b, o + i, none⟩ = some (.int .i64 (l.getD i 0)))
theorem Ints.lt {w : World} {A : Option Addr} {n : Nat} {l : List Int} (h : Ints w A n l) : ∀ ad, A = some ad → 0 < n → ad.block < w.heap.size := by
  rintro ad rfl hn
  obtain ⟨b, o, e, hc⟩ := h.2.2 hn
  cases e
  exact block_lt_of_cell (hc 0 hn)
theorem Ints.kept {w w' : World} {A : Option Addr} {n : Nat} {l : List Int} (h : Ints w A n l) (hA : ∀ ad, A = some ad → 0 < n → w'.heap[ad.block]? = w.heap[ad.block]?) : Ints w' A n l := by
  obtain ⟨h1, h2, h3⟩ := h
  refine ⟨h1, h2, fun hn => ?_⟩
  obtain ⟨b, o, rfl, hc⟩ := h3 hn
  refine ⟨b, o, rfl, fun i hi => ?_⟩
  rw [← hc i hi]
  simp only [World.cell?, hA _ rfl hn]
theorem Ints.touch {F : Nat → Prop} {w w' : World} {A : Option Addr} {n : Nat} {l : List Int} (h : Ints w A n l) (hA : ∀ ad, A = some ad → 0 < n → ¬ F ad.block) (hb : codec.Touch F w w') : Ints w' A n l :=
  h.kept fun ad e hn => hb.2.2.2.2 _ (h.lt ad e hn) (hA ad e hn)
theorem Ints.drewN {w : World} {A : Option Addr} {n : Nat} {l : List Int} (h : Ints w A n l) (q : Nat) : Ints (w.drewN q) A n l := h.kept fun ad e hn => rfl
def keptOf (l : List Int) (i b : Nat) : Int :=
  if l.length = 0 then 0 else
    if (l.getD (i % l.length) 0).tmod ((b : Int) + 1) < 0 then (l.getD (i % l.length) 0).tmod ((b : Int) + 1) + ((b : Int) + 1) else (l.getD (i % l.length) 0).tmod ((b : Int) + 1)
theorem keptOf_range (l : List Int) (i b : Nat) : 0 ≤ keptOf l i b ∧ keptOf l i b ≤ b := by
  unfold keptOf
  have h1 := Int.tmod_lt_of_pos (l.getD (i % l.length) 0) (b := (b : Int) + 1) (by omega)
  have h2 := Int.lt_tmod_of_pos (l.getD (i % l.length) 0) (b := (b : Int) + 1) (by omega)
  split
  · omega
  · split <;> omega
set_option maxRecDepth 50000 in
set_option maxHeartbeats 4000000 in
theorem kept_any (w : World) (A : Option Addr) (n c : Nat) (l : List Int) (i b : Nat) (h : Ints w A n l) (hn : n ≤ 1000000) (hi : i ≤ 1000000) (hb : b ≤ 10000000) :
    Calls Tryz.prog 45 #[.slice A n c, .int .i64 (i : Nat), .int .i64 (b : Nat)] w fun e w' => e = .returned (.int .i64 (keptOf l i b)) ∧ w' = w := by
  by_cases h0 : n = 0
  · have hv : keptOf l i b = 0 := by simp [keptOf, h.1, h0]
    rw [hv]
    subst h0
    clear h
    go_enter Tryz.func45, Tryz.ntmps45
    go_wp2
    go_ret
    exact ⟨rfl, rfl⟩
  · have hpos : 0 < n := by omega
    obtain ⟨g, o, rfl, hc⟩ := h.2.2 hpos
    have hlt : i % n < n := Nat.mod_lt _ hpos
    have hcell := hc (i % n) hlt
    have hx : -9223372036854775808 ≤ l.getD (i % n) 0 ∧ l.getD (i % n) 0 < 9223372036854775808 := by
      have hl := h.1
      have hj : i % n < l.length := by omega
      have e : l.getD (i % n) 0 = l[i % n]'hj := by simp [List.getD, List.getElem?_eq_getElem hj]
      rw [e]
      exact h.2.1 _ (List.getElem_mem _)
    have hk : keptOf l i b = if (l.getD (i % n) 0).tmod ((b : Int) + 1) < 0 then (l.getD (i % n) 0).tmod ((b : Int) + 1) + ((b : Int) + 1) else (l.getD (i % n) 0).tmod ((b : Int) + 1) := by
      have hl := h.1
      unfold keptOf
      rw [hl, if_neg h0]
    rw [hk]
    generalize l.getD (i % n) 0 = x at hcell hx ⊢
    have hmod : (i : Int).tmod (n : Int) = ((i % n : Nat) : Int) := by rw [Int.tmod_eq_emod_of_nonneg (by omega)]; omega
    generalize i % n = j at hmod hlt hcell
    have h1 := Int.tmod_lt_of_pos x (b := (b : Int) + 1) (by omega)
    have h2 := Int.lt_tmod_of_pos x (b := (b : Int) + 1) (by omega)
    clear h hc hk
    go_enter Tryz.func45, Tryz.ntmps45
    go_wp2
    all_goals go_ret
    all_goals exact ⟨rfl, rfl⟩
end Go.Proofs.YthhflkgngencdaaGreatDoor.dis
namespace Go.Proofs.YthhflkgngencdaaGreatDoor.dis
open Go.Proofs.YthhflkgngencdaaGreatDoor.codec
open Go.ChangeShapes Go.WideShapes Go.ChangeAt Go.RowKit Go.Maps Go.WideMaps
set_option linter.unusedVariables false
set_option linter.unusedSimpArgs false

def cutFm (fm : FM) (k : List UInt8) (left : Nat) : FM :=
  if left = 0 ∧ (fileAt fm k).ever = false then erase fm k else upd fm k ⟨(fileAt fm k).l.take left, left, true⟩
/-- Behind a cut. -/
def CutTo (w : World) (base p : Nat) (mb : Option Nat) (D : DataW Value) (c : Cfg) (fm : FM) (N : Nat) (k : List UInt8) (left : Nat) (w' : World) : Prop :=
  ∃ mb' D', Dsk w' base p mb' D' { c with used := wrap64 (wrap64 (c.used - lenAt fm k) + left) } (cutFm fm k left) N ∧ codec.Touch (Foot p mb D) w w' ∧ ∀ j, Foot p mb' D' j → Foot p mb D j ∨ w.heap.size ≤ j
theorem own_cap {w : World} {base : Nat} {A : Option Addr} {n cp m : Nat} {l : List Value} (h : w.ownsRow base 5 1 (.slice A n cp) m l) : n ≤ cp := by
  rcases h.2 with ⟨e, h0⟩ | ⟨g, cap, cur, e, hb, hg, hc, hm, hs, ht⟩
  · cases e; omega
  · cases e; exact hc
theorem wrap64_twice (x : Int) : wrap64 (wrap64 x + ((0 : Nat) : Int)) = wrap64 x := by
  simp only [Int.natCast_zero, Int.add_zero]
  unfold wrap64
  omega
set_option maxRecDepth 50000 in
set_option maxHeartbeats 4000000 in
theorem cut_any (w : World) (base p : Nat) (mb : Option Nat) (D : DataW Value) (c : Cfg) (fm : FM) (N : Nat) (s : ByteArray) (hs : s.size ≤ 281474976710656) (A : Option Addr) (n cp : Nat) (left : Nat) (h : Dsk w base p mb D c fm N)
    (hat : At D s.data.toList = .agg #[.slice A n cp, .int .i64 ((fileAt fm s.data.toList).safe : Nat), .bool (fileAt fm s.data.toList).ever]) (hl : left ≤ (fileAt fm s.data.toList).l.length) (hf : (fm s.data.toList).isSome) (hm : (fileAt fm s.data.toList).l.length ≤ 1000000) (hN : N < 1000000) (hB : base ≤ w.heap.size) :
    Calls Tryz.prog 44 #[.pointer (some ⟨p, 0, none⟩), .string s, .agg #[.slice A n cp, .int .i64 ((fileAt fm s.data.toList).safe : Nat), .bool (fileAt fm s.data.toList).ever], .int .i64 (left : Nat)] w fun e w' => e = .returned (.tuple #[]) ∧ CutTo w base p mb D c fm N s.data.toList left w' := by
  have hpl := h.facts.2.2.2.2.2.2.2
  obtain ⟨A', n', cp', hat', hown, h256, hsf, hn, hcp⟩ := h.whole s.data.toList
  rw [hat] at hat'
  simp only [Value.agg.injEq, Array.mk.injEq, List.cons.injEq, Value.slice.injEq, and_true] at hat'
  obtain ⟨rfl, rfl, rfl⟩ := hat'
  have hcap := own_cap hown
  have H47 : Hid (left = 0 → (fileAt fm s.data.toList).ever = false → ∀ w3, Below w.heap.size w w3 → Calls Tryz.prog 80 #[.pointer (some ⟨p, 0, none⟩), .string s] w3 fun e w' => e = .returned (.tuple #[]) ∧ CutTo w base p mb D c fm N s.data.toList left w') := by
    intro e0 e1 w3 hb
    refine (drop_any w3 base p mb D c fm N s (by unfold maxLen; omega) (h.below hb)).mono ?_
    rintro e w' ⟨rfl, q1, q2⟩
    refine ⟨rfl, mb, D.del (.string s.data.toList), ?_, (touch_below hb).trans (q2.mono fun i _ h => .inl (h.imp id .inl)), fun j hj => .inl (foot_del j hj)⟩
    subst e0
    rw [wrap64_twice]
    unfold cutFm
    rw [if_pos ⟨rfl, e1⟩]
    exact q1
  have H42 : Hid (¬ (left = 0 ∧ (fileAt fm s.data.toList).ever = false) → ∀ w3, Below w.heap.size w w3 → Calls Tryz.prog 83 #[.pointer (some ⟨p, 0, none⟩), .string s, .agg #[.slice A left cp, .int .i64 (left : Nat), .bool true]] w3 fun e w' => e = .returned (.tuple #[]) ∧ CutTo w base p mb D c fm N s.data.toList left w') := by
    intro e0 w3 hb
    have h3 := h.below hb
    have hc := comes_cut h3 s.data.toList hat left hl left (Nat.le_refl _) true
    refine (put_disk w3 base p mb D c fm N s hs A left cp left true _ h3 hc hN (Nat.le_trans hB hb.size)).mono ?_
    rintro e w' ⟨rfl, mb', q1, q2, q3⟩
    refine ⟨rfl, mb', (D.del (.string s.data.toList)).put (.string s.data.toList) (.held (.agg #[.slice A left cp, .int .i64 (left : Nat), .bool true])), ?_, (touch_below hb).trans (q2.mono fun i _ h => .inl (h.imp id .inl)), foot_put h.isMap (fun b e => (q3 b e).imp id (Nat.le_trans hb.size)) (fun g e => .inl ?_)⟩
    · unfold cutFm
      rw [if_neg e0]
      have := q1
      unfold bump at this
      rw [if_pos hf] at this
      exact this
    · rw [hat]
      cases A <;> exact e
  have HN := Lib.hid hn
  have hln : left ≤ n := by omega
  have hnm : n ≤ 1000000 := by omega
  generalize hsa : (fileAt fm s.data.toList).safe = sf at *
  generalize hev : (fileAt fm s.data.toList).ever = ev at *
  clear h hat hown h256 hsf hn hl hf hm hsa hev
  by_cases h0 : left = 0
  · cases ev with
    | false =>
      have H47' := Lib.hid (H47.out h0 rfl)
      subst h0
      go_enter Tryz.func44, Tryz.ntmps44
      go_wp2_with (go_at_call 80; refine (H47'.out _ ((Below.refl _ _).alloc (Nat.le_refl _) _)).mono ?_; rintro e w2 ⟨rfl, hA⟩; have HA := Lib.hid hA; clear hA)
      refine bodyPost_ret (results_none rfl _ _ _) rfl ?_
      exact ⟨rfl, HA.out⟩
    | true =>
      have H42' := Lib.hid (H42.out (by simp))
      subst h0
      go_enter Tryz.func44, Tryz.ntmps44
      go_wp2_with (first | (go_at_call 84; refine (made_any _ _ _ _).mono ?_; rintro e w3 ⟨rfl, hb3⟩; have HB3 := Lib.hid (((Below.refl w.heap.size w).alloc (Nat.le_refl _) (.cells #[.slice A n cp, .int .i64 (sf : Nat), .bool true] 93)).trans (hb3.mono (by simp))); clear hb3) | (go_at_call 83; refine (H42'.out _ HB3.out).mono ?_; rintro e w4 ⟨rfl, hA⟩; have HA := Lib.hid hA; clear hA))
      go_end0
      exact ⟨rfl, HA.out⟩
  · have H42' := Lib.hid (H42.out (by simp [h0]))
    have hne : ((left : Int) == 0) = false := by simp [h0]
    go_enter Tryz.func44, Tryz.ntmps44
    go_wp2_with (first | (go_at_call 84; refine (made_any _ _ _ _).mono ?_; rintro e w3 ⟨rfl, hb3⟩; have HB3 := Lib.hid (((Below.refl w.heap.size w).alloc (Nat.le_refl _) (.cells #[.slice A n cp, .int .i64 (sf : Nat), .bool ev] 93)).trans (hb3.mono (by simp))); clear hb3) | (go_at_call 83; refine (H42'.out _ HB3.out).mono ?_; rintro e w4 ⟨rfl, hA⟩; have HA := Lib.hid hA; clear hA))
    go_end0
    exact ⟨rfl, HA.out⟩
end Go.Proofs.YthhflkgngencdaaGreatDoor.dis
namespace Go.Proofs.YthhflkgngencdaaGreatDoor.dis
open Go.Proofs.YthhflkgngencdaaGreatDoor.codec
open Go.ChangeShapes Go.WideShapes Go.ChangeAt Go.RowKit Go.Maps Go.WideMaps Go.Sort Go.Shelf
set_option linter.unusedVariables false
set_option linter.unusedSimpArgs false

/-- slices.Sort, within whatever is called. -/
theorem sortsIn (m : Nat) : AnyZ.SortsIn Tryz.prog numS Fence.wide m :=
  ⟨fun blk off cap ss W hH hblk hsz => callsIn_wide.2 (Tryz.slices_Sort_string blk off cap ss W hH hblk hsz), fun p cap W => callsIn_wide.2 (Tryz.slices_Sort_string_none p cap W)⟩
/-- These are the names, rising. -/
structure Listed (fm : FM) (ns : List (List UInt8)) : Prop where
  nodup : ns.Nodup
  mem : ∀ x, x ∈ ns ↔ (fm x).isSome = true
  rise : ns.Pairwise (fun a b => a ≤ b)
  le : ∀ x ∈ ns, x.length ≤ maxLen
theorem Listed.same {fm : FM} {ns ns' : List (List UInt8)} (h : Listed fm ns) (h' : Listed fm ns') : ns = ns' := by
  refine List.Perm.eq_of_pairwise (le := fun a b => a ≤ b) (fun a b _ _ h1 h2 => List.le_antisymm h1 h2) h.rise h'.rise ?_
  exact (List.perm_ext_iff_of_nodup h.nodup h'.nodup).2 fun x => (h.mem x).trans (h'.mem x).symm
theorem Dsk.keys {w : World} {base p : Nat} {mb : Option Nat} {D : DataW Value} {c : Cfg} {fm : FM} {N : Nat} (h : Dsk w base p mb D c fm N) : (strKeys D).Nodup ∧ (∀ x, x ∈ strKeys D ↔ (fm x).isSome = true) ∧ ∀ x ∈ strKeys D, x.length ≤ maxLen := by
  cases mb with
  | none =>
    have hD := h.nomap rfl
    subst hD
    refine ⟨by simp [strKeys], fun x => ?_, by simp [strKeys]⟩
    have := h.has x
    rw [← this]
    simp [strKeys, Maps.has_eq]
  | some b =>
    have hown := (h.map b rfl).2.2
    obtain ⟨es, hD, hpw, _⟩ := hown.entries keyed9
    obtain ⟨es', hD', hko⟩ := hown.keysOf
    obtain rfl : es = es' := by rw [hD] at hD'; simpa using hD'
    have hk : ∀ p ∈ es, ∃ x, p.1 = .string x := fun p hp => by obtain ⟨v, hv⟩ := hko p hp; obtain ⟨x, _, hx, _⟩ := Maps.keyOf_str Tryz.underlying9 hv; exact ⟨x, hx⟩
    have hle := strKeys_le hown Tryz.underlying9
    have hh := h.has
    subst hD
    refine ⟨?_, fun x => ?_, hle⟩
    · show (es.map fun p => strOf p.1).Nodup
      refine List.pairwise_map.2 (hpw.imp_of_mem fun {p q} hp' hq' hne e => hne ?_)
      obtain ⟨a, ha⟩ := hk p hp'
      obtain ⟨b, hb⟩ := hk q hq'
      rw [ha, hb] at e ⊢
      exact congrArg _ e
    · rw [← hh x, has_eq, List.any_eq_true]
      show x ∈ es.map (fun p => strOf p.1) ↔ _
      rw [List.mem_map]
      constructor
      · rintro ⟨p, hp, e⟩
        obtain ⟨a, ha⟩ := hk p hp
        refine ⟨p, hp, ?_⟩
        rw [ha] at e ⊢
        have : a = x := e
        subst this
        simp [Lit.sameKey]
      · rintro ⟨p, hp, e⟩
        obtain ⟨a, ha⟩ := hk p hp
        refine ⟨p, hp, ?_⟩
        rw [ha] at e ⊢
        simp [Lit.sameKey] at e
        exact e
theorem listed_of {w : World} {base p : Nat} {mb : Option Nat} {D : DataW Value} {c : Cfg} {fm : FM} {N : Nat} (h : Dsk w base p mb D c fm N) {ss : List (List UInt8)} (hp : ss.Perm (strKeys D)) : Listed fm (ss.mergeSort (fun x y => decide (x ≤ y))) := by
  obtain ⟨h1, h2, h3⟩ := h.keys
  have hm := List.mergeSort_perm ss (fun x y => decide (x ≤ y))
  refine ⟨(hm.trans hp).nodup_iff.2 h1, fun x => ((hm.trans hp).mem_iff).trans (h2 x), ?_, fun x hx => h3 x ((hm.trans hp).mem_iff.1 hx)⟩
  have tr : ∀ a b c : List UInt8, leB a b = true → leB b c = true → leB a c = true := fun a b c h1 h2 => by simp only [leB, decide_eq_true_eq] at *; exact List.le_trans h1 h2
  have tt : ∀ a b : List UInt8, (leB a b || leB b a) = true := fun a b => by simp only [leB, Bool.or_eq_true, decide_eq_true_eq]; exact List.le_total a b
  exact (List.pairwise_mergeSort tr tt ss).imp fun h => by simpa [leB] using h
/-- maps.Keys. -/
theorem keys36 (mb : Option Nat) (W : World) : CallsIn Fence.wide 5 Tryz.prog 50 #[.map mb] W fun e w' => e = .returned (.func (.func 88) #[] #[.pointer (some ⟨W.heap.size, 0, none⟩)]) ∧ w' = W.alloc (.cells #[.map mb] 59) :=
  AnyZ.keys_in laysK Fence.wide 5 trivial rfl mb W
set_option maxHeartbeats 1000000 in
/-- slices.Sorted of the keys of a disk's map. -/
theorem sorted35 {w : World} {base p : Nat} {mb : Option Nat} {D : DataW Value} {c : Cfg} {fm : FM} {N : Nat} (h : Dsk w base p mb D c fm N) (hN : N ≤ 1000000) :
    CallsIn Fence.wide 5 Tryz.prog 49 #[.func (.func 88) #[] #[.pointer (some ⟨w.heap.size, 0, none⟩)]] (w.alloc (.cells #[.map mb] 59)) fun e w' => ∃ (v : Value) (ns : List (List UInt8)), e = .returned v ∧ Listed fm ns ∧
      w'.ownsRow (w.heap.size + 1) 9 1 v ns.length (ns.map encStr) ∧ (v = .slice none 0 0 ↔ ns = []) ∧ Below (w.heap.size + 1) (w.alloc (.cells #[.map mb] 59)) w' := by
  have hsz : (w.alloc (.cells #[.map mb] 59)).heap.size = w.heap.size + 1 := Array.size_push _
  have hms : ∀ ss : List (List UInt8), (ss.mergeSort (fun x y => decide (x ≤ y))).length = ss.length := fun ss => List.length_mergeSort ss
  have hnil : ∀ ss : List (List UInt8), ss = [] ↔ (ss.mergeSort (fun x y => decide (x ≤ y))) = [] := fun ss => by rw [← List.length_eq_zero_iff, ← List.length_eq_zero_iff, hms]
  cases mb with
  | none =>
    have hseq : SeqGives Fence.wide 2 Tryz.prog 88 #[.pointer (some ⟨w.heap.size, 0, none⟩)] encStr (fun ss : List (List UInt8) => ss = []) 0 (w.alloc (.cells #[.map none] 59)) :=
      AnyZ.keys_gives_nil (ρ := numK) { laysK with } Fence.wide _ trivial rfl w.heap.size _ (by simp) (by simp)
    refine (AnyZ.sorted_in laysS Fence.wide 5 trivial trivial trivial trivial rfl (by omega) (sortsIn _) (enters_of Tryz.func48 (by kernel_rfl) rfl) 88 #[.pointer (some ⟨w.heap.size, 0, none⟩)] trivial (enters_of Tryz.func88 (by kernel_rfl) rfl) _ 0 (Nat.zero_le _) (by omega) _ hseq).mono ?_
    rintro e w' ⟨v, ss, rfl, e2, q1, q2, q3⟩
    rw [hsz] at q1 q3
    refine ⟨v, _, rfl, listed_of h (ss := ss) (by rw [e2, h.nomap rfl]; exact List.Perm.refl _), by rw [hms]; exact q1, q2.trans (hnil ss), q3⟩
  | some b =>
    have hown := (h.map b rfl).2.2
    have hbl := hown.lt
    have hsD := h.sz
    have hseq : SeqGives Fence.wide 2 Tryz.prog 88 #[.pointer (some ⟨w.heap.size, 0, none⟩)] encStr (fun ss => ss.Perm (strKeys D)) (Maps.size D) (w.alloc (.cells #[.map (some b)] 59)) :=
      AnyZ.keys_gives (ρ := numK) { laysK with } Fence.wide _ trivial rfl (by omega) w.heap.size b _ D _ (by simp) (by simp) (by
        obtain ⟨es, clock, hb, Ft, hs, hD⟩ := hown
        exact ⟨es, clock, (Below.heap_alloc _ _ b hbl).trans hb, Ft, hs, hD⟩)
    refine (AnyZ.sorted_in laysS Fence.wide 5 trivial trivial trivial trivial rfl (by omega) (sortsIn _) (enters_of Tryz.func48 (by kernel_rfl) rfl) 88 #[.pointer (some ⟨w.heap.size, 0, none⟩)] trivial (enters_of Tryz.func88 (by kernel_rfl) rfl) _ _ (by unfold maxLen; omega) (by omega) _ hseq).mono ?_
    rintro e w' ⟨v, ss, rfl, e2, q1, q2, q3⟩
    rw [hsz] at q1 q3
    exact ⟨v, _, rfl, listed_of h e2, by rw [hms]; exact q1, q2.trans (hnil ss), q3⟩
end Go.Proofs.YthhflkgngencdaaGreatDoor.dis
namespace Go.Proofs.YthhflkgngencdaaGreatDoor.dis
open Go.Proofs.YthhflkgngencdaaGreatDoor.codec
open Go.ChangeShapes Go.WideShapes Go.ChangeAt Go.RowKit Go.Maps Go.WideMaps Go.Sort Go.Shelf
set_option linter.unusedVariables false
set_option linter.unusedSimpArgs false

/-- A list of names, in new memory. -/
def Named (w : World) (fm : FM) (e : Ending) (w' : World) : Prop :=
  ∃ (v : Value) (ns : List (List UInt8)), e = .returned v ∧ Listed fm ns ∧ w'.ownsRow (w.heap.size + 1) 9 1 v ns.length (ns.map encStr) ∧ (v = .slice none 0 0 ↔ ns = []) ∧ Below w.heap.size w w'
set_option maxRecDepth 50000 in
set_option maxHeartbeats 4000000 in
theorem names_any {w : World} {base p : Nat} {mb : Option Nat} {D : DataW Value} {c : Cfg} {fm : FM} {N : Nat} (h : Dsk w base p mb D c fm N) (hN : N ≤ 1000000) :
    Calls Tryz.prog 21 #[.pointer (some ⟨p, 0, none⟩)] w (Named w fm) := by
  obtain ⟨d0, d1, d2, d3, d4, d5, hf, hlt⟩ := h.facts
  have HS := Lib.hid (sorted35 h hN)
  clear h d0 d1 d3 d4 d5 hf
  refine (callsIn_wide (n := 6)).1 ?_
  have hfK : Fence.wide.fn 50 := trivial
  have hfS : Fence.wide.fn 49 := trivial
  refine callsIn_of_wp Tryz.func21 rfl trivial ?_ rfl
  simp only [Tryz.ntmps21, List.size_toArray, List.length_cons, List.length_nil, Nat.reduceAdd, Nat.reduceSub, Array.replicate_succ, Array.replicate_zero, List.push_toArray, List.append_toArray, List.nil_append, List.cons_append]
  gi_wp2_with (first | (gi_at_call 50; refine (keys36 _ _).mono ?_; rintro e w' ⟨rfl, rfl⟩) | (gi_at_call 49; refine HS.out.mono ?_; rintro e w2 ⟨v, ns, rfl, h1, h2, h3, h4⟩; have HA := Lib.hid h1; have HB := Lib.hid h2; have HC := Lib.hid h3; have HE := Lib.hid h4; clear h1 h2 h3 h4))
  go_ret
  exact ⟨v, ns, rfl, HA.out, HB.out, HC.out, ((Below.refl w.heap.size w).alloc (Nat.le_refl _) _).trans (HE.out.mono (Nat.le_succ _))⟩
end Go.Proofs.YthhflkgngencdaaGreatDoor.dis
namespace Go.Proofs.YthhflkgngencdaaGreatDoor.dis
open Go.Proofs.YthhflkgngencdaaGreatDoor.codec
open Go.ChangeShapes Go.WideShapes Go.ChangeAt Go.RowKit Go.Maps Go.WideMaps
set_option linter.unusedVariables false
set_option linter.unusedSimpArgs false

set_option maxRecDepth 100000 in
set_option maxHeartbeats 400000 in
theorem copied_any (w : World) (A : Option Addr) (n c : Nat) (l : List Nat) (h : Bytes w A n l) (hn : n ≤ 10000000) :
    Calls Tryz.prog 47 #[.slice A n c] w fun e w' => e = .returned (.slice (some ⟨w.heap.size, 0, none⟩) n n) ∧ w' = w.alloc (.cells (vals l).toArray 5) := by
  have hmk := run_make_row' (P := Tryz.prog) 40 5 (.int .u8 0) 1 Tryz.underlying40 info5 rfl .i64 .i64 n (by omega) (by omega)
  have HB := Lib.hid h
  clear h
  go_enter Tryz.func47, Tryz.ntmps47
  go_wp2_with (refine wpList_copied rfl (.tmp 7) (.tmp 8) rfl A n c l HB.out rfl rfl ?_)
  go_ret
  exact ⟨rfl, rfl⟩
/-- Bytes of one's own are bytes. -/
theorem bytes_of_own {w : World} {base : Nat} {A : Option Addr} {n cp : Nat} {l : List Nat} (h : w.ownsRow base 5 1 (.slice A n cp) l.length (vals l)) (h256 : ∀ x ∈ l, x < 256) (hn : n = l.length) : Bytes w A n l := by
  refine ⟨hn.symm, h256, fun h0 => ?_⟩
  rcases h.2 with ⟨e, h1⟩ | ⟨g, cap, cur, e, hb, hg, hc, hm, hs, ht⟩
  · cases e; omega
  · cases e
    refine ⟨g, 0, rfl, fun i hi => ?_⟩
    have hv : (vals l)[i]? = some (.int .u8 (l.getD i 0 : Nat)) := by
      have hi' : i < l.length := by omega
      simp [vals, List.getD, List.getElem?_eq_getElem hi']
    have h2 : cur[i]? = (vals l)[i]? := by
      rw [← ht, List.getElem?_take, if_pos (by omega)]
      simp
    simp [World.cell?, hg, h2, hv]
set_option maxRecDepth 50000 in
set_option maxHeartbeats 4000000 in
theorem read_some {w : World} {base p : Nat} {mb : Option Nat} {D : DataW Value} {c : Cfg} {fm : FM} {N : Nat} (s : ByteArray) (hs : s.size ≤ 281474976710656) (h : Dsk w base p mb D c fm N) (hl : c.lost = false) (f : File) (hf : fm s.data.toList = some f) (hm : f.l.length ≤ 1000000) :
    Calls Tryz.prog 18 #[.pointer (some ⟨p, 0, none⟩), .string s] w fun e w' => ∃ g, e = .returned (.tuple #[.slice (some ⟨g, 0, none⟩) f.l.length f.l.length, .int .i64 0]) ∧ w.heap.size ≤ g ∧ w'.heap[g]? = some (.cells (vals f.l).toArray 5 (0, 0)) ∧ Below w.heap.size w w' := by
  obtain ⟨A, n, cp, hat, hown, h256, hsf, hn, hcp⟩ := h.whole s.data.toList
  have h37 := find_some h s (by unfold maxLen; omega) hl f hf
  rw [hat] at h37
  have hfe := fileAt_some hf
  rw [hfe] at hown h256 hsf hn h37
  have hB := bytes_of_own hown h256 hn
  rw [← hn]
  have H37 := Lib.hid h37
  have H34 : Hid (∀ w2, Below w.heap.size w w2 → Calls Tryz.prog 47 #[.slice A n cp] w2 fun e w' => e = .returned (.slice (some ⟨w2.heap.size, 0, none⟩) n n) ∧ w' = w2.alloc (.cells (vals f.l).toArray 5)) := fun w2 hb => copied_any w2 A n cp f.l (hB.below (fun ad e h0 => hB.lt ad e h0) hb) (by omega)
  clear h37 h hat hown h256 hsf hn hcp hfe hf hB
  go_enter Tryz.func18, Tryz.ntmps18
  go_wp2_with (first | (go_at_call 46; refine H37.out.mono ?_; rintro e w1 ⟨rfl, hb⟩; have HB := Lib.hid (hb.trans (((Below.refl w1.heap.size w1).alloc (Nat.le_refl _) (.cells #[.slice A n cp, .int .i64 (f.safe : Nat), .bool f.ever] 93)).mono hb.size)); clear hb) | (go_at_call 47; refine (H34.out _ HB.out).mono ?_; rintro e w2 ⟨rfl, rfl⟩))
  go_ret2
  have hz : (w1.alloc (.cells #[.slice A n cp, .int .i64 (f.safe : Nat), .bool f.ever] 93)).heap.size = w1.heap.size + 1 := Array.size_push _
  refine ⟨w1.heap.size + 1, rfl, by have := HB.out.size; omega, by have := heap_alloc_new (w1.alloc (.cells #[.slice A n cp, .int .i64 (f.safe : Nat), .bool f.ever] 93)) (.cells (vals f.l).toArray 5); rw [hz] at this; exact this, HB.out.trans (((Below.refl _ _).alloc (Nat.le_refl _) _).mono HB.out.size)⟩
set_option maxRecDepth 50000 in
theorem lost_any {w : World} {base p : Nat} {mb : Option Nat} {D : DataW Value} {c : Cfg} {fm : FM} {N : Nat} (h : Dsk w base p mb D c fm N) :
    Calls Tryz.prog 20 #[.pointer (some ⟨p, 0, none⟩)] w fun e w' => e = .returned (.bool c.lost) ∧ ∃ q, w' = w.drewN q := by
  obtain ⟨d0, d1, d2, d3, d4, d5, hfz, hlt⟩ := h.facts
  clear h d0 d1 d2 d3 d4 hfz
  go_enter Tryz.func20, Tryz.ntmps20
  go_wp2
  go_ret
  exact ⟨rfl, 0, rfl⟩
end Go.Proofs.YthhflkgngencdaaGreatDoor.dis
