/- What keys ask of a message, and how they lie in memory. -/
import Derived.Test.YtcepcamedmiinaaGreatDoorMc1
import Derived.Test.YtcepcamedmiinaaGreatDoorMh2
import Derived.Test.YtcepcamedmiinaaGreatDoorMh3
import Derived.Lib.Small
import Derived.Laws.BitsLemmas
import Derived.Laws.EntriesVeiled
namespace Go.Proofs.YtcepcamedmiinaaGreatDoor.sea
open Go.ChangeShapes Go.WideShapes Go.ChangeAt Go.RowKit
open Go.Proofs.YtcepcamedmiinaaGreatDoor.codec (Bytes vals)
open Go.Proofs.YtcepcamedmiinaaGreatDoor.row
set_option linter.unusedVariables false
set_option maxRecDepth 100000
set_option linter.unusedSimpArgs false

/-- A message that keys are asked about: its UID, flags, octets, number, and what a * stands for. -/
structure Md where
  uid : Nat
  flags : Int
  oct : List Nat
  num : Nat
  ln : Nat
  lu : Nat
def contB (a b : List Nat) : Bool := Lib.contains (hd.octs a) (hd.octs b)
/-- The field of a name, in small letters; whether it is there. -/
def fldV (nm : ByteArray) (o : List Nat) : List Nat := lowL (nums (hd.strOf (hd.trimL (hd.runF nm (false, []) (hd.linesOf o)).2)))
def fldB (nm : ByteArray) (o : List Nat) : Bool := (hd.runF nm (false, []) (hd.linesOf o)).1
def fldF (nm : ByteArray) (wd : List Nat) (m : Md) : Bool := fldB nm m.oct && contB (fldV nm m.oct) wd
def bodL (o : List Nat) : List Nat := lowL (o.drop (hd.headN o))
def bodF (wd : List Nat) (m : Md) : Bool := contB (bodL m.oct) wd
def txtF (wd : List Nat) (m : Md) : Bool := contB (lowL m.oct) wd
def bigF (z : Int) (m : Md) : Bool := decide (z < (m.oct.length : Int))
def smlF (z : Int) (m : Md) : Bool := decide ((m.oct.length : Int) < z)
def uidF (xs : List sq.X) (m : Md) : Bool := sq.hasB xs m.uid m.lu
def setF (xs : List sq.X) (m : Md) : Bool := sq.hasB xs m.num m.ln
def andI (a b : Int) : Int := bits .and .i64 a b
def flgF (fl : Int) (wo : Bool) (m : Md) : Bool := (andI m.flags fl == 0) == wo
/-- The five flags that keys ask for. -/
def five : List (ByteArray × Int) := [(⟨#[83, 69, 69, 78]⟩, 1), (⟨#[65, 78, 83, 87, 69, 82, 69, 68]⟩, 2), (⟨#[70, 76, 65, 71, 71, 69, 68]⟩, 4), (⟨#[68, 69, 76, 69, 84, 69, 68]⟩, 8), (⟨#[68, 82, 65, 70, 84]⟩, 16)]
def restUN (s : ByteArray) : ByteArray := ⟨(Lib.trimPrefix s.data.toList [85, 78]).toArray⟩
def isUN (s : ByteArray) : Bool := Lib.hasPrefix s.data.toList [85, 78]
def flagOf (s : ByteArray) : Option (ByteArray × Int) := five.find? fun x => decide (x.1 = restUN s)
/-- What single keys ask. -/
def lv : Lv Md where
  fld := fun nm s => fldF nm (lowL (nums s))
  bod := fun s => bodF (lowL (nums s))
  txt := fun s => txtF (lowL (nums s))
  big := fun s => bigF (numV s)
  sml := fun s => smlF (numV s)
  uid := fun s => uidF (spans s)
  own := fun s => match flagOf s with | some x => flgF x.2 (isUN s) | none => setF (spans s)
  isNum := isNumS
  isSet := isSetS
  isOwn := fun s => (flagOf s).isSome || isSetS s

def Box (w : World) (q : Nat) (v : Value) (t : TypeId) : Prop := w.heap[q]? = some (.cells #[v] t (0, 0))
theorem Box.lt {w : World} {q : Nat} {v : Value} {t : TypeId} (h : Box w q v t) : q < w.heap.size := (Array.getElem?_eq_some_iff.1 h).1
theorem Box.keep {w w' : World} {q : Nat} {v : Value} {t : TypeId} (h : Box w q v t) (e : w'.heap[q]? = w.heap[q]?) : Box w' q v t := e.trans h
theorem Box.cell {w : World} {q : Nat} {v : Value} {t : TypeId} (h : Box w q v t) : w.cell? ⟨q, 0, none⟩ = some v := by unfold Box at h; simp [World.cell?, h]
theorem Box.free {w : World} {q : Nat} {v : Value} {t : TypeId} (h : Box w q v t) : w.frozen? ⟨q, 0, none⟩ = false := by unfold Box at h; simp [World.frozen?, h]
abbrev ptr (q : Nat) : Value := .pointer (some ⟨q, 0, none⟩)
theorem bytes_keep {w w' : World} {g n : Nat} {l : List Nat} (h : Bytes w (some ⟨g, 0, none⟩) n l) (e : w'.heap[g]? = w.heap[g]?) : Bytes w' (some ⟨g, 0, none⟩) n l := by
  refine ⟨h.1, h.2.1, fun h0 => ?_⟩
  obtain ⟨b, o, e1, hc⟩ := h.2.2 h0
  cases e1
  refine ⟨g, 0, rfl, fun i hi => ?_⟩
  have := hc i hi
  simp only [World.cell?] at this ⊢
  rw [e]
  exact this
theorem rdAll_keep {α : Type} {F : α → List Value} {K : Nat} {w w' : World} {R : Option Addr} {m : Nat} {l : List α} (h : Rd F K w R m l) (e : ∀ a, R = some a → w'.heap[a.block]? = w.heap[a.block]?) : Rd F K w' R m l := by
  refine ⟨h.1, fun k hk => ?_⟩
  obtain ⟨b, o, y, h1, h2, h3⟩ := h.2 k hk
  refine ⟨b, o, y, h1, h2, fun j v hv => ?_⟩
  have h4 := h3 j v hv
  have e2 := e _ h1
  simp only [World.cell?] at h4 ⊢
  rw [e2]
  exact h4
/-- A key's function, and what it asks. -/
structure Vk where
  fn : Nat
  caps : Array Value
  g : Md → Bool
instance : Inhabited Vk := ⟨⟨0, #[], fun _ => false⟩⟩
def fv (y : Vk) : Value := .func (.func y.fn) #[] y.caps
def cV (y : Vk) : List Value := [fv y]
theorem fV : Fm cV 1 := ⟨fun _ => rfl, fun y u hu => by simp [cV] at hu; subst hu; rfl⟩
theorem infoV : (Tryz.prog.info? 43).map (fun i => (i.zero, i.size, i.bytes)) = some (some .nilFunc, 1, 8) := by kernel_rfl
inductive Leaf (F : Nat → Prop) (w : World) : Value → (Md → Bool) → Prop
  | all : Leaf F w (.func (.func 29) #[] #[]) (fun _ => true)
  | fld (q1 q2 g n : Nat) (nm : ByteArray) (wd : List Nat) : F q1 → F q2 → F g → g < w.heap.size → Box w q1 (.string nm) 9 → Box w q2 (.slice (some ⟨g, 0, none⟩) n n) 37 → Bytes w (some ⟨g, 0, none⟩) n wd → n ≤ 140737488355328 → nm = nSUBJECT ∨ nm = nFROM ∨ nm = nTO → Leaf F w (.func (.func 33) #[] #[ptr q1, ptr q2]) (fldF nm wd)
  | bod (q g n : Nat) (wd : List Nat) : F q → F g → g < w.heap.size → Box w q (.slice (some ⟨g, 0, none⟩) n n) 37 → Bytes w (some ⟨g, 0, none⟩) n wd → n ≤ 140737488355328 → Leaf F w (.func (.func 36) #[] #[ptr q]) (bodF wd)
  | txt (q g n : Nat) (wd : List Nat) : F q → F g → g < w.heap.size → Box w q (.slice (some ⟨g, 0, none⟩) n n) 37 → Bytes w (some ⟨g, 0, none⟩) n wd → n ≤ 140737488355328 → Leaf F w (.func (.func 39) #[] #[ptr q]) (txtF wd)
  | big (q : Nat) (z : Int) : F q → Box w q (.int .i64 z) 3 → Leaf F w (.func (.func 42) #[] #[ptr q]) (bigF z)
  | sml (q : Nat) (z : Int) : F q → Box w q (.int .i64 z) 3 → Leaf F w (.func (.func 43) #[] #[ptr q]) (smlF z)
  | uid (q : Nat) (A : Option Addr) (c n : Nat) (xs : List sq.X) : F q → Box w q (.slice A n c) 77 → (∀ a, A = some a → F a.block ∧ a.block < w.heap.size) → Rd sq.cX 2 w A n xs → n ≤ 100 → Leaf F w (.func (.func 45) #[] #[ptr q]) (uidF xs)
  | set (q : Nat) (A : Option Addr) (c n : Nat) (xs : List sq.X) : F q → Box w q (.slice A n c) 77 → (∀ a, A = some a → F a.block ∧ a.block < w.heap.size) → Rd sq.cX 2 w A n xs → n ≤ 100 → Leaf F w (.func (.func 61) #[] #[ptr q]) (setF xs)
  | flg (q1 q2 : Nat) (nm : ByteArray) (fl : Int) (wo : Bool) (t : TypeId) : F q1 → F q2 → w.heap[q1]? = some (.cells #[.string nm, .int .i64 fl] t (0, 0)) → Box w q2 (.bool wo) 4 → Leaf F w (.func (.func 60) #[] #[ptr q1, ptr q2]) (flgF fl wo)
inductive Node (F : Nat → Prop) (R : Value → (Md → Bool) → Prop) (w : World) : Value → (Md → Bool) → Prop
  | not (q : Nat) (v : Value) (f : Md → Bool) : F q → Box w q v 43 → R v f → Node F R w (.func (.func 30) #[] #[ptr q]) (fun m => !f m)
  | or (q1 q2 : Nat) (v1 v2 : Value) (f1 f2 : Md → Bool) : F q1 → F q2 → Box w q1 v1 43 → Box w q2 v2 43 → R v1 f1 → R v2 f2 → Node F R w (.func (.func 31) #[] #[ptr q1, ptr q2]) (fun m => f1 m || f2 m)
  | keys (q b m c : Nat) (ys : List Vk) : F q → F b → b < w.heap.size → Box w q (.slice (some ⟨b, 0, none⟩) m c) 61 → m ≤ 1000 → Rd cV 1 w (some ⟨b, 0, none⟩) m ys → (∀ y ∈ ys, R (fv y) y.g) → Node F R w (.func (.func 21) #[] #[ptr q]) (fun d => ys.all fun y => y.g d)
/-- A function that asks what keys ask, of which all blocks are such. -/
def KeyAt (F : Nat → Prop) : Nat → World → Value → (Md → Bool) → Prop
  | 0, _, _, _ => False
  | n + 1, w, v, f => Leaf F w v f ∨ Node F (KeyAt F n w) w v f
theorem Leaf.form {F : Nat → Prop} {w : World} {v : Value} {f : Md → Bool} (h : Leaf F w v f) : ∃ y : Vk, v = fv y ∧ f = y.g := by
  cases h <;> exact ⟨⟨_, _, _⟩, rfl, rfl⟩
theorem Node.form {F : Nat → Prop} {R : Value → (Md → Bool) → Prop} {w : World} {v : Value} {f : Md → Bool} (h : Node F R w v f) : ∃ y : Vk, v = fv y ∧ f = y.g := by
  cases h <;> exact ⟨⟨_, _, _⟩, rfl, rfl⟩
theorem Leaf.keep {F G : Nat → Prop} {w w' : World} {v : Value} {f : Md → Bool} (h : Leaf F w v f) (e : ∀ b, F b → b < w.heap.size → w'.heap[b]? = w.heap[b]?) (hs : w.heap.size ≤ w'.heap.size) (hG : ∀ b, F b → b < w.heap.size → G b) : Leaf G w' v f := by
  cases h with
  | all => exact .all
  | fld q1 q2 g n nm wd a1 a2 a3 a4 a5 a6 a7 a8 a9 => exact .fld q1 q2 g n nm wd (hG _ a1 a5.lt) (hG _ a2 a6.lt) (hG _ a3 a4) (by omega) (a5.keep (e _ a1 a5.lt)) (a6.keep (e _ a2 a6.lt)) (bytes_keep a7 (e _ a3 a4)) a8 a9
  | bod q g n wd a2 a3 a4 a6 a7 a8 => exact .bod q g n wd (hG _ a2 a6.lt) (hG _ a3 a4) (by omega) (a6.keep (e _ a2 a6.lt)) (bytes_keep a7 (e _ a3 a4)) a8
  | txt q g n wd a2 a3 a4 a6 a7 a8 => exact .txt q g n wd (hG _ a2 a6.lt) (hG _ a3 a4) (by omega) (a6.keep (e _ a2 a6.lt)) (bytes_keep a7 (e _ a3 a4)) a8
  | big q z a1 a2 => exact .big q z (hG _ a1 a2.lt) (a2.keep (e _ a1 a2.lt))
  | sml q z a1 a2 => exact .sml q z (hG _ a1 a2.lt) (a2.keep (e _ a1 a2.lt))
  | uid q A c n xs a1 a2 a3 a4 a5 => exact .uid q A c n xs (hG _ a1 a2.lt) (a2.keep (e _ a1 a2.lt)) (fun a ha => ⟨hG _ (a3 a ha).1 (a3 a ha).2, by have := (a3 a ha).2; omega⟩) (rdAll_keep a4 fun a ha => e _ (a3 a ha).1 (a3 a ha).2) a5
  | set q A c n xs a1 a2 a3 a4 a5 => exact .set q A c n xs (hG _ a1 a2.lt) (a2.keep (e _ a1 a2.lt)) (fun a ha => ⟨hG _ (a3 a ha).1 (a3 a ha).2, by have := (a3 a ha).2; omega⟩) (rdAll_keep a4 fun a ha => e _ (a3 a ha).1 (a3 a ha).2) a5
  | flg q1 q2 nm fl wo t a1 a2 a3 a4 =>
    have hlt := (Array.getElem?_eq_some_iff.1 a3).1
    exact .flg q1 q2 nm fl wo t (hG _ a1 hlt) (hG _ a2 a4.lt) ((e _ a1 hlt).trans a3) (a4.keep (e _ a2 a4.lt))
/-- What leaves the blocks as they are keeps the key. -/
theorem KeyAt.keep {F G : Nat → Prop} {w w' : World} : ∀ {n : Nat} {v : Value} {f : Md → Bool}, KeyAt F n w v f → (∀ b, F b → b < w.heap.size → w'.heap[b]? = w.heap[b]?) → w.heap.size ≤ w'.heap.size → (∀ b, F b → b < w.heap.size → G b) → KeyAt G n w' v f
  | 0, v, f, h, _, _, _ => h
  | n + 1, v, f, h, e, hs, hG => by
    rcases h with h | h
    · exact .inl (h.keep e hs hG)
    · refine .inr ?_
      cases h with
      | not q v f a1 a2 a3 => exact .not q v f (hG _ a1 a2.lt) (a2.keep (e _ a1 a2.lt)) (KeyAt.keep a3 e hs hG)
      | or q1 q2 v1 v2 f1 f2 a1 a2 a3 a4 a5 a6 => exact .or q1 q2 v1 v2 f1 f2 (hG _ a1 a3.lt) (hG _ a2 a4.lt) (a3.keep (e _ a1 a3.lt)) (a4.keep (e _ a2 a4.lt)) (KeyAt.keep a5 e hs hG) (KeyAt.keep a6 e hs hG)
      | keys q b m c ys a1 a2 a3 a4 a5 a6 a7 => exact .keys q b m c ys (hG _ a1 a4.lt) (hG _ a2 a3) (by omega) (a4.keep (e _ a1 a4.lt)) a5 (rdAll_keep a6 fun a ha => by cases ha; exact e _ a2 a3) (fun y hy => KeyAt.keep (a7 y hy) e hs hG)
theorem KeyAt.up {F : Nat → Prop} {w : World} : ∀ {n : Nat} {v : Value} {f : Md → Bool}, KeyAt F n w v f → KeyAt F (n + 1) w v f
  | 0, v, f, h => h.elim
  | n + 1, v, f, h => by
    rcases h with h | h
    · exact .inl h
    · refine .inr ?_
      cases h with
      | not q v f a1 a2 a3 => exact .not q v f a1 a2 a3.up
      | or q1 q2 v1 v2 f1 f2 a1 a2 a3 a4 a5 a6 => exact .or q1 q2 v1 v2 f1 f2 a1 a2 a3 a4 a5.up a6.up
      | keys q b m c ys a1 a2 a3 a4 a5 a6 a7 => exact .keys q b m c ys a1 a2 a3 a4 a5 a6 (fun y hy => (a7 y hy).up)
theorem KeyAt.form {F : Nat → Prop} {n : Nat} {w : World} {v : Value} {f : Md → Bool} (h : KeyAt F n w v f) : ∃ y : Vk, v = fv y ∧ f = y.g := by
  cases n with
  | zero => exact h.elim
  | succ n => exact h.elim Leaf.form Node.form
/-- What came since w. -/
abbrev Since (w : World) : Nat → Prop := fun b => w.heap.size ≤ b
end Go.Proofs.YtcepcamedmiinaaGreatDoor.sea
namespace Go.Proofs.YtcepcamedmiinaaGreatDoor.sea
open Go.ChangeShapes Go.WideShapes Go.ChangeAt Go.RowKit
open Go.Proofs.YtcepcamedmiinaaGreatDoor.codec (Bytes vals)
open Go.Proofs.YtcepcamedmiinaaGreatDoor.row
set_option linter.unusedVariables false
set_option maxRecDepth 100000
set_option linter.unusedSimpArgs false

/-- What reading a key answers. -/
def KeyAns (n : Nat) (w : World) (p : Nat) (r : Rs Md) (e : Ending) (w' : World) : Prop :=
  ∃ y : Vk, e = .returned (fv y) ∧ ST w' p r.l r.b ∧ codec.Touch (· = p) w w' ∧ (r.b = false → KeyAt (Since w) n w' (fv y) r.f)
def KeyC (n d : Nat) : Prop := ∀ (w : World) (p : Nat) (l : List Tk) (b : Bool), ST w p l b → Calls Tryz.prog 19 #[.pointer (some ⟨p, 0, none⟩), .int .i64 (d : Nat)] w (KeyAns n w p (keyP lv n d l b))
theorem touch_alloc {p : Nat} (w : World) (o : Obj) : codec.Touch (· = p) w (w.alloc o) := below_touch _ ((Below.refl _ _).alloc (Nat.le_refl _) o)
theorem ST.alloc {w : World} {p : Nat} {l : List Tk} {b : Bool} (h : ST w p l b) (o : Obj) : ST (w.alloc o) p l b := h.below ((Below.refl _ _).alloc (Nat.le_refl _) o)
theorem box_new (w : World) (v : Value) (t : TypeId) : Box (w.alloc (.cells #[v] t)) w.heap.size v t := heap_alloc_new _ _
theorem size_alloc (w : World) (o : Obj) : (w.alloc o).heap.size = w.heap.size + 1 := by simp
theorem alloc_keeps (w : World) (o : Obj) : ∀ b, b < w.heap.size → (w.alloc o).heap[b]? = w.heap[b]? := fun b hb => Below.heap_alloc _ _ _ hb
/-- What was read keeps its place while the reader goes on. -/
theorem KeyAt.touch {n p : Nat} {w0 w w' : World} {v : Value} {f : Md → Bool} (h : KeyAt (Since w0) n w v f) (hp : p < w0.heap.size) (ht : codec.Touch (· = p) w w') {w1 : World} (h1 : w1.heap.size ≤ w0.heap.size) : KeyAt (Since w1) n w' v f :=
  h.keep (fun b hF hb => ht.2.2.2.2 b hb (fun e => by have : w0.heap.size ≤ b := hF; omega)) ht.2.2.2.1 (fun b hF _ => by have : w0.heap.size ≤ b := hF; show w1.heap.size ≤ b; omega)
set_option maxHeartbeats 1000000 in
theorem named_all (n d : Nat) (w : World) (p : Nat) (l : List Tk) (b : Bool) (h : ST w p l b) :
    Calls Tryz.prog 25 #[.pointer (some ⟨p, 0, none⟩), .string ⟨#[65, 76, 76]⟩, .int .i64 (d : Nat)] w (KeyAns (n + 1) w p ⟨fun _ => true, l, b⟩) := by
  have HS := Lib.hid (h.alloc (.cells #[.string ⟨#[65, 76, 76]⟩] 9))
  clear h
  go_enter Tryz.func25, Tryz.ntmps25
  go_wp2
  go_ret
  exact ⟨⟨_, _, fun _ => true⟩, rfl, HS.out, touch_alloc _ _, fun _ => .inl .all⟩
set_option maxHeartbeats 1000000 in
theorem named_not (n d : Nat) (hd : d ≤ 100) (hK : KeyC n (d + 1)) (w : World) (p : Nat) (l : List Tk) (b : Bool) (h : ST w p l b) :
    Calls Tryz.prog 25 #[.pointer (some ⟨p, 0, none⟩), .string ⟨#[78, 79, 84]⟩, .int .i64 (d : Nat)] w (KeyAns (n + 1) w p ⟨fun m => !(keyP lv n (d + 1) l b).f m, (keyP lv n (d + 1) l b).l, (keyP lv n (d + 1) l b).b⟩) := by
  have HS := Lib.hid (h.alloc (.cells #[.string ⟨#[78, 79, 84]⟩] 9))
  have HK := Lib.hid (hK _ p l b HS.out)
  have HP := Lib.hid h.1.lt
  clear h hK
  unfold KeyAns at HK
  generalize keyP lv n (d + 1) l b = r at *
  go_enter Tryz.func25, Tryz.ntmps25
  go_wp2_with fail
  refine HK.out.mono ?_
  rintro e w1 ⟨y, rfl, hs, ht, hk⟩
  have HS1 := Lib.hid hs
  have HT := Lib.hid ht
  have HA := Lib.hid hk
  clear hs ht hk
  have hf : fv y = .func (.func y.fn) #[] y.caps := rfl
  rw [hf]
  go_wp2
  go_ret
  refine ⟨⟨_, _, fun _ => true⟩, rfl, HS1.out.alloc _, touch_trans (touch_trans (touch_alloc _ _) HT.out) (touch_alloc _ _), fun hb => .inr ?_⟩
  have hz := HT.out.2.2.2.1
  rw [size_alloc] at hz
  exact .not w1.heap.size (fv y) r.f (show w.heap.size ≤ _ by omega) (box_new _ _ _) ((HA.out hb).touch (p := p) (by rw [size_alloc]; have := HP.out; omega) (touch_alloc _ _) (by rw [size_alloc]; omega))
set_option maxHeartbeats 1000000 in
theorem named_or (n d : Nat) (hd : d ≤ 100) (hK : KeyC n (d + 1)) (w : World) (p : Nat) (l : List Tk) (b : Bool) (h : ST w p l b) :
    Calls Tryz.prog 25 #[.pointer (some ⟨p, 0, none⟩), .string ⟨#[79, 82]⟩, .int .i64 (d : Nat)] w (KeyAns (n + 1) w p ⟨fun m => (keyP lv n (d + 1) l b).f m || (keyP lv n (d + 1) (keyP lv n (d + 1) l b).l (keyP lv n (d + 1) l b).b).f m, (keyP lv n (d + 1) (keyP lv n (d + 1) l b).l (keyP lv n (d + 1) l b).b).l, (keyP lv n (d + 1) (keyP lv n (d + 1) l b).l (keyP lv n (d + 1) l b).b).b⟩) := by
  have HS := Lib.hid (h.alloc (.cells #[.string ⟨#[79, 82]⟩] 9))
  have HK := Lib.hid (hK _ p l b HS.out)
  have HP := Lib.hid h.1.lt
  have HG := Lib.hid (fun l b => (key_sound lv n (d + 1)).good l b)
  clear h
  unfold KeyAns at HK
  generalize keyP lv n (d + 1) l b = r at *
  have HC := Lib.hid hK
  clear hK
  go_enter Tryz.func25, Tryz.ntmps25
  go_wp2_with fail
  refine HK.out.mono ?_
  rintro e w1 ⟨y, rfl, hs, ht, hk⟩
  have HS1 := Lib.hid hs
  have HT := Lib.hid ht
  have HA := Lib.hid hk
  have HK2 := Lib.hid (HC.out w1 p r.l r.b HS1.out)
  have HG2 := Lib.hid (HG.out r.l r.b)
  clear hs ht hk
  unfold KeyAns at HK2
  generalize hr2 : keyP lv n (d + 1) r.l r.b = r2 at *
  have HR2 := Lib.hid hr2
  clear hr2
  have hf : fv y = .func (.func y.fn) #[] y.caps := rfl
  rw [hf]
  go_wp2_with fail
  refine HK2.out.mono ?_
  rintro e w2 ⟨y2, rfl, hs, ht, hk⟩
  have HS2 := Lib.hid hs
  have HT2 := Lib.hid ht
  have HA2 := Lib.hid hk
  clear hs ht hk
  have hf2 : fv y2 = .func (.func y2.fn) #[] y2.caps := rfl
  rw [hf2]
  go_wp2
  go_ret
  rw [HR2.out]
  have hz := HT.out.2.2.2.1
  have hz2 := HT2.out.2.2.2.1
  rw [size_alloc] at hz
  have hp := HP.out
  have ht3 := touch_trans (touch_alloc (p := p) w2 (.cells #[.func (.func y.fn) #[] y.caps] 43)) (touch_alloc (p := p) _ (.cells #[.func (.func y2.fn) #[] y2.caps] 43))
  refine ⟨⟨_, _, fun _ => true⟩, rfl, (HS2.out.alloc _).alloc _, touch_trans (touch_trans (touch_trans (touch_alloc _ _) HT.out) HT2.out) ht3, fun hb => .inr ?_⟩
  have hb1 := HG2.out hb
  refine .or w2.heap.size (w2.heap.size + 1) (fv y) (fv y2) r.f r2.f (show w.heap.size ≤ _ by omega) (show w.heap.size ≤ _ by omega) ?_ (by have h9 := box_new (w2.alloc (.cells #[fv y] 43)) (fv y2) 43; rw [size_alloc] at h9; exact h9) ((HA.out hb1).touch (p := p) (by rw [size_alloc]; omega) (touch_trans HT2.out ht3) (by rw [size_alloc]; omega)) ((HA2.out hb).touch (p := p) (by omega) ht3 (by omega))
  exact (box_new w2 (fv y) 43).keep (alloc_keeps _ _ _ (by rw [size_alloc]; omega))
theorem word_big {w : World} {p : Nat} {l : List Tk} {b : Bool} (h : RS w p l b) : (wordT l b).size ≤ 140737488355328 := by
  unfold wordT
  split <;> exact take_big h
set_option maxHeartbeats 1000000 in
theorem named_subject (n d : Nat) (w : World) (p : Nat) (l : List Tk) (b : Bool) (h : ST w p l b) :
    Calls Tryz.prog 25 #[.pointer (some ⟨p, 0, none⟩), .string ⟨#[83, 85, 66, 74, 69, 67, 84]⟩, .int .i64 (d : Nat)] w (KeyAns (n + 1) w p ⟨lv.fld nSUBJECT (wordT l b), wordL l b, wordB l b⟩) := by
  have HS := Lib.hid (h.alloc (.cells #[.string ⟨#[83, 85, 66, 74, 69, 67, 84]⟩] 9))
  have HW := Lib.hid (word_any _ p l b HS.out)
  have HG := Lib.hid (word_big HS.out.1)
  have HPl := Lib.hid h.1.lt
  have HB := Lib.hid (box_new w (.string ⟨#[83, 85, 66, 74, 69, 67, 84]⟩) 9)
  clear h
  go_enter Tryz.func25, Tryz.ntmps25
  go_wp2_with fail
  refine HW.out.mono ?_
  rintro e w1 ⟨g, m, rfl, h1, h2, h3, h4, h5⟩
  have H1 := Lib.hid h1
  have H2 := Lib.hid h2
  have H3 := Lib.hid h3
  have H4 := Lib.hid h4
  have H5 := Lib.hid h5
  clear h1 h2 h3 h4 h5
  go_wp2
  go_ret
  have hz := H5.out.2.2.2.1
  have hg := H1.out
  rw [size_alloc] at hz hg
  have hl := H3.out.1
  rw [lowL_len, nums_len] at hl
  have hne : w.heap.size ≠ p := by have := HPl.out; omega
  refine ⟨⟨_, _, fun _ => true⟩, rfl, H4.out.alloc _, touch_trans (touch_trans (touch_alloc _ _) H5.out) (touch_alloc _ _), fun hb => .inl ?_⟩
  exact .fld w.heap.size w1.heap.size g m nSUBJECT _ (Nat.le_refl _) (show w.heap.size ≤ _ by omega) (show w.heap.size ≤ _ by omega) (by rw [size_alloc]; have := H2.out; omega) ((HB.out.keep (H5.out.2.2.2.2 _ (by rw [size_alloc]; omega) hne)).keep (alloc_keeps _ _ _ (by omega))) (box_new _ _ _) (bytes_keep H3.out (alloc_keeps _ _ _ H2.out)) (by have := HG.out; omega) (by decide)
set_option maxHeartbeats 1000000 in
theorem named_from (n d : Nat) (w : World) (p : Nat) (l : List Tk) (b : Bool) (h : ST w p l b) :
    Calls Tryz.prog 25 #[.pointer (some ⟨p, 0, none⟩), .string ⟨#[70, 82, 79, 77]⟩, .int .i64 (d : Nat)] w (KeyAns (n + 1) w p ⟨lv.fld nFROM (wordT l b), wordL l b, wordB l b⟩) := by
  have HS := Lib.hid (h.alloc (.cells #[.string ⟨#[70, 82, 79, 77]⟩] 9))
  have HW := Lib.hid (word_any _ p l b HS.out)
  have HG := Lib.hid (word_big HS.out.1)
  have HPl := Lib.hid h.1.lt
  have HB := Lib.hid (box_new w (.string ⟨#[70, 82, 79, 77]⟩) 9)
  clear h
  go_enter Tryz.func25, Tryz.ntmps25
  go_wp2_with fail
  refine HW.out.mono ?_
  rintro e w1 ⟨g, m, rfl, h1, h2, h3, h4, h5⟩
  have H1 := Lib.hid h1
  have H2 := Lib.hid h2
  have H3 := Lib.hid h3
  have H4 := Lib.hid h4
  have H5 := Lib.hid h5
  clear h1 h2 h3 h4 h5
  go_wp2
  go_ret
  have hz := H5.out.2.2.2.1
  have hg := H1.out
  rw [size_alloc] at hz hg
  have hl := H3.out.1
  rw [lowL_len, nums_len] at hl
  have hne : w.heap.size ≠ p := by have := HPl.out; omega
  refine ⟨⟨_, _, fun _ => true⟩, rfl, H4.out.alloc _, touch_trans (touch_trans (touch_alloc _ _) H5.out) (touch_alloc _ _), fun hb => .inl ?_⟩
  exact .fld w.heap.size w1.heap.size g m nFROM _ (Nat.le_refl _) (show w.heap.size ≤ _ by omega) (show w.heap.size ≤ _ by omega) (by rw [size_alloc]; have := H2.out; omega) ((HB.out.keep (H5.out.2.2.2.2 _ (by rw [size_alloc]; omega) hne)).keep (alloc_keeps _ _ _ (by omega))) (box_new _ _ _) (bytes_keep H3.out (alloc_keeps _ _ _ H2.out)) (by have := HG.out; omega) (by decide)
set_option maxHeartbeats 1000000 in
theorem named_to (n d : Nat) (w : World) (p : Nat) (l : List Tk) (b : Bool) (h : ST w p l b) :
    Calls Tryz.prog 25 #[.pointer (some ⟨p, 0, none⟩), .string ⟨#[84, 79]⟩, .int .i64 (d : Nat)] w (KeyAns (n + 1) w p ⟨lv.fld nTO (wordT l b), wordL l b, wordB l b⟩) := by
  have HS := Lib.hid (h.alloc (.cells #[.string ⟨#[84, 79]⟩] 9))
  have HW := Lib.hid (word_any _ p l b HS.out)
  have HG := Lib.hid (word_big HS.out.1)
  have HPl := Lib.hid h.1.lt
  have HB := Lib.hid (box_new w (.string ⟨#[84, 79]⟩) 9)
  clear h
  go_enter Tryz.func25, Tryz.ntmps25
  go_wp2_with fail
  refine HW.out.mono ?_
  rintro e w1 ⟨g, m, rfl, h1, h2, h3, h4, h5⟩
  have H1 := Lib.hid h1
  have H2 := Lib.hid h2
  have H3 := Lib.hid h3
  have H4 := Lib.hid h4
  have H5 := Lib.hid h5
  clear h1 h2 h3 h4 h5
  go_wp2
  go_ret
  have hz := H5.out.2.2.2.1
  have hg := H1.out
  rw [size_alloc] at hz hg
  have hl := H3.out.1
  rw [lowL_len, nums_len] at hl
  have hne : w.heap.size ≠ p := by have := HPl.out; omega
  refine ⟨⟨_, _, fun _ => true⟩, rfl, H4.out.alloc _, touch_trans (touch_trans (touch_alloc _ _) H5.out) (touch_alloc _ _), fun hb => .inl ?_⟩
  exact .fld w.heap.size w1.heap.size g m nTO _ (Nat.le_refl _) (show w.heap.size ≤ _ by omega) (show w.heap.size ≤ _ by omega) (by rw [size_alloc]; have := H2.out; omega) ((HB.out.keep (H5.out.2.2.2.2 _ (by rw [size_alloc]; omega) hne)).keep (alloc_keeps _ _ _ (by omega))) (box_new _ _ _) (bytes_keep H3.out (alloc_keeps _ _ _ H2.out)) (by have := HG.out; omega) (by decide)
set_option maxHeartbeats 1000000 in
theorem named_body (n d : Nat) (w : World) (p : Nat) (l : List Tk) (b : Bool) (h : ST w p l b) :
    Calls Tryz.prog 25 #[.pointer (some ⟨p, 0, none⟩), .string ⟨#[66, 79, 68, 89]⟩, .int .i64 (d : Nat)] w (KeyAns (n + 1) w p ⟨lv.bod (wordT l b), wordL l b, wordB l b⟩) := by
  have HS := Lib.hid (h.alloc (.cells #[.string ⟨#[66, 79, 68, 89]⟩] 9))
  have HW := Lib.hid (word_any _ p l b HS.out)
  have HG := Lib.hid (word_big HS.out.1)
  clear h
  go_enter Tryz.func25, Tryz.ntmps25
  go_wp2_with fail
  refine HW.out.mono ?_
  rintro e w1 ⟨g, m, rfl, h1, h2, h3, h4, h5⟩
  have H1 := Lib.hid h1
  have H2 := Lib.hid h2
  have H3 := Lib.hid h3
  have H4 := Lib.hid h4
  have H5 := Lib.hid h5
  clear h1 h2 h3 h4 h5
  go_wp2
  go_ret
  have hz := H5.out.2.2.2.1
  have hg := H1.out
  rw [size_alloc] at hz hg
  have hl := H3.out.1
  rw [lowL_len, nums_len] at hl
  refine ⟨⟨_, _, fun _ => true⟩, rfl, H4.out.alloc _, touch_trans (touch_trans (touch_alloc _ _) H5.out) (touch_alloc _ _), fun hb => .inl ?_⟩
  exact .bod w1.heap.size g m _ (show w.heap.size ≤ _ by omega) (show w.heap.size ≤ _ by omega) (by rw [size_alloc]; have := H2.out; omega) (box_new _ _ _) (bytes_keep H3.out (alloc_keeps _ _ _ H2.out)) (by have := HG.out; omega)
set_option maxHeartbeats 1000000 in
theorem named_text (n d : Nat) (w : World) (p : Nat) (l : List Tk) (b : Bool) (h : ST w p l b) :
    Calls Tryz.prog 25 #[.pointer (some ⟨p, 0, none⟩), .string ⟨#[84, 69, 88, 84]⟩, .int .i64 (d : Nat)] w (KeyAns (n + 1) w p ⟨lv.txt (wordT l b), wordL l b, wordB l b⟩) := by
  have HS := Lib.hid (h.alloc (.cells #[.string ⟨#[84, 69, 88, 84]⟩] 9))
  have HW := Lib.hid (word_any _ p l b HS.out)
  have HG := Lib.hid (word_big HS.out.1)
  clear h
  go_enter Tryz.func25, Tryz.ntmps25
  go_wp2_with fail
  refine HW.out.mono ?_
  rintro e w1 ⟨g, m, rfl, h1, h2, h3, h4, h5⟩
  have H1 := Lib.hid h1
  have H2 := Lib.hid h2
  have H3 := Lib.hid h3
  have H4 := Lib.hid h4
  have H5 := Lib.hid h5
  clear h1 h2 h3 h4 h5
  go_wp2
  go_ret
  have hz := H5.out.2.2.2.1
  have hg := H1.out
  rw [size_alloc] at hz hg
  have hl := H3.out.1
  rw [lowL_len, nums_len] at hl
  refine ⟨⟨_, _, fun _ => true⟩, rfl, H4.out.alloc _, touch_trans (touch_trans (touch_alloc _ _) H5.out) (touch_alloc _ _), fun hb => .inl ?_⟩
  exact .txt w1.heap.size g m _ (show w.heap.size ≤ _ by omega) (show w.heap.size ≤ _ by omega) (by rw [size_alloc]; have := H2.out; omega) (box_new _ _ _) (bytes_keep H3.out (alloc_keeps _ _ _ H2.out)) (by have := HG.out; omega)
set_option maxHeartbeats 1000000 in
theorem named_larger (n d : Nat) (w : World) (p : Nat) (l : List Tk) (b : Bool) (h : ST w p l b) :
    Calls Tryz.prog 25 #[.pointer (some ⟨p, 0, none⟩), .string ⟨#[76, 65, 82, 71, 69, 82]⟩, .int .i64 (d : Nat)] w (KeyAns (n + 1) w p ⟨lv.big (takeT l b 1), takeL l b 1, !comesB l b 1 || !lv.isNum (takeT l b 1)⟩) := by
  have HS := Lib.hid (h.alloc (.cells #[.string ⟨#[76, 65, 82, 71, 69, 82]⟩] 9))
  have HW := Lib.hid (number_any _ p l b HS.out)
  clear h
  go_enter Tryz.func25, Tryz.ntmps25
  go_wp2_with fail
  refine HW.out.mono ?_
  rintro e w1 ⟨rfl, h4, h5⟩
  have H4 := Lib.hid h4
  have H5 := Lib.hid h5
  clear h4 h5
  generalize hz : numV (takeT l b 1) = z at *
  have HZ := Lib.hid hz
  clear hz
  go_wp2
  go_ret
  have hz := H5.out.2.2.2.1
  rw [size_alloc] at hz
  refine ⟨⟨_, _, fun _ => true⟩, rfl, H4.out.alloc _, touch_trans (touch_trans (touch_alloc _ _) H5.out) (touch_alloc _ _), fun hb => .inl ?_⟩
  show Leaf _ _ _ (bigF (numV (takeT l b 1)))
  rw [HZ.out]
  exact .big w1.heap.size z (show w.heap.size ≤ _ by omega) (box_new _ _ _)
set_option maxHeartbeats 1000000 in
theorem named_smaller (n d : Nat) (w : World) (p : Nat) (l : List Tk) (b : Bool) (h : ST w p l b) :
    Calls Tryz.prog 25 #[.pointer (some ⟨p, 0, none⟩), .string ⟨#[83, 77, 65, 76, 76, 69, 82]⟩, .int .i64 (d : Nat)] w (KeyAns (n + 1) w p ⟨lv.sml (takeT l b 1), takeL l b 1, !comesB l b 1 || !lv.isNum (takeT l b 1)⟩) := by
  have HS := Lib.hid (h.alloc (.cells #[.string ⟨#[83, 77, 65, 76, 76, 69, 82]⟩] 9))
  have HW := Lib.hid (number_any _ p l b HS.out)
  clear h
  go_enter Tryz.func25, Tryz.ntmps25
  go_wp2_with fail
  refine HW.out.mono ?_
  rintro e w1 ⟨rfl, h4, h5⟩
  have H4 := Lib.hid h4
  have H5 := Lib.hid h5
  clear h4 h5
  generalize hz : numV (takeT l b 1) = z at *
  have HZ := Lib.hid hz
  clear hz
  go_wp2
  go_ret
  have hz := H5.out.2.2.2.1
  rw [size_alloc] at hz
  refine ⟨⟨_, _, fun _ => true⟩, rfl, H4.out.alloc _, touch_trans (touch_trans (touch_alloc _ _) H5.out) (touch_alloc _ _), fun hb => .inl ?_⟩
  show Leaf _ _ _ (smlF (numV (takeT l b 1)))
  rw [HZ.out]
  exact .sml w1.heap.size z (show w.heap.size ≤ _ by omega) (box_new _ _ _)
set_option maxHeartbeats 1000000 in
theorem named_uid (n d : Nat) (w : World) (p : Nat) (l : List Tk) (b : Bool) (h : ST w p l b) :
    Calls Tryz.prog 25 #[.pointer (some ⟨p, 0, none⟩), .string ⟨#[85, 73, 68]⟩, .int .i64 (d : Nat)] w (KeyAns (n + 1) w p ⟨lv.uid (takeT l b 1), takeL l b 1, !comesB l b 1 || !lv.isSet (takeT l b 1)⟩) := by
  have HS := Lib.hid (h.alloc (.cells #[.string ⟨#[85, 73, 68]⟩] 9))
  have HW := Lib.hid (take_any _ p l b 1 HS.out.1)
  have HG := Lib.hid (take_big (k := 1) HS.out.1)
  clear h
  go_enter Tryz.func25, Tryz.ntmps25
  go_wp2_with fail
  refine HW.out.mono ?_
  rintro e w1 ⟨rfl, hr, ht⟩
  have HS1 := Lib.hid (HS.out.move hr ht)
  have HT1 := Lib.hid ht
  have HX := Lib.hid (set_any w1 p (takeT l b 1) _ _ HS1.out HG.out)
  clear hr ht
  go_wp2_with fail
  refine HX.out.mono ?_
  rintro e w2 ⟨A, c, m, rfl, h4, h5, h6⟩
  have H4 := Lib.hid h4
  have H5 := Lib.hid h5
  have H6 := Lib.hid h6
  clear h4 h5 h6
  go_wp2
  go_ret
  have hz := HT1.out.2.2.2.1
  have hz2 := H5.out.2.2.2.1
  rw [size_alloc] at hz
  refine ⟨⟨_, _, fun _ => true⟩, rfl, H4.out.alloc _, touch_trans (touch_trans (touch_trans (touch_alloc _ _) HT1.out) H5.out) (touch_alloc _ _), fun hb => .inl ?_⟩
  obtain ⟨k1, k2, k3⟩ := H6.out (or_not hb).2
  exact .uid w2.heap.size A c m _ (show w.heap.size ≤ _ by omega) (box_new _ _ _) (fun a ha => ⟨show w.heap.size ≤ _ by have := (k3 a ha).1; omega, by rw [size_alloc]; have := (k3 a ha).2; omega⟩) (rdAll_keep k1 fun a ha => alloc_keeps _ _ _ (k3 a ha).2) k2
end Go.Proofs.YtcepcamedmiinaaGreatDoor.sea
