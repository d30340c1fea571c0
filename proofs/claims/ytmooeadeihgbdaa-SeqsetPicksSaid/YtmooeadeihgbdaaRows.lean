/-
  No cell of these rows narrows 'for every input' (looked for: loops, veiled, ifaces, maps, wideKeys, modest, calm, conditions, laid).
  DERIVED. THE GIVEN ROWS OF THIS SEAT. 3 by the template 'for every input the law returns true; each argument reads behind the call as it read before'; 0 by the template 'total and deterministic' (their statements: YtmooeadeihgbdaaTotals.lean).
  GIVEN WITH THE SEED: the statements are not yours to turn. If you find one false, say at which input.
  Laid BY PROGRAM, IN A SANDBOX (cutbox-rows.mjs): the forced cells as the released guide's own fill.sh prints them over the translation b1dd796e91934fd8… (all of the seat's roots in one cut). By AI agents, Wed Nov 11 2026. No macro, syntax, notation, axiom, sorry.
-/
import Derived.Test.YtmooeadeihgbdaaChecked
import GoSem.Claim
import GoSem.ClaimJoined
import GoSem.ClaimMapViews
import Derived.JoinedTies
import Derived.KernelRfl
namespace Go.Proofs.Ytmooeadeihgbdaa
/- THE CELL 'sum', in the pinned program and in every row, IS THE sha256 OF THE DUMP (.gsa) THAT YtmooeadeihgbdaaProg.lean LOADS. Nothing in Lean hashes anything: it is a label: what it is worth is what the hold of that sum in a sandbox is worth. -/
noncomputable def Try.pinned : Pinned := { name := "ytmooeadeihgbdaa", sum := "b1dd796e91934fd8caea7e0351d886bd69c1f58f583c8a4611181fc9f401e2b3", checked := Try.checked }
namespace Rows
def none {H : Type} : Left H := { results := [], args := [] }

/-- 'cubbylaw13.SeqsetParses': WHATEVER THE INPUT: true; the input reads as it did. -/
def seqsetParsesSpec : ChangeSpec := { name := "seqsetParses", fn := fun _ => fun
  | [d] => { results := [.lit (.bool true)], args := [d] }
  | _ => none }
def seqsetParsesRow : OpenClaim := { program := "ytmooeadeihgbdaa", sum := "b1dd796e91934fd8caea7e0351d886bd69c1f58f583c8a4611181fc9f401e2b3", func := "cubby/cubbylaw13.SeqsetParses", spec := "seqsetParses", inPlace := ["internal/bytealg.IndexByteString", "internal/bytealg.IndexString"], unfollowed := true, recurses := true, named := ["internal/bytealg.MaxLen"], apart := false }
def SeqsetParsesSaid : Prop := seqsetParsesRow.holds Try.pinned (OpenSpec.ofChange seqsetParsesSpec)

/-- ITS FALSE NEIGHBOUR: 'it returns false'. Refute it at one input. -/
def seqsetParsesWrong : ChangeSpec := { name := "seqsetParses", fn := fun _ => fun
  | [d] => { results := [.lit (.bool false)], args := [d] }
  | _ => none }
def SeqsetParsesWrongFalsely : Prop := seqsetParsesRow.holds Try.pinned (OpenSpec.ofChange seqsetParsesWrong)

/-- 'cubbylaw13.SeqsetHas': WHATEVER THE INPUT: true; the input reads as it did. -/
def seqsetHasSpec : ChangeSpec := { name := "seqsetHas", fn := fun _ => fun
  | [d1, d2, d3] => { results := [.lit (.bool true)], args := [d1, d2, d3] }
  | _ => none }
def seqsetHasRow : OpenClaim := { program := "ytmooeadeihgbdaa", sum := "b1dd796e91934fd8caea7e0351d886bd69c1f58f583c8a4611181fc9f401e2b3", func := "cubby/cubbylaw13.SeqsetHas", spec := "seqsetHas", inPlace := ["internal/bytealg.IndexByteString", "internal/bytealg.IndexString"], unfollowed := true, recurses := true, named := ["internal/bytealg.MaxLen"], apart := false }
def SeqsetHasSaid : Prop := seqsetHasRow.holds Try.pinned (OpenSpec.ofChange seqsetHasSpec)

/-- ITS FALSE NEIGHBOUR: 'it returns false'. Refute it at one input. -/
def seqsetHasWrong : ChangeSpec := { name := "seqsetHas", fn := fun _ => fun
  | [d1, d2, d3] => { results := [.lit (.bool false)], args := [d1, d2, d3] }
  | _ => none }
def SeqsetHasWrongFalsely : Prop := seqsetHasRow.holds Try.pinned (OpenSpec.ofChange seqsetHasWrong)

/-- 'cubbylaw13.SeqsetPicks': WHATEVER THE INPUT: true; the input reads as it did. -/
def seqsetPicksSpec : ChangeSpec := { name := "seqsetPicks", fn := fun _ => fun
  | [d1, d2] => { results := [.lit (.bool true)], args := [d1, d2] }
  | _ => none }
def seqsetPicksRow : OpenClaim := { program := "ytmooeadeihgbdaa", sum := "b1dd796e91934fd8caea7e0351d886bd69c1f58f583c8a4611181fc9f401e2b3", func := "cubby/cubbylaw13.SeqsetPicks", spec := "seqsetPicks", inPlace := ["internal/bytealg.IndexByteString", "internal/bytealg.IndexString"], unfollowed := true, recurses := true, named := ["internal/bytealg.MaxLen"], apart := false }
def SeqsetPicksSaid : Prop := seqsetPicksRow.holds Try.pinned (OpenSpec.ofChange seqsetPicksSpec)

/-- ITS FALSE NEIGHBOUR: 'it returns false'. Refute it at one input. -/
def seqsetPicksWrong : ChangeSpec := { name := "seqsetPicks", fn := fun _ => fun
  | [d1, d2] => { results := [.lit (.bool false)], args := [d1, d2] }
  | _ => none }
def SeqsetPicksWrongFalsely : Prop := seqsetPicksRow.holds Try.pinned (OpenSpec.ofChange seqsetPicksWrong)

/- THE SECOND FORM. 'bulk': how many values and letters a reading holds, each counted each time it is reached (what is shared counts as often as it is met; a slice's spare places count too). A statement '..UptoSaid' is the law's where the arguments, and the package variables that the reading takes, are together of bulk at most 1048576: NARROWER than '..Said'. Prove '..Said' where nothing that the law and all that it calls make is longer than what came in: it says more and counts as full. Else prove '..UptoSaid'. A law counts once. -/
mutual
def uptoBulk {H : Type} : DataW H → Nat
  | .lit (.string bytes) => bytes.length + 1
  | .lit _ => 1
  | .nil => 1
  | .ptr d => uptoBulk d + 1
  | .slice elems spare => uptoBulkAll elems + uptoBulkAll spare + 1
  | .agg parts => uptoBulkAll parts + 1
  | .iface _ d => uptoBulk d + 1
  | .map entries => uptoBulkEntries entries + 1
  | .held _ => 1
def uptoBulkAll {H : Type} : List (DataW H) → Nat
  | [] => 0
  | d :: r => uptoBulk d + uptoBulkAll r
def uptoBulkEntries {H : Type} : List (Lit × DataW H) → Nat
  | [] => 0
  | x :: r => uptoBulkEntry x + uptoBulkEntries r
def uptoBulkEntry {H : Type} : Lit × DataW H → Nat
  | (.string bytes, d) => bytes.length + uptoBulk d + 1
  | (_, d) => uptoBulk d + 1
 end
def uptoSmall : (H : Type) → List (DataW H) → Bool := fun _ ds => decide (uptoBulkAll ds ≤ 1048576)
def OpenSpec.upto (s : _root_.Go.ChangeSpec) : _root_.Go.OpenSpec := { _root_.Go.OpenSpec.ofChange s with cond := some uptoSmall }

/-- 'cubbylaw13.SeqsetParses', WHERE WHAT IT READS IS OF BULK AT MOST 1048576: true; the input reads as it did. -/
def seqsetParsesUptoRow : OpenClaim := { program := "ytmooeadeihgbdaa", sum := "b1dd796e91934fd8caea7e0351d886bd69c1f58f583c8a4611181fc9f401e2b3", func := "cubby/cubbylaw13.SeqsetParses", spec := "seqsetParses", inPlace := ["internal/bytealg.IndexByteString", "internal/bytealg.IndexString"], unfollowed := true, recurses := true, named := ["internal/bytealg.MaxLen"], apart := false, narrowed := true }
def SeqsetParsesUptoSaid : Prop := seqsetParsesUptoRow.holds Try.pinned (OpenSpec.upto seqsetParsesSpec)

/-- 'cubbylaw13.SeqsetHas', WHERE WHAT IT READS IS OF BULK AT MOST 1048576: true; the input reads as it did. -/
def seqsetHasUptoRow : OpenClaim := { program := "ytmooeadeihgbdaa", sum := "b1dd796e91934fd8caea7e0351d886bd69c1f58f583c8a4611181fc9f401e2b3", func := "cubby/cubbylaw13.SeqsetHas", spec := "seqsetHas", inPlace := ["internal/bytealg.IndexByteString", "internal/bytealg.IndexString"], unfollowed := true, recurses := true, named := ["internal/bytealg.MaxLen"], apart := false, narrowed := true }
def SeqsetHasUptoSaid : Prop := seqsetHasUptoRow.holds Try.pinned (OpenSpec.upto seqsetHasSpec)

/-- 'cubbylaw13.SeqsetPicks', WHERE WHAT IT READS IS OF BULK AT MOST 1048576: true; the input reads as it did. -/
def seqsetPicksUptoRow : OpenClaim := { program := "ytmooeadeihgbdaa", sum := "b1dd796e91934fd8caea7e0351d886bd69c1f58f583c8a4611181fc9f401e2b3", func := "cubby/cubbylaw13.SeqsetPicks", spec := "seqsetPicks", inPlace := ["internal/bytealg.IndexByteString", "internal/bytealg.IndexString"], unfollowed := true, recurses := true, named := ["internal/bytealg.MaxLen"], apart := false, narrowed := true }
def SeqsetPicksUptoSaid : Prop := seqsetPicksUptoRow.holds Try.pinned (OpenSpec.upto seqsetPicksSpec)

end Rows
end Go.Proofs.Ytmooeadeihgbdaa
