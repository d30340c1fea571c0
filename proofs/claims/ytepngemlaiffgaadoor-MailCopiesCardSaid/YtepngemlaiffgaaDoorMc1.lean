/-
  DERIVED: THE SHELF's CONTRACTS AT THIS DUMP, IN PLAIN WORDS (tools/lay-plain.mjs out of 'TrydShelf.lean', which tools/lay-shelf.mjs wrote): THE SAME DECLARATIONS UNDER THE SAME NAMES: 'import', 'namespace', 'open', 'def', 'theorem' AND NOTHING ELSE: no command of the shelf's: FOR A HAND-IN. Each laying: the table of numbers ('.._ren') and one theorem, a field a fact of the dump's own or the kernel's comparison; each contract: ONE APPLICATION.
-/
import Derived.Shelf.Strconv.Itoa0
import Derived.Shelf.Strconv.Itoa1
import Derived.Shelf.LaysM
import Derived.Shelf.Strconv.Itoa2
import Derived.Shelf.Strconv.Clone
import Derived.Shelf.Strings.Search1
import Derived.Shelf.Strings.Search2
import Derived.Shelf.Strings.Search3
import Derived.Shelf.Strings.Count
import Derived.Shelf.Strings.Shaped
import Derived.Shelf.Strconv.AppendUint10
import Derived.Shelf.Strconv.AppendInt10
import Derived.Shelf.Strconv.AppendIntPublic10
import Derived.Shelf.Strings.Split
import Derived.Shelf.Strings.Fold
import Derived.Shelf.Strings.SplitShaped
import Derived.Shelf.Unicode.DecodeSlow
import Derived.Shelf.Unicode.CaseLookup
import Derived.Shelf.Unicode.CaseConvert
import Derived.Test.YtepngemlaiffgaaDoorProg
import Derived.Test.YtepngemlaiffgaaDoorRows
import Derived.Test.YtepngemlaiffgaaDoorMc0
import Derived.WalkKit
import Derived.ProofKit
import Derived.OpenShut
import Derived.ShutString
import Derived.ChangeOld
import Derived.Below
import Derived.Outline
import Derived.WalkSpells
import Derived.Lib.Hide
import Derived.Deep.QuietTactic
import Derived.BigQuiet
import Derived.Deep.OwnRows
import Derived.Deep.WholeRow
import Derived.StillTailTactics
import Derived.Deep.RegionLaw
import Derived.Shelf.Vars
namespace Go.Proofs
open Go.Shelf
def Tryd.laysM316_ren : Go.Shelf.Ren := ⟨fun | 316 => 55 | n => n, fun | 9 => 9 | 3 => 3 | 4 => 4 | 37 => 28 | 0 => 0 | 127 => 84 | 5 => 5 | n => n, fun | n => n⟩
theorem Tryd.laysM316 : Go.Proofs.LaysM.n316 Tryd.prog Tryd.laysM316_ren := {
  mixed := by kernel_rfl
  f316 := Tryd.func55.trans (congrArg some (by kernel_rfl))
  t0 := Tryd.underlying0
  a0 := Tryd.isAgg0
  z0 := Tryd.sizeOf0
  v0 := Tryd.zeroValue0
  t3 := Tryd.underlying3
  a3 := Tryd.isAgg3
  z3 := Tryd.sizeOf3
  v3 := Tryd.zeroValue3
  t4 := Tryd.underlying4
  a4 := Tryd.isAgg4
  z4 := Tryd.sizeOf4
  v4 := Tryd.zeroValue4
  t9 := Tryd.underlying9
  a9 := Tryd.isAgg9
  z9 := Tryd.sizeOf9
  v9 := Tryd.zeroValue9
  t37 := Tryd.underlying28
  a37 := Tryd.isAgg28
  z37 := Tryd.sizeOf28
  v37 := Tryd.zeroValue28
  t127 := Tryd.underlying84
  a127 := Tryd.isAgg84
  z127 := Tryd.sizeOf84
  v127 := Tryd.zeroValue84
  t5 := Tryd.underlying5
  a5 := Tryd.isAgg5
  z5 := Tryd.sizeOf5
  v5 := Tryd.zeroValue5
  i0 := by kernel_rfl
  i3 := by kernel_rfl
  i4 := by kernel_rfl
  i5 := by kernel_rfl
  i9 := by kernel_rfl
  i37 := by kernel_rfl
  i127 := by kernel_rfl }
open Go.RowKit in
/-- internal/stringslite.Clone (what strings.Clone calls): "Clone returns a fresh copy of s.": THE SAME BYTES. Of what was there nothing has turned (a new row is laid, and frozen, where s is not empty). (LAID: no walk: one application.) -/
theorem Tryd.stringslite_Clone (s : ByteArray) (w : World) (hlim : s.size ≤ 281474976710656) :
    Calls Tryd.prog 55 #[.string s] w fun e w' => e = .returned (.string s) ∧ Below w.heap.size w w' := Any.stringslite_Clone Tryd.laysM316 s w hlim
def Tryd.laysM176_ren : Go.Shelf.Ren := ⟨fun | 176 => 73 | 249 => 82 | 288 => 87 | 283 => 91 | 284 => 92 | 285 => 93 | 286 => 94 | 129 => 100 | 317 => 99 | 318 => 101 | 319 => 102 | 320 => 103 | 337 => 106 | 338 => 107 | n => n, fun | 37 => 28 | 2 => 2 | 3 => 3 | 53 => 120 | 4 => 4 | 9 => 9 | 171 => 125 | 0 => 0 | 173 => 128 | 212 => 132 | 51 => 22 | 5 => 5 | 20 => 20 | 213 => 133 | 46 => 71 | 232 => 138 | 233 => 139 | n => n, fun | 17 => 6 | 18 => 7 | 19 => 8 | n => n⟩
theorem Tryd.laysM176 : Go.Proofs.LaysM.n176 Tryd.prog Tryd.laysM176_ren := {
  mixed := by kernel_rfl
  f129 := Tryd.func100.trans (congrArg some (by kernel_rfl))
  f176 := Tryd.func73.trans (congrArg some (by kernel_rfl))
  f249 := Tryd.func82.trans (congrArg some (by kernel_rfl))
  f283 := Tryd.func91.trans (congrArg some (by kernel_rfl))
  f284 := Tryd.func92.trans (congrArg some (by kernel_rfl))
  f285 := Tryd.func93.trans (congrArg some (by kernel_rfl))
  f286 := Tryd.func94.trans (congrArg some (by kernel_rfl))
  f288 := Tryd.func87.trans (congrArg some (by kernel_rfl))
  f317 := Tryd.func99.trans (congrArg some (by kernel_rfl))
  f318 := Tryd.func101.trans (congrArg some (by kernel_rfl))
  f319 := Tryd.func102.trans (congrArg some (by kernel_rfl))
  f320 := Tryd.func103.trans (congrArg some (by kernel_rfl))
  f337 := Tryd.func106.trans (congrArg some (by kernel_rfl))
  f338 := Tryd.func107.trans (congrArg some (by kernel_rfl))
  t0 := Tryd.underlying0
  a0 := Tryd.isAgg0
  z0 := Tryd.sizeOf0
  v0 := Tryd.zeroValue0
  t2 := Tryd.underlying2
  a2 := Tryd.isAgg2
  z2 := Tryd.sizeOf2
  v2 := Tryd.zeroValue2
  t3 := Tryd.underlying3
  a3 := Tryd.isAgg3
  z3 := Tryd.sizeOf3
  v3 := Tryd.zeroValue3
  t4 := Tryd.underlying4
  a4 := Tryd.isAgg4
  z4 := Tryd.sizeOf4
  v4 := Tryd.zeroValue4
  t5 := Tryd.underlying5
  a5 := Tryd.isAgg5
  z5 := Tryd.sizeOf5
  v5 := Tryd.zeroValue5
  t9 := Tryd.underlying9
  a9 := Tryd.isAgg9
  z9 := Tryd.sizeOf9
  v9 := Tryd.zeroValue9
  t20 := Tryd.underlying20
  a20 := Tryd.isAgg20
  z20 := Tryd.sizeOf20
  v20 := Tryd.zeroValue20
  t37 := Tryd.underlying28
  a37 := Tryd.isAgg28
  z37 := Tryd.sizeOf28
  v37 := Tryd.zeroValue28
  t46 := Tryd.underlying71
  a46 := Tryd.isAgg71
  z46 := Tryd.sizeOf71
  v46 := Tryd.zeroValue71
  t51 := Tryd.underlying22
  a51 := Tryd.isAgg22
  z51 := Tryd.sizeOf22
  v51 := Tryd.zeroValue22
  t53 := Tryd.underlying120
  a53 := Tryd.isAgg120
  z53 := Tryd.sizeOf120
  v53 := Tryd.zeroValue120
  t171 := Tryd.underlying125
  a171 := Tryd.isAgg125
  z171 := Tryd.sizeOf125
  v171 := Tryd.zeroValue125
  t173 := Tryd.underlying128
  a173 := Tryd.isAgg128
  z173 := Tryd.sizeOf128
  v173 := Tryd.zeroValue128
  t212 := Tryd.underlying132
  a212 := Tryd.isAgg132
  z212 := Tryd.sizeOf132
  v212 := Tryd.zeroValue132
  t213 := Tryd.underlying133
  a213 := Tryd.isAgg133
  z213 := Tryd.sizeOf133
  t232 := Tryd.underlying138
  a232 := Tryd.isAgg138
  z232 := Tryd.sizeOf138
  v232 := Tryd.zeroValue138
  t233 := Tryd.underlying139
  a233 := Tryd.isAgg139
  z233 := Tryd.sizeOf139
  v233 := Tryd.zeroValue139
  g17 := by kernel_rfl
  g18 := by kernel_rfl
  g19 := by kernel_rfl
  i0 := by kernel_rfl
  i2 := by kernel_rfl
  i3 := by kernel_rfl
  i4 := by kernel_rfl
  i5 := by kernel_rfl
  i9 := by kernel_rfl
  i20 := by kernel_rfl
  i37 := by kernel_rfl
  i46 := by kernel_rfl
  i51 := by kernel_rfl
  i53 := by kernel_rfl
  i171 := by kernel_rfl
  i173 := by kernel_rfl
  i212 := by kernel_rfl
  i232 := by kernel_rfl
  i233 := by kernel_rfl
  m17 := by kernel_rfl
  m18 := by kernel_rfl
  m19 := by kernel_rfl }
open Go.RowKit Go.Sort Go.Lib in
/-- strconv.AppendInt: "AppendInt appends the string form of the integer i, as generated by FormatInt, to dst and returns the extended buffer.": AT BASE 10: WHAT COMES BACK OWNS dst's CELLS AND, BEHIND THEM, i's DECIMAL NUMERAL ('Lib.itoa i': at most 20 bytes), for every int64. Below the call's own blocks nothing has turned. (LAID: no walk: one application.) -/
theorem Tryd.strconv_AppendInt_10 (B n : Nat) (i : Int) (h0 : -9223372036854775808 ≤ i) (h1 : i ≤ 9223372036854775807) (sv : Value) (xs : List Value) (w : World) (hown : w.ownsRow B 5 1 sv n xs) (hBw : B ≤ w.heap.size) (hlim : n + 21 ≤ 140737488355328) (htab : Lib.TabBelow Tryd.prog B w "internal/strconv.uint64pow10" .u64 Lib.pow10Tab) :
    Calls Tryd.prog 73 #[sv, .int .i64 i, .int .i64 10] w fun e w' => ∃ v', e = .returned v' ∧ w'.ownsRow B 5 1 v' (n + (Lib.itoa i).length) (xs ++ Lib.byteCells (Lib.itoa i)) ∧ Below B w w' ∧ Lib.OthersKept 5 none w w' := Any.strconv_AppendInt_10 Tryd.laysM176 B n i h0 h1 sv xs w hown hBw hlim htab
def Tryd.lays146_ren : Go.Shelf.Ren := ⟨fun | 146 => 64 | 221 => 75 | 268 => 83 | 138 => 84 | 143 => 85 | 195 => 88 | 197 => 66 | 218 => 89 | 219 => 90 | 260 => 77 | 217 => 95 | 225 => 96 | 224 => 97 | 267 => 98 | 266 => 104 | 314 => 105 | n => n, fun | 9 => 9 | 31 => 87 | 3 => 3 | 4 => 4 | 0 => 0 | 105 => 89 | 21 => 21 | 5 => 5 | 46 => 71 | 119 => 112 | 139 => 115 | 138 => 114 | 146 => 135 | 51 => 22 | n => n, fun | 1 => 5 | 3 => 3 | 4 => 4 | n => n⟩
theorem Tryd.lays146 : Go.Proofs.Lays.n146 Tryd.prog Tryd.lays146_ren := {
  mixed := by kernel_rfl
  f138 := Tryd.func84.trans (congrArg some (by kernel_rfl))
  f143 := Tryd.func85.trans (congrArg some (by kernel_rfl))
  f146 := Tryd.func64.trans (congrArg some (by kernel_rfl))
  f195 := Tryd.func88.trans (congrArg some (by kernel_rfl))
  f197 := Tryd.func66.trans (congrArg some (by kernel_rfl))
  f217 := Tryd.func95.trans (congrArg some (by kernel_rfl))
  f218 := Tryd.func89.trans (congrArg some (by kernel_rfl))
  f219 := Tryd.func90.trans (congrArg some (by kernel_rfl))
  f221 := Tryd.func75.trans (congrArg some (by kernel_rfl))
  f224 := Tryd.func97.trans (congrArg some (by kernel_rfl))
  f225 := Tryd.func96.trans (congrArg some (by kernel_rfl))
  f260 := Tryd.func77.trans (congrArg some (by kernel_rfl))
  f266 := Tryd.func104.trans (congrArg some (by kernel_rfl))
  f267 := Tryd.func98.trans (congrArg some (by kernel_rfl))
  f268 := Tryd.func83.trans (congrArg some (by kernel_rfl))
  f314 := Tryd.func105.trans (congrArg some (by kernel_rfl))
  t0 := Tryd.underlying0
  a0 := Tryd.isAgg0
  z0 := Tryd.sizeOf0
  v0 := Tryd.zeroValue0
  t3 := Tryd.underlying3
  a3 := Tryd.isAgg3
  z3 := Tryd.sizeOf3
  v3 := Tryd.zeroValue3
  t4 := Tryd.underlying4
  a4 := Tryd.isAgg4
  z4 := Tryd.sizeOf4
  v4 := Tryd.zeroValue4
  t5 := Tryd.underlying5
  a5 := Tryd.isAgg5
  z5 := Tryd.sizeOf5
  v5 := Tryd.zeroValue5
  t9 := Tryd.underlying9
  a9 := Tryd.isAgg9
  z9 := Tryd.sizeOf9
  v9 := Tryd.zeroValue9
  t21 := Tryd.underlying21
  a21 := Tryd.isAgg21
  z21 := Tryd.sizeOf21
  v21 := Tryd.zeroValue21
  t31 := Tryd.underlying87
  a31 := Tryd.isAgg87
  z31 := Tryd.sizeOf87
  v31 := Tryd.zeroValue87
  t46 := Tryd.underlying71
  a46 := Tryd.isAgg71
  z46 := Tryd.sizeOf71
  v46 := Tryd.zeroValue71
  t51 := Tryd.underlying22
  a51 := Tryd.isAgg22
  z51 := Tryd.sizeOf22
  v51 := Tryd.zeroValue22
  t105 := Tryd.underlying89
  a105 := Tryd.isAgg89
  z105 := Tryd.sizeOf89
  v105 := Tryd.zeroValue89
  t119 := Tryd.underlying112
  a119 := Tryd.isAgg112
  z119 := Tryd.sizeOf112
  t138 := Tryd.underlying114
  a138 := Tryd.isAgg114
  z138 := Tryd.sizeOf114
  v138 := Tryd.zeroValue114
  t139 := Tryd.underlying115
  a139 := Tryd.isAgg115
  z139 := Tryd.sizeOf115
  v139 := Tryd.zeroValue115
  t146 := Tryd.underlying135
  a146 := Tryd.isAgg135
  z146 := Tryd.sizeOf135
  v146 := Tryd.zeroValue135
  g1 := by kernel_rfl
  g3 := by kernel_rfl
  g4 := by kernel_rfl }
open Go.RowKit Go.Lib in
/-- strings.Split. (LAID: no walk: one application.) -/
theorem Tryd.strings_Split (s sep : ByteArray) (m : Int) (w : World) (hs : s.size < 4294967281) (hm : w.cell? ⟨5, 0, none⟩ = some (.int .i64 m)) (h1 : 1 ≤ sep.size) :
    Calls Tryd.prog 64 #[.string s, .string sep] w fun e w' =>
      e = .returned (.slice (some ⟨w.heap.size, 0, none⟩) (Lib.countB s sep + 1) (Lib.countB s sep + 1)) ∧ w' = w.alloc (.cells ((Lib.splitB sep 0 (Lib.countB s sep) s).map Value.string).toArray 9) := Any.strings_Split Tryd.lays146 (by kernel_rfl) s sep m w hs hm h1
def Tryd.lays164_ren : Go.Shelf.Ren := ⟨fun | 164 => 61 | 197 => 66 | 239 => 67 | 260 => 77 | 274 => 78 | 275 => 79 | n => n, fun | 9 => 9 | 4 => 4 | 3 => 3 | 5 => 5 | 0 => 0 | 21 => 21 | 105 => 89 | 156 => 100 | 49 => 99 | 157 => 101 | 46 => 71 | 159 => 103 | 162 => 106 | 160 => 104 | 119 => 112 | 139 => 115 | 138 => 114 | 208 => 119 | 51 => 22 | 206 => 117 | n => n, fun | 11 => 0 | 12 => 1 | 13 => 2 | 3 => 3 | 4 => 4 | n => n⟩
theorem Tryd.lays164 : Go.Proofs.Lays.n164 Tryd.prog Tryd.lays164_ren := {
  mixed := by kernel_rfl
  f164 := Tryd.func61.trans (congrArg some (by kernel_rfl))
  f197 := Tryd.func66.trans (congrArg some (by kernel_rfl))
  f239 := Tryd.func67.trans (congrArg some (by kernel_rfl))
  f260 := Tryd.func77.trans (congrArg some (by kernel_rfl))
  f274 := Tryd.func78.trans (congrArg some (by kernel_rfl))
  f275 := Tryd.func79.trans (congrArg some (by kernel_rfl))
  t0 := Tryd.underlying0
  a0 := Tryd.isAgg0
  z0 := Tryd.sizeOf0
  v0 := Tryd.zeroValue0
  t3 := Tryd.underlying3
  a3 := Tryd.isAgg3
  z3 := Tryd.sizeOf3
  v3 := Tryd.zeroValue3
  t4 := Tryd.underlying4
  a4 := Tryd.isAgg4
  z4 := Tryd.sizeOf4
  v4 := Tryd.zeroValue4
  t5 := Tryd.underlying5
  a5 := Tryd.isAgg5
  z5 := Tryd.sizeOf5
  v5 := Tryd.zeroValue5
  t9 := Tryd.underlying9
  a9 := Tryd.isAgg9
  z9 := Tryd.sizeOf9
  v9 := Tryd.zeroValue9
  t21 := Tryd.underlying21
  a21 := Tryd.isAgg21
  z21 := Tryd.sizeOf21
  v21 := Tryd.zeroValue21
  t46 := Tryd.underlying71
  a46 := Tryd.isAgg71
  z46 := Tryd.sizeOf71
  v46 := Tryd.zeroValue71
  t49 := Tryd.underlying99
  a49 := Tryd.isAgg99
  z49 := Tryd.sizeOf99
  v49 := Tryd.zeroValue99
  t51 := Tryd.underlying22
  a51 := Tryd.isAgg22
  z51 := Tryd.sizeOf22
  v51 := Tryd.zeroValue22
  t105 := Tryd.underlying89
  a105 := Tryd.isAgg89
  z105 := Tryd.sizeOf89
  v105 := Tryd.zeroValue89
  t119 := Tryd.underlying112
  a119 := Tryd.isAgg112
  z119 := Tryd.sizeOf112
  t138 := Tryd.underlying114
  a138 := Tryd.isAgg114
  z138 := Tryd.sizeOf114
  v138 := Tryd.zeroValue114
  t139 := Tryd.underlying115
  a139 := Tryd.isAgg115
  z139 := Tryd.sizeOf115
  v139 := Tryd.zeroValue115
  t156 := Tryd.underlying100
  a156 := Tryd.isAgg100
  z156 := Tryd.sizeOf100
  t157 := Tryd.underlying101
  a157 := Tryd.isAgg101
  z157 := Tryd.sizeOf101
  v157 := Tryd.zeroValue101
  t159 := Tryd.underlying103
  a159 := Tryd.isAgg103
  z159 := Tryd.sizeOf103
  v159 := Tryd.zeroValue103
  t160 := Tryd.underlying104
  a160 := Tryd.isAgg104
  z160 := Tryd.sizeOf104
  v160 := Tryd.zeroValue104
  t162 := Tryd.underlying106
  a162 := Tryd.isAgg106
  z162 := Tryd.sizeOf106
  v162 := Tryd.zeroValue106
  t206 := Tryd.underlying117
  a206 := Tryd.isAgg117
  z206 := Tryd.sizeOf117
  v206 := Tryd.zeroValue117
  t208 := Tryd.underlying119
  a208 := Tryd.isAgg119
  z208 := Tryd.sizeOf119
  v208 := Tryd.zeroValue119
  g3 := by kernel_rfl
  g4 := by kernel_rfl
  g11 := by kernel_rfl
  g12 := by kernel_rfl
  g13 := by kernel_rfl }
open Go.RowKit Go.Lib in
theorem Tryd.strings_EqualFold (s t : ByteArray) (w : World) (hs : s.size < 4294967281) (has : ∀ (j : Nat) b, s.data.toList[j]? = some b → b.toNat < 128) (hat : ∀ (j : Nat) b, t.data.toList[j]? = some b → b.toNat < 128) :
    Calls Tryd.prog 61 #[.string s, .string t] w fun e w' => e = .returned (.bool (Lib.equalFold s.data.toList t.data.toList)) ∧ w' = w := Any.strings_EqualFold Tryd.lays164 s t w hs has hat

end Go.Proofs
namespace Go.Proofs.YtepngemlaiffgaaDoor.nam
open Go.ChangeShapes Go.WideShapes Go.ChangeAt Go.RowKit
open Go.Lib (countB splitB)
set_option linter.unusedVariables false
set_option linter.unusedSimpArgs false

theorem nameByte_any (w : World) (c : Nat) (hc : c < 256) :
    Calls Tryd.prog 76 #[.int .u8 (c : Nat)] w fun e w' => e = .returned (.bool (nameB c)) ∧ w' = w := by
  go_enter Tryd.func76, Tryd.ntmps76
  go_wp2
  all_goals (go_ret; refine ⟨congrArg (fun b => Ending.returned (Value.bool b)) ?_, rfl⟩; rw [Bool.eq_iff_iff]; simp [nameB] at * <;> omega)

theorem part_any (w : World) (s : ByteArray) (hs : s.size ≤ 100000) :
    Calls Tryd.prog 65 #[.string s] w fun e w' => e = .returned (.bool (partL s.data.toList)) ∧ w' = w := by
  go_enter Tryd.func65, Tryd.ntmps65
  go_wp2
  go_loop [6] (fun i => ∃ k : Nat, k ≤ s.size ∧ i = .int .i64 k ∧ Hid (∀ j, j < k → nameB (byt s j) = true)) (fun i => s.size - (intOf i).toNat)
  case atStart => exact ⟨0, Nat.zero_le _, rfl, fun j h => absurd h (Nat.not_lt_zero _)⟩
  case round =>
    obtain ⟨k, hk, rfl, hh⟩ := hrel
    go_wp2_with (go_at_call 76; refine (nameByte_any _ _ (UInt8.toNat_lt _)).mono ?_; rintro e w' ⟨rfl, rfl⟩)
    · have hlt : k < s.size := by assumption
      have h : (!nameB (s[k]).toNat) = true := by assumption
      rw [byt_at] at h
      go_ret
      rw [part_bad s k hlt (by simpa using h)]
      exact ⟨rfl, rfl⟩
    · have hlt : k < s.size := by assumption
      have h : (!nameB (s[k]).toNat) = false := by assumption
      rw [byt_at] at h
      refine ⟨⟨k + 1, hlt, by simp, fun j hj => ?_⟩, by simp [intOf]; omega⟩
      rcases Nat.lt_succ_iff_lt_or_eq.1 hj with h' | rfl
      · exact hh.out j h'
      · simpa using h
    · have hlt : ¬ k < s.size := by assumption
      go_ret
      rw [part_end s (fun j hj => hh.out j (by omega)), Lib.toList_data, Lib.size_eq]
      refine ⟨congrArg (fun b => Ending.returned (Value.bool b)) ?_, rfl⟩
      cases s.data.toList <;> simp

def slash : ByteArray := ⟨#[47]⟩
theorem split_any (w : World) (s : ByteArray) (m : Int) (hs : s.size ≤ 100000) (hm : w.cell? ⟨5, 0, none⟩ = some (.int .i64 m)) :
    Calls Tryd.prog 64 #[.string s, .string ⟨#[47]⟩] w fun e w' => ∃ L : List ByteArray, Hid ((L.all fun t => partL t.data.toList) = goodL s.data.toList) ∧ L.length ≤ 1000000 ∧ e = .returned (.slice (some ⟨w.heap.size, 0, none⟩) L.length L.length) ∧
      Below w.heap.size w w' ∧ (∀ (k : Nat) t, L[k]? = some t → w'.cell? ⟨w.heap.size, k, none⟩ = some (.string t)) ∧ ∀ t ∈ L, t.size ≤ 100000 := by
  refine (Tryd.strings_Split s ⟨#[47]⟩ m w (by omega) hm (by decide)).mono ?_
  rintro e w' ⟨rfl, rfl⟩
  have hl : (splitB ⟨#[47]⟩ 0 (countB s ⟨#[47]⟩) s).length = countB s ⟨#[47]⟩ + 1 := Lib.splitB_all ⟨#[47]⟩ (by decide) 0 _ s rfl
  have hc : countB s ⟨#[47]⟩ ≤ s.size := Lib.countB_le ⟨#[47]⟩ (by decide) s.size s (Nat.le_refl _)
  refine ⟨splitB ⟨#[47]⟩ 0 (countB s ⟨#[47]⟩) s, split_goodB s, by omega, by rw [hl], (Below.refl _ _).alloc (Nat.le_refl _) _, fun k t ht => ?_, fun t ht => ?_⟩
  · simp only [World.cell?]
    rw [heap_alloc_new]
    simp [ht]
  · have := splitB_size _ _ s t ht
    omega

set_option maxHeartbeats 1600000 in
theorem name_any (w : World) (s : ByteArray) (m : Int) (hs : s.size ≤ 100000) (hm : w.cell? ⟨5, 0, none⟩ = some (.int .i64 m)) :
    Calls Tryd.prog 60 #[.string s] w fun e w' => e = .returned (.bool (normOk s)) ∧ Below w.heap.size w w' := by
  by_cases h60 : s.size ≤ 60
  · have e60 : normOk s = goodL s.data.toList := by simp [normOk, h60]
    rw [e60]
    go_enter Tryd.func60, Tryd.ntmps60
    go_wp2_with (go_at_call 64; refine (split_any w s m hs hm).mono ?_; rintro e w1 ⟨L, hL, hlen, rfl, hb, hcell, hsz⟩; have HC := Lib.hid hcell; clear hcell)
    go_loop [11] (fun i => ∃ k : Nat, k ≤ L.length ∧ i = .int .i64 k ∧ Hid (∀ (j : Nat) t, L[j]? = some t → j < k → partL t.data.toList = true)) (fun i => L.length - (intOf i).toNat)
    case atStart => exact ⟨0, Nat.zero_le _, rfl, fun j t _ h => absurd h (Nat.not_lt_zero _)⟩
    case round =>
      obtain ⟨k, hk, rfl, hh⟩ := hrel
      by_cases hkl : k < L.length
      · obtain ⟨t, ht⟩ : ∃ t, L[k]? = some t := ⟨_, List.getElem?_eq_getElem hkl⟩
        have hc := HC.out k t ht
        have hts := hsz t (List.mem_of_getElem? ht)
        have HT := Lib.hid ht
        clear ht
        go_wp2_with (go_at_call 65; refine (part_any _ t hts).mono ?_; rintro e w2 ⟨rfl, rfl⟩)
        · have h : (!partL t.data.toList) = true := by assumption
          go_ret
          refine ⟨congrArg (fun b => Ending.returned (Value.bool b)) ?_, hb⟩
          rw [← hL.out]
          symm
          rw [List.all_eq_false]
          exact ⟨t, List.mem_of_getElem? HT.out, by simpa using h⟩
        · have h : (!partL t.data.toList) = false := by assumption
          refine ⟨⟨k + 1, hkl, by simp, fun j u hu hj => ?_⟩, by simp [intOf]; omega⟩
          rcases Nat.lt_succ_iff_lt_or_eq.1 hj with h' | rfl
          · exact hh.out j u hu h'
          · rw [HT.out] at hu
            cases hu
            simpa using h
      · go_wp2
        go_ret
        refine ⟨congrArg (fun b => Ending.returned (Value.bool b)) ?_, hb⟩
        rw [← hL.out]
        symm
        rw [List.all_eq_true]
        intro t ht
        obtain ⟨j, hj⟩ := List.mem_iff_getElem?.1 ht
        exact hh.out j t hj (by have := (List.getElem?_eq_some_iff.1 hj).1; omega)
  · have e60 : normOk s = false := by simp [normOk, h60]
    rw [e60]
    go_enter Tryd.func60, Tryd.ntmps60
    go_wp2
    go_ret
    exact ⟨rfl, Below.refl _ _⟩

theorem clone_any (w : World) (s : ByteArray) (hs : s.size ≤ 100000) :
    Calls Tryd.prog 44 #[.string s] w fun e w' => e = .returned (.string s) ∧ Below w.heap.size w w' := by
  go_enter Tryd.func44, Tryd.ntmps44
  go_wp2_with (go_at_call 55; refine (Tryd.stringslite_Clone s w (by omega)).mono ?_; rintro e w1 ⟨rfl, hb⟩)
  go_ret
  exact ⟨rfl, hb⟩

theorem fold_any (w : World) (s : ByteArray) (hs : s.size ≤ 100000) (hn : normOk s = true) :
    Calls Tryd.prog 61 #[.string s, .string ⟨#[73, 78, 66, 79, 88]⟩] w fun e w' => e = .returned (.bool (alike s inbox)) ∧ w' = w := by
  refine (Tryd.strings_EqualFold s INBOX w (by omega) (normOk_ascii s hn) INBOX_ascii).mono ?_
  rintro e w' ⟨rfl, rfl⟩
  rw [fold_inbox]
  exact ⟨rfl, rfl⟩

theorem norm_any (w : World) (s : ByteArray) (m : Int) (hs : s.size ≤ 100000) (hm : w.cell? ⟨5, 0, none⟩ = some (.int .i64 m)) :
    Calls Tryd.prog 56 #[.string s] w fun e w' => e = .returned (.tuple #[.string (normS s), .bool (normOk s)]) ∧ Below w.heap.size w w' := by
  unfold normS
  cases hn : normOk s
  · simp only [Bool.false_eq_true, if_false]
    go_enter Tryd.func56, Tryd.ntmps56
    go_wp2_with (go_at_call 60; refine (name_any w s m hs hm).mono ?_; rintro e w1 ⟨rfl, hb⟩; rw [hn])
    go_ret2
    exact ⟨rfl, hb⟩
  · simp only [if_true]
    cases ha : alike s inbox
    · simp only [Bool.false_eq_true, if_false]
      go_enter Tryd.func56, Tryd.ntmps56
      go_wp2_with (first | (go_at_call 60; refine (name_any w s m hs hm).mono ?_; rintro e w1 ⟨rfl, hb⟩; rw [hn]) | (go_at_call 61; refine (fold_any _ s hs hn).mono ?_; rintro e w2 ⟨rfl, rfl⟩; rw [ha]) | (go_at_call 44; refine (clone_any _ s hs).mono ?_; rintro e w3 ⟨rfl, hb3⟩))
      go_ret2
      exact ⟨rfl, hb.trans (hb3.mono hb.size)⟩
    · simp only [if_true]
      go_enter Tryd.func56, Tryd.ntmps56
      go_wp2_with (first | (go_at_call 60; refine (name_any w s m hs hm).mono ?_; rintro e w1 ⟨rfl, hb⟩; rw [hn]) | (go_at_call 61; refine (fold_any _ s hs hn).mono ?_; rintro e w2 ⟨rfl, rfl⟩; rw [ha]))
      go_ret2
      exact ⟨rfl, hb⟩

theorem small_any (w : World) (c : Nat) (hc : c < 256) :
    Calls Tryd.prog 47 #[.int .u8 (c : Nat)] w fun e w' => e = .returned (.int .u8 (low c : Nat)) ∧ w' = w := by
  unfold low
  by_cases h : 65 ≤ c ∧ c ≤ 90
  · rw [if_pos h]
    go_enter Tryd.func47, Tryd.ntmps47
    go_wp2
    go_ret
    exact ⟨by congr 1, rfl⟩
  · rw [if_neg h]
    go_enter Tryd.func47, Tryd.ntmps47
    go_wp2
    all_goals first | (exfalso; omega) | (go_ret; exact ⟨rfl, rfl⟩)

/-- The world has drawn, and nothing else. -/
def Drew (w w' : World) : Prop := ∃ n, w' = w.drewN n
theorem Drew.refl (w : World) : Drew w w := ⟨0, rfl⟩
theorem Drew.drewN {w w' : World} (h : Drew w w') (q : Nat) : Drew w (w'.drewN q) := by
  obtain ⟨n, rfl⟩ := h
  exact ⟨n + q, by rw [World.drewN_drewN]⟩
theorem Drew.below {w w' : World} (h : Drew w w') (B : Nat) : Below B w w' := by
  obtain ⟨n, rfl⟩ := h
  exact ⟨rfl, rfl, rfl, Nat.le_refl _, fun _ _ => rfl⟩

set_option maxHeartbeats 1600000 in
theorem alike_any (w : World) (s t : ByteArray) (hs : s.size ≤ 100000) (ht : t.size ≤ 100000) :
    Calls Tryd.prog 48 #[.string s, .string t] w fun e w' => e = .returned (.bool (alike s t)) ∧ Drew w w' := by
  by_cases hst : s.size = t.size
  · have HST := Lib.hid hst
    have hne : ((s.size : Int) != (t.size : Int)) = false := by simp [hst]
    clear hst
    go_enter Tryd.func48, Tryd.ntmps48
    go_wp2
    go_loopw [13] (fun i wr => ∃ k : Nat, k ≤ s.size ∧ i = .int .i64 k ∧ Hid (∀ j, j < k → (low (byt s j) == low (byt t j)) = true) ∧ Hid (Drew w wr)) (fun i _ => s.size - (intOf i).toNat)
    case atStart => exact ⟨0, Nat.zero_le _, rfl, fun j h => absurd h (Nat.not_lt_zero _), Drew.refl _⟩
    case round =>
      obtain ⟨k, hk, rfl, hh, hd⟩ := hrel
      by_cases hkl : k < s.size
      · have hkt : k < t.size := by have := HST.out; omega
        go_wp2
        have k1 : (0 : Int) ≤ (k : Int) := by omega
        have k2 : (k : Int) < (s.size : Int) := by omega
        have k3 : (k : Int) < (t.size : Int) := by omega
        go_quiet ((go_at_call 47; exact Calls.quiet_of_same (small_any _ _ (UInt8.toNat_lt _))))
        simp only [byt_at]
        cases hb : (low (byt s k) == low (byt t k))
        · have hb' : (((low (byt s k) : Nat) : Int) != ((low (byt t k) : Nat) : Int)) = true := by
            rw [bne_iff_ne]
            simp at hb
            omega
          go_wp2
          go_ret
          rw [alike_false s t k hkl hb]
          exact ⟨rfl, hd.out.drewN _⟩
        · have hb' : (((low (byt s k) : Nat) : Int) != ((low (byt t k) : Nat) : Int)) = false := by
            simp at hb
            simp [hb]
          have HB := Lib.hid hb
          clear hb
          go_wp2
          refine ⟨⟨k + 1, hkl, by simp, fun j hj => ?_, hd.out.drewN _⟩, by simp [intOf]; omega⟩
          rcases Nat.lt_succ_iff_lt_or_eq.1 hj with h' | rfl
          · exact hh.out j h'
          · exact HB.out
      · go_wp2
        go_ret
        rw [alike_true s t HST.out fun j hj => hh.out j (by omega)]
        exact ⟨rfl, hd.out⟩
  · rw [alike_size s t hst]
    go_enter Tryd.func48, Tryd.ntmps48
    go_wp2
    all_goals first | (exfalso; omega) | (go_ret; exact ⟨rfl, Drew.refl _⟩)
end Go.Proofs.YtepngemlaiffgaaDoor.nam
namespace Go.Proofs.YtepngemlaiffgaaDoor.nam
open Go.ChangeShapes Go.WideShapes Go.ChangeAt Go.RowKit
set_option linter.unusedVariables false
set_option linter.unusedSimpArgs false

theorem normS_bad (s : ByteArray) (h : normOk s = false) : normS s = ⟨#[]⟩ := by
  unfold normS
  rw [h]; rfl
theorem ok_bad (s : ByteArray) (h : goodL s.data.toList = false) : normOk s = false := by
  unfold normOk
  rw [h, Bool.and_false]

set_option maxHeartbeats 1600000 in
theorem rNorm_any (w : World) (s : ByteArray) (hs : s.size ≤ 100000) :
    Calls Tryd.prog 27 #[.string s] w fun e w' => e = .returned (.tuple #[.string (normS s), .bool (normOk s)]) ∧ Drew w w' := by
  go_enter Tryd.func27, Tryd.ntmps27
  go_wp2
  go_loop [9, 4] (fun vi vl => ∃ (k l : Nat), k ≤ s.size ∧ l < 256 ∧ vi = .int .i64 k ∧ vl = .int .u8 l ∧ Hid (runL true (s.data.toList.take k) = some (decide (l = 47)))) (fun vi _ => s.size - (intOf vi).toNat)
  case atStart => exact ⟨0, 47, Nat.zero_le _, by decide, rfl, rfl, show runL true (s.data.toList.take 0) = some (decide (47 = 47)) by simp [runL]⟩
  case round =>
    obtain ⟨k, l, hk, hl, rfl, rfl, hh⟩ := hrel
    by_cases hkl : k < s.size
    · obtain ⟨c, hc⟩ : ∃ c, byt s k = c := ⟨_, rfl⟩
      have hc256 : c < 256 := hc ▸ byt_lt s k
      have e1 : (s[k]).toNat = c := by rw [byt_at]; exact hc
      have HC := Lib.hid hc
      clear hc
      by_cases h47 : c = 47
      · subst h47
        by_cases hl47 : l = 47
        · subst hl47
          have hb := ok_bad s (run_stroke_stroke s k hkl (hh.out.trans (by simp)) HC.out)
          have hb2 := normS_bad s hb
          go_wp2
          go_ret2
          first | exact ⟨rfl, Drew.refl _⟩ | (rw [hb, hb2]; exact ⟨rfl, Drew.refl _⟩)
        · have hr := run_stroke s k hkl (hh.out.trans (by simp [hl47])) HC.out
          have HR := Lib.hid hr
          clear hr
          have hl47' : ((l : Int) == 47) = false := by simp; omega
          go_wp2
          exact ⟨⟨k + 1, 47, hkl, by decide, by simp, rfl, HR.out⟩, by simp [intOf]; omega⟩
      · obtain ⟨lc, hlc⟩ : ∃ lc, low c = lc := ⟨_, rfl⟩
        have hsm := fun w => small_any w c hc256
        rw [hlc] at hsm
        cases hn : nameB c
        · have hb := ok_bad s (run_bad s k hkl _ hh.out (by rw [HC.out]; exact h47) (by rw [HC.out]; exact hn))
          have hb2 := normS_bad s hb
          have h1 : c ≠ 46 ∧ c ≠ 95 ∧ c ≠ 45 ∧ ¬ (97 ≤ lc ∧ lc ≤ 122) ∧ ¬ (48 ≤ c ∧ c ≤ 57) := by
            unfold nameB at hn
            unfold low at hlc
            simp only [decide_eq_false_iff_not] at hn
            split at hlc <;> omega
          have g1 : ((c : Int) == 46) = false := by simp; omega
          have g2 : ((c : Int) == 95) = false := by simp; omega
          have g3 : ((c : Int) == 45) = false := by simp; omega
          have g4 : ((c : Int) == 47) = false := by simp; omega
          clear hn hlc
          go_wp2_with (go_at_call 47; refine (hsm _).mono ?_; rintro e w' ⟨rfl, rfl⟩)
          all_goals first
            | (exfalso; simp at *; omega)
            | (go_ret2; first | exact ⟨rfl, Drew.refl _⟩ | (rw [hb, hb2]; exact ⟨rfl, Drew.refl _⟩))
        · have hr := run_good s k hkl _ hh.out (by rw [HC.out]; exact h47) (by rw [HC.out]; exact hn)
          have hr' : runL true (s.data.toList.take (k + 1)) = some (decide (c = 47)) := by rw [hr]; simp [h47]
          have HR := Lib.hid hr'
          clear hr hr'
          have h1 : c = 46 ∨ c = 95 ∨ c = 45 ∨ (97 ≤ lc ∧ lc ≤ 122) ∨ (48 ≤ c ∧ c ≤ 57) := by
            unfold nameB at hn
            unfold low at hlc
            simp only [decide_eq_true_eq] at hn
            split at hlc <;> omega
          have H1 := Lib.hid h1
          clear hn hlc h1
          have g4 : ((c : Int) == 47) = false := by simp; omega
          go_wp2_with (go_at_call 47; refine (hsm _).mono ?_; rintro e w' ⟨rfl, rfl⟩)
          all_goals first
            | exact ⟨⟨k + 1, c, hkl, hc256, by simp, by first | rfl | (congr 1; omega), HR.out⟩, by simp [intOf]; omega⟩
            | (exfalso; have h1 := H1.out; simp at *; omega)
    · have hend := run_end s _ (by rw [show s.size = k by omega]; exact hh.out)
      have hin : (⟨#[105, 110, 98, 111, 120]⟩ : ByteArray) = inbox := rfl
      have hk60 : normOk s = (decide (s.size ≤ 60) && !decide (l = 47)) := by unfold normOk; rw [hend]
      by_cases hl47 : l = 47
      · subst hl47
        have hb : normOk s = false := by rw [hk60]; simp
        have hb2 := normS_bad s hb
        clear hk60
        go_wp2
        go_ret2
        first | exact ⟨rfl, Drew.refl _⟩ | (rw [hb, hb2]; exact ⟨rfl, Drew.refl _⟩)
      · have hl47' : ((l : Int) == 47) = false := by simp; omega
        by_cases h60 : s.size ≤ 60
        · have hb : normOk s = true := by rw [hk60]; simp [h60, hl47]
          have hb2 : normS s = if alike s inbox then INBOX else s := by unfold normS; rw [hb]; rfl
          clear hk60
          cases ha : alike s inbox
          · have hb3 : normS s = s := by rw [hb2, ha]; rfl
            clear hb2
            have HA := Lib.hid ha
            clear ha
            go_wp2_with (go_at_call 48; refine (alike_any _ s inbox hs (by decide)).mono ?_; rintro e w' ⟨rfl, hd⟩; rw [HA.out])
            go_ret2
            first | exact ⟨rfl, hd⟩ | (rw [hb, hb3]; exact ⟨rfl, hd⟩)
          · have hb3 : normS s = INBOX := by rw [hb2, ha]; rfl
            clear hb2
            have HA := Lib.hid ha
            clear ha
            go_wp2_with (go_at_call 48; refine (alike_any _ s inbox hs (by decide)).mono ?_; rintro e w' ⟨rfl, hd⟩; rw [HA.out])
            go_ret2
            first | exact ⟨rfl, hd⟩ | (rw [hb, hb3]; exact ⟨rfl, hd⟩)
        · have hb : normOk s = false := by rw [hk60]; simp [h60]
          have hb2 := normS_bad s hb
          clear hk60
          go_wp2
          go_ret2
          first | exact ⟨rfl, Drew.refl _⟩ | (rw [hb, hb2]; exact ⟨rfl, Drew.refl _⟩)
end Go.Proofs.YtepngemlaiffgaaDoor.nam
namespace Go.Proofs.YtepngemlaiffgaaDoor.nam
open Go.ChangeShapes Go.WideShapes Go.ChangeAt Go.RowKit
set_option linter.unusedVariables false
set_option linter.unusedSimpArgs false

/-- What the library's search asks of its own variable. -/
def Room (w : World) : Prop := ∃ m, w.cell? ⟨5, 0, none⟩ = some (.int .i64 m)
theorem Room.below {w w' : World} (h : Room w) (hb : Below w.heap.size w w') : Room w' := by
  obtain ⟨m, hm⟩ := h
  exact ⟨m, (hb.cell (block_lt_of_cell hm)).trans hm⟩

theorem normR (w : World) (s : ByteArray) (hs : s.size ≤ 100000) (hr : Room w) :
    Calls Tryd.prog 56 #[.string s] w fun e w' => e = .returned (.tuple #[.string (normS s), .bool (normOk s)]) ∧ Below w.heap.size w w' := by
  obtain ⟨m, hm⟩ := hr
  exact norm_any w s m hs hm

theorem Room.of_shape {w : World} (h : w.ShapedOpen Tryd.prog) : Room w :=
  cell_of_shapedOpen_int (t := 3) (zero := #[.int .i64 0]) h (of_decide_eq_true (by kernel_rfl)) (by kernel_rfl) rfl (by kernel_rfl) (by kernel_rfl) Tryd.underlying3
end Go.Proofs.YtepngemlaiffgaaDoor.nam
