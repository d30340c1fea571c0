/- The names of a disk's files, sorted: the library's own functions as this program bears them. -/
import Derived.Test.YtedhbcaakdfcbaaRows
import Derived.Shelf.SlIter.Nil
import Derived.Shelf.SortM.Plain
import Derived.Shelf.SortM.SortNone
namespace Go.Proofs.Ytedhbcaakdfcbaa.disk
open Go.RowKit Go.Maps Go.Sort Go.Shelf
set_option linter.unusedVariables false

/-- How maps.Keys and its iterator are numbered here. -/
def numK : Ren := ⟨fun | 7 => 36 | 10 => 50 | n => n, fun | 23 => 52 | 26 => 9 | 3 => 64 | 28 => 68 | 27 => 67 | 33 => 49 | n => n, fun n => n⟩
/-- .. slices.Sorted, .. -/
def numS : Ren := ⟨fun | 6 => 35 | 8 => 48 | 9 => 49 | 11 => 52 | n => n, fun | 26 => 9 | 28 => 68 | 24 => 43 | 33 => 49 | n => n, fun n => n⟩
/-- .. and slices.Sort. -/
def numT : Ren := ⟨fun | 6 => 49 | 8 => 54 | 9 => 53 | 19 => 65 | 20 => 66 | 21 => 56 | 22 => 57 | 23 => 58 | 24 => 59 | 25 => 60 | 26 => 61 | 27 => 62 | 28 => 63 | 29 => 64 | 36 => 67 | 31 => 68 | 32 => 69 | 37 => 70 | 38 => 71 | 39 => 72 | 41 => 73 | n => n,
  fun | 27 => 43 | 29 => 9 | 32 => 84 | 26 => 43 | 44 => 95 | 46 => 97 | 36 => 87 | 35 => 86 | 41 => 92 | 53 => 99 | 57 => 103 | 63 => 105 | 64 => 106 | n => n, fun n => n⟩

theorem laysK : SlLaysZ.n7 Try.prog numK where
  mixed := by kernel_rfl
  f7 := ⟨Try.f36.name, by kernel_rfl, by kernel_rfl⟩
  f10 := ⟨Try.f50.name, by kernel_rfl, by kernel_rfl⟩
  t0 := by kernel_rfl
  a0 := fun _ => by kernel_rfl
  z0 := fun _ => by kernel_rfl
  v0 := fun _ => by kernel_rfl
  t4 := by kernel_rfl
  a4 := fun _ => by kernel_rfl
  z4 := fun _ => by kernel_rfl
  v4 := fun _ => by kernel_rfl
  t23 := by kernel_rfl
  a23 := fun _ => by kernel_rfl
  z23 := fun _ => by kernel_rfl
  v23 := fun _ => by kernel_rfl
  t26 := by kernel_rfl
  a26 := fun _ => by kernel_rfl
  z26 := fun _ => by kernel_rfl
  v26 := fun _ => by kernel_rfl
  t27 := by kernel_rfl
  a27 := fun _ => by kernel_rfl
  z27 := fun _ => by kernel_rfl
  v27 := fun _ => by kernel_rfl
  t28 := by kernel_rfl
  a28 := fun _ => by kernel_rfl
  z28 := fun _ => by kernel_rfl
  v28 := fun _ => by kernel_rfl
  t33 := by kernel_rfl
  a33 := fun _ => by kernel_rfl
  z33 := fun _ => by kernel_rfl
  v33 := fun _ => by kernel_rfl
theorem laysS : SlLaysZ.n6 Try.prog numS where
  mixed := by kernel_rfl
  f6 := ⟨Try.f35.name, by kernel_rfl, by kernel_rfl⟩
  f8 := ⟨Try.f48.name, by kernel_rfl, by kernel_rfl⟩
  f11 := ⟨Try.f52.name, by kernel_rfl, by kernel_rfl⟩
  t0 := by kernel_rfl
  a0 := fun _ => by kernel_rfl
  z0 := fun _ => by kernel_rfl
  v0 := fun _ => by kernel_rfl
  t24 := by kernel_rfl
  a24 := fun _ => by kernel_rfl
  z24 := fun _ => by kernel_rfl
  v24 := fun _ => by kernel_rfl
  t26 := by kernel_rfl
  a26 := fun _ => by kernel_rfl
  z26 := fun _ => by kernel_rfl
  v26 := fun _ => by kernel_rfl
  t28 := by kernel_rfl
  a28 := fun _ => by kernel_rfl
  z28 := fun _ => by kernel_rfl
  v28 := fun _ => by kernel_rfl
  i26 := by kernel_rfl
theorem laysT : SlLaysM.n6 Try.prog numT where
  mixed := by kernel_rfl
  f6 := ⟨Try.f49.name, by kernel_rfl, by kernel_rfl⟩
  f8 := by kernel_rfl
  f9 := ⟨Try.f53.name, by kernel_rfl, by kernel_rfl⟩
  f19 := by kernel_rfl
  f20 := by kernel_rfl
  f21 := ⟨Try.f56.name, by kernel_rfl, by kernel_rfl⟩
  f22 := ⟨Try.f57.name, by kernel_rfl, by kernel_rfl⟩
  f23 := ⟨Try.f58.name, by kernel_rfl, by kernel_rfl⟩
  f24 := ⟨Try.f59.name, by kernel_rfl, by kernel_rfl⟩
  f25 := ⟨Try.f60.name, by kernel_rfl, by kernel_rfl⟩
  f26 := ⟨Try.f61.name, by kernel_rfl, by kernel_rfl⟩
  f27 := ⟨Try.f62.name, by kernel_rfl, by kernel_rfl⟩
  f28 := ⟨Try.f63.name, by kernel_rfl, by kernel_rfl⟩
  f29 := ⟨Try.f64.name, by kernel_rfl, by kernel_rfl⟩
  f31 := by kernel_rfl
  f32 := by kernel_rfl
  f36 := ⟨Try.f67.name, by kernel_rfl, by kernel_rfl⟩
  f37 := ⟨Try.f70.name, by kernel_rfl, by kernel_rfl⟩
  f38 := ⟨Try.f71.name, by kernel_rfl, by kernel_rfl⟩
  f39 := ⟨Try.f72.name, by kernel_rfl, by kernel_rfl⟩
  f41 := ⟨Try.f73.name, by kernel_rfl, by kernel_rfl⟩
  t0 := by kernel_rfl
  a0 := fun _ => by kernel_rfl
  z0 := fun _ => by kernel_rfl
  v0 := fun _ => by kernel_rfl
  t3 := by kernel_rfl
  a3 := fun _ => by kernel_rfl
  z3 := fun _ => by kernel_rfl
  v3 := fun _ => by kernel_rfl
  t4 := by kernel_rfl
  a4 := fun _ => by kernel_rfl
  z4 := fun _ => by kernel_rfl
  v4 := fun _ => by kernel_rfl
  t5 := by kernel_rfl
  a5 := fun _ => by kernel_rfl
  z5 := fun _ => by kernel_rfl
  v5 := fun _ => by kernel_rfl
  t9 := by kernel_rfl
  a9 := fun _ => by kernel_rfl
  z9 := fun _ => by kernel_rfl
  v9 := fun _ => by kernel_rfl
  t26 := by kernel_rfl
  a26 := fun _ => by kernel_rfl
  z26 := fun _ => by kernel_rfl
  v26 := fun _ => by kernel_rfl
  t27 := by kernel_rfl
  a27 := fun _ => by kernel_rfl
  z27 := fun _ => by kernel_rfl
  v27 := fun _ => by kernel_rfl
  t29 := by kernel_rfl
  a29 := fun _ => by kernel_rfl
  z29 := fun _ => by kernel_rfl
  v29 := fun _ => by kernel_rfl
  t32 := by kernel_rfl
  a32 := fun _ => by kernel_rfl
  z32 := fun _ => by kernel_rfl
  v32 := fun _ => by kernel_rfl
  t35 := by kernel_rfl
  a35 := fun _ => by kernel_rfl
  z35 := fun _ => by kernel_rfl
  v35 := fun _ => by kernel_rfl
  t36 := by kernel_rfl
  a36 := fun _ => by kernel_rfl
  z36 := fun _ => by kernel_rfl
  v36 := fun _ => by kernel_rfl
  t41 := by kernel_rfl
  a41 := fun _ => by kernel_rfl
  z41 := fun _ => by kernel_rfl
  v41 := fun _ => by kernel_rfl
  t44 := by kernel_rfl
  a44 := fun _ => by kernel_rfl
  z44 := fun _ => by kernel_rfl
  v44 := fun _ => by kernel_rfl
  t46 := by kernel_rfl
  a46 := fun _ => by kernel_rfl
  z46 := fun _ => by kernel_rfl
  v46 := fun _ => by kernel_rfl
  t53 := by kernel_rfl
  a53 := fun _ => by kernel_rfl
  z53 := fun _ => by kernel_rfl
  v53 := fun _ => by kernel_rfl
  t57 := by kernel_rfl
  a57 := fun _ => by kernel_rfl
  z57 := fun _ => by kernel_rfl
  v57 := fun _ => by kernel_rfl
  t63 := by kernel_rfl
  a63 := fun _ => by kernel_rfl
  z63 := fun _ => by kernel_rfl
  v63 := fun _ => by kernel_rfl
  t64 := by kernel_rfl
  a64 := fun _ => by kernel_rfl
  z64 := fun _ => by kernel_rfl
  v64 := fun _ => by kernel_rfl

/-- slices.Sort, within whatever is called. -/
theorem sortsIn (m : Nat) : AnyZ.SortsIn Try.prog numS Fence.wide m :=
  ⟨fun blk off cap ss W hH hblk hsz => callsIn_wide.2 (AnyM.slices_Sort_string laysT blk off cap ss W hH hblk hsz), fun p cap W => callsIn_wide.2 (AnyM.slices_Sort_string_none laysT p cap W)⟩
end Go.Proofs.Ytedhbcaakdfcbaa.disk
