/- slices.Sort of ints, off the library's shelf. -/
import Derived.Test.YtehajgfjdmhdpaaOwnOps
import Derived.Shelf.SortM.Plain
import Derived.Shelf.SortM.SortNone
namespace Go.Proofs.Ytehajgfjdmhdpaa
open Go.RowKit

def renS : Shelf.Ren := ⟨fun x => if x = 5 then 24 else if x = 8 then 28 else if x = 7 then 27 else if x = 19 then 38 else if x = 20 then 39 else if x = 10 then 29 else if x = 11 then 30 else if x = 12 then 31 else if x = 13 then 32 else if x = 14 then 33 else if x = 15 then 34 else if x = 16 then 35 else if x = 17 then 36 else if x = 18 then 37 else if x = 30 then 40 else if x = 31 then 41 else if x = 32 then 42 else if x = 33 then 43 else if x = 34 then 44 else if x = 35 then 45 else if x = 40 then 46 else x, fun x => if x = 23 then 47 else if x = 25 then 3 else if x = 3 then 3 else if x = 32 then 71 else if x = 22 then 47 else if x = 0 then 0 else if x = 44 then 30 else if x = 46 then 31 else if x = 4 then 4 else if x = 36 then 74 else if x = 35 then 73 else if x = 41 then 79 else if x = 5 then 5 else if x = 9 then 9 else if x = 53 then 83 else if x = 57 then 87 else if x = 63 then 89 else if x = 64 then 90 else x, fun x => x⟩
theorem laysS : SlLaysM.n5 Try.prog renS where
  mixed := by kernel_rfl
  f5 := ⟨ "slices.Sort[[]int,int]", by decide, by kernel_rfl⟩
  f7 := ⟨ "slices.pdqsortOrdered[int]", by decide, by kernel_rfl⟩
  f8 := by kernel_rfl
  f10 := ⟨ "slices.insertionSortOrdered[int]", by decide, by kernel_rfl⟩
  f11 := ⟨ "slices.heapSortOrdered[int]", by decide, by kernel_rfl⟩
  f12 := ⟨ "slices.breakPatternsOrdered[int]", by decide, by kernel_rfl⟩
  f13 := ⟨ "slices.choosePivotOrdered[int]", by decide, by kernel_rfl⟩
  f14 := ⟨ "slices.reverseRangeOrdered[int]", by decide, by kernel_rfl⟩
  f15 := ⟨ "slices.partialInsertionSortOrdered[int]", by decide, by kernel_rfl⟩
  f16 := ⟨ "cmp.Less[int]", by decide, by kernel_rfl⟩
  f17 := ⟨ "slices.partitionEqualOrdered[int]", by decide, by kernel_rfl⟩
  f18 := ⟨ "slices.partitionOrdered[int]", by decide, by kernel_rfl⟩
  f19 := by kernel_rfl
  f20 := by kernel_rfl
  f30 := ⟨ "slices.siftDownOrdered[int]", by decide, by kernel_rfl⟩
  f31 := by kernel_rfl
  f32 := by kernel_rfl
  f33 := ⟨ "slices.medianAdjacentOrdered[int]", by decide, by kernel_rfl⟩
  f34 := ⟨ "slices.medianOrdered[int]", by decide, by kernel_rfl⟩
  f35 := ⟨ "cmp.isNaN[int]", by decide, by kernel_rfl⟩
  f40 := ⟨ "slices.order2Ordered[int]", by decide, by kernel_rfl⟩
  t0 := by kernel_rfl
  a0 := fun _ => by kernel_rfl
  z0 := fun _ => by kernel_rfl
  v0 := fun _ => by kernel_rfl
  t3 := by kernel_rfl
  a3 := fun _ => by kernel_rfl
  z3 := fun _ => by kernel_rfl
  v3 := fun _ => by kernel_rfl
  t4 := by kernel_rfl
  a4 := fun _ => by kernel_rfl
  z4 := fun _ => by kernel_rfl
  v4 := fun _ => by kernel_rfl
  t5 := by kernel_rfl
  a5 := fun _ => by kernel_rfl
  z5 := fun _ => by kernel_rfl
  v5 := fun _ => by kernel_rfl
  t9 := by kernel_rfl
  a9 := fun _ => by kernel_rfl
  z9 := fun _ => by kernel_rfl
  v9 := fun _ => by kernel_rfl
  t22 := by kernel_rfl
  a22 := fun _ => by kernel_rfl
  z22 := fun _ => by kernel_rfl
  v22 := fun _ => by kernel_rfl
  t23 := by kernel_rfl
  a23 := fun _ => by kernel_rfl
  z23 := fun _ => by kernel_rfl
  v23 := fun _ => by kernel_rfl
  t25 := by kernel_rfl
  a25 := fun _ => by kernel_rfl
  z25 := fun _ => by kernel_rfl
  v25 := fun _ => by kernel_rfl
  t32 := by kernel_rfl
  a32 := fun _ => by kernel_rfl
  z32 := fun _ => by kernel_rfl
  v32 := fun _ => by kernel_rfl
  t35 := by kernel_rfl
  a35 := fun _ => by kernel_rfl
  z35 := fun _ => by kernel_rfl
  v35 := fun _ => by kernel_rfl
  t36 := by kernel_rfl
  a36 := fun _ => by kernel_rfl
  z36 := fun _ => by kernel_rfl
  v36 := fun _ => by kernel_rfl
  t41 := by kernel_rfl
  a41 := fun _ => by kernel_rfl
  z41 := fun _ => by kernel_rfl
  v41 := fun _ => by kernel_rfl
  t44 := by kernel_rfl
  a44 := fun _ => by kernel_rfl
  z44 := fun _ => by kernel_rfl
  v44 := fun _ => by kernel_rfl
  t46 := by kernel_rfl
  a46 := fun _ => by kernel_rfl
  z46 := fun _ => by kernel_rfl
  v46 := fun _ => by kernel_rfl
  t53 := by kernel_rfl
  a53 := fun _ => by kernel_rfl
  z53 := fun _ => by kernel_rfl
  v53 := fun _ => by kernel_rfl
  t57 := by kernel_rfl
  a57 := fun _ => by kernel_rfl
  z57 := fun _ => by kernel_rfl
  v57 := fun _ => by kernel_rfl
  t63 := by kernel_rfl
  a63 := fun _ => by kernel_rfl
  z63 := fun _ => by kernel_rfl
  v63 := fun _ => by kernel_rfl
  t64 := by kernel_rfl
  a64 := fun _ => by kernel_rfl
  z64 := fun _ => by kernel_rfl
  v64 := fun _ => by kernel_rfl
end Go.Proofs.Ytehajgfjdmhdpaa
