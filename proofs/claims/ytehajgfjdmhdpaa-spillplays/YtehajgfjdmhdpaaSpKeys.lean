/- spill: Pages: all keys of a map, sorted, off the library's shelf. -/
import Derived.Test.YtehajgfjdmhdpaaSpMem
import Derived.Test.YtehajgfjdmhdpaaSortInts
import Derived.Test.YtehajgfjdmhdpaaKeysOf
import Derived.Test.YtehajgfjdmhdpaaInts
namespace Go.Proofs.Ytehajgfjdmhdpaa
open Go.RowKit Go.Maps Go.Sort Go.Shelf

def renP : Shelf.Ren := ⟨fun x => if x = 7 then 21 else if x = 10 then 25 else if x = 6 then 20 else if x = 8 then 23 else if x = 9 then 24 else if x = 11 then 26 else x, fun x => if x = 23 then 53 else if x = 26 then 3 else if x = 3 then 58 else if x = 28 then 62 else if x = 27 then 61 else if x = 33 then 67 else if x = 4 then 4 else if x = 24 then 47 else x, fun x => x⟩
theorem laysP7 : SlLaysZI.n7 Try.prog renP where
  mixed := by kernel_rfl
  f7 := ⟨ "maps.Keys[map[int]thimble/spill.slot,int,thimble/spill.slot]", by decide, by kernel_rfl⟩
  f10 := ⟨ "maps.Keys[map[int]thimble/spill.slot,int,thimble/spill.slot]$1", by decide, by kernel_rfl⟩
  t0 := by kernel_rfl
  a0 := fun _ => by kernel_rfl
  z0 := fun _ => by kernel_rfl
  v0 := fun _ => by kernel_rfl
  t4 := by kernel_rfl
  a4 := fun _ => by kernel_rfl
  z4 := fun _ => by kernel_rfl
  v4 := fun _ => by kernel_rfl
  t23 := by kernel_rfl
  a23 := fun _ => by kernel_rfl
  z23 := fun _ => by kernel_rfl
  v23 := fun _ => by kernel_rfl
  t26 := by kernel_rfl
  a26 := fun _ => by kernel_rfl
  z26 := fun _ => by kernel_rfl
  v26 := fun _ => by kernel_rfl
  t27 := by kernel_rfl
  a27 := fun _ => by kernel_rfl
  z27 := fun _ => by kernel_rfl
  v27 := fun _ => by kernel_rfl
  t28 := by kernel_rfl
  a28 := fun _ => by kernel_rfl
  z28 := fun _ => by kernel_rfl
  v28 := fun _ => by kernel_rfl
  t33 := by kernel_rfl
  a33 := fun _ => by kernel_rfl
  z33 := fun _ => by kernel_rfl
  v33 := fun _ => by kernel_rfl
theorem laysP6 : SlLaysZI.n6 Try.prog renP where
  mixed := by kernel_rfl
  f6 := ⟨ "slices.Sorted[int]", by decide, by kernel_rfl⟩
  f8 := ⟨ "slices.Collect[int]", by decide, by kernel_rfl⟩
  f11 := ⟨ "slices.AppendSeq[[]int,int]", by decide, by kernel_rfl⟩
  t0 := by kernel_rfl
  a0 := fun _ => by kernel_rfl
  z0 := fun _ => by kernel_rfl
  v0 := fun _ => by kernel_rfl
  t24 := by kernel_rfl
  a24 := fun _ => by kernel_rfl
  z24 := fun _ => by kernel_rfl
  v24 := fun _ => by kernel_rfl
  t26 := by kernel_rfl
  a26 := fun _ => by kernel_rfl
  z26 := fun _ => by kernel_rfl
  v26 := fun _ => by kernel_rfl
  t28 := by kernel_rfl
  a28 := fun _ => by kernel_rfl
  z28 := fun _ => by kernel_rfl
  v28 := fun _ => by kernel_rfl
  i26 := by kernel_rfl
theorem sortsP (m : Nat) : AnyZI.SortsIn Try.prog renP Fence.wide m :=
  ⟨fun blk off cap ss W hH hblk hsz => callsIn_wide.2 (AnyM.slices_Sort_int laysS blk off cap ss W hH hblk hsz),
   fun p cap W => callsIn_wide.2 (AnyM.slices_Sort_int_none laysS p cap W)⟩
/-- All pages, rising. -/
def risS (S : Sl) : List Int := (heldS S).mergeSort (fun x y => decide (x ≤ y))
structure PgF (w : World) (S : Sl) (v : Value) (w' : World) : Prop where
  own : w'.ownsRow w.heap.size 3 1 v (risS S).length (numv (risS S))
  grow : Grow w w'
section
variable {w w' : World} {gs gm n : Nat} {S : Sl} {R : Nat → Prop}
set_option maxRecDepth 100000 in
theorem sppages_any (h : SpM w gs gm n S) : Calls Try.prog 17 #[ptr gs] w fun e w' => ∃ v, e = .returned v ∧ PgF w S v w' := by
  have hkl : (heldS S).length ≤ 1024 := by
    have := heldS_len S
    have := h.len
    have := h.hi
    omega
  have hnd := heldS_nodup h.ok
  obtain ⟨vv', hmo⟩ := h.map.keysOf (f := fun e : Int × Nat × En => e.1) (fun _ _ => rfl) hnd
  have hmo : MapOf 3 w gm iv vv' (heldS S) := hmo
  obtain ⟨D, hown, hperm, hsize⟩ := hmo.owns hnd (by omega)
  have hbl := hown.lt
  have hseq : SeqGives Fence.wide 2 Try.prog 25 #[.pointer (some ⟨w.heap.size, 0, none⟩)] encZ (fun ss => ss.Perm (intKeys D)) (Maps.size D) (w.alloc (.cells #[.map (some gm)] 53)) :=
    AnyZI.keys_gives (ρ := renP) { laysP7 with } Fence.wide _ trivial rfl (by omega) w.heap.size gm (heldS S).length D _ (by simp) (by simp) (by
      obtain ⟨es, clock, hb, Ft, hs, hD⟩ := hown
      exact ⟨es, clock, (Below.heap_alloc _ _ gm hbl).trans hb, Ft, hs, hD⟩)
  have cK : Calls Try.prog 21 #[.map (some gm)] w fun e w' => e = .returned (.func (.func 25) #[] #[.pointer (some ⟨w.heap.size, 0, none⟩)]) ∧ w' = w.alloc (.cells #[.map (some gm)] 53) := callsIn_wide.1 (AnyZI.keys_in laysP7 Fence.wide 5 trivial rfl (some gm) w)
  have cS := callsIn_wide.1 (AnyZI.sorted_in laysP6 Fence.wide 5 trivial trivial trivial trivial rfl (by omega) (sortsP _) (enters_of Try.func24 (by kernel_rfl) rfl) 25 #[.pointer (some ⟨w.heap.size, 0, none⟩)] trivial (enters_of Try.func25 (by kernel_rfl) rfl) _ _ (by rw [hsize]; unfold maxLen; omega) (by rw [hsize]; omega) _ hseq)
  change Calls Try.prog 20 _ _ _ at cS
  have c1 : w.cell? ⟨gs, 1, none⟩ = some (.map (some gm)) := h.blk.cell 1
  have HK := Hid.mk' cK
  have HS := Hid.mk' cS
  have HP := Hid.mk' hperm
  have HGA : Hid (Grow w (w.alloc (.cells #[.map (some gm)] 53))) := (But.refl _ w).alloc _
  clear cK cS hseq hperm hsize hown hbl h hkl hnd hmo
  go_enter Try.func17, Try.ntmps17
  go_wp2_with fail
  refine Calls.mono HK.out ?_
  rintro e w1 ⟨rfl, rfl⟩
  go_wp2_with fail
  refine Calls.mono HS.out ?_
  rintro e w2 ⟨v, ss, rfl, hS, hrow, hnil, hb⟩
  have HFIN : Hid (PgF w S v w2) := by
    have hms : ss.mergeSort (fun x y => decide (x ≤ y)) = risS S := mergeSort_of_perm_i (hS.trans HP.out)
    have hlen : ss.length = (risS S).length := by rw [← hms]; simp
    refine ⟨?_, HGA.out.trans (But.of hb)⟩
    rw [← hlen, ← hms]
    exact ownsRow_base_a hrow (by simp)
  obtain ⟨va, vn, vk, rfl⟩ : ∃ a n k, v = .slice a n k := by obtain ⟨-, ⟨e, -⟩ | ⟨g', c', cu, e, -⟩⟩ := HFIN.out.own <;> exact ⟨_, _, _, e⟩
  clear hS hrow hnil hb
  go_wp2
  go_ret
  exact ⟨_, rfl, HFIN.out⟩
end
end Go.Proofs.Ytehajgfjdmhdpaa
