/- frames: Keys: all keys of a map, sorted, off the library's shelf. -/
import Derived.Test.YtmlklmhochihbaaFrVictim
import Derived.Test.YtmlklmhochihbaaSortInts
import Derived.Shelf.SlIterI.Nil
namespace Go.Proofs.Ytmlklmhochihbaa
open Go.RowKit Go.Maps Go.Sort Go.Shelf

def renK : Shelf.Ren := ⟨fun x => if x = 7 then 48 else if x = 10 then 61 else if x = 6 then 47 else if x = 8 then 59 else if x = 9 then 60 else if x = 11 then 68 else x, fun x => if x = 23 then 82 else if x = 26 then 3 else if x = 3 then 86 else if x = 28 then 92 else if x = 27 then 91 else if x = 33 then 55 else if x = 4 then 4 else if x = 24 then 40 else x, fun x => x⟩
theorem laysK7 : SlLaysZI.n7 Try.prog renK where
  mixed := by kernel_rfl
  f7 := ⟨ "maps.Keys[map[int]*thimble/frames.frame,int,*thimble/frames.frame]", by decide, by kernel_rfl⟩
  f10 := ⟨ "maps.Keys[map[int]*thimble/frames.frame,int,*thimble/frames.frame]$1", by decide, by kernel_rfl⟩
  t0 := by kernel_rfl
  a0 := fun _ => by kernel_rfl
  z0 := fun _ => by kernel_rfl
  v0 := fun _ => by kernel_rfl
  t4 := by kernel_rfl
  a4 := fun _ => by kernel_rfl
  z4 := fun _ => by kernel_rfl
  v4 := fun _ => by kernel_rfl
  t23 := by kernel_rfl
  a23 := fun _ => by kernel_rfl
  z23 := fun _ => by kernel_rfl
  v23 := fun _ => by kernel_rfl
  t26 := by kernel_rfl
  a26 := fun _ => by kernel_rfl
  z26 := fun _ => by kernel_rfl
  v26 := fun _ => by kernel_rfl
  t27 := by kernel_rfl
  a27 := fun _ => by kernel_rfl
  z27 := fun _ => by kernel_rfl
  v27 := fun _ => by kernel_rfl
  t28 := by kernel_rfl
  a28 := fun _ => by kernel_rfl
  z28 := fun _ => by kernel_rfl
  v28 := fun _ => by kernel_rfl
  t33 := by kernel_rfl
  a33 := fun _ => by kernel_rfl
  z33 := fun _ => by kernel_rfl
  v33 := fun _ => by kernel_rfl
theorem laysK6 : SlLaysZI.n6 Try.prog renK where
  mixed := by kernel_rfl
  f6 := ⟨ "slices.Sorted[int]", by decide, by kernel_rfl⟩
  f8 := ⟨ "slices.Collect[int]", by decide, by kernel_rfl⟩
  f11 := ⟨ "slices.AppendSeq[[]int,int]", by decide, by kernel_rfl⟩
  t0 := by kernel_rfl
  a0 := fun _ => by kernel_rfl
  z0 := fun _ => by kernel_rfl
  v0 := fun _ => by kernel_rfl
  t24 := by kernel_rfl
  a24 := fun _ => by kernel_rfl
  z24 := fun _ => by kernel_rfl
  v24 := fun _ => by kernel_rfl
  t26 := by kernel_rfl
  a26 := fun _ => by kernel_rfl
  z26 := fun _ => by kernel_rfl
  v26 := fun _ => by kernel_rfl
  t28 := by kernel_rfl
  a28 := fun _ => by kernel_rfl
  z28 := fun _ => by kernel_rfl
  v28 := fun _ => by kernel_rfl
  i26 := by kernel_rfl
theorem sortsK (m : Nat) : AnyZI.SortsIn Try.prog renK Fence.wide m :=
  ⟨fun blk off cap ss W hH hblk hsz => callsIn_wide.2 (AnyM.slices_Sort_int laysS blk off cap ss W hH hblk hsz),
   fun p cap W => callsIn_wide.2 (AnyM.slices_Sort_int_none laysS p cap W)⟩
def anyR (_ : Value) : Option (DataW Unit × List MemPlace) := some (.lit (.bool true), [])
theorem insert_perm {H : Type} (x : Lit × DataW H) : ∀ l : List (Lit × DataW H), (DataW.insert x l).Perm (x :: l)
  | [] => by unfold DataW.insert; exact List.Perm.refl _
  | y :: r => by
    unfold DataW.insert
    split
    · exact List.Perm.refl _
    · exact ((insert_perm x r).cons y).trans (List.Perm.swap _ _ _)
theorem foldr_perm {H : Type} : ∀ l : List (Lit × DataW H), (l.foldr DataW.insert []).Perm l
  | [] => List.Perm.refl _
  | x :: l => (insert_perm x _).trans ((foldr_perm l).cons x)
/-- A map's keys as the shelf reads them. -/
theorem MapOf.owns {w : World} {b : Nat} {vv : Int → Value} {l : List Int} (h : MapOf 3 w b iv vv l) (hn : l.Nodup) (hl : l.length ≤ 1000000) : ∃ D : DataW Unit, w.ownsMap Try.prog 3 anyR b l.length D ∧ (intKeys D).Perm l ∧ Maps.size D = l.length := by
  obtain ⟨M, h1, h2, h3⟩ := h
  have hkn : (l.map iv).Nodup := nodup_map (fun _ _ _ _ e => iv_inj e) hn
  have hsz := MapOf.size h1 h2 h3 hkn
  have hap := h1.apart
  have hky := h1.key
  obtain ⟨es, clock, hb, rfl, hbo, hnd⟩ := h1.blk
  have hesz : es.size = l.length := by rw [← hsz]; simp
  have hfit : WideElems.Fit Try.prog 3 anyR es clock := ⟨by unfold maxLen; omega, (MapKept.stamped_iff es clock).2 ⟨hbo, hnd, (List.pairwise_map.1 hap).imp (fun h => h)⟩, fun x hx => by
    obtain ⟨lt, hlt⟩ := hky (x.key, x.val) (List.mem_map.2 ⟨x, hx, rfl⟩)
    exact ⟨_, WideElems.rd_mk (born := x.born) hlt (yv := (.lit (.bool true), [])) rfl⟩⟩
  have hmap : (es.toList.map (WideElems.rg Try.prog 3 anyR)).map (fun p => Go.intOf p.1) = (es.toList.map fun e => (e.key, e.val)).map (fun p => match p.1 with | .int _ a => a | _ => 0) := by
    rw [List.map_map, List.map_map]
    apply List.map_congr_left
    intro x hx
    obtain ⟨k, hk, e⟩ := h2 (x.key, x.val) (List.mem_map.2 ⟨x, hx, rfl⟩)
    have e1 : x.key = iv k := (Prod.mk.inj e).1
    obtain ⟨lt, hlt⟩ := hky (x.key, x.val) (List.mem_map.2 ⟨x, hx, rfl⟩)
    obtain ⟨y, ey, rfl, -⟩ := Maps.keyOf_i64 Try.underlying3 hlt
    have hrd : WideElems.rd Try.prog 3 anyR x = some (.int .i64 y, .lit (.bool true)) := WideElems.rd_mk (born := x.born) hlt (yv := (.lit (.bool true), [])) rfl
    simp only [Function.comp]
    rw [WideElems.rg_of hrd]
    simp only at ey
    rw [ey]
    rfl
  refine ⟨_, ⟨es, clock, hb, hfit, by omega, rfl⟩, ?_, ?_⟩
  · show List.Perm (List.map _ _) _
    refine ((foldr_perm _).map _).trans ?_
    rw [hmap]
    have hkk : ((es.toList.map fun e => (e.key, e.val)).map (fun p : Value × Value => match p.1 with | .int _ a => a | _ => 0)).Nodup := by
      refine List.pairwise_map.2 (hap.imp_of_mem (fun {p q} hp hq hne e => hne ?_))
      obtain ⟨a, -, rfl⟩ := h2 p hp
      obtain ⟨c, -, rfl⟩ := h2 q hq
      simp only at e
      rw [e]
    refine (List.perm_ext_iff_of_nodup hkk hn).2 (fun x => ⟨fun hx => ?_, fun hx => ?_⟩)
    · obtain ⟨p, hp, rfl⟩ := List.mem_map.1 hx
      obtain ⟨a, ha, rfl⟩ := h2 p hp
      exact ha
    · exact List.mem_map.2 ⟨_, h3 x hx, rfl⟩
  · show List.length _ = _
    rw [(foldr_perm _).length_eq, List.length_map]
    simpa using hesz
theorem keys_nil (w : World) : Calls Try.prog 17 #[.pointer none] w fun e w' => e = .returned (.slice none 0 0) ∧ w' = w := by
  go_enter Try.func17, Try.ntmps17
  go_wp2
  go_ret
  exact ⟨rfl, rfl⟩
/-- All keys, rising. -/
def St.rising (s : St) : List Int := s.keys.mergeSort (fun x y => decide (x ≤ y))
structure KeysF (w : World) (s : St) (v : Value) (w' : World) : Prop where
  own : w'.ownsRow w.heap.size 3 1 v s.rising.length (numv s.rising)
  grow : Grow w w'
section
variable {w w' : World} {own own' : Owner} {gt gr gf gp gh gm : Nat} {fb : Int → Nat} {PL : List (Int × Int)} {s s' : St} {R : Nat → Prop}
set_option maxRecDepth 100000 in
theorem keys_any (h : Ft w own gt s) : Calls Try.prog 17 #[ptr gt] w fun e w' => ∃ v, e = .returned v ∧ KeysF w s v w' := by
  obtain ⟨gr, gf, gp, gh, gm, fb, PL, h⟩ := h
  have hkl : s.keys.length ≤ 1024 := by
    have h2 : s.keys.length = s.fr.length := by unfold St.keys; rw [List.length_map]
    have := h.ok.le
    have := h.ok.m2
    omega
  obtain ⟨D, hown, hperm, hsize⟩ := h.frm.owns h.ok.nd (by omega)
  have hbl := hown.lt
  have hseq : SeqGives Fence.wide 2 Try.prog 61 #[.pointer (some ⟨w.heap.size, 0, none⟩)] encZ (fun ss => ss.Perm (intKeys D)) (Maps.size D) (w.alloc (.cells #[.map (some gf)] 82)) :=
    AnyZI.keys_gives (ρ := renK) { laysK7 with } Fence.wide _ trivial rfl (by omega) w.heap.size gf s.keys.length D _ (by simp) (by simp) (by
      obtain ⟨es, clock, hb, Ft, hs, hD⟩ := hown
      exact ⟨es, clock, (Below.heap_alloc _ _ gf hbl).trans hb, Ft, hs, hD⟩)
  have cK : Calls Try.prog 48 #[.map (some gf)] w fun e w' => e = .returned (.func (.func 61) #[] #[.pointer (some ⟨w.heap.size, 0, none⟩)]) ∧ w' = w.alloc (.cells #[.map (some gf)] 82) := callsIn_wide.1 (AnyZI.keys_in laysK7 Fence.wide 5 trivial rfl (some gf) w)
  have cS := callsIn_wide.1 (AnyZI.sorted_in laysK6 Fence.wide 5 trivial trivial trivial trivial rfl (by omega) (sortsK _) (enters_of Try.func60 (by kernel_rfl) rfl) 61 #[.pointer (some ⟨w.heap.size, 0, none⟩)] trivial (enters_of Try.func61 (by kernel_rfl) rfl) _ _ (by rw [hsize]; unfold maxLen; omega) (by rw [hsize]; omega) _ hseq)
  change Calls Try.prog 47 _ _ _ at cS
  have c3 : w.cell? ⟨gt, 3, none⟩ = some (.map (some gf)) := h.blk.cell 3
  have HK := Hid.mk' cK
  have HS := Hid.mk' cS
  have HP := Hid.mk' hperm
  have HGA : Hid (Grow w (w.alloc (.cells #[.map (some gf)] 82))) := (But.refl _ w).alloc _
  clear cK cS hseq hperm hsize hown hbl h hkl
  go_enter Try.func17, Try.ntmps17
  go_wp2_with fail
  refine Calls.mono HK.out ?_
  rintro e w1 ⟨rfl, rfl⟩
  go_wp2_with fail
  refine Calls.mono HS.out ?_
  rintro e w2 ⟨v, ss, rfl, hS, hrow, hnil, hb⟩
  have HFIN : Hid (KeysF w s v w2) := by
    have hms : ss.mergeSort (fun x y => decide (x ≤ y)) = s.rising := mergeSort_of_perm_i (hS.trans HP.out)
    have hlen : ss.length = s.rising.length := by rw [← hms]; simp
    refine ⟨?_, HGA.out.trans (But.of hb)⟩
    rw [← hlen, ← hms]
    exact ownsRow_base_a hrow (by simp)
  obtain ⟨va, vn, vk, rfl⟩ : ∃ a n k, v = .slice a n k := by obtain ⟨-, ⟨e, -⟩ | ⟨g', c', cu, e, -⟩⟩ := HFIN.out.own <;> exact ⟨_, _, _, e⟩
  clear hS hrow hnil hb
  go_wp2
  go_ret
  exact ⟨_, rfl, HFIN.out⟩
end
end Go.Proofs.Ytmlklmhochihbaa
