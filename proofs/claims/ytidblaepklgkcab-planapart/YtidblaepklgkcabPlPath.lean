/- plan: Path. -/
import Derived.Test.YtidblaepklgkcabPlClimb
namespace Go.Proofs.Ytidblaepklgkcab
open Go.RowKit

/-- What memory is amid Path: the row so far is in the variable g. -/
structure PathI (g : Nat) (F : Nat → Prop) (w : World) (ds : List Int) : Prop where
  ex : ∃ r, Blk w g 22 [r] ∧ w.ownsRow 0 3 1 r ds.length (numv ds) ∧ ∀ k, r.ownBlock = some k → ¬ F k ∧ k ≠ g
  nf : ¬ F g
  lt : ∀ b, F b → b < w.heap.size
theorem PathI.same {g : Nat} {F : Nat → Prop} {w w' : World} {ds : List Int} (h : PathI g F w ds) (k : Grow w w') : PathI g F w' ds := by
  obtain ⟨r, h1, h2, h3⟩ := h.ex
  exact ⟨⟨r, h1.but k (fun h => h), ownsRow_grow h2 k, h3⟩, h.nf, fun b hb => Nat.lt_of_lt_of_le (h.lt b hb) k.size⟩
theorem PathI.new {g : Nat} {F : Nat → Prop} {w w' : World} {ds : List Int} (h : PathI g F w ds) (k : Grow w w') : PathI g (FF F w w') w' ds := by
  obtain ⟨r, h1, h2, h3⟩ := h.ex
  refine ⟨⟨r, h1.but k (fun h => h), ownsRow_grow h2 k, fun j hj => ⟨fun hf => ?_, (h3 j hj).2⟩⟩, fun hf => ?_, fun b hb => ?_⟩
  · rcases hf with hf | hf
    · exact (h3 j hj).1 hf
    · have := (World.ownsRow.lt h2 j hj).2
      omega
  · rcases hf with hf | hf
    · exact h.nf hf
    · have := h1.lt
      omega
  · rcases hb with hb | hb
    · exact Nat.lt_of_lt_of_le (h.lt b hb) k.size
    · exact hb.2
set_option maxRecDepth 100000 in
theorem path1_any (g : Nat) (F : Nat → Prop) (w : World) (ds : List Int) (x : Int) (h : PathI g F w ds) (hl : ds.length ≤ 100000) : Calls Try.prog 17 #[.int .i64 x, ptr g] w fun e w' => e = .returned (.bool true) ∧ PathI g F w' (ds ++ [x]) ∧ But (fun b => ¬ F b) w w' := by
  obtain ⟨r, hb, hr, hn⟩ := h.ex
  have c0 : w.cell? ⟨g, 0, none⟩ = some r := hb.cell 0
  obtain ⟨ra, rc, hre⟩ := own_sl hr
  have HR := Hid.mk' hr
  have HB := Hid.mk' hb
  have HN := Hid.mk' hn
  have HH := Hid.mk' h
  have HL := Hid.mk' hl
  obtain ⟨dl, hdl⟩ : ∃ n, n = ds.length := ⟨_, rfl⟩
  rw [← hdl] at HR hre
  have HDL := Hid.mk' hdl
  have HAL : Hid (Grow w (w.alloc (.cells #[.int .i64 x] 3))) := (But.refl _ w).alloc _
  have HBL : Hid (Blk (w.alloc (.cells #[.int .i64 x] 3)) w.heap.size 3 (numv [x])) := Blk.new (L := numv [x]) rfl
  clear hb hr hn h hl hdl
  subst hre
  go_enter Try.func17, Try.ntmps17
  go_wp2_with (first
    | (refine wpList_runH rfl (exec_row1 (v := .int .i64 x) Try.underlying22 infNum (by decide) (by decide) rfl rfl rfl) ?_)
    | (refine wpList_someH rfl (exec_append (v := .slice ra dl rc) (n := dl) (xs := numv ds) (news := numv [x]) Try.underlying22 infNum rfl (by decide) rfl rfl (ownsRow_grow HR.out HAL.out) rfl rfl (fun j u hj => HBL.out.cells0 j u hj) (fun u hu => by rw [show u = .int .i64 x by simpa [numv] using hu]; rfl) (by have := HL.out; have := HDL.out; omega) (by decide)) ?_; intro v4 w4 hap
       obtain ⟨va, vc, e4⟩ := own_sl hap.own
       subst e4
       have hb4 : Blk w4 g 22 [.slice ra dl rc] := (HB.out.but HAL.out (fun h => h)).but hap.but (fun e => (HN.out g e).2 rfl))
    | (refine wpList_store1 (g := g) (i := 0) rfl iSl rfl rfl rfl rfl hb4 (show 0 < 1 by decide) ?_; intro w5 hb5 hbut5)
    | fail)
  have hn4 : ∀ k, (Value.slice va (dl + 1) vc).ownBlock = some k → ¬ F k ∧ k ≠ g := fun k hk => by
    rcases hap.at' with e | e
    · exact HN.out k (by rw [← e]; exact hk)
    · rw [e] at hk
      have h9 := Option.some.inj hk
      have hs := HAL.out.size
      have := HB.out.lt
      refine ⟨fun hf => ?_, by omega⟩
      have := HH.out.lt k hf
      omega
  have hk4 : But (fun b => ¬ F b) w w4 := (HAL.out.mono (fun _ _ h => h.elim)).then hap.but (fun b hb e => (HN.out b e).1)
  have hk5 : But (fun b => ¬ F b) w w5 := hk4.then hbut5 (fun b hb e => by rw [e]; exact HH.out.nf)
  have hd1 : (ds ++ [x]).length = dl + 1 := by rw [List.length_append, List.length_singleton, ← HDL.out]
  go_ret
  refine ⟨rfl, ⟨⟨_, hb5, ?_, hn4⟩, HH.out.nf, fun b hb => Nat.lt_of_lt_of_le (HH.out.lt b hb) hk5.size⟩, hk5⟩
  rw [hd1, show numv (ds ++ [x]) = numv ds ++ numv [x] by simp [numv]]
  exact ownsRow_but hap.own hbut5 (fun j hj e => (hn4 j hj).2 e)
theorem run_true : ∀ (l ds : List Int), runB (fun _ _ => true) ds l = ds ++ l
  | [], ds => (List.append_nil ds).symm
  | x :: t, ds => by rw [runB_cons, if_pos rfl, run_true t (ds ++ [x]), List.append_assoc]; rfl
def PathTo (w : World) (l : List Int) (e : Ending) (w' : World) : Prop := ∃ v, e = .returned (.tuple #[v, .int .i64 0]) ∧ Own w w' v l ∧ Grow w w'
theorem ent1 (a : Array Value) (w : World) : (callFunc 17 a).run Try.prog w = .ok (.enter 17 a) w := by
  kernel_rfl
theorem zSl (w : World) : (zeroValue 22).run Try.prog w = .ok (.slice none 0 0) w := by kernel_rfl
set_option maxRecDepth 100000 in
theorem path_not (w : World) (p : Pn) (v : Value) (x : Int) (h : p.has x = false) : Calls Try.prog 10 #[pval p v, .int .i64 x] w fun e w' => e = .returned (.tuple #[noS, .int .i64 1]) ∧ Grow w w' := by
  obtain ⟨W, gp, hbx⟩ := box_pl w p v
  have HW := Hid.mk' hbx.ew
  have HGP := Hid.mk' hbx.eg
  have HG := Hid.mk' hbx.grow
  have HCW : Hid (∀ j u, (pcells p v)[j]? = some u → W.cell? ((⟨gp, 0, none⟩ : Addr).add j) = some u) := fun j u hj => by
    rw [addr_add, Nat.zero_add, hbx.blk.cell j]; exact hj
  have HTH := Hid.mk' (there_any W p v x)
  rw [h] at HTH
  unfold pval
  obtain ⟨N, hN⟩ : ∃ N, N = (pcells p v).toArray := ⟨_, rfl⟩
  rw [← hN] at HW ⊢
  clear hbx hN h
  go_enter Try.func10, Try.ntmps10
  go_upto_region 1 with fail
  rw [← HW.out, ← HGP.out]
  clear HW HGP
  go_wp2_with (first
    | (refine wpList_load_cells rfl _ _ rfl ⟨gp, 0, none⟩ rfl (pcells p v) _ HCW.out Try.underlying24 rfl iPl ?_)
    | fail)
  refine Calls.mono HTH.out ?_
  rintro e w2 ⟨rfl, hg2⟩
  have HG2 := Hid.mk' (HG.out.trans hg2)
  clear hg2 HTH HCW
  go_wp2
  exact bodyPost_ret (results_tmp2 rfl _ _ _) rfl ⟨rfl, HG2.out⟩
set_option maxRecDepth 100000 in
theorem path_any (w : World) (p : Pn) (v : Value) (x : Int) (h : p.has x = true) (hv : Nums w v p.levels) (hlen : p.levels.length ≤ 100000) : Calls Try.prog 10 #[pval p v, .int .i64 x] w (PathTo w (p.path x)) := by
  obtain ⟨W, gp, hbx⟩ := box_pl w p v
  have HW := Hid.mk' hbx.ew
  have HGP := Hid.mk' hbx.eg
  have HBX := Hid.mk' hbx
  have HV := Hid.mk' hv
  have HLN := Hid.mk' hlen
  have HCW : Hid (∀ j u, (pcells p v)[j]? = some u → W.cell? ((⟨gp, 0, none⟩ : Addr).add j) = some u) := fun j u hj => by
    rw [addr_add, Nat.zero_add, hbx.blk.cell j]; exact hj
  have HTH := Hid.mk' (there_any W p v x)
  rw [h] at HTH
  unfold pval
  obtain ⟨N, hN⟩ : ∃ N, N = (pcells p v).toArray := ⟨_, rfl⟩
  rw [← hN] at HW ⊢
  clear hbx hN h hv hlen
  go_enter Try.func10, Try.ntmps10
  go_upto_region 1 with fail
  rw [← HW.out, ← HGP.out]
  clear HW HGP
  go_wp2_with (first
    | (refine wpList_load_cells rfl _ _ rfl ⟨gp, 0, none⟩ rfl (pcells p v) _ HCW.out Try.underlying24 rfl iPl ?_)
    | fail)
  refine Calls.mono HTH.out ?_
  rintro e w2 ⟨rfl, hg2⟩
  have HG2 := Hid.mk' (HBX.out.grow.trans hg2)
  obtain ⟨g, hg⟩ : ∃ g, g = w2.heap.size := ⟨_, rfl⟩
  obtain ⟨w3, hw3⟩ : ∃ w3, w3 = w2.alloc (.cells #[noS] 22) := ⟨_, rfl⟩
  have hb3 : Blk w3 g 22 [noS] := by rw [hw3]; exact Blk.new (L := [noS]) hg.symm
  have hg3 : Grow w2 w3 := by rw [hw3]; exact (But.refl _ w2).alloc _
  have HCW3 : Hid (∀ j u, (pcells p v)[j]? = some u → w3.cell? ((⟨gp, 0, none⟩ : Addr).add j) = some u) := fun j u hj => by
    rw [addr_add, Nat.zero_add, ((HBX.out.blk.but hg2 (fun h => h)).but hg3 (fun h => h)).cell j]; exact hj
  have HG3 := Hid.mk' (HG2.out.trans hg3)
  have HCL := Hid.mk' (climb_any w3 p v x 17 g (PathI g) (fun _ _ => true) (fun b => b < w.heap.size) (HV.out.grow HG3.out) HLN.out HV.out.low
    ⟨⟨noS, hb3, World.ownsRow_nil _ _ _ _, fun k hk => by cases hk⟩, (by have := HG2.out.size; omega), (fun b hb => Nat.lt_of_lt_of_le hb HG3.out.size)⟩
    ent1 (fun F w w' ds h k => h.same k) (fun F w w' ds h k => h.new k) (fun F w ds x h _ hl => path1_any g F w ds x h hl))
  rw [run_true, List.nil_append] at HCL
  have HW3 := Hid.mk' hw3
  have HGE := Hid.mk' hg
  clear hg2 HTH HCW hg hw3 hb3 hg3
  go_upto_region 4 with (first
    | fail)
  rw [← HW3.out, ← HGE.out]
  clear HW3 HGE
  go_wp2_with (first
    | (refine wpList_load_cells rfl _ _ rfl ⟨gp, 0, none⟩ rfl (pcells p v) _ HCW3.out Try.underlying24 rfl iPl ?_)
    | fail)
  refine Calls.mono HCL.out ?_
  rintro e w5 ⟨rfl, ⟨F', hF', hI⟩, hb⟩
  obtain ⟨r, hb5, hr5, hn5⟩ := hI.ex
  have c5 : w5.cell? ⟨g, 0, none⟩ = some r := hb5.cell 0
  have HO : Hid (Own w w5 r (p.path x)) := ⟨hr5, fun k hk => by
    have h1 := (hn5 k hk).1
    rcases Nat.lt_or_ge k w.heap.size with h2 | h2
    · exact absurd (hF' k h2) h1
    · exact h2⟩
  have HG5 : Hid (Grow w w5) := HG3.out.then hb (fun i hi h => h hi)
  obtain ⟨va, vc, e5⟩ := own_sl hr5
  subst e5
  clear hI hb hr5 hn5 hb5 hF' HCL
  go_wp2
  exact bodyPost_ret (results_tmp2 rfl _ _ _) rfl ⟨_, rfl, HO.out, HG5.out⟩
end Go.Proofs.Ytidblaepklgkcab
