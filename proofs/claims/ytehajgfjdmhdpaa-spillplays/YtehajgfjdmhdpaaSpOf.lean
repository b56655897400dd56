/- The program's spill slots: Of. -/
import Derived.Test.YtehajgfjdmhdpaaSpMem
namespace Go.Proofs.Ytehajgfjdmhdpaa
open Go.RowKit Go.Maps

section
variable {w w' : World} {gs gm n : Nat} {S : Sl} {R : Nat → Prop}
set_option maxRecDepth 100000 in
theorem spof_nil (w : World) (p : Int) : Calls Try.prog 16 #[.pointer none, .int .i64 p] w fun e w' => e = .returned (.tuple #[.int .i64 0, evalE ⟨0, 0, 0⟩, .bool false]) ∧ Grow w w' := by
  have hb : Blk (w.alloc (.cells #[.int .u32 0, .int .u32 0, .int .u64 0] 33)) w.heap.size 33 [.int .u32 0, .int .u32 0, .int .u64 0] := Blk.new (L := [.int .u32 0, .int .u32 0, .int .u64 0]) rfl
  obtain ⟨w2, hs, hb2, hk⟩ := boxEn rfl hb ⟨0, 0, 0⟩
  have HS := Hid.mk' hs
  have HB := Hid.mk' hb2
  have HG : Hid (Grow w w2) := ((But.refl (fun _ => False) w).alloc _).then hk (fun b hb e => by omega)
  clear hb hs hb2 hk
  go_enter Try.func16, Try.ntmps16
  go_wp2_with (first
    | (refine wpList_runH rfl (exec_allocF rfl (zeroE w)) ?_)
    | (refine wpList_skipH rfl (exec_stF (v := evalE ⟨0, 0, 0⟩) rfl rfl rfl HS.out) ?_)
    | fail)
  exact bodyPost_ret (results_tct rfl _ _ w.heap.size _ _ _ _ _ rfl rfl HB.out Try.underlying33 rfl (by rw [iEn]; rfl) rfl) rfl ⟨rfl, HG.out⟩
set_option maxRecDepth 100000 in
set_option maxHeartbeats 1000000 in
theorem spof_any (h : SpM w gs gm n S) {p : Int} (hp : i64 p) : Calls Try.prog 16 #[ptr gs, .int .i64 p] w fun e w' => e = .returned (.tuple #[.int .i64 (ofI S p : Int), evalE (ofX S p), .bool (ofB S p)]) ∧ Grow w w' := by
  obtain ⟨w0, hw0⟩ : ∃ w0, w0 = w.alloc (.cells #[.int .u32 0, .int .u32 0, .int .u64 0] 33) := ⟨_, rfl⟩
  obtain ⟨ge, hge⟩ : ∃ ge, ge = w.heap.size := ⟨_, rfl⟩
  have g0 : Grow w w0 := by rw [hw0]; exact (But.refl _ w).alloc _
  have s0 : w0.heap.size = ge + 1 := by rw [hw0, hge]; simp
  have hb0 : Blk w0 ge 33 [.int .u32 0, .int .u32 0, .int .u64 0] := by rw [hw0]; exact Blk.new (L := [.int .u32 0, .int .u32 0, .int .u64 0]) hge.symm
  have h0 := h.grow g0
  have c1 : w0.cell? ⟨gs, 1, none⟩ = some (.map (some gm)) := h0.blk.cell 1
  have hl := h0.looks hp
  generalize ofI S p = I at *
  generalize ofX S p = X at *
  generalize ofB S p = B at *
  obtain ⟨w2, hs, hb2, hg⟩ := boxSl w0 I X
  have HG2 : Hid (Grow w w2) := g0.trans hg
  have hbe := hb0.but hg (fun h => h)
  rw [s0] at hb2
  have HL := Hid.mk' hl
  have HS := Hid.mk' hs
  have HB2 := Hid.mk' hb2
  have HBE := Hid.mk' hbe
  have HW0 := Hid.mk' hw0
  have HGE := Hid.mk' hge
  have HS0 := Hid.mk' s0
  have HGL : Hid (w.heap.size ≤ ge) := by show _ ≤ _; omega
  clear h h0 hp hl hs hb2 hg hb0 hbe g0 s0 hw0 hge
  have HA0 : Hid ((zeroValue 33).run Try.prog w = .ok (.agg #[.int .u32 0, .int .u32 0, .int .u64 0]) w) := zeroE w
  go_enter Try.func16, Try.ntmps16
  go_upto_region 1 with (first
    | (refine wpList_runH rfl (exec_allocF rfl (zeroE w)) ?_)
    | fail)
  rw [← HW0.out, ← HGE.out]
  go_upto_region 4 with (first
    | (refine wpList_runH rfl (exec_lookup rfl rfl rfl HL.out) ?_)
    | (refine wpList_runH rfl (exec_allocF rfl (zSlot w0)) ?_)
    | (refine wpList_skipH rfl (exec_stF (v := .agg (scl I X).toArray) rfl rfl rfl HS.out) ?_)
    | fail)
  rw [HS0.out]
  refine region_chain [([0, 1, 2, 3, 4, 5], 6)] [7] (fun w' => Blk w' (ge + 1) 58 (scl I X)) (Grow w2) (by kernel_rfl) (by kernel_rfl) (fun _ _ h k => h.trans k) (fun _ h => HB2.out.but h (fun h => h)) ((But.refl _ w2).drew) ?_
  intro ι hne X0 hX
  have d0 : ∀ x, (X0 x).cell? ⟨ge + 1, 0, none⟩ = some (.int .i64 (I : Int)) := fun x => (hX x).cell 0
  have dE : ∀ x, ∀ j u, (ecells X)[j]? = some u → (X0 x).cell? ((⟨ge + 1, 1, none⟩ : Addr).add j) = some u := fun x j u hu => by
    rw [addr_add, (hX x).cell, show 1 + j = j + 1 by omega]
    exact hu
  have DE := Hid.mk' dE
  clear dE
  iterate 3 (refine still_step rfl (fun K hK => ?_); go_simp; refine hK _ ?_; clear hK K)
  refine still_val rfl (evalE X) rfl (fun z => exec_ldE (DE.out z) rfl rfl) ?_
  intro K hK; go_simp; refine hK _ ?_; clear hK K
  iterate 2 (refine still_step rfl (fun K hK => ?_); go_simp; refine hK _ ?_; clear hK K)
  refine still_nil ?_
  clear d0 DE hX hne X0 ι
  refine turn_run rfl rfl (fun _ w' => Blk w' ge 33 (ecells X) ∧ Grow w w' ∧ Blk w' (ge + 1) 58 (scl I X)) (fun _ w' => Blk w' (ge + 1) 58 (scl I X)) (fun _ _ _ h k => ⟨h.1.but k (fun h => h), h.2.1.trans k, h.2.2.but k (fun h => h)⟩) (fun _ _ h => h.2.2) (.inr (fun _ _ h => h)) ?_ ?_
  · intro w4 h4
    obtain ⟨w5, q1, q2, q3⟩ := boxEn rfl (HBE.out.but h4 (fun h => h)) X
    exact ⟨undef, w5, .inr ⟨exec_stF (v := evalE X) rfl rfl rfl q1, rfl⟩, q2, (HG2.out.trans h4).then q3 (fun b hb e => by have := HGL.out; omega), (HB2.out.but h4 (fun h => h)).but q3 (fun e => by omega)⟩
  rintro v5 - Y hY
  go_simp
  refine hY _ ?_
  clear hY Y
  intro ι hne X0 hX
  refine still_step rfl (fun K hK => ?_); go_simp; refine hK _ ?_; clear hK K
  refine still_nil ?_
  rintro w6 ⟨hb6, hg6, -⟩
  have HB6 := Hid.mk' hb6
  have HG6 := Hid.mk' hg6
  clear hb6 hg6
  go_wp2
  exact bodyPost_ret (results_tct rfl _ _ ge _ _ _ _ _ rfl rfl HB6.out Try.underlying33 rfl (by rw [iEn]; rfl) rfl) rfl ⟨rfl, HG6.out⟩
end
end Go.Proofs.Ytehajgfjdmhdpaa
