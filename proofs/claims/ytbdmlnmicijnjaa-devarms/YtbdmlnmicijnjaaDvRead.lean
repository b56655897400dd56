/- Read; what is built of a write. -/
import Derived.Test.YtbdmlnmicijnjaaDvReads
namespace Go.Proofs.Ytbdmlnmicijnjaa
open Go.RowKit

section
variable {w : World} {own : Owner} {gd : Nat} {s : Dev}
theorem read_down (h : Dv w own gd s) (hu : s.up = false) (x : Int) :
    Calls Try.prog 21 #[.pointer (some ⟨gd, 0, none⟩), .int .i64 x] w fun e w' => e = .returned (.tuple #[.slice none 0 0, .int .i64 7]) ∧ w' = w := by
  obtain ⟨gs, vw, bm, vi, h⟩ := h
  have c6 : w.cell? ⟨gd, 6, none⟩ = some (.bool s.up) := h.blk.cell 6
  rw [hu] at c6
  clear h hu
  go_enter Try.func21, Try.ntmps21
  go_wp2
  exact bodyPost_ret (results_tmp2 rfl _ _ _) rfl ⟨rfl, rfl⟩
theorem read_arg (h : Dv w own gd s) (hu : s.up = true) (x : Int) (hx : ¬ (0 ≤ x ∧ x < (s.st.length : Int))) :
    Calls Try.prog 21 #[.pointer (some ⟨gd, 0, none⟩), .int .i64 x] w fun e w' => e = .returned (.tuple #[.slice none 0 0, .int .i64 1]) ∧ w' = w := by
  have HHA := Hid.mk' (has_any h x)
  rw [decide_eq_false hx] at HHA
  obtain ⟨gs, vw, bm, vi, h⟩ := h
  have c6 : w.cell? ⟨gd, 6, none⟩ = some (.bool s.up) := h.blk.cell 6
  rw [hu] at c6
  clear h hu hx
  go_enter Try.func21, Try.ntmps21
  go_wp2_with fail
  refine Calls.mono HHA.out ?_
  rintro e w' ⟨rfl, rfl⟩
  go_wp2
  exact bodyPost_ret (results_tmp2 rfl _ _ _) rfl ⟨rfl, rfl⟩
set_option maxRecDepth 100000 in
set_option maxHeartbeats 2000000 in
theorem read_any (h : Dv w own gd s) (hu : s.up = true) {b : Nat} (hb : b < s.st.length) :
    Calls Try.prog 21 #[.pointer (some ⟨gd, 0, none⟩), .int .i64 (b : Int)] w fun e w' => ∃ g, e = .returned (.tuple #[.slice (some ⟨g, 0, none⟩) 256 256, .int .i64 0]) ∧ w.heap.size ≤ g ∧ Blk w' g 83 (u8s (s.now b)) ∧ Grow w w' := by
  have HHA := Hid.mk' (has_any h (b : Int))
  rw [decide_eq_true (by omega : (0 : Int) ≤ (b : Int) ∧ (b : Int) < (s.st.length : Int))] at HHA
  have HRE := Hid.mk' (reads_any h hb)
  have HWF := Hid.mk' (h.ok.now hb)
  obtain ⟨gs, vw, bm, vi, h⟩ := h
  have c6 : w.cell? ⟨gd, 6, none⟩ = some (.bool s.up) := h.blk.cell 6
  rw [hu] at c6
  obtain ⟨Z, hZ⟩ : ∃ Z, Z = u8s z256 := ⟨_, rfl⟩
  have hz := z256v
  rw [← hZ] at hz
  have HZL : Hid (Z.length = 256) := by show _ = _; rw [hZ]; rfl
  obtain ⟨D, hD⟩ : ∃ D, D = s.now b := ⟨_, rfl⟩
  rw [← hD] at HRE HWF ⊢
  have HDL : Hid (D.length = 256) := HWF.out.1
  clear h hu hb hZ hD
  go_enter Try.func21, Try.ntmps21
  go_wp2_with fail
  refine Calls.mono HHA.out ?_
  rintro e w' ⟨rfl, rfl⟩
  go_wp2_with fail
  refine Calls.mono HRE.out ?_
  rintro e w1 ⟨rfl, hg1⟩
  have HG1 := Hid.mk' hg1
  have HBZ : Hid (Blk (w1.alloc (.cells Z.toArray 83)) w1.heap.size 83 Z) := Blk.new rfl
  clear hg1
  go_wp2_with (first
    | (refine wpList_store_u8s i256 rfl _ _ rfl w1.heap.size D HDL.out rfl rfl Z HZL.out HBZ.out ?_; intro w2 hb2 hbut2)
    | fail)
  refine bodyPost_ret (results_tmp2 rfl _ _ _) rfl ⟨w1.heap.size, rfl, HG1.out.size, hb2, HG1.out.trans (((But.refl _ w1).alloc _).then hbut2 (fun j hj e => by omega))⟩
end
def zeroW : Array Value := (.int .i64 0 :: List.replicate 256 (.int .u8 0)).toArray
theorem built_w (parts : List (Nat × Value)) : Try.prog.built 85 parts = Instr.fill (#[(0, 1), (1, 256)][·]?) zeroW parts := by kernel_rfl
set_option maxRecDepth 100000 in
theorem build_write (x : Int) (N : Array Value) (h : N.size = 256) (w : World) : (Instr.build 85 #[(0, .int .i64 x), (1, .agg N)]).run Try.prog w = .ok (.agg (.int .i64 x :: N.toList).toArray) w := by
  refine run_build w _ _ _ ?_
  rw [built_w]
  have e1 : (Value.int .i64 x).cells = #[.int .i64 x] := rfl
  have e2 : (Value.agg N).cells = N := rfl
  have hz : zeroW.size = 257 := by kernel_rfl
  obtain ⟨A, hA⟩ : ∃ A, A = (#[Value.int .i64 x].zipIdx.foldl (fun cs (c : Value × Nat) => cs.setIfInBounds (0 + c.2) c.1) zeroW) := ⟨_, rfl⟩
  have hA' : A = zeroW.setIfInBounds 0 (.int .i64 x) := by rw [hA]; rfl
  have hAs : A.size = 257 := by rw [hA', Array.size_setIfInBounds, hz]
  have hf := Go.Great.foldl_set 1 N.toList 0 A
  unfold Instr.fill
  simp only [e1]
  show (if _ then none else Instr.fill _ _ _) = _
  rw [if_neg (by simp [hz])]
  unfold Instr.fill
  simp only [e2]
  show (if _ then none else Instr.fill _ _ _) = _
  have hA2 : (#[Value.int .i64 x].zipIdx.foldl (fun cs (c, j) => cs.setIfInBounds (0 + j) c) zeroW) = A := hA.symm
  rw [hA2, if_neg (by simp [h, hAs])]
  unfold Instr.fill
  congr 1
  apply Array.ext_getElem?
  intro k
  have h3 : N.zipIdx.foldl (fun cs (c, j) => cs.setIfInBounds (1 + j) c) A = (N.toList.zipIdx 0).foldl (fun cs (x : Value × Nat) => cs.setIfInBounds (1 + x.2) x.1) A := by
    rw [← Array.foldl_toList, Array.toList_zipIdx]
  rw [h3, hf.2 k]
  simp only [Array.length_toList, h, hAs]
  by_cases hk : k = 0
  · subst hk
    rw [if_neg (by omega), hA']
    simp [hz]
  · by_cases hk2 : k < 257
    · rw [if_pos (by omega)]
      obtain ⟨j, rfl⟩ : ∃ j, k = j + 1 := ⟨k - 1, by omega⟩
      simp
    · rw [if_neg (by omega), Array.getElem?_eq_none (by omega), Array.getElem?_eq_none (by simp [h]; omega)]
end Go.Proofs.Ytbdmlnmicijnjaa
