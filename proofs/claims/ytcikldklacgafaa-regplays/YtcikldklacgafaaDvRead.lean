/- Read; what is built of a write. -/
import Derived.Test.YtcikldklacgafaaDvReads
namespace Go.Proofs.Ytcikldklacgafaa
open Go.RowKit

section
variable {w : World} {own : Owner} {gd : Nat} {s : Dev}
end
def zeroW : Array Value := (.int .i64 0 :: List.replicate 256 (.int .u8 0)).toArray
theorem built_w (parts : List (Nat × Value)) : Try.prog.built 64 parts = Instr.fill (#[(0, 1), (1, 256)][·]?) zeroW parts := by kernel_rfl
set_option maxRecDepth 100000 in
theorem build_write (x : Int) (N : Array Value) (h : N.size = 256) (w : World) : (Instr.build 64 #[(0, .int .i64 x), (1, .agg N)]).run Try.prog w = .ok (.agg (.int .i64 x :: N.toList).toArray) w := by
  refine run_build w _ _ _ ?_
  rw [built_w]
  have e1 : (Value.int .i64 x).cells = #[.int .i64 x] := rfl
  have e2 : (Value.agg N).cells = N := rfl
  have hz : zeroW.size = 257 := by kernel_rfl
  obtain ⟨A, hA⟩ : ∃ A, A = (#[Value.int .i64 x].zipIdx.foldl (fun cs (c : Value × Nat) => cs.setIfInBounds (0 + c.2) c.1) zeroW) := ⟨_, rfl⟩
  have hA' : A = zeroW.setIfInBounds 0 (.int .i64 x) := by rw [hA]; rfl
  have hAs : A.size = 257 := by rw [hA', Array.size_setIfInBounds, hz]
  have hf := Go.Great.foldl_set 1 N.toList 0 A
  unfold Instr.fill
  simp only [e1]
  show (if _ then none else Instr.fill _ _ _) = _
  rw [if_neg (by simp [hz])]
  unfold Instr.fill
  simp only [e2]
  show (if _ then none else Instr.fill _ _ _) = _
  have hA2 : (#[Value.int .i64 x].zipIdx.foldl (fun cs (c, j) => cs.setIfInBounds (0 + j) c) zeroW) = A := hA.symm
  rw [hA2, if_neg (by simp [h, hAs])]
  unfold Instr.fill
  congr 1
  apply Array.ext_getElem?
  intro k
  have h3 : N.zipIdx.foldl (fun cs (c, j) => cs.setIfInBounds (1 + j) c) A = (N.toList.zipIdx 0).foldl (fun cs (x : Value × Nat) => cs.setIfInBounds (1 + x.2) x.1) A := by
    rw [← Array.foldl_toList, Array.toList_zipIdx]
  rw [h3, hf.2 k]
  simp only [Array.length_toList, h, hAs]
  by_cases hk : k = 0
  · subst hk
    rw [if_neg (by omega), hA']
    simp [hz]
  · by_cases hk2 : k < 257
    · rw [if_pos (by omega)]
      obtain ⟨j, rfl⟩ : ∃ j, k = j + 1 := ⟨k - 1, by omega⟩
      simp
    · rw [if_neg (by omega), Array.getElem?_eq_none (by omega), Array.getElem?_eq_none (by simp [h]; omega)]
end Go.Proofs.Ytcikldklacgafaa
