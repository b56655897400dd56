/- What the statements' arguments are. -/
import Derived.Test.YtdlalpklopnpjaaFieldRefTimes
import Derived.ProofKit
import Derived.OpenShut
import Derived.ChangeOld
import Derived.Below
namespace Go.Proofs.Ytdlalpklopnpjaa
open Go.ChangeShapes Go.WideShapes Go.ChangeAt Go.RowKit

theorem b8_wf {n : Int} (h : (Lit.int .u8 n).wf = true) : ∃ x : B8, n = (b8 x : Int) := by
  have h1 : IntKind.u8.min ≤ n ∧ n ≤ IntKind.u8.max := by simpa [Lit.wf] using h
  have h2 : 0 ≤ n ∧ n < 256 := ⟨h1.1, by have := h1.2; have e : IntKind.u8.max = 255 := by decide
                                         omega⟩
  refine ⟨BitVec.ofNat 8 n.toNat, ?_⟩
  rw [b8_of _ (by omega)]; omega
theorem b8_eq (x y : B8) : ((b8 x : Int) == (b8 y : Int)) = (x == y) := by
  by_cases h : x = y
  · subst h; simp
  · have : b8 x ≠ b8 y := fun e => h (b8_inj e)
    have h2 : (x == y) = false := by simpa using h
    rw [h2]; simp; omega
end Go.Proofs.Ytdlalpklopnpjaa
