/- General: a slice from a place on. -/
import Derived.Test.YtehajgfjdmhdpaaOwnRow
namespace Go.Proofs.Ytehajgfjdmhdpaa
open Go.RowKit

theorem cut_from {T e : TypeId} {sz : Nat} (hu : Try.prog.underlying T = some (.slice (Try.prog.elem T))) (he : Try.prog.elem T = e) (hs : ∀ w0 : World, (sizeOf e).run Try.prog w0 = .ok sz w0) {b n cap k : Nat} (hk : k ≤ n) (hc : n ≤ cap) :
    ∃ A c, (∀ w0 : World, (Instr.sliceAt T (.slice (some ⟨b, 0, none⟩) n cap) (some (.int .i64 (k : Int))) none none).run Try.prog w0 = .ok (.slice (some A) (n - k) c) w0) ∧ (k < n → A = ⟨b, k * sz, none⟩) ∧ c = cap - k := by
  refine ⟨if cap = k then ⟨b, 0, none⟩ else ⟨b, k * sz, none⟩, cap - k, fun w0 => ?_, fun h => by rw [if_neg (by omega)], rfl⟩
  rw [run_sliceAt_slice _ _ _ _ _ _ hu, run_slice_l w0 _ _ _ _ hu .i64 (k : Int) (by omega) (by omega), he, hs]
  by_cases hcn : cap = k
  · simp [Result.andThen, sliced, hcn]
  · by_cases h0 : k * sz = 0
    · simp [Result.andThen, sliced, hcn, Addr.add, h0]
    · simp [Result.andThen, sliced, hcn, Addr.add, h0]
end Go.Proofs.Ytehajgfjdmhdpaa
