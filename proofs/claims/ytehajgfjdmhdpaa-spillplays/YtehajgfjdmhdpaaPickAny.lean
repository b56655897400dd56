/- The reference's Pick: what is left of a number, for any divisor. -/
import Derived.Test.YtehajgfjdmhdpaaOwnOps
namespace Go.Proofs.Ytehajgfjdmhdpaa
open Go.RowKit

theorem pick_any (x n : Int) (w : World) (h0 : 0 < n) (h1 : n ≤ 2000000000) :
    Calls Try.prog 10 #[.int .i64 x, .int .i64 n] w fun e w' => e = .returned (.int .i64 (x % n)) ∧ w' = w := by
  have ht1 : x.tmod n < n := Int.tmod_lt_of_pos x h0
  have ht2 : -n < x.tmod n := by
    have := Int.lt_tmod_of_pos x h0
    omega
  obtain ⟨m, hm⟩ : ∃ m, x.tmod n = m := ⟨_, rfl⟩
  have hem : x % n = if m < 0 then m + n else m := by
    rw [← hm, Int.tmod_eq_emod]
    have h5 := Int.emod_nonneg x (b := n) (by omega)
    have h6 := Int.emod_lt_of_pos x h0
    split
    · rw [if_neg (by omega)]; omega
    · split <;> omega
  rw [hm] at ht1 ht2
  have HEM := Hid.mk' hem
  have hn0 : ¬ n = 0 := by omega
  clear hem
  have hw : IntKind.i64.wrap m = m := by simp [IntKind.wrap, IntKind.bits, IntKind.signed]; omega
  by_cases hneg : m < 0
  · go_enter Try.func10, Try.ntmps10
    go_wp2
    go_ret
    refine ⟨?_, rfl⟩
    rw [HEM.out, if_pos hneg]; rfl
  · go_enter Try.func10, Try.ntmps10
    go_wp2
    go_ret
    refine ⟨?_, rfl⟩
    rw [HEM.out, if_neg (by omega)]; rfl
end Go.Proofs.Ytehajgfjdmhdpaa
