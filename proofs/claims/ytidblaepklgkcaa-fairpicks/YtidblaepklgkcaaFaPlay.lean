/- Acts keep the number of tasks. -/
import Derived.Test.YtidblaepklgkcaaFaBoth
namespace Go.Proofs.Ytidblaepklgkcaa
open Go.RowKit

theorem wgt_len (T : List Sh) (i : Int) (x : Nat) : (wgt T i x).length = T.length := by unfold wgt; split <;> simp
theorem slp_len (T : List Sh) (i : Int) : (slp T i).length = T.length := by unfold slp; split <;> simp
theorem wkT_len (T : List Sh) (k : Nat) (t : Sh) : (wkT T k t).length = T.length := by unfold wkT; split <;> simp
theorem wak_len (T : List Sh) (i : Int) : (wak T i).length = T.length := by
  unfold wak
  split
  · split
    · exact wkT_len _ _ _
    · rfl
  · rfl
theorem nxS_len (T : List Sh) : (nxS T).length = T.length := by
  unfold nxS
  split
  · rfl
  · unfold nxT
    split <;> simp
theorem dact_len (T : List Sh) (a : FA) : (dact T a).length = T.length := by
  unfold dact
  split
  · exact wgt_len _ _ _
  · split
    · exact wak_len _ _
    · split
      · exact slp_len _ _
      · split
        · rfl
        · exact nxS_len _
theorem fresh_len (n : Nat) : (fresh n).length = n := by unfold fresh; rw [List.length_replicate]
theorem row_nums {w : World} {v : Value} {T : List Sh} (h : w.ownsRow 0 3 1 v (ints (awN T)).length (numv (ints (awN T)))) (hok : Fok T) : Nums w v (ints (awN T)) := Nums.ofRow h (ints_i64 hok.n8) (by rw [ints_len]; have := awU_len T T.length; have := hok.n8; unfold awN; omega)
end Go.Proofs.Ytidblaepklgkcaa
