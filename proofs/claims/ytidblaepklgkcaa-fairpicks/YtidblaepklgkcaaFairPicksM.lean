/- What a pick is, as lists. -/
import Derived.Test.YtidblaepklgkcaaFaPlay
import Derived.ProofKit
import Derived.OpenShut
import Derived.ChangeOld
import Derived.Below
namespace Go.Proofs.Ytidblaepklgkcaa
open Go.ChangeShapes Go.WideShapes Go.ChangeAt Go.RowKit

theorem pck_at {T : List Sh} {i : Nat} {z : Int} (hz : z % ((awN T).length : Int) = (i : Int)) : pck T z = (ints (awN T)).getD i 0 := by
  unfold pck
  rw [hz, Int.toNat_natCast]
theorem pck_mem {T : List Sh} (h : (awN T).isEmpty = false) (z : Int) : pck T z ∈ ints (awN T) := by
  have h0 : 0 < (awN T).length := by
    cases e : awN T with
    | nil => rw [e] at h; cases h
    | cons a l => simp
  unfold pck
  have h1 := Int.emod_nonneg z (b := ((awN T).length : Int)) (by omega)
  have h2 := Int.emod_lt_of_pos z (b := ((awN T).length : Int)) (by omega)
  have h3 : (z % ((awN T).length : Int)).toNat < (ints (awN T)).length := by rw [ints_len]; omega
  rw [List.getD_eq_getElem?_getD, List.getElem?_eq_getElem h3]
  exact List.getElem_mem h3
theorem wfZ {z : Int} (h : (Lit.int .i64 z).wf = true) : i64 z := wfI h
end Go.Proofs.Ytidblaepklgkcaa
