/- The reference's Put, by division. -/
import Derived.Test.YtlfppgdaoijklaaRowAwake
namespace Go.Proofs.Ytlfppgdaoijklaa
open Go.RowKit

theorem be_rev (n k : Nat) : (be n (k + 1)).reverse = (be n k).reverse ++ [n / 256 ^ k % 256] := by simp [be]
theorem rev_getD (l : List Nat) (k : Nat) (h : k < l.length) : l.reverse.getD (l.length - 1 - k) 0 = l.getD k 0 := by
  have e : l.length - 1 - (l.length - 1 - k) = k := by omega
  simp [List.getD, List.getElem?_reverse (show l.length - 1 - k < l.length by omega), e]

end Go.Proofs.Ytlfppgdaoijklaa
