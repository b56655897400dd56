/- Products and sums of the great field in bytes: its rules, and what the document tells, computed. -/
import Derived.Test.YtpdkdeebdhdhgaaGhashSumMath
namespace Go.Proofs.Ytpdkdeebdhdhgaa
open Go.RowKit

def gone : List B8 := [128#8, 0#8, 0#8, 0#8, 0#8, 0#8, 0#8, 0#8, 0#8, 0#8, 0#8, 0#8, 0#8, 0#8, 0#8, 0#8]
theorem gone_len : gone.length = 16 := rfl
theorem gzero_len : gzero.length = 16 := by simp [gzero]
theorem toG_one : toG gone = 1#128 := by decide +kernel
theorem gtimes_comm (a b : List B8) : gtimes a b = gtimes b a := by unfold gtimes; rw [gm_comm]
theorem gtimes_assoc (a b c : List B8) : gtimes a (gtimes b c) = gtimes (gtimes a b) c := by
  unfold gtimes
  rw [toG_ofG, toG_ofG, gm_assoc]
theorem gtimes_gadd (a b c : List B8) : gtimes a (gadd b c) = gadd (gtimes a b) (gtimes a c) := by
  refine toG_inj (gtimes_len _ _) (gadd_len _ _) ?_
  rw [toG_gtimes, toG_gadd, toG_gadd, toG_gtimes, toG_gtimes]
  exact gm_right (toG a) (toG b) (toG c)
theorem gtimes_one {a : List B8} (ha : a.length = 16) : gtimes a gone = a := by
  unfold gtimes
  rw [toG_one, gm_one, ofG_toG ha]
theorem one_gtimes {a : List B8} (ha : a.length = 16) : gtimes gone a = a := by rw [gtimes_comm, gtimes_one ha]
theorem gtimes_zero {a b : List B8} (ha : a.length = 16) (hb : b.length = 16) : (gtimes a b = gzero) = (a = gzero ∨ b = gzero) := by
  refine propext ⟨fun e => ?_, fun e => ?_⟩
  · have e2 : gm (toG a) (toG b) = 0#128 := by rw [← toG_gtimes, e, toG_zero]
    rcases gm_eq_zero.1 e2 with e | e
    · exact .inl (toG_inj ha gzero_len (by rw [e, toG_zero]))
    · exact .inr (toG_inj hb gzero_len (by rw [e, toG_zero]))
  · refine toG_inj (gtimes_len _ _) gzero_len ?_
    rw [toG_gtimes, toG_zero]
    rcases e with e | e <;> rw [e, toG_zero]
    · exact zero_gm _
    · exact gm_zero _
theorem gadd_self (a : List B8) : gadd a a = gzero := by
  refine at8_ext (gadd_len _ _) gzero_len (fun i hi => ?_)
  unfold gadd
  rw [mk16_at _ i hi, gzero_at, BitVec.xor_self]; rfl
theorem zero_gadd {a : List B8} (ha : a.length = 16) : gadd gzero a = a := by
  refine at8_ext (gadd_len _ _) ha (fun i hi => ?_)
  unfold gadd
  rw [mk16_at _ i hi, gzero_at]
  exact BitVec.zero_xor
/-- Four sums that come to 0, in bytes. -/
theorem four_zero {a b c d : List B8} (h : toG a ^^^ toG b ^^^ toG c ^^^ toG d = 0#128) : gadd (gadd a b) (gadd c d) = gzero := by
  refine toG_inj (gadd_len _ _) gzero_len ?_
  rw [toG_gadd, toG_gadd, toG_gadd, toG_zero, ← h]; ac_rfl
def knownH : List B8 := [102#8, 233#8, 75#8, 212#8, 239#8, 138#8, 44#8, 59#8, 136#8, 76#8, 250#8, 89#8, 202#8, 52#8, 43#8, 46#8]
def knownT : List Nat := [3, 136, 218, 206, 96, 182, 163, 146, 243, 40, 194, 185, 113, 178, 254, 120]
def knownY : List B8 := [94#8, 46#8, 199#8, 70#8, 145#8, 112#8, 98#8, 136#8, 44#8, 133#8, 176#8, 104#8, 83#8, 83#8, 222#8, 183#8]
def knownX : List B8 := [94#8, 46#8, 199#8, 70#8, 145#8, 112#8, 98#8, 136#8, 44#8, 133#8, 176#8, 104#8, 83#8, 83#8, 222#8, 55#8]
def knownS : List B8 := [243#8, 140#8, 187#8, 26#8, 214#8, 146#8, 35#8, 220#8, 195#8, 69#8, 122#8, 229#8, 182#8, 176#8, 248#8, 133#8]
theorem known_one : gtimes (gadd gzero (blkAt (gall [] knownT) 0)) knownH = knownY := by decide +kernel
theorem known_two : gtimes (gadd knownY (blkAt (gall [] knownT) 1)) knownH = knownS := by decide +kernel
theorem known_sum : gsum knownH [] knownT = knownS := by
  show gtimes (gadd (gtimes (gadd gzero (blkAt (gall [] knownT) 0)) knownH) (blkAt (gall [] knownT) 1)) knownH = knownS
  rw [known_one, known_two]
theorem none_sum {h : List B8} : gsum h [] [] = gzero := by
  show gtimes (gadd gzero (blkAt (gall [] []) 0)) h = gzero
  rw [show gadd gzero (blkAt (gall [] []) 0) = gzero by decide +kernel]
  refine toG_inj (gtimes_len _ _) gzero_len ?_
  rw [toG_gtimes, toG_zero]; exact zero_gm _
theorem awake_sum : gsum gone [9] [] = [9#8, 0#8, 0#8, 0#8, 0#8, 0#8, 0#8, 8#8, 0#8, 0#8, 0#8, 0#8, 0#8, 0#8, 0#8, 0#8] := by
  show gtimes (gadd (gtimes (gadd gzero (blkAt (gall [9] []) 0)) gone) (blkAt (gall [9] []) 1)) gone = _
  rw [gtimes_one (gadd_len _ _), gtimes_one (gadd_len _ _)]
  decide +kernel
end Go.Proofs.Ytpdkdeebdhdhgaa
