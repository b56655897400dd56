/- What the laws of layer 6 ask of their arguments. -/
import Derived.Test.YtdlalpklopnpjaaAesAwake
import Derived.Test.YtdlalpklopnpjaaArrEq
import Derived.Test.YtdlalpklopnpjaaArrays
import Derived.Test.YtdlalpklopnpjaaFieldFrame
import Derived.Deep.Cut
namespace Go.Proofs.Ytdlalpklopnpjaa
open Go.RowKit

theorem nts_of {xs : List Nat} (h : ∀ z ∈ xs, z < 256) : ∃ key : List B8, xs = nts key := by
  refine ⟨xs.map (BitVec.ofNat 8), ?_⟩
  unfold nts
  rw [List.map_map]
  refine (List.map_congr_left (g := id) ?_).trans (by simp) |>.symm
  intro z hz
  exact b8_of z (h z hz)
theorem Bs.key {w : World} {v : Value} {xs : List Nat} (h : Bs w v xs) : ∃ key : List B8, xs = nts key ∧ Bs w v (nts key) := by
  obtain ⟨key, hk⟩ := nts_of h.1
  exact ⟨key, hk, hk ▸ h⟩
theorem enc_len (W : List (List B8)) (b : List B8) : (enc W b).length = 16 := encR_len _ _ _ _
theorem dec_len (W : List (List B8)) (b : List B8) : (dec W b).length = 16 := addK_len _ _ _
end Go.Proofs.Ytdlalpklopnpjaa
