/- Bytes copied into a row; a slice of bytes cut at its front. -/
import Derived.Test.YtehajgfjdmhdpaaRefBytes
import Derived.Test.YtehajgfjdmhdpaaBlocks
import Derived.Laws.CopyRow
namespace Go.Proofs.Ytehajgfjdmhdpaa
open Go.RowKit

theorem Bs.front {w : World} {ao : Option Addr} {l cap n : Nat} {zs : List Nat} (h : Bs w (.slice ao l cap) zs) (hn : n ≤ zs.length) (hao : ao = none → cap = 0) : Bs w (.slice ao n cap) (zs.take n) := by
  obtain ⟨h1, h2, h3⟩ := h
  refine ⟨fun z hz => h1 z (List.mem_of_mem_take hz), by rw [List.length_take]; omega, ?_⟩
  by_cases h0 : n = 0
  · subst h0
    refine .inl ⟨rfl, ?_⟩
    cases ao with
    | none => rw [hao rfl]; exact .inl rfl
    | some a => exact .inr ⟨a, cap, rfl⟩
  · rcases h3 with ⟨rfl, _⟩ | ⟨_, b, off, cap', e, hcap, hb, hc⟩
    · simp at hn; omega
    · simp only [Value.slice.injEq] at e
      obtain ⟨rfl, _, rfl⟩ := e
      have hl : (zs.take n).length = n := by rw [List.length_take]; omega
      refine .inr ⟨by omega, b, off, cap, by rw [hl], by omega, hb, fun i hi => ?_⟩
      rw [hl] at hi
      rw [hc i (by omega)]
      simp [List.getD, hi]
end Go.Proofs.Ytehajgfjdmhdpaa
