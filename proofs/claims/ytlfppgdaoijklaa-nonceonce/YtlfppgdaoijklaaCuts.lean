/- Bytes copied into a row; a slice of bytes cut at its front. -/
import Derived.Test.YtlfppgdaoijklaaRefBytes
import Derived.Test.YtlfppgdaoijklaaBlocks
import Derived.Laws.CopyRow
namespace Go.Proofs.Ytlfppgdaoijklaa
open Go.RowKit

/-- Bytes copied into a row. -/
theorem run_copy_blk {w : World} {g off dLen dCap sCap b so n : Nat} {t : TypeId} {A old B : List Value} {ys : List Nat} (ty : TypeId) (hb : Blk w g t (A ++ old ++ B)) (hA : A.length = off) (hold : old.length = n)
    (hn : n = Nat.min ys.length dLen) (hc : ∀ i, i < ys.length → w.cell? ⟨b, so + i, none⟩ = some (.int .u8 (ys.getD i 0 : Nat))) :
    (Builtin.copy_ #[44, 44] ty #[.slice (some ⟨g, off, none⟩) dLen dCap, .slice (some ⟨b, so, none⟩) ys.length sCap]).run Try.prog w = .ok (.int .i64 (n : Int)) (w.setRow g (A ++ u8s (ys.take n) ++ B).toArray) := by
  have hle : n ≤ ys.length := by rw [hn]; exact Nat.min_le_left _ _
  have hlen : (u8s (ys.take n)).length = n := by simp [u8s]; omega
  have hsz : (Try.prog.info? 5).map (·.size) = some 1 := by kernel_rfl
  have hr := run_copy_row (P := Try.prog) w 44 44 ty 5 g off dLen dCap ⟨b, so, none⟩ ys.length sCap _ t (u8s (ys.take n)) Try.underlying44 hsz hb (by rw [hlen]; exact hn)
    (by
      intro j v hv
      have hj : j < n := by have := (List.getElem?_eq_some_iff.1 hv).1; omega
      have e : (⟨b, so, none⟩ : Addr).add j = ⟨b, so + j, none⟩ := by simp [Addr.add]
      rw [e, hc j (by omega), ← hv, u8s_get _ j (by simp; omega)]
      simp [List.getD, hj]) (by rw [hlen]; simp; omega) (u8s_one _)
  have e : (A ++ old ++ B).toArray.toList.take off ++ u8s (ys.take n) ++ (A ++ old ++ B).toArray.toList.drop (off + (u8s (ys.take n)).length) = A ++ u8s (ys.take n) ++ B := by
    subst hA
    rw [hlen, ← hold]
    simp [List.drop_append]
  rw [e, hlen] at hr
  exact hr
theorem Bs.cut {w : World} {b so m cap n : Nat} {ys : List Nat} (h : Bs w (.slice (some ⟨b, so, none⟩) m cap) ys) (hm : ys.length = m) (h0 : 0 < m) (hn : n ≤ m) (hc : m ≤ cap) :
    ∃ p', (∀ w0 : World, (Instr.sliceAt 44 (.slice (some ⟨b, so, none⟩) m cap) (some (.int .i64 (n : Int))) none none).run Try.prog w0 = .ok p' w0) ∧ Bs w p' (ys.drop n) ∧ p'.ownBlock = some b ∧ ∃ so' cap', p' = .slice (some ⟨b, so', none⟩) (m - n) cap' := by
  have hu : Try.prog.underlying 44 = some (.slice (Try.prog.elem 44)) := by kernel_rfl
  have he : Try.prog.elem 44 = 5 := by kernel_rfl
  have hs : ∀ w0 : World, (sizeOf 5).run Try.prog w0 = .ok 1 w0 := fun w0 => by kernel_rfl
  obtain ⟨h1, h2, ⟨rfl, _⟩ | ⟨h3, b', so1, cap', e, hcap, hb, hcell⟩⟩ := h
  · simp at hm; omega
  simp only [Value.slice.injEq, Option.some.injEq, Addr.mk.injEq, and_true] at e
  obtain ⟨⟨rfl, rfl⟩, _, rfl⟩ := e
  refine ⟨.slice (some (if cap = n then ⟨b, so, none⟩ else ⟨b, so + n, none⟩)) (m - n) (cap - n), ?_, ?_, ?_, ?_⟩
  · intro w0
    rw [run_sliceAt_slice _ _ _ _ _ _ hu, run_slice_l w0 _ _ _ _ hu .i64 (n : Int) (by omega) (by omega), he, hs]
    by_cases hcn : cap = n <;> simp [Result.andThen, sliced, hcn, Addr.add]
  · refine ⟨fun z hz => h1 z (List.mem_of_mem_drop hz), by simp; omega, ?_⟩
    by_cases hmn : m = n
    · left
      refine ⟨by rw [List.drop_eq_nil_iff]; omega, .inr ⟨_, cap - n, by rw [hmn, Nat.sub_self]⟩⟩
    · right
      have hcn : ¬ cap = n := by omega
      refine ⟨by simp; omega, b, so + n, cap - n, by simp [hcn, hm], by simp; omega, hb, fun i hi => ?_⟩
      have hi' : n + i < ys.length := by simp at hi; omega
      have := hcell (n + i) hi'
      rw [Nat.add_assoc, this]
      simp [List.getD]
  · by_cases hcn : cap = n <;> simp [Value.ownBlock, hcn]
  · by_cases hcn : cap = n
    · exact ⟨so, cap - n, by simp [hcn]⟩
    · exact ⟨so + n, cap - n, by simp [hcn]⟩
theorem Bs.front {w : World} {ao : Option Addr} {l cap n : Nat} {zs : List Nat} (h : Bs w (.slice ao l cap) zs) (hn : n ≤ zs.length) (hao : ao = none → cap = 0) : Bs w (.slice ao n cap) (zs.take n) := by
  obtain ⟨h1, h2, h3⟩ := h
  refine ⟨fun z hz => h1 z (List.mem_of_mem_take hz), by rw [List.length_take]; omega, ?_⟩
  by_cases h0 : n = 0
  · subst h0
    refine .inl ⟨rfl, ?_⟩
    cases ao with
    | none => rw [hao rfl]; exact .inl rfl
    | some a => exact .inr ⟨a, cap, rfl⟩
  · rcases h3 with ⟨rfl, _⟩ | ⟨_, b, off, cap', e, hcap, hb, hc⟩
    · simp at hn; omega
    · simp only [Value.slice.injEq] at e
      obtain ⟨rfl, _, rfl⟩ := e
      have hl : (zs.take n).length = n := by rw [List.length_take]; omega
      refine .inr ⟨by omega, b, off, cap, by rw [hl], by omega, hb, fun i hi => ?_⟩
      rw [hl] at hi
      rw [hc i (by omega)]
      simp [List.getD, hi]
end Go.Proofs.Ytlfppgdaoijklaa
