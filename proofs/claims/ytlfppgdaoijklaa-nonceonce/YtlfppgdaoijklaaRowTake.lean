/- row: Take. -/
import Derived.Test.YtlfppgdaoijklaaRowRead
namespace Go.Proofs.Ytlfppgdaoijklaa
open Go.RowKit

theorem Bs.take {w : World} {ao : Option Addr} {l cap n : Nat} {zs : List Nat} (h : Bs w (.slice ao l cap) zs) (hn : n ≤ zs.length) (hao : ao = none → cap = 0) : Bs w (.slice ao n cap) (zs.take n) := by
  obtain ⟨h1, h2, h3⟩ := h
  refine ⟨fun z hz => h1 z (List.mem_of_mem_take hz), by rw [List.length_take]; omega, ?_⟩
  by_cases h0 : n = 0
  · subst h0
    refine .inl ⟨rfl, ?_⟩
    cases ao with
    | none => rw [hao rfl]; exact .inl rfl
    | some a => exact .inr ⟨a, cap, rfl⟩
  · rcases h3 with ⟨rfl, _⟩ | ⟨_, b, off, cap', e, hcap, hb, hc⟩
    · simp at hn; omega
    · simp only [Value.slice.injEq] at e
      obtain ⟨rfl, _, rfl⟩ := e
      have hl : (zs.take n).length = n := by rw [List.length_take]; omega
      refine .inr ⟨by omega, b, off, cap, by rw [hl], by omega, hb, fun i hi => ?_⟩
      rw [hl] at hi
      rw [hc i (by omega)]
      simp [List.getD, hi]
theorem Bs.drop {w : World} {a a' : Addr} {l cap n : Nat} {zs : List Nat} (h : Bs w (.slice (some a) l cap) zs) (hn : n ≤ zs.length) (ha : a' = a.add n ∨ (a' = a ∧ n = zs.length)) : Bs w (.slice (some a') (zs.length - n) (cap - n)) (zs.drop n) := by
  obtain ⟨h1, h2, h3⟩ := h
  refine ⟨fun z hz => h1 z (List.mem_of_mem_drop hz), by rw [List.length_drop]; omega, ?_⟩
  by_cases h0 : n = zs.length
  · refine .inl ⟨List.drop_of_length_le (by omega), .inr ⟨a', cap - n, by rw [h0, Nat.sub_self]⟩⟩
  · rcases h3 with ⟨rfl, _⟩ | ⟨_, b, off, cap', e, hcap, hb, hc⟩
    · simp at hn h0; omega
    · simp only [Value.slice.injEq, Option.some.injEq] at e
      obtain ⟨rfl, _, rfl⟩ := e
      have ha' : a' = ⟨b, off + n, none⟩ := by
        rcases ha with ha | ha
        · rw [ha]; simp [Addr.add]
        · exact absurd ha.2 h0
      subst ha'
      refine .inr ⟨by rw [List.length_drop]; omega, b, off + n, cap - n, by rw [List.length_drop], by rw [List.length_drop]; omega, hb, fun i hi => ?_⟩
      rw [List.length_drop] at hi
      rw [Nat.add_assoc, hc (n + i) (by omega)]
      simp [List.getD, List.getElem?_drop]
theorem Bs.cap {w : World} {ao : Option Addr} {l cap : Nat} {zs : List Nat} (h : Bs w (.slice ao l cap) zs) : zs.length ≤ cap := by
  obtain ⟨_, _, ⟨rfl, _⟩ | ⟨_, b, off, cap', e, hcap, _⟩⟩ := h
  · simp
  · simp only [Value.slice.injEq] at e
    obtain ⟨_, _, rfl⟩ := e; exact hcap

theorem heap_size_alloc (w : World) (o : Obj) : (w.alloc o).heap.size = w.heap.size + 1 := by simp
end Go.Proofs.Ytlfppgdaoijklaa
