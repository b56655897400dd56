/- Flush. -/
import Derived.Test.YtcikldklacgafaaDvRange
namespace Go.Proofs.Ytcikldklacgafaa
open Go.RowKit

theorem DvTo.next {w w1 w2 : World} {own own1 : Owner} {gd : Nat} {s2 : Dev} (k : But (fun b => own b ≠ .none) w w1) (f : Fresh w own own1) (h : DvTo w1 own1 gd s2 w2) : DvTo w own gd s2 w2 := by
  obtain ⟨own2, f2, d2⟩ := h.ex
  refine ⟨k.then (S := fun k => own1 k ≠ .none) h.but (fun k hk e h0 => ?_), own2, fun k' hk => ?_, d2⟩
  · by_cases hq : own1 k = own k
    · exact e (hq.trans h0)
    · have := f k hq; omega
  · by_cases hq : own2 k' = own1 k'
    · exact f k' (by rw [← hq]; exact hk)
    · exact Nat.le_trans k.size (f2 k' hq)
/-- What waits is stored. -/
def Dev.flushed (s : Dev) : Dev := { s with st := (List.range s.st.length).map s.now, wt := [] }
/-- Stored so far, with these left. -/
structure FlI (s : Dev) (st' : List (List Nat)) (L : List (Value × Value)) : Prop where
  len : st'.length = s.st.length
  wf : ∀ c ∈ st', wf256 c
  at' : ∀ b : Nat, b < s.st.length → (¬ ∃ v, ((.int .i64 (b : Int) : Value), v) ∈ L) → st'.getD b [] = s.now b
theorem now_none {s : Dev} {b : Nat} (h : wb s.wr s.wt b = []) : s.now b = s.st.getD b [] := by unfold Dev.now; rw [h]; rfl
theorem now_st {s : Dev} {b : Nat} (st' : List (List Nat)) (h : wb s.wr s.wt b ≠ []) : ({ s with st := st' } : Dev).now b = s.now b := by
  unfold Dev.now
  show (match (wb s.wr s.wt b).getLast? with | some i => (s.wr.getD i d0).2 | none => st'.getD b []) = _
  cases hg : (wb s.wr s.wt b).getLast? with
  | none => exact absurd (List.getLast?_eq_none_iff.1 hg) h
  | some i => rfl
theorem FlI.step {s : Dev} {st' : List (List Nat)} {L L' : List (Value × Value)} {b : Nat} {v : Value} (h : FlI s st' L) (hok : s.ok) (hb : b < s.st.length) (hp : L.Perm ((.int .i64 (b : Int), v) :: L')) : FlI s (st'.set b (s.now b)) L' := by
  refine ⟨by rw [List.length_set]; exact h.len, fun c hc => ?_, fun c hc hn => ?_⟩
  · rcases List.mem_or_eq_of_mem_set hc with hc | hc
    · exact h.wf c hc
    · rw [hc]; exact hok.now hb
  · by_cases hcb : b = c
    · subst hcb
      have : b < st'.length := by rw [h.len]; exact hb
      simp [List.getD, this]
    · have e : (st'.set b (s.now b)).getD c [] = st'.getD c [] := by simp [List.getD, List.getElem?_set_ne hcb]
      rw [e]
      refine h.at' c hc (fun ⟨u, hu⟩ => hn ⟨u, ?_⟩)
      rcases List.mem_cons.1 (hp.mem_iff.1 hu) with e2 | e2
      · exfalso
        have := (Prod.mk.inj e2).1
        simp only [Value.int.injEq, true_and] at this
        omega
      · exact e2
theorem FlI.done {s : Dev} {st' : List (List Nat)} (h : FlI s st' []) : st' = (List.range s.st.length).map s.now := by
  apply List.ext_getElem?
  intro i
  by_cases hi : i < s.st.length
  · have h1 := h.at' i hi (fun ⟨v, hv⟩ => absurd hv List.not_mem_nil)
    have h2 : i < st'.length := by rw [h.len]; exact hi
    rw [List.getElem?_eq_getElem h2]
    simp [List.getD, h2] at h1
    simp [hi, h1]
  · rw [List.getElem?_eq_none (by rw [h.len]; omega), List.getElem?_eq_none (by simp; omega)]
section
variable {w : World} {own : Owner} {gd : Nat} {s : Dev}
end
end Go.Proofs.Ytcikldklacgafaa
