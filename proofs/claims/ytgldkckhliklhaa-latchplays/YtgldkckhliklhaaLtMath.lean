/- Latches as lists: who has what, who waits. -/
import Derived.Test.YtgldkckhliklhaaMapOf
import Derived.Test.YtgldkckhliklhaaIntKit
namespace Go.Proofs.Ytgldkckhliklhaa
open Go.RowKit

/-- A task, a key, alone or shared. -/
abbrev Wt := Int × Int × Bool
structure Ls where
  has : List Wt
  q : List Wt
def mode (x : Wt) : Int := if x.2.2 then 2 else 1
def anyA (l : List Wt) (k : Int) : Bool := l.any (fun y => y.2.1 == k && y.2.2)
def cntS (l : List Wt) (k : Int) : Nat := (l.filter (fun y => y.2.1 == k && !y.2.2)).length
/-- May it be granted, with these at hand? -/
def mayG (l : List Wt) (x : Wt) : Bool := !anyA l x.2.1 && (!x.2.2 || cntS l x.2.1 == 0)
namespace Ls
def new : Ls := ⟨[], []⟩
def hold (s : Ls) (t k : Int) : Int := ((s.has.find? (fun x => x.1 == t && x.2.1 == k)).map mode).getD 0
def wait (s : Ls) (t : Int) : Bool := s.q.any (fun x => x.1 == t)
def waitK (s : Ls) (t : Int) : Int := ((s.q.find? (fun x => x.1 == t)).map (·.2.1)).getD 0
def qk (s : Ls) (k : Int) : List Wt := s.q.filter (fun x => x.2.1 == k)
def grant (s : Ls) (x : Wt) : Ls := ⟨s.has ++ [x], s.q.filter (fun y => !(y.1 == x.1))⟩
def ask (s : Ls) (x : Wt) : Ls := ⟨s.has, s.q ++ [x]⟩
def leave (s : Ls) (t : Int) : Ls := ⟨s.has, s.q.filter (fun y => !(y.1 == t))⟩
def drop (s : Ls) (t k : Int) : Ls := ⟨s.has.filter (fun y => !(y.1 == t && y.2.1 == k)), s.q⟩
end Ls
/-- Requests that are granted one behind the other, each the first one for its key. -/
inductive Steps (K : Int → Prop) : Ls → List Wt → Ls → Prop
  | nil (s : Ls) : Steps K s [] s
  | cons {s s' : Ls} {x : Wt} {r G : List Wt} (hq : s.qk x.2.1 = x :: r) (hK : K x.2.1) (hm : mayG s.has x = true) (h : Steps K (s.grant x) G s') : Steps K s (x :: G) s'
/-- No first request for the key may be granted. -/
def Stb (s : Ls) (k : Int) : Prop := ∀ x r, s.qk k = x :: r → mayG s.has x = false
structure Lok (s : Ls) : Prop where
  hn : (s.has.map (fun x => (x.1, x.2.1))).Nodup
  qn : (s.q.map (·.1)).Nodup
  ih : ∀ x ∈ s.has, i64 x.1 ∧ i64 x.2.1
  iq : ∀ x ∈ s.q, i64 x.1 ∧ i64 x.2.1
  dis : ∀ x ∈ s.q, ∀ y ∈ s.has, x.1 = y.1 → x.2.1 ≠ y.2.1
  al : ∀ x ∈ s.has, ∀ y ∈ s.has, x.2.1 = y.2.1 → x.2.2 = true → x = y
theorem anyA_append (l m : List Wt) (k : Int) : anyA (l ++ m) k = (anyA l k || anyA m k) := by unfold anyA; rw [List.any_append]
theorem cntS_append (l m : List Wt) (k : Int) : cntS (l ++ m) k = cntS l k + cntS m k := by unfold cntS; rw [List.filter_append, List.length_append]
theorem anyA_iff {l : List Wt} {k : Int} : anyA l k = true ↔ ∃ x ∈ l, x.2.1 = k ∧ x.2.2 = true := by unfold anyA; simp
theorem anyA_not {l : List Wt} {k : Int} : anyA l k = false ↔ ∀ x ∈ l, x.2.1 = k → x.2.2 = false := by
  unfold anyA
  rw [List.any_eq_false]
  constructor
  · intro h x hx e
    have := h x hx
    simp only [e, beq_self_eq_true, Bool.true_and] at this
    simpa using this
  · intro h x hx e
    simp only [Bool.and_eq_true, beq_iff_eq] at e
    have := h x hx e.1
    rw [this] at e
    cases e.2
theorem cntS_zero {l : List Wt} {k : Int} : cntS l k = 0 ↔ ∀ x ∈ l, x.2.1 = k → x.2.2 = true := by
  unfold cntS
  rw [List.length_eq_zero_iff, List.filter_eq_nil_iff]
  constructor
  · intro h x hx e
    have := h x hx
    simp only [e, beq_self_eq_true, Bool.true_and] at this
    simpa using this
  · intro h x hx e
    simp only [Bool.and_eq_true, beq_iff_eq, Bool.not_eq_true'] at e
    have := h x hx e.1
    rw [this] at e
    cases e.2
theorem mayG_iff {l : List Wt} {x : Wt} : mayG l x = true ↔ ∀ y ∈ l, y.2.1 = x.2.1 → y.2.2 = false ∧ x.2.2 = false := by
  unfold mayG
  simp only [Bool.and_eq_true, Bool.not_eq_true', Bool.or_eq_true, beq_iff_eq]
  rw [anyA_not, cntS_zero]
  constructor
  · rintro ⟨h1, h2⟩ y hy e
    have h3 := h1 y hy e
    refine ⟨h3, ?_⟩
    rcases h2 with h2 | h2
    · exact h2
    · have := h2 y hy e
      rw [h3] at this
      cases this
  · intro h
    refine ⟨fun y hy e => (h y hy e).1, ?_⟩
    cases hx : x.2.2 with
    | false => exact .inl rfl
    | true =>
      right
      intro y hy e
      have := (h y hy e).2
      rw [hx] at this
      cases this
theorem mayG_mono {l m : List Wt} {x : Wt} (h : mayG l x = true) (hs : ∀ y ∈ m, y ∈ l) : mayG m x = true := mayG_iff.2 (fun y hy e => mayG_iff.1 h y (hs y hy) e)
section
variable {s s' : Ls} {x : Wt} {r : List Wt} {k t : Int}
theorem qk_mem {y : Wt} : y ∈ s.qk k ↔ y ∈ s.q ∧ y.2.1 = k := by unfold Ls.qk; rw [List.mem_filter]; simp
theorem Lok.one (h : Lok s) {y : Wt} (hx : x ∈ s.q) (hy : y ∈ s.q) (e : x.1 = y.1) : x = y := by
  have := h.qn
  obtain ⟨i, hi⟩ := List.getElem?_of_mem hx
  obtain ⟨j, hj⟩ := List.getElem?_of_mem hy
  have hij : i = j := (List.getElem?_inj (l := s.q.map (·.1)) (by rw [List.length_map]; exact (List.getElem?_eq_some_iff.1 hi).1) this).1 (by rw [List.getElem?_map, List.getElem?_map, hi, hj]; simp [e])
  subst hij
  rw [hi] at hj
  simpa using hj
/-- Behind a grant the key's queue is one shorter. -/
theorem grant_qk (h : Lok s) (hq : s.qk x.2.1 = x :: r) : (s.grant x).qk x.2.1 = r := by
  unfold Ls.qk Ls.grant
  show (s.q.filter (fun y => !(y.1 == x.1))).filter (fun y => y.2.1 == x.2.1) = r
  rw [List.filter_filter]
  have h1 : s.q.filter (fun a => (a.2.1 == x.2.1 && !(a.1 == x.1))) = (s.qk x.2.1).filter (fun y => !(y.1 == x.1)) := by
    unfold Ls.qk
    rw [List.filter_filter]
    apply List.filter_congr
    intro y _
    exact Bool.and_comm _ _
  rw [h1, hq, List.filter_cons, if_neg (by simp), List.filter_eq_self]
  intro y hy
  have hnd : (s.qk x.2.1).Nodup := (List.pairwise_map.1 h.qn |>.imp (fun h e => h (by rw [e]))).filter _
  rw [hq, List.nodup_cons] at hnd
  have hyq : y ∈ s.q := (qk_mem.1 (by rw [hq]; exact List.mem_cons_of_mem _ hy)).1
  have hxq : x ∈ s.q := (qk_mem.1 (by rw [hq]; exact List.mem_cons_self)).1
  have : y.1 ≠ x.1 := fun e => hnd.1 (by rw [← h.one hyq hxq e]; exact hy)
  simpa using this
theorem grant_qk_ne (h : Lok s) (hx : x ∈ s.q) (hk : k ≠ x.2.1) : (s.grant x).qk k = s.qk k := by
  unfold Ls.qk Ls.grant
  show (s.q.filter (fun y => !(y.1 == x.1))).filter (fun y => y.2.1 == k) = _
  rw [List.filter_filter]
  apply List.filter_congr
  intro y hy
  by_cases e : y.2.1 = k
  · have : y.1 ≠ x.1 := fun e2 => hk (by rw [← e, h.one hy hx e2])
    simp [e, this]
  · simp [e]
theorem Lok.grant (h : Lok s) (hx : x ∈ s.q) (hm : mayG s.has x = true) : Lok (s.grant x) := by
  have hm' := mayG_iff.1 hm
  refine ⟨?_, ?_, fun y hy => ?_, fun y hy => h.iq y (List.mem_filter.1 hy).1, fun y hy z hz e => ?_, fun y hy z hz e ha => ?_⟩
  · show ((s.has ++ [x]).map _).Nodup
    rw [List.map_append, List.nodup_append]
    refine ⟨h.hn, by simp, fun a ha b hb e => ?_⟩
    obtain ⟨y, hy, rfl⟩ := List.mem_map.1 ha
    have hb' : b = (x.1, x.2.1) := by simpa using hb
    rw [hb'] at e
    simp only [Prod.mk.injEq] at e
    exact h.dis x hx y hy e.1.symm e.2.symm
  · exact h.qn.sublist (List.Sublist.map _ List.filter_sublist)
  · rcases List.mem_append.1 hy with h1 | h1
    · exact h.ih y h1
    · rw [show y = x by simpa using h1]; exact h.iq x hx
  · have hy' := List.mem_filter.1 hy
    rcases List.mem_append.1 hz with h1 | h1
    · exact h.dis y hy'.1 z h1 e
    · rw [show z = x by simpa using h1] at e
      have := hy'.2
      rw [e] at this
      simp at this
  · rcases List.mem_append.1 hy with h1 | h1 <;> rcases List.mem_append.1 hz with h2 | h2
    · exact h.al y h1 z h2 e ha
    · rw [show z = x by simpa using h2] at e
      have := (hm' y h1 e).1
      rw [ha] at this
      cases this
    · rw [show y = x by simpa using h1] at e ha
      have := (hm' z h2 e.symm).2
      rw [ha] at this
      cases this
    · rw [show y = x by simpa using h1, show z = x by simpa using h2]
theorem Lok.new : Lok Ls.new := ⟨.nil, .nil, fun _ h => absurd h List.not_mem_nil, fun _ h => absurd h List.not_mem_nil, fun _ h => absurd h List.not_mem_nil, fun _ h => absurd h List.not_mem_nil⟩
theorem Lok.ask (h : Lok s) (h1 : i64 x.1) (h2 : i64 x.2.1) (hw : s.wait x.1 = false) (hh : ∀ y ∈ s.has, x.1 = y.1 → x.2.1 ≠ y.2.1) : Lok (s.ask x) := by
  unfold Ls.wait at hw
  rw [List.any_eq_false] at hw
  refine ⟨h.hn, ?_, h.ih, fun y hy => ?_, fun y hy z hz e => ?_, h.al⟩
  · show ((s.q ++ [x]).map _).Nodup
    rw [List.map_append, List.nodup_append]
    refine ⟨h.qn, by simp, fun a ha b hb e => ?_⟩
    obtain ⟨y, hy, rfl⟩ := List.mem_map.1 ha
    have := hw y hy
    have hb' : b = x.1 := by simpa using hb
    rw [e, hb'] at this
    simp at this
  · rcases List.mem_append.1 hy with h3 | h3
    · exact h.iq y h3
    · rw [show y = x by simpa using h3]; exact ⟨h1, h2⟩
  · rcases List.mem_append.1 hy with h3 | h3
    · exact h.dis y h3 z hz e
    · rw [show y = x by simpa using h3] at e ⊢; exact hh z hz e
theorem Lok.leave (h : Lok s) (t : Int) : Lok (s.leave t) := ⟨h.hn, h.qn.sublist (List.Sublist.map _ List.filter_sublist), h.ih, fun y hy => h.iq y (List.mem_filter.1 hy).1, fun y hy z hz e => h.dis y (List.mem_filter.1 hy).1 z hz e, h.al⟩
theorem Lok.drop (h : Lok s) (t k : Int) : Lok (s.drop t k) := ⟨h.hn.sublist (List.Sublist.map _ List.filter_sublist), h.qn, fun y hy => h.ih y (List.mem_filter.1 hy).1, h.iq, fun y hy z hz e => h.dis y hy z (List.mem_filter.1 hz).1 e, fun y hy z hz e ha => h.al y (List.mem_filter.1 hy).1 z (List.mem_filter.1 hz).1 e ha⟩
theorem steps_lok {K : Int → Prop} {G : List Wt} (h : Steps K s G s') : Lok s → Lok s' := by
  induction h with
  | nil => exact id
  | cons hq _ hm _ ih =>
    intro hl
    exact ih (hl.grant (qk_mem.1 (by rw [hq]; exact List.mem_cons_self)).1 hm)
theorem Steps.trans {K : Int → Prop} {s1 s2 : Ls} {G H : List Wt} (h : Steps K s G s1) (k : Steps K s1 H s2) : Steps K s (G ++ H) s2 := by
  induction h with
  | nil => exact k
  | cons hq hK hm _ ih => exact .cons hq hK hm (ih k)
theorem Steps.mono {K K' : Int → Prop} {G : List Wt} (h : Steps K s G s') (hk : ∀ k, K k → K' k) : Steps K' s G s' := by
  induction h with
  | nil => exact .nil _
  | cons hq hK hm _ ih => exact .cons hq (hk _ hK) hm ih
end
end Go.Proofs.Ytgldkckhliklhaa
