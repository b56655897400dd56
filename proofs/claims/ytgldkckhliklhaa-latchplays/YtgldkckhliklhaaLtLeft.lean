/- latch: what Free does, step by step. -/
import Derived.Test.YtgldkckhliklhaaLtLeave
import Derived.Test.YtgldkckhliklhaaLtDrop
namespace Go.Proofs.Ytgldkckhliklhaa
open Go.RowKit Go.Maps

/-- A task's request is taken away. -/
def Lv (s : Ls) (t : Int) (G : List Wt) (s' : Ls) : Prop := (s.wait t = false ∧ G = [] ∧ s' = s) ∨ ∃ kk al, (t, kk, al) ∈ s.q ∧ Steps (· = kk) (s.leave t) G s' ∧ Stb s' kk
/-- What it has is dropped, one behind the other, and each latch settled. -/
inductive Dr (t : Int) (s : Ls) : List Wt → List Wt → Ls → Prop
  | nil : Dr t s [] [] s
  | snoc {E G G1 : List Wt} {S S1 : Ls} {k : Int} {al : Bool} (h : Dr t s E G S) (hx : (t, k, al) ∈ S.has) (hs : Steps (· = k) (S.drop t k) G1 S1) (hb : Stb S1 k) : Dr t s (E ++ [(t, k, al)]) (G ++ G1) S1
theorem steps_q {K : Int → Prop} {s s' : Ls} {G : List Wt} (h : Steps K s G s') : (∀ y ∈ s'.q, y ∈ s.q) ∧ (∀ y ∈ G, y ∈ s.q) := by
  induction h with
  | nil => exact ⟨fun _ h => h, fun _ h => absurd h List.not_mem_nil⟩
  | cons hq _ hm _ ih =>
    rename_i s1 s2 x r G1 hk1 hst1
    have hx : x ∈ s1.q := (qk_mem.1 (by rw [hq]; exact List.mem_cons_self)).1
    have hsub : ∀ y ∈ (s1.grant x).q, y ∈ s1.q := fun y hy => (List.mem_filter.1 hy).1
    refine ⟨fun y hy => hsub y (ih.1 y hy), fun y hy => ?_⟩
    rcases List.mem_cons.1 hy with rfl | hy
    · exact hx
    · exact hsub y (ih.2 y hy)
theorem drop_sum (s : Ls) (t k : Int) : (s.drop t k).has.length + (s.drop t k).q.length ≤ s.has.length + s.q.length := by
  have : (s.drop t k).has.length ≤ s.has.length := List.length_filter_le _ _
  show _ + s.q.length ≤ _
  omega
theorem Lv.facts {s s' : Ls} {t : Int} {G : List Wt} (h : Lv s t G s') (hok : Lok s) : Lok s' ∧ (∀ y ∈ s'.q, y.1 ≠ t) ∧ s'.has.length + s'.q.length ≤ s.has.length + s.q.length ∧ G.length + s'.q.length ≤ s.q.length := by
  rcases h with ⟨h1, rfl, rfl⟩ | ⟨kk, al, hx, hst, -⟩
  · refine ⟨hok, fun y hy e => ?_, Nat.le_refl _, by simp⟩
    exact List.any_eq_false.1 h1 y hy (by simpa using e)
  · have h1 := steps_sum hst
    have h2 : (s.leave t).q.length ≤ s.q.length := List.length_filter_le _ _
    have h3 : (s.leave t).has.length = s.has.length := rfl
    refine ⟨steps_lok hst (hok.leave t), fun y hy e => ?_, by omega, by omega⟩
    have h4 := (List.mem_filter.1 ((steps_q hst).1 y hy)).2
    simp [e] at h4
/-- Amid Free: H is what is said of tasks, lf what is still to be dropped. -/
structure Am (t : Int) (S : Ls) (H lf : List Wt) : Prop where
  ok : Lok S
  mem : ∀ x, x ∈ S.has ↔ x ∈ H ∨ x ∈ lf
  nh : ∀ x ∈ H, x.1 ≠ t
  nl : ∀ x ∈ lf, x.1 = t
  nq : ∀ x ∈ S.q, x.1 ≠ t
  sum : S.has.length + S.q.length ≤ 10000
  nd : lf.Nodup
theorem Am.start {t : Int} {s : Ls} (hok : Lok s) (hq : ∀ y ∈ s.q, y.1 ≠ t) (hs : s.has.length + s.q.length ≤ 10000) : Am t s (s.has.filter (fun x => !(x.1 == t))) (s.has.filter (fun x => x.1 == t)) := by
  refine ⟨hok, fun x => ?_, fun x hx => by simpa using (List.mem_filter.1 hx).2, fun x hx => by simpa using (List.mem_filter.1 hx).2, hq, hs, ((List.pairwise_map.1 hok.hn).imp (fun h e => h (by rw [e]))).filter _⟩
  rw [List.mem_filter, List.mem_filter]
  by_cases e : x.1 = t <;> simp [e]
theorem Am.perm {t : Int} {S : Ls} {H lf lf' : List Wt} (h : Am t S H lf) (hp : lf.Perm lf') : Am t S H lf' := ⟨h.ok, fun x => by rw [h.mem x, hp.mem_iff], h.nh, fun x hx => h.nl x (hp.mem_iff.2 hx), h.nq, h.sum, hp.nodup_iff.1 h.nd⟩
/-- One is dropped. -/
theorem Am.drop {t k : Int} {al : Bool} {S : Ls} {H lf : List Wt} (h : Am t S H ((t, k, al) :: lf)) : Am t (S.drop t k) H lf ∧ (t, k, al) ∈ S.has := by
  have hx : (t, k, al) ∈ S.has := (h.mem _).2 (.inr List.mem_cons_self)
  have hnd := List.nodup_cons.1 h.nd
  refine ⟨⟨h.ok.drop t k, fun y => ?_, h.nh, fun y hy => h.nl y (List.mem_cons_of_mem _ hy), h.nq, Nat.le_trans (drop_sum S t k) h.sum, hnd.2⟩, hx⟩
  show y ∈ S.has.filter _ ↔ _
  rw [List.mem_filter, h.mem y]
  constructor
  · rintro ⟨h1 | h1, h2⟩
    · exact .inl h1
    · rcases List.mem_cons.1 h1 with rfl | h1
      · simp at h2
      · exact .inr h1
  · rintro (h1 | h1)
    · have := h.nh y h1
      exact ⟨.inl h1, by simp [this]⟩
    · refine ⟨.inr (List.mem_cons_of_mem _ h1), ?_⟩
      have hy : y ∈ S.has := (h.mem y).2 (.inr (List.mem_cons_of_mem _ h1))
      have h2 : y.2.1 ≠ k := fun e => hnd.1 (by rw [← h.ok.hone hx hy (h.nl y (List.mem_cons_of_mem _ h1)) e]; exact h1)
      simp [h2]
/-- Others are granted. -/
theorem Am.steps {t : Int} {K : Int → Prop} {S S' : Ls} {H lf G : List Wt} (h : Am t S H lf) (hs : Steps K S G S') : Am t S' (H ++ G) lf := by
  have hq := steps_q hs
  refine ⟨steps_lok hs h.ok, fun x => ?_, fun x hx => ?_, h.nl, fun x hx => h.nq x (hq.1 x hx), Nat.le_trans (steps_sum hs).1 h.sum, h.nd⟩
  · rw [steps_has hs, List.mem_append, List.mem_append, h.mem x]
    constructor
    · rintro ((h1 | h1) | h1)
      · exact .inl (.inl h1)
      · exact .inr h1
      · exact .inl (.inr h1)
    · rintro ((h1 | h1) | h1)
      · exact .inl (.inl h1)
      · exact .inr h1
      · exact .inl (.inr h1)
  · rcases List.mem_append.1 hx with h1 | h1
    · exact h.nh x h1
    · exact h.nq x (hq.2 x h1)
section
variable {w w' : World} {own own' : Owner} {gt gl gh gw : Nat} {lb hb : Int → Nat} {KL TL : List Int} {c : Lc} {s : Ls} {R : Nat → Prop} {T : Tag}
/-- What is said of tasks, in another order. -/
theorem Lm.hmAs (h : Lm w own gt gl gh gw lb hb KL TL c) {H : List Wt} (hm : ∀ x, x ∈ H ↔ x ∈ c.hm) : Lm w own gt gl gh gw lb hb KL TL { c with hm := H } :=
  ⟨h.blk, h.lat, h.hel, h.wai, h.each, h.nok, fun t ht => (h.mps t ht).mem (fun x => by rw [List.mem_filter, List.mem_filter, hm x]), fun x hx => h.nom x ((hm x).1 hx), h.ot, h.ol, h.oh, h.ow, h.olb, h.ohb, h.lc, h.lq, h.top⟩
/-- What leave leaves, either way. -/
def LeftTo (w : World) (own : Owner) (gt : Nat) (s : Ls) (t : Int) (e : Ending) (w' : World) : Prop := ∃ v, e = .returned v ∧ ∃ G s' own', Lv s t G s' ∧ Lt w' own' gt s' ∧ Lok s' ∧ w'.ownsRow 0 3 1 v G.length (numv (G.map (·.1))) ∧ (∀ b, v.ownBlock = some b → w.heap.size ≤ b ∧ own' b = .none) ∧ Sub w own own' ∧ But (Wo own) w w'
theorem lleft_any (h : Lt w own gt s) (hok : Lok s) {t : Int} (ht : i64 t) (hsum : s.has.length + s.q.length ≤ 10000) : Calls Try.prog 21 #[ptr gt, .int .i64 t] w (LeftTo w own gt s t) := by
  cases hw : s.wait t with
  | false =>
    refine Calls.mono (lleave_not h hok ht hw) ?_
    rintro e w' ⟨rfl, hg⟩
    obtain ⟨a1, a2, a3, a4, a5, a6, a7, h⟩ := h
    exact ⟨_, rfl, [], s, own, .inl ⟨hw, rfl, rfl⟩, ⟨a1, a2, a3, a4, a5, a6, a7, h.grow hg⟩, hok, World.ownsRow_nil _ _ _ _, (fun b hb => by cases hb), Sub.refl _ _, hg.mono (fun _ _ h => h.elim)⟩
  | true =>
    obtain ⟨⟨t', kk, al⟩, hx, e⟩ := List.any_eq_true.1 hw
    have e' : t' = t := by simpa using e
    subst e'
    refine Calls.mono (lleave_any h hok hx hsum) ?_
    rintro e w' ⟨v, h0, G, s', own', h1, h2, h3⟩
    exact ⟨v, h0, G, s', own', .inr ⟨kk, al, hx, h1, h2⟩, h3⟩
end
theorem range_nil (w : World) : (Instr.range 53 (.map none)).run Try.prog w = .ok (.pointer (some ⟨w.heap.size, 0, none⟩)) (w.alloc (.mapIter none 0 #[] 0)) := by
  simp [Instr.range, run_underlying Try.underlying53, Result.andThen]
end Go.Proofs.Ytgldkckhliklhaa
