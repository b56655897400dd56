/- Grants by key: whatever the order in which keys come, they are the same. -/
import Derived.Test.YtgldkckhliklhaaLtLeft
namespace Go.Proofs.Ytgldkckhliklhaa
open Go.RowKit

/-- Of a key's queue: what is granted, with these at hand. -/
def gr : List Wt → List Wt → List Wt
  | [], _ => []
  | x :: r, H => if mayG H x then x :: gr r (H ++ [x]) else []
/-- Those of others. -/
def wo (t : Int) (l : List Wt) : List Wt := l.filter (fun y => !(y.1 == t))
/-- Those that aren't among these. -/
def nin (G l : List Wt) : List Wt := l.filter (fun y => !(G.any (fun x => x.1 == y.1)))
theorem wo_mem {t : Int} {l : List Wt} {y : Wt} : y ∈ wo t l ↔ y ∈ l ∧ y.1 ≠ t := by unfold wo; rw [List.mem_filter]; simp
theorem wo_append (t : Int) (l m : List Wt) : wo t (l ++ m) = wo t l ++ wo t m := by unfold wo; rw [List.filter_append]
theorem wo_self {t : Int} {l : List Wt} (h : ∀ y ∈ l, y.1 ≠ t) : wo t l = l := by
  unfold wo
  rw [List.filter_eq_self]
  intro y hy
  simpa using h y hy
theorem nin_nil (l : List Wt) : nin [] l = l := by unfold nin; simp
theorem nin_cons (x : Wt) (G l : List Wt) : nin (x :: G) l = nin G (l.filter (fun y => !(y.1 == x.1))) := by
  unfold nin
  rw [List.filter_filter]
  apply List.filter_congr
  intro y _
  rw [List.any_cons, Bool.not_or, show (y.1 == x.1) = (x.1 == y.1) by rw [Bool.eq_iff_iff, beq_iff_eq, beq_iff_eq]; exact eq_comm, Bool.and_comm]
theorem nin_append (G G1 l : List Wt) : nin (G ++ G1) l = nin G1 (nin G l) := by
  unfold nin
  rw [List.filter_filter]
  apply List.filter_congr
  intro y _
  rw [List.any_append, Bool.not_or, Bool.and_comm]
theorem mayG_congr {H H' : List Wt} {x : Wt} (h : ∀ y : Wt, y.2.1 = x.2.1 → (y ∈ H ↔ y ∈ H')) : mayG H x = mayG H' x := by
  rw [Bool.eq_iff_iff, mayG_iff, mayG_iff]
  exact ⟨fun a y hy e => a y ((h y e).2 hy) e, fun a y hy e => a y ((h y e).1 hy) e⟩
theorem gr_congr {k : Int} : ∀ (l : List Wt) {H H' : List Wt}, (∀ x ∈ l, x.2.1 = k) → (∀ y : Wt, y.2.1 = k → (y ∈ H ↔ y ∈ H')) → gr l H = gr l H'
  | [], _, _, _, _ => rfl
  | x :: r, H, H', hl, h => by
    have hx := hl x List.mem_cons_self
    unfold gr
    rw [mayG_congr (H := H) (H' := H') (x := x) (fun y e => h y (e.trans hx)), gr_congr r (H := H ++ [x]) (H' := H' ++ [x]) (fun y hy => hl y (List.mem_cons_of_mem _ hy)) (fun y e => by rw [List.mem_append, List.mem_append, h y e])]
section
variable {K : Int → Prop} {s s' b S S1 : Ls} {G G1 : List Wt} {t j k : Int} {x : Wt}
theorem qk_key {y : Wt} (h : y ∈ s.qk j) : y.2.1 = j := (qk_mem.1 h).2
theorem qk_congr (h : s'.q = s.q) (j : Int) : s'.qk j = s.qk j := by unfold Ls.qk; rw [h]
theorem steps_lists (h : Steps K s G s') : s'.has = s.has ++ G ∧ s'.q = nin G s.q := by
  induction h with
  | nil => exact ⟨by simp, (nin_nil _).symm⟩
  | cons hq _ hm _ ih =>
    refine ⟨?_, ?_⟩
    · rw [ih.1]; unfold Ls.grant; simp
    · rw [ih.2, nin_cons]; rfl
theorem steps_key (h : Steps K s G s') : ∀ y ∈ G, K y.2.1 := by
  induction h with
  | nil => exact fun _ h => absurd h List.not_mem_nil
  | cons hq hK _ _ ih =>
    intro y hy
    rcases List.mem_cons.1 hy with rfl | hy
    · exact hK
    · exact ih y hy
theorem steps_ne (h : Steps K s G s') : Lok s → ¬ K j → s'.qk j = s.qk j := by
  induction h with
  | nil => exact fun _ _ => rfl
  | cons hq hK hm _ ih =>
    rename_i s1 s2 x r G1 _
    intro hok hj
    have hx : x ∈ s1.q := (qk_mem.1 (by rw [hq]; exact List.mem_cons_self)).1
    rw [ih (hok.grant hx hm) hj, grant_qk_ne hok hx (fun e => hj (by rw [e]; exact hK))]
theorem steps_gr {p : Wt → Bool} (h : Steps K s G s') : Lok s → (∀ y ∈ s.q, p y = true) → (K j → ∀ y ∈ s.has, p y = false → y.2.1 ≠ j) → gr (s.qk j) (s.has.filter p) = G.filter (fun y => y.2.1 == j) ++ gr (s'.qk j) (s'.has.filter p) := by
  induction h with
  | nil => exact fun _ _ _ => by simp
  | cons hq hK hm _ ih =>
    rename_i s1 s2 x r G1 _
    intro hok hp hj
    have hx : x ∈ s1.q := (qk_mem.1 (by rw [hq]; exact List.mem_cons_self)).1
    have hpx := hp x hx
    have hfl : (s1.grant x).has.filter p = s1.has.filter p ++ [x] := by unfold Ls.grant; rw [List.filter_append]; simp [hpx]
    have hih := ih (hok.grant hx hm) (fun y hy => hp y (List.mem_filter.1 hy).1) (fun hk y hy e => by
      rcases List.mem_append.1 hy with hy | hy
      · exact hj hk y hy e
      · rw [show y = x by simpa using hy, hpx] at e; cases e)
    rw [hfl] at hih
    by_cases e : x.2.1 = j
    · subst e
      rw [grant_qk hok hq] at hih
      have hm2 : mayG (s1.has.filter p) x = true := mayG_mono hm (fun y hy => (List.mem_filter.1 hy).1)
      rw [hq]
      show (if mayG _ x = true then _ else _) = _
      rw [if_pos hm2, hih, List.filter_cons, if_pos (by simp)]
      rfl
    · rw [grant_qk_ne hok hx (fun h => e h.symm)] at hih
      rw [List.filter_cons, if_neg (by simpa using e), ← hih]
      refine gr_congr (k := j) _ (fun y hy => qk_key hy) (fun y hy => ?_)
      rw [List.mem_append]
      exact ⟨.inl, fun h => h.resolve_right (fun h => e (by rw [← show y = x by simpa using h]; exact hy))⟩
theorem stb_gr (h : Stb s j) : gr (s.qk j) s.has = [] := by
  cases e : s.qk j with
  | nil => rfl
  | cons x r =>
    show (if mayG _ x = true then _ else _) = _
    rw [if_neg (by rw [h x r e]; decide)]
theorem stb_ne (hq : s'.qk j = s.qk j) (hm : ∀ y : Wt, y.2.1 = j → (y ∈ s'.has ↔ y ∈ s.has)) (h : Stb s j) : Stb s' j := by
  intro x r e
  have hx : x.2.1 = j := qk_key (by rw [e]; exact List.mem_cons_self)
  rw [mayG_congr (fun y hy => hm y (hy.trans hx))]
  exact h x r (by rw [← hq]; exact e)
theorem filt_append (l m : List Wt) (j : Int) : (l ++ m).filter (fun y => y.2.1 == j) = l.filter (fun y => y.2.1 == j) ++ m.filter (fun y => y.2.1 == j) := List.filter_append ..
/-- Amid Free: G was granted so far. -/
structure Pr (t : Int) (b S : Ls) (G : List Wt) : Prop where
  ok : Lok S
  nq : ∀ y ∈ S.q, y.1 ≠ t
  has : wo t S.has = wo t b.has ++ G
  q : S.q = nin G b.q
  gr : ∀ j, gr (b.qk j) (wo t b.has) = G.filter (fun y => y.2.1 == j) ++ gr (S.qk j) (wo t S.has)
  stb : ∀ j, Stb S j
  sum : S.has.length + S.q.length ≤ b.has.length + b.q.length
  sub : ∀ y ∈ G, y ∈ b.q
theorem Pr.step (h : Pr t b S G) (hs : Steps (· = k) (S.drop t k) G1 S1) (hb : Stb S1 k) : Pr t b S1 (G ++ G1) := by
  have hd := h.ok.drop t k
  have hl := steps_lists hs
  have hk := steps_key hs
  have hq := steps_q hs
  have hw : wo t (S.drop t k).has = wo t S.has := by
    unfold wo Ls.drop
    show (S.has.filter _).filter _ = _
    rw [List.filter_filter]
    apply List.filter_congr
    intro y _
    cases y.1 == t <;> simp
  have hG1 : wo t G1 = G1 := wo_self (fun y hy => h.nq y (hq.2 y hy))
  refine ⟨steps_lok hs hd, fun y hy => h.nq y (hq.1 y hy), ?_, ?_, fun j => ?_, fun j => ?_, Nat.le_trans (steps_sum hs).1 (Nat.le_trans (drop_sum S t k) h.sum), fun y hy => ?_⟩
  rotate_right
  · rcases List.mem_append.1 hy with hy | hy
    · exact h.sub y hy
    · have h1 : y ∈ S.q := hq.2 y hy
      rw [h.q] at h1
      exact (List.mem_filter.1 h1).1
  · rw [hl.1, wo_append, hw, hG1, h.has, List.append_assoc]
  · rw [hl.2, nin_append]; exact congrArg _ h.q
  · have := steps_gr (j := j) (p := fun y => !(y.1 == t)) hs hd (fun y hy => by simpa using h.nq y hy) (fun e y hy hp => by
      have h1 := (List.mem_filter.1 hy).2
      have h2 : (y.1 == t) = true := by simpa using hp
      rw [h2, Bool.true_and, Bool.not_eq_true', beq_eq_false_iff_ne] at h1
      rw [e]; exact h1)
    rw [h.gr j, filt_append, List.append_assoc]
    congr 1
    rw [← hw]
    exact this
  · by_cases e : j = k
    · rw [e]; exact hb
    · refine stb_ne (s := S) (show S1.qk j = (S.drop t k).qk j from steps_ne hs hd e) (fun y hy => ?_) (h.stb j)
      rw [hl.1, List.mem_append]
      unfold Ls.drop
      rw [List.mem_filter]
      constructor
      · rintro (h1 | h1)
        · exact h1.1
        · exact absurd (hy.symm.trans (hk y h1)) e
      · intro h1
        refine .inl ⟨h1, ?_⟩
        have : (y.2.1 == k) = false := by rw [beq_eq_false_iff_ne, hy]; exact e
        rw [this]; simp
theorem Pr.start {s0 : Ls} {G0 : List Wt} (hok : Lok s) (hst : ∀ j, Stb s j) (h : Lv s t G0 s0) : Pr t (s.leave t) s0 G0 := by
  rcases h with ⟨h1, rfl, rfl⟩ | ⟨kk, al, hx, hs, hb⟩
  · have hn : ∀ y ∈ s0.q, y.1 ≠ t := fun y hy e => List.any_eq_false.1 h1 y hy (by simpa using e)
    have hq : (s0.leave t).q = s0.q := wo_self hn
    refine ⟨hok, hn, by simp; rfl, ?_, fun j => ?_, hst, by rw [hq]; exact Nat.le_refl _, fun _ h => absurd h List.not_mem_nil⟩
    · rw [hq, nin_nil]
    · rw [qk_congr hq]; simp; rfl
  · have hd := hok.leave t
    have hl := steps_lists hs
    have hk := steps_key hs
    have hq := steps_q hs
    have hnq : ∀ y ∈ (s.leave t).q, y.1 ≠ t := fun y hy => by simpa using (List.mem_filter.1 hy).2
    have hG1 : wo t G0 = G0 := wo_self (fun y hy => hnq y (hq.2 y hy))
    refine ⟨steps_lok hs hd, fun y hy => hnq y (hq.1 y hy), ?_, hl.2, fun j => ?_, fun j => ?_, (steps_sum hs).1, hq.2⟩
    · rw [hl.1, wo_append, hG1]
    · exact steps_gr (j := j) (p := fun y => !(y.1 == t)) hs hd (fun y hy => by simpa using hnq y hy) (fun e y hy hp e2 => by
        have h2 : y.1 = t := by simpa using hp
        exact hok.dis _ hx y hy h2.symm (e.symm.trans e2.symm))
    · by_cases e : j = kk
      · rw [e]; exact hb
      · refine stb_ne (s := s) ?_ (fun y hy => ?_) (hst j)
        · rw [steps_ne hs hd e]
          unfold Ls.qk Ls.leave
          show (s.q.filter _).filter _ = _
          rw [List.filter_filter]
          apply List.filter_congr
          intro y hy
          by_cases e2 : y.1 = t
          · have h3 : y = (t, kk, al) := hok.one hy hx e2
            have : (y.2.1 == j) = false := by rw [beq_eq_false_iff_ne, h3]; exact fun h => e h.symm
            rw [this]; simp
          · have : (y.1 == t) = false := by rw [beq_eq_false_iff_ne]; exact e2
            rw [this]; simp
        · rw [hl.1, List.mem_append]
          exact ⟨fun h => h.resolve_right (fun h1 => e (hy.symm.trans (hk y h1))), .inl⟩
/-- What Free leaves, and what it grants. -/
structure Fre (s : Ls) (t : Int) (G : List Wt) (s' : Ls) : Prop where
  ok : Lok s'
  has : s'.has = wo t s.has ++ G
  q : s'.q = nin G (wo t s.q)
  gr : ∀ j, G.filter (fun y => y.2.1 == j) = gr ((wo t s.q).filter (fun y => y.2.1 == j)) (wo t s.has)
  stb : ∀ j, Stb s' j
  sum : s'.has.length + s'.q.length ≤ s.has.length + s.q.length
  sub : ∀ y ∈ G, y ∈ s.q ∧ y.1 ≠ t
theorem fre_of {s0 : Ls} {G0 E : List Wt} (hok : Lok s) (hst : ∀ j, Stb s j) (hv : Lv s t G0 s0) (hd : Dr t s0 E G s') (ha : Am t s' s'.has []) : Fre s t (G0 ++ G) s' := by
  have hp : Pr t (s.leave t) s' (G0 ++ G) := by
    clear ha
    induction hd with
    | nil => rw [List.append_nil]; exact Pr.start hok hst hv
    | snoc _ _ hs hb ih => rw [← List.append_assoc]; exact ih.step hs hb
  have hs' : wo t s'.has = s'.has := wo_self ha.nh
  refine ⟨hp.ok, by rw [← hs']; exact hp.has, hp.q, fun j => ?_, hp.stb, Nat.le_trans hp.sum (Nat.add_le_add_left (List.length_filter_le _ _) _), fun y hy => ?_⟩
  rotate_right
  · have h1 := hp.sub y hy
    exact ⟨(List.mem_filter.1 h1).1, by simpa using (List.mem_filter.1 h1).2⟩
  have := hp.gr j
  rw [hs', stb_gr (hp.stb j), List.append_nil] at this
  exact this.symm
/-- What Ask leaves. -/
def Ls.askR (s : Ls) (x : Wt) : Ls := if (s.qk x.2.1).isEmpty && mayG s.has x then ⟨s.has ++ [x], s.q⟩ else s.ask x
theorem ask_qk (s : Ls) (x : Wt) (j : Int) : (s.ask x).qk j = s.qk j ++ if x.2.1 = j then [x] else [] := by
  unfold Ls.qk Ls.ask
  show (s.q ++ [x]).filter _ = _
  rw [List.filter_append]
  congr 1
  by_cases e : x.2.1 = j <;> simp [e]
theorem ask_det (hok : Lok (s.ask x)) (hw : s.wait x.1 = false) (hst : ∀ j, Stb s j) (h : Steps (· = x.2.1) (s.ask x) G s') (hb : Stb s' x.2.1) : s' = s.askR x ∧ ∀ j, Stb s' j := by
  have hqx : (s.ask x).qk x.2.1 = s.qk x.2.1 ++ [x] := by rw [ask_qk, if_pos rfl]
  have he : s' = s.askR x := by
    unfold Ls.askR
    cases hq : s.qk x.2.1 with
    | cons y r =>
      rw [hq] at hqx
      rw [if_neg (by simp)]
      cases h with
      | nil => rfl
      | cons hq1 hK hm _ =>
        rw [hK, hqx] at hq1
        have h1 : y = _ := (List.cons.inj hq1).1
        have h2 := hst x.2.1 y r hq
        rw [h1] at h2
        rw [show (s.ask x).has = s.has from rfl, h2] at hm
        cases hm
    | nil =>
      rw [hq] at hqx
      cases hm : mayG s.has x with
      | false =>
        rw [if_neg (by simp)]
        cases h with
        | nil => rfl
        | cons hq1 hK hm1 _ =>
          rw [hK, hqx] at hq1
          have h1 : x = _ := (List.cons.inj hq1).1
          rw [← h1, show (s.ask x).has = s.has from rfl, hm] at hm1
          cases hm1
      | true =>
        rw [if_pos (by simp)]
        cases h with
        | nil =>
          have := hb x [] hqx
          rw [show (s.ask x).has = s.has from rfl, hm] at this
          cases this
        | cons hq1 hK hm1 hr =>
          rename_i x1 r1 G1
          rw [hK, hqx] at hq1
          obtain ⟨h1, h2⟩ := List.cons.inj hq1
          subst h1
          have h3 : ((s.ask x).grant x).qk x.2.1 = [] := grant_qk hok hqx
          have h4 : (s.ask x).grant x = ⟨s.has ++ [x], s.q⟩ := by
            unfold Ls.grant Ls.ask
            show Ls.mk (s.has ++ [x]) ((s.q ++ [x]).filter _) = _
            rw [List.filter_append, List.filter_eq_self.2 (fun y hy => by have := List.any_eq_false.1 hw y hy; simpa using this)]
            simp
          rw [← h4]
          cases hr with
          | nil => rfl
          | cons hq2 hK2 _ _ =>
            rw [hK2, h3] at hq2
            cases hq2
  refine ⟨he, fun j => ?_⟩
  by_cases e : x.2.1 = j
  · rw [← e]; exact hb
  · have hl := steps_lists h
    have hk := steps_key h
    refine stb_ne (s := s) ?_ (fun y hy => ?_) (hst j)
    · rw [steps_ne h hok (fun h => e h.symm), ask_qk, if_neg e, List.append_nil]
    · rw [hl.1, List.mem_append]
      exact ⟨fun h => h.resolve_right (fun h1 => e ((hk y h1).symm.trans hy)), .inl⟩
theorem perm_keys (h : ∀ j, G.filter (fun y => y.2.1 == j) = G1.filter (fun y => y.2.1 == j)) : G.Perm G1 := by
  rw [List.perm_iff_count]
  intro a
  have h1 := List.count_filter (l := G) (p := fun y => y.2.1 == a.2.1) (a := a) (by simp)
  have h2 := List.count_filter (l := G1) (p := fun y => y.2.1 == a.2.1) (a := a) (by simp)
  rw [← h1, ← h2, h]
end
end Go.Proofs.Ytgldkckhliklhaa
