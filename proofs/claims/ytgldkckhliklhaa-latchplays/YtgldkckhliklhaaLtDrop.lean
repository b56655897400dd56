/- latch: one that a task had is dropped. -/
import Derived.Test.YtgldkckhliklhaaLtSettle
namespace Go.Proofs.Ytgldkckhliklhaa
open Go.RowKit Go.Maps

section
variable {w w' : World} {own own' : Owner} {gt gl gh gw : Nat} {lb hb : Int → Nat} {KL TL : List Int} {c : Lc} {s : Ls} {R : Nat → Prop} {T : Tag}
theorem drop_ne {t k j : Int} (hj : j ≠ k) : cntS (s.drop t k).has j = cntS s.has j ∧ anyA (s.drop t k).has j = anyA s.has j := by
  have e : ∀ f : Wt → Bool, (∀ y, f y = true → y.2.1 = j) → (s.has.filter (fun y => !(y.1 == t && y.2.1 == k))).filter f = s.has.filter f := fun f hf => by
    rw [List.filter_filter]
    apply List.filter_congr
    intro y _
    cases h : f y with
    | false => simp
    | true =>
      have h1 : y.2.1 ≠ k := by rw [hf y h]; exact hj
      simp [h1]
  constructor
  · unfold cntS Ls.drop
    show ((s.has.filter _).filter _).length = _
    rw [e _ (fun y hy => by simp at hy; exact hy.1)]
  · have h1 : ∀ l : List Wt, anyA l j = !(l.filter (fun y => y.2.1 == j && y.2.2)).isEmpty := fun l => by
      unfold anyA
      induction l with
      | nil => rfl
      | cons a r ih =>
        rw [List.any_cons, List.filter_cons, ih]
        by_cases h : (a.2.1 == j && a.2.2) = true
        · rw [if_pos h, h]; rfl
        · rw [if_neg h, Bool.eq_false_iff.2 h]; rfl
    rw [h1, h1]
    show (!((s.has.filter _).filter _).isEmpty) = _
    rw [e _ (fun y hy => by simp at hy; exact hy.1)]
theorem Lok.hone (h : Lok s) {x y : Wt} (hx : x ∈ s.has) (hy : y ∈ s.has) (e1 : y.1 = x.1) (e2 : y.2.1 = x.2.1) : y = x := by
  obtain ⟨i, hi⟩ := List.getElem?_of_mem hy
  obtain ⟨j, hj⟩ := List.getElem?_of_mem hx
  have hij : i = j := (List.getElem?_inj (l := s.has.map (fun x => (x.1, x.2.1))) (by rw [List.length_map]; exact (List.getElem?_eq_some_iff.1 hi).1) h.hn).1 (by rw [List.getElem?_map, List.getElem?_map, hi, hj]; simp [e1, e2])
  subst hij
  rw [hi] at hj
  simpa using hj
theorem drop_alone (h : Lok s) {t k : Int} (hx : (t, k, true) ∈ s.has) : cntS (s.drop t k).has k = cntS s.has k ∧ anyA (s.drop t k).has k = false := by
  constructor
  · unfold cntS Ls.drop
    show ((s.has.filter _).filter _).length = _
    rw [List.filter_filter]
    congr 1
    apply List.filter_congr
    intro y hy
    by_cases e : y.1 = t ∧ y.2.1 = k
    · have := h.hone hx hy e.1 e.2
      rw [this]
      simp
    · cases h9 : (y.2.1 == k && !y.2.2) with
      | false => simp
      | true =>
        have : y.2.1 = k := by simp at h9; exact h9.1
        have h8 : y.1 ≠ t := fun e2 => e ⟨e2, this⟩
        simp [h8]
  · rw [anyA_not]
    intro y hy e
    obtain ⟨h1, h2⟩ := List.mem_filter.1 hy
    have h3 := h.al _ hx y h1 e.symm rfl
    rw [← h3] at h2
    simp at h2
theorem len_filter_one {f : Wt → Bool} {x : Wt} (hf : f x = true) : ∀ {l : List Wt}, l.Nodup → x ∈ l → (l.filter f).length = (l.filter (fun y => f y && !(y == x))).length + 1
  | [], _, h => absurd h List.not_mem_nil
  | a :: r, hn, h => by
    rw [List.nodup_cons] at hn
    by_cases e : a = x
    · subst e
      rw [List.filter_cons, if_pos hf, List.filter_cons, if_neg (by simp), List.length_cons]
      congr 2
      apply List.filter_congr
      intro y hy
      have : y ≠ a := fun e => hn.1 (by rw [← e]; exact hy)
      simp [this]
    · have hx : x ∈ r := (List.mem_cons.1 h).resolve_left (fun e2 => e e2.symm)
      have ih := len_filter_one hf hn.2 hx
      have e2 : (f a && !(a == x)) = f a := by simp [e]
      rw [List.filter_cons, List.filter_cons, e2]
      split
      · rw [List.length_cons, List.length_cons, ih]
      · exact ih
theorem drop_shared (h : Lok s) {t k : Int} (hx : (t, k, false) ∈ s.has) : cntS s.has k = cntS (s.drop t k).has k + 1 ∧ anyA (s.drop t k).has k = anyA s.has k := by
  have hnd : s.has.Nodup := (List.pairwise_map.1 h.hn).imp (fun h e => h (by rw [e]))
  constructor
  · have h1 := len_filter_one (f := fun y => y.2.1 == k && !y.2.2) (x := (t, k, false)) (by simp) hnd hx
    unfold cntS Ls.drop
    show _ = ((s.has.filter _).filter _).length + 1
    rw [h1, List.filter_filter]
    congr 2
    apply List.filter_congr
    intro y hy
    by_cases e : y = (t, k, false)
    · rw [e]; simp
    · cases h9 : (y.2.1 == k && !y.2.2) with
      | false => simp
      | true =>
        have hk : y.2.1 = k := by simp at h9; exact h9.1
        have h8 : y.1 ≠ t := fun e2 => e (h.hone hx hy e2 hk)
        have a1 : (y == (t, k, false)) = false := beq_eq_false_iff_ne.2 e
        have a2 : (y.1 == t) = false := beq_eq_false_iff_ne.2 h8
        rw [a1, a2]
        rfl
  · cases h9 : anyA s.has k with
    | false =>
      rw [anyA_not] at h9 ⊢
      exact fun y hy => h9 y (List.mem_filter.1 hy).1
    | true =>
      obtain ⟨y, hy, h1, h2⟩ := anyA_iff.1 h9
      have h3 := h.al y hy _ hx (by rw [h1]) h2
      rw [h3] at h2
      cases h2
/-- What a task had is dropped. -/
theorem ldrop_any {H : List Wt} (h : Lm w own gt gl gh gw lb hb KL TL (s.ch H)) (hok : Lok s) {t k : Int} {al : Bool} (hx : (t, k, al) ∈ s.has) : Calls Try.prog 22 #[ptr (lb k), .int .i64 (mode (t, k, al))] w fun e w' => e = .returned (.tuple #[]) ∧ Lm w' own gt gl gh gw lb hb KL TL ((s.drop t k).ch H) ∧ But (Wo own) w w' := by
  have hk : k ∈ KL := h.nok _ (.inl hx)
  obtain ⟨v, hbk, -⟩ := h.each k hk
  have hbk' : Blk w (lb k) 67 [.int .i64 (cntS s.has k : Int), .bool (anyA s.has k), v] := hbk
  have hlen : (s.drop t k).has.length ≤ 10000 := Nat.le_trans (List.length_filter_le _ _) h.lc
  have hW : ∀ b, b = lb k → Wo own b := fun b e => by rw [e]; show own _ ≠ _; rw [h.olb k hk]; exact fun e => nomatch e
  cases al with
  | true =>
    refine Calls.mono (ldrop_alone hbk') ?_
    rintro e w' ⟨rfl, rfl⟩
    have k4 := But.set1 w (lb k) 1 (.bool false)
    refine ⟨rfl, h.setC (hc := (s.drop t k).has) hk k4 (fun j hj => drop_ne hj) (fun u hu => ?_) (fun y hy => h.nok y (.inl (List.mem_filter.1 hy).1)) hlen, k4.mono (fun b _ e => hW b e)⟩
    have h5 := hu.set 1 (.bool false)
    obtain ⟨e1, e2⟩ := drop_alone hok hx
    rw [e1, e2]
    exact h5
  | false =>
    obtain ⟨e1, e2⟩ := drop_shared hok hx
    have hn : cntS (s.drop t k).has k ≤ 100000 := by
      have : cntS (s.drop t k).has k ≤ (s.drop t k).has.length := List.length_filter_le _ _
      omega
    rw [e1] at hbk'
    refine Calls.mono (ldrop_shared hbk' hn) ?_
    rintro e w' ⟨rfl, rfl⟩
    have k4 := But.set1 w (lb k) 0 (.int .i64 (cntS (s.drop t k).has k : Int))
    refine ⟨rfl, h.setC (hc := (s.drop t k).has) hk k4 (fun j hj => drop_ne hj) (fun u hu => ?_) (fun y hy => h.nok y (.inl (List.mem_filter.1 hy).1)) hlen, k4.mono (fun b _ e => hW b e)⟩
    have h5 := hu.set 0 (.int .i64 (cntS (s.drop t k).has k : Int))
    rw [e2]
    exact h5
end
end Go.Proofs.Ytgldkckhliklhaa
