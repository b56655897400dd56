/- The program's latches in memory; what is set anew. -/
import Derived.Test.YtgldkckhliklhaaLtMath
import Derived.Test.YtgldkckhliklhaaQueues
namespace Go.Proofs.Ytgldkckhliklhaa
open Go.RowKit Go.Maps

abbrev tL (k : Int) : Tag := .row (3 * kn k)
abbrev tQ (k : Int) : Tag := .row (3 * kn k + 1)
abbrev tH (k : Int) : Tag := .row (3 * kn k + 2)
theorem tL_inj {a b : Int} (h : tL a = tL b) : a = b := kn_inj (by simp only [Tag.row.injEq] at h; omega)
theorem tQ_inj {a b : Int} (h : tQ a = tQ b) : a = b := kn_inj (by simp only [Tag.row.injEq] at h; omega)
theorem tH_inj {a b : Int} (h : tH a = tH b) : a = b := kn_inj (by simp only [Tag.row.injEq] at h; omega)
theorem tLQ (a b : Int) : tL a ≠ tQ b := fun h => by simp only [Tag.row.injEq] at h; omega
theorem tLH (a b : Int) : tL a ≠ tH b := fun h => by simp only [Tag.row.injEq] at h; omega
theorem tQH (a b : Int) : tQ a ≠ tH b := fun h => by simp only [Tag.row.injEq] at h; omega
/-- What the counters, the held maps, the waits and the queues say, each by itself. -/
structure Lc where
  hc : List Wt
  hm : List Wt
  qw : List Wt
  qq : List Wt
def qkl (q : List Wt) (k : Int) : List Int := (q.filter (fun x => x.2.1 == k)).map (·.1)
abbrev wtv (x : Wt) : Value := .agg #[.int .i64 x.2.1, .bool x.2.2]
structure Lm (w : World) (own : Owner) (gt gl gh gw : Nat) (lb hb : Int → Nat) (KL TL : List Int) (c : Lc) : Prop where
  blk : Blk w gt 52 [.map (some gl), .map (some gh), .map (some gw)]
  lat : MapOf 3 w gl iv (fun k => ptr (lb k)) KL
  hel : MapOf 3 w gh iv (fun t => .map (some (hb t))) TL
  wai : MapOf 3 w gw (fun x : Wt => iv x.1) wtv c.qw
  each : ∀ k ∈ KL, ∃ v, Blk w (lb k) 67 [.int .i64 (cntS c.hc k : Int), .bool (anyA c.hc k), v] ∧ Qu w (Is own (tQ k)) v (qkl c.qq k)
  nok : ∀ x, x ∈ c.hc ∨ x ∈ c.qq → x.2.1 ∈ KL
  mps : ∀ t ∈ TL, MapOf 3 w (hb t) (fun x : Wt => iv x.2.1) (fun x => iv (mode x)) (c.hm.filter (fun x => x.1 == t))
  nom : ∀ x ∈ c.hm, x.1 ∈ TL
  ot : own gt = .dev
  ol : own gl = .sto
  oh : own gh = .map
  ow : own gw = .wri
  olb : ∀ k ∈ KL, own (lb k) = tL k
  ohb : ∀ t ∈ TL, own (hb t) = tH t
  lc : c.hc.length ≤ 10000
  lq : c.qq.length ≤ 10000
  top : Top w own
section
variable {w w' : World} {own own' : Owner} {gt gl gh gw : Nat} {lb hb : Int → Nat} {KL TL : List Int} {c : Lc} {R : Nat → Prop} {T : Tag}
theorem Lm.but (h : Lm w own gt gl gh gw lb hb KL TL c) (k : But R w w') (hr : ∀ b, own b ≠ .none → ¬ R b) : Lm w' own gt gl gh gw lb hb KL TL c := by
  have ne : ∀ b t, own b = t → t ≠ .none → ¬ R b := fun b t e ht => hr b (by rw [e]; exact ht)
  exact ⟨h.blk.but k (ne _ _ h.ot (by decide)), h.lat.but k (ne _ _ h.ol (by decide)), h.hel.but k (ne _ _ h.oh (by decide)), h.wai.but k (ne _ _ h.ow (by decide)), fun j hj => by
    obtain ⟨v, h1, h2⟩ := h.each j hj
    exact ⟨v, h1.but k (ne _ _ (h.olb j hj) (fun e => nomatch e)), h2.but k (fun b hb => ne _ _ hb (fun e => nomatch e)) (fun _ h => h)⟩, h.nok, fun t ht => (h.mps t ht).but k (ne _ _ (h.ohb t ht) (fun e => nomatch e)), h.nom, h.ot, h.ol, h.oh, h.ow, h.olb, h.ohb, h.lc, h.lq, h.top.grow k.size⟩
theorem Lm.grow (h : Lm w own gt gl gh gw lb hb KL TL c) (k : Grow w w') : Lm w' own gt gl gh gw lb hb KL TL c := h.but k (fun _ _ h => h)
/-- A latch's counters. -/
theorem Lm.setC (h : Lm w own gt gl gh gw lb hb KL TL c) {k : Int} (hk : k ∈ KL) {hc : List Wt} (kb : But (· = lb k) w w') (hne : ∀ j, j ≠ k → cntS hc j = cntS c.hc j ∧ anyA hc j = anyA c.hc j) (hb' : ∀ v, Blk w (lb k) 67 [.int .i64 (cntS c.hc k : Int), .bool (anyA c.hc k), v] → Blk w' (lb k) 67 [.int .i64 (cntS hc k : Int), .bool (anyA hc k), v])
    (hn : ∀ x ∈ hc, x.2.1 ∈ KL) (hl : hc.length ≤ 10000) : Lm w' own gt gl gh gw lb hb KL TL { c with hc := hc } := by
  have ne : ∀ {b t}, own b = t → t ≠ tL k → ¬ (b = lb k) := fun {b t} e ht e2 => ht (by rw [← e, e2]; exact h.olb k hk)
  refine ⟨h.blk.but kb (ne h.ot (fun e => nomatch e)), h.lat.but kb (ne h.ol (fun e => nomatch e)), h.hel.but kb (ne h.oh (fun e => nomatch e)), h.wai.but kb (ne h.ow (fun e => nomatch e)), fun j hj => ?_, fun x hx => hx.elim (hn x) (fun e => h.nok x (.inr e)), fun t ht => (h.mps t ht).but kb (ne (h.ohb t ht) (fun e => tLH _ _ e.symm)), h.nom, h.ot, h.ol, h.oh, h.ow, h.olb, h.ohb, hl, h.lq, h.top.grow kb.size⟩
  obtain ⟨v, h1, h2⟩ := h.each j hj
  have h3 := h2.but kb (fun b hb => ne hb (fun e => tLQ _ _ e.symm)) (fun _ h => h)
  by_cases e : j = k
  · subst e
    exact ⟨v, hb' v h1, h3⟩
  · have h4 := hne j e
    refine ⟨v, ?_, h3⟩
    rw [h4.1, h4.2]
    exact h1.but kb (ne (h.olb j hj) (fun e2 => e (tL_inj e2)))
/-- A latch's queue. -/
theorem Lm.setQ (h : Lm w own gt gl gh gw lb hb KL TL c) {k : Int} (hk : k ∈ KL) {qq : List Wt} (hx : Ext own own') (top : Top w' own') (kb : But (fun b => b = lb k ∨ own b = tQ k) w w') (hne : ∀ j, j ≠ k → qkl qq j = qkl c.qq j) {v' : Value} (hb' : ∀ v, Blk w (lb k) 67 [.int .i64 (cntS c.hc k : Int), .bool (anyA c.hc k), v] → Blk w' (lb k) 67 [.int .i64 (cntS c.hc k : Int), .bool (anyA c.hc k), v'])
    (hq : Qu w' (Is own' (tQ k)) v' (qkl qq k)) (hn : ∀ x ∈ qq, x.2.1 ∈ KL) (hl : qq.length ≤ 10000) : Lm w' own' gt gl gh gw lb hb KL TL { c with qq := qq } := by
  have ne : ∀ {b t}, own b = t → t ≠ tL k → t ≠ tQ k → ¬ (b = lb k ∨ own b = tQ k) := fun {b t} e ht hq e2 => by
    rcases e2 with e2 | e2
    · exact ht (by rw [← e, e2]; exact h.olb k hk)
    · exact hq (by rw [← e]; exact e2)
  have tg : ∀ {g : Nat} {t : Tag}, own g = t → t ≠ .none → own' g = t := fun {g t} h1 h2 => (hx g (by rw [h1]; exact h2)).trans h1
  refine ⟨h.blk.but kb (ne h.ot (fun e => nomatch e) (fun e => nomatch e)), h.lat.but kb (ne h.ol (fun e => nomatch e) (fun e => nomatch e)), h.hel.but kb (ne h.oh (fun e => nomatch e) (fun e => nomatch e)), h.wai.but kb (ne h.ow (fun e => nomatch e) (fun e => nomatch e)), fun j hj => ?_, fun x hx => hx.elim (fun e => h.nok x (.inl e)) (hn x), fun t ht => (h.mps t ht).but kb (ne (h.ohb t ht) (fun e => tLH _ _ e.symm) (fun e => tQH _ _ e.symm)), h.nom, tg h.ot (by decide), tg h.ol (by decide), tg h.oh (by decide), tg h.ow (by decide), fun j hj => tg (h.olb j hj) (fun e => nomatch e), fun j hj => tg (h.ohb j hj) (fun e => nomatch e), h.lc, hl, top⟩
  obtain ⟨v, h1, h2⟩ := h.each j hj
  by_cases e : j = k
  · subst e
    exact ⟨v', hb' v h1, hq⟩
  · refine ⟨v, h1.but kb (ne (h.olb j hj) (fun e2 => e (tL_inj e2)) (fun e2 => tLQ _ _ e2)), ?_⟩
    rw [hne j e]
    exact h2.but kb (fun b hb => ne hb (fun e2 => tLQ _ _ e2.symm) (fun e2 => e (tQ_inj e2))) (hx.is (fun e => nomatch e))
/-- Who waits. -/
theorem Lm.setW (h : Lm w own gt gl gh gw lb hb KL TL c) {qw : List Wt} (kb : But (· = gw) w w') (hm : MapOf 3 w' gw (fun x : Wt => iv x.1) wtv qw) : Lm w' own gt gl gh gw lb hb KL TL { c with qw := qw } := by
  have ne : ∀ {b t}, own b = t → t ≠ .wri → ¬ (b = gw) := fun {b t} e ht e2 => ht (by rw [← e, e2]; exact h.ow)
  exact ⟨h.blk.but kb (ne h.ot (by decide)), h.lat.but kb (ne h.ol (by decide)), h.hel.but kb (ne h.oh (by decide)), hm, fun j hj => by
    obtain ⟨v, h1, h2⟩ := h.each j hj
    exact ⟨v, h1.but kb (ne (h.olb j hj) (fun e => nomatch e)), h2.but kb (fun b hb => ne hb (fun e => nomatch e)) (fun _ h => h)⟩, h.nok, fun t ht => (h.mps t ht).but kb (ne (h.ohb t ht) (fun e => nomatch e)), h.nom, h.ot, h.ol, h.oh, h.ow, h.olb, h.ohb, h.lc, h.lq, h.top.grow kb.size⟩
/-- What a task has. -/
theorem Lm.setH (h : Lm w own gt gl gh gw lb hb KL TL c) {t : Int} (ht : t ∈ TL) {hm : List Wt} (kb : But (· = hb t) w w') (hmm : MapOf 3 w' (hb t) (fun x : Wt => iv x.2.1) (fun x => iv (mode x)) (hm.filter (fun x => x.1 == t))) (hne : ∀ j, j ≠ t → hm.filter (fun x => x.1 == j) = c.hm.filter (fun x => x.1 == j)) (hn : ∀ x ∈ hm, x.1 ∈ TL) : Lm w' own gt gl gh gw lb hb KL TL { c with hm := hm } := by
  have ne : ∀ {b t'}, own b = t' → t' ≠ tH t → ¬ (b = hb t) := fun {b t'} e ht' e2 => ht' (by rw [← e, e2]; exact h.ohb t ht)
  refine ⟨h.blk.but kb (ne h.ot (fun e => nomatch e)), h.lat.but kb (ne h.ol (fun e => nomatch e)), h.hel.but kb (ne h.oh (fun e => nomatch e)), h.wai.but kb (ne h.ow (fun e => nomatch e)), fun j hj => ?_, h.nok, fun j hj => ?_, hn, h.ot, h.ol, h.oh, h.ow, h.olb, h.ohb, h.lc, h.lq, h.top.grow kb.size⟩
  · obtain ⟨v, h1, h2⟩ := h.each j hj
    exact ⟨v, h1.but kb (ne (h.olb j hj) (tLH _ _)), h2.but kb (fun b hb => ne hb (tQH _ _)) (fun _ h => h)⟩
  · by_cases e : j = t
    · subst e; exact hmm
    · show MapOf _ _ _ _ _ (hm.filter _)
      rw [hne j e]
      exact (h.mps j hj).but kb (ne (h.ohb j hj) (fun e2 => e (tH_inj e2)))
/-- A task gets a map. -/
theorem Lm.addH (h : Lm w own gt gl gh gw lb hb KL TL c) {t : Int} (ht : t ∉ TL) {g : Nat} (hg : w.heap.size ≤ g) (hgl : g < w'.heap.size) (kb : But (· = gh) w w') (hm : MapOf 3 w' gh iv (fun j => .map (some (if j = t then g else hb j))) (TL ++ [t])) (hnew : MapOf 3 w' g (fun x : Wt => iv x.2.1) (fun x => iv (mode x)) []) :
    Lm w' (tagAt own g (tH t)) gt gl gh gw lb (fun j => if j = t then g else hb j) KL (TL ++ [t]) c := by
  have ne : ∀ {b t'}, own b = t' → t' ≠ .map → ¬ (b = gh) := fun {b t'} e ht' e2 => ht' (by rw [← e, e2]; exact h.oh)
  have hx : Ext own (tagAt own g (tH t)) := Ext.tagAt (.inl (h.top g hg))
  have tg : ∀ {g' : Nat} {t' : Tag}, own g' = t' → t' ≠ .none → tagAt own g (tH t) g' = t' := fun {g' t'} h1 h2 => (hx g' (by rw [h1]; exact h2)).trans h1
  refine ⟨h.blk.but kb (ne h.ot (by decide)), h.lat.but kb (ne h.ol (by decide)), hm, h.wai.but kb (ne h.ow (by decide)), fun j hj => ?_, h.nok, fun j hj => ?_, fun x hx => List.mem_append_left _ (h.nom x hx), tg h.ot (by decide), tg h.ol (by decide), tg h.oh (by decide), tg h.ow (by decide), fun j hj => tg (h.olb j hj) (fun e => nomatch e), fun j hj => ?_, h.lc, h.lq, (h.top.grow kb.size).tagAt hgl⟩
  · obtain ⟨v, h1, h2⟩ := h.each j hj
    exact ⟨v, h1.but kb (ne (h.olb j hj) (fun e => nomatch e)), h2.but kb (fun b hb => ne hb (fun e => nomatch e)) (hx.is (fun e => nomatch e))⟩
  · by_cases e : j = t
    · subst e
      simp only [if_true]
      rw [List.filter_eq_nil_iff.2 (fun x hx e => ht (by rw [← show x.1 = j by simpa using e]; exact h.nom x hx))]
      exact hnew
    · have hj' : j ∈ TL := by
        rcases List.mem_append.1 hj with h1 | h1
        · exact h1
        · exact absurd (by simpa using h1) e
      simp only [if_neg e]
      exact (h.mps j hj').but kb (ne (h.ohb j hj') (fun e => nomatch e))
  · by_cases e : j = t
    · subst e; simp only [if_true]; exact tagAt_own
    · have hj' : j ∈ TL := by
        rcases List.mem_append.1 hj with h1 | h1
        · exact h1
        · exact absurd (by simpa using h1) e
      simp only [if_neg e]
      exact tg (h.ohb j hj') (fun e => nomatch e)
/-- A task's map goes. -/
theorem Lm.delH (h : Lm w own gt gl gh gw lb hb KL TL c) (t : Int) {TL' : List Int} (kb : But (· = gh) w w') (hm : MapOf 3 w' gh iv (fun j => .map (some (hb j))) TL') (hTL : ∀ j, j ∈ TL' ↔ j ∈ TL ∧ j ≠ t) :
    Lm w' (tagAt own (hb t) (if t ∈ TL then .none else own (hb t))) gt gl gh gw lb hb KL TL' { c with hm := c.hm.filter (fun x => !(x.1 == t)) } := by
  have ne : ∀ {b t'}, own b = t' → t' ≠ .map → ¬ (b = gh) := fun {b t'} e ht' e2 => ht' (by rw [← e, e2]; exact h.oh)
  have tg : ∀ {g' : Nat} {t' : Tag}, own g' = t' → t' ≠ tH t → tagAt own (hb t) (if t ∈ TL then .none else own (hb t)) g' = t' := fun {g' t'} h1 h2 => by
    unfold tagAt
    by_cases e : g' = hb t
    · rw [if_pos e]
      by_cases e2 : t ∈ TL
      · exact absurd (by rw [← h1, e]; exact h.ohb t e2) h2
      · rw [if_neg e2, ← e]; exact h1
    · rw [if_neg e]; exact h1
  have hf : ∀ j, j ≠ t → (c.hm.filter (fun x => !(x.1 == t))).filter (fun x => x.1 == j) = c.hm.filter (fun x => x.1 == j) := fun j hj => by
    rw [List.filter_filter]
    apply List.filter_congr
    intro x _
    by_cases e : x.1 = j
    · simp [e, hj]
    · simp [e]
  refine ⟨h.blk.but kb (ne h.ot (by decide)), h.lat.but kb (ne h.ol (by decide)), hm, h.wai.but kb (ne h.ow (by decide)), fun j hj => ?_, h.nok, fun j hj => ?_, fun x hx => ?_, tg h.ot (fun e => nomatch e), tg h.ol (fun e => nomatch e), tg h.oh (fun e => nomatch e), tg h.ow (fun e => nomatch e), fun j hj => tg (h.olb j hj) (tLH _ _), fun j hj => tg (h.ohb j ((hTL j).1 hj).1) (fun e => ((hTL j).1 hj).2 (tH_inj e)), h.lc, h.lq, fun b hb' => ?_⟩
  · obtain ⟨v, h1, h2⟩ := h.each j hj
    exact ⟨v, h1.but kb (ne (h.olb j hj) (fun e => nomatch e)), h2.but kb (fun b hb => ne hb (fun e => nomatch e)) (fun b hb => tg hb (tQH _ _))⟩
  · obtain ⟨h1, h2⟩ := (hTL j).1 hj
    show MapOf _ _ _ _ _ ((c.hm.filter _).filter _)
    rw [hf j h2]
    exact (h.mps j h1).but kb (ne (h.ohb j h1) (fun e => nomatch e))
  · obtain ⟨h1, h2⟩ := List.mem_filter.1 hx
    exact (hTL x.1).2 ⟨h.nom x h1, by simpa using h2⟩
  · have h1 := (h.top.grow kb.size) b hb'
    unfold tagAt
    by_cases e : b = hb t
    · rw [if_pos e]
      by_cases e2 : t ∈ TL
      · rw [if_pos e2]
      · rw [if_neg e2, ← e]; exact h1
    · rw [if_neg e]; exact h1
/-- A latch more. -/
theorem Lm.addL (h : Lm w own gt gl gh gw lb hb KL TL c) {k : Int} (hk : k ∉ KL) {g : Nat} (hg : w.heap.size ≤ g) (hgl : g < w'.heap.size) (kb : But (· = gl) w w') (hm : MapOf 3 w' gl iv (fun j => ptr (if j = k then g else lb j)) (KL ++ [k])) (hnew : Blk w' g 67 [.int .i64 0, .bool false, .slice none 0 0]) :
    Lm w' (tagAt own g (tL k)) gt gl gh gw (fun j => if j = k then g else lb j) hb (KL ++ [k]) TL c := by
  have ne : ∀ {b t'}, own b = t' → t' ≠ .sto → ¬ (b = gl) := fun {b t'} e ht' e2 => ht' (by rw [← e, e2]; exact h.ol)
  have hx : Ext own (tagAt own g (tL k)) := Ext.tagAt (.inl (h.top g hg))
  have tg : ∀ {g' : Nat} {t' : Tag}, own g' = t' → t' ≠ .none → tagAt own g (tL k) g' = t' := fun {g' t'} h1 h2 => (hx g' (by rw [h1]; exact h2)).trans h1
  have hKL : ∀ j, j ∈ KL ++ [k] → j ≠ k → j ∈ KL := fun j hj e => by
    rcases List.mem_append.1 hj with h1 | h1
    · exact h1
    · exact absurd (by simpa using h1) e
  refine ⟨h.blk.but kb (ne h.ot (by decide)), hm, h.hel.but kb (ne h.oh (by decide)), h.wai.but kb (ne h.ow (by decide)), fun j hj => ?_, fun x hx => List.mem_append_left _ (h.nok x hx), fun t ht => (h.mps t ht).but kb (ne (h.ohb t ht) (fun e => nomatch e)), h.nom, tg h.ot (by decide), tg h.ol (by decide), tg h.oh (by decide), tg h.ow (by decide), fun j hj => ?_, fun j hj => tg (h.ohb j hj) (fun e => nomatch e), h.lc, h.lq, (h.top.grow kb.size).tagAt hgl⟩
  · by_cases e : j = k
    · subst e
      simp only [if_true]
      refine ⟨.slice none 0 0, ?_, ?_⟩
      · have h1 : cntS c.hc j = 0 := cntS_zero.2 (fun x hx e => absurd (by rw [← e]; exact h.nok x (.inl hx)) hk)
        have h2 : anyA c.hc j = false := anyA_not.2 (fun x hx e => absurd (by rw [← e]; exact h.nok x (.inl hx)) hk)
        rw [h1, h2]
        exact hnew
      · have h3 : qkl c.qq j = [] := by
          unfold qkl
          rw [List.filter_eq_nil_iff.2 (fun x hx e => hk (by rw [← show x.2.1 = j by simpa using e]; exact h.nok x (.inr hx)))]
          rfl
        rw [h3]
        exact Qu.nil _ _
    · simp only [if_neg e]
      obtain ⟨v, h1, h2⟩ := h.each j (hKL j hj e)
      exact ⟨v, h1.but kb (ne (h.olb j (hKL j hj e)) (fun e => nomatch e)), h2.but kb (fun b hb => ne hb (fun e => nomatch e)) (hx.is (fun e => nomatch e))⟩
  · by_cases e : j = k
    · subst e; simp only [if_true]; exact tagAt_own
    · simp only [if_neg e]
      exact tg (h.olb j (hKL j hj e)) (fun e => nomatch e)
/-- A latch that nobody has or wants goes. -/
theorem Lm.delL (h : Lm w own gt gl gh gw lb hb KL TL c) {k : Int} {KL' : List Int} (kb : But (· = gl) w w') (hm : MapOf 3 w' gl iv (fun j => ptr (lb j)) KL') (hKL : ∀ j, j ∈ KL' ↔ j ∈ KL ∧ j ≠ k) (hno : ∀ x, x ∈ c.hc ∨ x ∈ c.qq → x.2.1 ≠ k) : Lm w' own gt gl gh gw lb hb KL' TL c := by
  have ne : ∀ {b t'}, own b = t' → t' ≠ .sto → ¬ (b = gl) := fun {b t'} e ht' e2 => ht' (by rw [← e, e2]; exact h.ol)
  exact ⟨h.blk.but kb (ne h.ot (by decide)), hm, h.hel.but kb (ne h.oh (by decide)), h.wai.but kb (ne h.ow (by decide)), fun j hj => by
    obtain ⟨v, h1, h2⟩ := h.each j ((hKL j).1 hj).1
    exact ⟨v, h1.but kb (ne (h.olb j ((hKL j).1 hj).1) (fun e => nomatch e)), h2.but kb (fun b hb => ne hb (fun e => nomatch e)) (fun _ h => h)⟩, fun x hx => (hKL _).2 ⟨h.nok x hx, hno x hx⟩, fun t ht => (h.mps t ht).but kb (ne (h.ohb t ht) (fun e => nomatch e)), h.nom, h.ot, h.ol, h.oh, h.ow, fun j hj => h.olb j ((hKL j).1 hj).1, h.ohb, h.lc, h.lq, h.top.grow kb.size⟩
end
/-- New tags are on new memory only. -/
def Sub (w : World) (own own' : Owner) : Prop := ∀ b, own' b ≠ .none → own b ≠ .none ∨ w.heap.size ≤ b
theorem Sub.refl (w : World) (own : Owner) : Sub w own own := fun _ h => .inl h
theorem Sub.trans {w w' : World} {a b c : Owner} (h : Sub w a b) (hs : w.heap.size ≤ w'.heap.size) (k : Sub w' b c) : Sub w a c := fun i hi => by
  rcases k i hi with h1 | h1
  · exact h i h1
  · exact .inr (by omega)
theorem Sub.at {w : World} {own : Owner} {g : Nat} {t : Tag} (hg : w.heap.size ≤ g ∨ own g ≠ .none ∨ t = .none) : Sub w own (tagAt own g t) := fun b hb => by
  unfold tagAt at hb
  by_cases e : b = g
  · subst e
    rw [if_pos rfl] at hb
    rcases hg with h1 | h1 | h1
    · exact .inr h1
    · exact .inl h1
    · exact absurd h1 hb
  · rw [if_neg e] at hb
    exact .inl hb
/-- The table, with all at one. -/
def Ls.c (s : Ls) : Lc := ⟨s.has, s.has, s.q, s.q⟩
def Lt (w : World) (own : Owner) (gt : Nat) (s : Ls) : Prop := ∃ gl gh gw lb hb KL TL, Lm w own gt gl gh gw lb hb KL TL s.c
abbrev Wo (own : Owner) : Nat → Prop := fun b => own b ≠ .none
end Go.Proofs.Ytgldkckhliklhaa
