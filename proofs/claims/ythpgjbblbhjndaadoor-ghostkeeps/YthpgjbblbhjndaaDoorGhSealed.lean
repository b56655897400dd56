/- ghost: Sealed. -/
import Derived.Test.YthpgjbblbhjndaaDoorGhNote
namespace Go.Proofs.YthpgjbblbhjndaaDoor
open Go.RowKit

/-- A log some of whose parts already have what is being sealed. -/
structure LgX (w : World) (own : Owner) (gl : Nat) (P : List Pr) (Sm St Sb Ss O : List Tup) (nh no : Nat) (vi vc vm vt vb vs : Value) : Prop where
  top : Top w own
  tag : own gl = .log
  blk : Blk w gl 70 (lgc nh no vi vc vm vt vb vs)
  inm : InM w own vi P
  cla : Cla w own vc P
  sem : SeM w own vm Sm
  twi : Twi w own vt St
  blo : Blo w own vb Sb
  str : Str w own vs Ss O
theorem LgV.x {w : World} {own : Owner} {gl : Nat} {P : List Pr} {S O : List Tup} {nh no : Nat} {vi vc vm vt vb vs : Value} (h : LgV w own gl P S O nh no vi vc vm vt vb vs) : LgX w own gl P S S S S O nh no vi vc vm vt vb vs := ⟨h.top, h.tag, h.blk, h.inm, h.cla, h.sem, h.twi, h.blo, h.str⟩
theorem LgX.v {w : World} {own : Owner} {gl : Nat} {P : List Pr} {S O : List Tup} {nh no : Nat} {vi vc vm vt vb vs : Value} (h : LgX w own gl P S S S S O nh no vi vc vm vt vb vs) : LgV w own gl P S O nh no vi vc vm vt vb vs := ⟨h.top, h.tag, h.blk, h.inm, h.cla, h.sem, h.twi, h.blo, h.str⟩
section
variable {R : Nat → Prop} {w w' : World} {own own' : Owner} {gl : Nat} {P : List Pr} {Sm St Sb Ss Sm' St' Sb' O : List Tup} {nh no : Nat} {vi vc vm vm' vt vt' vb vb' vs : Value}
theorem LgX.but (h : LgX w own gl P Sm St Sb Ss O nh no vi vc vm vt vb vs) (k : But R w w') (hr : ∀ b, own b ≠ .none → ¬ R b) (he : Ext own own') (ht : Top w' own') : LgX w' own' gl P Sm St Sb Ss O nh no vi vc vm vt vb vs := by
  have hx : ∀ {b t}, own b = t → t ≠ .none → ¬ R b := fun h1 h2 => hr _ (by rw [h1]; exact h2)
  refine ⟨ht, he.is (by decide) gl h.tag, h.blk.but k (hx h.tag (by decide)), h.inm.but k ?_ he, h.cla.but k ?_ he, h.sem.but k ?_ he, h.twi.but k ?_ he, h.blo.but k ?_ he, h.str.but k ?_ he⟩
  all_goals intro b hb
  · rcases hb with hb | hb <;> exact hx hb (by decide)
  · rcases hb with hb | hb <;> exact hx hb (by decide)
  · rcases hb with hb | hb | ⟨e, n, hb⟩
    · exact hx hb (by decide)
    · exact hx hb (by decide)
    · exact hx hb (by simp)
  · rcases hb with hb | hb <;> exact hx hb (by decide)
  · rcases hb with hb | hb <;> exact hx hb (by decide)
  · rcases hb with hb | hb <;> exact hx hb (by decide)
theorem LgX.swapB (h : LgX w own gl P Sm St Sb Ss O nh no vi vc vm vt vb vs) (k : But R w w') (hr : ∀ b, own b ≠ .none → own b ≠ .log → own b ≠ .blo → ¬ R b) (he : Ext own own') (ht : Top w' own')
    (hb : Blk w' gl 70 (lgc nh no vi vc vm vt vb' vs)) (hn : Blo w' own' vb' Sb') : LgX w' own' gl P Sm St Sb' Ss O nh no vi vc vm vt vb' vs := by
  have hx : ∀ {b t}, own b = t → t ≠ .none → t ≠ .log → t ≠ .blo → ¬ R b := fun h1 h2 h3 h4 => hr _ (by rw [h1]; exact h2) (by rw [h1]; exact h3) (by rw [h1]; exact h4)
  refine ⟨ht, he.is (by decide) gl h.tag, hb, h.inm.but k ?_ he, h.cla.but k ?_ he, h.sem.but k ?_ he, h.twi.but k ?_ he, hn, h.str.but k ?_ he⟩
  all_goals intro b hb
  · rcases hb with hb | hb <;> exact hx hb (by decide) (by decide) (by decide)
  · rcases hb with hb | hb <;> exact hx hb (by decide) (by decide) (by decide)
  · rcases hb with hb | hb | ⟨e, n, hb⟩
    · exact hx hb (by decide) (by decide) (by decide)
    · exact hx hb (by decide) (by decide) (by decide)
    · exact hx hb (by simp) (by simp) (by simp)
  · rcases hb with hb | hb <;> exact hx hb (by decide) (by decide) (by decide)
  · rcases hb with hb | hb <;> exact hx hb (by decide) (by decide) (by decide)
theorem LgX.swapT (h : LgX w own gl P Sm St Sb Ss O nh no vi vc vm vt vb vs) (k : But R w w') (hr : ∀ b, own b ≠ .none → own b ≠ .log → own b ≠ .twi → ¬ R b) (he : Ext own own') (ht : Top w' own')
    (hb : Blk w' gl 70 (lgc nh no vi vc vm vt' vb vs)) (hn : Twi w' own' vt' St') : LgX w' own' gl P Sm St' Sb Ss O nh no vi vc vm vt' vb vs := by
  have hx : ∀ {b t}, own b = t → t ≠ .none → t ≠ .log → t ≠ .twi → ¬ R b := fun h1 h2 h3 h4 => hr _ (by rw [h1]; exact h2) (by rw [h1]; exact h3) (by rw [h1]; exact h4)
  refine ⟨ht, he.is (by decide) gl h.tag, hb, h.inm.but k ?_ he, h.cla.but k ?_ he, h.sem.but k ?_ he, hn, h.blo.but k ?_ he, h.str.but k ?_ he⟩
  all_goals intro b hb
  · rcases hb with hb | hb <;> exact hx hb (by decide) (by decide) (by decide)
  · rcases hb with hb | hb <;> exact hx hb (by decide) (by decide) (by decide)
  · rcases hb with hb | hb | ⟨e, n, hb⟩
    · exact hx hb (by decide) (by decide) (by decide)
    · exact hx hb (by decide) (by decide) (by decide)
    · exact hx hb (by simp) (by simp) (by simp)
  · rcases hb with hb | hb <;> exact hx hb (by decide) (by decide) (by decide)
  · rcases hb with hb | hb <;> exact hx hb (by decide) (by decide) (by decide)
theorem LgX.swapM (h : LgX w own gl P Sm St Sb Ss O nh no vi vc vm vt vb vs) (k : But R w w') (hr : ∀ b, own b ≠ .none → own b ≠ .log → own b ≠ .sem → (∀ e n, own b ≠ .row e n) → ¬ R b) (he : Ext own own') (ht : Top w' own')
    (hb : Blk w' gl 70 (lgc nh no vi vc vm' vt vb vs)) (hn : SeM w' own' vm' Sm') : LgX w' own' gl P Sm' St Sb Ss O nh no vi vc vm' vt vb vs := by
  have hx : ∀ {b t}, own b = t → t ≠ .none → t ≠ .log → t ≠ .sem → (∀ e n, t ≠ .row e n) → ¬ R b := fun h1 h2 h3 h4 h5 => hr _ (by rw [h1]; exact h2) (by rw [h1]; exact h3) (by rw [h1]; exact h4) (by rw [h1]; exact h5)
  refine ⟨ht, he.is (by decide) gl h.tag, hb, h.inm.but k ?_ he, h.cla.but k ?_ he, hn, h.twi.but k ?_ he, h.blo.but k ?_ he, h.str.but k ?_ he⟩
  all_goals intro b hb
  · rcases hb with hb | hb <;> exact hx hb (by decide) (by decide) (by decide) (by simp)
  · rcases hb with hb | hb <;> exact hx hb (by decide) (by decide) (by decide) (by simp)
  · rcases hb with hb | hb <;> exact hx hb (by decide) (by decide) (by decide) (by simp)
  · rcases hb with hb | hb <;> exact hx hb (by decide) (by decide) (by decide) (by simp)
  · rcases hb with hb | hb <;> exact hx hb (by decide) (by decide) (by decide) (by simp)
end
theorem byUse_add (S : List Tup) (T : Tup) (e : Nat) (n : List Nat) : byUse (S ++ [T]) e n = if T.1 = e ∧ T.2.1 = n then byUse S e n ++ [T] else byUse S e n := by
  unfold byUse
  rw [List.filter_append]
  by_cases h : T.1 = e ∧ T.2.1 = n
  · simp [h]
  · simp [h]
theorem outOf_add (S O : List Tup) (T : Tup) : outOf (S ++ [T]) O = (outOf S O).filter fun o => decide (o ≠ T) := by
  unfold outOf
  rw [List.filter_filter]
  congr 1
  funext o
  by_cases h1 : o ∈ S <;> by_cases h2 : o = T <;> simp [h1, h2]
theorem Str.grow {w : World} {own : Owner} {v : Value} {S O : List Tup} (h : Str w own v S O) (T : Tup) : Str w own v (S ++ [T]) O := by
  obtain ⟨L, h1, h2⟩ := h
  exact ⟨L, h1, by rw [outOf_add, outOf_add, h2.1], h2.2⟩
theorem Blo.add {w' : World} {own' : Owner} {vb : Value} {S : List Tup} {T : Tup} {u : Value} {L : List BE} (hL : L.map (·.2) = S.map (·.2.2.2)) (he : ∀ e ∈ L, Bf w' (Is own' .byt) e.1 e.2) (hr : RowOf w' (Is own' .blo) 31 1 vb (L.length + 1) (L.map (·.1) ++ [u])) (hu : Bf w' (Is own' .byt) u T.2.2.2) : Blo w' own' vb (S ++ [T]) := by
  refine ⟨L ++ [(u, T.2.2.2)], ⟨?_, fun e h => ?_⟩, by simp [hL]⟩
  · rw [List.length_append, List.length_singleton, List.map_append]; exact hr
  · rcases List.mem_append.1 h with h | h
    · exact he e h
    · obtain rfl : e = (u, T.2.2.2) := by simpa using h
      exact hu
theorem tk_old (S : List Tup) (T : Tup) : ∀ k l, k < l → l < S.length → tk (S ++ [T]) k l = tk S k l := by
  intro k l h1 h2
  unfold tk
  rw [getD_add_lt S T t0 (by omega), getD_add_lt S T t0 h2]
theorem tk_at (S : List Tup) (T : Tup) {k : Nat} (hk : k < S.length) : tk (S ++ [T]) k S.length = decide ((S.getD k t0).1 = T.1 ∧ (S.getD k t0).2.1 = T.2.1) := by
  unfold tk
  rw [getD_add_lt S T t0 hk, getD_add_eq]
theorem tk_none {S : List Tup} {T : Tup} (h : byUse S T.1 T.2.1 = []) : ∀ k, k < S.length → tk (S ++ [T]) k S.length = false := by
  intro k hk
  rw [tk_at S T hk]
  unfold byUse at h
  rw [List.filter_eq_nil_iff] at h
  have h2 := h (S.getD k t0) (by simp [List.getD, hk])
  simpa using h2
theorem tk_new {S : List Tup} {T a : Tup} {l : List Tup} (h : byUse S T.1 T.2.1 = a :: l) : ∃ i, i < S.length ∧ tk (S ++ [T]) i S.length = true ∧ (∀ k, k < i → tk (S ++ [T]) k S.length = false) ∧ (S ++ [T]).getD i t0 = a := by
  unfold byUse at h
  have hf : S.find? (fun t => decide (t.1 = T.1 ∧ t.2.1 = T.2.1)) = some a := by
    rw [← List.head?_filter, h]; rfl
  obtain ⟨h1, i, hi, h2, h3⟩ := List.find?_eq_some_iff_getElem.1 hf
  have e : S.getD i t0 = a := by simp [List.getD, hi, h2]
  refine ⟨i, hi, ?_, fun k hk => ?_, by rw [getD_add_lt S T t0 hi, e]⟩
  · rw [tk_at S T hi, e]; exact h1
  · rw [tk_at S T (by omega)]
    have h4 := h3 k hk
    have e2 : S.getD k t0 = S[k] := by simp [List.getD, show k < S.length by omega]
    rw [e2]
    cases hd : decide (S[k].1 = T.1 ∧ S[k].2.1 = T.2.1) with
    | false => rfl
    | true => simp only [hd] at h4; cases h4
theorem Twi.keep {w : World} {own : Owner} {v : Value} {S : List Tup} {T : Tup} (h : Twi w own v S) (hn : Fst2 (tk S) S.length none → ∀ k, k < S.length → tk (S ++ [T]) k S.length = false) : Twi w own v (S ++ [T]) := by
  obtain ⟨L, h1, h2⟩ := h
  refine ⟨L, h1, ?_⟩
  rw [List.length_append, List.length_singleton]
  rcases h2 with ⟨h2, h3⟩ | ⟨i, j, h2, h3⟩
  · exact .inl ⟨h2, h3.still (tk_old S T) (hn h3)⟩
  · refine .inr ⟨i, j, h2.stay (tk_old S T), ?_⟩
    have hj := h2.2.1
    have hi := h2.1
    rw [getD_add_lt S T t0 (by omega), getD_add_lt S T t0 hj]
    exact h3
/-- The map of seals has one more. -/
theorem SeM.put {w w' : World} {own own' : Owner} {b : Nat} {M M' : List (Value × Value)} {S : List Tup} {T : Tup} {u : Value} {L : List TE} {va vs : Value}
    (hM : ∀ e n, wfU e n → ∃ u L, TRow w (Is own (.row e n)) (Is own .byt) u L ∧ L.map (·.1) = byUse S e n ∧ ((ukey e n, u) ∈ M ∨ ((∀ p ∈ M, p.1 ≠ ukey e n) ∧ u = .slice none 0 0 ∧ L = [])))
    (hmp : Mp Tryd.prog 80 w' b M') (hin : (ukey T.1 T.2.1, u) ∈ M') (hot : ∀ k v, k ≠ ukey T.1 T.2.1 → ((k, v) ∈ M' ↔ (k, v) ∈ M))
    {R : Nat → Prop} (hk : But R w w') (hr : ∀ c, own c = .byt ∨ (∃ e n, own c = .row e n ∧ ¬ (e = T.1 ∧ n = T.2.1)) → ¬ R c) (he : Ext own own') (hb : own' b = .sem) (hL : L.map (·.1) = byUse S T.1 T.2.1)
    (hrow : TRow w' (Is own' (.row T.1 T.2.1)) (Is own' .byt) u (L ++ [(T, va, vs)])) : SeM w' own' (.map (some b)) (S ++ [T]) := by
  refine ⟨M', .inr ⟨b, rfl, hb, hmp⟩, fun e n hU => ?_⟩
  rw [byUse_add]
  by_cases hen : T.1 = e ∧ T.2.1 = n
  · obtain ⟨rfl, rfl⟩ := hen
    rw [if_pos ⟨rfl, rfl⟩]
    exact ⟨u, _, hrow, by simp [hL], .inl hin⟩
  · rw [if_neg hen]
    obtain ⟨u2, L2, h1, h2, h3⟩ := hM e n hU
    have hne : ukey e n ≠ ukey T.1 T.2.1 := fun e2 => by have := ukey_inj e2; exact hen ⟨this.1.symm, this.2.symm⟩
    refine ⟨u2, L2, h1.but hk (fun j hj => hr j (.inr ⟨e, n, hj, fun h => hen ⟨h.1.symm, h.2.symm⟩⟩)) (fun j hj => hr j (.inl hj)) (he.is (by simp)) (he.is (by decide)), h2, ?_⟩
    rcases h3 with h3 | ⟨h3, h4⟩
    · exact .inl ((hot _ _ hne).2 h3)
    · refine .inr ⟨fun p hp e2 => ?_, h4⟩
      have : p.1 ≠ ukey T.1 T.2.1 := by rw [e2]; exact hne
      exact h3 p ((hot p.1 p.2 this).1 hp) e2
theorem tc_one {w : World} {G : Nat → Prop} {e : TE} (h : Tv w G e.1 e.2.1 e.2.2) : ∀ u ∈ tc e, u.oneCell' = true := h.one
theorem tc_len {w : World} {G : Nat → Prop} {e : TE} (h : Tv w G e.1 e.2.1 e.2.2) : (tc e).length = 15 := tcells_len h.nl _ _
theorem zTs (w : World) : (zeroValue 39).run Tryd.prog w = .ok (.slice none 0 0) w := by kernel_rfl
/-- What holds between two parts of Sealed. -/
structure SeI (w : World) (own : Owner) (gl g0 : Nat) (T : Tup) (va vs : Value) (W : World) (own' : Owner) : Prop where
  but : But (fun b => own b ≠ .none) w W
  ext : Ext own own'
  fresh : Fresh w own own'
  box : Blk W g0 46 (tcells T va vs)
  free : own' g0 = .none
  tv : Tv W (Is own' .byt) T va vs
theorem SeI.grow {w : World} {own : Owner} {gl g0 : Nat} {T : Tup} {va vs : Value} {W W' : World} {own' : Owner} (h : SeI w own gl g0 T va vs W own') (k : Grow W W') : SeI w own gl g0 T va vs W' own' :=
  ⟨h.but.trans (k.mono (fun _ _ h => h.elim)), h.ext, h.fresh, h.box.but k (fun h => h), h.free, h.tv.then k⟩
/-- The like ahead of the last part. -/
structure SeJ (W : World) (own : Owner) (gl : Nat) (P : List Pr) (S O : List Tup) (T : Tup) (b : Nat) (M : List (Value × Value)) (u : Value) (Lu : List TE) (np no : Nat) (vi vc vt vb vq : Value) : Prop where
  x : LgX W own gl P S (S ++ [T]) (S ++ [T]) S O np no vi vc (.map (some b)) vt vb vq
  mp : Mp Tryd.prog 80 W b M
  bs : own b = .sem
  row : TRow W (Is own (.row T.1 T.2.1)) (Is own .byt) u Lu
  all : ∀ e n, wfU e n → ∃ u L, TRow W (Is own (.row e n)) (Is own .byt) u L ∧ L.map (·.1) = byUse S e n ∧ ((ukey e n, u) ∈ M ∨ ((∀ p ∈ M, p.1 ≠ ukey e n) ∧ u = .slice none 0 0 ∧ L = []))
theorem SeJ.carry {W W' : World} {own own' : Owner} {gl : Nat} {P : List Pr} {S O : List Tup} {T : Tup} {b : Nat} {M : List (Value × Value)} {u : Value} {Lu : List TE} {np no : Nat} {vi vc vt vb vq : Value} {R : Nat → Prop}
    (x : LgX W' own' gl P S (S ++ [T]) (S ++ [T]) S O np no vi vc (.map (some b)) vt vb vq) (k : But R W W') (hr : ∀ c, own c = .sem ∨ own c = .byt ∨ (∃ e n, own c = .row e n) → ¬ R c) (he : Ext own own')
    (mp : Mp Tryd.prog 80 W b M) (bs : own b = .sem) (row : TRow W (Is own (.row T.1 T.2.1)) (Is own .byt) u Lu)
    (all : ∀ e n, wfU e n → ∃ u L, TRow W (Is own (.row e n)) (Is own .byt) u L ∧ L.map (·.1) = byUse S e n ∧ ((ukey e n, u) ∈ M ∨ ((∀ p ∈ M, p.1 ≠ ukey e n) ∧ u = .slice none 0 0 ∧ L = []))) : SeJ W' own' gl P S O T b M u Lu np no vi vc vt vb vq := by
  refine ⟨x, mp.but k (hr b (.inl bs)), he.is (by decide) b bs, row.but k (fun j hj => hr j (.inr (.inr ⟨_, _, hj⟩))) (fun j hj => hr j (.inr (.inl hj))) (he.is (by simp)) (he.is (by decide)), fun e n hU => ?_⟩
  obtain ⟨u, L, h1, h2⟩ := all e n hU
  exact ⟨u, L, h1.but k (fun j hj => hr j (.inr (.inr ⟨_, _, hj⟩))) (fun j hj => hr j (.inr (.inl hj))) (he.is (by simp)) (he.is (by decide)), h2⟩
theorem sealed_end {w : World} {own : Owner} {gl g0 : Nat} {T : Tup} {va' vs' : Value} {W5 W6 : World} {own5 : Owner} {P : List Pr} {S O : List Tup} {b : Nat} {M M' : List (Value × Value)} {u v4 : Value} {Lu : List TE} {np no : Nat} {vi vc vt5 v2 vq : Value}
    (hs : SeI w own gl g0 T va' vs' W5 own5) (hj : SeJ W5 own5 gl P S O T b M u Lu np no vi vc vt5 v2 vq) (hnp : np = P.length) (hno : no = O.length) (hlm : Lu.map (·.1) = byUse S T.1 T.2.1)
    (h1 : Mp Tryd.prog 80 W6 b M') (h2 : (ukey T.1 T.2.1, v4) ∈ M') (h3 : ∀ k r, k ≠ ukey T.1 T.2.1 → ((k, r) ∈ M' ↔ (k, r) ∈ M)) (h4 : But (fun c => u.ownBlock = some c ∨ c = b) W5 W6) (h5 : W6.ownsRow 0 46 15 v4 (Lu.length + 1) (Lu.flatMap tc ++ tcells T va' vs'))
    (h6 : v4.ownBlock = u.ownBlock ∨ ∃ k, v4.ownBlock = some k ∧ W5.heap.size ≤ k) (h7 : ∀ k, v4.ownBlock = some k → k < W6.heap.size) : LgTo w own gl P (S ++ [T]) O W6 := by
  have hx := hj.x
  have hru : ∀ c, u.ownBlock = some c → own5 c = .row T.1 T.2.1 := fun c hc => hj.row.row.inF c hc
  have hv4n : ∀ k, v4.ownBlock = some k → own5 k = .none ∨ own5 k = .row T.1 T.2.1 := fun k hk => by
    rcases h6 with h6 | ⟨j, hj, hj2⟩
    · rw [h6] at hk; exact .inr (hru k hk)
    · rw [hj] at hk; cases hk; exact .inl (hx.top _ hj2)
  have he6 : Ext own5 (tagV own5 v4 (.row T.1 T.2.1)) := Ext.tagV hv4n
  have hng : ∀ c, own5 c ≠ .none → own5 c ≠ .sem → own5 c ≠ .row T.1 T.2.1 → ¬ (u.ownBlock = some c ∨ c = b) := fun c _ e2 e3 e4 => by
    rcases e4 with e4 | e4
    · exact e3 (hru c e4)
    · exact e2 (by rw [e4]; exact hj.bs)
  have hrow : TRow W6 (Is (tagV own5 v4 (.row T.1 T.2.1)) (.row T.1 T.2.1)) (Is (tagV own5 v4 (.row T.1 T.2.1)) .byt) v4 (Lu ++ [(T, va', vs')]) := by
    refine ⟨⟨?_, fun k hk => tagV_own hk⟩, fun e he => ?_⟩
    · rw [List.length_append, List.length_singleton, List.flatMap_append]
      rw [show ([(T, va', vs')] : List TE).flatMap tc = tcells T va' vs' by simp [tc]]
      exact h5
    · have hby : ∀ j, Is own5 .byt j → ¬ (u.ownBlock = some j ∨ j = b) := fun j hj => hng j (by rw [show own5 j = .byt from hj]; decide) (by rw [show own5 j = .byt from hj]; decide) (by rw [show own5 j = .byt from hj]; simp)
      rcases List.mem_append.1 he with he | he
      · exact ((hj.row.el e he).but h4 hby).mono (he6.is (by decide))
      · rw [show e = (T, va', vs') by simpa using he]
        exact (hs.tv.but h4 hby).mono (he6.is (by decide))
  have hx6 := hx.swapM h4 (fun c e1 _ e3 e4 => hng c e1 e3 (e4 _ _)) he6 ((hx.top.grow h4.size).tagV h7) (hx.blk.but h4 (hng gl (by rw [hx.tag]; decide) (by rw [hx.tag]; decide) (by rw [hx.tag]; simp))) (SeM.put hj.all h1 h2 h3 h4 (fun c hc => by
    rcases hc with hc | ⟨e, n, hc, hne⟩
    · exact hng c (by rw [hc]; decide) (by rw [hc]; decide) (by rw [hc]; simp)
    · exact hng c (by rw [hc]; simp) (by rw [hc]; simp) (by rw [hc]; intro e9; cases e9; exact hne ⟨rfl, rfl⟩)) he6 (he6.is (by decide) b hj.bs) hlm hrow)
  refine ⟨But.then hs.but h4 (fun c hc e => ?_), tagV own5 v4 (.row T.1 T.2.1), hs.ext.trans he6, hs.fresh.tagV (fun k hk => ?_), vi, vc, .map (some b), vt5, v2, vq, ?_⟩
  · intro hcn
    have hq : own5 c = own c := by
      by_cases hq : own5 c = own c
      · exact hq
      · exact absurd (hs.fresh c hq) (by omega)
    rcases e with e | e
    · have := hru c e; rw [hq, hcn] at this; cases this
    · have := hj.bs; rw [← e, hq, hcn] at this; cases this
  · rcases h6 with h6 | ⟨j, hj, hj2⟩
    · rw [h6] at hk
      by_cases hq : own5 k = own k
      · right; rw [← hq]; exact hru k hk
      · left; exact hs.fresh k hq
    · rw [hj] at hk; cases hk; left; exact Nat.le_trans hs.but.size hj2
  · rw [← hnp, ← hno]
    exact ⟨hx6.top, hx6.tag, hx6.blk, hx6.inm, hx6.cla, hx6.sem, hx6.twi, hx6.blo, hx6.str.grow T⟩
set_option maxRecDepth 100000 in
set_option maxHeartbeats 8000000 in
theorem sealed_any {w : World} {own : Owner} {gl : Nat} {P : List Pr} {S O : List Tup} {T : Tup} {va vs : Value} (h : Lg w own gl P S O) (ht : Tv w (Is own .none) T va vs) (hl1 : T.2.2.1.length ≤ 140737488355328) (hl2 : T.2.2.2.length ≤ 140737488355328) (hn : S.length < 1000) :
    Calls Tryd.prog 26 #[.pointer (some ⟨gl, 0, none⟩), .agg (tcells T va vs).toArray] w fun e w' => e = .returned (.tuple #[]) ∧ LgTo w own gl P (S ++ [T]) O w' := by
  obtain ⟨vi, vc, vm, vt, vb, vq, h⟩ := h
  have hgl := h.top.lt (b := gl) (by rw [h.tag]; decide)
  obtain ⟨A, hA⟩ : ∃ A, A = (tcells T va vs).toArray := ⟨_, rfl⟩
  rw [← hA]
  obtain ⟨g0, hg0⟩ : ∃ g, g = w.heap.size := ⟨_, rfl⟩
  obtain ⟨W0, hW0⟩ : ∃ W0, W0 = w.alloc (.cells A 46) := ⟨_, rfl⟩
  have hT0 : Grow w W0 := by rw [hW0]; exact (But.refl _ w).alloc _
  have hs0 : W0.heap.size = g0 + 1 := by rw [hW0, hg0]; simp
  have hB0 : Blk W0 g0 46 (tcells T va vs) := by rw [hW0, hA]; exact Blk.new hg0.symm
  have HCO := Hid.mk' (copied_any (ht.then hT0) hl1 hl2)
  rw [← hA] at HCO
  have HA := Hid.mk' hA
  have HB0 := Hid.mk' hB0
  have HT0 := Hid.mk' hT0
  have HS0 := Hid.mk' hs0
  have HG0 := Hid.mk' hg0
  have HW0 := Hid.mk' hW0
  have HH := Hid.mk' h
  have HGL := Hid.mk' hgl
  have HNL := Hid.mk' ht.nl
  have HN := Hid.mk' hn
  have HU : Hid (wfU T.1 T.2.1) := ⟨ht.ep, ht.nl, ht.nt⟩
  clear h ht hl1 hl2 hgl hA hg0 hW0 hT0 hs0 hB0 hn
  go_enter Tryd.func26, Tryd.ntmps26
  go_wp2_with (first
    | (rw [← HW0.out, ← HG0.out]; refine wpList_load_cells rfl _ _ rfl ⟨g0, 0, none⟩ rfl (tcells T va vs) _ HB0.out.cells0 Tryd.underlying46 rfl (by rw [iT, tcells_len HNL.out]) ?_; rw [← HA.out])
    | fail)
  refine Calls.mono HCO.out ?_
  rintro e w2 ⟨va', vs', rfl, hnew, hg2⟩
  have HB2 := Hid.mk' (HB0.out.but hg2 (fun h => h))
  have HNEW := Hid.mk' hnew
  have HG2 := Hid.mk' hg2
  have HON : Hid (∀ u ∈ tcells T va' vs', u.oneCell' = true) := tcells_one hnew.aad.bs.one hnew.sea.bs.one
  clear hnew hg2 HCO HB0
  go_upto_region 3 with (first
    | (refine wpList_store_at rfl _ _ _ rfl g0 0 (tcells T va' vs') rfl rfl 46 [] (tcells T va vs) [] (by simpa using HB2.out) rfl (by rw [tcells_len HNL.out, tcells_len HNL.out]) (by rw [iT, tcells_len HNL.out]) HON.out ?_; intro W1 hb1 hbut1; rw [List.nil_append, List.append_nil] at hb1)
    | fail)
  have hg1 : Grow w W1 := (HT0.out.trans HG2.out).then hbut1 (fun i hi e => by have := HG0.out; omega)
  have hnw := HNEW.out
  have hsz0 := HS0.out
  have hgw := HG0.out
  obtain ⟨own1, ho1⟩ : ∃ o, o = tagV (tagV own va' .byt) vs' .byt := ⟨_, rfl⟩
  have hna : ∀ k, va'.ownBlock = some k → own k = .none := fun k hk => HH.out.top k (by have := (hnw.aad.ge k hk).1; omega)
  have hns : ∀ k, vs'.ownBlock = some k → own k = .none := fun k hk => HH.out.top k (by have := (hnw.sea.ge k hk).1; omega)
  have he0 : Ext own (tagV own va' .byt) := Ext.tagV (fun k hk => .inl (hna k hk))
  have hnt : ∀ k, vs'.ownBlock = some k → tagV own va' .byt k = .none ∨ tagV own va' .byt k = .byt := fun k hk => by
    cases hv : va'.ownBlock with
    | none => unfold tagV; rw [hv]; exact .inl (hns k hk)
    | some j =>
      unfold tagV
      rw [hv]
      show tagAt own j .byt k = .none ∨ tagAt own j .byt k = .byt
      unfold tagAt
      split
      · exact .inr rfl
      · exact .inl (hns k hk)
  have he1 : Ext own own1 := by rw [ho1]; exact he0.trans (Ext.tagV hnt)
  have hf1 : Fresh w own own1 := by
    rw [ho1]
    exact ((Fresh.refl w own).tagV (fun k hk => .inl (by have := (hnw.aad.ge k hk).1; omega))).tagV (fun k hk => .inl (by have := (hnw.sea.ge k hk).1; omega))
  have hsz1 : w2.heap.size ≤ W1.heap.size := hbut1.size
  have ht1 : Top W1 own1 := by
    rw [ho1]
    exact ((HH.out.top.grow hg1.size).tagV (fun k hk => by have := (hnw.aad.ge k hk).2; omega)).tagV (fun k hk => by have := (hnw.sea.ge k hk).2; omega)
  have hg0n : own1 g0 = .none := by
    by_cases hc : own1 g0 = own g0
    · rw [hc]; exact HH.out.top g0 (by omega)
    · exfalso
      apply hc
      rw [ho1]
      have e1 : vs'.ownBlock ≠ some g0 := fun e => by have := (hnw.sea.ge g0 e).1; omega
      have e2 : va'.ownBlock ≠ some g0 := fun e => by have := (hnw.aad.ge g0 e).1; omega
      have key : ∀ (o : Owner) (v : Value), v.ownBlock ≠ some g0 → tagV o v .byt g0 = o g0 := fun o v hv => by
        unfold tagV
        cases hq : v.ownBlock with
        | none => rfl
        | some j =>
          show tagAt o j .byt g0 = o g0
          unfold tagAt
          rw [if_neg (fun e => hv (by rw [hq, e]))]
      rw [key _ _ e1, key _ _ e2]
  have hbyt : Is own1 .byt = Is own1 .byt := rfl
  have HTV : Hid (Tv W1 (Is own1 .byt) T va' vs') := by
    refine ⟨hnw.ep, hnw.nl, hnw.nt, ⟨(hnw.aad.but hbut1 (fun k hk _ e => by have := (hnw.aad.ge k hk).1; omega)).bs, fun _ k hk => ?_⟩, ⟨(hnw.sea.but hbut1 (fun k hk _ e => by have := (hnw.sea.ge k hk).1; omega)).bs, fun _ k hk => ?_⟩⟩
    · show own1 k = .byt
      rw [ho1]
      exact (Ext.tagV hnt).is (t := .byt) (by decide) k (tagV_own hk)
    · show own1 k = .byt
      rw [ho1]; exact tagV_own hk
  have hX1 : LgX W1 own1 gl P S S S S O P.length O.length vi vc vm vt vb vq := HH.out.x.but hg1 (fun _ _ h => h) he1 ht1
  have HX1 := Hid.mk' hX1
  have HB1 := Hid.mk' hb1
  have HG1 := Hid.mk' hg1
  have HE1 := Hid.mk' he1
  have HF1 := Hid.mk' hf1
  have HG0N := Hid.mk' hg0n
  obtain ⟨L, hLr, hLm⟩ := hX1.blo.ex
  have HLR := Hid.mk' hLr
  have HLM := Hid.mk' hLm
  have HLL : Hid (L.length + 1 ≤ 1000000) := by show _ ≤ _; have := congrArg List.length hLm; simp at this; have := HN.out; omega
  have HRB : Hid (∀ b, vb.ownBlock = some b → own1 b = .blo) := fun b hb => hLr.row.inF b hb
  have HVS := Hid.mk' HTV.out.sea.1.cs
  clear hbut1 hb1 hg1 hnw hsz0 hgw ho1 hna hns he0 hnt he1 hf1 hsz1 ht1 hg0n hX1 hLr hLm HH HB2 HNEW HG2 HON hbyt
  obtain ⟨np, hnp⟩ : ∃ n, n = P.length := ⟨_, rfl⟩
  obtain ⟨no, hno⟩ : ∃ n, n = O.length := ⟨_, rfl⟩
  rw [← hnp, ← hno] at HX1
  have HNPL := Hid.mk' hnp
  have HNOL := Hid.mk' hno
  clear hnp hno
  refine region_chain [([0, 1, 2, 3, 4, 5, 6], 7), ([], 8), ([9, 10], 11)] [] (But (fun b => vb.ownBlock = some b) W1) (Grow W1) (by kernel_rfl) (by kernel_rfl) (fun _ _ h k => h.trans k) (fun _ h => h.mono (fun _ _ h => h.elim)) ((But.refl _ W1).drew) ?_
  intro ι hne X hX
  have c5 : ∀ x, (X x).cell? ⟨gl, 5, none⟩ = some vb := fun x => (HX1.out.blk.but (hX x) (fun e => by have := HRB.out gl e; rw [HX1.out.tag] at this; cases this)).cell 5
  have c14 : ∀ x, (X x).cell? ⟨g0, 14, none⟩ = some vs' := fun x => ((HB1.out.but (hX x) (fun e => by have := HRB.out g0 e; rw [HG0N.out] at this; cases this)).cell 14).trans (tcells_14 HNL.out _ _)
  iterate 7 (refine still_step rfl (fun K hK => ?_); go_simp; refine hK _ ?_; clear hK K)
  refine still_nil ?_
  clear c5 c14 hX hne
  refine turn_run rfl rfl (fun v w' => Grow W1 w' ∧ ∃ g, v = .slice (some ⟨g, 0, none⟩) 1 1 ∧ W1.heap.size ≤ g ∧ Blk w' g 31 [vs']) (fun _ => But (fun b => vb.ownBlock = some b) W1) ?_ (fun _ _ h => h.1.mono (fun _ _ h => h.elim)) (.inr (fun _ _ h => h)) ?_ ?_
  · rintro v w1 w2' ⟨h1, g, h2, h3, h4⟩ k
    exact ⟨h1.trans k, g, h2, h3, h4.but k (fun h => h)⟩
  · intro w1 hw1
    refine turn_row1 (v := vs') (e := 31) Tryd.underlying54 infS (by decide) (by decide) rfl rfl (by rw [HVS.out]; rfl) ⟨hw1.alloc _, w1.heap.size, rfl, hw1.size, ?_⟩
    rw [HVS.out]
    exact Blk.new (L := [vs']) rfl
  · rintro v ⟨wq, -, g, rfl, -, -⟩ Y hY
    clear wq
    go_simp
    refine hY _ ?_
    clear hY Y
    intro ι hne X hX
    refine still_nil ?_
    clear hX hne
    refine turn_run rfl rfl (fun v w' => But (fun b => vb.ownBlock = some b) W1 w' ∧ w'.ownsRow 0 31 1 v (L.length + 1) (L.map (·.1) ++ [vs']) ∧ (v.ownBlock = vb.ownBlock ∨ ∃ k, v.ownBlock = some k ∧ W1.heap.size ≤ k) ∧ ∀ k, v.ownBlock = some k → k < w'.heap.size) (fun _ => But (fun b => vb.ownBlock = some b) W1) ?_ (fun _ _ h => h.1) (.inr (fun _ _ h => h)) ?_ ?_
    · rintro v w1 w2' ⟨h1, h2, h3, h4⟩ k
      exact ⟨h1.trans (k.mono (fun _ _ h => h.elim)), ownsRow_grow h2 k, h3, fun j hj => Nat.lt_of_lt_of_le (h4 j hj) k.size⟩
    · rintro w1 ⟨h1, g', e, _, hb⟩
      obtain rfl : g = g' := by cases e; rfl
      refine turn_append (e := 31) Tryd.underlying54 infS rfl (by decide) rfl rfl (ownsRow_grow HLR.out.row.own h1) rfl rfl hb.cells0 (by intro u hu; rw [show u = vs' by simpa using hu]; exact HTV.out.sea.1.one) HLL.out (by decide) ?_
      intro v' w3 ha
      refine ⟨(h1.mono (fun _ _ h => h.elim)).trans ha.but, ha.own, ?_, ha.lt⟩
      rcases ha.at' with h | h
      · exact .inl h
      · exact .inr ⟨_, h, h1.size⟩
    · rintro v2 ⟨wq2, -, hv2, -⟩ Y hY
      have HV1 := Hid.mk' (ownsRow_one hv2)
      clear hv2 wq2
      go_simp
      refine hY _ ?_
      clear hY Y
      intro ι hne X hX
      iterate 2 (refine still_step rfl (fun K hK => ?_); go_simp; refine hK _ ?_; clear hK K)
      refine still_nil ?_
      clear hX hne
      refine turn_run rfl rfl (fun _ w' => But (fun b => vb.ownBlock = some b ∨ b = gl) W1 w' ∧ w'.ownsRow 0 31 1 v2 (L.length + 1) (L.map (·.1) ++ [vs']) ∧ (v2.ownBlock = vb.ownBlock ∨ ∃ k, v2.ownBlock = some k ∧ W1.heap.size ≤ k) ∧ (∀ k, v2.ownBlock = some k → k < w'.heap.size) ∧ Blk w' gl 70 (lgc np no vi vc vm vt v2 vq)) (fun _ _ => True) ?_ (fun _ _ _ => trivial) (.inl (by kernel_rfl)) ?_ ?_
      · rintro v w1 w2' ⟨h1, h2, h3, h4, h5⟩ k
        exact ⟨h1.trans (k.mono (fun _ _ h => h.elim)), ownsRow_grow h2 k, h3, fun j hj => Nat.lt_of_lt_of_le (h4 j hj) k.size, h5.but k (fun h => h)⟩
      · rintro w1 ⟨h1, h2, h3, h4⟩
        have hbl := HX1.out.blk.but h1 (fun e => by have := HRB.out gl e; rw [HX1.out.tag] at this; cases this)
        have hgl1 := HX1.out.blk.lt
        refine turn_store (v := v2) (t := 54) (by kernel_rfl) rfl rfl rfl HV1.out hbl (by simp) ⟨(h1.mono (fun _ _ h => .inl h)).trans ((But.set1 _ _ _ _).mono (fun _ _ h => .inr h)), ownsRow_but h2 (But.set1 _ _ _ _) ?_, h3, fun j hj => by simpa using h4 j hj, hbl.set 5 _⟩
        intro j hj e
        rcases h3 with h3 | ⟨k, hk, hk2⟩
        · rw [h3] at hj
          have := HRB.out j hj
          rw [e, HX1.out.tag] at this; cases this
        · rw [hk] at hj
          cases hj
          omega
      · rintro v3 - Y hY
        go_simp
        refine hY _ ?_
        clear hY Y
        intro ι hne X hX
        refine still_nil ?_
        clear hX hne
        rintro W2 ⟨h1, h2, h3, h4, h5⟩
        have hsz1 := h1.size
        have hg0lt : g0 < W1.heap.size := HB1.out.lt
        have hgl1 : gl < W1.heap.size := HX1.out.blk.lt
        have hng : ∀ c t', own1 c = t' → t' ≠ .blo → t' ≠ .log → ¬ (vb.ownBlock = some c ∨ c = gl) := fun c t' e1 e2 e3 e4 => by
          rcases e4 with e4 | e4
          · exact e2 (by rw [← e1]; exact HRB.out c e4)
          · exact e3 (by rw [← e1, e4]; exact HX1.out.tag)
        have hv2n : ∀ k, v2.ownBlock = some k → own1 k = .none ∨ own1 k = .blo := fun k hk => by
          rcases h3 with h3 | ⟨j, hj, hj2⟩
          · rw [h3] at hk; exact .inr (HRB.out k hk)
          · rw [hj] at hk; cases hk; exact .inl (HX1.out.top _ hj2)
        have he2 : Ext own1 (tagV own1 v2 .blo) := Ext.tagV hv2n
        have hv2g : v2.ownBlock ≠ some g0 := fun e => by
          rcases h3 with h3 | ⟨j, hj, hj2⟩
          · rw [h3] at e
            have := HRB.out g0 e
            rw [HG0N.out] at this; cases this
          · rw [hj] at e; cases e; omega
        have hsei : SeI w own gl g0 T va' vs' W2 (tagV own1 v2 .blo) := by
          refine ⟨?_, HE1.out.trans he2, ?_, HB1.out.but h1 (hng g0 _ HG0N.out (by decide) (by decide)), ?_, (HTV.out.but h1 (fun j hj => hng j _ hj (by decide) (by decide))).mono (he2.is (by decide))⟩
          · refine But.then (HG1.out.mono (fun _ _ h => h.elim)) h1 (fun c hc e => ?_)
            have hcc : own c ≠ .none → own1 c = own c := HE1.out c
            by_cases hcn : own c = .none
            · exfalso
              have hc1 : own1 c = .none := by
                by_cases hq : own1 c = own c
                · rw [hq, hcn]
                · exact absurd (HF1.out c hq) (by omega)
              rcases e with e | e
              · have := HRB.out c e; rw [hc1] at this; cases this
              · rw [e, HX1.out.tag] at hc1; cases hc1
            · exact hcn
          · refine Fresh.tagV HF1.out (fun k hk => ?_)
            rcases h3 with h3 | ⟨j, hj, hj2⟩
            · rw [h3] at hk
              have hk1 := HRB.out k hk
              by_cases hq : own1 k = own k
              · right; rw [← hq]; exact hk1
              · left; exact HF1.out k hq
            · rw [hj] at hk; cases hk; left; exact Nat.le_trans HG1.out.size hj2
          · unfold tagV
            cases hq : v2.ownBlock with
            | none => exact HG0N.out
            | some j =>
              show tagAt own1 j .blo g0 = .none
              unfold tagAt
              rw [if_neg (fun e => hv2g (by rw [hq, e]))]
              exact HG0N.out
        have hX2 : LgX W2 (tagV own1 v2 .blo) gl P S S (S ++ [T]) S O np no vi vc vm vt v2 vq := by
          refine HX1.out.swapB h1 (fun c e1 e2 e3 => hng c _ rfl e3 e2) he2 ((HX1.out.top.grow hsz1).tagV h4) h5 ?_
          exact Blo.add HLM.out (fun e he => ((HLR.out.el e he).but h1 (fun j hj => hng j _ hj (by decide) (by decide))).mono (he2.is (by decide))) ⟨h2, fun k hk => tagV_own hk⟩ hsei.tv.sea
        have HS2 := Hid.mk' hsei
        have HX2 := Hid.mk' hX2
        clear h1 h2 h3 h4 h5 hsz1 hg0lt hgl1 hng hv2n he2 hv2g hsei hX2 HX1 HB1 HG1 HE1 HF1 HG0N HLR HLM HLL HRB HVS HV1 HTV
        generalize tagV own1 v2 .blo = own2 at *
        clear own1 L
        obtain ⟨M0, hM0, hMa⟩ := HX2.out.sem.ex
        have hme := map_eql (t := 68) Tryd.underlying68
        have c3 : W2.cell? ⟨gl, 3, none⟩ = some vm := HX2.out.blk.cell 3
        have HMA := Hid.mk' hMa
        have HG0LT : Hid (gl < g0) := by show _ < _; have := HGL.out; have := HG0.out; omega
        clear hMa
        rcases hM0 with ⟨rfl, rfl⟩ | ⟨b, rfl, hbs, hmp⟩
        case' inl =>
          have hmm := @run_makeMap Tryd.prog
          have c3' : (W2.alloc (.map #[] 0)).cell? ⟨gl, 3, none⟩ = some (.map none) := (HX2.out.blk.but (R := fun _ => False) ((But.refl _ W2).alloc _) (fun h => h)).cell 3
          have f3' : (W2.alloc (.map #[] 0)).frozen? ⟨gl, 3, none⟩ = false := (HX2.out.blk.but (R := fun _ => False) ((But.refl _ W2).alloc _) (fun h => h)).free 3
          go_upto_region 6 with fail
          obtain ⟨b, hbe⟩ : ∃ b, b = W2.heap.size := ⟨_, rfl⟩
          rw [← hbe]
          obtain ⟨W3, hW3⟩ : ∃ W, W = (W2.alloc (.map #[] 0)).setCell ⟨gl, 3, none⟩ (.map (some b)) := ⟨_, rfl⟩
          rw [← hW3]
          have hgl2 := HX2.out.blk.lt
          have k3 : But (· = gl) W2 W3 := by rw [hW3]; exact ((But.refl _ W2).alloc _).trans (But.set1 _ _ _ _)
          have hMp : Mp Tryd.prog 80 W3 b [] := by rw [hW3]; exact (Mp.new b hbe.symm).but (But.set1 _ _ _ _) (show ¬ (b = gl) by omega)
          have hbL : Blk W3 gl 70 (lgc np no vi vc (.map (some b)) vt v2 vq) := by rw [hW3]; exact (HX2.out.blk.but (R := fun _ => False) ((But.refl _ W2).alloc _) (fun h => h)).set 3 _
          have hsz3 : W3.heap.size = b + 1 := by rw [hW3, hbe]; simp
          have heb : Ext own2 (tagAt own2 b .sem) := Ext.tagAt (.inl (HX2.out.top b (by omega)))
          have hngl : ∀ c t', own2 c = t' → t' ≠ .log → ¬ (c = gl) := fun c t' e1 e2 e3 => e2 (by rw [← e1, e3]; exact HX2.out.tag)
          have HX3 : Hid (LgX W3 (tagAt own2 b .sem) gl P S S (S ++ [T]) S O np no vi vc (.map (some b)) vt v2 vq) := by
            refine HX2.out.swapM k3 (fun c _ e2 _ _ e => e2 (by rw [e]; exact HX2.out.tag)) heb ((HX2.out.top.grow k3.size).tagAt (by omega)) hbL ?_
            refine ⟨[], .inr ⟨b, rfl, tagAt_own, hMp⟩, fun e n hU => ?_⟩
            obtain ⟨u, L, h1, h2, h3⟩ := HMA.out e n hU
            exact ⟨u, L, h1.but k3 (fun j hj => hngl j _ hj (by simp)) (fun j hj => hngl j _ hj (by decide)) (heb.is (by simp)) (heb.is (by decide)), h2, h3⟩
          have HS3 : Hid (SeI w own gl g0 T va' vs' W3 (tagAt own2 b .sem)) := by
            have hs := HS2.out
            have hb0 := hs.box.lt
            refine ⟨But.then hs.but k3 (fun c hc e => by rw [e]; intro h9; have h8 := HX2.out.tag; by_cases hq : own2 gl = own gl; rw [hq, h9] at h8; cases h8; exact absurd (hs.fresh gl hq) (by have := HGL.out; omega)), hs.ext.trans heb, hs.fresh.tagAt (.inl (by have := hs.but.size; omega)), hs.box.but k3 (show ¬ (g0 = gl) by have := HG0LT.out; omega), ?_, (hs.tv.but k3 (fun j hj => hngl j _ hj (by decide))).mono (heb.is (by decide))⟩
            unfold tagAt
            rw [if_neg (by omega)]
            exact hs.free
          clear hW3 k3 hMp hbL hsz3 heb hngl hbe hgl2 c3' f3' hmm
          generalize tagAt own2 b .sem = own3 at *
        case' inr =>
          go_upto_region 6 with fail
          obtain ⟨W3, hW3⟩ : ∃ W, W = W2 := ⟨_, rfl⟩
          obtain ⟨own3, hO3⟩ : ∃ o, o = own2 := ⟨_, rfl⟩
          rw [← hW3]
          have HX3 : Hid (LgX W3 own3 gl P S S (S ++ [T]) S O np no vi vc (.map (some b)) vt v2 vq) := by rw [hW3, hO3]; exact HX2.out
          have HS3 : Hid (SeI w own gl g0 T va' vs' W3 own3) := by rw [hW3, hO3]; exact HS2.out
          clear hW3 hO3 hmp hbs
        all_goals
          clear HX2 HS2 HMA c3 hme
          obtain ⟨M, hM, hMa⟩ := HX3.out.sem.ex
          obtain ⟨hbs, hmp⟩ : own3 b = .sem ∧ Mp Tryd.prog 80 W3 b M := by
            rcases hM with ⟨e, _⟩ | ⟨b', e, h1, h2⟩
            · cases e
            · cases e; exact ⟨h1, h2⟩
          obtain ⟨u, Lu, hLu, hLm, hul⟩ := hMa T.1 T.2.1 HU.out
          obtain ⟨l, hkl⟩ := key_use HU.out
          obtain ⟨B, hB⟩ : ∃ B, B = (tcells T va' vs').toArray := ⟨_, rfl⟩
          obtain ⟨U, hUk⟩ : ∃ U, U = ukey T.1 T.2.1 := ⟨_, rfl⟩
          have HLK : Hid (∀ w', Grow W3 w' → (Instr.lookup 68 (.map (some b)) U false).run Tryd.prog w' = .ok u w') := fun w' hw => by
            rw [hUk]
            rcases hul with h | ⟨h, rfl, _⟩
            · exact ((hmp.but hw (fun h => h)).look keyU Tryd.underlying68 (zTs w') hkl false).1 u h
            · exact ((hmp.but hw (fun h => h)).look keyU Tryd.underlying68 (zTs w') hkl false).2 h
          have HUO : Hid (∀ (w' : World) (F : Nat → Prop), Tv w' F T va' vs' → Calls Tryd.prog 41 #[.agg B] w' fun e w'' => e = .returned U ∧ Grow w' w'') := fun w' F hw => by rw [hUk, hB]; exact useOf_any hw
          have HBE := Hid.mk' hB
          have HUK := Hid.mk' hUk
          have HLU := Hid.mk' hLu
          have HLM := Hid.mk' hLm
          have HMA := Hid.mk' hMa
          have HMP := Hid.mk' hmp
          have HBS := Hid.mk' hbs
          have HKL := Hid.mk' hkl
          clear hM hMa hmp hLu hLm hul hkl hB hUk hbs
          rw [← HBE.out]
          refine region_chain [] [0, 1, 2, 3, 4, 5, 6, 7] (Grow W3) (Grow W3) (by kernel_rfl) (by kernel_rfl) (fun _ _ h k => h.trans k) (fun _ h => h) ((But.refl _ W3).drew) ?_
          intro ι hne X hX
          have c3 : ∀ x, (X x).cell? ⟨gl, 3, none⟩ = some (.map (some b)) := fun x => (HX3.out.blk.but (hX x) (fun h => h)).cell 3
          iterate 4 (refine still_step rfl (fun K hK => ?_); go_simp; refine hK _ ?_; clear hK K)
          refine still_val rfl (.agg B) rfl (fun x => by rw [HBE.out]; exact run_load_tup (HS3.out.box.but (hX x) (fun h => h)).cells0 (tcells_len HNL.out _ _) rfl rfl) ?_
          intro K hK; go_simp; refine hK _ ?_; clear hK K
          refine still_call rfl U 41 #[.agg B] rfl (fun x => by kernel_rfl) (fun x => HUO.out _ _ (HS3.out.tv.then (hX x))) ?_
          intro K hK; go_simp; refine hK _ ?_; clear hK K
          refine still_val rfl u rfl (fun x => exec_lookup rfl rfl rfl (HLK.out _ (hX x))) ?_
          intro K hK; go_simp; refine hK _ ?_; clear hK K
          refine still_step rfl (fun K hK => ?_); go_simp; refine hK _ ?_; clear hK K
          refine still_nil ?_
          clear c3 hX hne
          intro W4 hW4
          have HX4 := Hid.mk' (HX3.out.but hW4 (fun _ _ h => h) (Ext.refl _) (HX3.out.top.grow hW4.size))
          have HS4 := Hid.mk' (HS3.out.grow hW4)
          have HJ2 : Hid (∀ {R : Nat → Prop} {W' own' vt'} (x : LgX W' own' gl P S (S ++ [T]) (S ++ [T]) S O np no vi vc (.map (some b)) vt' v2 vq) (k : But R W4 W') (hr : ∀ c, own3 c = .sem ∨ own3 c = .byt ∨ (∃ e n, own3 c = .row e n) → ¬ R c) (he : Ext own3 own'), SeJ W' own' gl P S O T b M u Lu np no vi vc vt' v2 vq) := fun x k hr he => by
            have hj : Mp Tryd.prog 80 W4 b M := HMP.out.but hW4 (fun h => h)
            refine SeJ.carry x k hr he hj HBS.out (HLU.out.but hW4 (fun _ _ h => h) (fun _ _ h => h) (fun _ h => h) (fun _ h => h)) (fun e n hU => ?_)
            obtain ⟨u, L, h1, h2⟩ := HMA.out e n hU
            exact ⟨u, L, h1.but hW4 (fun _ _ h => h) (fun _ _ h => h) (fun _ h => h) (fun _ h => h), h2⟩
          have HLU4 := Hid.mk' (HLU.out.but hW4 (fun _ _ h => h) (fun _ _ h => h) (fun _ h => h) (fun _ h => h))
          obtain ⟨Lt, hLt, hTw⟩ := HX4.out.twi.ex
          obtain ⟨at1, ct, hvt⟩ := hLt.len
          obtain ⟨au, cu, hue, hrow⟩ := HLU4.out.row.shape
          have c4 : W4.cell? ⟨gl, 4, none⟩ = some vt := HX4.out.blk.cell 4
          rw [hvt] at c4
          have HUE := Hid.mk' hue
          have HROW := Hid.mk' hrow
          clear hW4 HX3 HS3 HLU HMP HMA HLK hLt hvt hrow
          have hsplit : (Fst2 (tk S) S.length none ∧ Lt = [] ∧ Lu = []) ∨ (Fst2 (tk S) S.length none ∧ Lt = [] ∧ Lu ≠ []) ∨ (Lt.length = 2 ∧ ∃ i j, Fst2 (tk S) S.length (some (i, j))) := by
            rcases hTw with ⟨h1, h2⟩ | ⟨i, j, h1, h2⟩
            · by_cases h : Lu = []
              · exact .inl ⟨h2, h1, h⟩
              · exact .inr (.inl ⟨h2, h1, h⟩)
            · have := congrArg List.length h2
              exact .inr (.inr ⟨by simpa using this, i, j, h1⟩)
          clear hTw
          rcases hsplit with hA | hB | hC
          all_goals first
            | (
              obtain ⟨hF, rfl, rfl⟩ := hA
              have HJ5 : Hid (SeJ W4 own3 gl P S O T b M u [] np no vi vc vt v2 vq) := HJ2.out (R := fun _ => False) ⟨HX4.out.top, HX4.out.tag, HX4.out.blk, HX4.out.inm, HX4.out.cla, HX4.out.sem, HX4.out.twi.keep (fun _ => tk_none (by rw [← HLM.out]; rfl)), HX4.out.blo, HX4.out.str⟩ (But.refl _ _) (fun _ _ h => h) (Ext.refl _)
              rw [List.length_nil] at c4 hue
              clear hF HJ2 HROW
              subst hue
              go_upto_region 9 with fail
              generalize Value.slice au 0 cu = u at *
              obtain ⟨W5, hW5⟩ : ∃ W, W = W4 := ⟨_, rfl⟩
              obtain ⟨own5, hO5⟩ : ∃ W, W = own3 := ⟨_, rfl⟩
              obtain ⟨vt5, hV5⟩ : ∃ W, W = vt := ⟨_, rfl⟩
              obtain ⟨Lu, hLu⟩ : ∃ L : List TE, L = [] := ⟨_, rfl⟩
              rw [← hW5, ← hO5] at HS4
              rw [← hW5, ← hO5, ← hV5, ← hLu] at HJ5
              rw [← hLu] at HLM
              rw [← hW5]
              clear hW5 hO5 hV5 hLu c4 HX4 HLU4 HUE)
            | (
              obtain ⟨hl2, i, j, hF⟩ := hC
              have HJ5 : Hid (SeJ W4 own3 gl P S O T b M u Lu np no vi vc vt v2 vq) := HJ2.out (R := fun _ => False) ⟨HX4.out.top, HX4.out.tag, HX4.out.blk, HX4.out.inm, HX4.out.cla, HX4.out.sem, HX4.out.twi.keep (fun h => by have := hF.uniq h; cases this), HX4.out.blo, HX4.out.str⟩ (But.refl _ _) (fun _ _ h => h) (Ext.refl _)
              rw [hl2] at c4
              clear hF hl2 HJ2 HROW hue HUE
              go_upto_region 9 with fail
              obtain ⟨W5, hW5⟩ : ∃ W, W = W4 := ⟨_, rfl⟩
              obtain ⟨own5, hO5⟩ : ∃ W, W = own3 := ⟨_, rfl⟩
              obtain ⟨vt5, hV5⟩ : ∃ W, W = vt := ⟨_, rfl⟩
              rw [← hW5, ← hO5] at HS4
              rw [← hW5, ← hO5, ← hV5] at HJ5
              rw [← hW5]
              clear hW5 hO5 hV5 c4 HX4 HLU4)
            | (
              obtain ⟨hF, rfl, hLne⟩ := hB
              obtain ⟨e0, Lr, hLu⟩ := List.exists_cons_of_ne_nil hLne
              obtain ⟨gu, hau, hgu, hgul, hcell⟩ := HROW.out (by rw [hLu]; simp)
              obtain ⟨nu, hnu⟩ : ∃ nu, nu = Lu.length := ⟨_, rfl⟩
              have hnp : 0 < nu := by rw [hnu, hLu]; simp
              have hd : decide (0 < (nu : Int)) = true := decide_eq_true (by omega)
              have HNP := Hid.mk' hnp
              have he0 : Tv W4 (Is own3 .byt) e0.1 e0.2.1 e0.2.2 := HLU4.out.el e0 (by rw [hLu]; exact List.mem_cons_self)
              have HE0 := Hid.mk' he0
              obtain ⟨C0, hC0⟩ : ∃ C, C = (tc e0).toArray := ⟨_, rfl⟩
              have HC0 := Hid.mk' hC0
              have HCE : Hid (∀ w', Grow W4 w' → ∀ j v, (tc e0)[j]? = some v → w'.cell? ((⟨gu, 0, none⟩ : Addr).add j) = some v) := fun w' hw j v hv => by
                have e : (⟨gu, 0, none⟩ : Addr).add j = ⟨gu, j, none⟩ := by simp [Addr.add]; exact fun h => h.symm
                rw [e]
                refine (World.cell?_of_block (hw.block gu hgul (fun h => h))).trans (hcell j v ?_)
                rw [hLu, List.flatMap_cons, List.getElem?_append_left (List.getElem?_eq_some_iff.1 hv).1]
                exact hv
              have HBY : Hid (byUse S T.1 T.2.1 = e0.1 :: Lr.map (·.1)) := by show _ = _; rw [← HLM.out, hLu]; rfl
              rw [← hnu, hau] at hue
              rw [List.length_nil] at c4
              have HF := Hid.mk' hF
              clear hF hLne hLu hau hgu hgul hcell hnp he0 hC0 HROW HUE hnu
              subst hue
              go_upto_region 8 with fail
              clear hd c4
              refine region_chain [([0, 1, 2, 3, 4], 5), ([6, 7], 8)] [] (Grow W4) (Grow W4) (by kernel_rfl) (by kernel_rfl) (fun _ _ h k => h.trans k) (fun _ h => h) ((But.refl _ W4).drew) ?_
              intro ι hne X hX
              iterate 2 (refine still_step rfl (fun K hK => ?_); go_simp; refine hK _ ?_; clear hK K)
              refine still_val rfl (.pointer (some ⟨gu, 0, none⟩)) rfl (fun x => run_index0 rfl rfl rfl HNP.out) ?_
              intro K hK; go_simp; refine hK _ ?_; clear hK K
              refine still_val rfl (.agg C0) rfl (fun x => by rw [HC0.out]; exact run_load_tup (HCE.out _ (hX x)) (tc_len HE0.out) rfl rfl) ?_
              intro K hK; go_simp; refine hK _ ?_; clear hK K
              refine still_val rfl (.agg B) rfl (fun x => by rw [HBE.out]; exact run_load_tup (HS4.out.box.but (hX x) (fun h => h)).cells0 (tcells_len HNL.out _ _) rfl rfl) ?_
              intro K hK; go_simp; refine hK _ ?_; clear hK K
              refine still_nil ?_
              clear hX hne
              refine turn_run rfl rfl (fun v w' => Grow W4 w' ∧ ∃ gT, v = .slice (some ⟨gT, 0, none⟩) 2 2 ∧ W4.heap.size ≤ gT ∧ Blk w' gT 46 (tc e0 ++ tcells T va' vs')) (fun _ => Grow W4) ?_ (fun _ _ h => h.1) (.inr (fun _ _ h => h)) ?_ ?_
              · rintro v w1 w2' ⟨h1, gT, h2, h3, h4⟩ k
                exact ⟨h1.trans k, gT, h2, h3, h4.but k (fun h => h)⟩
              · intro w1 hw1
                refine turn_row2 (v := .agg C0) (u := .agg B) (e := 46) Tryd.underlying39 infT (by decide) (by decide) rfl rfl rfl (show C0.size = 15 by rw [HC0.out]; simpa using tc_len HE0.out) (show B.size = 15 by rw [HBE.out]; simpa using tcells_len HNL.out _ _) ⟨hw1.alloc _, w1.heap.size, rfl, hw1.size, ?_⟩
                show Blk (w1.alloc (.cells (C0.toList ++ B.toList).toArray 46)) _ _ _
                rw [HC0.out, HBE.out]
                exact Blk.new (L := tc e0 ++ tcells T va' vs') rfl
              rintro v ⟨wq, -, gT, rfl, -, -⟩ Y hY
              clear wq
              go_simp
              refine hY _ ?_
              clear hY Y
              intro ι hne X hX
              iterate 2 (refine still_step rfl (fun K hK => ?_); go_simp; refine hK _ ?_; clear hK K)
              refine still_nil ?_
              clear hX hne
              refine turn_run rfl rfl (fun _ w' => But (· = gl) W4 w' ∧ W4.heap.size ≤ gT ∧ Blk w' gT 46 (tc e0 ++ tcells T va' vs') ∧ Blk w' gl 70 (lgc np no vi vc (.map (some b)) (.slice (some ⟨gT, 0, none⟩) 2 2) v2 vq)) (fun _ _ => True) ?_ (fun _ _ _ => trivial) (.inl (by kernel_rfl)) ?_ ?_
              · rintro v w1 w2' ⟨h1, h2, h3, h4⟩ k
                exact ⟨h1.trans (k.mono (fun _ _ h => h.elim)), h2, h3.but k (fun h => h), h4.but k (fun h => h)⟩
              · rintro w1 ⟨h1, g', e, h2, h3⟩
                obtain rfl : gT = g' := by cases e; rfl
                have hbl := HX4.out.blk.but h1 (fun h => h)
                have hgl4 := HX4.out.blk.lt
                exact turn_store (v := .slice (some ⟨gT, 0, none⟩) 2 2) (t := 39) (by kernel_rfl) rfl rfl rfl rfl hbl (by simp) ⟨(h1.mono (fun _ _ h => h.elim)).trans (But.set1 _ _ _ _), h2, h3.but (But.set1 _ _ _ _) (show ¬ (gT = gl) by omega), hbl.set 4 _⟩
              rintro v3 - Y hY
              go_simp
              refine hY _ ?_
              clear hY Y
              intro ι hne X hX
              refine still_nil ?_
              clear hX hne
              rintro W5 ⟨k5, hgT, hbT, hbL⟩
              have hltT := hbT.lt
              have he5 : Ext own3 (tagAt own3 gT .twi) := Ext.tagAt (.inl (HX4.out.top gT hgT))
              have hngl : ∀ c t', own3 c = t' → t' ≠ .log → ¬ (c = gl) := fun c t' e1 e2 e3 => e2 (by rw [← e1, e3]; exact HX4.out.tag)
              have hX5 : LgX W5 (tagAt own3 gT .twi) gl P S (S ++ [T]) (S ++ [T]) S O np no vi vc (.map (some b)) (.slice (some ⟨gT, 0, none⟩) 2 2) v2 vq := by
                refine HX4.out.swapT k5 (fun c _ e2 _ e => e2 (by rw [e]; exact HX4.out.tag)) he5 ((HX4.out.top.grow k5.size).tagAt hltT) hbL ?_
                obtain ⟨i, hi, hq1, hq2, hq3⟩ := tk_new HBY.out
                refine ⟨[e0, (T, va', vs')], ⟨RowOf.lit (by simpa [tc] using hbT) ?_ (by decide) tagAt_own, fun e he => ?_⟩, .inr ⟨i, S.length, ?_, ?_⟩⟩
                · refine flat_len [e0, (T, va', vs')] (s := 15) (fun e he => ?_)
                  rcases List.mem_cons.1 he with rfl | he
                  · exact tc_len HE0.out
                  · rw [show e = (T, va', vs') by simpa using he]; exact tcells_len HNL.out _ _
                · rcases List.mem_cons.1 he with rfl | he
                  · exact (HE0.out.but k5 (fun j hj => hngl j _ hj (by decide))).mono (he5.is (by decide))
                  · rw [show e = (T, va', vs') by simpa using he]
                    exact (HS4.out.tv.but k5 (fun j hj => hngl j _ hj (by decide))).mono (he5.is (by decide))
                · rw [List.length_append, List.length_singleton]
                  exact HF.out.new (tk_old S _) hi hq1 hq2
                · rw [hq3, getD_add_eq]; rfl
              have HJ5 := Hid.mk' (HJ2.out hX5 k5 (fun c hc => by
                rcases hc with hc | hc | ⟨e, n, hc⟩
                · exact hngl c _ hc (by decide)
                · exact hngl c _ hc (by decide)
                · exact hngl c _ hc (by simp)) he5)
              have HS5 : Hid (SeI w own gl g0 T va' vs' W5 (tagAt own3 gT .twi)) := by
                have hs := HS4.out
                have hb0 := hs.box.lt
                refine ⟨But.then hs.but k5 (fun c hc e => by rw [e]; intro h9; have h8 := HX4.out.tag; by_cases hq : own3 gl = own gl; rw [hq, h9] at h8; cases h8; exact absurd (hs.fresh gl hq) (by have := HGL.out; omega)), hs.ext.trans he5, hs.fresh.tagAt (.inl (by have := hs.but.size; omega)), hs.box.but k5 (show ¬ (g0 = gl) by have := HG0LT.out; omega), ?_, (hs.tv.but k5 (fun j hj => hngl j _ hj (by decide))).mono (he5.is (by decide))⟩
                unfold tagAt
                rw [if_neg (by omega)]
                exact hs.free
              go_upto_region 9 with fail
              clear k5 hgT hbT hbL hltT he5 hngl hX5 HJ2 HS4 HX4 HLU4 HE0 HC0 HCE HBY HNP HF
              have HS4 := HS5
              clear HS5
              generalize Value.slice (some ⟨gu, 0, none⟩) nu cu = u at *
              generalize tagAt own3 gT .twi = own5 at *
              generalize Value.slice (some ⟨gT, 0, none⟩) 2 2 = vt5 at *)
          all_goals
            have HRU : Hid (∀ c, u.ownBlock = some c → own5 c = .row T.1 T.2.1) := fun c hc => HJ5.out.row.row.inF c hc
            have HLL : Hid (Lu.length + 1 ≤ 1000000) := by
              show _ ≤ _
              have := congrArg List.length HLM.out
              have h2 : (byUse S T.1 T.2.1).length ≤ S.length := List.length_filter_le _ _
              simp at this
              have := HN.out
              omega
            have hgr : ¬ (u.ownBlock = some gl) := fun e => by have := HRU.out gl e; rw [HJ5.out.x.tag] at this; cases this
            have hg0r : ¬ (u.ownBlock = some g0) := fun e => by have := HRU.out g0 e; rw [HS4.out.free] at this; cases this
            have hbyr : ∀ c, own5 c = .byt → ¬ (u.ownBlock = some c) := fun c e e2 => by have := HRU.out c e2; rw [e] at this; cases this
            have hbr : ¬ (u.ownBlock = some b) := fun e => by have := HRU.out b e; rw [HJ5.out.bs] at this; cases this
            refine region_chain [([0, 1, 2, 3, 4, 5, 6, 7], 8), ([], 9), ([], 10)] [] (But (fun c => u.ownBlock = some c) W5) (Grow W5) (by kernel_rfl) (by kernel_rfl) (fun _ _ h k => h.trans k) (fun _ h => h.mono (fun _ _ h => h.elim)) ((But.refl _ W5).drew) ?_
            intro ι hne X hX
            have c3 : ∀ x, (X x).cell? ⟨gl, 3, none⟩ = some (.map (some b)) := fun x => (HJ5.out.x.blk.but (hX x) hgr).cell 3
            iterate 4 (refine still_step rfl (fun K hK => ?_); go_simp; refine hK _ ?_; clear hK K)
            refine still_val rfl (.agg B) rfl (fun x => by rw [HBE.out]; exact run_load_tup (HS4.out.box.but (hX x) hg0r).cells0 (tcells_len HNL.out _ _) rfl rfl) ?_
            intro K hK; go_simp; refine hK _ ?_; clear hK K
            refine still_call rfl U 41 #[.agg B] rfl (fun x => by kernel_rfl) (fun x => HUO.out _ _ (HS4.out.tv.but (hX x) hbyr)) ?_
            intro K hK; go_simp; refine hK _ ?_; clear hK K
            refine still_step rfl (fun K hK => ?_); go_simp; refine hK _ ?_; clear hK K
            refine still_val rfl (.agg B) rfl (fun x => by rw [HBE.out]; exact run_load_tup (HS4.out.box.but (hX x) hg0r).cells0 (tcells_len HNL.out _ _) rfl rfl) ?_
            intro K hK; go_simp; refine hK _ ?_; clear hK K
            refine still_nil ?_
            clear c3 hX hne
            refine turn_run rfl rfl (fun v w' => Grow W5 w' ∧ ∃ gT, v = .slice (some ⟨gT, 0, none⟩) 1 1 ∧ W5.heap.size ≤ gT ∧ Blk w' gT 46 (tcells T va' vs')) (fun _ => But (fun c => u.ownBlock = some c) W5) ?_ (fun _ _ h => h.1.mono (fun _ _ h => h.elim)) (.inr (fun _ _ h => h)) ?_ ?_
            · rintro v w1 w2' ⟨h1, gT, h2, h3, h4⟩ k
              exact ⟨h1.trans k, gT, h2, h3, h4.but k (fun h => h)⟩
            · intro w1 hw1
              refine turn_row1 (v := .agg B) (e := 46) Tryd.underlying39 infT (by decide) (by decide) rfl rfl (show B.size = 15 by rw [HBE.out]; simpa using tcells_len HNL.out _ _) ⟨hw1.alloc _, w1.heap.size, rfl, hw1.size, ?_⟩
              show Blk (w1.alloc (.cells B 46)) _ _ _
              rw [HBE.out]
              exact Blk.new rfl
            · rintro v ⟨wq, -, gT, rfl, -, -⟩ Y hY
              clear wq
              go_simp
              refine hY _ ?_
              clear hY Y
              intro ι hne X hX
              refine still_nil ?_
              clear hX hne
              refine turn_run rfl rfl (fun v w' => But (fun c => u.ownBlock = some c) W5 w' ∧ w'.ownsRow 0 46 15 v (Lu.length + 1) (Lu.flatMap tc ++ tcells T va' vs') ∧ (v.ownBlock = u.ownBlock ∨ ∃ k, v.ownBlock = some k ∧ W5.heap.size ≤ k) ∧ ∀ k, v.ownBlock = some k → k < w'.heap.size) (fun _ => But (fun c => u.ownBlock = some c) W5) ?_ (fun _ _ h => h.1) (.inr (fun _ _ h => h)) ?_ ?_
              · rintro v w1 w2' ⟨h1, h2, h3, h4⟩ k
                exact ⟨h1.trans (k.mono (fun _ _ h => h.elim)), ownsRow_grow h2 k, h3, fun j hj => Nat.lt_of_lt_of_le (h4 j hj) k.size⟩
              · rintro w1 ⟨h1, g', e, _, hb⟩
                obtain rfl : gT = g' := by cases e; rfl
                refine turn_append (e := 46) Tryd.underlying39 infT rfl (by decide) rfl rfl (ownsRow_grow HJ5.out.row.row.own h1) rfl (show (tcells T va' vs').length = 1 * 15 from tcells_len HNL.out _ _) hb.cells0 HS4.out.tv.one HLL.out (by decide) ?_
                intro v' w3 ha
                refine ⟨(h1.mono (fun _ _ h => h.elim)).trans ha.but, ha.own, ?_, ha.lt⟩
                rcases ha.at' with h | h
                · exact .inl h
                · exact .inr ⟨_, h, h1.size⟩
              · rintro v4 - Y hY
                go_simp
                refine hY _ ?_
                clear hY Y
                intro ι hne X hX
                refine still_nil ?_
                clear hX hne
                refine turn_run rfl rfl (fun _ w' => ∃ M', Mp Tryd.prog 80 w' b M' ∧ (U, v4) ∈ M' ∧ (∀ k r, k ≠ U → ((k, r) ∈ M' ↔ (k, r) ∈ M)) ∧ But (fun c => u.ownBlock = some c ∨ c = b) W5 w' ∧ w'.ownsRow 0 46 15 v4 (Lu.length + 1) (Lu.flatMap tc ++ tcells T va' vs') ∧ (v4.ownBlock = u.ownBlock ∨ ∃ k, v4.ownBlock = some k ∧ W5.heap.size ≤ k) ∧ ∀ k, v4.ownBlock = some k → k < w'.heap.size) (fun _ _ => True) ?_ (fun _ _ _ => trivial) (.inl (by kernel_rfl)) ?_ ?_
                · rintro v w1 w2' ⟨M', h1, h2, h3, h4, h5, h6, h7⟩ k
                  exact ⟨M', h1.but k (fun h => h), h2, h3, h4.trans (k.mono (fun _ _ h => h.elim)), ownsRow_grow h5 k, h6, fun j hj => Nat.lt_of_lt_of_le (h7 j hj) k.size⟩
                · rintro w1 ⟨h1, h2, h3, h4⟩
                  obtain ⟨w3, M', hr, hm2, hb2, hin, hot⟩ := (HJ5.out.mp.but h1 hbr).put keyU (t := 68) Tryd.underlying68 (v := v4) HKL.out
                  rw [← HUK.out] at hr hin hot
                  refine turn_put rfl rfl rfl rfl hr ⟨M', hm2, hin, hot, (h1.mono (fun _ _ h => .inl h)).trans (hb2.mono (fun _ _ h => .inr h)), ownsRow_but h2 hb2 ?_, h3, fun j hj => Nat.lt_of_lt_of_le (h4 j hj) hb2.size⟩
                  intro j hj e
                  have hbl5 := HJ5.out.mp.lt
                  rcases h3 with h3 | ⟨k, hk, hk2⟩
                  · rw [h3, e] at hj; exact hbr hj
                  · rw [hk] at hj; cases hj; omega
                · rintro v5 - Y hY
                  go_simp
                  refine hY _ ?_
                  clear hY Y
                  intro ι hne X hX
                  refine still_nil ?_
                  clear hX hne
                  rintro W6 ⟨M', h1, h2, h3, h4, h5, h6, h7⟩
                  go_wp2
                  go_end0
                  refine ⟨rfl, ?_⟩
                  exact sealed_end HS4.out HJ5.out HNPL.out HNOL.out HLM.out h1 (by rw [← HUK.out]; exact h2) (by rw [← HUK.out]; exact h3) h4 h5 h6 h7
end Go.Proofs.YthpgjbblbhjndaaDoor
