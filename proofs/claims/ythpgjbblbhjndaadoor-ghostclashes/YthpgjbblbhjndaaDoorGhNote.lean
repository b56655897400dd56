/- ghost: keepInput, Note. -/
import Derived.Test.YthpgjbblbhjndaaDoorGhOps
namespace Go.Proofs.YthpgjbblbhjndaaDoor
open Go.RowKit

theorem wrap_i64 (n : Int) (h1 : -9223372036854775808 ≤ n) (h2 : n < 9223372036854775808) : IntKind.i64.wrap n = n := by
  simp [IntKind.wrap, IntKind.bits, IntKind.signed]; omega
theorem firstIn_add (P : List Pr) (x D E : List Nat) : firstIn (P ++ [(x, D)]) E = match firstIn P E with | some y => some y | none => if D = E then some x else none := by
  unfold firstIn
  rw [List.find?_append]
  cases h : P.find? (fun p => decide (p.2 = E)) with
  | some y => simp
  | none =>
    by_cases hE : D = E
    · simp [hE]
    · simp [hE]
theorem i32 : (Tryd.prog.info? 35).map (·.size) = some 32 := by kernel_rfl
theorem zS (w : World) : (zeroValue 31).run Tryd.prog w = .ok (.slice none 0 0) w := by kernel_rfl
abbrev lgc (nh no : Nat) (vi vc vm vt vb vs : Value) : List Value := [.int .i64 (nh : Int), vi, vc, vm, vt, vb, .int .i64 (no : Int), vs]
/-- The map of inputs has one more. -/
theorem InM.put {w w' : World} {own own' : Owner} {b : Nat} {M M' : List (Value × Value)} {P : List Pr} {xs D : List Nat} {u : Value}
    (hM : ∀ E, wf32 E → match firstIn P E with | some x => ∃ u, (dkey E, u) ∈ M ∧ Bf w (Is own .byt) u x | none => ∀ p ∈ M, p.1 ≠ dkey E) (hn : firstIn P D = none) (hmp : Mp Tryd.prog 35 w' b M') (hin : (dkey D, u) ∈ M') (hot : ∀ k v, k ≠ dkey D → ((k, v) ∈ M' ↔ (k, v) ∈ M))
    {R : Nat → Prop} (hk : But R w w') (hr : ∀ b, own b = .byt → ¬ R b) (he : Ext own own') (hb : own' b = .inm) (hu : Bf w' (Is own' .byt) u xs) : InM w' own' (.map (some b)) (P ++ [(xs, D)]) := by
  refine ⟨M', .inr ⟨b, rfl, hb, hmp⟩, fun E hE => ?_⟩
  rw [firstIn_add]
  have h := hM E hE
  cases hf : firstIn P E with
  | some x =>
    rw [hf] at h
    obtain ⟨v, h1, h2⟩ := h
    have hne : dkey E ≠ dkey D := fun e => by
      have := dkey_inj e
      rw [this, hn] at hf; cases hf
    exact ⟨v, (hot _ _ hne).2 h1, (h2.but hk hr).mono (he.is (by decide))⟩
  | none =>
    rw [hf] at h
    by_cases hDE : D = E
    · subst hDE
      simp only [if_true]
      exact ⟨u, hin, hu⟩
    · simp only [if_neg hDE]
      intro p hp e
      have hne : p.1 ≠ dkey D := fun e2 => hDE (dkey_inj (e2.symm.trans e))
      exact h p ((hot p.1 p.2 hne).1 hp) e
/-- What keepInput leaves. -/
structure KeepTo (w : World) (own : Owner) (gl nh no : Nat) (vc vm vt vb vs : Value) (P : List Pr) (w' : World) : Prop where
  but : But (fun b => b = gl ∨ own b = .inm) w w'
  ex : ∃ own' vi', Ext own own' ∧ Fresh w own own' ∧ Top w' own' ∧ Blk w' gl 70 (lgc nh no vi' vc vm vt vb vs) ∧ InM w' own' vi' P
set_option maxRecDepth 100000 in
set_option maxHeartbeats 8000000 in
theorem keep_any {w : World} {own : Owner} {gl nh no : Nat} {vi vc vm vt vb vs v : Value} {P : List Pr} {xs D : List Nat} (ht : Top w own) (hg : own gl = .log) (hb : Blk w gl 70 (lgc nh no vi vc vm vt vb vs)) (hi : InM w own vi P)
    (hv : Bf w (Is own .none) v xs) (hl : xs.length ≤ 140737488355328) (hD : wf32 D) (hn : firstIn P D = none) :
    Calls Tryd.prog 39 #[.pointer (some ⟨gl, 0, none⟩), v, dkey D] w fun e w' => e = .returned (.tuple #[]) ∧ KeepTo w own gl nh no vc vm vt vb vs (P ++ [(xs, D)]) w' := by
  obtain ⟨M, hM, hMP⟩ := hi.ex
  have hgl := ht.lt (b := gl) (by rw [hg]; decide)
  obtain ⟨g0, hg0⟩ : ∃ g, g = w.heap.size := ⟨_, rfl⟩
  obtain ⟨N, hN⟩ : ∃ N, N = (u8s D).toArray := ⟨_, rfl⟩
  have hdk : dkey D = .agg N := by rw [hN]; rfl
  obtain ⟨W0, hW0⟩ : ∃ W0, W0 = w.alloc (.cells N 35) := ⟨_, rfl⟩
  have hT0 : Grow w W0 := by rw [hW0]; exact (But.refl _ w).alloc _
  have hs0 : W0.heap.size = g0 + 1 := by rw [hW0, hg0]; simp
  have hB0 : Blk W0 g0 35 (u8s D) := by rw [hW0, hN]; exact Blk.new hg0.symm
  have hL0 := hb.but hT0 (fun h => h)
  have c1 : W0.cell? ⟨gl, 1, none⟩ = some vi := hL0.cell 1
  have f1 := hL0.free 1
  rw [hdk]
  have HB0 := Hid.mk' hB0
  have HL0 := Hid.mk' hL0
  have HT0 := Hid.mk' hT0
  have HT := Hid.mk' ht
  have HG := Hid.mk' hg
  have HG0 := Hid.mk' hg0
  have HGL := Hid.mk' hgl
  have HN := Hid.mk' hN
  have HDK := Hid.mk' hdk
  have HD := Hid.mk' hD
  have HFN := Hid.mk' hn
  have HMP := Hid.mk' hMP
  have HV := Hid.mk' hv
  have HLX := Hid.mk' hl
  have HS0 := Hid.mk' hs0
  have HW0 := Hid.mk' hW0
  rw [hW0] at c1 f1
  clear hi hdk hN hB0 hL0 hT0 hb ht hg hg0 hgl hD hn hMP hv hl hs0 hW0
  have hme := map_eql (t := 67) Tryd.underlying67
  rcases hM with ⟨rfl, hM0⟩ | ⟨b, rfl, hbi, hmp⟩
  case' inl =>
    have HM0 := Hid.mk' hM0
    clear hM0
    have hmm := @run_makeMap Tryd.prog
    have c1' : ((w.alloc (.cells N 35)).alloc (.map #[] 0)).cell? ⟨gl, 1, none⟩ = some (.map none) := by
      rw [← HW0.out]; exact (HL0.out.but (R := fun _ => False) ((But.refl _ W0).alloc _) (fun h => h)).cell 1
    have f1' : ((w.alloc (.cells N 35)).alloc (.map #[] 0)).frozen? ⟨gl, 1, none⟩ = false := by
      rw [← HW0.out]; exact (HL0.out.but (R := fun _ => False) ((But.refl _ W0).alloc _) (fun h => h)).free 1
    go_enter Tryd.func39, Tryd.ntmps39
    go_upto_region 3 with fail
    obtain ⟨W, hW⟩ : ∃ W, W = (W0.alloc (.map #[] 0)).setCell ⟨gl, 1, none⟩ (.map (some (w.heap.size + 1))) := ⟨_, rfl⟩
    rw [← HW0.out, ← hW]
    have hs0 := HS0.out
    have hg0 := HG0.out
    have hgl := HGL.out
    rw [← hg0] at hW ⊢
    have hWb : But (· = gl) W0 W := by rw [hW]; exact ((But.refl _ W0).alloc _).trans (But.set1 _ _ _ _)
    have hMp : Mp Tryd.prog 35 W (g0 + 1) M := by rw [HM0.out, hW]; exact (Mp.new (g0 + 1) (by omega)).but (But.set1 _ _ _ _) (show ¬ (g0 + 1 = gl) by omega)
    have hLW : Blk W gl 70 (lgc nh no (.map (some (g0 + 1))) vc vm vt vb vs) := by rw [hW]; exact (HL0.out.but (R := fun _ => False) ((But.refl _ W0).alloc _) (fun h => h)).set 1 _
    have hsz : W.heap.size = g0 + 2 := by rw [hW]; simp; omega
    have HOW : Hid (∃ own1, Ext own own1 ∧ Fresh w own own1 ∧ Top W own1 ∧ own1 (g0 + 1) = .inm) :=
      ⟨tagAt own (g0 + 1) .inm, Ext.tagAt (.inl (HT.out _ (by omega))), (Fresh.refl w own).tagAt (.inl (by omega)), (HT.out.grow (by omega)).tagAt (by omega), tagAt_own⟩
    generalize g0 + 1 = b at *
    clear hW hs0 hg0 hgl hsz c1' f1' hmm
  case' inr =>
    go_enter Tryd.func39, Tryd.ntmps39
    go_upto_region 3 with fail
    obtain ⟨W, hW⟩ : ∃ W, W = W0 := ⟨_, rfl⟩
    rw [← HW0.out, ← hW]
    have hs0 := HS0.out
    have hg0 := HG0.out
    rw [← hg0]
    have hWb : But (· = gl) W0 W := by rw [hW]; exact But.refl _ _
    have hMp : Mp Tryd.prog 35 W b M := by rw [hW]; exact hmp.but HT0.out (fun h => h)
    have hLW : Blk W gl 70 (lgc nh no (.map (some b)) vc vm vt vb vs) := by rw [hW]; exact HL0.out
    have HOW : Hid (∃ own1, Ext own own1 ∧ Fresh w own own1 ∧ Top W own1 ∧ own1 b = .inm) :=
      ⟨own, Ext.refl _, Fresh.refl _ _, HT.out.grow (by rw [hW]; exact HT0.out.size), hbi⟩
    clear hW hs0 hg0 hmp
  all_goals
    have HWB := Hid.mk' hWb
    have HMQ := Hid.mk' hMp
    have HLW := Hid.mk' hLW
    have HBW : Hid (Blk W g0 35 (u8s D)) := HB0.out.but hWb (show ¬ (g0 = gl) by have := HGL.out; have := HG0.out; omega)
    have HBT : Hid (But (· = gl) w W) := (HT0.out.mono (fun _ _ h => h.elim)).trans hWb
    have HVW : Hid (Bs W v xs) := (HV.out.but HBT.out (fun j hj e => by have h1 := HG.out; rw [← e, show own j = .none from hj] at h1; cases h1)).1
    have HC := Hid.mk' (fun w' (hw : Grow W w') => clone_any (HVW.out.but hw (fun _ _ _ h => h)) HLX.out)
    clear hWb hMp hLW c1 f1 hme
    refine region_chain [([0, 1, 2, 3, 4, 5], 6), ([], 7)] [] (Grow W) (Grow W) (by kernel_rfl) (by kernel_rfl) (fun _ _ h k => h.trans k) (fun _ h => h) ((But.refl _ W).drew) ?_
    intro ι hne X hX
    have c1 : ∀ x, (X x).cell? ⟨gl, 1, none⟩ = some (.map (some b)) := fun x => (HLW.out.but (hX x) (fun h => h)).cell 1
    iterate 4 (refine still_step rfl (fun K hK => ?_); go_simp; refine hK _ ?_; clear hK K)
    refine still_val rfl (.agg N) rfl (fun x => by rw [HN.out]; exact run_load_arr ukt i32 (HBW.out.but (hX x) (fun h => h)).cells0 HD.out.1 rfl rfl) ?_
    intro K hK; go_simp; refine hK _ ?_; clear hK K
    refine still_step rfl (fun K hK => ?_); go_simp; refine hK _ ?_; clear hK K
    refine still_nil ?_
    clear c1 hX hne
    refine turn_call rfl rfl (fun u w' => Grow W w' ∧ Ow w' W.heap.size u xs) (fun _ => Grow W) (fun u w1 w2 h k => ⟨h.1.trans k, h.2.but k (fun _ _ _ h => h)⟩) (fun u w1 h => h.1) (.inr (fun _ _ h => h)) 31 #[v] (fun _ => by kernel_rfl) ?_ ?_
    · intro w1 hw1
      refine Calls.mono (HC.out w1 hw1) ?_
      rintro e w2 ⟨v', rfl, ho, hbl⟩
      exact ⟨v', rfl, hw1.trans (But.of hbl), ho.mono hw1.size⟩
    · intro u hex Y hY
      go_simp
      refine hY _ ?_
      clear hY Y hex
      intro ι hne X hX
      refine still_nil ?_
      clear hX hne
      refine turn_run rfl rfl (fun _ w' => ∃ M', Mp Tryd.prog 35 w' b M' ∧ (dkey D, u) ∈ M' ∧ (∀ k r, k ≠ dkey D → ((k, r) ∈ M' ↔ (k, r) ∈ M)) ∧ But (· = b) W w' ∧ Ow w' W.heap.size u xs) (fun _ _ => True) ?_ (fun _ _ _ => trivial) (.inl (by kernel_rfl)) ?_ ?_
      · rintro _ w1 w2 ⟨M', h1, h2, h3, h4, h5⟩ k
        exact ⟨M', h1.but k (fun h => h), h2, h3, h4.trans (k.mono (fun _ _ h => h.elim)), h5.but k (fun _ _ _ h => h)⟩
      · rintro w1 ⟨h1, h2⟩
        obtain ⟨l, hl⟩ := key_d HD.out
        obtain ⟨w2, M', hr, hm2, hb2, hin, hot⟩ := (HMQ.out.but h1 (fun h => h)).put keyD (t := 67) Tryd.underlying67 (v := u) hl
        refine ⟨undef, w2, .inr ⟨exec_mapUpdate rfl rfl (show _ = dkey D from HDK.out.symm) rfl hr, rfl⟩, M', hm2, hin, hot, (h1.mono (fun _ _ h => h.elim)).trans hb2, h2.but hb2 (fun j hj _ e => ?_)⟩
        have := (h2.ge j hj).1
        have := HMQ.out.lt
        omega
      · intro _ _ Y hY
        go_simp
        refine hY _ ?_
        clear hY Y
        intro ι hne X hX
        refine still_nil ?_
        rintro w' ⟨M', h1, h2, h3, h4, h5⟩
        go_wp2
        go_end0
        obtain ⟨own1, he1, hf1, ht1, hb1⟩ := HOW.out
        have hbl := HMQ.out.lt
        have hsz := HBT.out.size
        have hnone : ∀ k, u.ownBlock = some k → own1 k = .none := fun k hk => ht1 k (h5.ge k hk).1
        have he2 : Ext own1 (tagV own1 u .byt) := Ext.tagV (fun k hk => .inl (hnone k hk))
        refine ⟨rfl, ?_, tagV own1 u .byt, .map (some b), he1.trans he2, hf1.tagV (fun k hk => .inl (Nat.le_trans hsz (h5.ge k hk).1)), (ht1.grow h4.size).tagV (fun k hk => (h5.ge k hk).2), ?_, ?_⟩
        · refine ⟨h4.os.trans HBT.out.os, h4.tape.trans HBT.out.tape, h4.output.trans HBT.out.output, Nat.le_trans hsz h4.size, fun k hk hn => ?_⟩
          refine (h4.block k (Nat.lt_of_lt_of_le hk hsz) (fun e => ?_)).trans (HBT.out.block k hk (fun e => hn (.inl e)))
          subst e
          by_cases hkk : own k = .none
          · have := hf1 k (by rw [hb1, hkk]; decide)
            omega
          · exact hn (.inr (by rw [← he1 k hkk]; exact hb1))
        · exact HLW.out.but h4 (fun e => by
            subst e
            have := HG.out
            have h9 := he1.is (t := .log) (by decide) gl this
            rw [show own1 gl = .log from h9] at hb1; cases hb1)
        · have HALL : But (fun k => k = gl ∨ k = b) w w' := (HBT.out.mono (fun _ _ h => .inl h)).trans (h4.mono (fun _ _ h => .inr h))
          refine InM.put HMP.out HFN.out h1 h2 h3 HALL (fun k hk hR => ?_) (he1.trans he2) (he2.is (by decide) b hb1) ⟨h5.bs, fun _ k hk => tagV_own hk⟩
          rcases hR with rfl | rfl
          · have := HG.out
            rw [hk] at this; cases this
          · have := he1.is (t := .byt) (by decide) k hk
            rw [show own1 k = .byt from this] at hb1; cases hb1
theorem getD_add_lt {α : Type} (L : List α) (x d : α) {i : Nat} (h : i < L.length) : (L ++ [x]).getD i d = L.getD i d := by
  simp [List.getD, List.getElem?_append_left h]
theorem getD_add_eq {α : Type} (L : List α) (x d : α) : (L ++ [x]).getD L.length d = x := by simp [List.getD]
section
variable {p q : Nat → Nat → Bool} {n : Nat}
theorem Fst2.stay {i j : Nat} (h : Fst2 p n (some (i, j))) (ha : ∀ k l, k < l → l < n → q k l = p k l) : Fst2 q (n + 1) (some (i, j)) := by
  obtain ⟨h1, h2, h3, h4, h5⟩ := h
  refine ⟨h1, by omega, by rw [ha i j h1 h2]; exact h3, fun k hk => by rw [ha k j (by omega) h2]; exact h4 k hk, fun l hl k hk => by rw [ha k l hk (by omega)]; exact h5 l hl k hk⟩
theorem Fst2.still (h : Fst2 p n none) (ha : ∀ k l, k < l → l < n → q k l = p k l) (hn : ∀ k, k < n → q k n = false) : Fst2 q (n + 1) none := by
  intro j hj i hi
  by_cases hjn : j = n
  · subst hjn; exact hn i hi
  · rw [ha i j hi (by omega)]; exact h j (by omega) i hi
theorem Fst2.new {i : Nat} (h : Fst2 p n none) (ha : ∀ k l, k < l → l < n → q k l = p k l) (hi : i < n) (hq : q i n = true) (hn : ∀ k, k < i → q k n = false) : Fst2 q (n + 1) (some (i, n)) :=
  ⟨hi, by omega, hq, hn, fun l hl k hk => by rw [ha k l hk hl]; exact h l hl k hk⟩
end
theorem ck_old (P : List Pr) (x : Pr) : ∀ k l, k < l → l < P.length → ck (P ++ [x]) k l = ck P k l := by
  intro k l h1 h2
  unfold ck
  rw [getD_add_lt P x p0 (by omega), getD_add_lt P x p0 h2]
theorem firstIn_some {P : List Pr} {D x : List Nat} (h : firstIn P D = some x) : ∃ i, i < P.length ∧ (P.getD i p0).2 = D ∧ (P.getD i p0).1 = x ∧ ∀ k, k < i → (P.getD k p0).2 ≠ D := by
  unfold firstIn at h
  obtain ⟨y, hy, rfl⟩ := Option.map_eq_some_iff.1 h
  obtain ⟨h1, i, hi, h2, h3⟩ := List.find?_eq_some_iff_getElem.1 hy
  have e : P.getD i p0 = y := by simp [List.getD, hi, h2]
  refine ⟨i, hi, by rw [e]; simpa using h1, by rw [e], fun k hk hD => ?_⟩
  have h4 := h3 k hk
  have e2 : P.getD k p0 = P[k] := by simp [List.getD, show k < P.length by omega]
  rw [e2] at hD
  simp [hD] at h4
theorem firstIn_none {P : List Pr} {D : List Nat} (h : firstIn P D = none) : ∀ k, k < P.length → (P.getD k p0).2 ≠ D := by
  unfold firstIn at h
  rw [Option.map_eq_none_iff, List.find?_eq_none] at h
  intro k hk hD
  have e2 : P.getD k p0 = P[k] := by simp [List.getD, hk]
  have := h P[k] (List.getElem_mem hk)
  rw [e2] at hD
  simp [hD] at this
theorem ck_none {P : List Pr} {D xs : List Nat} (h : firstIn P D = none) : ∀ k, k < P.length → ck (P ++ [(xs, D)]) k P.length = false := by
  intro k hk
  unfold ck
  rw [getD_add_lt P _ p0 hk, getD_add_eq]
  exact decide_eq_false (fun e => firstIn_none h k hk e.1)
theorem ck_same {P : List Pr} {D xs : List Nat} (h : firstIn P D = some xs) (hn : Fst2 (ck P) P.length none) : ∀ k, k < P.length → ck (P ++ [(xs, D)]) k P.length = false := by
  intro k hk
  unfold ck
  rw [getD_add_lt P _ p0 hk, getD_add_eq]
  refine decide_eq_false (fun e => e.2 ?_)
  obtain ⟨i, hi, h1, h2, h3⟩ := firstIn_some h
  rcases Nat.lt_trichotomy i k with hik | rfl | hik
  · have := hn k hk i hik
    unfold ck at this
    have := of_decide_eq_false this
    by_cases hx : (P.getD k p0).1 = xs
    · exact hx
    · exact absurd ⟨h1.trans e.1.symm, fun e2 => hx (by rw [← e2]; exact h2)⟩ this
  · exact h2
  · exact absurd e.1 (h3 k hik)
theorem ck_new {P : List Pr} {D xs x : List Nat} (h : firstIn P D = some x) (hne : x ≠ xs) : ∃ i, i < P.length ∧ ck (P ++ [(xs, D)]) i P.length = true ∧ (∀ k, k < i → ck (P ++ [(xs, D)]) k P.length = false) ∧ ((P ++ [(xs, D)]).getD i p0).1 = x := by
  obtain ⟨i, hi, h1, h2, h3⟩ := firstIn_some h
  refine ⟨i, hi, ?_, fun k hk => ?_, by rw [getD_add_lt P _ p0 hi]; exact h2⟩
  · unfold ck
    rw [getD_add_lt P _ p0 hi, getD_add_eq]
    exact decide_eq_true ⟨h1, by rw [h2]; exact hne⟩
  · unfold ck
    rw [getD_add_lt P _ p0 (by omega), getD_add_eq]
    exact decide_eq_false (fun e => h3 k hk e.1)
theorem InM.same {w : World} {own : Owner} {v : Value} {P : List Pr} {xs D x : List Nat} (h : InM w own v P) (hf : firstIn P D = some x) : InM w own v (P ++ [(xs, D)]) := by
  obtain ⟨M, h1, h2⟩ := h
  refine ⟨M, h1, fun E hE => ?_⟩
  rw [firstIn_add]
  have := h2 E hE
  cases hE2 : firstIn P E with
  | some y => rw [hE2] at this; exact this
  | none =>
    rw [hE2] at this
    by_cases hDE : D = E
    · subst hDE; rw [hf] at hE2; cases hE2
    · simp only [if_neg hDE]; exact this
theorem Cla.keep {w : World} {own : Owner} {v : Value} {P : List Pr} {x : Pr} (h : Cla w own v P) (hn : Fst2 (ck P) P.length none → ∀ k, k < P.length → ck (P ++ [x]) k P.length = false) : Cla w own v (P ++ [x]) := by
  obtain ⟨L, h1, h2⟩ := h
  refine ⟨L, h1, ?_⟩
  rw [List.length_append, List.length_singleton]
  rcases h2 with ⟨h2, h3⟩ | ⟨i, j, h2, h3⟩
  · exact .inl ⟨h2, h3.still (ck_old P x) (hn h3)⟩
  · refine .inr ⟨i, j, h2.stay (ck_old P x), ?_⟩
    have hj := h2.2.1
    have hi := h2.1
    rw [getD_add_lt P x p0 (by omega), getD_add_lt P x p0 hj]
    exact h3
/-- The log's other parts stay where only its own block and the map of inputs turn. -/
theorem LgV.swap {R : Nat → Prop} {w w' : World} {own own' : Owner} {gl : Nat} {P P' : List Pr} {S O : List Tup} {nh no : Nat} {vi vi' vc vc' vm vt vb vs : Value} (h : LgV w own gl P S O nh no vi vc vm vt vb vs) (k : But R w w') (hr : ∀ b, own b ≠ .none → own b ≠ .log → own b ≠ .inm → own b ≠ .cla → ¬ R b) (he : Ext own own') (ht : Top w' own')
    (hb : Blk w' gl 70 (lgc nh no vi' vc' vm vt vb vs)) (hi : InM w' own' vi' P') (hc : Cla w' own' vc' P') : LgV w' own' gl P' S O nh no vi' vc' vm vt vb vs := by
  have hx : ∀ {b t}, own b = t → t ≠ .none → t ≠ .log → t ≠ .inm → t ≠ .cla → ¬ R b := fun h1 h2 h3 h4 h5 => hr _ (by rw [h1]; exact h2) (by rw [h1]; exact h3) (by rw [h1]; exact h4) (by rw [h1]; exact h5)
  refine ⟨ht, he.is (by decide) gl h.tag, hb, hi, hc, h.sem.but k ?_ he, h.twi.but k ?_ he, h.blo.but k ?_ he, h.str.but k ?_ he⟩
  all_goals intro b hb
  · rcases hb with hb | hb | ⟨e, n, hb⟩
    · exact hx hb (by decide) (by decide) (by decide) (by decide)
    · exact hx hb (by decide) (by decide) (by decide) (by decide)
    · exact hx hb (by simp) (by simp) (by simp) (by simp)
  · rcases hb with hb | hb <;> exact hx hb (by decide) (by decide) (by decide) (by decide)
  · rcases hb with hb | hb <;> exact hx hb (by decide) (by decide) (by decide) (by decide)
  · rcases hb with hb | hb <;> exact hx hb (by decide) (by decide) (by decide) (by decide)
set_option maxRecDepth 100000 in
set_option maxHeartbeats 8000000 in
theorem note_any {w : World} {own : Owner} {gl : Nat} {v : Value} {P : List Pr} {S O : List Tup} {xs D : List Nat} (h : Lg w own gl P S O) (hv : Bf w (Is own .none) v xs) (hl : xs.length ≤ 140737488355328) (hD : wf32 D) (hn : P.length < 1000000) :
    Calls Tryd.prog 25 #[.pointer (some ⟨gl, 0, none⟩), v, dkey D] w fun e w' => e = .returned (.tuple #[]) ∧ LgTo w own gl (P ++ [(xs, D)]) S O w' := by
  obtain ⟨vi, vc, vm, vt, vb, vs, h⟩ := h
  have hgl := h.top.lt (b := gl) (by rw [h.tag]; decide)
  obtain ⟨g0, hg0⟩ : ∃ g, g = w.heap.size := ⟨_, rfl⟩
  obtain ⟨N, hN⟩ : ∃ N, N = (u8s D).toArray := ⟨_, rfl⟩
  have hdk : dkey D = .agg N := by rw [hN]; rfl
  obtain ⟨W0, hW0⟩ : ∃ W0, W0 = w.alloc (.cells N 35) := ⟨_, rfl⟩
  have hT0 : Grow w W0 := by rw [hW0]; exact (But.refl _ w).alloc _
  have hB0 : Blk W0 g0 35 (u8s D) := by rw [hW0, hN]; exact Blk.new hg0.symm
  have hL0 := h.blk.but hT0 (fun h => h)
  have c0 : W0.cell? ⟨gl, 0, none⟩ = some (.int .i64 (P.length : Int)) := hL0.cell 0
  have f0 := hL0.free 0
  obtain ⟨n, hpn⟩ : ∃ n, n = P.length := ⟨_, rfl⟩
  rw [← hpn] at c0 hn
  obtain ⟨W1, hW1⟩ : ∃ W1, W1 = W0.setCell ⟨gl, 0, none⟩ (.int .i64 ((n : Int) + 1)) := ⟨_, rfl⟩
  have hT1 : But (· = gl) w W1 := by rw [hW1]; exact (hT0.mono (fun _ _ h => h.elim)).trans (But.set1 _ _ _ _)
  have hB1 : Blk W1 g0 35 (u8s D) := by rw [hW1]; exact hB0.but (But.set1 _ _ _ _) (show ¬ (g0 = gl) by omega)
  have hq : ∀ {b t}, own b = t → t ≠ .log → ¬ (b = gl) := fun h1 h2 e => h2 (by rw [← h1, e]; exact h.tag)
  have hL1 : LgV W1 own gl P S O (n + 1) O.length vi vc vm vt vb vs := by
    refine ⟨h.top.grow hT1.size, h.tag, ?_, h.inm.but hT1 ?_ (Ext.refl _), h.cla.but hT1 ?_ (Ext.refl _), h.sem.but hT1 ?_ (Ext.refl _), h.twi.but hT1 ?_ (Ext.refl _), h.blo.but hT1 ?_ (Ext.refl _), h.str.but hT1 ?_ (Ext.refl _)⟩
    · rw [hW1]; exact hL0.set 0 _
    all_goals intro b hb
    · rcases hb with hb | hb <;> exact hq hb (by decide)
    · rcases hb with hb | hb <;> exact hq hb (by decide)
    · rcases hb with hb | hb | ⟨e, n, hb⟩
      · exact hq hb (by decide)
      · exact hq hb (by decide)
      · exact hq hb (by simp)
    · rcases hb with hb | hb <;> exact hq hb (by decide)
    · rcases hb with hb | hb <;> exact hq hb (by decide)
    · rcases hb with hb | hb <;> exact hq hb (by decide)
  have hV1 : Bf W1 (Is own .none) v xs := hv.but hT1 (fun j hj e => by have h1 := h.tag; rw [← e, show own j = .none from hj] at h1; cases h1)
  have hwr : IntKind.i64.wrap ((n : Int) + 1) = (n : Int) + 1 := wrap_i64 _ (by omega) (by omega)
  rw [hdk]
  obtain ⟨l, hkl⟩ := key_d hD
  rw [hdk] at hkl
  have HB1 := Hid.mk' hB1
  have HL1 := Hid.mk' hL1
  have HT1 := Hid.mk' hT1
  have HV1 := Hid.mk' hV1
  have HN := Hid.mk' hN
  have HDK := Hid.mk' hdk
  have HD := Hid.mk' hD
  have HLX := Hid.mk' hl
  have HG0 := Hid.mk' hg0
  have HW0 := Hid.mk' hW0
  have HW1 := Hid.mk' hW1
  have HPN := Hid.mk' hpn
  have HKL := Hid.mk' hkl
  have HTAG := Hid.mk' h.tag
  rw [hW0] at c0 f0
  obtain ⟨M, hM, hMP⟩ := hL1.inm.ex
  have hlk := hMP D hD
  have HM := Hid.mk' hM
  clear hdk hN hB0 hL0 hT0 hB1 hL1 hT1 hV1 hD hl hv hW0 hW1 hpn hkl hq h hMP hM hgl hg0
  cases hf : firstIn P D with
  | none =>
    rw [hf] at hlk
    have HLK : Hid (∀ w', Grow W1 w' → (Instr.lookup 67 vi (.agg N) true).run Tryd.prog w' = .ok (.tuple #[.slice none 0 0, .bool false]) w') := fun w' hw => by
      rcases HM.out with ⟨rfl, _⟩ | ⟨b, rfl, _, hm⟩
      · exact look_none keyD Tryd.underlying67 (zS w') HKL.out true
      · exact ((hm.but hw (fun h => h)).look keyD Tryd.underlying67 (zS w') HKL.out true).2 (by rw [← HDK.out]; exact hlk)
    have HF := Hid.mk' hf
    clear hlk hf
    go_enter Tryd.func25, Tryd.ntmps25
    go_upto_region 3 with fail
    rw [← HW0.out, ← HW1.out, ← HG0.out]
    refine region_chain [] [0, 1, 2, 3, 4, 5, 6, 7, 8, 9, 10] (Grow W1) (Grow W1) (by kernel_rfl) (by kernel_rfl) (fun _ _ h k => h.trans k) (fun _ h => h) ((But.refl _ W1).drew) ?_
    intro ι hne X hX
    have c1 : ∀ x, (X x).cell? ⟨gl, 1, none⟩ = some vi := fun x => (HL1.out.blk.but (hX x) (fun h => h)).cell 1
    iterate 4 (refine still_step rfl (fun K hK => ?_); go_simp; refine hK _ ?_; clear hK K)
    refine still_val rfl (.agg N) rfl (fun x => by rw [HN.out]; exact run_load_arr ukt i32 (HB1.out.but (hX x) (fun h => h)).cells0 HD.out.1 rfl rfl) ?_
    intro K hK; go_simp; refine hK _ ?_; clear hK K
    refine still_val rfl (.tuple #[.slice none 0 0, .bool false]) rfl (fun x => exec_lookup rfl rfl rfl (HLK.out _ (hX x))) ?_
    intro K hK; go_simp; refine hK _ ?_; clear hK K
    iterate 5 (refine still_step rfl (fun K hK => ?_); go_simp; refine hK _ ?_; clear hK K)
    refine still_nil ?_
    clear c1 hX hne
    intro W3 hW3
    have HT3 := Hid.mk' (HT1.out.then hW3 (fun _ _ h => h.elim))
    have hL3 := HL1.out.but hW3 (fun _ _ h => h) (Ext.refl _) (HL1.out.top.grow hW3.size)
    have HL3 := Hid.mk' hL3
    have HKP := Hid.mk' (keep_any hL3.top hL3.tag hL3.blk hL3.inm (HV1.out.but hW3 (fun _ _ h => h)) HLX.out HD.out HF.out)
    have HB3 := Hid.mk' (HB1.out.but hW3 (fun h => h))
    rw [HDK.out] at HKP
    clear hL3 hW3 HL1 HV1 HB1 HLK
    go_wp2_with (first
      | (refine wpList_load_u8s ukt i32 rfl _ rfl g0 D HD.out.1 rfl HB3.out ?_; rw [← HN.out])
      | fail)
    refine Calls.mono HKP.out ?_
    rintro e w' ⟨rfl, hk⟩
    go_wp2
    refine bodyPost_ret (results_none rfl _ _ _) rfl ⟨rfl, ?_⟩
    obtain ⟨own', vi', he, hfr, ht, hb, hi⟩ := hk.ex
    have hnn : own gl ≠ .none := by rw [HTAG.out]; decide
    refine ⟨(HT3.out.mono (fun b _ e => by rw [e]; exact hnn)).trans (hk.but.mono (fun b _ e => ?_)), own', he, fun b hb => Nat.le_trans HT3.out.size (hfr b hb), vi', vc, vm, vt, vb, vs, ?_⟩
    · rcases e with rfl | e
      · exact hnn
      · rw [e]; decide
    · rw [List.length_append, List.length_singleton, ← HPN.out]
      refine HL3.out.swap hk.but (fun b h1 h2 h3 _ hR => ?_) he ht hb hi ((HL3.out.cla.keep (fun _ => ck_none HF.out)).but hk.but (fun b hbb hR => ?_) he)
      · rcases hR with rfl | hR
        · exact h2 HTAG.out
        · exact h3 hR
      · rcases hR with e | hR
        · rw [e, HTAG.out] at hbb
          rcases hbb with h9 | h9 <;> cases h9
        · rw [hR] at hbb
          rcases hbb with h9 | h9 <;> cases h9
  | some x =>
    rw [hf] at hlk
    obtain ⟨u, hu1, hu2⟩ := hlk
    have HLK : Hid (∀ w', Grow W1 w' → (Instr.lookup 67 vi (.agg N) true).run Tryd.prog w' = .ok (.tuple #[u, .bool true]) w') := fun w' hw => by
      rcases HM.out with ⟨rfl, rfl⟩ | ⟨b, rfl, _, hm⟩
      · cases hu1
      · exact ((hm.but hw (fun h => h)).look keyD Tryd.underlying67 (zS w') HKL.out true).1 u (by rw [← HDK.out]; exact hu1)
    have HF := Hid.mk' hf
    have HU := Hid.mk' hu2
    obtain ⟨au, nu, cu, hue⟩ := hu2.1.sl
    clear hf hu1 hu2
    go_enter Tryd.func25, Tryd.ntmps25
    go_upto_region 3 with fail
    rw [← HW0.out, ← HW1.out, ← HG0.out]
    refine region_chain [] [0, 1, 2, 3, 4, 5, 6, 7, 8, 9, 10] (Grow W1) (Grow W1) (by kernel_rfl) (by kernel_rfl) (fun _ _ h k => h.trans k) (fun _ h => h) ((But.refl _ W1).drew) ?_
    intro ι hne X hX
    have c1 : ∀ x, (X x).cell? ⟨gl, 1, none⟩ = some vi := fun x => (HL1.out.blk.but (hX x) (fun h => h)).cell 1
    iterate 4 (refine still_step rfl (fun K hK => ?_); go_simp; refine hK _ ?_; clear hK K)
    refine still_val rfl (.agg N) rfl (fun x => by rw [HN.out]; exact run_load_arr ukt i32 (HB1.out.but (hX x) (fun h => h)).cells0 HD.out.1 rfl rfl) ?_
    intro K hK; go_simp; refine hK _ ?_; clear hK K
    refine still_val rfl (.tuple #[u, .bool true]) rfl (fun x => exec_lookup rfl rfl rfl (HLK.out _ (hX x))) ?_
    intro K hK; go_simp; refine hK _ ?_; clear hK K
    iterate 5 (refine still_step rfl (fun K hK => ?_); go_simp; refine hK _ ?_; clear hK K)
    refine still_nil ?_
    clear c1 hX hne
    intro W3 hW3
    have HT3 := Hid.mk' (HT1.out.then hW3 (fun _ _ h => h.elim))
    have hL3 := HL1.out.but hW3 (fun _ _ h => h) (Ext.refl _) (HL1.out.top.grow hW3.size)
    have HL3 := Hid.mk' hL3
    have HU3 := Hid.mk' (HU.out.but hW3 (fun _ _ h => h))
    have HV3 := Hid.mk' (HV1.out.but hW3 (fun _ _ h => h))
    have hq : own gl ≠ .none := by rw [HTAG.out]; decide
    have HBW : Hid (But (fun b => own b ≠ .none) w W3) := HT3.out.mono (fun b _ e => by rw [e]; exact hq)
    have hdone : (Fst2 (ck P) P.length none → ∀ k, k < P.length → ck (P ++ [(xs, D)]) k P.length = false) → LgTo w own gl (P ++ [(xs, D)]) S O W3 := fun hh => by
      refine ⟨HBW.out, own, Ext.refl _, Fresh.refl _ _, vi, vc, vm, vt, vb, vs, ?_⟩
      rw [List.length_append, List.length_singleton, ← HPN.out]
      exact HL3.out.swap (But.refl (fun _ => False) _) (fun _ _ _ _ _ h => h) (Ext.refl _) HL3.out.top HL3.out.blk (HL3.out.inm.same HF.out) (HL3.out.cla.keep hh)
    have HDN := Hid.mk' hdone
    obtain ⟨L, hLr, hLc⟩ := hL3.cla.ex
    obtain ⟨ac, cc, hvc⟩ := hLr.len
    subst hvc
    have c2 : W3.cell? ⟨gl, 2, none⟩ = some (.slice ac L.length cc) := hL3.blk.cell 2
    have f2 := hL3.blk.free 2
    have HUE := Hid.mk' hue
    clear hL3 hW3 HL1 HV1 HB1 HLK HU hq hdone hLr
    rcases hLc with ⟨rfl, hF2⟩ | ⟨i, j, hF2, hLM⟩
    · have HF2 := Hid.mk' hF2
      have HEQ := Hid.mk' (equal_any HU3.out.1 HV3.out.1)
      subst hue
      simp only [List.length_nil] at c2
      by_cases hxx : x = xs
      · rw [decide_eq_true hxx] at HEQ
        have HXX := Hid.mk' hxx
        clear hF2 hxx
        go_wp2_with fail
        refine Calls.mono HEQ.out ?_
        rintro e w' ⟨rfl, hw⟩
        have hw2 := hw.symm
        subst hw2
        go_wp2
        go_end0
        exact ⟨rfl, HDN.out (fun hF k hk => by have := HF.out; rw [HXX.out] at this; exact ck_same this hF k hk)⟩
      · rw [decide_eq_false hxx] at HEQ
        have HXX := Hid.mk' hxx
        have HCL := Hid.mk' (clone_any HV3.out.1 HLX.out)
        clear hF2 hxx
        go_wp2_with fail
        refine Calls.mono HEQ.out ?_
        rintro e w' ⟨rfl, hw⟩
        have hw2 := hw.symm
        subst hw2
        go_wp2_with fail
        refine Calls.mono HCL.out ?_
        rintro e W4 ⟨v', rfl, ho, hbl⟩
        have hg4 : Grow W3 W4 := But.of hbl
        obtain ⟨av, nv, cv, hve⟩ := ho.bs.sl
        have HO := Hid.mk' ho
        have HG4 := Hid.mk' hg4
        have HVE := Hid.mk' hve
        subst hve
        have HL4 := Hid.mk' (HL3.out.but hg4 (fun _ _ h => h) (Ext.refl _) (HL3.out.top.grow hg4.size))
        have c2' : (W4.alloc (.cells #[.slice au nu cu, .slice av nv cv] 31)).cell? ⟨gl, 2, none⟩ = some (.slice ac 0 cc) := by
          have := (HL4.out.blk.but (R := fun _ => False) ((But.refl _ W4).alloc (.cells #[.slice au nu cu, .slice av nv cv] 31)) (fun h => h)).cell 2
          exact this
        have f2' : (W4.alloc (.cells #[.slice au nu cu, .slice av nv cv] 31)).frozen? ⟨gl, 2, none⟩ = false := (HL4.out.blk.but (R := fun _ => False) ((But.refl _ W4).alloc (.cells #[.slice au nu cu, .slice av nv cv] 31)) (fun h => h)).free 2
        clear hbl ho hg4 HCL HEQ c2 f2
        go_wp2
        go_end0
        refine ⟨rfl, ?_⟩
        have hgl : gl < W3.heap.size := HL3.out.blk.lt
        have hsz := HG4.out.size
        obtain ⟨gC, hgC⟩ : ∃ g, g = W4.heap.size := ⟨_, rfl⟩
        rw [← hgC]
        obtain ⟨w', hw'⟩ : ∃ w', w' = (W4.alloc (.cells #[.slice au nu cu, .slice av nv cv] 31)).setCell ⟨gl, 2, none⟩ (.slice (some ⟨gC, 0, none⟩) 2 2) := ⟨_, rfl⟩
        rw [← hw']
        have k4 : But (· = gl) W4 w' := by rw [hw']; exact ((But.refl _ W4).alloc _).trans (But.set1 _ _ _ _)
        have hbC : Blk w' gC 31 [.slice au nu cu, .slice av nv cv] := by rw [hw']; exact (Blk.new (L := [.slice au nu cu, .slice av nv cv]) hgC.symm).but (But.set1 _ _ _ _) (show ¬ (gC = gl) by omega)
        have hbL : Blk w' gl 70 (lgc (n + 1) O.length vi (.slice (some ⟨gC, 0, none⟩) 2 2) vm vt vb vs) := by rw [hw']; exact (HL4.out.blk.but (R := fun _ => False) ((But.refl _ W4).alloc _) (fun h => h)).set 2 _
        have hsw : w'.heap.size = gC + 1 := by rw [hw']; simp; omega
        generalize Value.slice av nv cv = v' at *
        generalize Value.slice au nu cu = u at *
        have hnone : ∀ k, v'.ownBlock = some k → own k = .none := fun k hk => HL3.out.top k (HO.out.ge k hk).1
        have he1 : Ext own (tagV own v' .byt) := Ext.tagV (fun k hk => .inl (hnone k hk))
        have ht1 : Top W4 (tagV own v' .byt) := HL4.out.top.tagV (fun k hk => (HO.out.ge k hk).2)
        have he2 : Ext (tagV own v' .byt) (tagAt (tagV own v' .byt) gC .cla) := Ext.tagAt (.inl (ht1 gC (by omega)))
        have hws : w.heap.size ≤ W3.heap.size := HBW.out.size
        have hnl : ∀ b t, own b = t → t ≠ .log → ¬ (b = gl) := fun b t h1 h2 e => h2 (by rw [← h1, e]; exact HTAG.out)
        have hgn : own gl ≠ .none := by rw [HTAG.out]; decide
        refine ⟨(HBW.out.trans (HG4.out.mono (fun _ _ h => h.elim))).trans (k4.mono (fun b _ e => by rw [e]; exact hgn)), tagAt (tagV own v' .byt) gC .cla, he1.trans he2, ((Fresh.refl w own).tagV (fun k hk => .inl (Nat.le_trans hws (HO.out.ge k hk).1))).tagAt (.inl (by omega)), vi, .slice (some ⟨gC, 0, none⟩) 2 2, vm, vt, vb, vs, ?_⟩
        rw [List.length_append, List.length_singleton, ← HPN.out]
        refine HL4.out.swap k4 (fun b _ h2 _ _ e => h2 (by rw [e]; exact HTAG.out)) (he1.trans he2) ((ht1.grow k4.size).tagAt (by omega)) hbL ((HL4.out.inm.same HF.out).but k4 (fun b hb => ?_) (he1.trans he2)) ?_
        · rcases hb with hb | hb
          · exact hnl b _ hb (by decide)
          · exact hnl b _ hb (by decide)
        · obtain ⟨i, hi, hq1, hq2, hq3⟩ := ck_new HF.out HXX.out
          refine ⟨[(u, x), (v', xs)], ⟨RowOf.lit hbC rfl (by decide) tagAt_own, fun e he => ?_⟩, .inr ⟨i, P.length, ?_, ?_⟩⟩
          · rcases List.mem_cons.1 he with rfl | he
            · exact ((HU3.out.but HG4.out (fun _ _ h => h)).but k4 (fun b hb => hnl b _ hb (by decide))).mono ((he1.trans he2).is (by decide))
            · obtain rfl : e = (v', xs) := by simpa using he
              refine ⟨(HO.out.but k4 (fun k hk _ e => ?_)).bs, fun _ k hk => he2.is (t := .byt) (by decide) k (tagV_own hk)⟩
              have := (HO.out.ge k hk).1
              omega
          · rw [List.length_append, List.length_singleton]
            exact HF2.out.new (ck_old P _) hi hq1 hq2
          · rw [hq3, getD_add_eq]; rfl
    · obtain ⟨ea, eb, rfl, _, _⟩ := two_of hLM
      have HF2 := Hid.mk' hF2
      clear hF2 hLM hue
      simp only [List.length_cons, List.length_nil] at c2
      go_wp2
      go_end0
      exact ⟨rfl, HDN.out (fun hF => by have := HF2.out.uniq hF; cases this)⟩
end Go.Proofs.YthpgjbblbhjndaaDoor
