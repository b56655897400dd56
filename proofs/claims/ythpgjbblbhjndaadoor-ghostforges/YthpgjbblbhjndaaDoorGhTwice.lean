/- ghost: Twice. -/
import Derived.Test.YthpgjbblbhjndaaDoorGhOpened
namespace Go.Proofs.YthpgjbblbhjndaaDoor
open Go.RowKit

/-- A whole tuple is stored, as a turn of a chain. -/
theorem turn_store15 {w : World} {o : Oper} {ρ : Operand → Value} {K' : Value → World → Prop} {x y : Operand} (ho : o.op = .store 46 x y) {g : Nat} {cs L : List Value} (hx : ρ x = .pointer (some ⟨g, 0, none⟩)) (hy : ρ y = .agg cs.toArray) (hl : cs.length = 15) (h1 : ∀ v ∈ cs, v.oneCell' = true) (hb : Blk w g 46 L) (hL : L.length = 15)
    (hk : ∀ w', Blk w' g 46 cs → But (· = g) w w' → K' undef w') : ∃ v' w', ((execOp ρ o).run Tryd.prog w = .ok (.value v') w' ∨ ((execOp ρ o).run Tryd.prog w = .ok .skip w' ∧ v' = undef)) ∧ K' v' w' := by
  obtain ⟨w', hr, hb2, hb3⟩ := run_storeVar_at w g 0 46 46 [] L [] cs (by simpa using hb) rfl (by rw [hL, hl]) (by rw [iT, hl]) h1
  refine ⟨undef, w', .inr ⟨?_, rfl⟩, hk w' (by simpa using hb2) hb3⟩
  unfold execOp
  simp only [ho, hx, hy, Instr.storeAt, Instr.sureAddr, Sem.run_bind, Sem.run_pure, Result.andThen_ok, hr]
set_option maxRecDepth 100000 in
set_option maxHeartbeats 4000000 in
theorem twice_off (w : World) (v : Value) (hv : v = .pointer none ∨ ∃ gl ao cap, v = .pointer (some ⟨gl, 0, none⟩) ∧ (∃ L, Blk w gl 70 L ∧ L[4]? = some (.slice ao 0 cap))) : Calls Tryd.prog 19 #[v] w fun e w' => e = .returned noTwice ∧ Grow w w' := by
  unfold noTwice
  have hz := zT
  have HBZ := Hid.mk' bz
  have HZL : Hid (zeroT.length = 15) := rfl
  have HONE := Hid.mk' zeroT_one
  obtain ⟨g, hg⟩ : ∃ g, g = w.heap.size := ⟨_, rfl⟩
  obtain ⟨W0, hW0⟩ : ∃ W0, W0 = ((w.alloc (.cells zeroT.toArray 46)).alloc (.cells zeroT.toArray 46)) := ⟨_, rfl⟩
  have HG0 : Hid (Grow w W0) := by show But _ _ _; rw [hW0]; exact ((But.refl _ w).alloc _).alloc _
  have HB1 : Hid (Blk W0 g 46 zeroT) := by show Blk _ _ _ _; rw [hW0]; exact (Blk.new hg.symm).but ((But.refl (fun _ => False) _).alloc _) (fun h => h)
  have HB2 : Hid (Blk W0 (g + 1) 46 zeroT) := by show Blk _ _ _ _; rw [hW0]; exact Blk.new (by simp [hg])
  have HV : Hid (∀ gl ao cap, v = .pointer (some ⟨gl, 0, none⟩) → (∃ L, Blk w gl 70 L ∧ L[4]? = some (.slice ao 0 cap)) → ((w.alloc (.cells zeroT.toArray 46)).alloc (.cells zeroT.toArray 46)).cell? ⟨gl, 4, none⟩ = some (.slice ao 0 cap)) := fun gl ao cap _ h => by
    obtain ⟨L, h1, h2⟩ := h
    rw [← hW0, (h1.but HG0.out (fun h => h)).cell]
    exact h2
  have HG := Hid.mk' hg
  have HW0 := Hid.mk' hW0
  clear hg hW0
  generalize zeroT = Z at *
  rcases hv with rfl | ⟨gl, ao, cap, rfl, hL⟩
  case' inr =>
    have c4 := HV.out gl ao cap rfl hL
    clear hL HV
  case' inl => clear HV
  all_goals
    go_enter Tryd.func19, Tryd.ntmps19
    go_upto_region 2 with fail
    rw [← HW0.out, ← HG.out]
    go_wp2_with (first
      | (refine wpList_build_run rfl _ [] rfl [] rfl (.agg Z.toArray) (HBZ.out _) ?_)
      | (refine wpList_store_at rfl _ _ _ rfl g 0 Z rfl rfl 46 [] Z [] (by simpa using HB1.out) rfl rfl (by rw [iT, HZL.out]) HONE.out ?_; intro W8 hb8 hbut8; rw [List.nil_append, List.append_nil] at hb8; have HB3 := Hid.mk' (HB2.out.but hbut8 (show ¬ (g + 1 = g) by omega)))
      | (refine wpList_store_at rfl _ _ _ rfl (g + 1) 0 Z rfl rfl 46 [] Z [] (by simpa using HB3.out) rfl rfl (by rw [iT, HZL.out]) HONE.out ?_; intro W9 hb9 hbut9; rw [List.nil_append, List.append_nil] at hb9)
      | fail)
    exact bodyPost_ret (results_two rfl _ _ g (g + 1) _ _ _ _ _ _ _ rfl (hb8.but hbut9 (show ¬ (g = g + 1) by omega)) Tryd.underlying46 rfl (by rw [iT]; simp [HZL.out]) rfl hb9 Tryd.underlying46 rfl (by rw [iT]; simp [HZL.out]) rfl) rfl ⟨rfl, (HG0.out.then hbut8 (fun i hi e => by have := HG.out; omega)).then hbut9 (fun i hi e => by have := HG.out; omega)⟩
/-- What Twice tells. -/
structure TwiceIs (w w' : World) (S : List Tup) (e : Value) : Prop where
  ex : (e = noTwice ∧ Fst2 (tk S) S.length none) ∨ ∃ i j va vs ua us, e = .tuple #[.agg (tcells (S.getD i t0) va vs).toArray, .agg (tcells (S.getD j t0) ua us).toArray, .bool true] ∧ Fst2 (tk S) S.length (some (i, j)) ∧ TNew w' w.heap.size (S.getD i t0) va vs ∧ TNew w' w.heap.size (S.getD j t0) ua us
theorem TNew.but {R : Nat → Prop} {w w' : World} {base : Nat} {T : Tup} {va vs : Value} (h : TNew w base T va vs) (k : But R w w') (hr : ∀ j, base ≤ j → ¬ R j) : TNew w' base T va vs :=
  ⟨h.ep, h.nl, h.nt, h.aad.but k (fun j hj _ => hr j (h.aad.ge j hj).1), h.sea.but k (fun j hj _ => hr j (h.sea.ge j hj).1), h.dif⟩
theorem TNew.mono {w : World} {base base' : Nat} {T : Tup} {va vs : Value} (h : TNew w base T va vs) (hb : base' ≤ base) : TNew w base' T va vs := ⟨h.ep, h.nl, h.nt, h.aad.mono hb, h.sea.mono hb, h.dif⟩
set_option maxRecDepth 100000 in
set_option maxHeartbeats 8000000 in
theorem twice_any {w : World} {own : Owner} {gl : Nat} {P : List Pr} {S O : List Tup} (h : Lg w own gl P S O) (hsz : Sized S) :
    Calls Tryd.prog 19 #[.pointer (some ⟨gl, 0, none⟩)] w fun e w' => Grow w w' ∧ ∃ r, e = .returned r ∧ TwiceIs w w' S r := by
  obtain ⟨vi, vc, vm, vt, vb, vq, h⟩ := h
  obtain ⟨L, hL, hcl⟩ := h.twi.ex
  have HB := Hid.mk' h.blk
  rcases hcl with ⟨rfl, hF⟩ | ⟨i, j, hF, hLM⟩
  · obtain ⟨ao, cap, rfl⟩ := hL.len
    refine (twice_off w _ (.inr ⟨gl, ao, cap, rfl, _, h.blk, rfl⟩)).mono ?_
    rintro e w' ⟨rfl, hg⟩
    exact ⟨hg, _, rfl, ⟨.inl ⟨rfl, hF⟩⟩⟩
  · obtain ⟨e1, e2, rfl, he1, he2⟩ := two_of hLM
    obtain ⟨ao, cap, hve, hat⟩ := hL.at (But.refl _ w)
    obtain ⟨g, hao, -, -⟩ := hat 0 e1 rfl
    subst hao
    have HAT : Hid (∀ w', Grow w w' → (Tv w' (Is own .byt) e1.1 e1.2.1 e1.2.2 ∧ ∀ c u, (tc e1)[c]? = some u → w'.cell? ((⟨g, 0, none⟩ : Addr).add c) = some u) ∧ (Tv w' (Is own .byt) e2.1 e2.2.1 e2.2.2 ∧ ∀ c u, (tc e2)[c]? = some u → w'.cell? ((⟨g, 15, none⟩ : Addr).add c) = some u)) := fun w' hw => by
      obtain ⟨ao', cap', e3, h2⟩ := hL.at hw
      rw [hve] at e3
      cases e3
      obtain ⟨g', eg, h3, h4⟩ := h2 0 e1 rfl
      obtain ⟨g2, eg2, h5, h6⟩ := h2 1 e2 rfl
      cases eg
      cases eg2
      exact ⟨⟨h3, h4⟩, h5, h6⟩
    subst hve
    have hmi : e1.1 ∈ S := by rw [he1]; simp [List.getD, show i < S.length by have := hF.1; have := hF.2.1; omega]
    have hmj : e2.1 ∈ S := by rw [he2]; simp [List.getD, show j < S.length from hF.2.1]
    obtain ⟨Z, hZ⟩ : ∃ Z, Z = zeroT := ⟨_, rfl⟩
    have hz := zT
    rw [← hZ] at hz
    have HZL : Hid (Z.length = 15) := by show _ = _; rw [hZ]; rfl
    obtain ⟨g0, hg0⟩ : ∃ g, g = w.heap.size := ⟨_, rfl⟩
    obtain ⟨W0, hW0⟩ : ∃ W0, W0 = ((w.alloc (.cells Z.toArray 46)).alloc (.cells Z.toArray 46)) := ⟨_, rfl⟩
    have HT0 : Hid (Grow w W0) := by show But _ _ _; rw [hW0]; exact ((But.refl _ w).alloc _).alloc _
    have HB1 : Hid (Blk W0 g0 46 Z) := by show Blk _ _ _ _; rw [hW0]; exact (Blk.new hg0.symm).but ((But.refl (fun _ => False) _).alloc _) (fun h => h)
    have HB2 : Hid (Blk W0 (g0 + 1) 46 Z) := by show Blk _ _ _ _; rw [hW0]; exact Blk.new (by simp [hg0])
    have HS0 : Hid (W0.heap.size = g0 + 2) := by show _ = _; rw [hW0, hg0]; simp
    have c4 : ((w.alloc (.cells Z.toArray 46)).alloc (.cells Z.toArray 46)).cell? ⟨gl, 4, none⟩ = some (.slice (some ⟨g, 0, none⟩) 2 cap) := by rw [← hW0]; exact (h.blk.but HT0.out (fun h => h)).cell 4
    have HC1 := Hid.mk' (fun w' (hw : Grow w w') => copied_any (HAT.out w' hw).1.1 (hsz _ hmi).1 (hsz _ hmi).2)
    have HC2 := Hid.mk' (fun w' (hw : Grow w w') => copied_any (HAT.out w' hw).2.1 (hsz _ hmj).1 (hsz _ hmj).2)
    have HN1 := Hid.mk' (HAT.out w (But.refl _ w)).1.1.nl
    have HN2 := Hid.mk' (HAT.out w (But.refl _ w)).2.1.nl
    have HF := Hid.mk' hF
    have HE1 := Hid.mk' he1
    have HE2 := Hid.mk' he2
    have HG0 := Hid.mk' hg0
    have HW0 := Hid.mk' hW0
    obtain ⟨B1, hB1⟩ : ∃ B, B = (tc e1).toArray := ⟨_, rfl⟩
    obtain ⟨B2, hB2⟩ : ∃ B, B = (tc e2).toArray := ⟨_, rfl⟩
    have HBE1 := Hid.mk' hB1
    have HBE2 := Hid.mk' hB2
    clear h hL hsz hF he1 he2 hLM hmi hmj hZ hg0 hW0 hB1 hB2 hat
    go_enter Tryd.func19, Tryd.ntmps19
    go_upto_region 3 with fail
    rw [← HW0.out, ← HG0.out]
    clear c4
    refine region_chain [([0, 1, 2, 3, 4, 5, 7, 8, 9, 10, 11, 12], 6), ([], 13), ([], 14), ([], 15)] [16] (But (fun b => b = g0 ∨ b = g0 + 1) W0) (Grow W0) (by kernel_rfl) (by kernel_rfl) (fun _ _ h k => h.trans k) (fun _ h => h.mono (fun _ _ h => h.elim)) ((But.refl _ W0).drew) ?_
    intro ι hne X hX0
    have hX : ∀ x, Grow w (X x) := fun x => HT0.out.then (hX0 x) (fun i hi e => by have := HG0.out; omega)
    have c4 : ∀ x, (X x).cell? ⟨gl, 4, none⟩ = some (.slice (some ⟨g, 0, none⟩) 2 cap) := fun x => (HB.out.but (hX x) (fun h => h)).cell 4
    iterate 4 (refine still_step rfl (fun K hK => ?_); go_simp; refine hK _ ?_; clear hK K)
    refine still_val rfl (.pointer (some ⟨g, 0, none⟩)) rfl (fun x => run_index0 rfl rfl rfl (by decide)) ?_
    intro K hK; go_simp; refine hK _ ?_; clear hK K
    refine still_val rfl (.agg B1) rfl (fun x => by rw [HBE1.out]; exact run_load_tup (HAT.out _ (hX x)).1.2 (tcells_len HN1.out _ _) rfl rfl) ?_
    intro K hK; go_simp; refine hK _ ?_; clear hK K
    iterate 4 (refine still_step rfl (fun K hK => ?_); go_simp; refine hK _ ?_; clear hK K)
    refine still_val rfl (.pointer (some ⟨g, 15, none⟩)) rfl (fun x => run_index15 (k := 1) rfl rfl rfl (by decide)) ?_
    intro K hK; go_simp; refine hK _ ?_; clear hK K
    refine still_val rfl (.agg B2) rfl (fun x => by rw [HBE2.out]; exact run_load_tup (HAT.out _ (hX x)).2.2 (tcells_len HN2.out _ _) rfl rfl) ?_
    intro K hK; go_simp; refine hK _ ?_; clear hK K
    refine still_nil ?_
    clear c4 hX hX0 hne
    refine turn_call rfl rfl (fun v w' => Grow W0 w' ∧ ∃ va vs, v = .agg (tcells e1.1 va vs).toArray ∧ TNew w' W0.heap.size e1.1 va vs) (fun _ => But (fun b => b = g0 ∨ b = g0 + 1) W0) ?_ (fun _ _ h => h.1.mono (fun _ _ h => h.elim)) (.inr (fun _ _ h => h)) 33 #[.agg B1] (fun _ => by kernel_rfl) ?_ ?_
    · rintro v w1 w2 ⟨h1, va, vs, h2, h3⟩ k
      exact ⟨h1.trans k, va, vs, h2, h3.but k (fun _ _ h => h)⟩
    · intro w1 hw1
      have := HC1.out w1 (HT0.out.trans hw1)
      rw [show (tcells e1.1 e1.2.1 e1.2.2).toArray = B1 from HBE1.out.symm] at this
      refine this.mono ?_
      rintro e w2 ⟨va, vs, rfl, h1, h2⟩
      exact ⟨_, rfl, hw1.trans h2, va, vs, rfl, h1.mono hw1.size⟩
    · rintro v ⟨wq, -, va, vs, rfl, -⟩ Y hY
      clear wq
      go_simp
      refine hY _ ?_
      clear hY Y
      intro ι hne X hX
      refine still_nil ?_
      clear hX hne
      refine turn_call rfl rfl (fun v w' => Grow W0 w' ∧ TNew w' W0.heap.size e1.1 va vs ∧ ∃ ua us, v = .agg (tcells e2.1 ua us).toArray ∧ TNew w' W0.heap.size e2.1 ua us) (fun _ => But (fun b => b = g0 ∨ b = g0 + 1) W0) ?_ (fun _ _ h => h.1.mono (fun _ _ h => h.elim)) (.inr (fun _ _ h => h)) 33 #[.agg B2] (fun _ => by kernel_rfl) ?_ ?_
      · rintro v w1 w2 ⟨h1, h0, ua, us, h2, h3⟩ k
        exact ⟨h1.trans k, h0.but k (fun _ _ h => h), ua, us, h2, h3.but k (fun _ _ h => h)⟩
      · rintro w1 ⟨hw1, va1, vs1, e9, h0⟩
        have hv9 : va = va1 ∧ vs = vs1 := by
          have h9 : (tcells e1.1 va vs) = tcells e1.1 va1 vs1 := by simpa using e9
          have h13 := congrArg (·[13]?) h9
          have h14 := congrArg (·[14]?) h9
          simp only [tcells_13 HN1.out, tcells_14 HN1.out, Option.some.injEq] at h13 h14
          exact ⟨h13, h14⟩
        obtain ⟨rfl, rfl⟩ := hv9
        have := HC2.out w1 (HT0.out.trans hw1)
        rw [show (tcells e2.1 e2.2.1 e2.2.2).toArray = B2 from HBE2.out.symm] at this
        refine this.mono ?_
        rintro e w2 ⟨ua, us, rfl, h1, h2⟩
        exact ⟨_, rfl, hw1.trans h2, h0.but h2 (fun _ _ h => h), ua, us, rfl, h1.mono hw1.size⟩
      · rintro v ⟨wq, -, hta, ua, us, rfl, htu⟩ Y hY
        have HO1 : Hid (∀ u ∈ tcells e1.1 va vs, u.oneCell' = true) := tcells_one hta.aad.bs.one hta.sea.bs.one
        have HO2 : Hid (∀ u ∈ tcells e2.1 ua us, u.oneCell' = true) := tcells_one htu.aad.bs.one htu.sea.bs.one
        clear hta htu wq
        go_simp
        refine hY _ ?_
        clear hY Y
        intro ι hne X hX
        refine still_nil ?_
        clear hX hne
        refine turn_run rfl rfl (fun _ w' => But (· = g0) W0 w' ∧ TNew w' W0.heap.size e1.1 va vs ∧ TNew w' W0.heap.size e2.1 ua us ∧ Blk w' g0 46 (tcells e1.1 va vs)) (fun _ => But (fun b => b = g0 ∨ b = g0 + 1) W0) ?_ (fun _ _ h => h.1.mono (fun _ _ h => .inl h)) (.inr (fun _ _ h => h)) ?_ ?_
        · rintro v w1 w2 ⟨h1, h2, h3, h4⟩ k
          exact ⟨h1.trans (k.mono (fun _ _ h => h.elim)), h2.but k (fun _ _ h => h), h3.but k (fun _ _ h => h), h4.but k (fun h => h)⟩
        · rintro w1 ⟨h1, h2, ua1, us1, e9, h3⟩
          have hv9 : ua = ua1 ∧ us = us1 := by
            have h9 : (tcells e2.1 ua us) = tcells e2.1 ua1 us1 := by simpa using e9
            have h13 := congrArg (·[13]?) h9
            have h14 := congrArg (·[14]?) h9
            simp only [tcells_13 HN2.out, tcells_14 HN2.out, Option.some.injEq] at h13 h14
            exact ⟨h13, h14⟩
          obtain ⟨rfl, rfl⟩ := hv9
          refine turn_store15 (cs := tcells e1.1 va vs) rfl rfl rfl (tcells_len HN1.out _ _) HO1.out (HB1.out.but h1 (fun h => h)) HZL.out ?_
          intro w2 hb hbut
          have hs0 := HS0.out
          exact ⟨(h1.mono (fun _ _ h => h.elim)).trans hbut, h2.but hbut (fun j hj e => by omega), h3.but hbut (fun j hj e => by omega), hb⟩
        · rintro v5 - Y hY
          go_simp
          refine hY _ ?_
          clear hY Y
          intro ι hne X hX
          refine still_nil ?_
          clear hX hne
          refine turn_run rfl rfl (fun _ w' => But (fun b => b = g0 ∨ b = g0 + 1) W0 w' ∧ TNew w' W0.heap.size e1.1 va vs ∧ TNew w' W0.heap.size e2.1 ua us ∧ Blk w' g0 46 (tcells e1.1 va vs) ∧ Blk w' (g0 + 1) 46 (tcells e2.1 ua us)) (fun _ => But (fun b => b = g0 ∨ b = g0 + 1) W0) ?_ (fun _ _ h => h.1) (.inr (fun _ _ h => h)) ?_ ?_
          · rintro v w1 w2 ⟨h1, h2, h3, h4, h5⟩ k
            exact ⟨h1.trans (k.mono (fun _ _ h => h.elim)), h2.but k (fun _ _ h => h), h3.but k (fun _ _ h => h), h4.but k (fun h => h), h5.but k (fun h => h)⟩
          · rintro w1 ⟨h1, h2, h3, h4⟩
            refine turn_store15 (cs := tcells e2.1 ua us) rfl rfl rfl (tcells_len HN2.out _ _) HO2.out (HB2.out.but h1 (show ¬ (g0 + 1 = g0) by omega)) HZL.out ?_
            intro w2 hb hbut
            have hs0 := HS0.out
            exact ⟨(h1.mono (fun _ _ h => .inl h)).trans (hbut.mono (fun _ _ h => .inr h)), h2.but hbut (fun j hj e => by omega), h3.but hbut (fun j hj e => by omega), h4.but hbut (show ¬ (g0 = g0 + 1) by omega), hb⟩
          · rintro v6 - Y hY
            go_simp
            refine hY _ ?_
            clear hY Y
            intro ι hne X hX
            refine still_step rfl (fun K hK => ?_); go_simp; refine hK _ ?_; clear hK K
            refine still_nil ?_
            clear hX hne
            rintro w' ⟨h1, h2, h3, h4, h5⟩
            go_wp2
            have hs0 := HS0.out
            have hgg := HG0.out
            refine bodyPost_ret (results_two rfl _ _ g0 (g0 + 1) _ _ _ _ _ _ _ rfl h4 Tryd.underlying46 rfl (by rw [iT]; simp [tcells_len HN1.out]) rfl h5 Tryd.underlying46 rfl (by rw [iT]; simp [tcells_len HN2.out]) rfl) rfl ⟨HT0.out.then h1 (fun i hi e => by omega), _, rfl, ⟨.inr ⟨i, j, va, vs, ua, us, ?_, HF.out, ?_, ?_⟩⟩⟩
            · rw [← HE1.out, ← HE2.out]; rfl
            · rw [← HE1.out]; exact h2.mono (by omega)
            · rw [← HE2.out]; exact h3.mono (by omega)
end Go.Proofs.YthpgjbblbhjndaaDoor
