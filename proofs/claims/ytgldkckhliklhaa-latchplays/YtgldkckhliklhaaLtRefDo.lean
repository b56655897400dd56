/- The reference's Ask and Free; both tables agree. -/
import Derived.Test.YtgldkckhliklhaaLtSettled
namespace Go.Proofs.Ytgldkckhliklhaa
open Go.RowKit

theorem steps_only {s s' : Ls} {G : List Wt} {k : Int} (h : Steps (fun _ => True) s G s') : Lok s → (∀ j, j ≠ k → Stb s j) → Steps (· = k) s G s' := by
  induction h with
  | nil => exact fun _ _ => .nil _
  | cons hq _ hm _ ih =>
    rename_i s1 s2 x r G1 _ _
    intro hok hst
    have hx : x ∈ s1.q := (qk_mem.1 (by rw [hq]; exact List.mem_cons_self)).1
    have hk : x.2.1 = k := by
      apply Classical.byContradiction
      intro hn
      rw [hst _ hn x r hq] at hm
      cases hm
    refine .cons hq hk hm (ih (hok.grant hx hm) (fun j hj => stb_ne (s := s1) (grant_qk_ne hok hx (fun e => hj (e.trans hk))) (fun y hy => ?_) (hst j hj)))
    unfold Ls.grant
    rw [List.mem_append]
    exact ⟨fun h => h.resolve_right (fun h1 => hj (hy.symm.trans (by rw [show y = x by simpa using h1]; exact hk))), .inl⟩
theorem hold_ff (s : Ls) (t k : Int) : decide (0 < s.hold t k) = !(s.hold t k == 0) := by
  by_cases h : s.hold t k = 0
  · rw [h]; rfl
  · obtain ⟨a, -, e⟩ := hold_inv h
    rw [e]
    cases a <;> rfl
section
variable {w : World} {gx : Nat} {vh vq : Value} {s : Ls} {t k : Int} {a : Bool}
theorem bldWn (t k : Int) (a : Bool) (w : World) : (Instr.build 64 #[(0, .int .i64 t), (1, .int .i64 k), (2, .bool a)]).run Try.prog w = .ok (.agg #[.int .i64 t, .int .i64 k, .bool a]) w := by kernel_rfl
def RaTo (w : World) (gx : Nat) (vh vq : Value) (s : Ls) (x : Wt) (e : Ending) (w' : World) : Prop := e = .returned (.tuple #[.bool (s.got x), .int .i64 (s.askc x)]) ∧ RtTo w gx vh vq (s.asked x) w'
set_option maxRecDepth 100000 in
set_option maxHeartbeats 4000000 in
theorem rask_any (h : Rt w gx vh vq s) (hok : Lok s) (hst : ∀ j, Stb s j) (ht : i64 t) (hk : i64 k) (hsum : s.has.length + s.q.length < 10000) : Calls Try.prog 15 #[ptr gx, .int .i64 t, .int .i64 k, .bool a] w (RaTo w gx vh vq s (t, k, a)) := by
  have HW := Hid.mk' (rwaits_any h t)
  have HH := Hid.mk' (rhold_any h t k)
  have hff := hold_ff s t k
  cases hb : s.busy (t, k, a) with
  | true =>
    have HFIN : Hid (RaTo w gx vh vq s (t, k, a) (.returned (.tuple #[.bool false, .int .i64 6])) w) := Hid.mk' (by
      refine ⟨?_, ?_⟩
      · rw [show s.got (t, k, a) = false from by unfold Ls.got; rw [hb]; rfl, show s.askc (t, k, a) = 6 from by unfold Ls.askc; rw [hb]; rfl]
      · rw [show s.asked (t, k, a) = s from by unfold Ls.asked; rw [hb]; rfl]
        exact h.same (But.refl _ _))
    unfold Ls.busy at hb
    have hb' : s.wait t = true ∨ 0 < s.hold t k := by
      rcases Bool.or_eq_true_iff.1 hb with e | e
      · exact .inl e
      · refine .inr ?_
        have e2 : (!(s.hold t k == 0)) = true := e
        rw [← hff] at e2
        exact of_decide_eq_true e2
    generalize s.waitK t = kq at HW
    generalize s.hold t k = hz at HH hb'
    generalize s.wait t = wq at HW hb'
    clear h hok hst ht hk hsum hff hb
    cases wq with
    | true =>
      clear hb'
      go_enter Try.func15, Try.ntmps15
      go_wp2_with fail
      refine Calls.mono HW.out ?_
      rintro e w1 ⟨rfl, hw⟩
      have h2 := hw.symm
      subst h2
      clear hw
      go_wp2
      go_ret2
      exact HFIN.out
    | false =>
      have hz0 : 0 < hz := hb'.resolve_left (by decide)
      clear hb'
      go_enter Try.func15, Try.ntmps15
      go_wp2_with fail
      refine Calls.mono HW.out ?_
      rintro e w1 ⟨rfl, hw⟩
      have h2 := hw.symm
      subst h2
      clear hw
      go_wp2_with fail
      refine Calls.mono HH.out ?_
      rintro e w1 ⟨rfl, hw⟩
      have h2 := hw.symm
      subst h2
      clear hw
      go_wp2
      go_ret2
      exact HFIN.out
  | false =>
    obtain ⟨hw, hh⟩ := busy_not hb
    rw [show s.wait t = false from hw] at HW
    rw [show s.hold t k = 0 from hh] at HH
    have hok2 : Lok (s.ask (t, k, a)) := hok.ask ht hk hw (hold_zero hok hh)
    have HOK2 := Hid.mk' hok2
    have hasked : s.asked (t, k, a) = s.askR (t, k, a) := by unfold Ls.asked; rw [hb]; rfl
    have haskc : s.askc (t, k, a) = 0 := by unfold Ls.askc; rw [hb]; rfl
    have HDET : Hid (∀ G s', Steps (fun _ => True) (s.ask (t, k, a)) G s' → (∀ j, Stb s' j) → s' = s.asked (t, k, a) ∧ (!(s'.hold t k == 0)) = s.got (t, k, a)) := fun G s' h1 h2 => by
      have h3 : Steps (· = k) (s.ask (t, k, a)) G s' := steps_only h1 hok2 (fun j hj => stb_ne (s := s) (by rw [ask_qk, if_neg (fun e => hj e.symm), List.append_nil]) (fun y _ => Iff.rfl) (hst j))
      obtain ⟨h4, -⟩ := ask_det hok2 hw hst h3 (h2 k)
      have h5 : Lok (s.askR (t, k, a)) := by rw [← h4]; exact steps_lok h3 hok2
      refine ⟨h4.trans hasked.symm, ?_⟩
      rw [h4]
      exact askR_hold h5 hb
    have HASKC := Hid.mk' haskc
    obtain ⟨n, hn⟩ : ∃ n, n = s.q.length := ⟨_, rfl⟩
    obtain ⟨qa, qc, e, -⟩ := h.qrow.shape
    rw [← hn] at e
    subst e
    have HN := Hid.mk' hn
    have hro := h.rq
    rw [← hn] at hro
    have HRO := Hid.mk' hro
    have HRT := Hid.mk' h
    have HSUM := Hid.mk' hsum
    have HAL : Hid (Grow w (w.alloc (.cells #[.int .i64 t, .int .i64 k, .bool a] 64))) := (But.refl _ w).alloc _
    have HBL : Hid (Blk (w.alloc (.cells #[.int .i64 t, .int .i64 k, .bool a] 64)) w.heap.size 64 (wnc (t, k, a))) := Blk.new (L := wnc (t, k, a)) rfl
    have c1 : w.cell? ⟨gx, 1, none⟩ = some (.slice qa n qc) := h.blk.cell 1
    have HVX : Hid (¬ (Value.slice qa n qc).ownBlock = some gx) := fun e => h.dq gx e rfl
    have HBK := Hid.mk' h.blk
    generalize s.waitK t = kq at HW
    clear h hok hst ht hk hsum hff hb hw hh hok2 hasked haskc hro hn
    go_enter Try.func15, Try.ntmps15
    go_wp2_with fail
    refine Calls.mono HW.out ?_
    rintro e w1 ⟨rfl, hw⟩
    have h2 := hw.symm
    subst h2
    clear hw HW
    go_wp2_with fail
    refine Calls.mono HH.out ?_
    rintro e w1 ⟨rfl, hw⟩
    have h2 := hw.symm
    subst h2
    clear hw HH
    go_upto_region 5 with (first
      | (refine wpList_runH rfl (exec_build _ [_, _, _] rfl [(0, .int .i64 t), (1, .int .i64 k), (2, .bool a)] rfl _ (bldWn t k a _)) ?_)
      | (refine wpList_runH rfl (exec_row1 (v := .agg #[.int .i64 t, .int .i64 k, .bool a]) Try.underlying26 infWn (by decide) (by decide) rfl rfl rfl) ?_)
      | (refine wpList_someH rfl (exec_append (v := .slice qa n qc) (n := n) (xs := s.q.flatMap wnc) (news := wnc (t, k, a)) Try.underlying26 infWn rfl (by decide) rfl rfl (ownsRow_grow HRO.out HAL.out) rfl rfl (fun j u hj => HBL.out.cells0 j u hj) (wnc_one _) (by have := HSUM.out; have := HN.out; omega) (by decide)) ?_; intro v4 w4 hap; obtain ⟨a4, c4, e4⟩ := own_sl hap.own; subst e4; have d4 : w4.cell? ⟨gx, 1, none⟩ = some (.slice qa n qc) := ((HBK.out.but HAL.out (fun h => h)).but hap.but HVX.out).cell 1; have f4 : w4.frozen? ⟨gx, 1, none⟩ = false := ((HBK.out.but HAL.out (fun h => h)).but hap.but HVX.out).free 1)
      | fail)
    have hap' : Appd (w.alloc (.cells #[.int .i64 t, .int .i64 k, .bool a] 64)) w4 64 3 (.slice qa n qc) (.slice a4 (n + 1) c4) (n + 1) (s.q.flatMap wnc ++ wnc (t, k, a)) := hap
    have hrow : w4.ownsRow 0 64 3 (.slice a4 (n + 1) c4) (s.q ++ [(t, k, a)]).length ((s.q ++ [(t, k, a)]).flatMap wnc) := by
      rw [show (s.q ++ [(t, k, a)]).length = n + 1 by rw [List.length_append, ← HN.out]; rfl, show (s.q ++ [(t, k, a)]).flatMap wnc = s.q.flatMap wnc ++ wnc (t, k, a) by simp]
      exact hap'.own
    obtain ⟨r5, b5, s5⟩ := HRT.out.putQ ((HAL.out.mono (fun _ _ h => h.elim)).trans hap'.but) hrow (fun b hb => by
      rcases hap'.at' with e | e
      · exact .inl (by rw [← e]; exact hb)
      · rw [e] at hb
        have := Option.some.inj hb
        have := HAL.out.size
        exact .inr (by omega)) (by rw [List.length_append, ← HN.out]; have := HSUM.out; have := HN.out; simp; omega)
    obtain ⟨W5, hW5⟩ : ∃ W5, W5 = w4.setCell ⟨gx, 1, none⟩ (.slice a4 (n + 1) c4) := ⟨_, rfl⟩
    rw [← hW5] at r5 b5 ⊢
    have HB5 := Hid.mk' b5
    have HS5 := Hid.mk' s5
    have HSE := Hid.mk' (settle_any (s := s.ask (t, k, a)) r5 HOK2.out (by show s.has.length + (s.q ++ [(t, k, a)]).length ≤ 10000; rw [List.length_append]; have := HSUM.out; simp; omega))
    clear r5 b5 s5 hrow hap hap' hW5 d4 f4 c1
    go_wp2_with fail
    refine Calls.mono HSE.out ?_
    rintro e w6 ⟨v6, G, s6, rfl, h1, h2, h3, -, -⟩
    obtain ⟨h4, h5⟩ := HDET.out G s6 h1 h2
    obtain ⟨vh6, vq6, h6, h7, h8⟩ := h3
    have HH6 := Hid.mk' (rhold_any h6 t k)
    have hf6 := hold_ff s6 t k
    rw [h5] at hf6
    have HF6 := Hid.mk' hf6
    have HTO : Hid (RtTo w gx vh (.slice qa n qc) (s.asked (t, k, a)) w6) := Hid.mk' (by
      rw [← h4]
      exact RtTo.next HB5.out HS5.out ⟨vh6, vq6, h6, h7, h8⟩)
    clear h1 h2 h4 h5 h6 h7 h8 hf6 HSE HDET
    generalize s6.hold t k = hz at HH6 HF6
    go_wp2_with fail
    refine Calls.mono HH6.out ?_
    rintro e w7 ⟨rfl, hw⟩
    have h2 := hw.symm
    subst h2
    clear hw HH6
    go_wp2
    go_ret2
    refine ⟨?_, HTO.out⟩
    rw [HASKC.out, ← HF6.out]
    rfl
set_option maxRecDepth 100000 in
set_option maxHeartbeats 4000000 in
theorem rfree_any (h : Rt w gx vh vq s) (hok : Lok s) (hsum : s.has.length + s.q.length ≤ 10000) : Calls Try.prog 13 #[ptr gx, .int .i64 t] w (SeTo w gx vh vq ⟨wo t s.has, wo t s.q⟩) := by
  obtain ⟨n, hn⟩ : ∃ n, n = s.q.length := ⟨_, rfl⟩
  obtain ⟨m, hm⟩ : ∃ m, m = s.has.length := ⟨_, rfl⟩
  obtain ⟨qa, qc, e, -⟩ := h.qrow.shape
  obtain ⟨ha, hc, e2, -⟩ := h.hrow.shape
  rw [← hn] at e
  rw [← hm] at e2
  subst e e2
  have hoks : Lok ⟨wo t s.has, wo t s.q⟩ := ⟨hok.hn.sublist (List.Sublist.map _ List.filter_sublist), hok.qn.sublist (List.Sublist.map _ List.filter_sublist), fun y hy => hok.ih y (wo_mem.1 hy).1, fun y hy => hok.iq y (wo_mem.1 hy).1, fun y hy z hz e => hok.dis y (wo_mem.1 hy).1 z (wo_mem.1 hz).1 e, fun y hy z hz e ha => hok.al y (wo_mem.1 hy).1 z (wo_mem.1 hz).1 e ha⟩
  have HOKS := Hid.mk' hoks
  have HSUM := Hid.mk' hsum
  have HRT := Hid.mk' h
  have HW1 := Hid.mk' (rwithout_any h.rh h.lh t)
  have c0 : w.cell? ⟨gx, 0, none⟩ = some (.slice ha m hc) := h.blk.cell 0
  clear h hok hsum hoks hn hm
  go_enter Try.func13, Try.ntmps13
  go_wp2_with fail
  refine Calls.mono HW1.out ?_
  rintro e w1 ⟨v1, rfl, hr1, hv1, hg1⟩
  obtain ⟨a1, c1, e1⟩ := own_sl hr1
  have d1 : w1.cell? ⟨gx, 0, none⟩ = some (.slice ha m hc) := (HRT.out.blk.but hg1 (fun h => h)).cell 0
  have f1 : w1.frozen? ⟨gx, 0, none⟩ = false := (HRT.out.blk.but hg1 (fun h => h)).free 0
  obtain ⟨r2, b2, s2⟩ := HRT.out.putH (hg1.mono (fun _ _ h => h.elim)) hr1 (fun b hb => .inr (hv1 b hb)) (Nat.le_trans (List.length_filter_le _ _) HRT.out.lh)
  subst e1
  obtain ⟨W2, hW2⟩ : ∃ W2, W2 = w1.setCell ⟨gx, 0, none⟩ (.slice a1 (wo t s.has).length c1) := ⟨_, rfl⟩
  rw [← hW2] at r2 b2
  have HW2 := Hid.mk' hW2
  have HR2 := Hid.mk' r2
  have HB2 := Hid.mk' b2
  have HS2 := Hid.mk' s2
  have HWQ := Hid.mk' (rwithout_any r2.rq r2.lq t)
  generalize (wo t s.has).length = m2 at *
  clear hr1 hv1 hg1 r2 b2 s2 hW2 HW1 c0
  go_upto_region 2 with fail
  rw [← HW2.out]
  have c1' : W2.cell? ⟨gx, 1, none⟩ = some (.slice qa n qc) := HR2.out.blk.cell 1
  clear d1 f1 HW2
  go_wp2_with fail
  refine Calls.mono HWQ.out ?_
  rintro e w3 ⟨v3, rfl, hr3, hv3, hg3⟩
  obtain ⟨a3, c3, e3⟩ := own_sl hr3
  have d1 : w3.cell? ⟨gx, 1, none⟩ = some (.slice qa n qc) := (HR2.out.blk.but hg3 (fun h => h)).cell 1
  have f1 : w3.frozen? ⟨gx, 1, none⟩ = false := (HR2.out.blk.but hg3 (fun h => h)).free 1
  obtain ⟨r4, b4, s4⟩ := HR2.out.putQ (hg3.mono (fun _ _ h => h.elim)) hr3 (fun b hb => .inr (hv3 b hb)) (Nat.le_trans (List.length_filter_le _ _) HR2.out.lq)
  subst e3
  obtain ⟨W4, hW4⟩ : ∃ W4, W4 = w3.setCell ⟨gx, 1, none⟩ (.slice a3 (wo t s.q).length c3) := ⟨_, rfl⟩
  have hb24 : But (RS gx (.slice ha m hc) (.slice qa n qc)) w (w3.setCell ⟨gx, 1, none⟩ (.slice a3 (wo t s.q).length c3)) := HB2.out.then b4 (fun j hj e => (HS2.out j e).resolve_right (by omega))
  have hs24 : ∀ b, RS gx (.slice a1 m2 c1) (.slice a3 (wo t s.q).length c3) b → RS gx (.slice ha m hc) (.slice qa n qc) b ∨ w.heap.size ≤ b := fun b hb => by
    rcases s4 b hb with e | e
    · exact HS2.out b e
    · have := HB2.out.size; exact .inr (by omega)
  have r4' : Rt (w3.setCell ⟨gx, 1, none⟩ (.slice a3 (wo t s.q).length c3)) gx (.slice a1 m2 c1) (.slice a3 (wo t s.q).length c3) ⟨wo t s.has, wo t s.q⟩ := r4
  rw [← hW4] at r4' hb24
  have HW4 := Hid.mk' hW4
  have HB24 := Hid.mk' hb24
  have HS24 := Hid.mk' hs24
  have HSE := Hid.mk' (settle_any r4' HOKS.out (by
    have h1 : (wo t s.has).length ≤ s.has.length := List.length_filter_le _ _
    have h2 : (wo t s.q).length ≤ s.q.length := List.length_filter_le _ _
    have := HSUM.out
    show (wo t s.has).length + (wo t s.q).length ≤ 10000
    omega))
  generalize (wo t s.q).length = n2 at *
  clear hr3 hv3 hg3 r4 r4' b4 s4 hW4 hb24 hs24 HWQ c1' HR2 HB2 HS2
  go_upto_region 3 with fail
  rw [← HW4.out]
  clear d1 f1 HW4
  go_wp2_with fail
  refine Calls.mono HSE.out ?_
  rintro e w6 ⟨v6, G, s6, rfl, h1, h2, h3, h4, h5⟩
  have HFIN : Hid (SeTo w gx (.slice ha m hc) (.slice qa n qc) ⟨wo t s.has, wo t s.q⟩ (.returned v6) w6) := ⟨v6, G, s6, rfl, h1, h2, RtTo.next HB24.out HS24.out h3, h4, fun b hb => Nat.le_trans HB24.out.size (h5 b hb)⟩
  clear h1 h2 h3 h4 h5 HSE
  go_wp2
  go_ret
  exact HFIN.out
end
/-- Both tables tell the same. -/
structure LAgr (s x : Ls) : Prop where
  has : x.has.Perm s.has
  q : x.q = s.q
theorem LAgr.refl (s : Ls) : LAgr s s := ⟨List.Perm.refl _, rfl⟩
theorem srt_eq {A B : List Int} (h : A.Perm B) : srt A = srt B := perm_le ((srt_perm A).trans (h.trans (srt_perm B).symm)) (srt_le A) (srt_le B)
section
variable {s x s' x' : Ls} {t k : Int}
theorem LAgr.mem (h : LAgr s x) (y : Wt) : y ∈ x.has ↔ y ∈ s.has := h.has.mem_iff
theorem LAgr.may (h : LAgr s x) (y : Wt) : mayG x.has y = mayG s.has y := mayG_congr (fun z _ => h.mem z)
theorem LAgr.wait (h : LAgr s x) (t : Int) : x.wait t = s.wait t ∧ x.waitK t = s.waitK t := by unfold Ls.wait Ls.waitK; rw [h.q]; exact ⟨rfl, rfl⟩
theorem LAgr.hold (h : LAgr s x) (hs : Lok s) (hx : Lok x) (t k : Int) : x.hold t k = s.hold t k := by
  by_cases e : x.hold t k = 0
  · by_cases e2 : s.hold t k = 0
    · rw [e, e2]
    · obtain ⟨a, ha, -⟩ := hold_inv e2
      have := hold_of hx ((h.mem _).2 ha)
      rw [show x.hold (t, k, a).1 (t, k, a).2.1 = x.hold t k from rfl, e] at this
      exact absurd this.symm (mode_pos _)
  · obtain ⟨a, ha, e1⟩ := hold_inv e
    have := hold_of hs ((h.mem _).1 ha)
    rw [show s.hold (t, k, a).1 (t, k, a).2.1 = s.hold t k from rfl] at this
    rw [e1, this]
    rfl
theorem LAgr.busy (h : LAgr s x) (hs : Lok s) (hx : Lok x) (y : Wt) : x.busy y = s.busy y := by unfold Ls.busy; rw [h.hold hs hx, (h.wait _).1]
theorem LAgr.qk (h : LAgr s x) (j : Int) : x.qk j = s.qk j := by unfold Ls.qk; rw [h.q]
theorem LAgr.asked (h : LAgr s x) (hs : Lok s) (hx : Lok x) (y : Wt) : LAgr (s.asked y) (x.asked y) ∧ x.got y = s.got y ∧ x.askc y = s.askc y := by
  have hb := h.busy hs hx y
  refine ⟨?_, by unfold Ls.got; rw [hb, h.qk, h.may], by unfold Ls.askc; rw [hb]⟩
  unfold Ls.asked
  rw [hb]
  split
  · exact h
  · unfold Ls.askR
    rw [h.qk, h.may]
    split
    · exact ⟨h.has.append_right _, h.q⟩
    · exact ⟨h.has, by unfold Ls.ask; rw [h.q]⟩
theorem nin_perm {G G' l : List Wt} (h : G.Perm G') : nin G l = nin G' l := by
  unfold nin
  apply List.filter_congr
  intro y _
  congr 1
  rw [Bool.eq_iff_iff, List.any_eq_true, List.any_eq_true]
  exact ⟨fun ⟨z, hz, e⟩ => ⟨z, h.mem_iff.1 hz, e⟩, fun ⟨z, hz, e⟩ => ⟨z, h.mem_iff.2 hz, e⟩⟩
theorem LAgr.free (h : LAgr s x) (hx : Lok ⟨wo t x.has, wo t x.q⟩) {G G' : List Wt} (hf : Fre s t G s') (hs : Steps (fun _ => True) ⟨wo t x.has, wo t x.q⟩ G' x') (hb : ∀ j, Stb x' j) : LAgr s' x' ∧ srt (G.map (·.1)) = srt (G'.map (·.1)) := by
  have hp : G.Perm G' := perm_keys (fun j => by
    have h1 := steps_gr (j := j) (p := fun _ => true) hs hx (fun _ _ => rfl) (fun _ _ _ e => nomatch e)
    rw [List.filter_eq_self.2 (fun _ _ => rfl), List.filter_eq_self.2 (fun _ _ => rfl), stb_gr (hb j), List.append_nil] at h1
    rw [← h1, hf.gr j]
    show gr _ _ = gr ((wo t x.q).filter (fun y => y.2.1 == j)) (wo t x.has)
    rw [h.q]
    refine gr_congr (k := j) _ (fun y hy => by simpa using (List.mem_filter.1 hy).2) (fun y _ => ?_)
    rw [wo_mem, wo_mem, h.mem])
  have hl := steps_lists hs
  refine ⟨⟨?_, ?_⟩, srt_eq (hp.map _)⟩
  · rw [hl.1, hf.has]
    exact (h.has.filter _).append hp.symm
  · rw [hl.2, hf.q, nin_perm hp]
    show nin G' (wo t x.q) = _
    rw [h.q]
theorem Lok.wo (hok : Lok s) (t : Int) : Lok ⟨wo t s.has, wo t s.q⟩ := ⟨hok.hn.sublist (List.Sublist.map _ List.filter_sublist), hok.qn.sublist (List.Sublist.map _ List.filter_sublist), fun y hy => hok.ih y (wo_mem.1 hy).1, fun y hy => hok.iq y (wo_mem.1 hy).1, fun y hy z hz e => hok.dis y (wo_mem.1 hy).1 z (wo_mem.1 hz).1 e, fun y hy z hz e ha => hok.al y (wo_mem.1 hy).1 z (wo_mem.1 hz).1 e ha⟩
end
end Go.Proofs.Ytgldkckhliklhaa
