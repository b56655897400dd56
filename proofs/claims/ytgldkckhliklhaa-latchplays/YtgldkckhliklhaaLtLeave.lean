/- latch: leave. -/
import Derived.Test.YtgldkckhliklhaaLtSettle
import Derived.Test.YtgldkckhliklhaaLtWait
import Derived.Test.YtgldkckhliklhaaQuDel
namespace Go.Proofs.Ytgldkckhliklhaa
open Go.RowKit Go.Maps

theorem first_at {t : Int} : ∀ {ts : List Int}, t ∈ ts → ∃ p : Nat, ts[p]? = some t ∧ ∀ (j : Nat) (t' : Int), j < p → ts[j]? = some t' → t' ≠ t
  | [], h => absurd h List.not_mem_nil
  | a :: r, h => by
    by_cases e : a = t
    · exact ⟨0, by simp [e], fun j _ hj => by omega⟩
    · obtain ⟨p, h1, h2⟩ := first_at (ts := r) ((List.mem_cons.1 h).resolve_left (fun e2 => e e2.symm))
      refine ⟨p + 1, by simpa using h1, fun j t' hj hj2 => ?_⟩
      cases j with
      | zero => rw [← show a = t' by simpa using hj2]; exact e
      | succ j => exact h2 j t' (by omega) (by simpa using hj2)
theorem erase_filter {t : Int} : ∀ {ts : List Int} {p : Nat}, ts.Nodup → ts[p]? = some t → ts.eraseIdx p = ts.filter (fun y => !(y == t))
  | [], p, _, h => by simp at h
  | a :: r, 0, hn, h => by
    have e : a = t := by simpa using h
    subst e
    rw [List.nodup_cons] at hn
    rw [List.eraseIdx_cons_zero, List.filter_cons, if_neg (by simp), eq_comm, List.filter_eq_self]
    intro y hy
    have : y ≠ a := fun e => hn.1 (by rw [← e]; exact hy)
    simpa using this
  | a :: r, p + 1, hn, h => by
    rw [List.nodup_cons] at hn
    have h' : r[p]? = some t := by simpa using h
    have hne : a ≠ t := fun e => hn.1 (by rw [e]; exact List.mem_of_getElem? h')
    rw [List.eraseIdx_cons_succ, List.filter_cons, if_pos (by simpa using hne), erase_filter hn.2 h']
theorem SetTo.back {w w6 w' : World} {own : Owner} {gt : Nat} {s : Ls} {k : Int} {e : Ending} (b : But (Wo own) w w6) (h : SetTo w6 own gt s k e w') : SetTo w own gt s k e w' := by
  obtain ⟨v, h0, G, s', own', h1, h2, h3, h4, h5, h6, h7, h8⟩ := h
  exact ⟨v, h0, G, s', own', h1, h2, h3, h4, h5, fun j hj => ⟨Nat.le_trans b.size (h6 j hj).1, (h6 j hj).2⟩, fun j hj => (h7 j hj).imp (fun h => h) (fun h => Nat.le_trans b.size h), b.trans h8⟩
theorem SetTo.later {w w6 w' : World} {own : Owner} {gt : Nat} {s : Ls} {k : Int} {e : Ending} (h : SetTo w own gt s k e w6) (g : Grow w6 w') : SetTo w own gt s k e w' := by
  obtain ⟨v, h0, G, s', own', h1, h2, ⟨a1, a2, a3, a4, a5, a6, a7, h3⟩, h4, h5, h6, h7, h8⟩ := h
  exact ⟨v, h0, G, s', own', h1, h2, ⟨a1, a2, a3, a4, a5, a6, a7, h3.grow g⟩, h4, ownsRow_grow h5 g, h6, h7, h8.trans (g.mono (fun _ _ h => h.elim))⟩
section
variable {w w' : World} {own own' : Owner} {gt gl gh gw : Nat} {lb hb : Int → Nat} {KL TL : List Int} {c : Lc} {s : Ls} {R : Nat → Prop} {T : Tag}
set_option maxRecDepth 100000 in
set_option maxHeartbeats 1000000 in
theorem lleave_not (h : Lt w own gt s) (hok : Lok s) {t : Int} (ht : i64 t) (hw : s.wait t = false) : Calls Try.prog 21 #[ptr gt, .int .i64 t] w fun e w' => e = .returned (.slice none 0 0) ∧ Grow w w' := by
  obtain ⟨gl, gh, gw, lb, hb, KL, TL, h⟩ := h
  have c2 : w.cell? ⟨gt, 2, none⟩ = some (.map (some gw)) := h.blk.cell 2
  obtain ⟨al, hl, -⟩ := h.lookWt hok ht
  obtain ⟨w2, hs, hb2, hg⟩ := boxWt w (s.waitK t) al
  rw [hw] at hl
  have HS := Hid.mk' hs
  have HG := Hid.mk' hg
  have HL := Hid.mk' hl
  generalize s.waitK t = kk at *
  clear h hok ht hl hs hb2 hg hw
  go_enter Try.func21, Try.ntmps21
  go_wp2_with (first
    | (refine wpList_runH rfl (exec_lookup rfl rfl rfl HL.out) ?_)
    | (refine wpList_runH rfl (exec_allocF rfl (zWt w)) ?_)
    | (refine wpList_skipH rfl (exec_stF (v := .agg #[.int .i64 kk, .bool al]) rfl rfl rfl HS.out) ?_)
    | fail)
  go_ret
  exact ⟨rfl, HG.out⟩
set_option maxRecDepth 100000 in
set_option maxHeartbeats 4000000 in
theorem lleave_any (h : Lt w own gt s) (hok : Lok s) {t kk : Int} {al : Bool} (hx : (t, kk, al) ∈ s.q) (hsum : s.has.length + s.q.length ≤ 10000) : Calls Try.prog 21 #[ptr gt, .int .i64 t] w (SetTo w own gt (s.leave t) kk) := by
  obtain ⟨gl, gh, gw, lb, hb, KL, TL, h⟩ := h
  obtain ⟨ht, hkk⟩ : i64 t ∧ i64 kk := hok.iq _ hx
  have c2 : w.cell? ⟨gt, 2, none⟩ = some (.map (some gw)) := h.blk.cell 2
  have hl : (Instr.lookup 50 (.map (some gw)) (.int .i64 t) true).run Try.prog w = .ok (.tuple #[.agg #[.int .i64 kk, .bool al], .bool true]) w := (h.lookW ht true).1 _ hx rfl
  obtain ⟨w2, hs, hb2, hg⟩ := boxWt w kk al
  have hm2 := h.grow hg
  obtain ⟨w3, hr3, hw3, hb3, -⟩ := hm2.wai.del (t := 50) (et := 60) (l' := (s.leave t).q) keyIa Try.underlying50 (keyOfIa t ht) (fun y => by
    show y ∈ s.q.filter _ ↔ _
    rw [List.mem_filter]
    constructor
    · rintro ⟨h1, h2⟩; exact ⟨h1, fun e => by rw [iv_inj e] at h2; simp at h2⟩
    · rintro ⟨h1, h2⟩; exact ⟨h1, by have : y.1 ≠ t := fun e => h2 (by rw [e]); simpa using this⟩) 0
  have hm3 := hm2.setW hb3 hw3
  obtain ⟨g0, hg0⟩ : ∃ g0, g0 = w.heap.size := ⟨_, rfl⟩
  have hn0 : own g0 = .none := by rw [hg0]; exact h.top _ (Nat.le_refl _)
  have hgw0 : ¬ (g0 = gw) := fun e => by
    have := h.ow
    rw [← e, hn0] at this
    cases this
  rw [← hg0] at hb2 hs
  have hb03 := hb2.but hb3 hgw0
  have hk : kk ∈ KL := h.nok _ (.inr hx)
  have hbut3 : But (Wo own) w w3 := (hg.mono (fun _ _ h => h.elim)).trans (hb3.mono (fun b _ e => by rw [e]; show own _ ≠ _; rw [h.ow]; decide))
  have c22 : w2.cell? ⟨gt, 2, none⟩ = some (.map (some gw)) := hm2.blk.cell 2
  have HL := Hid.mk' hl
  have HS := Hid.mk' hs
  have HR3 := Hid.mk' hr3
  have HM3 := Hid.mk' hm3
  have HB03 := Hid.mk' hb03
  have HK := Hid.mk' hk
  have HKI := Hid.mk' hkk
  have HX := Hid.mk' hx
  have HOK := Hid.mk' hok
  have HSUM := Hid.mk' hsum
  have HBUT3 := Hid.mk' hbut3
  have HN0 := Hid.mk' hn0
  have HG0 := Hid.mk' hg0
  clear h hok ht hkk hl hs hb2 hg hm2 hr3 hw3 hb3 hm3 hb03 hk hbut3 hx hsum hn0 hg0 hgw0
  go_enter Try.func21, Try.ntmps21
  go_upto_region 5 with (first
    | (refine wpList_runH rfl (exec_lookup rfl rfl rfl HL.out) ?_)
    | (refine wpList_runH rfl (exec_allocF rfl (zWt w)) ?_; rw [← HG0.out])
    | (refine wpList_skipH rfl (exec_stF (v := .agg #[.int .i64 kk, .bool al]) rfl rfl rfl HS.out) ?_)
    | (refine wpList_runH rfl (exec_delete rfl rfl rfl HR3.out) ?_)
    | fail)
  clear c2 c22
  refine region_chain [] [0, 1, 2, 3, 4, 5, 6, 7] (Grow w3) (Grow w3) (by kernel_rfl) (by kernel_rfl) (fun _ _ h k => h.trans k) (fun _ h => h) ((But.refl _ w3).drew) ?_
  intro ι hne X hX
  have d0 : ∀ x, (X x).cell? ⟨gt, 0, none⟩ = some (.map (some gl)) := fun x => (HM3.out.blk.but (hX x) (fun h => h)).cell 0
  have d1 : ∀ x, (X x).cell? ⟨g0, 0, none⟩ = some (.int .i64 kk) := fun x => (HB03.out.but (hX x) (fun h => h)).cell 0
  iterate 6 (refine still_step rfl (fun K hK => ?_); go_simp; refine hK _ ?_; clear hK K)
  refine still_val rfl (ptr (lb kk)) rfl (fun z => exec_lookup rfl rfl rfl (((HM3.out.grow (hX z)).lookL HKI.out).1 HK.out)) ?_
  intro K hK; go_simp; refine hK _ ?_; clear hK K
  iterate 1 (refine still_step rfl (fun K hK => ?_); go_simp; refine hK _ ?_; clear hK K)
  refine still_nil ?_
  clear hX hne d0 d1 X ι
  intro w4 hw4
  have hm4 := HM3.out.grow hw4
  obtain ⟨v, hbk, hqu⟩ := hm4.each kk HK.out
  have hqn : (qkl s.q kk).Nodup := HOK.out.qn.sublist (List.Sublist.map _ List.filter_sublist)
  have hqu' : Qu w4 (Is own (tQ kk)) v (qkl s.q kk) := hqu
  obtain ⟨p, hp, hpn⟩ := first_at (t := t) (ts := qkl s.q kk) (List.mem_map.2 ⟨(t, kk, al), List.mem_filter.2 ⟨HX.out, by simp⟩, rfl⟩)
  have hpl : p < (qkl s.q kk).length := (List.getElem?_eq_some_iff.1 hp).1
  obtain ⟨va, vc, hvl⟩ := hqu'.len
  have HIX := Hid.mk' (index_any hqu' hp hpn)
  have HDE := Hid.mk' (delete_any hqu' hpl)
  have hqe : (qkl s.q kk).eraseIdx p = qkl (s.leave t).q kk := by
    rw [erase_filter hqn hp]
    unfold qkl
    show _ = ((s.q.filter (fun y => !(y.1 == t))).filter (fun x => x.2.1 == kk)).map (·.1)
    rw [List.filter_map, List.filter_filter, List.filter_filter]
    congr 1
    apply List.filter_congr
    intro y _
    exact Bool.and_comm _ _
  have HQE := Hid.mk' hqe
  have hql : (qkl s.q kk).length ≤ 10000 := by
    have h1 : (qkl s.q kk).length ≤ s.q.length := by unfold qkl; rw [List.length_map]; exact List.length_filter_le _ _
    have := HSUM.out
    omega
  obtain ⟨ql, hqll⟩ : ∃ ql, ql = (qkl s.q kk).length := ⟨_, rfl⟩
  rw [← hqll] at hvl
  subst hvl
  have c4 : w4.cell? ⟨lb kk, 2, none⟩ = some (.slice va ql vc) := hbk.cell 2
  have hpi : (p : Int) ≤ 10000 := by omega
  have HBK := Hid.mk' hbk
  have HM4 := Hid.mk' hm4
  have HG4 := Hid.mk' hw4
  clear hm4 hbk hqu hqu' hqn hp hpn hpl hqe hql hqll hw4
  go_wp2_with fail
  refine Calls.mono HIX.out ?_
  rintro e w' ⟨rfl, hw⟩
  have h2 := hw.symm
  subst h2
  clear hw
  go_wp2_with fail
  refine Calls.mono HDE.out ?_
  rintro e w5 ⟨v5, rfl, hq5, hb5, a5, c5, hv5⟩
  have hnb : ¬ Is own (tQ kk) (lb kk) := fun e => tLQ _ _ ((HM4.out.olb _ HK.out).symm.trans e)
  have hbk5 := HBK.out.but hb5 hnb
  have c52 : w5.cell? ⟨lb kk, 2, none⟩ = some (.slice va ql vc) := hbk5.cell 2
  have f52 : w5.frozen? ⟨lb kk, 2, none⟩ = false := hbk5.free 2
  have k6 := But.set1 w5 (lb kk) 2 v5
  have kk6 : But (fun b => b = lb kk ∨ own b = tQ kk) w4 (w5.setCell ⟨lb kk, 2, none⟩ v5) := (hb5.mono (fun b _ e => .inr e)).trans (k6.mono (fun b _ e => .inl e))
  rw [HQE.out] at hq5
  have hm6 := HM4.out.setQ (qq := (s.leave t).q) HK.out (Ext.refl own) (HM4.out.top.grow kk6.size) kk6 (fun j hj => by
      show qkl (s.leave t).q j = qkl s.q j
      have := grant_qk_ne HOK.out HX.out (k := j) hj
      rw [qkl_qk, qkl_qk]
      exact congrArg _ this) (v' := v5) (fun u hu => by
      have h9 := (hu.but hb5 hnb).set 2 v5
      exact h9) (hq5.but k6 (fun j hj e => hnb (by rw [← e]; exact hj)) (fun _ h => h)) (fun y hy => HM4.out.nok y (.inr (List.mem_filter.1 hy).1)) (by
      have := List.length_filter_le (fun y : Wt => !(y.1 == t)) s.q
      have := HSUM.out
      show (s.q.filter _).length ≤ _
      omega)
  have hbut6 : But (Wo own) w (w5.setCell ⟨lb kk, 2, none⟩ v5) := (HBUT3.out.trans (HG4.out.mono (fun _ _ h => h.elim))).trans (kk6.mono (fun b _ e => by
    rcases e with e | e
    · rw [e]; show own _ ≠ _; rw [HM4.out.olb _ HK.out]; exact fun e => nomatch e
    · show own b ≠ _; rw [e]; exact fun e => nomatch e))
  have hb06 : Blk (w5.setCell ⟨lb kk, 2, none⟩ v5) g0 60 [.int .i64 kk, .bool al] := (HB03.out.but HG4.out (fun h => h)).but kk6 (fun e => by
    rcases e with e | e
    · have := HM4.out.olb _ HK.out
      rw [← e, HN0.out] at this
      cases this
    · rw [HN0.out] at e
      cases e)
  have hse := lsettle_any (s := s.leave t) hm6 (HOK.out.leave t) HKI.out HK.out (by
    have := List.length_filter_le (fun y : Wt => !(y.1 == t)) s.q
    have := HSUM.out
    show s.has.length + (s.q.filter _).length ≤ _
    omega)
  subst hv5
  have c60 := hb06.cell 0
  have c60' : (w5.setCell ⟨lb kk, 2, none⟩ (.slice a5 ((qkl s.q kk).length - 1) c5)).cell? ⟨g0, 0, none⟩ = some (.int .i64 kk) := c60
  obtain ⟨m, hm⟩ : ∃ m, m = (qkl s.q kk).length - 1 := ⟨_, rfl⟩
  rw [← hm] at hse hbut6 c60' ⊢
  have HSE := Hid.mk' hse
  have HB6 := Hid.mk' hbut6
  clear hq5 hb5 hnb hbk5 k6 kk6 hm6 hbut6 hb06 hse c60 hm c4
  go_wp2_with fail
  refine Calls.mono HSE.out ?_
  intro e w9 h9
  have h10 := SetTo.back HB6.out h9
  obtain ⟨v9, h11, -⟩ := h9
  have HFIN := Hid.mk' h10
  subst h11
  clear h10
  go_wp2
  go_ret
  exact HFIN.out
end
end Go.Proofs.Ytgldkckhliklhaa
