/- Flush. -/
import Derived.Test.YtbdmlnmicijnjaaDvRange
namespace Go.Proofs.Ytbdmlnmicijnjaa
open Go.RowKit

theorem DvTo.next {w w1 w2 : World} {own own1 : Owner} {gd : Nat} {s2 : Dev} (k : But (fun b => own b ≠ .none) w w1) (f : Fresh w own own1) (h : DvTo w1 own1 gd s2 w2) : DvTo w own gd s2 w2 := by
  obtain ⟨own2, f2, d2⟩ := h.ex
  refine ⟨k.then (S := fun k => own1 k ≠ .none) h.but (fun k hk e h0 => ?_), own2, fun k' hk => ?_, d2⟩
  · by_cases hq : own1 k = own k
    · exact e (hq.trans h0)
    · have := f k hq; omega
  · by_cases hq : own2 k' = own1 k'
    · exact f k' (by rw [← hq]; exact hk)
    · exact Nat.le_trans k.size (f2 k' hq)
/-- What waits is stored. -/
def Dev.flushed (s : Dev) : Dev := { s with st := (List.range s.st.length).map s.now, wt := [] }
/-- Stored so far, with these left. -/
structure FlI (s : Dev) (st' : List (List Nat)) (L : List (Value × Value)) : Prop where
  len : st'.length = s.st.length
  wf : ∀ c ∈ st', wf256 c
  at' : ∀ b : Nat, b < s.st.length → (¬ ∃ v, ((.int .i64 (b : Int) : Value), v) ∈ L) → st'.getD b [] = s.now b
theorem now_none {s : Dev} {b : Nat} (h : wb s.wr s.wt b = []) : s.now b = s.st.getD b [] := by unfold Dev.now; rw [h]; rfl
theorem now_st {s : Dev} {b : Nat} (st' : List (List Nat)) (h : wb s.wr s.wt b ≠ []) : ({ s with st := st' } : Dev).now b = s.now b := by
  unfold Dev.now
  show (match (wb s.wr s.wt b).getLast? with | some i => (s.wr.getD i d0).2 | none => st'.getD b []) = _
  cases hg : (wb s.wr s.wt b).getLast? with
  | none => exact absurd (List.getLast?_eq_none_iff.1 hg) h
  | some i => rfl
theorem FlI.step {s : Dev} {st' : List (List Nat)} {L L' : List (Value × Value)} {b : Nat} {v : Value} (h : FlI s st' L) (hok : s.ok) (hb : b < s.st.length) (hp : L.Perm ((.int .i64 (b : Int), v) :: L')) : FlI s (st'.set b (s.now b)) L' := by
  refine ⟨by rw [List.length_set]; exact h.len, fun c hc => ?_, fun c hc hn => ?_⟩
  · rcases List.mem_or_eq_of_mem_set hc with hc | hc
    · exact h.wf c hc
    · rw [hc]; exact hok.now hb
  · by_cases hcb : b = c
    · subst hcb
      have : b < st'.length := by rw [h.len]; exact hb
      simp [List.getD, this]
    · have e : (st'.set b (s.now b)).getD c [] = st'.getD c [] := by simp [List.getD, List.getElem?_set_ne hcb]
      rw [e]
      refine h.at' c hc (fun ⟨u, hu⟩ => hn ⟨u, ?_⟩)
      rcases List.mem_cons.1 (hp.mem_iff.1 hu) with e2 | e2
      · exfalso
        have := (Prod.mk.inj e2).1
        simp only [Value.int.injEq, true_and] at this
        omega
      · exact e2
theorem FlI.done {s : Dev} {st' : List (List Nat)} (h : FlI s st' []) : st' = (List.range s.st.length).map s.now := by
  apply List.ext_getElem?
  intro i
  by_cases hi : i < s.st.length
  · have h1 := h.at' i hi (fun ⟨v, hv⟩ => absurd hv List.not_mem_nil)
    have h2 : i < st'.length := by rw [h.len]; exact hi
    rw [List.getElem?_eq_getElem h2]
    simp [List.getD, h2] at h1
    simp [hi, h1]
  · rw [List.getElem?_eq_none (by rw [h.len]; omega), List.getElem?_eq_none (by simp; omega)]
section
variable {w : World} {own : Owner} {gd : Nat} {s : Dev}
theorem flush_down (h : Dv w own gd s) (hu : s.up = false) :
    Calls Try.prog 19 #[.pointer (some ⟨gd, 0, none⟩)] w fun e w' => e = .returned (.int .i64 7) ∧ w' = w := by
  obtain ⟨gs, vw, bm, vi, h⟩ := h
  have c6 : w.cell? ⟨gd, 6, none⟩ = some (.bool s.up) := h.blk.cell 6
  rw [hu] at c6
  clear h hu
  go_enter Try.func19, Try.ntmps19
  go_wp2
  go_ret
  exact ⟨rfl, rfl⟩
theorem flush_gone (h : Dv w own gd s) (hu : s.up = true) (hc : s.cnt < 4611686018427387904) (ha : s.arm = 1) :
    Calls Try.prog 19 #[.pointer (some ⟨gd, 0, none⟩)] w fun e w' => e = .returned (.int .i64 7) ∧ DvTo w own gd s.acc w' := by
  have HAC := Hid.mk' (access_any h hu hc (by omega))
  rw [show (s.arm == 1) = true by simp [ha]] at HAC
  obtain ⟨gs, vw, bm, vi, h⟩ := h
  have c6 : w.cell? ⟨gd, 6, none⟩ = some (.bool s.up) := h.blk.cell 6
  rw [hu] at c6
  clear h hu ha hc
  go_enter Try.func19, Try.ntmps19
  go_wp2_with fail
  refine Calls.mono HAC.out ?_
  rintro e w1 ⟨rfl, h1⟩
  have H1 := Hid.mk' h1
  clear h1
  go_wp2
  go_ret
  exact ⟨rfl, H1.out⟩
set_option maxRecDepth 100000 in
set_option maxHeartbeats 4000000 in
theorem flush_any (h : Dv w own gd s) (hu : s.up = true) (hc : s.cnt < 4611686018427387904) (ha : s.arm ≤ 9223372036854775807) (ha1 : s.arm ≠ 1) :
    Calls Try.prog 19 #[.pointer (some ⟨gd, 0, none⟩)] w fun e w' => e = .returned (.int .i64 0) ∧ DvTo w own gd s.acc.flushed w' := by
  have HAC := Hid.mk' (access_any h hu hc ha)
  rw [show (s.arm == 1) = false by simpa using ha1] at HAC
  obtain ⟨gs, vw, bm, vi, h⟩ := h
  have c6 : w.cell? ⟨gd, 6, none⟩ = some (.bool s.up) := h.blk.cell 6
  rw [hu] at c6
  clear h hu ha hc ha1
  go_enter Try.func19, Try.ntmps19
  go_wp2_with fail
  refine Calls.mono HAC.out ?_
  rintro e w1 ⟨rfl, h1⟩
  obtain ⟨own1, f1, gs, vw, bm, vi, d1⟩ := h1.ex
  obtain ⟨s1, hs1⟩ : ∃ s1, s1 = s.acc := ⟨_, rfl⟩
  rw [← hs1] at d1
  obtain ⟨M, hM, hM2, hM3⟩ := d1.map.ex
  obtain ⟨w2, hrg, hg2, hsz2, hR2⟩ := hM.range Try.underlying78
  obtain ⟨r, hr⟩ : ∃ r, r = w1.heap.size := ⟨_, rfl⟩
  rw [← hr] at hrg hR2
  have HRW := Hid.mk' hr
  have HRG := Hid.mk' hrg
  have HS1 := Hid.mk' hs1
  have HF1 := Hid.mk' f1
  have HK1 := Hid.mk' h1.but
  have HM2 : Hid (∀ p ∈ M, ∃ b : Nat, p.1 = .int .i64 (b : Int) ∧ b < s1.st.length ∧ wb s1.wr s1.wt b ≠ []) := fun p hp => by
    obtain ⟨b, e1, e2, e3, e4⟩ := hM2 p hp
    refine ⟨b, e1, ?_, e3⟩
    obtain ⟨i, hi⟩ := List.exists_mem_of_ne_nil _ e3
    obtain ⟨h5, h6⟩ := List.mem_filter.1 hi
    have h7 := d1.ok.wl i h5
    have h8 := (d1.ok.wr (s1.wr.getD i d0) (by rw [List.getD_eq_getElem?_getD, List.getElem?_eq_getElem h7]; exact List.getElem_mem h7)).1
    have h9 : (s1.wr.getD i d0).1 = b := by simpa using h6
    rw [h9] at h8; exact h8
  have HM := Hid.mk' hM
  have HOR : Hid (own1 r = .none) := d1.top r (by omega)
  have HOK := Hid.mk' d1.ok
  have HD2 := Hid.mk' (d1.but hg2 (fun _ _ h => h))
  have HR2 := Hid.mk' hR2
  have HG2 : Hid (But (fun b => own1 b ≠ .none) w1 w2) := hg2.mono (fun _ _ h => h.elim)
  have HI : Hid (FlI s1 s1.st M) := ⟨rfl, d1.ok.st, fun b hb hn => (by
    by_cases he : wb s1.wr s1.wt b = []
    · exact (now_none he).symm
    · exact absurd (hM3 b he) hn)⟩
  have c2 : w1.cell? ⟨gd, 2, none⟩ = some (.map (some bm)) := d1.blk.cell 2
  have HNG : Hid (r ≠ gd) := fun e => by have := HOR.out; rw [e, d1.tag] at this; cases this
  have HNS : Hid (r ≠ gs) := fun e => by have := HOR.out; rw [e, d1.stt] at this; cases this
  clear h1 d1 hM hM2 hM3 hrg hg2 hsz2 hR2 hr hs1 f1 HAC c6
  go_wp2_with (first
    | (refine wpList_run rfl (exec_range rfl rfl HRG.out) ?_)
    | fail)
  clear c2
  refine act_down (fun K hK => ?_)
  go_simp
  refine hK _ ?_
  clear hK K
  go_loopw [3] (fun _ wr => ∃ L st', Rg wr r bm M L ∧ DvM wr own1 gd { s1 with st := st' } gs vw bm vi ∧ FlI s1 st' L ∧ But (fun b => own1 b ≠ .none) w1 wr) (fun _ wr => leftN wr r bm)
  case atStart => exact ⟨M, s1.st, HR2.out, HD2.out, HI.out, HG2.out⟩
  case round =>
    clear HR2 HD2 HI HG2 HRG
    obtain ⟨L, st', hR, hD, hI, hB⟩ := hrel
    rcases hR.next (P := Try.prog) 0 with ⟨rfl, hnx⟩ | ⟨p, L', w3, hp, hperm, hnx, hb3, hsz3, hR3, hent⟩
    · have HNX := Hid.mk' hnx
      have hst := hI.done
      subst hst
      have HD := Hid.mk' hD
      have HB := Hid.mk' hB
      obtain ⟨M', hM', -, -⟩ := hD.map.ex
      obtain ⟨w4, hcl, hM4, hb4, -⟩ := hM'.clear (t := 78) Try.underlying78 0
      have HCL := Hid.mk' hcl
      have HFIN : Hid (DvTo w own gd s.acc.flushed w4) := by
        refine DvTo.next HK1.out HF1.out ⟨HB.out.trans (hb4.mono (fun b _ e => by rw [e, hD.mat]; decide)), own1, Fresh.refl _ _, gs, vw, bm, vi, ?_⟩
        have h5 := hD.maps (wt' := []) hb4 ⟨[], hM4, fun p hp => absurd hp List.not_mem_nil, fun b hb => absurd rfl hb⟩ .nil (fun i hi => absurd hi List.not_mem_nil)
        rw [← HS1.out]
        exact h5
      have c2 : wr.cell? ⟨gd, 2, none⟩ = some (.map (some bm)) := hD.blk.cell 2
      clear hnx hI hD hB hM' hcl hM4 hb4 hR
      go_wp2_with (first
        | (refine wpList_run rfl (exec_next rfl rfl rfl HNX.out) ?_)
        | (refine wpList_run rfl (exec_clear rfl rfl HCL.out) ?_)
        | fail)
      go_ret
      exact ⟨rfl, HFIN.out⟩
    · have HNX := Hid.mk' hnx
      have HENT := Hid.mk' hent
      obtain ⟨pk, pv⟩ := p
      obtain ⟨b, e1, hb, hwb⟩ := HM2.out _ hp
      simp only at e1
      subst e1
      have hD3 := hD.but hb3 (fun c hc e => hc (by rw [e]; exact HOR.out))
      have HD3 := Hid.mk' hD3
      have HR3 := Hid.mk' hR3
      have HLF : Hid (leftN wr r bm = L'.length + 1) := by
        show _ = _
        rw [hR.left, hperm.length_eq, List.length_cons]
      have HI3 := Hid.mk' (hI.step HOK.out hb hperm)
      have HB3 : Hid (But (fun b => own1 b ≠ .none) w1 w3) := hB.then hb3 (fun i hi e => absurd HRW.out (by omega))
      have hnow : ({ s1 with st := st' } : Dev).now b = s1.now b := now_st st' hwb
      have hlen : st'.length = s1.st.length := hI.len
      have HRE : Hid (∀ w4, Grow w3 w4 → Calls Try.prog 53 #[.pointer (some ⟨gd, 0, none⟩), .int .i64 (b : Int)] w4 fun e w' => e = .returned (.agg (u8s (s1.now b)).toArray) ∧ Grow w4 w') := fun w4 h4 => by
        rw [← hnow]
        exact reads_any ⟨gs, vw, bm, vi, HD3.out.but h4 (fun _ _ h => h)⟩ (by show b < st'.length; rw [hlen]; exact hb)
      obtain ⟨D, hDe⟩ : ∃ D, D = s1.now b := ⟨_, rfl⟩
      have HWF : Hid (wf256 D) := by rw [hDe]; exact HOK.out.now hb
      rw [← hDe] at HRE HI3
      obtain ⟨N, hN⟩ : ∃ N, N = (u8s D).toArray := ⟨_, rfl⟩
      have HNE := Hid.mk' hN
      rw [← hN] at HRE
      obtain ⟨n, hn⟩ : ∃ n, n = st'.length := ⟨_, rfl⟩
      have HN := Hid.mk' hn
      have HBL : Hid (b < st'.length) := by show _ < _; rw [hlen]; exact hb
      have hbi : (b : Int) < (n : Int) := by rw [hn, hlen]; omega
      have HST : Hid (∀ c ∈ st', wf256 c) := hI.wf
      clear hnx hent hD hI hB hR hp hperm hb3 hsz3 hR3 hD3 hb hwb hnow hDe hN hn hlen
      go_upto_region 8 with (first
        | (refine wpList_run rfl (exec_next rfl rfl rfl HNX.out) ?_)
        | (refine wpList_run rfl (exec_entry rfl rfl HENT.out) ?_)
        | fail)
      refine region_chain [([0, 1, 2, 3, 4, 5, 6, 7, 8], 9)] [] (Grow w3) (Grow w3) (by kernel_rfl) (by kernel_rfl) (fun _ _ h k => h.trans k) (fun _ h => h) ((But.refl _ w3).drew) ?_
      intro ι hne X hX
      have c0 : ∀ x, (X x).cell? ⟨gd, 0, none⟩ = some (.slice (some ⟨gs, 0, none⟩) n n) := fun x => by rw [HN.out]; exact (HD3.out.blk.but (hX x) (fun h => h)).cell 0
      iterate 7 (refine still_step rfl (fun K hK => ?_); go_simp; refine hK _ ?_; clear hK K)
      refine still_call rfl (.agg N) 53 #[.pointer (some ⟨gd, 0, none⟩), .int .i64 (b : Int)] rfl (fun x => by kernel_rfl) (fun x => HRE.out _ (hX x)) ?_
      intro K hK; go_simp; refine hK _ ?_; clear hK K
      iterate 1 (refine still_step rfl (fun K hK => ?_); go_simp; refine hK _ ?_; clear hK K)
      refine still_nil ?_
      clear c0 hX hne
      refine turn_run rfl rfl (fun _ w' => ∃ w5, But (· = gs) w3 w5 ∧ Blk w5 gs 83 ((st'.set b D).flatMap u8s) ∧ Grow w5 w') (fun _ _ => True) (fun _ w4 w5 ⟨w6, h1, h2, h3⟩ k => ⟨w6, h1, h2, h3.trans k⟩) (fun _ _ _ => trivial) (.inl (by kernel_rfl)) ?_ ?_
      · intro w4 h4
        have hb0 := HD3.out.sto.but h4 (fun h => h)
        have hb0 : Blk w4 gs 83 (st'.flatMap u8s) := hb0
        rw [flat_cut HBL.out] at hb0
        have hold : (u8s (st'.getD b [])).length = (u8s D).length := by
          rw [u8s_len, u8s_len, HWF.out.1]
          exact (HST.out _ (by rw [List.getD_eq_getElem?_getD, List.getElem?_eq_getElem HBL.out]; exact List.getElem_mem HBL.out)).1
        refine turn_cells (cs := u8s D) rfl rfl (by show Value.agg N = _; rw [HNE.out]) (by rw [i256, u8s_len, HWF.out.1]) (u8s_one _) hb0 (flat_pre HST.out (Nat.le_of_lt HBL.out)) hold ?_
        intro w5 hb5 hbut5
        refine ⟨w5, (h4.mono (fun _ _ h => h.elim)).trans hbut5, ?_, But.refl _ _⟩
        rw [flat_set HBL.out]; exact hb5
      · rintro v5 - Y hY
        go_simp
        refine hY _ ?_
        clear hY Y
        intro ι hne X hX
        refine still_nil ?_
        clear hX hne
        rintro w6 ⟨w5, h1, h2, h3⟩
        have HD6 := Hid.mk' ((HD3.out.store h1 h2 (by rw [List.length_set]) HI3.out.wf).but h3 (fun _ _ h => h))
        have HR6 := Hid.mk' ((HR3.out.but h1 HNS.out (fun e => by have := HD3.out.mat; rw [e, HD3.out.stt] at this; cases this)).but h3 (fun h => h) (fun h => h))
        have HB6 : Hid (But (fun b => own1 b ≠ .none) w1 w6) := (HB3.out.trans (h1.mono (fun c _ e => by rw [e, HD3.out.stt]; decide))).trans (h3.mono (fun _ _ h => h.elim))
        clear h1 h2 h3
        go_wp2
        exact ⟨⟨L', st'.set b D, HR6.out, HD6.out, HI3.out, HB6.out⟩, by rw [HR6.out.left, HLF.out]; omega⟩
end
end Go.Proofs.Ytbdmlnmicijnjaa
