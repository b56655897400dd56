/- frames: Pin. -/
import Derived.Test.YtmlklmhochihbaaFrAdd
namespace Go.Proofs.Ytmlklmhochihbaa
open Go.RowKit Go.Maps

theorem exec_ldF {w : World} {o : Oper} {ρ : Operand → Value} {T : TypeId} {d : TypeDesc} (hu : Try.prog.underlying T = some d) (hd : (match d with | .struct _ | .array _ _ => true | _ => false) = true) {cs : List Value} (hi : (Try.prog.info? T).map (·.size) = some cs.length) {x : Operand} {ad : Addr} (hc : ∀ j u, cs[j]? = some u → w.cell? (ad.add j) = some u)
    (ho : o.op = .load T x) (hx : ρ x = .pointer (some ad)) : (execOp ρ o).run Try.prog w = .ok (.value (.agg cs.toArray)) w := by
  have h := run_loadVar_cells w ad T cs _ hc hu hd hi
  unfold execOp
  simp only [ho, hx, Instr.loadAt, Instr.sureAddr, Sem.run_bind, Sem.run_pure, Result.andThen_ok, h]
theorem exec_allocF {w : World} {o : Oper} {ρ : Operand → Value} {T : TypeId} {Z : Array Value} (ho : o.op = .alloc T) (hz : (zeroValue T).run Try.prog w = .ok (.agg Z) w) : (execOp ρ o).run Try.prog w = .ok (.value (.pointer (some ⟨w.heap.size, 0, none⟩))) (w.alloc (.cells Z T)) := by
  simp [execOp, ho, go_sem, hz]
/-- A store of nothing. -/
theorem exec_store0 {w : World} {o : Oper} {ρ : Operand → Value} {T : TypeId} (hi : (Try.prog.info? T).map (·.size) = some 0) {x y : Operand} {ad : Addr} (ho : o.op = .store T x y) (hx : ρ x = .pointer (some ad)) (hy : ρ y = .agg #[]) : (execOp ρ o).run Try.prog w = .ok .skip w := by
  cases hq : Try.prog.info? T with
  | none => simp [hq] at hi
  | some i =>
    have hs : i.size = 0 := by simpa [hq] using hi
    unfold execOp
    simp [ho, hx, hy, Instr.storeAt, Instr.sureAddr, storeVar, sizeOf, typeInfo, hq, Value.cells, hs, storeCells, Result.andThen]
theorem iUnit : (Try.prog.info? 97).map (·.size) = some 0 := by kernel_rfl
theorem zUnit (w : World) : (zeroValue 97).run Try.prog w = .ok unitV w := by kernel_rfl
theorem iPin : (Try.prog.info? 96).map (·.size) = some 2 := by kernel_rfl
theorem zPin (w : World) : (zeroValue 96).run Try.prog w = .ok (.agg #[.int .i64 0, .int .i64 0]) w := by kernel_rfl
theorem bld_pin (a b : Int) (w : World) : (Instr.build 96 #[(0, .int .i64 a), (1, .int .i64 b)]).run Try.prog w = .ok (pinV (a, b)) w := run_build w _ _ _ (by kernel_rfl)
theorem bld_unit (w : World) : (Instr.build 97 #[]).run Try.prog w = .ok unitV w := by kernel_rfl
theorem fpin_nil (w : World) (t K : Int) : Calls Try.prog 23 #[.pointer none, .int .i64 t, .int .i64 K] w fun e w' => e = .returned (.int .i64 5) ∧ w' = w := by
  go_enter Try.func23, Try.ntmps23
  go_wp2_with fail
  refine Calls.mono (find_nil w K) ?_
  rintro e w' ⟨rfl, rfl⟩
  go_wp2
  go_ret
  exact ⟨rfl, rfl⟩
section
variable {w w' : World} {own own' : Owner} {gt gr gf gp gh gm : Nat} {fb : Int → Nat} {PL : List (Int × Int)} {s s' : St} {R : Nat → Prop}
theorem fpin_not (h : Ft w own gt s) {t K : Int} (hK : i64 K) (hh : s.has K = false) : Calls Try.prog 23 #[ptr gt, .int .i64 t, .int .i64 K] w fun e w' => e = .returned (.int .i64 5) ∧ w' = w := by
  obtain ⟨gr, gf, gp, gh, gm, fb, PL, h⟩ := h
  have HF := Hid.mk' (find_not h hK hh)
  clear h hK hh
  go_enter Try.func23, Try.ntmps23
  go_wp2_with fail
  refine Calls.mono HF.out ?_
  rintro e w' ⟨rfl, rfl⟩
  go_wp2
  go_ret
  exact ⟨rfl, rfl⟩
theorem Fm.pinLook (h : Fm w own gt gr gf gp gh gm fb PL s) {p : Int × Int} (h1 : i64 p.1) (h2 : i64 p.2) : (Instr.lookup 83 (.map (some gp)) (pinV p) true).run Try.prog w = .ok (.tuple #[unitV, .bool (decide (p ∈ PL))]) w := by
  obtain ⟨l, hl⟩ := keyOfPin h1 h2
  have hk := h.pin.look (t := 83) (et := 97) keyPin Try.underlying83 zUnit hl true
  by_cases hp : p ∈ PL
  · rw [decide_eq_true hp]
    exact hk.1 p hp rfl
  · rw [decide_eq_false hp]
    exact hk.2 (fun x hx e => hp (by rw [← pinV_inj e]; exact hx))
/-- A task pins a key. -/
theorem Fm.pinUp {w1 : World} (h : Fm w own gt gr gf gp gh gm fb PL s) {t : Int} {e0 : FrE} (he0 : e0 ∈ s.fr) (ht : i64 t) (hn : (t, e0.1) ∉ PL) (hpl : s.pins.length < 100000) (k : But (· = gp) w w1) (hm : MapOf 96 w1 gp pinV (fun _ => unitV) (PL ++ [(t, e0.1)])) :
    FtTo w own gt (s.pin t e0.1) (w1.setCell ⟨fb e0.1, 2, none⟩ (.int .i64 ((cnt PL e0.1 + 1 : Nat) : Int))) := by
  have hh : s.has e0.1 = true := St.has_iff.2 ⟨e0, he0, rfl⟩
  have e1 : s.pin t e0.1 = { s with pins := s.pins ++ [(t, e0.1)] } := by unfold St.pin; rw [if_pos hh]
  have hok := h.ok.pin (t := t) (k := e0.1) ht (h.ok.ik e0 he0).1
  rw [e1] at hok ⊢
  obtain ⟨v0, hb0, hv0⟩ := h.each e0 he0
  have k2 := But.set1 w1 (fb e0.1) 2 (.int .i64 ((cnt PL e0.1 + 1 : Nat) : Int))
  have kk : But (fun b => b = gp ∨ b = fb e0.1) w (w1.setCell ⟨fb e0.1, 2, none⟩ (.int .i64 ((cnt PL e0.1 + 1 : Nat) : Int))) := (k.mono (fun _ _ e => .inl e)).trans (k2.mono (fun _ _ e => .inr e))
  have ne : ∀ b t, own b = t → t ≠ .wri → t ≠ tFr e0.1 → ¬ (b = gp ∨ b = fb e0.1) := fun b t e h1 h2 e2 => by
    rcases e2 with e2 | e2
    · rw [e2, h.ogp] at e; exact h1 e.symm
    · rw [e2, h.ofb e0 he0] at e; exact h2 e.symm
  have hgf : ¬ (gp = fb e0.1) := h.fbne he0 h.ogp (fun e => nomatch e)
  have hcc : ∀ j, cnt (PL ++ [(t, e0.1)]) j = cnt PL j + (if e0.1 = j then 1 else 0) := fun j => by
    rw [cnt_perm (List.perm_append_comm (l₁ := PL) (l₂ := [(t, e0.1)])) j]
    exact cnt_cons _ _ _
  refine Ft.one (PL := PL ++ [(t, e0.1)]) ⟨h.blk.but kk (ne _ _ h.ot (by decide) (fun e => nomatch e)), h.res.but kk (ne _ _ h.ort (by decide) (fun e => nomatch e)), h.frm.but kk (ne _ _ h.ogf (by decide) (fun e => nomatch e)), hm.but k2 hgf, ?_, fun x => ?_, fun e he => ?_,
    h.ht.but kk (ne _ _ h.ogh (by decide) (fun e => nomatch e)) (ne _ _ h.ogm (by decide) (fun e => nomatch e)), h.ot, h.ort, h.ogf, h.ogp, h.ogh, h.ogm, h.ofb, hok, ?_, h.top.grow kk.size⟩ (kk.mono (fun b _ e => ?_))
  · rw [List.nodup_append]
    exact ⟨h.pnd, by simp, fun a ha b hb e => hn (by rw [← show b = (t, e0.1) by simpa using hb, ← e]; exact ha)⟩
  · show x ∈ PL ++ [(t, e0.1)] ↔ x ∈ s.pins ++ [(t, e0.1)]
    rw [List.mem_append, List.mem_append, h.pmem x]
  · obtain ⟨v, h1, h2⟩ := h.each e he
    rw [hcc]
    by_cases hk : e0.1 = e.1
    · rw [if_pos hk, ← one_key h.ok.nd he0 he hk]
      refine ⟨v0, ?_, hv0.but kk (fun j hj => ne _ _ hj (fun e => nomatch e) (fun e => tFr_byt _ e.symm))⟩
      exact (hb0.but k (fun e => hgf e.symm)).set 2 _
    · rw [if_neg hk, Nat.add_zero]
      exact ⟨v, h1.but kk (ne _ _ (h.ofb e he) (fun e => nomatch e) (fun e2 => hk (tFr_inj e2).symm)), h2.but kk (fun j hj => ne _ _ hj (fun e => nomatch e) (fun e => tFr_byt _ e.symm))⟩
  · show (s.pins ++ [(t, e0.1)]).length ≤ _
    rw [List.length_append, List.length_singleton]; omega
  · rcases e with e | e
    · rw [e, Wr, h.ogp]; exact ⟨by decide, by decide⟩
    · rw [e]; exact h.wrF he0
theorem Fm.pinSame (h : Fm w own gt gr gf gp gh gm fb PL s) {t : Int} {e0 : FrE} (he0 : e0 ∈ s.fr) (ht : i64 t) (hn : (t, e0.1) ∈ PL) (hpl : s.pins.length < 100000) : Fm w own gt gr gf gp gh gm fb PL (s.pin t e0.1) := by
  have hh : s.has e0.1 = true := St.has_iff.2 ⟨e0, he0, rfl⟩
  have e1 : s.pin t e0.1 = { s with pins := s.pins ++ [(t, e0.1)] } := by unfold St.pin; rw [if_pos hh]
  have hok := h.ok.pin (t := t) (k := e0.1) ht (h.ok.ik e0 he0).1
  rw [e1] at hok ⊢
  refine ⟨h.blk, h.res, h.frm, h.pin, h.pnd, fun x => ?_, h.each, h.ht, h.ot, h.ort, h.ogf, h.ogp, h.ogh, h.ogm, h.ofb, hok, ?_, h.top⟩
  · show x ∈ PL ↔ x ∈ s.pins ++ [(t, e0.1)]
    rw [List.mem_append, ← h.pmem x]
    exact ⟨fun hx => .inl hx, fun hx => hx.elim id (fun hx => by rw [show x = (t, e0.1) by simpa using hx]; exact hn)⟩
  · show (s.pins ++ [(t, e0.1)]).length ≤ _
    rw [List.length_append, List.length_singleton]; omega
set_option maxRecDepth 100000 in
set_option maxHeartbeats 1000000 in
theorem fpin_has (h : Ft w own gt s) {t K : Int} (ht : i64 t) (hK : i64 K) (hh : s.has K = true) (hpl : s.pins.length < 100000) : Calls Try.prog 23 #[ptr gt, .int .i64 t, .int .i64 K] w fun e w' => e = .returned (.int .i64 0) ∧ FtTo w own gt (s.pin t K) w' := by
  obtain ⟨gr, gf, gp, gh, gm, fb, PL, h⟩ := h
  have HF := Hid.mk' (find_has h hK hh)
  have HH := Hid.mk' h
  have HTT := Hid.mk' ht
  have HKK := Hid.mk' hK
  have HPL := Hid.mk' hpl
  have HHH := Hid.mk' hh
  obtain ⟨gq, hgq⟩ : ∃ gq, gq = w.heap.size := ⟨_, rfl⟩
  have HGQ := Hid.mk' hgq
  have HG0 : Hid (Grow w (w.alloc (.cells #[.int .i64 0, .int .i64 0] 96))) := (But.refl _ w).alloc _
  have HB0 : Hid (Blk (w.alloc (.cells #[.int .i64 0, .int .i64 0] 96)) gq 96 [.int .i64 0, .int .i64 0]) := Blk.new (L := [.int .i64 0, .int .i64 0]) hgq.symm
  clear h ht hK hh hpl hgq
  go_enter Try.func23, Try.ntmps23
  go_wp2_with fail
  refine Calls.mono HF.out ?_
  rintro e w' ⟨rfl, hw⟩
  have h2 := hw.symm
  subst h2
  clear hw
  go_upto_region 5 with (first
    | (refine wpList_build_run rfl _ [_, _] rfl [(0, .int .i64 t), (1, .int .i64 K)] rfl _ (bld_pin t K _) ?_)
    | (refine wpList_store_at rfl _ _ _ rfl gq 0 [.int .i64 t, .int .i64 K] (by rw [HGQ.out]; rfl) rfl 96 [] [.int .i64 0, .int .i64 0] [] (by simpa using HB0.out) rfl rfl iPin (by intro v hv; rcases List.mem_cons.1 hv with rfl | hv; rfl; rcases List.mem_cons.1 hv with rfl | hv; rfl; cases hv) ?_; intro w1 hb1 hbut1; rw [List.nil_append, List.append_nil] at hb1)
    | fail)
  rw [← HGQ.out]
  have HG1 : Hid (Grow w w1) := HG0.out.then hbut1 (fun i hi e => by have := HGQ.out; omega)
  have HB1 := Hid.mk' hb1
  clear hb1 hbut1 HG0 HB0 HF
  obtain ⟨q, hq⟩ : ∃ q, q = decide ((t, K) ∈ PL) := ⟨_, rfl⟩
  have HQ := Hid.mk' hq
  have HLK : Hid (∀ w2, Grow w w2 → (Instr.lookup 83 (.map (some gp)) (pinV (t, K)) true).run Try.prog w2 = .ok (.tuple #[unitV, .bool q]) w2) := fun w2 k => by rw [hq]; exact (HH.out.grow k).pinLook (p := (t, K)) HTT.out HKK.out
  clear hq
  refine region_chain [([0, 1, 2, 3, 4, 5, 6, 7, 8], 9), ([], 10)] [11] (Grow w1) (Grow w1) (by kernel_rfl) (by kernel_rfl) (fun _ _ h k => h.trans k) (fun _ h => h) ((But.refl _ w1).drew) ?_
  intro ι hne X hX
  have d4 : ∀ x, (X x).cell? ⟨gt, 4, none⟩ = some (.map (some gp)) := fun x => ((HH.out.grow (HG1.out.trans (hX x))).blk).cell 4
  iterate 4 (refine still_step rfl (fun K hK => ?_); go_simp; refine hK _ ?_; clear hK K)
  refine still_val rfl (.agg #[.int .i64 t, .int .i64 K]) rfl (fun z => exec_ldF (cs := [.int .i64 t, .int .i64 K]) Try.underlying96 rfl iPin (HB1.out.but (hX z) (fun h => h)).cells0 rfl rfl) ?_
  intro K hK; go_simp; refine hK _ ?_; clear hK K
  refine still_val rfl (.tuple #[unitV, .bool q]) rfl (fun z => exec_lookup rfl rfl rfl (HLK.out _ (HG1.out.trans (hX z)))) ?_
  intro K hK; go_simp; refine hK _ ?_; clear hK K
  iterate 3 (refine still_step rfl (fun K hK => ?_); go_simp; refine hK _ ?_; clear hK K)
  refine still_nil ?_
  clear d4 hX hne X ι
  refine turn_run rfl rfl (fun v w' => Grow w1 w' ∧ ∃ g, v = ptr g) (fun _ w' => Grow w1 w') (fun _ _ _ h k => ⟨h.1.trans k, h.2⟩) (fun _ _ h => h.1) (.inr (fun _ _ h => h)) ?_ ?_
  · intro w4 h4
    exact ⟨_, _, .inl (exec_allocF rfl (zUnit w4)), h4.trans ((But.refl _ w4).alloc _), _, rfl⟩
  rintro v5 ⟨w5, -, g5, rfl⟩ Y hY
  go_simp
  refine hY _ ?_
  clear hY Y w5
  intro ι hne X hX
  refine still_nil ?_
  clear hX hne X ι
  refine turn_run rfl rfl (fun _ w' => Grow w1 w') (fun _ w' => Grow w1 w') (fun _ _ _ h k => h.trans k) (fun _ _ h => h) (.inr (fun _ _ h => h)) ?_ ?_
  · rintro w4 ⟨h4, -⟩
    exact ⟨undef, w4, .inr ⟨exec_store0 iUnit rfl rfl rfl, rfl⟩, h4⟩
  rintro v5 - Y hY
  go_simp
  refine hY _ ?_
  clear hY Y
  intro ι hne X hX
  iterate 1 (refine still_step rfl (fun K hK => ?_); go_simp; refine hK _ ?_; clear hK K)
  refine still_nil ?_
  clear hX hne
  intro w2 hw2
  have HG2 := Hid.mk' (HG1.out.trans hw2)
  have HB2 := Hid.mk' (HB1.out.but hw2 (fun h => h))
  clear hw2 HG1 HB1 HLK
  obtain ⟨e0, he0, hek⟩ := St.has_iff.1 HHH.out
  have HE0 := Hid.mk' he0
  have HEK := Hid.mk' hek
  clear he0 hek
  cases hq2 : q
  case true =>
    have hin : (t, K) ∈ PL := by
      have := HQ.out
      rw [hq2] at this
      exact of_decide_eq_true this.symm
    have HFIN : Hid (FtTo w own gt (s.pin t K) w2) := by
      have h1 := HEK.out
      have h3 := HH.out.pinSame HE0.out HTT.out (by rw [h1]; exact hin) HPL.out
      rw [h1] at h3
      exact Ft.same ⟨_, _, _, _, _, _, _, h3⟩ HG2.out
    clear hin hq2 HQ
    go_wp2
    go_ret
    exact ⟨rfl, HFIN.out⟩
  case false =>
    have hin : (t, K) ∉ PL := by
      have := HQ.out
      rw [hq2] at this
      exact of_decide_eq_false this.symm
    have HP2 : Hid (∀ w3, Grow w w3 → ∃ w4, (Instr.mapUpdate 83 (.map (some gp)) (pinV (t, K)) unitV).run Try.prog w3 = .ok () w4 ∧ ∀ w5, Grow w4 w5 → (∃ v m, Blk w5 (fb K) 89 (fcl v m (cnt PL K))) ∧ FtTo w own gt (s.pin t K) (w5.setCell ⟨fb K, 2, none⟩ (.int .i64 ((cnt PL K + 1 : Nat) : Int)))) := fun w3 k3 => by
      have h1 := HEK.out
      have h3 := HH.out.grow k3
      obtain ⟨l, hl⟩ := keyOfPin (p := (t, K)) HTT.out HKK.out
      obtain ⟨w4, hr, hm, hb, -⟩ := h3.pin.put (t := 83) (et := 97) keyPin Try.underlying83 (t, K) hl (fun y hy e => hin (by rw [← pinV_inj e]; exact hy))
      refine ⟨w4, hr, fun w5 k5 => ?_⟩
      have kb : But (· = gp) w3 w5 := hb.trans (k5.mono (fun _ _ h => h.elim))
      obtain ⟨v0, hb0, -⟩ := h3.each e0 HE0.out
      have hgf : ¬ (fb e0.1 = gp) := fun e => h3.fbne HE0.out h3.ogp (fun e => nomatch e) e.symm
      refine ⟨⟨v0, e0.2.2, ?_⟩, ?_⟩
      · have := hb0.but kb hgf
        rw [h1] at this
        exact this
      · have h4 := h3.pinUp HE0.out HTT.out (by rw [h1]; exact hin) HPL.out kb (by rw [h1]; exact hm.grow k5)
        rw [h1] at h4
        exact FtTo.then (Ext.refl _) (Fresh.refl _ _) (k3.mono (fun _ _ h => h.elim)) h4
    have hcl := HH.out.cl K
    generalize cnt PL K = c at *
    generalize fb K = g at *
    clear hin hq2 HQ
    go_upto_region 7 with fail
    refine region_chain [([0, 1, 2, 3, 4, 5], 6)] [] (Grow w2) (Grow w2) (by kernel_rfl) (by kernel_rfl) (fun _ _ h k => h.trans k) (fun _ h => h) ((But.refl _ w2).drew) ?_
    intro ι hne X hX
    have d4 : ∀ x, (X x).cell? ⟨gt, 4, none⟩ = some (.map (some gp)) := fun x => ((HH.out.grow (HG2.out.trans (hX x))).blk).cell 4
    iterate 4 (refine still_step rfl (fun K hK => ?_); go_simp; refine hK _ ?_; clear hK K)
    refine still_val rfl (.agg #[.int .i64 t, .int .i64 K]) rfl (fun z => exec_ldF (cs := [.int .i64 t, .int .i64 K]) Try.underlying96 rfl iPin (HB2.out.but (hX z) (fun h => h)).cells0 rfl rfl) ?_
    intro K hK; go_simp; refine hK _ ?_; clear hK K
    refine still_val rfl unitV rfl (fun z => exec_build _ [] rfl [] rfl _ (bld_unit _)) ?_
    intro K hK; go_simp; refine hK _ ?_; clear hK K
    refine still_nil ?_
    clear d4 hX hne X ι
    refine turn_run rfl rfl (fun _ w' => ∀ w5, Grow w' w5 → (∃ v m, Blk w5 g 89 (fcl v m c)) ∧ FtTo w own gt (s.pin t K) (w5.setCell ⟨g, 2, none⟩ (.int .i64 ((c + 1 : Nat) : Int)))) (fun _ _ => True) (fun _ _ _ h k w5 k5 => h w5 (k.trans k5)) (fun _ _ _ => trivial) (.inl (by kernel_rfl)) ?_ ?_
    · intro w4 h4
      obtain ⟨w5, hr, hk⟩ := HP2.out w4 (HG2.out.trans h4)
      exact turn_put rfl rfl rfl rfl hr hk
    rintro v5 - Y hY
    go_simp
    refine hY _ ?_
    clear hY Y
    intro ι hne X hX
    refine still_nil ?_
    clear hX hne
    intro w6 hw6
    obtain ⟨⟨v, m, hb6⟩, hf6⟩ := hw6 w6 (But.refl _ _)
    have HFIN := Hid.mk' hf6
    have c2 : w6.cell? ⟨g, 2, none⟩ = some (.int .i64 (c : Int)) := hb6.cell 2
    have f2 : w6.frozen? ⟨g, 2, none⟩ = false := hb6.free 2
    have hw1 : IntKind.i64.wrap ((c : Int) + 1) = ((c + 1 : Nat) : Int) := by have := wrapN (c + 1) (by omega); push_cast at this ⊢; exact this
    have e1 : (c : Int) + 1 = ((c + 1 : Nat) : Int) := by push_cast; rfl
    have e2 : ((c + 1 : Nat) : Int) ≤ 1000000 := by omega
    generalize c + 1 = c1 at *
    clear hw6 hf6 hb6 HP2 hcl
    go_wp2
    go_ret
    exact ⟨rfl, HFIN.out⟩
end
end Go.Proofs.Ytmlklmhochihbaa
