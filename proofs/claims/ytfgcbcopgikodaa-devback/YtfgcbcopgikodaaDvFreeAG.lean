/- Free: Flush, Spend, Poke, Copy, Back. -/
import Derived.Test.YtfgcbcopgikodaaDvFreeG
namespace Go.Proofs.Ytfgcbcopgikodaa
open Go.RowKit

set_option maxRecDepth 100000 in
set_option maxHeartbeats 4000000 in
theorem fo_2 {F : Nat → Prop} {w0 w : World} {gd gx n : Nat} {s0 : Dev} {A : DA} {ud uf : Value} (h : DoIn2 F w0 w gd gx s0 n A ud uf) (hk : A.kind % 11 = 2) :
    Calls Try.prog 11 #[.agg #[.pointer (some ⟨gd, 0, none⟩), .pointer (some ⟨gx, 0, none⟩)], .agg (dcells A ud uf).toArray] w (DoIs2 F w0 gd gx s0 (n + 1)) := by
  have HIN := Hid.mk' h
  obtain ⟨wa, hwa⟩ : ∃ wa, wa = w.alloc (.cells #[.pointer (some ⟨gd, 0, none⟩), .pointer (some ⟨gx, 0, none⟩)] 28) := ⟨_, rfl⟩
  obtain ⟨wb, hwb⟩ : ∃ wb, wb = wa.alloc (.cells (dcells A ud uf).toArray 35) := ⟨_, rfl⟩
  obtain ⟨gp, hgp⟩ : ∃ gp, gp = w.heap.size := ⟨_, rfl⟩
  obtain ⟨ga, hga⟩ : ∃ ga, ga = wa.heap.size := ⟨_, rfl⟩
  obtain ⟨s, g, x, ha, hwk, hb, hbg, hok, hd, hfin⟩ := h.box2 hwa hwb hgp hga
  have HWK := Hid.mk' hwk
  have HBG := Hid.mk' hbg
  generalize FB F w wb = G at hd hfin
  have HA := Hid.mk' ha
  have HB := Hid.mk' hb
  have HOK := Hid.mk' hok
  have HD := Hid.mk' hd
  have HFIN := Hid.mk' hfin
  have HWA := Hid.mk' hwa
  have HWB := Hid.mk' hwb
  have HGP := Hid.mk' hgp
  have HGA : Hid (ga = w.heap.size + 1) := by show _ = _; rw [hga, hwa]; simp
  have HLE : Hid (n ≤ 1000) := Nat.le_trans h.le (by decide)
  have HPK := Hid.mk' (pick11 A.kind wb)
  rw [hk] at HPK
  have a0 : wb.cell? ⟨ga, 0, none⟩ = some (.int .i64 A.kind) := hd.a 0
  have a1 : wb.cell? ⟨ga, 1, none⟩ = some (.int .i64 A.a) := hd.a 1
  have a2 : wb.cell? ⟨ga, 2, none⟩ = some (.int .i64 A.b) := hd.a 2
  have a3 : wb.cell? ⟨ga, 3, none⟩ = some ud := hd.a 3
  have a4 : wb.cell? ⟨ga, 4, none⟩ = some uf := hd.a 4
  have p0 : wb.cell? ⟨gp, 0, none⟩ = some (.pointer (some ⟨gd, 0, none⟩)) := hd.p 0
  have p1 : wb.cell? ⟨gp, 1, none⟩ = some (.pointer (some ⟨gx, 0, none⟩)) := hd.p 1
  unfold dcells at HWB ⊢
  clear h ha hwk hb hbg hok hd hfin hwa hwb hgp hga hk
  go_enter Try.func11, Try.ntmps11
  go_upto_region 1 with fail
  rw [← HWA.out, ← HWB.out, ← HGA.out, ← HGP.out]
  go_wp2_with fail
  refine Calls.mono HPK.out ?_
  rintro e w1 ⟨rfl, hw1⟩
  have h2 := hw1.symm
  subst h2
  clear hw1 HPK HIN HWA HWB HGA HGP
  obtain ⟨c, hc⟩ : ∃ c, c = s.fcode := ⟨_, rfl⟩
  have EQ := Hid.mk' hc
  clear hc
  obtain ⟨c2, hc⟩ : ∃ c, c = g.fcode := ⟨_, rfl⟩
  have EQ2 := Hid.mk' hc
  clear hc
  clear a0 a1 a2 a3 a4 p0 p1
  go_upto_region 25 with fail
  refine region_chain [([0, 1, 3, 4], 2), ([], 5)] [6, 7] (But (fun b => ¬ G b) wb) (Grow wb) (by kernel_rfl) (by kernel_rfl) (fun _ _ h k => h.trans k) (fun _ h => h.mono (fun _ _ h => h.elim)) ((But.refl _ wb).drew) ?_
  intro ι hne X hX
  have p0 : ∀ x, (X x).cell? ⟨gp, 0, none⟩ = some (.pointer (some ⟨gd, 0, none⟩)) := fun x => HD.out.pS (hX x) 0
  have p1 : ∀ x, (X x).cell? ⟨gp, 1, none⟩ = some (.pointer (some ⟨gx, 0, none⟩)) := fun x => HD.out.pS (hX x) 1
  iterate 4 (refine still_step rfl (fun K hK => ?_); go_simp; refine hK _ ?_; clear hK K)
  refine still_nil ?_
  clear hX hne p0 p1
  refine turn_call rfl rfl (fun v w' => v = .int .i64 c ∧ Tf G wb w' gd gx s.flu x) (fun _ => But (fun b => ¬ G b) wb) (fun _ _ _ h k => ⟨h.1, h.2.then k⟩) (fun _ _ h => h.2.but) (.inr (fun _ _ h => h)) 17 #[.pointer (some ⟨gd, 0, none⟩)] (fun _ => by kernel_rfl) ?_ ?_
  · intro w1 hw1
    have ht1 := HD.out.tf.then hw1
    refine Calls.mono (dflush_all ht1 HB.out HLE.out) ?_
    rintro e w2 ⟨rfl, h2⟩
    exact ⟨_, rfl, by rw [EQ.out], h2⟩
  rintro v ⟨wq, rfl, -⟩ Y hY
  clear wq
  go_simp
  refine hY _ ?_
  clear hY Y
  intro ι hne X hX
  refine still_nil ?_
  clear hX hne
  refine turn_call rfl rfl (fun v w' => v = .int .i64 c2 ∧ ∃ x', Tf G wb w' gd gx s.flu x' ∧ Agr g.flu x' ∧ x'.arm ≤ 9223372036854775807) (fun _ => But (fun b => ¬ G b) wb) (fun _ _ _ h k => ⟨h.1, h.2.imp (fun _ h => ⟨h.1.then k, h.2⟩)⟩) (fun _ _ ⟨_, _, h, _⟩ => h.but) (.inr (fun _ _ h => h)) 33 #[.pointer (some ⟨gx, 0, none⟩)] (fun _ => by kernel_rfl) ?_ ?_
  · rintro w1 ⟨-, ht1⟩
    refine Calls.mono (rflush_all ht1 HA.out HOK.out HBG.out HLE.out) ?_
    rintro e w2 ⟨rfl, h2⟩
    exact ⟨_, rfl, by rw [EQ2.out], h2⟩
  rintro v ⟨wq, rfl, -⟩ Y hY
  clear wq
  go_simp
  refine hY _ ?_
  clear hY Y
  intro ι hne X hX
  iterate 2 (refine still_step rfl (fun K hK => ?_); go_simp; refine hK _ ?_; clear hK K)
  refine still_nil ?_
  clear hX hne
  rintro w2 ⟨-, x', ht2, ha2, hx2⟩
  have HE := Hid.mk' (HFIN.out _ _ _ _ ht2 ha2 (wok_flu HWK.out) (keeps_flu HB.out hx2) (keeps_flu HBG.out hx2).1)
  clear ht2 ha2 hx2
  go_wp2
  go_ret
  exact ⟨_, rfl, HE.out⟩
set_option maxRecDepth 100000 in
set_option maxHeartbeats 4000000 in
theorem fo_3 {F : Nat → Prop} {w0 w : World} {gd gx n : Nat} {s0 : Dev} {A : DA} {ud uf : Value} (h : DoIn2 F w0 w gd gx s0 n A ud uf) (hk : A.kind % 11 = 3) :
    Calls Try.prog 11 #[.agg #[.pointer (some ⟨gd, 0, none⟩), .pointer (some ⟨gx, 0, none⟩)], .agg (dcells A ud uf).toArray] w (DoIs2 F w0 gd gx s0 (n + 1)) := by
  have HIN := Hid.mk' h
  obtain ⟨wa, hwa⟩ : ∃ wa, wa = w.alloc (.cells #[.pointer (some ⟨gd, 0, none⟩), .pointer (some ⟨gx, 0, none⟩)] 28) := ⟨_, rfl⟩
  obtain ⟨wb, hwb⟩ : ∃ wb, wb = wa.alloc (.cells (dcells A ud uf).toArray 35) := ⟨_, rfl⟩
  obtain ⟨gp, hgp⟩ : ∃ gp, gp = w.heap.size := ⟨_, rfl⟩
  obtain ⟨ga, hga⟩ : ∃ ga, ga = wa.heap.size := ⟨_, rfl⟩
  obtain ⟨s, g, x, ha, hwk, hb, hbg, hok, hd, hfin⟩ := h.box2 hwa hwb hgp hga
  have HWK := Hid.mk' hwk
  have HBG := Hid.mk' hbg
  generalize FB F w wb = G at hd hfin
  have HA := Hid.mk' ha
  have HB := Hid.mk' hb
  have HOK := Hid.mk' hok
  have HD := Hid.mk' hd
  have HFIN := Hid.mk' hfin
  have HWA := Hid.mk' hwa
  have HWB := Hid.mk' hwb
  have HGP := Hid.mk' hgp
  have HGA : Hid (ga = w.heap.size + 1) := by show _ = _; rw [hga, hwa]; simp
  have HLE : Hid (n ≤ 1000) := Nat.le_trans h.le (by decide)
  have HPK := Hid.mk' (pick11 A.kind wb)
  rw [hk] at HPK
  have a0 : wb.cell? ⟨ga, 0, none⟩ = some (.int .i64 A.kind) := hd.a 0
  have a1 : wb.cell? ⟨ga, 1, none⟩ = some (.int .i64 A.a) := hd.a 1
  have a2 : wb.cell? ⟨ga, 2, none⟩ = some (.int .i64 A.b) := hd.a 2
  have a3 : wb.cell? ⟨ga, 3, none⟩ = some ud := hd.a 3
  have a4 : wb.cell? ⟨ga, 4, none⟩ = some uf := hd.a 4
  have p0 : wb.cell? ⟨gp, 0, none⟩ = some (.pointer (some ⟨gd, 0, none⟩)) := hd.p 0
  have p1 : wb.cell? ⟨gp, 1, none⟩ = some (.pointer (some ⟨gx, 0, none⟩)) := hd.p 1
  unfold dcells at HWB ⊢
  clear h ha hwk hb hbg hok hd hfin hwa hwb hgp hga hk
  go_enter Try.func11, Try.ntmps11
  go_upto_region 1 with fail
  rw [← HWA.out, ← HWB.out, ← HGA.out, ← HGP.out]
  go_wp2_with fail
  refine Calls.mono HPK.out ?_
  rintro e w1 ⟨rfl, hw1⟩
  have h2 := hw1.symm
  subst h2
  clear hw1 HPK HIN HWA HWB HGA HGP
  obtain ⟨r, hr⟩ : ∃ r, r = (s.up && !(s.arm == 1)) := ⟨_, rfl⟩
  have EQ := Hid.mk' hr
  clear hr
  obtain ⟨r2, hr⟩ : ∃ r, r = (g.up && !(g.arm == 1)) := ⟨_, rfl⟩
  have EQ2 := Hid.mk' hr
  clear hr
  clear a0 a1 a2 a3 a4 p0 p1
  go_upto_region 27 with fail
  refine region_chain [([0, 1, 3, 4], 2), ([], 5)] [6, 7] (But (fun b => ¬ G b) wb) (Grow wb) (by kernel_rfl) (by kernel_rfl) (fun _ _ h k => h.trans k) (fun _ h => h.mono (fun _ _ h => h.elim)) ((But.refl _ wb).drew) ?_
  intro ι hne X hX
  have p0 : ∀ x, (X x).cell? ⟨gp, 0, none⟩ = some (.pointer (some ⟨gd, 0, none⟩)) := fun x => HD.out.pS (hX x) 0
  have p1 : ∀ x, (X x).cell? ⟨gp, 1, none⟩ = some (.pointer (some ⟨gx, 0, none⟩)) := fun x => HD.out.pS (hX x) 1
  iterate 4 (refine still_step rfl (fun K hK => ?_); go_simp; refine hK _ ?_; clear hK K)
  refine still_nil ?_
  clear hX hne p0 p1
  refine turn_call rfl rfl (fun v w' => v = .bool r ∧ Tf G wb w' gd gx s.spent x) (fun _ => But (fun b => ¬ G b) wb) (fun _ _ _ h k => ⟨h.1, h.2.then k⟩) (fun _ _ h => h.2.but) (.inr (fun _ _ h => h)) 34 #[.pointer (some ⟨gd, 0, none⟩)] (fun _ => by kernel_rfl) ?_ ?_
  · intro w1 hw1
    have ht1 := HD.out.tf.then hw1
    refine Calls.mono (dspend_all ht1 HB.out HLE.out) ?_
    rintro e w2 ⟨rfl, h2⟩
    exact ⟨_, rfl, by rw [EQ.out], h2⟩
  rintro v ⟨wq, rfl, -⟩ Y hY
  clear wq
  go_simp
  refine hY _ ?_
  clear hY Y
  intro ι hne X hX
  refine still_nil ?_
  clear hX hne
  refine turn_call rfl rfl (fun v w' => v = .bool r2 ∧ ∃ x', Tf G wb w' gd gx s.spent x' ∧ Agr g.spent x' ∧ x'.arm ≤ 9223372036854775807) (fun _ => But (fun b => ¬ G b) wb) (fun _ _ _ h k => ⟨h.1, h.2.imp (fun _ h => ⟨h.1.then k, h.2⟩)⟩) (fun _ _ ⟨_, _, h, _⟩ => h.but) (.inr (fun _ _ h => h)) 35 #[.pointer (some ⟨gx, 0, none⟩)] (fun _ => by kernel_rfl) ?_ ?_
  · rintro w1 ⟨-, ht1⟩
    refine Calls.mono (rspend_all ht1 HA.out HBG.out HLE.out) ?_
    rintro e w2 ⟨rfl, h2⟩
    exact ⟨_, rfl, by rw [EQ2.out], h2⟩
  rintro v ⟨wq, rfl, -⟩ Y hY
  clear wq
  go_simp
  refine hY _ ?_
  clear hY Y
  intro ι hne X hX
  iterate 2 (refine still_step rfl (fun K hK => ?_); go_simp; refine hK _ ?_; clear hK K)
  refine still_nil ?_
  clear hX hne
  rintro w2 ⟨-, x', ht2, ha2, hx2⟩
  have HE := Hid.mk' (HFIN.out _ _ _ _ ht2 ha2 (wok_spent HWK.out) (keeps_spent HB.out hx2) (keeps_spent HBG.out hx2).1)
  clear ht2 ha2 hx2
  go_wp2
  go_ret
  exact ⟨_, rfl, HE.out⟩
set_option maxRecDepth 100000 in
set_option maxHeartbeats 4000000 in
theorem fo_7 {F : Nat → Prop} {w0 w : World} {gd gx n : Nat} {s0 : Dev} {A : DA} {ud uf : Value} (h : DoIn2 F w0 w gd gx s0 n A ud uf) (hk : A.kind % 11 = 7) :
    Calls Try.prog 11 #[.agg #[.pointer (some ⟨gd, 0, none⟩), .pointer (some ⟨gx, 0, none⟩)], .agg (dcells A ud uf).toArray] w (DoIs2 F w0 gd gx s0 (n + 1)) := by
  have HIN := Hid.mk' h
  have HRB := Hid.mk' h.rb.2
  obtain ⟨wa, hwa⟩ : ∃ wa, wa = w.alloc (.cells #[.pointer (some ⟨gd, 0, none⟩), .pointer (some ⟨gx, 0, none⟩)] 28) := ⟨_, rfl⟩
  obtain ⟨wb, hwb⟩ : ∃ wb, wb = wa.alloc (.cells (dcells A ud uf).toArray 35) := ⟨_, rfl⟩
  obtain ⟨gp, hgp⟩ : ∃ gp, gp = w.heap.size := ⟨_, rfl⟩
  obtain ⟨ga, hga⟩ : ∃ ga, ga = wa.heap.size := ⟨_, rfl⟩
  obtain ⟨s, g, x, ha, hwk, hb, hbg, hok, hd, hfin⟩ := h.box2 hwa hwb hgp hga
  have HWK := Hid.mk' hwk
  have HBG := Hid.mk' hbg
  generalize FB F w wb = G at hd hfin
  have HA := Hid.mk' ha
  have HB := Hid.mk' hb
  have HOK := Hid.mk' hok
  have HD := Hid.mk' hd
  have HFIN := Hid.mk' hfin
  have HWA := Hid.mk' hwa
  have HWB := Hid.mk' hwb
  have HGP := Hid.mk' hgp
  have HGA : Hid (ga = w.heap.size + 1) := by show _ = _; rw [hga, hwa]; simp
  have HLE : Hid (n ≤ 1000) := Nat.le_trans h.le (by decide)
  have HPK := Hid.mk' (pick11 A.kind wb)
  rw [hk] at HPK
  have a0 : wb.cell? ⟨ga, 0, none⟩ = some (.int .i64 A.kind) := hd.a 0
  have a1 : wb.cell? ⟨ga, 1, none⟩ = some (.int .i64 A.a) := hd.a 1
  have a2 : wb.cell? ⟨ga, 2, none⟩ = some (.int .i64 A.b) := hd.a 2
  have a3 : wb.cell? ⟨ga, 3, none⟩ = some ud := hd.a 3
  have a4 : wb.cell? ⟨ga, 4, none⟩ = some uf := hd.a 4
  have p0 : wb.cell? ⟨gp, 0, none⟩ = some (.pointer (some ⟨gd, 0, none⟩)) := hd.p 0
  have p1 : wb.cell? ⟨gp, 1, none⟩ = some (.pointer (some ⟨gx, 0, none⟩)) := hd.p 1
  unfold dcells at HWB ⊢
  clear h ha hwk hb hbg hok hd hfin hwa hwb hgp hga hk
  go_enter Try.func11, Try.ntmps11
  go_upto_region 1 with fail
  rw [← HWA.out, ← HWB.out, ← HGA.out, ← HGP.out]
  go_wp2_with fail
  refine Calls.mono HPK.out ?_
  rintro e w1 ⟨rfl, hw1⟩
  have h2 := hw1.symm
  subst h2
  clear hw1 HPK HIN HWA HWB HGA HGP
  obtain ⟨c, hc⟩ : ∃ c, c = s.pcode A.a A.b A.dat := ⟨_, rfl⟩
  have EQ := Hid.mk' hc
  clear hc
  obtain ⟨c2, hc⟩ : ∃ c, c = g.pcode A.a A.b A.dat := ⟨_, rfl⟩
  have EQ2 := Hid.mk' hc
  clear hc
  clear a0 a1 a2 a3 a4 p0 p1
  go_upto_region 38 with fail
  refine region_chain [([0, 1, 2, 3, 4, 5, 6, 7, 9, 10, 11, 12, 13, 14, 15, 16], 8), ([], 17)] [18, 19] (But (fun b => ¬ G b) wb) (Grow wb) (by kernel_rfl) (by kernel_rfl) (fun _ _ h k => h.trans k) (fun _ h => h.mono (fun _ _ h => h.elim)) ((But.refl _ wb).drew) ?_
  intro ι hne X hX
  have p0 : ∀ x, (X x).cell? ⟨gp, 0, none⟩ = some (.pointer (some ⟨gd, 0, none⟩)) := fun x => HD.out.pS (hX x) 0
  have p1 : ∀ x, (X x).cell? ⟨gp, 1, none⟩ = some (.pointer (some ⟨gx, 0, none⟩)) := fun x => HD.out.pS (hX x) 1
  have a1 : ∀ x, (X x).cell? ⟨ga, 1, none⟩ = some (.int .i64 A.a) := fun x => HD.out.aS (hX x) 1
  have a2 : ∀ x, (X x).cell? ⟨ga, 2, none⟩ = some (.int .i64 A.b) := fun x => HD.out.aS (hX x) 2
  have a3 : ∀ x, (X x).cell? ⟨ga, 3, none⟩ = some (ud) := fun x => HD.out.aS (hX x) 3
  iterate 16 (refine still_step rfl (fun K hK => ?_); go_simp; refine hK _ ?_; clear hK K)
  refine still_nil ?_
  clear hX hne p0 p1 a1 a2 a3
  refine turn_call rfl rfl (fun v w' => v = .int .i64 c ∧ Tf G wb w' gd gx (s.poked A.a A.b A.dat) x) (fun _ => But (fun b => ¬ G b) wb) (fun _ _ _ h k => ⟨h.1, h.2.then k⟩) (fun _ _ h => h.2.but) (.inr (fun _ _ h => h)) 39 #[.pointer (some ⟨gd, 0, none⟩), .int .i64 A.a, .int .i64 A.b, ud] (fun _ => by kernel_rfl) ?_ ?_
  · intro w1 hw1
    have ht1 := HD.out.tf.then hw1
    refine Calls.mono (dpoke_all ht1 A.a A.b HRB.out (HD.out.on ht1).dat.1) ?_
    rintro e w2 ⟨rfl, h2⟩
    exact ⟨_, rfl, by rw [EQ.out], h2⟩
  rintro v ⟨wq, rfl, -⟩ Y hY
  clear wq
  go_simp
  refine hY _ ?_
  clear hY Y
  intro ι hne X hX
  refine still_nil ?_
  clear hX hne
  refine turn_call rfl rfl (fun v w' => v = .int .i64 c2 ∧ ∃ x', Tf G wb w' gd gx (s.poked A.a A.b A.dat) x' ∧ Agr (g.poked A.a A.b A.dat) x' ∧ x'.arm ≤ 9223372036854775807) (fun _ => But (fun b => ¬ G b) wb) (fun _ _ _ h k => ⟨h.1, h.2.imp (fun _ h => ⟨h.1.then k, h.2⟩)⟩) (fun _ _ ⟨_, _, h, _⟩ => h.but) (.inr (fun _ _ h => h)) 40 #[.pointer (some ⟨gx, 0, none⟩), .int .i64 A.a, .int .i64 A.b, ud] (fun _ => by kernel_rfl) ?_ ?_
  · rintro w1 ⟨-, ht1⟩
    refine Calls.mono (rpoke_all ht1 HA.out HOK.out A.a A.b HRB.out (HD.out.on ht1).dat.1 HBG.out HLE.out) ?_
    rintro e w2 ⟨rfl, h2⟩
    exact ⟨_, rfl, by rw [EQ2.out], h2⟩
  rintro v ⟨wq, rfl, -⟩ Y hY
  clear wq
  go_simp
  refine hY _ ?_
  clear hY Y
  intro ι hne X hX
  iterate 2 (refine still_step rfl (fun K hK => ?_); go_simp; refine hK _ ?_; clear hK K)
  refine still_nil ?_
  clear hX hne
  rintro w2 ⟨-, x', ht2, ha2, hx2⟩
  have HE := Hid.mk' (HFIN.out _ _ _ _ ht2 ha2 (wok_poked HWK.out A.a A.b A.dat) (keeps_poked HB.out hx2 A.a A.b A.dat) (keeps_poked HBG.out hx2 A.a A.b A.dat).1)
  clear ht2 ha2 hx2
  go_wp2
  go_ret
  exact ⟨_, rfl, HE.out⟩
set_option maxRecDepth 100000 in
set_option maxHeartbeats 4000000 in
theorem fo_8 {F : Nat → Prop} {w0 w : World} {gd gx n : Nat} {s0 : Dev} {A : DA} {ud uf : Value} (h : DoIn2 F w0 w gd gx s0 n A ud uf) (hk : A.kind % 11 = 8) :
    Calls Try.prog 11 #[.agg #[.pointer (some ⟨gd, 0, none⟩), .pointer (some ⟨gx, 0, none⟩)], .agg (dcells A ud uf).toArray] w (DoIs2 F w0 gd gx s0 (n + 1)) := by
  have HIN := Hid.mk' h
  obtain ⟨wa, hwa⟩ : ∃ wa, wa = w.alloc (.cells #[.pointer (some ⟨gd, 0, none⟩), .pointer (some ⟨gx, 0, none⟩)] 28) := ⟨_, rfl⟩
  obtain ⟨wb, hwb⟩ : ∃ wb, wb = wa.alloc (.cells (dcells A ud uf).toArray 35) := ⟨_, rfl⟩
  obtain ⟨gp, hgp⟩ : ∃ gp, gp = w.heap.size := ⟨_, rfl⟩
  obtain ⟨ga, hga⟩ : ∃ ga, ga = wa.heap.size := ⟨_, rfl⟩
  obtain ⟨s, g, x, ha, hwk, hb, hbg, hok, hd, hfin⟩ := h.box2 hwa hwb hgp hga
  have HWK := Hid.mk' hwk
  have HBG := Hid.mk' hbg
  generalize FB F w wb = G at hd hfin
  have HA := Hid.mk' ha
  have HB := Hid.mk' hb
  have HOK := Hid.mk' hok
  have HD := Hid.mk' hd
  have HFIN := Hid.mk' hfin
  have HWA := Hid.mk' hwa
  have HWB := Hid.mk' hwb
  have HGP := Hid.mk' hgp
  have HGA : Hid (ga = w.heap.size + 1) := by show _ = _; rw [hga, hwa]; simp
  have HLE : Hid (n ≤ 1000) := Nat.le_trans h.le (by decide)
  have HPK := Hid.mk' (pick11 A.kind wb)
  rw [hk] at HPK
  have a0 : wb.cell? ⟨ga, 0, none⟩ = some (.int .i64 A.kind) := hd.a 0
  have a1 : wb.cell? ⟨ga, 1, none⟩ = some (.int .i64 A.a) := hd.a 1
  have a2 : wb.cell? ⟨ga, 2, none⟩ = some (.int .i64 A.b) := hd.a 2
  have a3 : wb.cell? ⟨ga, 3, none⟩ = some ud := hd.a 3
  have a4 : wb.cell? ⟨ga, 4, none⟩ = some uf := hd.a 4
  have p0 : wb.cell? ⟨gp, 0, none⟩ = some (.pointer (some ⟨gd, 0, none⟩)) := hd.p 0
  have p1 : wb.cell? ⟨gp, 1, none⟩ = some (.pointer (some ⟨gx, 0, none⟩)) := hd.p 1
  unfold dcells at HWB ⊢
  clear h ha hwk hb hbg hok hd hfin hwa hwb hgp hga hk
  go_enter Try.func11, Try.ntmps11
  go_upto_region 1 with fail
  rw [← HWA.out, ← HWB.out, ← HGA.out, ← HGP.out]
  go_wp2_with fail
  refine Calls.mono HPK.out ?_
  rintro e w1 ⟨rfl, hw1⟩
  have h2 := hw1.symm
  subst h2
  clear hw1 HPK HIN HWA HWB HGA HGP
  obtain ⟨c, hc⟩ : ∃ c, c = s.ccode A.a A.b := ⟨_, rfl⟩
  have EQ := Hid.mk' hc
  clear hc
  obtain ⟨c2, hc⟩ : ∃ c, c = g.ccode A.a A.b := ⟨_, rfl⟩
  have EQ2 := Hid.mk' hc
  clear hc
  clear a0 a1 a2 a3 a4 p0 p1
  go_upto_region 40 with fail
  refine region_chain [([0, 1, 2, 3, 4, 5, 7, 8, 9, 10, 11, 12], 6), ([], 13)] [14, 15] (But (fun b => ¬ G b) wb) (Grow wb) (by kernel_rfl) (by kernel_rfl) (fun _ _ h k => h.trans k) (fun _ h => h.mono (fun _ _ h => h.elim)) ((But.refl _ wb).drew) ?_
  intro ι hne X hX
  have p0 : ∀ x, (X x).cell? ⟨gp, 0, none⟩ = some (.pointer (some ⟨gd, 0, none⟩)) := fun x => HD.out.pS (hX x) 0
  have p1 : ∀ x, (X x).cell? ⟨gp, 1, none⟩ = some (.pointer (some ⟨gx, 0, none⟩)) := fun x => HD.out.pS (hX x) 1
  have a1 : ∀ x, (X x).cell? ⟨ga, 1, none⟩ = some (.int .i64 A.a) := fun x => HD.out.aS (hX x) 1
  have a2 : ∀ x, (X x).cell? ⟨ga, 2, none⟩ = some (.int .i64 A.b) := fun x => HD.out.aS (hX x) 2
  iterate 12 (refine still_step rfl (fun K hK => ?_); go_simp; refine hK _ ?_; clear hK K)
  refine still_nil ?_
  clear hX hne p0 p1 a1 a2
  refine turn_call rfl rfl (fun v w' => v = .int .i64 c ∧ Tf G wb w' gd gx (s.copied A.a A.b) x) (fun _ => But (fun b => ¬ G b) wb) (fun _ _ _ h k => ⟨h.1, h.2.then k⟩) (fun _ _ h => h.2.but) (.inr (fun _ _ h => h)) 41 #[.pointer (some ⟨gd, 0, none⟩), .int .i64 A.a, .int .i64 A.b] (fun _ => by kernel_rfl) ?_ ?_
  · intro w1 hw1
    have ht1 := HD.out.tf.then hw1
    refine Calls.mono (dcopy_all ht1 A.a A.b) ?_
    rintro e w2 ⟨rfl, h2⟩
    exact ⟨_, rfl, by rw [EQ.out], h2⟩
  rintro v ⟨wq, rfl, -⟩ Y hY
  clear wq
  go_simp
  refine hY _ ?_
  clear hY Y
  intro ι hne X hX
  refine still_nil ?_
  clear hX hne
  refine turn_call rfl rfl (fun v w' => v = .int .i64 c2 ∧ ∃ x', Tf G wb w' gd gx (s.copied A.a A.b) x' ∧ Agr (g.copied A.a A.b) x' ∧ x'.arm ≤ 9223372036854775807) (fun _ => But (fun b => ¬ G b) wb) (fun _ _ _ h k => ⟨h.1, h.2.imp (fun _ h => ⟨h.1.then k, h.2⟩)⟩) (fun _ _ ⟨_, _, h, _⟩ => h.but) (.inr (fun _ _ h => h)) 42 #[.pointer (some ⟨gx, 0, none⟩), .int .i64 A.a, .int .i64 A.b] (fun _ => by kernel_rfl) ?_ ?_
  · rintro w1 ⟨-, ht1⟩
    refine Calls.mono (rcopy_all ht1 HA.out HOK.out A.a A.b HBG.out HLE.out) ?_
    rintro e w2 ⟨rfl, h2⟩
    exact ⟨_, rfl, by rw [EQ2.out], h2⟩
  rintro v ⟨wq, rfl, -⟩ Y hY
  clear wq
  go_simp
  refine hY _ ?_
  clear hY Y
  intro ι hne X hX
  iterate 2 (refine still_step rfl (fun K hK => ?_); go_simp; refine hK _ ?_; clear hK K)
  refine still_nil ?_
  clear hX hne
  rintro w2 ⟨-, x', ht2, ha2, hx2⟩
  have HE := Hid.mk' (HFIN.out _ _ _ _ ht2 ha2 (wok_copied HWK.out A.a A.b) (keeps_copied HB.out hx2 A.a A.b) (keeps_copied HBG.out hx2 A.a A.b).1)
  clear ht2 ha2 hx2
  go_wp2
  go_ret
  exact ⟨_, rfl, HE.out⟩
set_option maxRecDepth 100000 in
set_option maxHeartbeats 4000000 in
theorem fo_10 {F : Nat → Prop} {w0 w : World} {gd gx n : Nat} {s0 : Dev} {A : DA} {ud uf : Value} (h : DoIn2 F w0 w gd gx s0 n A ud uf) (hk : A.kind % 11 = 10) :
    Calls Try.prog 11 #[.agg #[.pointer (some ⟨gd, 0, none⟩), .pointer (some ⟨gx, 0, none⟩)], .agg (dcells A ud uf).toArray] w (DoIs2 F w0 gd gx s0 (n + 1)) := by
  have HIN := Hid.mk' h
  obtain ⟨wa, hwa⟩ : ∃ wa, wa = w.alloc (.cells #[.pointer (some ⟨gd, 0, none⟩), .pointer (some ⟨gx, 0, none⟩)] 28) := ⟨_, rfl⟩
  obtain ⟨wb, hwb⟩ : ∃ wb, wb = wa.alloc (.cells (dcells A ud uf).toArray 35) := ⟨_, rfl⟩
  obtain ⟨gp, hgp⟩ : ∃ gp, gp = w.heap.size := ⟨_, rfl⟩
  obtain ⟨ga, hga⟩ : ∃ ga, ga = wa.heap.size := ⟨_, rfl⟩
  obtain ⟨s, g, x, ha, hwk, hb, hbg, hok, hd, hfin⟩ := h.box2 hwa hwb hgp hga
  have HWK := Hid.mk' hwk
  have HBG := Hid.mk' hbg
  generalize FB F w wb = G at hd hfin
  have HA := Hid.mk' ha
  have HB := Hid.mk' hb
  have HOK := Hid.mk' hok
  have HD := Hid.mk' hd
  have HFIN := Hid.mk' hfin
  have HWA := Hid.mk' hwa
  have HWB := Hid.mk' hwb
  have HGP := Hid.mk' hgp
  have HGA : Hid (ga = w.heap.size + 1) := by show _ = _; rw [hga, hwa]; simp
  have HLE : Hid (n ≤ 1000) := Nat.le_trans h.le (by decide)
  have HPK := Hid.mk' (pick11 A.kind wb)
  rw [hk] at HPK
  have a0 : wb.cell? ⟨ga, 0, none⟩ = some (.int .i64 A.kind) := hd.a 0
  have a1 : wb.cell? ⟨ga, 1, none⟩ = some (.int .i64 A.a) := hd.a 1
  have a2 : wb.cell? ⟨ga, 2, none⟩ = some (.int .i64 A.b) := hd.a 2
  have a3 : wb.cell? ⟨ga, 3, none⟩ = some ud := hd.a 3
  have a4 : wb.cell? ⟨ga, 4, none⟩ = some uf := hd.a 4
  have p0 : wb.cell? ⟨gp, 0, none⟩ = some (.pointer (some ⟨gd, 0, none⟩)) := hd.p 0
  have p1 : wb.cell? ⟨gp, 1, none⟩ = some (.pointer (some ⟨gx, 0, none⟩)) := hd.p 1
  unfold dcells at HWB ⊢
  clear h ha hwk hb hbg hok hd hfin hwa hwb hgp hga hk
  go_enter Try.func11, Try.ntmps11
  go_upto_region 1 with fail
  rw [← HWA.out, ← HWB.out, ← HGA.out, ← HGP.out]
  go_wp2_with fail
  refine Calls.mono HPK.out ?_
  rintro e w1 ⟨rfl, hw1⟩
  have h2 := hw1.symm
  subst h2
  clear hw1 HPK HIN HWA HWB HGA HGP
  obtain ⟨c, hc⟩ : ∃ c, c = s.bcode A.a := ⟨_, rfl⟩
  have EQ := Hid.mk' hc
  clear hc
  obtain ⟨c2, hc⟩ : ∃ c, c = g.bcode A.a := ⟨_, rfl⟩
  have EQ2 := Hid.mk' hc
  clear hc
  clear a0 a1 a2 a3 a4 p0 p1
  go_upto_region 2 with fail
  refine region_chain [([0, 1, 2, 3, 5, 6, 7, 8], 4), ([], 9)] [10, 11] (But (fun b => ¬ G b) wb) (Grow wb) (by kernel_rfl) (by kernel_rfl) (fun _ _ h k => h.trans k) (fun _ h => h.mono (fun _ _ h => h.elim)) ((But.refl _ wb).drew) ?_
  intro ι hne X hX
  have p0 : ∀ x, (X x).cell? ⟨gp, 0, none⟩ = some (.pointer (some ⟨gd, 0, none⟩)) := fun x => HD.out.pS (hX x) 0
  have p1 : ∀ x, (X x).cell? ⟨gp, 1, none⟩ = some (.pointer (some ⟨gx, 0, none⟩)) := fun x => HD.out.pS (hX x) 1
  have a1 : ∀ x, (X x).cell? ⟨ga, 1, none⟩ = some (.int .i64 A.a) := fun x => HD.out.aS (hX x) 1
  iterate 8 (refine still_step rfl (fun K hK => ?_); go_simp; refine hK _ ?_; clear hK K)
  refine still_nil ?_
  clear hX hne p0 p1 a1
  refine turn_call rfl rfl (fun v w' => v = .int .i64 c ∧ Tf G wb w' gd gx (s.backd A.a) x) (fun _ => But (fun b => ¬ G b) wb) (fun _ _ _ h k => ⟨h.1, h.2.then k⟩) (fun _ _ h => h.2.but) (.inr (fun _ _ h => h)) 24 #[.pointer (some ⟨gd, 0, none⟩), .int .i64 A.a] (fun _ => by kernel_rfl) ?_ ?_
  · intro w1 hw1
    have ht1 := HD.out.tf.then hw1
    refine Calls.mono (dback_all ht1 A.a) ?_
    rintro e w2 ⟨rfl, h2⟩
    exact ⟨_, rfl, by rw [EQ.out], h2⟩
  rintro v ⟨wq, rfl, -⟩ Y hY
  clear wq
  go_simp
  refine hY _ ?_
  clear hY Y
  intro ι hne X hX
  refine still_nil ?_
  clear hX hne
  refine turn_call rfl rfl (fun v w' => v = .int .i64 c2 ∧ ∃ x', Tf G wb w' gd gx (s.backd A.a) x' ∧ Agr (g.backd A.a) x' ∧ x'.arm ≤ 9223372036854775807) (fun _ => But (fun b => ¬ G b) wb) (fun _ _ _ h k => ⟨h.1, h.2.imp (fun _ h => ⟨h.1.then k, h.2⟩)⟩) (fun _ _ ⟨_, _, h, _⟩ => h.but) (.inr (fun _ _ h => h)) 44 #[.pointer (some ⟨gx, 0, none⟩), .int .i64 A.a] (fun _ => by kernel_rfl) ?_ ?_
  · rintro w1 ⟨-, ht1⟩
    refine Calls.mono (rback_all ht1 HA.out A.a HBG.out) ?_
    rintro e w2 ⟨rfl, h2⟩
    exact ⟨_, rfl, by rw [EQ2.out], h2⟩
  rintro v ⟨wq, rfl, -⟩ Y hY
  clear wq
  go_simp
  refine hY _ ?_
  clear hY Y
  intro ι hne X hX
  iterate 2 (refine still_step rfl (fun K hK => ?_); go_simp; refine hK _ ?_; clear hK K)
  refine still_nil ?_
  clear hX hne
  rintro w2 ⟨-, x', ht2, ha2, hx2⟩
  have HE := Hid.mk' (HFIN.out _ _ _ _ ht2 ha2 (wok_backd HWK.out A.a) (keeps_backd HB.out HD.out.tf.ok hx2 A.a) (keeps_backd HBG.out HOK.out hx2 A.a).1)
  clear ht2 ha2 hx2
  go_wp2
  go_ret
  exact ⟨_, rfl, HE.out⟩
end Go.Proofs.Ytfgcbcopgikodaa
