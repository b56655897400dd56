/- Free: Arm, Crash, On, Snap. -/
import Derived.Test.YtfgcbcopgikodaaDvFreeG
namespace Go.Proofs.Ytfgcbcopgikodaa
open Go.RowKit

set_option maxRecDepth 100000 in
set_option maxHeartbeats 4000000 in
theorem fo_4 {F : Nat → Prop} {w0 w : World} {gd gx n : Nat} {s0 : Dev} {A : DA} {ud uf : Value} (h : DoIn2 F w0 w gd gx s0 n A ud uf) (hk : A.kind % 11 = 4) :
    Calls Try.prog 11 #[.agg #[.pointer (some ⟨gd, 0, none⟩), .pointer (some ⟨gx, 0, none⟩)], .agg (dcells A ud uf).toArray] w (DoIs2 F w0 gd gx s0 (n + 1)) := by
  have HIN := Hid.mk' h
  have HRA := Hid.mk' h.ra.2
  obtain ⟨wa, hwa⟩ : ∃ wa, wa = w.alloc (.cells #[.pointer (some ⟨gd, 0, none⟩), .pointer (some ⟨gx, 0, none⟩)] 28) := ⟨_, rfl⟩
  obtain ⟨wb, hwb⟩ : ∃ wb, wb = wa.alloc (.cells (dcells A ud uf).toArray 35) := ⟨_, rfl⟩
  obtain ⟨gp, hgp⟩ : ∃ gp, gp = w.heap.size := ⟨_, rfl⟩
  obtain ⟨ga, hga⟩ : ∃ ga, ga = wa.heap.size := ⟨_, rfl⟩
  obtain ⟨s, g, x, ha, hwk, hb, hbg, hok, hd, hfin⟩ := h.box2 hwa hwb hgp hga
  have HWK := Hid.mk' hwk
  have HBG := Hid.mk' hbg
  generalize FB F w wb = G at hd hfin
  have HA := Hid.mk' ha
  have HB := Hid.mk' hb
  have HOK := Hid.mk' hok
  have HD := Hid.mk' hd
  have HFIN := Hid.mk' hfin
  have HWA := Hid.mk' hwa
  have HWB := Hid.mk' hwb
  have HGP := Hid.mk' hgp
  have HGA : Hid (ga = w.heap.size + 1) := by show _ = _; rw [hga, hwa]; simp
  have HLE : Hid (n ≤ 1000) := Nat.le_trans h.le (by decide)
  have HPK := Hid.mk' (pick11 A.kind wb)
  rw [hk] at HPK
  have a0 : wb.cell? ⟨ga, 0, none⟩ = some (.int .i64 A.kind) := hd.a 0
  have a1 : wb.cell? ⟨ga, 1, none⟩ = some (.int .i64 A.a) := hd.a 1
  have a2 : wb.cell? ⟨ga, 2, none⟩ = some (.int .i64 A.b) := hd.a 2
  have a3 : wb.cell? ⟨ga, 3, none⟩ = some ud := hd.a 3
  have a4 : wb.cell? ⟨ga, 4, none⟩ = some uf := hd.a 4
  have p0 : wb.cell? ⟨gp, 0, none⟩ = some (.pointer (some ⟨gd, 0, none⟩)) := hd.p 0
  have p1 : wb.cell? ⟨gp, 1, none⟩ = some (.pointer (some ⟨gx, 0, none⟩)) := hd.p 1
  unfold dcells at HWB ⊢
  clear h ha hwk hb hbg hok hd hfin hwa hwb hgp hga hk
  go_enter Try.func11, Try.ntmps11
  go_upto_region 1 with fail
  rw [← HWA.out, ← HWB.out, ← HGA.out, ← HGP.out]
  go_wp2_with fail
  refine Calls.mono HPK.out ?_
  rintro e w1 ⟨rfl, hw1⟩
  have h2 := hw1.symm
  subst h2
  clear hw1 HPK HIN HWA HWB HGA HGP
  go_wp2_with fail
  refine Calls.mono (darm_all HD.out.tf A.a) ?_
  rintro e w1 ⟨rfl, ht1⟩
  have HT1 := Hid.mk' ht1
  clear ht1 a0 a1 a2 a3 a4 p0 p1
  have a1 : w1.cell? ⟨ga, 1, none⟩ = some (.int .i64 A.a) := (HD.out.on HT1.out).a 1
  have a2 : w1.cell? ⟨ga, 2, none⟩ = some (.int .i64 A.b) := (HD.out.on HT1.out).a 2
  have a3 : w1.cell? ⟨ga, 3, none⟩ = some ud := (HD.out.on HT1.out).a 3
  have a4 : w1.cell? ⟨ga, 4, none⟩ = some uf := (HD.out.on HT1.out).a 4
  have p0 : w1.cell? ⟨gp, 0, none⟩ = some (.pointer (some ⟨gd, 0, none⟩)) := (HD.out.on HT1.out).p 0
  have p1 : w1.cell? ⟨gp, 1, none⟩ = some (.pointer (some ⟨gx, 0, none⟩)) := (HD.out.on HT1.out).p 1
  go_wp2_with fail
  refine Calls.mono (rarm_all HT1.out HA.out HBG.out A.a HRA.out) ?_
  rintro e w2 ⟨rfl, x', ht2, ha2, hx2⟩
  have HE := Hid.mk' (HFIN.out _ _ _ _ ht2 ha2 ⟨HWK.out.up, HWK.out.lt⟩ (keeps_arm HB.out hx2 A.a HRA.out) (keeps_arm HBG.out hx2 A.a HRA.out).1)
  clear ht2 ha2 hx2 a1 a2 a3 a4 p0 p1
  go_wp2
  go_ret
  exact ⟨_, rfl, HE.out⟩
set_option maxRecDepth 100000 in
set_option maxHeartbeats 4000000 in
theorem fo_5 {F : Nat → Prop} {w0 w : World} {gd gx n : Nat} {s0 : Dev} {A : DA} {ud uf : Value} (h : DoIn2 F w0 w gd gx s0 n A ud uf) (hk : A.kind % 11 = 5) :
    Calls Try.prog 11 #[.agg #[.pointer (some ⟨gd, 0, none⟩), .pointer (some ⟨gx, 0, none⟩)], .agg (dcells A ud uf).toArray] w (DoIs2 F w0 gd gx s0 (n + 1)) := by
  have HIN := Hid.mk' h
  obtain ⟨wa, hwa⟩ : ∃ wa, wa = w.alloc (.cells #[.pointer (some ⟨gd, 0, none⟩), .pointer (some ⟨gx, 0, none⟩)] 28) := ⟨_, rfl⟩
  obtain ⟨wb, hwb⟩ : ∃ wb, wb = wa.alloc (.cells (dcells A ud uf).toArray 35) := ⟨_, rfl⟩
  obtain ⟨gp, hgp⟩ : ∃ gp, gp = w.heap.size := ⟨_, rfl⟩
  obtain ⟨ga, hga⟩ : ∃ ga, ga = wa.heap.size := ⟨_, rfl⟩
  obtain ⟨s, g, x, ha, hwk, hb, hbg, hok, hd, hfin⟩ := h.box2 hwa hwb hgp hga
  have HWK := Hid.mk' hwk
  have HBG := Hid.mk' hbg
  generalize FB F w wb = G at hd hfin
  have HA := Hid.mk' ha
  have HB := Hid.mk' hb
  have HOK := Hid.mk' hok
  have HD := Hid.mk' hd
  have HFIN := Hid.mk' hfin
  have HWA := Hid.mk' hwa
  have HWB := Hid.mk' hwb
  have HGP := Hid.mk' hgp
  have HGA : Hid (ga = w.heap.size + 1) := by show _ = _; rw [hga, hwa]; simp
  have HLE : Hid (n ≤ 1000) := Nat.le_trans h.le (by decide)
  have HPK := Hid.mk' (pick11 A.kind wb)
  rw [hk] at HPK
  have a0 : wb.cell? ⟨ga, 0, none⟩ = some (.int .i64 A.kind) := hd.a 0
  have a1 : wb.cell? ⟨ga, 1, none⟩ = some (.int .i64 A.a) := hd.a 1
  have a2 : wb.cell? ⟨ga, 2, none⟩ = some (.int .i64 A.b) := hd.a 2
  have a3 : wb.cell? ⟨ga, 3, none⟩ = some ud := hd.a 3
  have a4 : wb.cell? ⟨ga, 4, none⟩ = some uf := hd.a 4
  have p0 : wb.cell? ⟨gp, 0, none⟩ = some (.pointer (some ⟨gd, 0, none⟩)) := hd.p 0
  have p1 : wb.cell? ⟨gp, 1, none⟩ = some (.pointer (some ⟨gx, 0, none⟩)) := hd.p 1
  unfold dcells at HWB ⊢
  clear h ha hwk hb hbg hok hd hfin hwa hwb hgp hga hk
  go_enter Try.func11, Try.ntmps11
  go_upto_region 1 with fail
  rw [← HWA.out, ← HWB.out, ← HGA.out, ← HGP.out]
  go_wp2_with fail
  refine Calls.mono HPK.out ?_
  rintro e w1 ⟨rfl, hw1⟩
  have h2 := hw1.symm
  subst h2
  clear hw1 HPK HIN HWA HWB HGA HGP
  go_wp2_with fail
  refine Calls.mono (dcrash_all HD.out.tf) ?_
  rintro e w1 ⟨rfl, ht1⟩
  have HT1 := Hid.mk' ht1
  clear ht1 a0 a1 a2 a3 a4 p0 p1
  have a1 : w1.cell? ⟨ga, 1, none⟩ = some (.int .i64 A.a) := (HD.out.on HT1.out).a 1
  have a2 : w1.cell? ⟨ga, 2, none⟩ = some (.int .i64 A.b) := (HD.out.on HT1.out).a 2
  have a3 : w1.cell? ⟨ga, 3, none⟩ = some ud := (HD.out.on HT1.out).a 3
  have a4 : w1.cell? ⟨ga, 4, none⟩ = some uf := (HD.out.on HT1.out).a 4
  have p0 : w1.cell? ⟨gp, 0, none⟩ = some (.pointer (some ⟨gd, 0, none⟩)) := (HD.out.on HT1.out).p 0
  have p1 : w1.cell? ⟨gp, 1, none⟩ = some (.pointer (some ⟨gx, 0, none⟩)) := (HD.out.on HT1.out).p 1
  go_wp2_with fail
  refine Calls.mono (rcrash_all HT1.out HA.out) ?_
  rintro e w2 ⟨rfl, x', ht2, ha2, hx2⟩
  have HE := Hid.mk' (HFIN.out _ _ _ _ ht2 ha2 ⟨HWK.out.up, HWK.out.lt⟩ (keeps_crash HB.out hx2) (keeps_crash HBG.out hx2).1)
  clear ht2 ha2 hx2 a1 a2 a3 a4 p0 p1
  go_wp2
  go_ret
  exact ⟨_, rfl, HE.out⟩
set_option maxRecDepth 100000 in
set_option maxHeartbeats 4000000 in
theorem fo_6 {F : Nat → Prop} {w0 w : World} {gd gx n : Nat} {s0 : Dev} {A : DA} {ud uf : Value} (h : DoIn2 F w0 w gd gx s0 n A ud uf) (hk : A.kind % 11 = 6) :
    Calls Try.prog 11 #[.agg #[.pointer (some ⟨gd, 0, none⟩), .pointer (some ⟨gx, 0, none⟩)], .agg (dcells A ud uf).toArray] w (DoIs2 F w0 gd gx s0 (n + 1)) := by
  have HIN := Hid.mk' h
  obtain ⟨wa, hwa⟩ : ∃ wa, wa = w.alloc (.cells #[.pointer (some ⟨gd, 0, none⟩), .pointer (some ⟨gx, 0, none⟩)] 28) := ⟨_, rfl⟩
  obtain ⟨wb, hwb⟩ : ∃ wb, wb = wa.alloc (.cells (dcells A ud uf).toArray 35) := ⟨_, rfl⟩
  obtain ⟨gp, hgp⟩ : ∃ gp, gp = w.heap.size := ⟨_, rfl⟩
  obtain ⟨ga, hga⟩ : ∃ ga, ga = wa.heap.size := ⟨_, rfl⟩
  obtain ⟨s, g, x, ha, hwk, hb, hbg, hok, hd, hfin⟩ := h.box2 hwa hwb hgp hga
  have HWK := Hid.mk' hwk
  have HBG := Hid.mk' hbg
  generalize FB F w wb = G at hd hfin
  have HA := Hid.mk' ha
  have HB := Hid.mk' hb
  have HOK := Hid.mk' hok
  have HD := Hid.mk' hd
  have HFIN := Hid.mk' hfin
  have HWA := Hid.mk' hwa
  have HWB := Hid.mk' hwb
  have HGP := Hid.mk' hgp
  have HGA : Hid (ga = w.heap.size + 1) := by show _ = _; rw [hga, hwa]; simp
  have HLE : Hid (n ≤ 1000) := Nat.le_trans h.le (by decide)
  have HPK := Hid.mk' (pick11 A.kind wb)
  rw [hk] at HPK
  have a0 : wb.cell? ⟨ga, 0, none⟩ = some (.int .i64 A.kind) := hd.a 0
  have a1 : wb.cell? ⟨ga, 1, none⟩ = some (.int .i64 A.a) := hd.a 1
  have a2 : wb.cell? ⟨ga, 2, none⟩ = some (.int .i64 A.b) := hd.a 2
  have a3 : wb.cell? ⟨ga, 3, none⟩ = some ud := hd.a 3
  have a4 : wb.cell? ⟨ga, 4, none⟩ = some uf := hd.a 4
  have p0 : wb.cell? ⟨gp, 0, none⟩ = some (.pointer (some ⟨gd, 0, none⟩)) := hd.p 0
  have p1 : wb.cell? ⟨gp, 1, none⟩ = some (.pointer (some ⟨gx, 0, none⟩)) := hd.p 1
  unfold dcells at HWB ⊢
  clear h ha hwk hb hbg hok hd hfin hwa hwb hgp hga hk
  go_enter Try.func11, Try.ntmps11
  go_upto_region 1 with fail
  rw [← HWA.out, ← HWB.out, ← HGA.out, ← HGP.out]
  go_wp2_with fail
  refine Calls.mono HPK.out ?_
  rintro e w1 ⟨rfl, hw1⟩
  have h2 := hw1.symm
  subst h2
  clear hw1 HPK HIN HWA HWB HGA HGP
  go_wp2_with fail
  refine Calls.mono (don_all HD.out.tf HD.out.fat HB.out HLE.out) ?_
  rintro e w1 ⟨rfl, ht1⟩
  have HT1 := Hid.mk' ht1
  clear ht1 a0 a1 a2 a3 a4 p0 p1
  have a1 : w1.cell? ⟨ga, 1, none⟩ = some (.int .i64 A.a) := (HD.out.on HT1.out).a 1
  have a2 : w1.cell? ⟨ga, 2, none⟩ = some (.int .i64 A.b) := (HD.out.on HT1.out).a 2
  have a3 : w1.cell? ⟨ga, 3, none⟩ = some ud := (HD.out.on HT1.out).a 3
  have a4 : w1.cell? ⟨ga, 4, none⟩ = some uf := (HD.out.on HT1.out).a 4
  have p0 : w1.cell? ⟨gp, 0, none⟩ = some (.pointer (some ⟨gd, 0, none⟩)) := (HD.out.on HT1.out).p 0
  have p1 : w1.cell? ⟨gp, 1, none⟩ = some (.pointer (some ⟨gx, 0, none⟩)) := (HD.out.on HT1.out).p 1
  go_wp2_with fail
  refine Calls.mono (ron_all HT1.out HA.out HOK.out (HD.out.on HT1.out).fat HBG.out HLE.out) ?_
  rintro e w2 ⟨rfl, x', ht2, ha2, hx2⟩
  have HE := Hid.mk' (HFIN.out _ _ _ _ ht2 ha2 (wok_ond HWK.out A.fat) (keeps_ond HB.out hx2 A.fat) (keeps_ond HBG.out hx2 A.fat).1)
  clear ht2 ha2 hx2 a1 a2 a3 a4 p0 p1
  go_wp2
  go_ret
  exact ⟨_, rfl, HE.out⟩
set_option maxRecDepth 100000 in
set_option maxHeartbeats 4000000 in
theorem fo_9 {F : Nat → Prop} {w0 w : World} {gd gx n : Nat} {s0 : Dev} {A : DA} {ud uf : Value} (h : DoIn2 F w0 w gd gx s0 n A ud uf) (hk : A.kind % 11 = 9) :
    Calls Try.prog 11 #[.agg #[.pointer (some ⟨gd, 0, none⟩), .pointer (some ⟨gx, 0, none⟩)], .agg (dcells A ud uf).toArray] w (DoIs2 F w0 gd gx s0 (n + 1)) := by
  have HIN := Hid.mk' h
  obtain ⟨wa, hwa⟩ : ∃ wa, wa = w.alloc (.cells #[.pointer (some ⟨gd, 0, none⟩), .pointer (some ⟨gx, 0, none⟩)] 28) := ⟨_, rfl⟩
  obtain ⟨wb, hwb⟩ : ∃ wb, wb = wa.alloc (.cells (dcells A ud uf).toArray 35) := ⟨_, rfl⟩
  obtain ⟨gp, hgp⟩ : ∃ gp, gp = w.heap.size := ⟨_, rfl⟩
  obtain ⟨ga, hga⟩ : ∃ ga, ga = wa.heap.size := ⟨_, rfl⟩
  obtain ⟨s, g, x, ha, hwk, hb, hbg, hok, hd, hfin⟩ := h.box2 hwa hwb hgp hga
  have HWK := Hid.mk' hwk
  have HBG := Hid.mk' hbg
  generalize FB F w wb = G at hd hfin
  have HA := Hid.mk' ha
  have HB := Hid.mk' hb
  have HOK := Hid.mk' hok
  have HD := Hid.mk' hd
  have HFIN := Hid.mk' hfin
  have HWA := Hid.mk' hwa
  have HWB := Hid.mk' hwb
  have HGP := Hid.mk' hgp
  have HGA : Hid (ga = w.heap.size + 1) := by show _ = _; rw [hga, hwa]; simp
  have HLE : Hid (n ≤ 1000) := Nat.le_trans h.le (by decide)
  have HPK := Hid.mk' (pick11 A.kind wb)
  rw [hk] at HPK
  have a0 : wb.cell? ⟨ga, 0, none⟩ = some (.int .i64 A.kind) := hd.a 0
  have a1 : wb.cell? ⟨ga, 1, none⟩ = some (.int .i64 A.a) := hd.a 1
  have a2 : wb.cell? ⟨ga, 2, none⟩ = some (.int .i64 A.b) := hd.a 2
  have a3 : wb.cell? ⟨ga, 3, none⟩ = some ud := hd.a 3
  have a4 : wb.cell? ⟨ga, 4, none⟩ = some uf := hd.a 4
  have p0 : wb.cell? ⟨gp, 0, none⟩ = some (.pointer (some ⟨gd, 0, none⟩)) := hd.p 0
  have p1 : wb.cell? ⟨gp, 1, none⟩ = some (.pointer (some ⟨gx, 0, none⟩)) := hd.p 1
  unfold dcells at HWB ⊢
  clear h ha hwk hb hbg hok hd hfin hwa hwb hgp hga hk
  go_enter Try.func11, Try.ntmps11
  go_upto_region 1 with fail
  rw [← HWA.out, ← HWB.out, ← HGA.out, ← HGP.out]
  go_wp2_with fail
  refine Calls.mono HPK.out ?_
  rintro e w1 ⟨rfl, hw1⟩
  have h2 := hw1.symm
  subst h2
  clear hw1 HPK HIN HWA HWB HGA HGP
  obtain ⟨m, hm⟩ : ∃ m, m = s.nnum := ⟨_, rfl⟩
  obtain ⟨c, hc⟩ : ∃ c, c = s.ncode := ⟨_, rfl⟩
  obtain ⟨m2, hm2⟩ : ∃ m, m = g.nnum := ⟨_, rfl⟩
  obtain ⟨c2, hc2⟩ : ∃ c, c = g.ncode := ⟨_, rfl⟩
  have HDS := Hid.mk' (dsnap_all HD.out.tf HB.out)
  have HRS : Hid (∀ w1, Tf G wb w1 gd gx s.snapd x → _) := fun w1 (h1 : Tf G wb w1 gd gx s.snapd x) => rsnap_all h1 HA.out HOK.out HBG.out HLE.out
  rw [← hm, ← hc] at HDS
  rw [← hm2, ← hc2] at HRS
  clear hm hc hm2 hc2
  go_wp2_with fail
  refine Calls.mono HDS.out ?_
  rintro e w1 ⟨rfl, ht1⟩
  have HT1 := Hid.mk' ht1
  have HR1 := Hid.mk' (HRS.out w1 ht1)
  clear ht1 a0 a1 a2 a3 a4 p0 p1 HDS HRS
  have a1 : w1.cell? ⟨ga, 1, none⟩ = some (.int .i64 A.a) := (HD.out.on HT1.out).a 1
  have a2 : w1.cell? ⟨ga, 2, none⟩ = some (.int .i64 A.b) := (HD.out.on HT1.out).a 2
  have a3 : w1.cell? ⟨ga, 3, none⟩ = some ud := (HD.out.on HT1.out).a 3
  have a4 : w1.cell? ⟨ga, 4, none⟩ = some uf := (HD.out.on HT1.out).a 4
  have p0 : w1.cell? ⟨gp, 0, none⟩ = some (.pointer (some ⟨gd, 0, none⟩)) := (HD.out.on HT1.out).p 0
  have p1 : w1.cell? ⟨gp, 1, none⟩ = some (.pointer (some ⟨gx, 0, none⟩)) := (HD.out.on HT1.out).p 1
  go_wp2_with fail
  refine Calls.mono HR1.out ?_
  rintro e w2 ⟨rfl, x', ht2, ha2, hx2⟩
  have HE := Hid.mk' (HFIN.out _ _ _ _ ht2 ha2 (wok_snapd HWK.out) (keeps_snapd HB.out hx2) (keeps_snapd HBG.out hx2).1)
  clear ht2 ha2 hx2 a1 a2 a3 a4 p0 p1
  by_cases hmm : m = m2
  · subst hmm
    go_wp2
    go_ret
    exact ⟨_, rfl, HE.out⟩
  · have hmf : (m == m2) = false := by simpa using hmm
    go_wp2
    go_ret
    exact ⟨_, rfl, HE.out⟩
end Go.Proofs.Ytfgcbcopgikodaa
