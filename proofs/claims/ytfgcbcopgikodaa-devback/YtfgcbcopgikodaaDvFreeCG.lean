/- Free: Read. -/
import Derived.Test.YtfgcbcopgikodaaDvFreeG
namespace Go.Proofs.Ytfgcbcopgikodaa
open Go.RowKit

set_option maxRecDepth 100000 in
set_option maxHeartbeats 4000000 in
theorem fo_0 {F : Nat → Prop} {w0 w : World} {gd gx n : Nat} {s0 : Dev} {A : DA} {ud uf : Value} (h : DoIn2 F w0 w gd gx s0 n A ud uf) (hk : A.kind % 11 = 0) :
    Calls Try.prog 11 #[.agg #[.pointer (some ⟨gd, 0, none⟩), .pointer (some ⟨gx, 0, none⟩)], .agg (dcells A ud uf).toArray] w (DoIs2 F w0 gd gx s0 (n + 1)) := by
  have HIN := Hid.mk' h
  obtain ⟨wa, hwa⟩ : ∃ wa, wa = w.alloc (.cells #[.pointer (some ⟨gd, 0, none⟩), .pointer (some ⟨gx, 0, none⟩)] 28) := ⟨_, rfl⟩
  obtain ⟨wb, hwb⟩ : ∃ wb, wb = wa.alloc (.cells (dcells A ud uf).toArray 35) := ⟨_, rfl⟩
  obtain ⟨gp, hgp⟩ : ∃ gp, gp = w.heap.size := ⟨_, rfl⟩
  obtain ⟨ga, hga⟩ : ∃ ga, ga = wa.heap.size := ⟨_, rfl⟩
  obtain ⟨s, g, x, ha, hwk, hb, hbg, hok, hd, hfin⟩ := h.box2 hwa hwb hgp hga
  have HWK := Hid.mk' hwk
  have HBG := Hid.mk' hbg
  generalize FB F w wb = G at hd hfin
  have HA := Hid.mk' ha
  have HB := Hid.mk' hb
  have HOK := Hid.mk' hok
  have HD := Hid.mk' hd
  have HFIN := Hid.mk' hfin
  have HWA := Hid.mk' hwa
  have HWB := Hid.mk' hwb
  have HGP := Hid.mk' hgp
  have HGA : Hid (ga = w.heap.size + 1) := by show _ = _; rw [hga, hwa]; simp
  have HLE : Hid (n ≤ 1000) := Nat.le_trans h.le (by decide)
  have HPK := Hid.mk' (pick11 A.kind wb)
  rw [hk] at HPK
  have a0 : wb.cell? ⟨ga, 0, none⟩ = some (.int .i64 A.kind) := hd.a 0
  have a1 : wb.cell? ⟨ga, 1, none⟩ = some (.int .i64 A.a) := hd.a 1
  have a2 : wb.cell? ⟨ga, 2, none⟩ = some (.int .i64 A.b) := hd.a 2
  have a3 : wb.cell? ⟨ga, 3, none⟩ = some ud := hd.a 3
  have a4 : wb.cell? ⟨ga, 4, none⟩ = some uf := hd.a 4
  have p0 : wb.cell? ⟨gp, 0, none⟩ = some (.pointer (some ⟨gd, 0, none⟩)) := hd.p 0
  have p1 : wb.cell? ⟨gp, 1, none⟩ = some (.pointer (some ⟨gx, 0, none⟩)) := hd.p 1
  unfold dcells at HWB ⊢
  clear h ha hwk hb hbg hok hd hfin hwa hwb hgp hga hk
  go_enter Try.func11, Try.ntmps11
  go_upto_region 1 with fail
  rw [← HWA.out, ← HWB.out, ← HGA.out, ← HGP.out]
  go_wp2_with fail
  refine Calls.mono HPK.out ?_
  rintro e w1 ⟨rfl, hw1⟩
  have h2 := hw1.symm
  subst h2
  clear hw1 HPK HIN HWA HWB HGA HGP
  obtain ⟨c, hc⟩ : ∃ c, c = s.rcode A.a := ⟨_, rfl⟩
  obtain ⟨zs, hz⟩ : ∃ zs, zs = s.rbytes A.a := ⟨_, rfl⟩
  obtain ⟨c2, hc2⟩ : ∃ c, c = g.rcode A.a := ⟨_, rfl⟩
  obtain ⟨ys, hy⟩ : ∃ zs, zs = g.rbytes A.a := ⟨_, rfl⟩
  obtain ⟨m, hm⟩ : ∃ m, m = zs.length := ⟨_, rfl⟩
  have hmb : (m : Int) ≤ 256 := by
    have := rbytes_len HD.out.tf.ok A.a
    rw [← hz, ← hm] at this
    omega
  have HRD := Hid.mk' (dread_all HD.out.tf A.a)
  have HRR : Hid (∀ w1, Tf G wb w1 gd gx s x → _) := fun w1 (h1 : Tf G wb w1 gd gx s x) => rread_all h1 HA.out HOK.out HBG.out HLE.out A.a
  rw [← hc, ← hz] at HRD
  rw [← hc2, ← hy] at HRR
  have HM := Hid.mk' hm
  obtain ⟨rr, hrr⟩ : ∃ rr, (c == c2) = rr := ⟨_, rfl⟩
  clear hc hz hm hc2 hy
  go_wp2_with fail
  refine Calls.mono HRD.out ?_
  rintro e w1 ⟨v, rfl, hnw, hg1⟩
  have HT1 := Hid.mk' (HD.out.tf.then hg1)
  have HR1 := Hid.mk' (HRR.out w1 HT1.out)
  obtain ⟨ao, cap, hv, hwr⟩ := hnw.wri
  rw [← HM.out] at hv hwr
  subst hv
  have HV1 := Hid.mk' hnw.bs
  have HW1 := Hid.mk' hwr
  have HG1 := Hid.mk' hg1
  clear a0 a1 a2 a3 a4 p0 p1 hnw hg1 hwr HRD HRR
  have a1 : w1.cell? ⟨ga, 1, none⟩ = some (.int .i64 A.a) := (HD.out.on HT1.out).a 1
  have a2 : w1.cell? ⟨ga, 2, none⟩ = some (.int .i64 A.b) := (HD.out.on HT1.out).a 2
  have a3 : w1.cell? ⟨ga, 3, none⟩ = some ud := (HD.out.on HT1.out).a 3
  have a4 : w1.cell? ⟨ga, 4, none⟩ = some uf := (HD.out.on HT1.out).a 4
  have p0 : w1.cell? ⟨gp, 0, none⟩ = some (.pointer (some ⟨gd, 0, none⟩)) := (HD.out.on HT1.out).p 0
  have p1 : w1.cell? ⟨gp, 1, none⟩ = some (.pointer (some ⟨gx, 0, none⟩)) := (HD.out.on HT1.out).p 1
  go_wp2_with fail
  refine Calls.mono HR1.out ?_
  rintro e w2 ⟨u, rfl, hu, hg2⟩
  have HSA := Hid.mk' (same_any (HV1.out.but hg2 (fun _ _ _ h => h)) hu)
  obtain ⟨same, hsame⟩ : ∃ b, b = decide (zs = ys) := ⟨_, rfl⟩
  rw [← hsame] at HSA
  have HG2 := Hid.mk' hg2
  clear a1 a2 a3 a4 p0 p1 hu hg2 HR1 HV1 hsame
  go_wp2_with fail
  refine Calls.mono HSA.out ?_
  rintro e w3 ⟨rfl, hd3⟩
  have hg3 : Grow w2 w3 := by obtain ⟨d, rfl⟩ := hd3; exact (But.refl _ w2).drewN
  have HG3 : Hid (Grow w1 w3) := HG2.out.trans hg3
  have HW3 : Hid (Wri w3 w3 wb.heap.size ao m) := ⟨But.refl _ _, fun h0 => by
    obtain ⟨g', T, R, zs', e1, e2, e3, e4, e5⟩ := HW1.out.ex h0
    exact ⟨g', T, R, zs', e1, e2, e3, e4, e5.but HG3.out (fun h => h)⟩⟩
  clear hd3 hg3 HSA HW1
  cases same
  case false =>
    go_wp2
    go_loopw [10] (fun iv wr => ∃ k : Nat, k ≤ m ∧ iv = .int .i64 (k : Int) ∧ Wri w3 wr wb.heap.size ao m) (fun iv _ => m - (intOf iv).toNat)
    case atStart => exact ⟨0, Nat.zero_le _, rfl, HW3.out⟩
    case round =>
      obtain ⟨k, hkm, rfl, hwri⟩ := hrel
      by_cases hlt : k < m
      · have hlt' : (k : Int) < (m : Int) := by omega
        obtain ⟨g', z, rfl, hz, cz, fz, hset⟩ := hwri.next hlt
        have hw1 : IntKind.u8.wrap ((z : Int) + 1) = (((z + 1) % 256 : Nat) : Int) := u8_next z hz
        obtain ⟨y, hy⟩ : ∃ y, y = (z + 1) % 256 := ⟨_, rfl⟩
        rw [← hy] at hw1
        have HS := Hid.mk' (hset y (by omega))
        clear hset hz hy hwri
        go_wp2
        exact ⟨⟨k + 1, by omega, by go_num, HS.out⟩, by simp [intOf]; omega⟩
      · have hlt' : ¬ ((k : Int) < (m : Int)) := by omega
        have HWR := Hid.mk' hwri
        clear hwri
        have hgr : Grow wb wr := (HG1.out.trans HG3.out).then HWR.out.but (fun b hb e => by
          obtain ⟨g', T, R, zs', e1, e2, -⟩ := HWR.out.ex e.1
          rw [e.2] at e1
          simp only [Option.some.injEq, Addr.mk.injEq, and_true] at e1
          omega)
        have HE := Hid.mk' (HFIN.out _ _ _ _ (HD.out.tf.then hgr) HA.out HWK.out ⟨HB.out.up, Kp.refl _⟩ HBG.out.up)
        clear hgr
        go_wp2
        go_ret
        exact ⟨_, rfl, HE.out⟩
  case true =>
    go_wp2
    go_loopw [10] (fun iv wr => ∃ k : Nat, k ≤ m ∧ iv = .int .i64 (k : Int) ∧ Wri w3 wr wb.heap.size ao m) (fun iv _ => m - (intOf iv).toNat)
    case atStart => exact ⟨0, Nat.zero_le _, rfl, HW3.out⟩
    case round =>
      obtain ⟨k, hkm, rfl, hwri⟩ := hrel
      by_cases hlt : k < m
      · have hlt' : (k : Int) < (m : Int) := by omega
        obtain ⟨g', z, rfl, hz, cz, fz, hset⟩ := hwri.next hlt
        have hw1 : IntKind.u8.wrap ((z : Int) + 1) = (((z + 1) % 256 : Nat) : Int) := u8_next z hz
        obtain ⟨y, hy⟩ : ∃ y, y = (z + 1) % 256 := ⟨_, rfl⟩
        rw [← hy] at hw1
        have HS := Hid.mk' (hset y (by omega))
        clear hset hz hy hwri
        go_wp2
        exact ⟨⟨k + 1, by omega, by go_num, HS.out⟩, by simp [intOf]; omega⟩
      · have hlt' : ¬ ((k : Int) < (m : Int)) := by omega
        have HWR := Hid.mk' hwri
        clear hwri
        have hgr : Grow wb wr := (HG1.out.trans HG3.out).then HWR.out.but (fun b hb e => by
          obtain ⟨g', T, R, zs', e1, e2, -⟩ := HWR.out.ex e.1
          rw [e.2] at e1
          simp only [Option.some.injEq, Addr.mk.injEq, and_true] at e1
          omega)
        have HE := Hid.mk' (HFIN.out _ _ _ _ (HD.out.tf.then hgr) HA.out HWK.out ⟨HB.out.up, Kp.refl _⟩ HBG.out.up)
        clear hgr
        go_wp2
        go_ret
        exact ⟨_, rfl, HE.out⟩
end Go.Proofs.Ytfgcbcopgikodaa
