/- Free: Write. -/
import Derived.Test.YtfgcbcopgikodaaDvFreeG
namespace Go.Proofs.Ytfgcbcopgikodaa
open Go.RowKit

set_option maxRecDepth 100000 in
set_option maxHeartbeats 4000000 in
theorem fo_1a {F : Nat → Prop} {w0 w : World} {gd gx n : Nat} {s0 : Dev} {A : DA} {ud uf : Value} (h : DoIn2 F w0 w gd gx s0 n A ud uf) (hk : A.kind % 11 = 1) (h7 : A.b = 7) :
    Calls Try.prog 11 #[.agg #[.pointer (some ⟨gd, 0, none⟩), .pointer (some ⟨gx, 0, none⟩)], .agg (dcells A ud uf).toArray] w (DoIs2 F w0 gd gx s0 (n + 1)) := by
  have HIN := Hid.mk' h
  have HSM := Hid.mk' h.sm
  have H7 := Hid.mk' h7
  clear h7
  obtain ⟨wa, hwa⟩ : ∃ wa, wa = w.alloc (.cells #[.pointer (some ⟨gd, 0, none⟩), .pointer (some ⟨gx, 0, none⟩)] 28) := ⟨_, rfl⟩
  obtain ⟨wb, hwb⟩ : ∃ wb, wb = wa.alloc (.cells (dcells A ud uf).toArray 35) := ⟨_, rfl⟩
  obtain ⟨gp, hgp⟩ : ∃ gp, gp = w.heap.size := ⟨_, rfl⟩
  obtain ⟨ga, hga⟩ : ∃ ga, ga = wa.heap.size := ⟨_, rfl⟩
  obtain ⟨s, g, x, ha, hwk, hb, hbg, hok, hd, hfin⟩ := h.box2 hwa hwb hgp hga
  have HWK := Hid.mk' hwk
  have HBG := Hid.mk' hbg
  generalize FB F w wb = G at hd hfin
  have HA := Hid.mk' ha
  have HB := Hid.mk' hb
  have HOK := Hid.mk' hok
  have HD := Hid.mk' hd
  have HFIN := Hid.mk' hfin
  have HWA := Hid.mk' hwa
  have HWB := Hid.mk' hwb
  have HGP := Hid.mk' hgp
  have HGA : Hid (ga = w.heap.size + 1) := by show _ = _; rw [hga, hwa]; simp
  have HLE : Hid (n ≤ 1000) := Nat.le_trans h.le (by decide)
  have HPK := Hid.mk' (pick11 A.kind wb)
  rw [hk] at HPK
  have a0 : wb.cell? ⟨ga, 0, none⟩ = some (.int .i64 A.kind) := hd.a 0
  have a1 : wb.cell? ⟨ga, 1, none⟩ = some (.int .i64 A.a) := hd.a 1
  have a2 : wb.cell? ⟨ga, 2, none⟩ = some (.int .i64 7) := by rw [← H7.out]; exact hd.a 2
  have a3 : wb.cell? ⟨ga, 3, none⟩ = some ud := hd.a 3
  have a4 : wb.cell? ⟨ga, 4, none⟩ = some uf := hd.a 4
  have p0 : wb.cell? ⟨gp, 0, none⟩ = some (.pointer (some ⟨gd, 0, none⟩)) := hd.p 0
  have p1 : wb.cell? ⟨gp, 1, none⟩ = some (.pointer (some ⟨gx, 0, none⟩)) := hd.p 1
  unfold dcells at HWB ⊢
  clear h ha hwk hb hbg hok hd hfin hwa hwb hgp hga hk
  go_enter Try.func11, Try.ntmps11
  go_upto_region 1 with fail
  rw [← HWA.out, ← HWB.out, ← HGA.out, ← HGP.out]
  go_wp2_with fail
  refine Calls.mono HPK.out ?_
  rintro e w1 ⟨rfl, hw1⟩
  have h2 := hw1.symm
  subst h2
  clear hw1 HPK HIN HWA HWB HGA HGP
  obtain ⟨xs, hxs⟩ : ∃ xs, xs = A.dat := ⟨_, rfl⟩
  have HXS := Hid.mk' hxs
  obtain ⟨m, hm⟩ : ∃ m, m = xs.length := ⟨_, rfl⟩
  have HM := Hid.mk' hm
  have hmn : m ≤ 1000 := by
    have := HSM.out.1
    rw [hm, hxs]
    omega
  have HMN := Hid.mk' hmn
  have hmb : (m : Int) ≤ 1000 := by omega
  obtain ⟨c, hc⟩ : ∃ c, c = s.wcode A.a xs := ⟨_, rfl⟩
  have HC := Hid.mk' hc
  obtain ⟨c2, hc2⟩ : ∃ c, c = g.wcode A.a xs := ⟨_, rfl⟩
  have HC2 := Hid.mk' hc2
  obtain ⟨rr, hrr⟩ : ∃ rr, (c == c2) = rr := ⟨_, rfl⟩
  clear hc2
  have HFU := Hid.mk' (full_any HD.out.dat.1)
  clear hc hxs hm hmn
  go_wp2_with fail
  refine Calls.mono HFU.out ?_
  rintro e w1 ⟨⟨gf, rfl, hgf, hof⟩, hg1⟩
  have HT1 := Hid.mk' (HD.out.tf.then hg1)
  have HG1 := Hid.mk' hg1
  clear a0 a1 a2 a3 a4 p0 p1 hgf hof hg1 HFU
  have a1 : w1.cell? ⟨ga, 1, none⟩ = some (.int .i64 A.a) := (HD.out.on HT1.out).a 1
  have a2 : w1.cell? ⟨ga, 2, none⟩ = some (.int .i64 7) := by rw [← H7.out]; exact (HD.out.on HT1.out).a 2
  have a3 : w1.cell? ⟨ga, 3, none⟩ = some ud := (HD.out.on HT1.out).a 3
  have a4 : w1.cell? ⟨ga, 4, none⟩ = some uf := (HD.out.on HT1.out).a 4
  have p0 : w1.cell? ⟨gp, 0, none⟩ = some (.pointer (some ⟨gd, 0, none⟩)) := (HD.out.on HT1.out).p 0
  have p1 : w1.cell? ⟨gp, 1, none⟩ = some (.pointer (some ⟨gx, 0, none⟩)) := (HD.out.on HT1.out).p 1
  have HC1 := Hid.mk' (copy_any (HD.out.on HT1.out).dat.1 (by have := HSM.out.1; omega))
  rw [← HXS.out] at HC1
  go_wp2_with fail
  refine Calls.mono HC1.out ?_
  rintro e w2 h12
  obtain ⟨vb, rfl, hob, hbl⟩ := h12
  have hg12 : Grow w1 w2 := But.of hbl
  clear hbl
  have HG2 : Hid (Grow wb w2) := HG1.out.trans hg12
  have HOB : Hid (Ow w2 wb.heap.size vb xs) := hob.mono HG1.out.size
  clear a1 a2 a3 a4 p0 p1 HC1 hob hg12
  have HCI := Hid.mk' (copy_any HOB.out.bs (by have := HMN.out; have := HM.out; omega))
  go_wp2_with fail
  refine Calls.mono HCI.out ?_
  rintro e w3 h23
  obtain ⟨vi, rfl, hoi, hbl⟩ := h23
  have hg23 : Grow w2 w3 := But.of hbl
  clear hbl
  have HG3 : Hid (Grow wb w3) := HG2.out.trans hg23
  have HOB3 : Hid (Ow w3 wb.heap.size vb xs) := HOB.out.but hg23 (fun _ _ _ h => h)
  have HOI3 : Hid (Ow w3 wb.heap.size vi xs) := hoi.mono HG2.out.size
  have HD3 := Hid.mk' (HD.out.add HG3.out)
  have HFL : Hid (∀ k, G k → k < wb.heap.size) := HD.out.tf.fl
  generalize hG2 : (fun b => G b ∨ (wb.heap.size ≤ b ∧ b < w3.heap.size)) = G2 at HD3
  have HGI : Hid (∀ k, G k → G2 k) := fun k hk => by rw [← hG2]; exact .inl hk
  have HGN : Hid (∀ k, wb.heap.size ≤ k → k < w3.heap.size → G2 k) := fun k h1 h2 => by rw [← hG2]; exact .inr ⟨h1, h2⟩
  have HBB : Hid (Bf w3 G2 vb xs) := ⟨HOB3.out.bs, fun _ j hj => HGN.out j (HOB3.out.ge j hj).1 (HOB3.out.ge j hj).2⟩
  have HBI : Hid (Bf w3 G2 vi xs) := ⟨HOI3.out.bs, fun _ j hj => HGN.out j (HOI3.out.ge j hj).1 (HOI3.out.ge j hj).2⟩
  clear hG2 hoi hg23 HCI HOB
  have a1 : w3.cell? ⟨ga, 1, none⟩ = some (.int .i64 A.a) := HD3.out.a 1
  have a2 : w3.cell? ⟨ga, 2, none⟩ = some (.int .i64 A.b) := HD3.out.a 2
  have a3 : w3.cell? ⟨ga, 3, none⟩ = some ud := HD3.out.a 3
  have a4 : w3.cell? ⟨ga, 4, none⟩ = some uf := HD3.out.a 4
  have p0 : w3.cell? ⟨gp, 0, none⟩ = some (.pointer (some ⟨gd, 0, none⟩)) := HD3.out.p 0
  have p1 : w3.cell? ⟨gp, 1, none⟩ = some (.pointer (some ⟨gx, 0, none⟩)) := HD3.out.p 1
  have HWR3 := Hid.mk' (dwrite_all HD3.out.tf A.a HBI.out HB.out HLE.out)
  rw [← HC.out] at HWR3
  go_wp2_with fail
  refine Calls.mono HWR3.out ?_
  rintro e w4 ⟨rfl, ht4⟩
  have HT4 := Hid.mk' ht4
  clear a1 a2 a3 a4 p0 p1 ht4 HWR3
  have a1 : w4.cell? ⟨ga, 1, none⟩ = some (.int .i64 A.a) := (HD3.out.on HT4.out).a 1
  have a2 : w4.cell? ⟨ga, 2, none⟩ = some (.int .i64 A.b) := (HD3.out.on HT4.out).a 2
  have a3 : w4.cell? ⟨ga, 3, none⟩ = some ud := (HD3.out.on HT4.out).a 3
  have a4 : w4.cell? ⟨ga, 4, none⟩ = some uf := (HD3.out.on HT4.out).a 4
  have p0 : w4.cell? ⟨gp, 0, none⟩ = some (.pointer (some ⟨gd, 0, none⟩)) := (HD3.out.on HT4.out).p 0
  have p1 : w4.cell? ⟨gp, 1, none⟩ = some (.pointer (some ⟨gx, 0, none⟩)) := (HD3.out.on HT4.out).p 1
  have HSA := Hid.mk' (same_any (HT4.out.bf HBI.out).1 (HT4.out.bf HBB.out).1)
  rw [decide_eq_true rfl] at HSA
  go_wp2_with fail
  refine Calls.mono HSA.out ?_
  rintro e w5 ⟨rfl, hd5⟩
  have hg5 : Grow w4 w5 := by obtain ⟨d, rfl⟩ := hd5; exact (But.refl _ w4).drewN
  have HT5 := Hid.mk' (HT4.out.then hg5)
  clear a1 a2 a3 a4 p0 p1 hd5 hg5 HSA
  have a1 : w5.cell? ⟨ga, 1, none⟩ = some (.int .i64 A.a) := (HD3.out.on HT5.out).a 1
  have a2 : w5.cell? ⟨ga, 2, none⟩ = some (.int .i64 A.b) := (HD3.out.on HT5.out).a 2
  have a3 : w5.cell? ⟨ga, 3, none⟩ = some ud := (HD3.out.on HT5.out).a 3
  have a4 : w5.cell? ⟨ga, 4, none⟩ = some uf := (HD3.out.on HT5.out).a 4
  have p0 : w5.cell? ⟨gp, 0, none⟩ = some (.pointer (some ⟨gd, 0, none⟩)) := (HD3.out.on HT5.out).p 0
  have p1 : w5.cell? ⟨gp, 1, none⟩ = some (.pointer (some ⟨gx, 0, none⟩)) := (HD3.out.on HT5.out).p 1
  have HRW := Hid.mk' (rwrite_all HT5.out HA.out HOK.out A.a (HT5.out.bf HBB.out) HBG.out HLE.out)
  rw [← HC2.out] at HRW
  go_wp2_with fail
  refine Calls.mono HRW.out ?_
  rintro e w6 ⟨rfl, x', ht6, ha6, hx6⟩
  have HT6 := Hid.mk' ht6
  have HA6 := Hid.mk' ha6
  have HX6 := Hid.mk' hx6
  have hnw : Nw w6 wb.heap.size vi xs := (HOI3.out.but ht6.but (fun j hj _ n => n (HGN.out j (HOI3.out.ge j hj).1 (HOI3.out.ge j hj).2))).nw
  obtain ⟨ao, cap, hv, hwr⟩ := hnw.wri
  rw [← HM.out] at hv hwr
  have HAO : Hid (∀ b, 0 < m → ao = some ⟨b, 0, none⟩ → G2 b) := fun b h0 e => by
    have h1 : vi.ownBlock = some b := by rw [hv, e]; rfl
    exact HGN.out b (HOI3.out.ge b h1).1 (HOI3.out.ge b h1).2
  subst hv
  have HW6 := Hid.mk' hwr
  clear a1 a2 a3 a4 p0 p1 ht6 ha6 hx6 hnw hwr HRW HT4 HT5 HBB HBI HOB3 HOI3
  go_wp2
  go_loopw [15] (fun iv wr => ∃ k : Nat, k ≤ m ∧ iv = .int .i64 (k : Int) ∧ Wri w6 wr wb.heap.size ao m) (fun iv _ => m - (intOf iv).toNat)
  case atStart => exact ⟨0, Nat.zero_le _, rfl, HW6.out⟩
  case round =>
    obtain ⟨k, hkm, rfl, hwri⟩ := hrel
    by_cases hlt : k < m
    · have hlt' : (k : Int) < (m : Int) := by omega
      obtain ⟨g', z, rfl, hz, cz, fz, hset⟩ := hwri.next hlt
      have hw1 : IntKind.u8.wrap ((z : Int) + 1) = (((z + 1) % 256 : Nat) : Int) := u8_next z hz
      obtain ⟨y, hy⟩ : ∃ y, y = (z + 1) % 256 := ⟨_, rfl⟩
      rw [← hy] at hw1
      have HS := Hid.mk' (hset y (by omega))
      clear hset hz hy hwri
      go_wp2
      exact ⟨⟨k + 1, by omega, by go_num, HS.out⟩, by simp [intOf]; omega⟩
    · have hlt' : ¬ ((k : Int) < (m : Int)) := by omega
      have HWR := Hid.mk' hwri
      clear hwri
      have hb1 : But (fun b => ¬ G b) wb w6 := (HG3.out.mono (fun _ _ h => h.elim)).then HT6.out.but (fun b _ hn hf => hn (HGI.out b hf))
      have hb2 : But (fun b => ¬ G b) wb wr := hb1.then HWR.out.but (fun b hb e hf => by
        obtain ⟨g', T, R, zs', e1, e2, -⟩ := HWR.out.ex e.1
        rw [e.2] at e1
        simp only [Option.some.injEq, Addr.mk.injEq, and_true] at e1
        omega)
      have ht := (HT6.out.turn (HWR.out.but.mono (fun b _ e => HAO.out b e.1 e.2))).less HGI.out HFL.out hb2
      have HE := Hid.mk' (HFIN.out _ _ _ _ ht HA6.out (wok_wrote HWK.out A.a xs) (keeps_wrote HB.out HX6.out A.a xs) (keeps_wrote HBG.out HX6.out A.a xs).1)
      clear hb1 hb2 ht
      go_wp2
      go_ret
      exact ⟨_, rfl, HE.out⟩
set_option maxRecDepth 100000 in
set_option maxHeartbeats 4000000 in
theorem fo_1b {F : Nat → Prop} {w0 w : World} {gd gx n : Nat} {s0 : Dev} {A : DA} {ud uf : Value} (h : DoIn2 F w0 w gd gx s0 n A ud uf) (hk : A.kind % 11 = 1) (h7 : ¬ A.b = 7) :
    Calls Try.prog 11 #[.agg #[.pointer (some ⟨gd, 0, none⟩), .pointer (some ⟨gx, 0, none⟩)], .agg (dcells A ud uf).toArray] w (DoIs2 F w0 gd gx s0 (n + 1)) := by
  have HIN := Hid.mk' h
  have HSM := Hid.mk' h.sm
  obtain ⟨wa, hwa⟩ : ∃ wa, wa = w.alloc (.cells #[.pointer (some ⟨gd, 0, none⟩), .pointer (some ⟨gx, 0, none⟩)] 28) := ⟨_, rfl⟩
  obtain ⟨wb, hwb⟩ : ∃ wb, wb = wa.alloc (.cells (dcells A ud uf).toArray 35) := ⟨_, rfl⟩
  obtain ⟨gp, hgp⟩ : ∃ gp, gp = w.heap.size := ⟨_, rfl⟩
  obtain ⟨ga, hga⟩ : ∃ ga, ga = wa.heap.size := ⟨_, rfl⟩
  obtain ⟨s, g, x, ha, hwk, hb, hbg, hok, hd, hfin⟩ := h.box2 hwa hwb hgp hga
  have HWK := Hid.mk' hwk
  have HBG := Hid.mk' hbg
  generalize FB F w wb = G at hd hfin
  have HA := Hid.mk' ha
  have HB := Hid.mk' hb
  have HOK := Hid.mk' hok
  have HD := Hid.mk' hd
  have HFIN := Hid.mk' hfin
  have HWA := Hid.mk' hwa
  have HWB := Hid.mk' hwb
  have HGP := Hid.mk' hgp
  have HGA : Hid (ga = w.heap.size + 1) := by show _ = _; rw [hga, hwa]; simp
  have HLE : Hid (n ≤ 1000) := Nat.le_trans h.le (by decide)
  have HPK := Hid.mk' (pick11 A.kind wb)
  rw [hk] at HPK
  have a0 : wb.cell? ⟨ga, 0, none⟩ = some (.int .i64 A.kind) := hd.a 0
  have a1 : wb.cell? ⟨ga, 1, none⟩ = some (.int .i64 A.a) := hd.a 1
  have a2 : wb.cell? ⟨ga, 2, none⟩ = some (.int .i64 A.b) := hd.a 2
  have a3 : wb.cell? ⟨ga, 3, none⟩ = some ud := hd.a 3
  have a4 : wb.cell? ⟨ga, 4, none⟩ = some uf := hd.a 4
  have p0 : wb.cell? ⟨gp, 0, none⟩ = some (.pointer (some ⟨gd, 0, none⟩)) := hd.p 0
  have p1 : wb.cell? ⟨gp, 1, none⟩ = some (.pointer (some ⟨gx, 0, none⟩)) := hd.p 1
  unfold dcells at HWB ⊢
  clear h ha hwk hb hbg hok hd hfin hwa hwb hgp hga hk
  go_enter Try.func11, Try.ntmps11
  go_upto_region 1 with fail
  rw [← HWA.out, ← HWB.out, ← HGA.out, ← HGP.out]
  go_wp2_with fail
  refine Calls.mono HPK.out ?_
  rintro e w1 ⟨rfl, hw1⟩
  have h2 := hw1.symm
  subst h2
  clear hw1 HPK HIN HWA HWB HGA HGP
  obtain ⟨xs, hxs⟩ : ∃ xs, xs = (fullOf A.dat) := ⟨_, rfl⟩
  have HXS := Hid.mk' hxs
  obtain ⟨m, hm⟩ : ∃ m, m = xs.length := ⟨_, rfl⟩
  have HM := Hid.mk' hm
  have hmn : m ≤ 1000 := by
    have := (fullOf_wf HD.out.dat.1.1).1
    rw [hm, hxs]
    omega
  have HMN := Hid.mk' hmn
  have hmb : (m : Int) ≤ 1000 := by omega
  obtain ⟨c, hc⟩ : ∃ c, c = s.wcode A.a xs := ⟨_, rfl⟩
  have HC := Hid.mk' hc
  obtain ⟨c2, hc2⟩ : ∃ c, c = g.wcode A.a xs := ⟨_, rfl⟩
  have HC2 := Hid.mk' hc2
  obtain ⟨rr, hrr⟩ : ∃ rr, (c == c2) = rr := ⟨_, rfl⟩
  clear hc2
  have HFU := Hid.mk' (full_any HD.out.dat.1)
  clear hc hxs hm hmn
  go_wp2_with fail
  refine Calls.mono HFU.out ?_
  rintro e w1 ⟨⟨gf, rfl, hgf, hof⟩, hg1⟩
  have HT1 := Hid.mk' (HD.out.tf.then hg1)
  have HG1 := Hid.mk' hg1
  have HOB : Hid (Ow w1 wb.heap.size (.slice (some ⟨gf, 0, none⟩) 256 256) xs) := by rw [HXS.out]; exact hof
  clear a0 a1 a2 a3 a4 p0 p1 hgf hof hg1 HFU
  have a1 : w1.cell? ⟨ga, 1, none⟩ = some (.int .i64 A.a) := (HD.out.on HT1.out).a 1
  have a2 : w1.cell? ⟨ga, 2, none⟩ = some (.int .i64 A.b) := (HD.out.on HT1.out).a 2
  have a3 : w1.cell? ⟨ga, 3, none⟩ = some ud := (HD.out.on HT1.out).a 3
  have a4 : w1.cell? ⟨ga, 4, none⟩ = some uf := (HD.out.on HT1.out).a 4
  have p0 : w1.cell? ⟨gp, 0, none⟩ = some (.pointer (some ⟨gd, 0, none⟩)) := (HD.out.on HT1.out).p 0
  have p1 : w1.cell? ⟨gp, 1, none⟩ = some (.pointer (some ⟨gx, 0, none⟩)) := (HD.out.on HT1.out).p 1
  have HCI := Hid.mk' (copy_any HOB.out.bs (by have := HMN.out; have := HM.out; omega))
  go_wp2_with fail
  refine Calls.mono HCI.out ?_
  rintro e w3 h23
  obtain ⟨vi, rfl, hoi, hbl⟩ := h23
  have hg23 : Grow w1 w3 := But.of hbl
  clear hbl
  have HG3 : Hid (Grow wb w3) := HG1.out.trans hg23
  have HOB3 : Hid (Ow w3 wb.heap.size (.slice (some ⟨gf, 0, none⟩) 256 256) xs) := HOB.out.but hg23 (fun _ _ _ h => h)
  have HOI3 : Hid (Ow w3 wb.heap.size vi xs) := hoi.mono HG1.out.size
  have HD3 := Hid.mk' (HD.out.add HG3.out)
  have HFL : Hid (∀ k, G k → k < wb.heap.size) := HD.out.tf.fl
  generalize hG2 : (fun b => G b ∨ (wb.heap.size ≤ b ∧ b < w3.heap.size)) = G2 at HD3
  have HGI : Hid (∀ k, G k → G2 k) := fun k hk => by rw [← hG2]; exact .inl hk
  have HGN : Hid (∀ k, wb.heap.size ≤ k → k < w3.heap.size → G2 k) := fun k h1 h2 => by rw [← hG2]; exact .inr ⟨h1, h2⟩
  have HBB : Hid (Bf w3 G2 (.slice (some ⟨gf, 0, none⟩) 256 256) xs) := ⟨HOB3.out.bs, fun _ j hj => HGN.out j (HOB3.out.ge j hj).1 (HOB3.out.ge j hj).2⟩
  have HBI : Hid (Bf w3 G2 vi xs) := ⟨HOI3.out.bs, fun _ j hj => HGN.out j (HOI3.out.ge j hj).1 (HOI3.out.ge j hj).2⟩
  clear a1 a2 a3 a4 p0 p1 hG2 hoi hg23 HCI HOB
  have a1 : w3.cell? ⟨ga, 1, none⟩ = some (.int .i64 A.a) := HD3.out.a 1
  have a2 : w3.cell? ⟨ga, 2, none⟩ = some (.int .i64 A.b) := HD3.out.a 2
  have a3 : w3.cell? ⟨ga, 3, none⟩ = some ud := HD3.out.a 3
  have a4 : w3.cell? ⟨ga, 4, none⟩ = some uf := HD3.out.a 4
  have p0 : w3.cell? ⟨gp, 0, none⟩ = some (.pointer (some ⟨gd, 0, none⟩)) := HD3.out.p 0
  have p1 : w3.cell? ⟨gp, 1, none⟩ = some (.pointer (some ⟨gx, 0, none⟩)) := HD3.out.p 1
  have HWR3 := Hid.mk' (dwrite_all HD3.out.tf A.a HBI.out HB.out HLE.out)
  rw [← HC.out] at HWR3
  go_wp2_with fail
  refine Calls.mono HWR3.out ?_
  rintro e w4 ⟨rfl, ht4⟩
  have HT4 := Hid.mk' ht4
  clear a1 a2 a3 a4 p0 p1 ht4 HWR3
  have a1 : w4.cell? ⟨ga, 1, none⟩ = some (.int .i64 A.a) := (HD3.out.on HT4.out).a 1
  have a2 : w4.cell? ⟨ga, 2, none⟩ = some (.int .i64 A.b) := (HD3.out.on HT4.out).a 2
  have a3 : w4.cell? ⟨ga, 3, none⟩ = some ud := (HD3.out.on HT4.out).a 3
  have a4 : w4.cell? ⟨ga, 4, none⟩ = some uf := (HD3.out.on HT4.out).a 4
  have p0 : w4.cell? ⟨gp, 0, none⟩ = some (.pointer (some ⟨gd, 0, none⟩)) := (HD3.out.on HT4.out).p 0
  have p1 : w4.cell? ⟨gp, 1, none⟩ = some (.pointer (some ⟨gx, 0, none⟩)) := (HD3.out.on HT4.out).p 1
  have HSA := Hid.mk' (same_any (HT4.out.bf HBI.out).1 (HT4.out.bf HBB.out).1)
  rw [decide_eq_true rfl] at HSA
  go_wp2_with fail
  refine Calls.mono HSA.out ?_
  rintro e w5 ⟨rfl, hd5⟩
  have hg5 : Grow w4 w5 := by obtain ⟨d, rfl⟩ := hd5; exact (But.refl _ w4).drewN
  have HT5 := Hid.mk' (HT4.out.then hg5)
  clear a1 a2 a3 a4 p0 p1 hd5 hg5 HSA
  have a1 : w5.cell? ⟨ga, 1, none⟩ = some (.int .i64 A.a) := (HD3.out.on HT5.out).a 1
  have a2 : w5.cell? ⟨ga, 2, none⟩ = some (.int .i64 A.b) := (HD3.out.on HT5.out).a 2
  have a3 : w5.cell? ⟨ga, 3, none⟩ = some ud := (HD3.out.on HT5.out).a 3
  have a4 : w5.cell? ⟨ga, 4, none⟩ = some uf := (HD3.out.on HT5.out).a 4
  have p0 : w5.cell? ⟨gp, 0, none⟩ = some (.pointer (some ⟨gd, 0, none⟩)) := (HD3.out.on HT5.out).p 0
  have p1 : w5.cell? ⟨gp, 1, none⟩ = some (.pointer (some ⟨gx, 0, none⟩)) := (HD3.out.on HT5.out).p 1
  have HRW := Hid.mk' (rwrite_all HT5.out HA.out HOK.out A.a (HT5.out.bf HBB.out) HBG.out HLE.out)
  rw [← HC2.out] at HRW
  go_wp2_with fail
  refine Calls.mono HRW.out ?_
  rintro e w6 ⟨rfl, x', ht6, ha6, hx6⟩
  have HT6 := Hid.mk' ht6
  have HA6 := Hid.mk' ha6
  have HX6 := Hid.mk' hx6
  have hnw : Nw w6 wb.heap.size vi xs := (HOI3.out.but ht6.but (fun j hj _ n => n (HGN.out j (HOI3.out.ge j hj).1 (HOI3.out.ge j hj).2))).nw
  obtain ⟨ao, cap, hv, hwr⟩ := hnw.wri
  rw [← HM.out] at hv hwr
  have HAO : Hid (∀ b, 0 < m → ao = some ⟨b, 0, none⟩ → G2 b) := fun b h0 e => by
    have h1 : vi.ownBlock = some b := by rw [hv, e]; rfl
    exact HGN.out b (HOI3.out.ge b h1).1 (HOI3.out.ge b h1).2
  subst hv
  have HW6 := Hid.mk' hwr
  clear a1 a2 a3 a4 p0 p1 ht6 ha6 hx6 hnw hwr HRW HT4 HT5 HBB HBI HOB3 HOI3
  go_wp2
  go_loopw [15] (fun iv wr => ∃ k : Nat, k ≤ m ∧ iv = .int .i64 (k : Int) ∧ Wri w6 wr wb.heap.size ao m) (fun iv _ => m - (intOf iv).toNat)
  case atStart => exact ⟨0, Nat.zero_le _, rfl, HW6.out⟩
  case round =>
    obtain ⟨k, hkm, rfl, hwri⟩ := hrel
    by_cases hlt : k < m
    · have hlt' : (k : Int) < (m : Int) := by omega
      obtain ⟨g', z, rfl, hz, cz, fz, hset⟩ := hwri.next hlt
      have hw1 : IntKind.u8.wrap ((z : Int) + 1) = (((z + 1) % 256 : Nat) : Int) := u8_next z hz
      obtain ⟨y, hy⟩ : ∃ y, y = (z + 1) % 256 := ⟨_, rfl⟩
      rw [← hy] at hw1
      have HS := Hid.mk' (hset y (by omega))
      clear hset hz hy hwri
      go_wp2
      exact ⟨⟨k + 1, by omega, by go_num, HS.out⟩, by simp [intOf]; omega⟩
    · have hlt' : ¬ ((k : Int) < (m : Int)) := by omega
      have HWR := Hid.mk' hwri
      clear hwri
      have hb1 : But (fun b => ¬ G b) wb w6 := (HG3.out.mono (fun _ _ h => h.elim)).then HT6.out.but (fun b _ hn hf => hn (HGI.out b hf))
      have hb2 : But (fun b => ¬ G b) wb wr := hb1.then HWR.out.but (fun b hb e hf => by
        obtain ⟨g', T, R, zs', e1, e2, -⟩ := HWR.out.ex e.1
        rw [e.2] at e1
        simp only [Option.some.injEq, Addr.mk.injEq, and_true] at e1
        omega)
      have ht := (HT6.out.turn (HWR.out.but.mono (fun b _ e => HAO.out b e.1 e.2))).less HGI.out HFL.out hb2
      have HE := Hid.mk' (HFIN.out _ _ _ _ ht HA6.out (wok_wrote HWK.out A.a xs) (keeps_wrote HB.out HX6.out A.a xs) (keeps_wrote HBG.out HX6.out A.a xs).1)
      clear hb1 hb2 ht
      go_wp2
      go_ret
      exact ⟨_, rfl, HE.out⟩
end Go.Proofs.Ytfgcbcopgikodaa
