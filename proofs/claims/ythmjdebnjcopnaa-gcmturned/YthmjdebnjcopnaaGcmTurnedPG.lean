/- What was sealed, of which one byte is turned, is refused; so it is with a byte turned of what goes along, and under a nonce of which a byte is turned (1000 bytes at most; but for a key by which sixteen bytes 00 become sixteen bytes 00, as the statement itself says). No other condition. -/
import Derived.Test.YthmjdebnjcopnaaAllG
namespace Go.Proofs.Ythmjdebnjcopnaa
open Go.ChangeShapes Go.WideShapes Go.ChangeAt Go.RowKit

theorem zero12 (w : World) : (zeroValue 23).run Try.prog w = .ok (.agg (u8s (List.replicate 12 0)).toArray) w := by kernel_rfl
theorem other_ne {nc : List B8} {j : Nat} {y : B8} (hj : j < nc.length) (hy : y ≠ 0#8) : nc ≠ nc.set j (at8 nc j ^^^ y) := by
  intro e
  have e1 := congrArg (fun l => at8 l j) e
  simp only [at8_set _ _ _ _ hj, if_true] at e1
  have e2 := congrArg (fun z => at8 nc j ^^^ z) e1
  exact hy (by simpa only [← BitVec.xor_assoc, BitVec.xor_self, BitVec.zero_xor] using e2.symm)
set_option maxRecDepth 100000 in
set_option maxHeartbeats 16000000 in
theorem gcmTurned_walk (v0 : Value) (zs : List Nat) (u : Value) (nc : List B8) (v1 : Value) (xs : List Nat) (v2 : Value) (ys : List Nat) (at0 by0 : Int) (w : World) (h0 : Bs w v0 zs ∧ zs.length ≤ 140737488351232) (hn : nc.length = 12 ∧ u = .agg (u8s (nts nc)).toArray) (h1 : Bs w v1 xs ∧ xs.length ≤ 140737488351232) (h2 : Bs w v2 ys ∧ ys.length ≤ 140737488351232) (hat : (Lit.int .i64 at0).wf = true) (hby : (Lit.int .u8 by0).wf = true) :
    Calls Try.prog 6 #[v0, u, v1, v2, .int .i64 at0, .int .u8 by0] w fun e w' => e = .returned (.bool true) ∧ Below w.heap.size w w' := by
  obtain ⟨y, rfl⟩ := byte_of hby
  have HAT := Hid.mk' hat
  clear hby hat
  obtain ⟨hn, rfl⟩ := hn
  obtain ⟨h0, -⟩ := h0
  obtain ⟨h1, hb1⟩ := h1
  obtain ⟨h2, hb2⟩ := h2
  obtain ⟨key, rfl⟩ := h0.bytes
  have hzk := zeroK
  obtain ⟨Z, hZ⟩ : ∃ Z, Z = zeroKey.toArray := ⟨_, rfl⟩
  rw [← hZ] at hzk
  have HZ := Hid.mk' hZ
  obtain ⟨C, hC⟩ : ∃ C, C = (u8s (nts nc)).toArray := ⟨_, rfl⟩
  rw [← hC]
  obtain ⟨g, hg⟩ : ∃ g, g = w.heap.size := ⟨_, rfl⟩
  obtain ⟨W0, hW0⟩ : ∃ W0, W0 = w.alloc (.cells C 23) := ⟨_, rfl⟩
  have hT0 : But (fun _ => False) w W0 := by rw [hW0]; exact (But.refl _ w).alloc _
  have HNB : Hid (Blk W0 g 23 (u8s (nts nc))) := by rw [hW0, hC]; exact Blk.new hg.symm
  have HK := Hid.mk' (h0.but hT0 (fun _ _ _ h => h))
  have H1 := Hid.mk' (h1.but hT0 (fun _ _ _ h => h))
  have H2 := Hid.mk' (h2.but hT0 (fun _ _ _ h => h))
  have HNN : Hid ((nts nc).length = 12) := by show _ = _; rw [nts_len]; exact hn
  have HN := Hid.mk' hn
  have HT0 := Hid.mk' hT0
  obtain ⟨ao1, c1, rfl, -, -⟩ := h1.gen
  obtain ⟨ao2, c2, rfl, -, -⟩ := h2.gen
  obtain ⟨A, hA⟩ : ∃ A, A = xs.length := ⟨_, rfl⟩
  obtain ⟨D, hD⟩ : ∃ D, D = ys.length := ⟨_, rfl⟩
  rw [← hA] at hb1 H1 ⊢
  rw [← hD] at hb2 H2 ⊢
  have HA := Hid.mk' hA
  have HD := Hid.mk' hD
  have HG := Hid.mk' hg
  have HW0 := Hid.mk' hW0
  have HC := Hid.mk' hC
  clear hn hC hg hW0 hT0 h0 h1 h2 hA hD hZ
  by_cases hk : key.length = 16 ∨ key.length = 32
  · have HNW := Hid.mk' (gnew_any HK.out hk)
    have HWL := Hid.mk' (wlen hk)
    have HKL := Hid.mk' hk
    obtain ⟨W, hW⟩ : ∃ W, W = words key := ⟨_, rfl⟩
    rw [← hW] at HNW HWL
    have HWE := Hid.mk' hW
    clear hk hW
    go_enter Try.func6, Try.ntmps6
    go_wp2_with fail
    rw [← HW0.out, ← HG.out]
    refine Calls.mono HNW.out ?_
    rintro e w1 ⟨gx, rfl, hbx, hb⟩
    have HRN := Hid.mk' (rnew_any (HK.out.but hb (fun _ _ _ h => h)) HKL.out)
    rw [← HWE.out] at HRN
    have HX1 := Hid.mk' hbx
    have HB1 := Hid.mk' hb
    clear hbx hb HNW HW0
    go_wp2_with fail
    refine Calls.mono HRN.out ?_
    rintro e w2 ⟨vW, rfl, hwr, hb⟩
    have HB2 := Hid.mk' (HB1.out.trans hb)
    have HX2 := Hid.mk' (And.intro (HX1.out.but hb (fun _ _ h => h)) hb.size)
    have HWR := Hid.mk' hwr
    obtain ⟨gv, cv, hvw, -, -⟩ := id hwr
    have HON : Hid (∀ u ∈ keyV vW, u.oneCell' = true) := by show ∀ u ∈ keyV vW, u.oneCell' = true; rw [hvw]; exact keyV_one _ _ _
    obtain ⟨KL, hKL⟩ : ∃ KL, KL = keyV vW := ⟨_, rfl⟩
    rw [← hKL] at HON ⊢
    have HKN : Hid (KL.length = 513) := by show _ = _; rw [hKL]; exact keyV_len _
    have HKE := Hid.mk' hKL
    have HK0 : Hid (Blk (w2.alloc (.cells Z 31)) w2.heap.size 31 zeroKey) := by show Blk _ _ _ _; rw [HZ.out]; exact Blk.new rfl
    clear hb hwr hvw hKL HRN HX1 HB1
    go_upto_region 3 with (refine wpList_store_key rfl _ _ rfl w2.heap.size KL HKN.out HON.out rfl (by rfl) HK0.out ?_; intro w3 hb3 hbut3)
    obtain ⟨gk, hgk⟩ : ∃ gk, gk = w2.heap.size := ⟨_, rfl⟩
    rw [← hgk] at hb3 hbut3 ⊢
    rw [HKE.out] at hb3 ⊢
    have HS3 := Hid.mk' (St.start (HNB.out.but HB2.out (fun h => h)) HX2.out.1 HX2.out.2 HWR.out (H1.out.but HB2.out (fun _ _ _ h => h)) (H2.out.but HB2.out (fun _ _ _ h => h)) (HT0.out.trans HB2.out) hgk hb3 hbut3)
    obtain ⟨top, htop⟩ : ∃ top, top = w3.heap.size := ⟨_, rfl⟩
    rw [← htop] at HS3
    have HTP := Hid.mk' htop
    clear hb3 hbut3 hgk htop HNB HX2 HWR HB2 H1 H2 HT0 HK0 HKE HKN HON HZ hzk
    go_wp2_with fail
    refine Calls.mono great_any ?_
    rintro e w' ⟨rfl, hw'⟩
    have hw2 := hw'.symm
    subst hw2
    clear hw'
    by_cases hgr : 1000 < A ∨ 1000 < D
    · rw [decide_eq_true hgr]
      go_wp2_with fail
      refine Calls.mono (awake_any _) ?_
      rintro e wz ⟨rfl, hbz⟩
      have HTZ := Hid.mk' (HS3.out.but.trans hbz)
      clear hbz
      go_wp2
      go_ret
      exact ⟨rfl, HTZ.out.below (Nat.le_refl _) (fun _ _ h => h)⟩
    · rw [decide_eq_false hgr]
      have hA1 : A ≤ 1000 := by omega
      have hD1 : D ≤ 1000 := by omega
      clear hgr hb1 hb2
      by_cases hy0 : y = 0#8
      · have hyb : ((b8 y : Int) == 0) = true := by rw [hy0]; rfl
        clear hy0
        go_wp2_with fail
        refine Calls.mono (awake_any _) ?_
        rintro e wz ⟨rfl, hbz⟩
        have HTZ := Hid.mk' (HS3.out.but.trans hbz)
        clear hbz
        go_wp2
        go_ret
        exact ⟨rfl, HTZ.out.below (Nat.le_refl _) (fun _ _ h => h)⟩
      · have hyb : ((b8 y : Int) == 0) = false := by
          have : b8 y ≠ 0 := fun e => hy0 (b8_inj e)
          simp; omega
        have HY := Hid.mk' hy0
        clear hy0
        have HHS := Hid.mk' (rhash_any HS3.out.wds HWL.out)
        obtain ⟨X, hX⟩ : ∃ X, X = (u8s (nts (ghk W))).toArray := ⟨_, rfl⟩
        rw [← hX] at HHS
        have heq : ∀ w', (Op.equalIn 10000 44 (.agg X) (.agg #[.int .u8 0, .int .u8 0, .int .u8 0, .int .u8 0, .int .u8 0, .int .u8 0, .int .u8 0, .int .u8 0, .int .u8 0, .int .u8 0, .int .u8 0, .int .u8 0, .int .u8 0, .int .u8 0, .int .u8 0, .int .u8 0])).run Try.prog w' = .ok (decide (ghk W = gzero)) w' := by
          intro w'
          rw [hX, ← lit16]
          exact equal16 _ _ (ghk_len W) (by simp [gzero]) w'
        clear hX
        go_wp2_with (first
          | (refine wpList_load_key_g rfl _ rfl gk rfl HS3.out.key ?_)
          | fail)
        refine Calls.mono HHS.out ?_
        rintro e w4 ⟨rfl, hb⟩
        have HS4 := Hid.mk' (HS3.out.then hb)
        clear hb HHS HS3
        by_cases hgz : ghk W = gzero
        · have heq4 := heq w4
          rw [decide_eq_true hgz] at heq4
          clear heq hgz
          go_wp2_with fail
          refine Calls.mono (awake_any _) ?_
          rintro e wz ⟨rfl, hbz⟩
          have HTZ := Hid.mk' (HS4.out.but.trans hbz)
          clear hbz
          go_wp2
          go_ret
          exact ⟨rfl, HTZ.out.below (Nat.le_refl _) (fun _ _ h => h)⟩
        · have heq4 := heq w4
          rw [decide_eq_false hgz] at heq4
          have HGZ := Hid.mk' hgz
          clear heq hgz
          have HSE := Hid.mk' (gseal_any HS4.out.box HWL.out HN.out HS4.out.aad HS4.out.txt (by rw [← HA.out]; omega) (by rw [← HD.out]; omega))
          obtain ⟨s, hs⟩ : ∃ s, s = gseal W nc xs ys := ⟨_, rfl⟩
          have HSL : Hid (s.length = D + 16) := by show _ = _; rw [hs, gseal_len, ← HD.out]
          rw [← HC.out, ← hs] at HSE
          have HSS := Hid.mk' hs
          clear hs
          go_wp2_with (first
            | (refine wpList_load_u8s Try.underlying23 i12 rfl _ rfl g (nts nc) HNN.out rfl HS4.out.non ?_; rw [← HC.out])
            | fail)
          refine Calls.mono HSE.out ?_
          rintro e w5 ⟨vs, rfl, ho, hb⟩
          have HS5 := Hid.mk' (HS4.out.then hb)
          obtain ⟨gs, cs, R, hvs, -⟩ := ho.open (by rw [HSL.out]; omega)
          rw [HSL.out] at hvs
          subst hvs
          have HO5 := Hid.mk' ho
          have HGS := Hid.mk' (ho.ge gs rfl).2
          have HCP := Hid.mk' (copy_any ho.bs (by rw [HSL.out]; omega))
          have hlen : (((D + 16 : Nat) : Int) != (D : Int) + 16) = false := by simp
          clear ho hb R HSE HS4 heq4
          go_wp2_with fail
          refine Calls.mono HCP.out ?_
          rintro e w6 ⟨vt, rfl, ht, hbel⟩
          have hb : But (fun _ => False) w5 w6 := But.of hbel
          have HS6 := Hid.mk' (HS5.out.then hb)
          have HO6 := Hid.mk' (HO5.out.but hb (fun _ _ _ h => h))
          obtain ⟨gt, ct, R, hvt, hgt, -⟩ := ht.open (by rw [HSL.out]; omega)
          rw [HSL.out] at hvt
          subst hvt
          have HT6 := Hid.mk' ht
          have HGT : Hid (top ≤ gt ∧ gs ≠ gt) := by
            have h1 := HS5.out.tp
            have h2 := HGS.out
            exact ⟨by omega, by omega⟩
          have HPK := Hid.mk' (pickOf_any at0 (D + 16) HAT.out (by omega) (by omega) w6)
          clear ht hb hbel hgt R HCP HS5 HO5 HGS hlen
          go_wp2_with fail
          refine Calls.mono HPK.out ?_
          rintro e w' ⟨k, rfl, hk, hw'⟩
          have hw2 := hw'.symm
          subst hw2
          clear hw' HPK
          obtain ⟨x, hx⟩ : ∃ x, x = bt s k := ⟨_, rfl⟩
          have hlt : s.getD k 0 < 256 := HT6.out.lt _ (getD_mem s k (by rw [HSL.out]; exact hk))
          have c1 : w6.cell? ⟨gt, k, none⟩ = some (.int .u8 (b8 x : Int)) := by
            rw [HT6.out.cellAt k (by rw [HSL.out]; exact hk), hx, bt_getD s k hlt]
          have f1 : w6.frozen? ⟨gt, k, none⟩ = false := HT6.out.freeAt (by rw [HSL.out]; omega) k
          have hxor := xor_b8 x y
          have hki : (k : Int) < (D : Int) + 16 := by omega
          have HXX := Hid.mk' hx
          have HKK := Hid.mk' hk
          clear hx hlt hk
          go_upto_region 11 with fail
          have ho7 := HT6.out.setAt (i := k) (y := b8 (x ^^^ y)) HSL.out (by rw [HSL.out]; exact HKK.out) (b8_lt _)
          have hb7 : But (· = gt) w6 (w6.setCell ⟨gt, k, none⟩ (.int .u8 (b8 (x ^^^ y) : Nat))) := (But.refl (· = gt) w6).setCell (p := ⟨gt, k, none⟩) (fun _ => rfl) _
          generalize w6.setCell ⟨gt, k, none⟩ (.int .u8 (b8 (x ^^^ y) : Nat)) = w7 at *
          have hgt := HGT.out
          have HS7 := Hid.mk' (HS6.out.put hb7 (fun j hj e => by omega))
          have HO7 := Hid.mk' (HO6.out.but hb7 (fun j hj _ e => by cases hj; exact hgt.2 e))
          have HOP := Hid.mk' (gopen_any HS7.out.box HWL.out HN.out HS7.out.aad ho7.bs (by rw [← HA.out]; omega) (by rw [List.length_set, HSL.out]; omega))
          have hbad : good W nc xs (s.set k (b8 (x ^^^ y))) = false := by
            rw [HXX.out, HSS.out]
            exact turned_bad HGZ.out (by rw [← HD.out]; exact HKK.out) HY.out
          rw [gcode_bad (by rw [List.length_set, HSL.out]; omega) hbad, gplain_bad hbad, ← HC.out] at HOP
          clear ho7 hb7 hgt hbad c1 f1 hxor hki HS6 HO6 HT6 HGT HKK HXX
          go_wp2_with (first
            | (refine wpList_load_u8s Try.underlying23 i12 rfl _ rfl g (nts nc) HNN.out rfl HS7.out.non ?_; rw [← HC.out])
            | fail)
          refine Calls.mono HOP.out ?_
          rintro e w8 ⟨vp, rfl, hp, hb⟩
          obtain ⟨ap, cp, rfl, -, -⟩ := hp.gen
          rw [List.length_nil]
          have HS8 := Hid.mk' (HS7.out.then hb)
          have HO8 := Hid.mk' (HO7.out.but hb (fun _ _ _ h => h))
          have hz12 := zero12
          obtain ⟨Y, hYY⟩ : ∃ Y, Y = (u8s (List.replicate 12 0)).toArray := ⟨_, rfl⟩
          rw [← hYY] at hz12
          obtain ⟨go, hgo⟩ : ∃ go, go = w8.heap.size := ⟨_, rfl⟩
          have HGO := Hid.mk' hgo
          have HA8 : Hid (Blk (w8.alloc (.cells Y 23)) go 23 (u8s (List.replicate 12 0))) := by rw [hYY]; exact Blk.new hgo.symm
          clear hp hb hYY hgo HOP HS7 HO7
          go_upto_region 15 with (first
            | (refine wpList_load_u8s Try.underlying23 i12 rfl _ rfl g (nts nc) HNN.out rfl HS8.out.non ?_)
            | (rw [← HGO.out]; refine wpList_store_u8s i12 rfl _ _ rfl go (nts nc) HNN.out rfl (by exact rfl) _ (by simp [u8s]) HA8.out ?_; intro w9 hn9 hb9)
            | fail)
          have hb89 : But (fun _ => False) w8 w9 := ((But.refl _ w8).alloc (.cells Y 23)).then hb9 (fun j hj e => by have := HGO.out; omega)
          have HS9 := Hid.mk' (HS8.out.then hb89)
          have HO9 := Hid.mk' (HO8.out.but hb89 (fun _ _ _ h => h))
          have HN9 := Hid.mk' hn9
          have HGT : Hid (top ≤ go ∧ gs ≠ go) := by
            have h1 := HS8.out.tp
            have h2 := (HO8.out.ge gs rfl).2
            have h3 := HGO.out
            exact ⟨by omega, by omega⟩
          have HPK := Hid.mk' (pickOf_any at0 12 HAT.out (by omega) (by omega) w9)
          clear hn9 hb9 hb89 HS8 HO8 HA8 HGO hz12
          go_wp2_with fail
          refine Calls.mono HPK.out ?_
          rintro e w' ⟨k, rfl, hk, hw'⟩
          have hw2 := hw'.symm
          subst hw2
          clear hw' HPK
          have c1 : w9.cell? ⟨go, k, none⟩ = some (.int .u8 (b8 (at8 nc k) : Nat)) := blk_nts HN9.out k (by rw [HN.out]; exact hk)
          have f1 : w9.frozen? ⟨go, k, none⟩ = false := HN9.out.free k
          obtain ⟨x, hx⟩ : ∃ x, x = at8 nc k := ⟨_, rfl⟩
          rw [← hx] at c1
          have hxor := xor_b8 x y
          have hki : (k : Int) < 12 := by omega
          have HXX := Hid.mk' hx
          have HKK := Hid.mk' hk
          clear hx hk
          go_upto_region 16 with fail
          have hn10 := blk_nts_set HN9.out k (x ^^^ y)
          have hb10 : But (· = go) w9 (w9.setCell ⟨go, k, none⟩ (.int .u8 (b8 (x ^^^ y) : Nat))) := (But.refl (· = go) w9).setCell (p := ⟨go, k, none⟩) (fun _ => rfl) _
          generalize w9.setCell ⟨go, k, none⟩ (.int .u8 (b8 (x ^^^ y) : Nat)) = w10 at *
          have hgt := HGT.out
          have HS10 := Hid.mk' (HS9.out.put hb10 (fun j hj e => by omega))
          have HO10 := Hid.mk' (HO9.out.but hb10 (fun j hj _ e => by cases hj; exact hgt.2 e))
          obtain ⟨no, hno⟩ : ∃ no, no = nc.set k (x ^^^ y) := ⟨_, rfl⟩
          have HNOL : Hid (no.length = 12) := by show _ = _; rw [hno, List.length_set]; exact HN.out
          have HNON : Hid ((nts no).length = 12) := by show _ = _; rw [nts_len]; exact HNOL.out
          rw [← hno] at hn10
          have HN10 := Hid.mk' hn10
          have HOP := Hid.mk' (gopen_any HS10.out.box HWL.out HNOL.out HS10.out.aad HO10.out.bs (by rw [← HA.out]; omega) (by rw [HSL.out]; omega))
          have hbad : good W no xs s = false := by
            rw [HSS.out]
            refine nonce_bad HN.out HNOL.out ?_
            rw [hno, HXX.out]
            exact other_ne (by rw [HN.out]; exact HKK.out) HY.out
          rw [gcode_bad (by rw [HSL.out]; omega) hbad, gplain_bad hbad] at HOP
          clear hn10 hb10 hgt hbad c1 f1 hxor hki hno HS9 HO9 HN9 HGT HKK HXX
          go_wp2_with (first
            | (refine wpList_load_u8s Try.underlying23 i12 rfl _ rfl go (nts no) HNON.out rfl HN10.out ?_)
            | fail)
          refine Calls.mono HOP.out ?_
          rintro e w11 ⟨vq, rfl, -, hb⟩
          have HS11 := Hid.mk' (HS10.out.then hb)
          have HO11 := Hid.mk' (HO10.out.but hb (fun _ _ _ h => h))
          clear hb HOP HS10 HO10 HN10
          by_cases hA0 : A = 0
          · have hA0i : ((A : Int) == 0) = true := by rw [hA0]; rfl
            clear hA0
            go_wp2_with fail
            refine Calls.mono (awake_any _) ?_
            rintro e wz ⟨rfl, hbz⟩
            have HTZ := Hid.mk' (HS11.out.but.trans hbz)
            clear hbz
            go_wp2
            go_ret
            exact ⟨rfl, HTZ.out.below (Nat.le_refl _) (fun _ _ h => h)⟩
          · have hA0i : ((A : Int) == 0) = false := by simp; omega
            have HA0 := Hid.mk' hA0
            clear hA0
            have HCP := Hid.mk' (copy_any HS11.out.aad (by rw [← HA.out]; omega))
            go_wp2_with fail
            refine Calls.mono HCP.out ?_
            rintro e w12 ⟨va, rfl, ht, hbel⟩
            have hb : But (fun _ => False) w11 w12 := But.of hbel
            have HS12 := Hid.mk' (HS11.out.then hb)
            have HO12 := Hid.mk' (HO11.out.but hb (fun _ _ _ h => h))
            obtain ⟨ga, ca, R, hva, hga, -⟩ := ht.open (by rw [← HA.out]; have := HA0.out; omega)
            rw [← HA.out] at hva
            subst hva
            have HT12 := Hid.mk' ht
            have HGT : Hid (top ≤ ga ∧ gs ≠ ga) := by
              have h1 := HS11.out.tp
              have h2 := (HO11.out.ge gs rfl).2
              exact ⟨by omega, by omega⟩
            have HPK := Hid.mk' (pickOf_any at0 A HAT.out (by have := HA0.out; omega) (by omega) w12)
            clear ht hb hbel hga R HCP HS11 HO11
            go_wp2_with fail
            refine Calls.mono HPK.out ?_
            rintro e w' ⟨k, rfl, hk, hw'⟩
            have hw2 := hw'.symm
            subst hw2
            clear hw' HPK
            obtain ⟨x, hx⟩ : ∃ x, x = bt xs k := ⟨_, rfl⟩
            have hlt : xs.getD k 0 < 256 := HT12.out.lt _ (getD_mem xs k (by rw [← HA.out]; exact hk))
            have c1 : w12.cell? ⟨ga, k, none⟩ = some (.int .u8 (b8 x : Int)) := by
              rw [HT12.out.cellAt k (by rw [← HA.out]; exact hk), hx, bt_getD xs k hlt]
            have f1 : w12.frozen? ⟨ga, k, none⟩ = false := HT12.out.freeAt (by rw [← HA.out]; have := HA0.out; omega) k
            have hxor := xor_b8 x y
            have hki : (k : Int) < (A : Int) := by omega
            have HXX := Hid.mk' hx
            have HKK := Hid.mk' hk
            clear hx hlt hk
            go_upto_region 23 with fail
            have ho13 := HT12.out.setAt (i := k) (y := b8 (x ^^^ y)) HA.out.symm (by rw [← HA.out]; exact HKK.out) (b8_lt _)
            have hb13 : But (· = ga) w12 (w12.setCell ⟨ga, k, none⟩ (.int .u8 (b8 (x ^^^ y) : Nat))) := (But.refl (· = ga) w12).setCell (p := ⟨ga, k, none⟩) (fun _ => rfl) _
            generalize w12.setCell ⟨ga, k, none⟩ (.int .u8 (b8 (x ^^^ y) : Nat)) = w13 at *
            have hgt := HGT.out
            have HS13 := Hid.mk' (HS12.out.put hb13 (fun j hj e => by omega))
            have ho := HO12.out.but hb13 (fun j hj _ e => by cases hj; exact hgt.2 e)
            have HOP := Hid.mk' (gopen_any HS13.out.box HWL.out HN.out ho13.bs ho.bs (by rw [List.length_set, ← HA.out]; omega) (by rw [HSL.out]; omega))
            have hbad : good W nc (xs.set k (b8 (x ^^^ y))) s = false := by
              rw [HSS.out]
              refine aad_bad HGZ.out (by rw [← HA.out]; exact HKK.out) ?_
              rw [ofNat_b8, HXX.out]
              intro e
              have e2 := congrArg (fun z => bt xs k ^^^ z) e
              exact HY.out (by simpa only [← BitVec.xor_assoc, BitVec.xor_self, BitVec.zero_xor] using e2.symm)
            rw [gcode_bad (by rw [HSL.out]; omega) hbad, gplain_bad hbad, ← HC.out] at HOP
            clear ho13 hb13 hgt hbad ho c1 f1 hxor hki HS12 HO12 HT12 HGT HKK HXX
            go_wp2_with (first
              | (refine wpList_load_u8s Try.underlying23 i12 rfl _ rfl g (nts nc) HNN.out rfl HS13.out.non ?_; rw [← HC.out])
              | fail)
            refine Calls.mono HOP.out ?_
            rintro e w14 ⟨vr, rfl, -, hb⟩
            have HT14 := Hid.mk' (HS13.out.but.trans hb)
            clear hb HOP HS13
            go_wp2_with fail
            refine Calls.mono (awake_any _) ?_
            rintro e wz ⟨rfl, hbz⟩
            have HTZ := Hid.mk' (HT14.out.trans hbz)
            clear hbz
            go_wp2
            go_ret
            exact ⟨rfl, HTZ.out.below (Nat.le_refl _) (fun _ _ h => h)⟩
  · have h16 : (nts key).length ≠ 16 := by rw [nts_len]; omega
    have h32 : (nts key).length ≠ 32 := by rw [nts_len]; omega
    have HNW := Hid.mk' (gnew_none HK.out h16 h32)
    have HRN := Hid.mk' (fun (w1 : World) (hb : But (fun _ => False) W0 w1) => rnew_none (HK.out.but hb (fun _ _ _ h => h)) h16 h32)
    clear hk h16 h32
    go_enter Try.func6, Try.ntmps6
    go_wp2_with fail
    rw [← HW0.out, ← HG.out]
    refine Calls.mono HNW.out ?_
    rintro e w1 ⟨rfl, hb⟩
    have HR1 := Hid.mk' (HRN.out w1 hb)
    have HT1 := Hid.mk' (HT0.out.trans hb)
    clear hb HNW HRN HW0
    go_wp2_with fail
    refine Calls.mono HR1.out ?_
    rintro e w2 ⟨rfl, hb⟩
    have HT2 := Hid.mk' (HT1.out.trans hb)
    have HK0 : Hid (Blk (w2.alloc (.cells Z 31)) w2.heap.size 31 zeroKey) := by show Blk _ _ _ _; rw [HZ.out]; exact Blk.new rfl
    obtain ⟨KL, hKL⟩ : ∃ KL, KL = zeroKey := ⟨_, rfl⟩
    rw [← hKL]
    have HKN : Hid (KL.length = 513) := by show _ = _; rw [hKL]; exact zeroKey_len
    have HON : Hid (∀ u ∈ KL, u.oneCell' = true) := by show ∀ u ∈ KL, u.oneCell' = true; rw [hKL]; exact zeroKey_one
    clear hb hKL HR1 HT1
    go_wp2_with (first
      | (refine wpList_store_key rfl _ _ rfl w2.heap.size KL HKN.out HON.out rfl (by rfl) HK0.out ?_; intro w3 hb3 hbut3; have HT3 : Hid (But (fun _ => False) w w3) := (HT2.out.trans ((But.refl _ w2).alloc _)).then hbut3 (fun i hi e => by have := HT2.out.size; omega); clear hb3 hbut3)
      | fail)
    refine Calls.mono (awake_any _) ?_
    rintro e wz ⟨rfl, hbz⟩
    have HTZ := Hid.mk' (HT3.out.trans hbz)
    clear hbz
    go_wp2
    go_ret
    exact ⟨rfl, HTZ.out.below (Nat.le_refl _) (fun _ _ h => h)⟩

set_option maxRecDepth 100000 in
theorem gcmTurned_lifted (os : Os) (started : os.Started) (H : Type) (enc : TypeId × Value → H) :
    ReturnsInHanded {} Try.checked os 6 .any (Rows.gcmTurnedSpec.pre6 enc Try.prog Try.f6 Rows.gcmTurnedRow.domain false) (Rows.gcmTurnedSpec.post enc Try.prog Try.f6 false true false false) := by
  refine returnsInHanded_of_change_sized (C := Try.checked) (by kernel_rfl) started (by kernel_rfl) Try.func6
    (ChangeSpec.witness6 (enc := enc) (C := Try.checked) false ⟨#[], #[.slice none 0 0, .agg #[.int .u8 0, .int .u8 0, .int .u8 0, .int .u8 0, .int .u8 0, .int .u8 0, .int .u8 0, .int .u8 0, .int .u8 0, .int .u8 0, .int .u8 0, .int .u8 0], .slice none 0 0, .slice none 0 0, .int .i64 0, .int .u8 0], []⟩ 8 (by kernel_rfl) (by kernel_rfl) (by kernel_rfl) (by kernel_rfl)) ?_
  intro W base args ds gs before hval0 hW hcnd hsz0 _
  have hsz : (DataW.weightsEach Try.prog (Try.f6.params.toList ++ Rows.gcmTurnedSpec.plain.varTypes Try.prog) (ds ++ gs)).all (· ≤ reachBytes) = true := hsz0
  clear hsz0
  have hval : ∀ (j : Nat) t v, Try.f6.params[j]? = some t → args[j]? = some v → Value.okWide Try.prog W .any base t v := hval0
  have hW' := hW
  obtain ⟨p, q, hA0, hV, rfl, hfz, hnd⟩ := hW
  have hA : DataW.TrodAll enc Try.prog W 0 (fun _ => true) true Try.f6.params.toList args.toList ds p := hA0
  rw [Try.params6] at hA hval hsz
  obtain ⟨v0, vs0, d0, ds0, p0, q0, hargs, rfl, rfl, h0, r0⟩ := trodAll_cons hA
  obtain ⟨v1, vs1, d1, ds1, p1, q1, rfl, rfl, rfl, h1, r1⟩ := trodAll_cons r0
  obtain ⟨v2, vs2, d2, ds2, p2, q2, rfl, rfl, rfl, h2, r2⟩ := trodAll_cons r1
  obtain ⟨v3, vs3, d3, ds3, p3, q3, rfl, rfl, rfl, h3, r3⟩ := trodAll_cons r2
  obtain ⟨v4, vs4, d4, ds4, p4, q4, rfl, rfl, rfl, h4, r4⟩ := trodAll_cons r3
  obtain ⟨v5, vs5, d5, ds5, p5, q5, rfl, rfl, rfl, h5, r5⟩ := trodAll_cons r4
  obtain ⟨rfl, rfl, rfl⟩ := trodAll_nil r5
  obtain rfl : args = #[v0, v1, v2, v3, v4, v5] := by cases args; simp_all
  obtain ⟨rfl, rfl⟩ := trodVars_none hV
  have lt0 : ∀ x ∈ p0, x.block < W.heap.size := by obtain ⟨m, hm⟩ := h0; exact DataW.trod_lt m _ _ _ hm
  obtain ⟨z0, w0⟩ := view_bytes Try.underlying22 Try.underlying5 (by kernel_rfl) (by kernel_rfl) (hval 0 22 v0 rfl rfl) h0 lt0 hsz (j := 0) rfl rfl
  have lt1 : ∀ x ∈ p1, x.block < W.heap.size := by obtain ⟨m, hm⟩ := h1; exact DataW.trod_lt m _ _ _ hm
  obtain ⟨z1, w1⟩ := view_arr Try.underlying23 Try.underlying5 (by kernel_rfl) (by kernel_rfl) (hval 1 23 v1 rfl rfl) h1 lt1 hsz (j := 1) rfl rfl
  have lt2 : ∀ x ∈ p2, x.block < W.heap.size := by obtain ⟨m, hm⟩ := h2; exact DataW.trod_lt m _ _ _ hm
  obtain ⟨z2, w2⟩ := view_bytes Try.underlying22 Try.underlying5 (by kernel_rfl) (by kernel_rfl) (hval 2 22 v2 rfl rfl) h2 lt2 hsz (j := 2) rfl rfl
  have lt3 : ∀ x ∈ p3, x.block < W.heap.size := by obtain ⟨m, hm⟩ := h3; exact DataW.trod_lt m _ _ _ hm
  obtain ⟨z3, w3⟩ := view_bytes Try.underlying22 Try.underlying5 (by kernel_rfl) (by kernel_rfl) (hval 3 22 v3 rfl rfl) h3 lt3 hsz (j := 3) rfl rfl
  obtain ⟨a4, rfl, rfl, rfl, w4⟩ := open_int Try.underlying3 (hval 4 3 v4 rfl rfl) h4
  obtain ⟨a5, rfl, rfl, rfl, w5⟩ := open_int Try.underlying5 (hval 5 5 v5 rfl rfl) h5
  clear hA0 hval0
  refine (gcmTurned_walk v0 z0 v1 z1 v2 z2 v3 z3 a4 a5 W w0 w1 w2 w3 w4 w5).mono fun e W' ⟨he, bel⟩ => ?_
  subst he
  exact ⟨_, rfl, _, _, _, [], _, [], hW', trodAll_mk1 (shut_bool Try.underlying4 _), (trodAll_cons_mk (Below.trod (by kernel_rfl) (by kernel_rfl) (of_decide_eq_true (by kernel_rfl)) h0 bel lt0) (trodAll_cons_mk (Below.trod (by kernel_rfl) (by kernel_rfl) (of_decide_eq_true (by kernel_rfl)) h1 bel lt1) (trodAll_cons_mk (Below.trod (by kernel_rfl) (by kernel_rfl) (of_decide_eq_true (by kernel_rfl)) h2 bel lt2) (trodAll_cons_mk (Below.trod (by kernel_rfl) (by kernel_rfl) (of_decide_eq_true (by kernel_rfl)) h3 bel lt3) (trodAll_cons_mk (shut_int Try.underlying3 w4) (trodAll_cons_mk (shut_int Try.underlying5 w5) trodAll_mk0)))))), rfl, bel.frame _, fun h => by cases h⟩

theorem gcmTurned_holds : Rows.GcmTurnedSaid :=
  OpenClaim.holds_of_wide 6 Try.f6 rfl rfl rfl rfl rfl rfl rfl ⟨rfl, rfl, rfl, rfl, rfl⟩ rfl rfl rfl rfl rfl (by kernel_rfl) Try.func6 (by kernel_rfl)
    (of_decide_eq_true (by kernel_rfl)) (by unfold Func.isWrapper; first | (rw [if_pos (by decide +kernel)]; kernel_rfl) | (rw [if_neg (by decide +kernel)]; exact ⟨rfl, rfl⟩))
    (fun os started H enc _ => gcmTurned_lifted os started H enc)
#print axioms gcmTurned_holds
end Go.Proofs.Ythmjdebnjcopnaa
