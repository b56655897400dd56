/- For any number and any acts: what was put is had again, as long as it isn't dropped or put anew; there are never more keys than frames. No condition. -/
import Derived.Test.YtmlklmhochihbaaFrHvW
namespace Go.Proofs.Ytmlklmhochihbaa
open Go.ChangeShapes Go.WideShapes Go.ChangeAt Go.RowKit

theorem HvW.later {F : Nat → Prop} {w wr : World} {gt n m m' : Nat} {Z : List Zt} {kv hv : Value} (h : HvW F w wr gt n m Z kv hv) (hm : m ≤ m') : HvW F w wr gt n m' Z kv hv := by
  obtain ⟨s, h1, h2, h3⟩ := h.ex
  exact ⟨⟨s, h1, h2, by omega⟩, h.r, h.fw⟩
theorem iFb : (Try.prog.info? 34).map (·.size) = some 6 := by kernel_rfl
theorem fac_one' {w : World} {a : FA} (h : a.ok w) : ∀ u ∈ fac a, u.oneCell' = true := by
  intro u hu
  unfold fac at hu
  have := h.bs.one
  simp only [List.mem_cons, List.not_mem_nil, or_false] at hu
  rcases hu with rfl | rfl | rfl | rfl | rfl | rfl <;> first | rfl | exact this
set_option maxRecDepth 100000 in
set_option maxHeartbeats 8000000 in
theorem framesHave_walk (x : Int) (v1 : Value) (l : Nat) (A : Nat → FA) (w : World) (_ : (Lit.int .i64 x).wf = true) (hv : FActs w w v1 l A) :
    Calls Try.prog 4 #[.int .i64 x, v1] w fun e w' => e = .returned (.bool true) ∧ Below w.heap.size w w' := by
  have HV := Hid.mk' hv
  have HGR := Hid.mk' (fgreat_any hv)
  have hll : (l : Int) ≤ 140737488351232 := by have := hv.1; omega
  obtain ⟨ao, cap, rfl⟩ := hv.len
  obtain ⟨p, hp⟩ : ∃ p : Nat, x % 20 = (p : Int) := ⟨(x % 20).toNat, by have := Int.emod_nonneg x (b := 20) (by decide); omega⟩
  have hp9 : p < 20 := by have := Int.emod_lt_of_pos x (b := 20) (by decide); omega
  obtain ⟨n, hn⟩ : ∃ n : Nat, n = p + 1 := ⟨_, rfl⟩
  have HP := Hid.mk' (pick_any x 20 w (by decide) (by decide))
  rw [hp] at HP
  have e1 : (1 : Int) + (p : Int) = (n : Int) := by omega
  have hn9 : (n : Int) ≤ 20 := by omega
  have HN20 : Hid (n ≤ 20) := by show _ ≤ _; omega
  have HNW := Hid.mk' (fl_new w n (by omega) (by omega))
  clear hv hp hp9 hn
  go_enter Try.func4, Try.ntmps4
  go_wp2_with fail
  refine Calls.mono HGR.out ?_
  rintro e w' ⟨hw, rfl | ⟨rfl, hsm⟩⟩
  · have h2 := hw.symm
    subst h2
    clear hw
    go_wp2_with fail
    refine Calls.mono (awake_any _) ?_
    rintro e wa ⟨rfl, ga⟩
    have HGA := Hid.mk' ga
    clear ga
    go_wp2
    go_ret
    exact ⟨rfl, HGA.out.below (Nat.le_refl _) (fun _ _ h => h)⟩
  have h2 := hw.symm
  subst h2
  have HSM := Hid.mk' hsm
  clear hw hsm HGR
  go_wp2_with fail
  refine Calls.mono HP.out ?_
  rintro e w' ⟨rfl, hw⟩
  have h2 := hw.symm
  subst h2
  clear hw
  go_wp2_with fail
  refine Calls.mono HNW.out ?_
  rintro e w1 ⟨gt, rfl, h1⟩
  have H2 : Hid (HvW (fun _ => False) w w1 gt n (20 * 0) [] (.slice none 0 0) (.slice none 0 0)) := ⟨⟨_, h1, ⟨rfl, rfl, List.Perm.refl _⟩, Nat.le_refl _⟩, ⟨RowOf.nil _ _ _ _, RowOf.nil _ _ _ _, (fun z hz => absurd hz List.not_mem_nil), (fun j hj => by cases hj)⟩, fun b hb => hb.elim⟩
  clear h1 e1 HNW HP
  go_wp2
  go_loopw [7, 8, 9, 10, 11, 12, 13, 14, 15] (fun kv hv iv _ _ _ _ _ _ wr => ∃ (kv' hv' : Value) (i : Nat) (F : Nat → Prop) (Z : List Zt), kv' = kv ∧ hv' = hv ∧ iv = .int .i64 i ∧ i ≤ l ∧ i ≤ 60 ∧ HvW F w wr gt n (20 * i) Z kv' hv') (fun _ _ iv _ _ _ _ _ _ _ => l - (Go.RowKit.intOf iv).toNat)
  case atStart => exact ⟨_, _, 0, _, _, rfl, rfl, rfl, Nat.zero_le _, Nat.zero_le _, H2.out⟩
  case round =>
    clear H2
    obtain ⟨kv, hv, i, F, Z, rfl, rfl, rfl, hil, hi0, hI⟩ := hrel
    by_cases hlt : i < l ∧ i < 60
    · have hlti : (i : Int) < (l : Int) := by omega
      have hlt2 : (i : Int) < 60 := by omega
      obtain ⟨b, off, cap', e1, hbl, hA⟩ := HV.out.at hlt.1
      simp only [Value.slice.injEq] at e1
      obtain ⟨rfl, -, rfl⟩ := e1
      obtain ⟨hok, hcell⟩ := hA i hlt.1
      have HOK := Hid.mk' hok
      have HONE := Hid.mk' (fac_one' hok)
      have HLN := Hid.mk' (HSM.out i hlt.1 (by omega))
      have hwg := hI.wgrow
      have HCW : Hid (∀ c u, (fac (A i))[c]? = some u → wr.cell? ((⟨b, off + i * 6, none⟩ : Addr).add c) = some u) := fun c u hc => by
        rw [addr_add]; exact grow_cell hwg (hcell c u hc)
      obtain ⟨g, hg⟩ : ∃ g, g = wr.heap.size := ⟨_, rfl⟩
      have HG10 := Hid.mk' hg
      have HAL : Hid (Grow wr (wr.alloc (.cells #[.int .i64 0, .int .i64 0, .int .i64 0, .slice none 0 0, .bool false, .float .f64 0] 34))) := (But.refl _ wr).alloc _
      have HBZ : Hid (Blk (wr.alloc (.cells #[.int .i64 0, .int .i64 0, .int .i64 0, .slice none 0 0, .bool false, .float .f64 0] 34)) g 34 [.int .i64 0, .int .i64 0, .int .i64 0, .slice none 0 0, .bool false, .float .f64 0]) := Blk.new (L := [.int .i64 0, .int .i64 0, .int .i64 0, .slice none 0 0, .bool false, .float .f64 0]) hg.symm
      have HI := Hid.mk' hI
      have HLT := Hid.mk' hlt
      obtain ⟨zl, hzl⟩ : ∃ zl, zl = Z.length := ⟨_, rfl⟩
      have HZL := Hid.mk' hzl
      obtain ⟨ka, kc, hkv, -⟩ := hI.r.rk.shape
      obtain ⟨ha, hc, hhv, -⟩ := hI.r.rh.shape
      rw [← hzl] at hkv hhv
      subst hkv hhv
      clear hI hA hok hcell hwg hbl hg hlt hzl
      go_upto_region 13 with (first
        | (refine wpList_load_cells rfl _ _ rfl ⟨b, off + i * 6, none⟩ rfl (fac (A i)) _ HCW.out Try.underlying34 rfl iFb ?_)
        | (refine wpList_store_at rfl _ _ _ rfl g 0 (fac (A i)) (by rw [HG10.out]; rfl) rfl 34 [] [.int .i64 0, .int .i64 0, .int .i64 0, .slice none 0 0, .bool false, .float .f64 0] [] (by simpa using HBZ.out) rfl rfl iFb HONE.out ?_; intro w3 hb3 hbut3; rw [List.nil_append, List.append_nil] at hb3)
        | fail)
      have HX3 : Hid (HvW (fun b => F b ∨ b = g) w w3 gt n (20 * i) Z (.slice ka zl kc) (.slice ha zl hc)) := HI.out.box HAL.out HG10.out HBZ.out.lt hbut3
      have HB3 : Hid (Blk w3 g 34 (fac (A i))) := hb3
      obtain ⟨q, hq⟩ : ∃ q : Nat, (A i).kind % 3 = (q : Int) := ⟨((A i).kind % 3).toNat, by have := Int.emod_nonneg (A i).kind (b := 3) (by decide); omega⟩
      have HP3 : Hid (∀ wz : World, Calls Try.prog 13 #[.int .i64 (A i).kind, .int .i64 3] wz fun e w' => e = .returned (.int .i64 (q : Int)) ∧ w' = wz) := fun wz => by
        have := pick_any (A i).kind 3 wz (by decide) (by decide)
        rw [hq] at this
        exact this
      have HBF := Hid.mk' HOK.out.bs.bf
      have HKEY := Hid.mk' HOK.out.key
      have hzi : (zl : Int) ≤ 20 := by have := HI.out.le; have := HZL.out; have := HN20.out; omega
      have HFC : Hid (∀ wz, Grow w3 wz → Blk wz g 34 (fac (A i))) := fun wz k => HB3.out.but k (fun h => h)
      have HNG : Hid (∀ j, (Value.slice ka zl kc).ownBlock = some j ∨ (Value.slice ha zl hc).ownBlock = some j → j ≠ g) := fun j hj e => by
        obtain ⟨s, h1, -⟩ := HI.out.ex
        have h2 := HG10.out
        rcases hj with hj | hj
        · have := h1.lt j (HI.out.r.rk.inF j hj); omega
        · have := h1.lt j (HI.out.r.rh.inF j hj); omega
      rw [← HG10.out]
      clear hb3 hbut3 HAL HBZ HCW hq HI HB3
      go_wp2
      go_loopw [11, 12] (fun av kv wq => ∃ (k : Nat) (at' : Int), k ≤ zl ∧ kv = .int .i64 k ∧ av = .int .i64 at' ∧ ((at' = -1 ∧ ∀ j z, j < k → Z[j]? = some z → z.1 ≠ (A i).key) ∨ ∃ (a : Nat) (z : Zt), a < k ∧ at' = (a : Int) ∧ Z[a]? = some z ∧ z.1 = (A i).key) ∧ Grow w3 wq) (fun _ kv _ => zl - (Go.RowKit.intOf kv).toNat)
      case atStart => exact ⟨0, -1, Nat.zero_le _, rfl, rfl, .inl ⟨rfl, fun j z hj => absurd hj (Nat.not_lt_zero _)⟩, But.refl _ _⟩
      case round =>
        obtain ⟨k, at', hkl, rfl, rfl, hat, hgw⟩ := hrel
        have HAT := Hid.mk' hat
        have HGW := Hid.mk' hgw
        by_cases hklt : k < zl
        · have hki : (k : Int) < (zl : Int) := by omega
          obtain ⟨⟨zk, zv, zb⟩, hz⟩ : ∃ z, Z[k]? = some z := ⟨_, List.getElem?_eq_getElem (by have := HZL.out; omega)⟩
          have HZ := Hid.mk' hz
          obtain ⟨ao1, c1, e1, hs1⟩ := HX3.out.r.rk.shape
          obtain ⟨g1, hg1, -, -, hc1⟩ := hs1 (by have := HZL.out; omega)
          simp only [Value.slice.injEq] at e1
          have hAO := e1.1.trans hg1
          cases hAO
          have HC1 : Hid (w3.cell? ⟨g1, k, none⟩ = some (.int .i64 zk)) := hc1 k _ (by rw [List.getElem?_map, hz]; rfl)
          clear hs1 e1 hg1 hc1 hz hat hgw
          go_upto_region 17 with fail
          refine region_chain [] [0, 1, 2, 3, 4, 5, 6] (Grow w3) (Grow w3) (by kernel_rfl) (by kernel_rfl) (fun _ _ h k => h.trans k) (fun _ h => h) (HGW.out.drew) ?_
          intro ι hne X hX
          have d0 : ∀ x, (X x).cell? ⟨g1, k, none⟩ = some (.int .i64 zk) := fun x => grow_cell (hX x) HC1.out
          have d1 : ∀ x, (X x).cell? ⟨g, 2, none⟩ = some (.int .i64 (A i).key) := fun x => (HFC.out _ (hX x)).cell 2
          iterate 7 (refine still_step rfl (fun K hK => ?_); go_simp; refine hK _ ?_; clear hK K)
          refine still_nil ?_
          clear hX hne d0 d1
          intro w4 hw4
          have HG4 := Hid.mk' hw4
          clear hw4 HC1
          by_cases hkk : zk = (A i).key
          · have hkb : (zk == (A i).key) = true := by simpa using hkk
            have HKK := Hid.mk' hkk
            clear hkk
            go_wp2
            exact ⟨⟨k + 1, (k : Int), by omega, by go_num, rfl, .inr ⟨k, _, by omega, rfl, HZ.out, HKK.out⟩, HG4.out⟩, by simp [Go.RowKit.intOf]; omega⟩
          · have hkb : (zk == (A i).key) = false := by simpa using hkk
            have HKK := Hid.mk' hkk
            clear hkk
            go_wp2
            refine ⟨⟨k + 1, at', by omega, by go_num, rfl, ?_, HG4.out⟩, by simp [Go.RowKit.intOf]; omega⟩
            rcases HAT.out with ⟨h1, h2⟩ | ⟨a, z, h1, h2⟩
            · refine .inl ⟨h1, fun j z hj hz => ?_⟩
              by_cases e : j = k
              · subst e
                rw [HZ.out] at hz
                cases hz
                exact HKK.out
              · exact h2 j z (by omega) hz
            · exact .inr ⟨a, z, by omega, h2⟩
        have hki : ¬ ((k : Int) < (zl : Int)) := by omega
        obtain rfl : k = zl := by omega
        have HX4 := Hid.mk' (HX3.out.grow hgw)
        have HF4 : Hid (Blk wr g 34 (fac (A i))) := HFC.out wr hgw
        have a0 : wr.cell? ⟨g, 0, none⟩ = some (.int .i64 (A i).kind) := HF4.out.cell 0
        have a2 : wr.cell? ⟨g, 2, none⟩ = some (.int .i64 (A i).key) := HF4.out.cell 2
        have a3 : wr.cell? ⟨g, 3, none⟩ = some (A i).v := HF4.out.cell 3
        have a4 : wr.cell? ⟨g, 4, none⟩ = some (.bool (A i).wr) := HF4.out.cell 4
        obtain ⟨va, vn, vc, hvs⟩ := HOK.out.bs.sl
        rw [hvs] at a3 HBF
        clear hgw hat HGW HX3 HFC
        go_wp2_with fail
        refine Calls.mono (HP3.out _) ?_
        rintro e w' ⟨rfl, hw⟩
        have h2 := hw.symm
        subst h2
        clear hw HP3
        have HNO : Hid (at' = -1 → ∀ z ∈ Z, z.1 ≠ (A i).key) := fun e z hz => by
          rcases HAT.out with ⟨h1, h2⟩ | ⟨a, z', h1, h2, h3⟩
          · obtain ⟨j, hj⟩ := List.getElem?_of_mem hz
            have := (List.getElem?_eq_some_iff.1 hj).1
            exact h2 j z (by have := HZL.out; omega) hj
          · omega
        by_cases hq0 : q = 0
        · subst hq0
          rcases HAT.out with ⟨rfl, -⟩ | ⟨a, z, hal, rfl, hza, hzk⟩
          · have HD := Hid.mk' (hv_dropNot HX4.out HKEY.out (HNO.out rfl))
            clear HAT HNO
            go_wp2_with fail
            refine Calls.mono HD.out ?_
            rintro e w5 ⟨rfl, h5⟩
            have HX := Hid.mk' h5
            clear h5 HD HX4
            have HLE := Hid.mk' HX.out.le
            have HKY := Hid.mk' (hv_keys HX.out)
            have HZ9 : Hid (Z.length = k) := HZL.out.symm
            rw [HZ9.out] at HKY
            have hgt : decide (n < k) = false := decide_eq_false (by have := HLE.out; have := HZ9.out; omega)
            go_wp2_with fail
            refine Calls.mono HKY.out ?_
            rintro e w7 ⟨⟨qa, qc, rfl⟩, h7⟩
            have HX7 := Hid.mk' h7
            clear h7 HKY HX
            go_wp2
            go_loopw [13, 14, 15] (fun kv _ _ wq => ∃ j9 : Nat, j9 ≤ k ∧ kv = .int .i64 j9 ∧ HvW (fun b => F b ∨ b = g) w wq gt n (20 * i + j9) Z (.slice ka k kc) ((.slice ha k hc))) (fun kv _ _ _ => k - (Go.RowKit.intOf kv).toNat)
            case atStart => exact ⟨0, Nat.zero_le _, rfl, HX7.out⟩
            case round =>
              clear HX7
              obtain ⟨j9, hkl, rfl, hx⟩ := hrel
              have hm9 : 20 * i + j9 ≤ 10000 := by have := HLT.out; have := HLE.out; have := HZ9.out; have := HN20.out; omega
              by_cases hklt : j9 < k
              · have hki : (j9 : Int) < (k : Int) := by omega
                obtain ⟨⟨zk, zv, zb⟩, hz⟩ : ∃ z, Z[j9]? = some z := ⟨_, List.getElem?_eq_getElem (by have := HZ9.out; omega)⟩
                have HZ := Hid.mk' hz
                have HGT := Hid.mk' (hv_get (z := (zk, zv, zb)) hx (List.mem_of_getElem? hz) hm9)
                have hva := hx.r.va _ (List.mem_of_getElem? hz)
                obtain ⟨za, zn, zc, rfl⟩ := hva.1.1.sl
                have HVA := Hid.mk' hva.1
                obtain ⟨ao1, c1, e1, hs1⟩ := hx.r.rk.shape
                obtain ⟨g1, hg1, -, -, hc1⟩ := hs1 (by have := HZ9.out; omega)
                simp only [Value.slice.injEq] at e1
                have hAO := e1.1.trans hg1
                cases hAO
                have c9 : wr.cell? ⟨g1, j9, none⟩ = some (.int .i64 zk) := hc1 j9 _ (by rw [List.getElem?_map, hz]; rfl)
                clear hs1 e1 hg1 hc1 hva hx hz
                go_wp2_with fail
                refine Calls.mono HGT.out ?_
                rintro e w8 ⟨⟨v8, rfl, hb8⟩, hx8⟩
                obtain ⟨va, vn, vc, rfl⟩ := hb8.sl
                obtain ⟨ao2, c2, e2, hs2⟩ := hx8.r.rh.shape
                obtain ⟨g2, hg2, -, -, hc2⟩ := hs2 (by have := HZ9.out; omega)
                simp only [Value.slice.injEq] at e2
                have hBO := e2.1.trans hg2
                cases hBO
                have d9 : w8.cell? ⟨g2, j9, none⟩ = some (.slice za zn zc) := hc2 j9 _ (by rw [List.getElem?_map, HZ.out]; rfl)
                have hsame := same_any hb8 ((HVA.out.but hx8.wgrow (fun _ _ h => h)).1)
                rw [show decide (((zk, Value.slice za zn zc, zb) : Zt).2.2 = zb) = true from decide_eq_true rfl] at hsame
                have HSAME := Hid.mk' hsame
                have HX8 := Hid.mk' hx8
                clear hs2 e2 hg2 hc2 hsame hb8 hx8 HGT c9
                go_wp2_with fail
                refine Calls.mono HSAME.out ?_
                rintro e w9 ⟨rfl, d, hw⟩
                have h9 := HX8.out.grow ((But.refl _ w8).drewN (n := d))
                rw [← hw] at h9
                have HX9 := Hid.mk' h9
                clear hw h9 HX8 HSAME d9
                go_wp2
                exact ⟨⟨j9 + 1, by omega, by go_num, HX9.out⟩, by simp [Go.RowKit.intOf]; omega⟩
              · have hki : ¬ ((j9 : Int) < (k : Int)) := by omega
                have HXE := Hid.mk' (hx.later (m' := 20 * (i + 1)) (by have := HLE.out; have := HZ9.out; have := HN20.out; omega))
                have hlt9 := HLT.out
                have hi1 : i + 1 ≤ l := by omega
                have hi2 : i + 1 ≤ 60 := by omega
                clear hx hlt9
                go_wp2
                exact ⟨⟨_, _, i + 1, _, _, rfl, rfl, by go_num, hi1, hi2, HXE.out⟩, by simp [Go.RowKit.intOf]; omega⟩
          · obtain ⟨⟨xk, xv, xb⟩, hx⟩ : ∃ x, Z[Z.length - 1]? = some x := ⟨_, List.getElem?_eq_getElem (by have := HZL.out; omega)⟩
            have HD := Hid.mk' (hv_drop HX4.out hza hzk hx)
            obtain ⟨lz, hlz⟩ : ∃ lz, k = lz + 1 := ⟨k - 1, by omega⟩
            have hlzi : (k : Int) - 1 = (lz : Int) := by omega
            have HLZ := Hid.mk' hlz
            have hali : (a : Int) < (k : Int) := by omega
            have hlzk : (lz : Int) < (k : Int) := by omega
            have HXL : Hid (Z[lz]? = some (xk, xv, xb)) := by
              have : Z.length - 1 = lz := by have := HZL.out; omega
              rw [this] at hx
              exact hx
            have HZA := Hid.mk' hza
            have HLA : Hid (a < k) := hal
            clear HAT HNO hza hzk hx hlz hal
            go_wp2_with fail
            refine Calls.mono HD.out ?_
            rintro e w5 ⟨rfl, h5⟩
            have hva := h5.r.va _ (List.mem_of_getElem? HXL.out)
            obtain ⟨xa, xn, xc, rfl⟩ := hva.1.1.sl
            obtain ⟨ao1, c1, e1, hs1⟩ := h5.r.rk.shape
            obtain ⟨gk, hg1, -, -, hc1⟩ := hs1 (by have := HZL.out; have := HLZ.out; omega)
            obtain ⟨ao2, c2, e2, hs2⟩ := h5.r.rh.shape
            obtain ⟨gh, hg2, -, -, hc2⟩ := hs2 (by have := HZL.out; have := HLZ.out; omega)
            simp only [Value.slice.injEq] at e1 e2
            have hAO := e1.1.trans hg1
            have hBO := e2.1.trans hg2
            cases hAO
            cases hBO
            have hne : gk ≠ gh := fun e => h5.r.ne gk rfl (by rw [e]; rfl)
            have hrk := h5.r.rk
            have hrh := h5.r.rh
            rw [← HZL.out] at hrk hrh
            obtain ⟨MK, hMK, hMKl⟩ := hrk.blk
            obtain ⟨MH, hMH, hMHl⟩ := hrh.blk
            rw [List.length_map, ← HZL.out] at hMKl hMHl
            have hb6 := hMH.but (But.set1 w5 gk a (iv xk)) (fun e => hne e.symm)
            have c1 : w5.cell? ⟨gk, lz, none⟩ = some (.int .i64 xk) := hc1 lz _ (by rw [List.getElem?_map, HXL.out]; rfl)
            obtain ⟨uk, huk⟩ : ∃ u, w5.cell? ⟨gk, a, none⟩ = some u := ⟨_, by rw [hMK.cell]; exact List.getElem?_eq_getElem (by have := HLA.out; omega)⟩
            have f1 : w5.frozen? ⟨gk, a, none⟩ = false := hMK.free a
            have c2 : (w5.setCell ⟨gk, a, none⟩ (.int .i64 xk)).cell? ⟨gh, lz, none⟩ = some (.slice xa xn xc) := by
              rw [hb6.cell, ← hMH.cell]
              exact hc2 lz _ (by rw [List.getElem?_map, HXL.out]; rfl)
            obtain ⟨uh, huh⟩ : ∃ u, (w5.setCell ⟨gk, a, none⟩ (.int .i64 xk)).cell? ⟨gh, a, none⟩ = some u := ⟨_, by rw [hb6.cell]; exact List.getElem?_eq_getElem (by have := HLA.out; omega)⟩
            have f2 : (w5.setCell ⟨gk, a, none⟩ (.int .i64 xk)).frozen? ⟨gh, a, none⟩ = false := hb6.free a
            have hck : (lz : Int) ≤ (kc : Int) := by have := hrk.cap; have := HLZ.out; omega
            have hch : (lz : Int) ≤ (hc : Int) := by have := hrh.cap; have := HLZ.out; omega
            have HX : Hid (HvW (fun b => F b ∨ b = g) w ((w5.setCell ⟨gk, a, none⟩ (.int .i64 xk)).setCell ⟨gh, a, none⟩ (.slice xa xn xc)) gt n (20 * i) (rem Z a (xk, .slice xa xn xc, xb)) (.slice (some ⟨gk, 0, none⟩) lz kc) (.slice (some ⟨gh, 0, none⟩) lz hc)) := by
              have h6 := h5.cut HZL.out.symm (by rw [HLZ.out]; exact HXL.out)
              rw [show k - 1 = lz by have := HLZ.out; omega] at h6
              exact h6
            clear hs1 hs2 hc1 hc2 hrk hrh hMK hMH hMKl hMHl hb6 hne hva e1 e2 hg1 hg2 h5 HD HX4
            have HLE := Hid.mk' HX.out.le
            have HKY := Hid.mk' (hv_keys HX.out)
            have HZ9 : Hid ((rem Z a (xk, Value.slice xa xn xc, xb)).length = lz) := (by show _ = _; rw [rem_len]; have := HZL.out; have := HLZ.out; omega)
            rw [HZ9.out] at HKY
            have hgt : decide (n < lz) = false := decide_eq_false (by have := HLE.out; have := HZ9.out; omega)
            go_wp2_with fail
            refine Calls.mono HKY.out ?_
            rintro e w7 ⟨⟨qa, qc, rfl⟩, h7⟩
            have HX7 := Hid.mk' h7
            clear h7 HKY HX
            go_wp2
            go_loopw [13, 14, 15] (fun kv _ _ wq => ∃ j9 : Nat, j9 ≤ lz ∧ kv = .int .i64 j9 ∧ HvW (fun b => F b ∨ b = g) w wq gt n (20 * i + j9) (rem Z a (xk, Value.slice xa xn xc, xb)) (.slice (some ⟨gk, 0, none⟩) lz kc) ((.slice (some ⟨gh, 0, none⟩) lz hc))) (fun kv _ _ _ => lz - (Go.RowKit.intOf kv).toNat)
            case atStart => exact ⟨0, Nat.zero_le _, rfl, HX7.out⟩
            case round =>
              clear HX7
              obtain ⟨j9, hkl, rfl, hx⟩ := hrel
              have hm9 : 20 * i + j9 ≤ 10000 := by have := HLT.out; have := HLE.out; have := HZ9.out; have := HN20.out; omega
              by_cases hklt : j9 < lz
              · have hki : (j9 : Int) < (lz : Int) := by omega
                obtain ⟨⟨zk, zv, zb⟩, hz⟩ : ∃ z, (rem Z a (xk, Value.slice xa xn xc, xb))[j9]? = some z := ⟨_, List.getElem?_eq_getElem (by have := HZ9.out; omega)⟩
                have HZ := Hid.mk' hz
                have HGT := Hid.mk' (hv_get (z := (zk, zv, zb)) hx (List.mem_of_getElem? hz) hm9)
                have hva := hx.r.va _ (List.mem_of_getElem? hz)
                obtain ⟨za, zn, zc, rfl⟩ := hva.1.1.sl
                have HVA := Hid.mk' hva.1
                obtain ⟨ao1, c1, e1, hs1⟩ := hx.r.rk.shape
                obtain ⟨g1, hg1, -, -, hc1⟩ := hs1 (by have := HZ9.out; omega)
                simp only [Value.slice.injEq] at e1
                have hAO := e1.1.trans hg1
                cases hAO
                have c9 : wr.cell? ⟨gk, j9, none⟩ = some (.int .i64 zk) := hc1 j9 _ (by rw [List.getElem?_map, hz]; rfl)
                clear hs1 e1 hg1 hc1 hva hx hz
                go_wp2_with fail
                refine Calls.mono HGT.out ?_
                rintro e w8 ⟨⟨v8, rfl, hb8⟩, hx8⟩
                obtain ⟨va, vn, vc, rfl⟩ := hb8.sl
                obtain ⟨ao2, c2, e2, hs2⟩ := hx8.r.rh.shape
                obtain ⟨g2, hg2, -, -, hc2⟩ := hs2 (by have := HZ9.out; omega)
                simp only [Value.slice.injEq] at e2
                have hBO := e2.1.trans hg2
                cases hBO
                have d9 : w8.cell? ⟨gh, j9, none⟩ = some (.slice za zn zc) := hc2 j9 _ (by rw [List.getElem?_map, HZ.out]; rfl)
                have hsame := same_any hb8 ((HVA.out.but hx8.wgrow (fun _ _ h => h)).1)
                rw [show decide (((zk, Value.slice za zn zc, zb) : Zt).2.2 = zb) = true from decide_eq_true rfl] at hsame
                have HSAME := Hid.mk' hsame
                have HX8 := Hid.mk' hx8
                clear hs2 e2 hg2 hc2 hsame hb8 hx8 HGT c9
                go_wp2_with fail
                refine Calls.mono HSAME.out ?_
                rintro e w9 ⟨rfl, d, hw⟩
                have h9 := HX8.out.grow ((But.refl _ w8).drewN (n := d))
                rw [← hw] at h9
                have HX9 := Hid.mk' h9
                clear hw h9 HX8 HSAME d9
                go_wp2
                exact ⟨⟨j9 + 1, by omega, by go_num, HX9.out⟩, by simp [Go.RowKit.intOf]; omega⟩
              · have hki : ¬ ((j9 : Int) < (lz : Int)) := by omega
                have HXE := Hid.mk' (hx.later (m' := 20 * (i + 1)) (by have := HLE.out; have := HZ9.out; have := HN20.out; omega))
                have hlt9 := HLT.out
                have hi1 : i + 1 ≤ l := by omega
                have hi2 : i + 1 ≤ 60 := by omega
                clear hx hlt9
                go_wp2
                exact ⟨⟨_, _, i + 1, _, _, rfl, rfl, by go_num, hi1, hi2, HXE.out⟩, by simp [Go.RowKit.intOf]; omega⟩
        · have hqb : ((q : Int) == 0) = false := by
            have : (q : Int) ≠ 0 := by omega
            simpa using this
          clear hq0
          have HL9 : Hid ((A i).bs.length ≤ 1000) := HLN.out
          rcases HAT.out with ⟨rfl, -⟩ | ⟨a, z, hal, rfl, hza, hzk⟩
          · by_cases hroom : k < n
            · have HD := Hid.mk' (hv_put (q := (A i).wr) (Z' := Z ++ [((A i).key, .slice va vn vc, (A i).bs)]) HX4.out HKEY.out (fun s h1 _ => h1.put1 (HNO.out rfl) (by have := HZL.out; omega)) HBF.out HL9.out)
              clear HAT HNO hroom
              go_wp2_with fail
              refine Calls.mono HD.out ?_
              rintro e w5 ⟨rfl, h5, hb5⟩
              have hB5 := HF4.out.but hb5 (fun e => e.2 (.inr rfl))
              have HM5 := Hid.mk' h5
              have HB5 := Hid.mk' hB5
              have b2 : w5.cell? ⟨g, 2, none⟩ = some (.int .i64 (A i).key) := hB5.cell 2
              have HA5 : Hid (Grow w5 (w5.alloc (.cells #[.int .i64 (A i).key] 3))) := (But.refl _ w5).alloc _
              have HL5 : Hid (Blk (w5.alloc (.cells #[.int .i64 (A i).key] 3)) w5.heap.size 3 [iv (A i).key]) := Blk.new (L := [.int .i64 (A i).key]) rfl
              have hrk5 := h5.r.rk.own
              rw [← HZL.out] at hrk5
              have HRK5 := Hid.mk' (ownsRow_grow hrk5 HA5.out)
              clear h5 hb5 hB5 hrk5 HD HX4 HF4
              go_upto_region 28 with (first
                | (refine wpList_runH rfl (exec_row1 Try.underlying40 infNum (by decide) (by decide) rfl rfl rfl) ?_)
                | (refine wpList_someH rfl (exec_append (v := .slice ka k kc) (n := k) (xs := Z.map fun z => iv z.1) (news := [iv (A i).key]) Try.underlying40 infNum rfl (by decide) rfl rfl HRK5.out rfl rfl (fun j u hj => HL5.out.cells0 j u hj) (fun u hu => by rw [show u = iv (A i).key by simpa using hu]; rfl) (by omega) (by decide)) ?_; intro v6 w6 hap)
                | fail)
              have hap : Appd (w5.alloc (.cells #[.int .i64 (A i).key] 3)) w6 3 1 (.slice ka k kc) v6 (k + 1) ((Z.map fun z => iv z.1) ++ [iv (A i).key]) := hap
              have HAP := Hid.mk' hap
              obtain ⟨zn, hzn⟩ : ∃ zn, zn = k + 1 := ⟨_, rfl⟩
              have HZN := Hid.mk' hzn
              obtain ⟨a6, c6, h6⟩ := own_sl hap.own
              rw [← hzn] at h6
              subst h6
              have hB6 := (HB5.out.but HA5.out (fun h => h)).but hap.but (fun e => HNG.out g (.inl e) rfl)
              have b3 : w6.cell? ⟨g, 3, none⟩ = some (.slice va vn vc) := by rw [← hvs]; exact hB6.cell 3
              have HA6 : Hid (Grow w6 (w6.alloc (.cells #[.slice va vn vc] 31))) := (But.refl _ w6).alloc _
              have HL6 : Hid (Blk (w6.alloc (.cells #[.slice va vn vc] 31)) w6.heap.size 31 [.slice va vn vc]) := Blk.new (L := [.slice va vn vc]) rfl
              have hrh6 := ownsRow_but (ownsRow_grow HM5.out.r.rh.own HA5.out) hap.but (fun j hj e => HM5.out.r.ne j e hj)
              rw [← HZL.out] at hrh6
              have HRH6 := Hid.mk' (ownsRow_grow hrh6 HA6.out)
              clear hap hB6 hrh6 hzn b2
              go_upto_region 32 with (first
                | (refine wpList_runH rfl (exec_row1 Try.underlying41 infS (by decide) (by decide) rfl rfl rfl) ?_)
                | (refine wpList_someH rfl (exec_append (v := .slice ha k hc) (n := k) (xs := Z.map fun z => z.2.1) (news := [.slice va vn vc]) Try.underlying41 infS rfl (by decide) rfl rfl HRH6.out rfl rfl (fun j u hj => HL6.out.cells0 j u hj) (fun u hu => by rw [show u = .slice va vn vc by simpa using hu]; rfl) (by omega) (by decide)) ?_; intro v7 w7 hap2)
                | fail)
              have hap2 : Appd (w6.alloc (.cells #[.slice va vn vc] 31)) w7 31 1 (.slice ha k hc) v7 (k + 1) ((Z.map fun z => z.2.1) ++ [.slice va vn vc]) := hap2
              have hs7 : (w5.alloc (.cells #[.int .i64 (A i).key] 3)).heap.size < (w6.alloc (.cells #[.slice va vn vc] 31)).heap.size := by
                have := HAP.out.but.size
                have := HL6.out.lt
                omega
              have h8 := HM5.out.more HKEY.out HBF.out HA5.out HAP.out HA6.out hap2 hs7 HZL.out.symm
              obtain ⟨a7, c7, h7⟩ := own_sl hap2.own
              rw [← HZN.out] at h7
              subst h7
              have HX := Hid.mk' h8
              clear h8 hs7 hap2 HAP HA6 HL6 HRH6 HM5 HA5 HL5 HRK5 HB5 b3
              have HLE := Hid.mk' HX.out.le
              have HKY := Hid.mk' (hv_keys HX.out)
              have HZ9 : Hid ((Z ++ [((A i).key, Value.slice va vn vc, (A i).bs)]).length = zn) := (by show _ = _; rw [List.length_append, List.length_singleton, ← HZL.out, HZN.out])
              rw [HZ9.out] at HKY
              have hgt : decide (n < zn) = false := decide_eq_false (by have := HLE.out; have := HZ9.out; omega)
              go_wp2_with fail
              refine Calls.mono HKY.out ?_
              rintro e w7 ⟨⟨qa, qc, rfl⟩, h7⟩
              have HX7 := Hid.mk' h7
              clear h7 HKY HX
              go_wp2
              go_loopw [13, 14, 15] (fun kv _ _ wq => ∃ j9 : Nat, j9 ≤ zn ∧ kv = .int .i64 j9 ∧ HvW (fun b => (F b ∨ b = g) ∨ (Value.slice a6 zn c6).ownBlock = some b ∨ (Value.slice a7 zn c7).ownBlock = some b) w wq gt n (20 * i + j9) (Z ++ [((A i).key, Value.slice va vn vc, (A i).bs)]) (.slice a6 zn c6) ((.slice a7 zn c7))) (fun kv _ _ _ => zn - (Go.RowKit.intOf kv).toNat)
              case atStart => exact ⟨0, Nat.zero_le _, rfl, HX7.out⟩
              case round =>
                clear HX7
                obtain ⟨j9, hkl, rfl, hx⟩ := hrel
                have hm9 : 20 * i + j9 ≤ 10000 := by have := HLT.out; have := HLE.out; have := HZ9.out; have := HN20.out; omega
                by_cases hklt : j9 < zn
                · have hki : (j9 : Int) < (zn : Int) := by omega
                  obtain ⟨⟨zk, zv, zb⟩, hz⟩ : ∃ z, (Z ++ [((A i).key, Value.slice va vn vc, (A i).bs)])[j9]? = some z := ⟨_, List.getElem?_eq_getElem (by have := HZ9.out; omega)⟩
                  have HZ := Hid.mk' hz
                  have HGT := Hid.mk' (hv_get (z := (zk, zv, zb)) hx (List.mem_of_getElem? hz) hm9)
                  have hva := hx.r.va _ (List.mem_of_getElem? hz)
                  obtain ⟨za, zn, zc, rfl⟩ := hva.1.1.sl
                  have HVA := Hid.mk' hva.1
                  obtain ⟨ao1, c1, e1, hs1⟩ := hx.r.rk.shape
                  obtain ⟨g1, hg1, -, -, hc1⟩ := hs1 (by have := HZ9.out; omega)
                  simp only [Value.slice.injEq] at e1
                  have hAO := e1.1.trans hg1
                  cases hAO
                  have c9 : wr.cell? ⟨g1, j9, none⟩ = some (.int .i64 zk) := hc1 j9 _ (by rw [List.getElem?_map, hz]; rfl)
                  clear hs1 e1 hg1 hc1 hva hx hz
                  go_wp2_with fail
                  refine Calls.mono HGT.out ?_
                  rintro e w8 ⟨⟨v8, rfl, hb8⟩, hx8⟩
                  obtain ⟨va, vn, vc, rfl⟩ := hb8.sl
                  obtain ⟨ao2, c2, e2, hs2⟩ := hx8.r.rh.shape
                  obtain ⟨g2, hg2, -, -, hc2⟩ := hs2 (by have := HZ9.out; omega)
                  simp only [Value.slice.injEq] at e2
                  have hBO := e2.1.trans hg2
                  cases hBO
                  have d9 : w8.cell? ⟨g2, j9, none⟩ = some (.slice za zn zc) := hc2 j9 _ (by rw [List.getElem?_map, HZ.out]; rfl)
                  have hsame := same_any hb8 ((HVA.out.but hx8.wgrow (fun _ _ h => h)).1)
                  rw [show decide (((zk, Value.slice za zn zc, zb) : Zt).2.2 = zb) = true from decide_eq_true rfl] at hsame
                  have HSAME := Hid.mk' hsame
                  have HX8 := Hid.mk' hx8
                  clear hs2 e2 hg2 hc2 hsame hb8 hx8 HGT c9
                  go_wp2_with fail
                  refine Calls.mono HSAME.out ?_
                  rintro e w9 ⟨rfl, d, hw⟩
                  have h9 := HX8.out.grow ((But.refl _ w8).drewN (n := d))
                  rw [← hw] at h9
                  have HX9 := Hid.mk' h9
                  clear hw h9 HX8 HSAME d9
                  go_wp2
                  exact ⟨⟨j9 + 1, by omega, by go_num, HX9.out⟩, by simp [Go.RowKit.intOf]; omega⟩
                · have hki : ¬ ((j9 : Int) < (zn : Int)) := by omega
                  have HXE := Hid.mk' (hx.later (m' := 20 * (i + 1)) (by have := HLE.out; have := HZ9.out; have := HN20.out; omega))
                  have hlt9 := HLT.out
                  have hi1 : i + 1 ≤ l := by omega
                  have hi2 : i + 1 ≤ 60 := by omega
                  clear hx hlt9
                  go_wp2
                  exact ⟨⟨_, _, i + 1, _, _, rfl, rfl, by go_num, hi1, hi2, HXE.out⟩, by simp [Go.RowKit.intOf]; omega⟩
            · have HD := Hid.mk' (hv_putFull (q := (A i).wr) HX4.out HKEY.out (HNO.out rfl) (by have := HZL.out; omega) HBF.out HL9.out)
              have hkn : k = n := by have := HX4.out.le; have := HZL.out; omega
              have hknb : ((k : Int) == (n : Int)) = true := by simp [hkn]
              clear HAT HNO hroom hkn
              go_wp2_with fail
              refine Calls.mono HD.out ?_
              rintro e w5 ⟨rfl, h5⟩
              have HX := Hid.mk' h5
              clear h5 HD HX4
              have HLE := Hid.mk' HX.out.le
              have HKY := Hid.mk' (hv_keys HX.out)
              have HZ9 : Hid (Z.length = k) := HZL.out.symm
              rw [HZ9.out] at HKY
              have hgt : decide (n < k) = false := decide_eq_false (by have := HLE.out; have := HZ9.out; omega)
              go_wp2_with fail
              refine Calls.mono HKY.out ?_
              rintro e w7 ⟨⟨qa, qc, rfl⟩, h7⟩
              have HX7 := Hid.mk' h7
              clear h7 HKY HX
              go_wp2
              go_loopw [13, 14, 15] (fun kv _ _ wq => ∃ j9 : Nat, j9 ≤ k ∧ kv = .int .i64 j9 ∧ HvW (fun b => F b ∨ b = g) w wq gt n (20 * i + j9) Z (.slice ka k kc) ((.slice ha k hc))) (fun kv _ _ _ => k - (Go.RowKit.intOf kv).toNat)
              case atStart => exact ⟨0, Nat.zero_le _, rfl, HX7.out⟩
              case round =>
                clear HX7
                obtain ⟨j9, hkl, rfl, hx⟩ := hrel
                have hm9 : 20 * i + j9 ≤ 10000 := by have := HLT.out; have := HLE.out; have := HZ9.out; have := HN20.out; omega
                by_cases hklt : j9 < k
                · have hki : (j9 : Int) < (k : Int) := by omega
                  obtain ⟨⟨zk, zv, zb⟩, hz⟩ : ∃ z, Z[j9]? = some z := ⟨_, List.getElem?_eq_getElem (by have := HZ9.out; omega)⟩
                  have HZ := Hid.mk' hz
                  have HGT := Hid.mk' (hv_get (z := (zk, zv, zb)) hx (List.mem_of_getElem? hz) hm9)
                  have hva := hx.r.va _ (List.mem_of_getElem? hz)
                  obtain ⟨za, zn, zc, rfl⟩ := hva.1.1.sl
                  have HVA := Hid.mk' hva.1
                  obtain ⟨ao1, c1, e1, hs1⟩ := hx.r.rk.shape
                  obtain ⟨g1, hg1, -, -, hc1⟩ := hs1 (by have := HZ9.out; omega)
                  simp only [Value.slice.injEq] at e1
                  have hAO := e1.1.trans hg1
                  cases hAO
                  have c9 : wr.cell? ⟨g1, j9, none⟩ = some (.int .i64 zk) := hc1 j9 _ (by rw [List.getElem?_map, hz]; rfl)
                  clear hs1 e1 hg1 hc1 hva hx hz
                  go_wp2_with fail
                  refine Calls.mono HGT.out ?_
                  rintro e w8 ⟨⟨v8, rfl, hb8⟩, hx8⟩
                  obtain ⟨va, vn, vc, rfl⟩ := hb8.sl
                  obtain ⟨ao2, c2, e2, hs2⟩ := hx8.r.rh.shape
                  obtain ⟨g2, hg2, -, -, hc2⟩ := hs2 (by have := HZ9.out; omega)
                  simp only [Value.slice.injEq] at e2
                  have hBO := e2.1.trans hg2
                  cases hBO
                  have d9 : w8.cell? ⟨g2, j9, none⟩ = some (.slice za zn zc) := hc2 j9 _ (by rw [List.getElem?_map, HZ.out]; rfl)
                  have hsame := same_any hb8 ((HVA.out.but hx8.wgrow (fun _ _ h => h)).1)
                  rw [show decide (((zk, Value.slice za zn zc, zb) : Zt).2.2 = zb) = true from decide_eq_true rfl] at hsame
                  have HSAME := Hid.mk' hsame
                  have HX8 := Hid.mk' hx8
                  clear hs2 e2 hg2 hc2 hsame hb8 hx8 HGT c9
                  go_wp2_with fail
                  refine Calls.mono HSAME.out ?_
                  rintro e w9 ⟨rfl, d, hw⟩
                  have h9 := HX8.out.grow ((But.refl _ w8).drewN (n := d))
                  rw [← hw] at h9
                  have HX9 := Hid.mk' h9
                  clear hw h9 HX8 HSAME d9
                  go_wp2
                  exact ⟨⟨j9 + 1, by omega, by go_num, HX9.out⟩, by simp [Go.RowKit.intOf]; omega⟩
                · have hki : ¬ ((j9 : Int) < (k : Int)) := by omega
                  have HXE := Hid.mk' (hx.later (m' := 20 * (i + 1)) (by have := HLE.out; have := HZ9.out; have := HN20.out; omega))
                  have hlt9 := HLT.out
                  have hi1 : i + 1 ≤ l := by omega
                  have hi2 : i + 1 ≤ 60 := by omega
                  clear hx hlt9
                  go_wp2
                  exact ⟨⟨_, _, i + 1, _, _, rfl, rfl, by go_num, hi1, hi2, HXE.out⟩, by simp [Go.RowKit.intOf]; omega⟩
          · have HD := Hid.mk' (hv_put (q := (A i).wr) (Z' := Z.set a ((A i).key, .slice va vn vc, (A i).bs)) HX4.out HKEY.out (fun s h1 h2 => h1.put2 h2 hza hzk) HBF.out HL9.out)
            have hali : (a : Int) < (k : Int) := by omega
            have hna : ¬ ((a : Int) < 0) := by omega
            have HLA : Hid (a < k) := hal
            have HZA := Hid.mk' hza
            have HZK := Hid.mk' hzk
            clear HAT HNO hza hzk hal
            go_wp2_with fail
            refine Calls.mono HD.out ?_
            rintro e w5 ⟨rfl, h5, hb5⟩
            have hB5 := HF4.out.but hb5 (fun e => e.2 (.inr rfl))
            have b3 : w5.cell? ⟨g, 3, none⟩ = some (.slice va vn vc) := by rw [← hvs]; exact hB5.cell 3
            obtain ⟨ao2, c2, e2, hs2⟩ := h5.r.rh.shape
            obtain ⟨gh, hg2, -, -, -⟩ := hs2 (by have := HZL.out; have := HLA.out; omega)
            simp only [Value.slice.injEq] at e2
            have hBO := e2.1.trans hg2
            cases hBO
            have hrh := h5.r.rh
            rw [← HZL.out] at hrh
            obtain ⟨MH, hMH, hMHl⟩ := hrh.blk
            rw [List.length_map, ← HZL.out] at hMHl
            obtain ⟨uh, huh⟩ : ∃ u, w5.cell? ⟨gh, a, none⟩ = some u := ⟨_, by rw [hMH.cell]; exact List.getElem?_eq_getElem (by have := HLA.out; omega)⟩
            have f2 : w5.frozen? ⟨gh, a, none⟩ = false := hMH.free a
            have HX := Hid.mk' (h5.lay HZL.out.symm HZA.out HZK.out HBF.out)
            clear h5 hb5 hB5 hs2 e2 hg2 hrh hMH hMHl HD HX4 HF4
            have HLE := Hid.mk' HX.out.le
            have HKY := Hid.mk' (hv_keys HX.out)
            have HZ9 : Hid ((Z.set a ((A i).key, Value.slice va vn vc, (A i).bs)).length = k) := (by show _ = _; rw [List.length_set]; exact HZL.out.symm)
            rw [HZ9.out] at HKY
            have hgt : decide (n < k) = false := decide_eq_false (by have := HLE.out; have := HZ9.out; omega)
            go_wp2_with fail
            refine Calls.mono HKY.out ?_
            rintro e w7 ⟨⟨qa, qc, rfl⟩, h7⟩
            have HX7 := Hid.mk' h7
            clear h7 HKY HX
            go_wp2
            go_loopw [13, 14, 15] (fun kv _ _ wq => ∃ j9 : Nat, j9 ≤ k ∧ kv = .int .i64 j9 ∧ HvW (fun b => F b ∨ b = g) w wq gt n (20 * i + j9) (Z.set a ((A i).key, Value.slice va vn vc, (A i).bs)) (.slice ka k kc) ((.slice (some ⟨gh, 0, none⟩) k hc))) (fun kv _ _ _ => k - (Go.RowKit.intOf kv).toNat)
            case atStart => exact ⟨0, Nat.zero_le _, rfl, HX7.out⟩
            case round =>
              clear HX7
              obtain ⟨j9, hkl, rfl, hx⟩ := hrel
              have hm9 : 20 * i + j9 ≤ 10000 := by have := HLT.out; have := HLE.out; have := HZ9.out; have := HN20.out; omega
              by_cases hklt : j9 < k
              · have hki : (j9 : Int) < (k : Int) := by omega
                obtain ⟨⟨zk, zv, zb⟩, hz⟩ : ∃ z, (Z.set a ((A i).key, Value.slice va vn vc, (A i).bs))[j9]? = some z := ⟨_, List.getElem?_eq_getElem (by have := HZ9.out; omega)⟩
                have HZ := Hid.mk' hz
                have HGT := Hid.mk' (hv_get (z := (zk, zv, zb)) hx (List.mem_of_getElem? hz) hm9)
                have hva := hx.r.va _ (List.mem_of_getElem? hz)
                obtain ⟨za, zn, zc, rfl⟩ := hva.1.1.sl
                have HVA := Hid.mk' hva.1
                obtain ⟨ao1, c1, e1, hs1⟩ := hx.r.rk.shape
                obtain ⟨g1, hg1, -, -, hc1⟩ := hs1 (by have := HZ9.out; omega)
                simp only [Value.slice.injEq] at e1
                have hAO := e1.1.trans hg1
                cases hAO
                have c9 : wr.cell? ⟨g1, j9, none⟩ = some (.int .i64 zk) := hc1 j9 _ (by rw [List.getElem?_map, hz]; rfl)
                clear hs1 e1 hg1 hc1 hva hx hz
                go_wp2_with fail
                refine Calls.mono HGT.out ?_
                rintro e w8 ⟨⟨v8, rfl, hb8⟩, hx8⟩
                obtain ⟨va, vn, vc, rfl⟩ := hb8.sl
                obtain ⟨ao2, c2, e2, hs2⟩ := hx8.r.rh.shape
                obtain ⟨g2, hg2, -, -, hc2⟩ := hs2 (by have := HZ9.out; omega)
                simp only [Value.slice.injEq] at e2
                have hBO := e2.1.trans hg2
                cases hBO
                have d9 : w8.cell? ⟨gh, j9, none⟩ = some (.slice za zn zc) := hc2 j9 _ (by rw [List.getElem?_map, HZ.out]; rfl)
                have hsame := same_any hb8 ((HVA.out.but hx8.wgrow (fun _ _ h => h)).1)
                rw [show decide (((zk, Value.slice za zn zc, zb) : Zt).2.2 = zb) = true from decide_eq_true rfl] at hsame
                have HSAME := Hid.mk' hsame
                have HX8 := Hid.mk' hx8
                clear hs2 e2 hg2 hc2 hsame hb8 hx8 HGT c9
                go_wp2_with fail
                refine Calls.mono HSAME.out ?_
                rintro e w9 ⟨rfl, d, hw⟩
                have h9 := HX8.out.grow ((But.refl _ w8).drewN (n := d))
                rw [← hw] at h9
                have HX9 := Hid.mk' h9
                clear hw h9 HX8 HSAME d9
                go_wp2
                exact ⟨⟨j9 + 1, by omega, by go_num, HX9.out⟩, by simp [Go.RowKit.intOf]; omega⟩
              · have hki : ¬ ((j9 : Int) < (k : Int)) := by omega
                have HXE := Hid.mk' (hx.later (m' := 20 * (i + 1)) (by have := HLE.out; have := HZ9.out; have := HN20.out; omega))
                have hlt9 := HLT.out
                have hi1 : i + 1 ≤ l := by omega
                have hi2 : i + 1 ≤ 60 := by omega
                clear hx hlt9
                go_wp2
                exact ⟨⟨_, _, i + 1, _, _, rfl, rfl, by go_num, hi1, hi2, HXE.out⟩, by simp [Go.RowKit.intOf]; omega⟩
    · have HWG := Hid.mk' hI.wgrow
      clear hI
      rcases (by omega : i < l ∧ ¬ i < 60 ∨ ¬ i < l) with ⟨h1, h2⟩ | h1
      · have hlti : (i : Int) < (l : Int) := by omega
        have hlt2 : ¬ ((i : Int) < 60) := by omega
        go_wp2_with fail
        refine Calls.mono (awake_any _) ?_
        rintro e wa ⟨rfl, ga'⟩
        have HGA' := Hid.mk' (HWG.out.trans ga')
        clear ga'
        go_wp2
        go_ret
        exact ⟨rfl, HGA'.out.below (Nat.le_refl _) (fun _ _ h => h)⟩
      · have hlti : ¬ ((i : Int) < (l : Int)) := by omega
        go_wp2_with fail
        refine Calls.mono (awake_any _) ?_
        rintro e wa ⟨rfl, ga'⟩
        have HGA' := Hid.mk' (HWG.out.trans ga')
        clear ga'
        go_wp2
        go_ret
        exact ⟨rfl, HGA'.out.below (Nat.le_refl _) (fun _ _ h => h)⟩

set_option maxRecDepth 100000 in
theorem framesHave_lifted (os : Os) (started : os.Started) (H : Type) (enc : TypeId × Value → H) :
    ReturnsInHanded {} Try.checked os 4 .any (Rows.framesHaveSpec.pre6 enc Try.prog Try.f4 Rows.framesHaveRow.domain false) (Rows.framesHaveSpec.post enc Try.prog Try.f4 false true false false) := by
  refine returnsInHanded_of_change_sized (C := Try.checked) (by kernel_rfl) started (by kernel_rfl) Try.func4
    (ChangeSpec.witness6 (enc := enc) (C := Try.checked) false ⟨#[], #[.int .i64 0, .slice none 0 0], []⟩ 8 (by kernel_rfl) (by kernel_rfl) (by kernel_rfl) (by kernel_rfl)) ?_
  intro W base args ds gs before hval0 hW hcnd hsz0 _
  have hsz : (DataW.weightsEach Try.prog (Try.f4.params.toList ++ Rows.framesHaveSpec.plain.varTypes Try.prog) (ds ++ gs)).all (· ≤ reachBytes) = true := hsz0
  clear hsz0
  have hval : ∀ (j : Nat) t v, Try.f4.params[j]? = some t → args[j]? = some v → Value.okWide Try.prog W .any base t v := hval0
  have hW' := hW
  obtain ⟨p, q, hA0, hV, rfl, hfz, hnd⟩ := hW
  have hA : DataW.TrodAll enc Try.prog W 0 (fun _ => true) true Try.f4.params.toList args.toList ds p := hA0
  rw [Try.params4] at hA hval hsz
  obtain ⟨v0, vs0, d0, ds0, p0, q0, hargs, rfl, rfl, h0, r0⟩ := trodAll_cons hA
  obtain ⟨v1, vs1, d1, ds1, p1, q1, rfl, rfl, rfl, h1, r1⟩ := trodAll_cons r0
  obtain ⟨rfl, rfl, rfl⟩ := trodAll_nil r1
  obtain rfl : args = #[v0, v1] := by cases args; simp_all
  obtain ⟨rfl, rfl⟩ := trodVars_none hV
  obtain ⟨a0, rfl, rfl, rfl, w0⟩ := open_int Try.underlying3 (hval 0 3 v0 rfl rfl) h0
  have lt1 : ∀ x ∈ p1, x.block < W.heap.size := by obtain ⟨m, hm⟩ := h1; exact DataW.trod_lt m _ _ _ hm
  obtain ⟨n1, z1, w1⟩ := view_facts (hval 1 22 v1 rfl rfl) h1 lt1 hsz (j := 1) rfl rfl
  clear hA0 hval0
  refine (framesHave_walk a0 v1 n1 z1 W w0 w1).mono fun e W' ⟨he, bel⟩ => ?_
  subst he
  exact ⟨_, rfl, _, _, _, [], _, [], hW', trodAll_mk1 (shut_bool Try.underlying4 _), (trodAll_cons_mk (shut_int Try.underlying3 w0) (trodAll_cons_mk (Below.trod (by kernel_rfl) (by kernel_rfl) (of_decide_eq_true (by kernel_rfl)) h1 bel lt1) trodAll_mk0)), rfl, bel.frame _, fun h => by cases h⟩

theorem framesHave_holds : Rows.FramesHaveSaid :=
  OpenClaim.holds_of_wide 4 Try.f4 rfl rfl rfl rfl rfl rfl rfl ⟨rfl, rfl, rfl, rfl, rfl⟩ rfl rfl rfl rfl rfl (by kernel_rfl) Try.func4 (by kernel_rfl)
    (of_decide_eq_true (by kernel_rfl)) (by unfold Func.isWrapper; first | (rw [if_pos (by decide +kernel)]; kernel_rfl) | (rw [if_neg (by decide +kernel)]; exact ⟨rfl, rfl⟩))
    (fun os started H enc _ => framesHave_lifted os started H enc)
#print axioms framesHave_holds
end Go.Proofs.Ytmlklmhochihbaa
