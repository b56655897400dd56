/- tree's reference: All. -/
import Derived.Test.YtbidllclcedjbaaDoorTrRChkG
namespace Go.Proofs.YtbidllclcedjbaaDoor
open Go.RowKit

theorem ini_lt {C : List Bk} {k : Nat} (h : k < C.length) : ini C k = C.getD k [] := by unfold ini; rw [if_pos h]
theorem ini_ge {C : List Bk} {k : Nat} (h : C.length ≤ k) : ini C k = z256 := by unfold ini; rw [if_neg (by omega)]
theorem push_ini {C : List Bk} {k : Nat} {zs : Bk} (h : ini C k = zs) : ∀ i, upd (ini C) k zs i = ini C i := fun i => by
  by_cases hi : i = k
  · rw [hi, upd_same, h]
  · rw [upd_other _ _ hi]
/-- A digest laid so far into its place. -/
def setP (zs : List Nat) (a : Nat) (D : List Nat) (j : Nat) : List Nat := zs.take (32 * a) ++ D.take j ++ zs.drop (32 * a + j)
theorem setP_zero (zs D : List Nat) (a : Nat) : setP zs a D 0 = zs := by unfold setP; simp
theorem setP_full {zs D : List Nat} {a : Nat} (h : D.length = 32) : setP zs a D 32 = setK zs a D := by unfold setP setK; rw [List.take_of_length_le (l := D) (by omega)]
theorem setP_len {zs D : List Nat} {a j : Nat} (h : zs.length = 256) (ha : a < 8) (hj : j ≤ 32) (hD : D.length = 32) : (setP zs a D j).length = 256 := by unfold setP; simp; omega
theorem setP_lt {zs D : List Nat} {a j : Nat} (h : ∀ z ∈ zs, z < 256) (hD : ∀ z ∈ D, z < 256) : ∀ z ∈ setP zs a D j, z < 256 := fun z hz => by
  unfold setP at hz
  rcases List.mem_append.1 hz with hz | hz
  · rcases List.mem_append.1 hz with hz | hz
    · exact h z (List.mem_of_mem_take hz)
    · exact hD z (List.mem_of_mem_take hz)
  · exact h z (List.mem_of_mem_drop hz)
theorem setP_next {zs D : List Nat} {a j : Nat} (h : zs.length = 256) (ha : a < 8) (hj : j < 32) (hD : D.length = 32) : (setP zs a D j).set (32 * a + j) (D.getD j 0) = setP zs a D (j + 1) := by
  unfold setP
  have e1 : zs.drop (32 * a + j) = zs.getD (32 * a + j) 0 :: zs.drop (32 * a + (j + 1)) := by
    rw [List.drop_eq_getElem_cons (by omega)]
    simp [List.getD, show 32 * a + j < zs.length by omega, Nat.add_assoc]
  rw [take_next' D j (by omega), e1, List.set_append_right _ _ (by simp; omega)]
  have e2 : 32 * a + j - (zs.take (32 * a) ++ D.take j).length = 0 := by simp; omega
  rw [e2, List.set_cons_zero]
  simp [List.append_assoc]
set_option maxRecDepth 100000 in
set_option maxHeartbeats 16000000 in
theorem rall_any {w : World} {v pv : Value} {p : Pn} {C : List Bk} (hm : Mad p) (hv : Nums w pv p.levels) (hps : Ps w v C) (hn : (C.length : Int) = p.counters) (ho : okB C) :
    Calls Tryd.prog 22 #[pval p pv, v] w fun e w' => ∃ v' G, e = .returned v' ∧ Nb w.heap.size w' v' (p.counters + p.nodes).toNat G (stN p.dig p.parN (ini C) (p.counters + p.nodes).toNat) ∧ Grow w w' := by
  obtain ⟨wb, gp, hbx⟩ := box_pl w p pv
  have HW := Hid.mk' hbx.ew
  have HGP := Hid.mk' hbx.eg
  have HBX := Hid.mk' hbx.blk
  have HG := Hid.mk' hbx.grow
  have hpg := hm.pg
  have hc1 := hm.c1
  have hnd := hm.nd
  have hsm := hm.sum
  have hsp := (LvC.pos hc1.1 hm.lv).2
  have hhd := hm.hd
  obtain ⟨c, hc⟩ : ∃ c, c = C.length := ⟨_, rfl⟩
  obtain ⟨nd, hnn⟩ : ∃ nd : Nat, (nd : Int) = p.nodes := ⟨p.nodes.toNat, by omega⟩
  have hN : (p.counters + p.nodes).toNat = c + nd := by omega
  rw [hN]
  have hcb : c ≤ 256 := by omega
  have hdb : nd ≤ 37 := by omega
  obtain ⟨pg, hpge⟩ : ∃ pg : Nat, (pg : Int) = p.pages := ⟨p.pages.toNat, by omega⟩
  have hpgb : pg ≤ 4096 := by omega
  have HPGE := Hid.mk' hpge
  have HND : Hid ((nd : Int) = p.nodes) := hnn
  have HCC : Hid ((c : Int) = p.counters) := by show _ = _; rw [hc]; exact hn
  have HC := Hid.mk' hc
  have HM := Hid.mk' hm
  have HO := Hid.mk' ho
  have HV := Hid.mk' hv
  have HPS := Hid.mk' hps
  obtain ⟨va, vc, hve, hvg⟩ := hps.gen
  rw [← hc] at hve hvg
  subst hve
  have HVG := Hid.mk' hvg
  have HCB : Hid (∀ w', Grow wb w' → ∀ j v, (pcells p pv)[j]? = some v → w'.cell? ((⟨gp, 0, none⟩ : Addr).add j) = some v) := fun w' k => (hbx.blk.but k (fun h => h)).cells0
  unfold pval
  obtain ⟨N, hNN⟩ : ∃ N, N = (pcells p pv).toArray := ⟨_, rfl⟩
  rw [← hNN] at HW ⊢
  have HNN := Hid.mk' hNN
  have H0 : Hid (Nb wb.heap.size wb (.slice none 0 0) 0 (fun _ => 0) (ini C)) := Nb.nil _ _ _ _
  obtain ⟨i0, hi, hz0, hz1, hz2⟩ := info_parts u8info
  clear hbx hpg hc1 hnd hsm hsp hhd hN hc hnn hn hm ho hv hps hvg hNN hpge
  go_enter Tryd.func22, Tryd.ntmps22
  go_upto_region 3 with fail
  rw [← HW.out, ← HGP.out]
  go_loopw [5, 6] (fun xv iv wr => ∃ (k : Nat) (r : Value), r = xv ∧ k ≤ c ∧ iv = .int .i64 k ∧ ∃ G, Nb wb.heap.size wr r k G (ini C) ∧ Grow wb wr) (fun _ iv _ => c - (intOf iv).toNat)
  case atStart => exact ⟨0, _, rfl, Nat.zero_le _, rfl, _, H0.out, But.refl _ _⟩
  case round =>
    obtain ⟨k, r, hr, hk, rfl, G, hnb, hgr⟩ := hrel
    subst hr
    have HNB := Hid.mk' hnb
    have HGR := Hid.mk' hgr
    by_cases hlt : k < c
    · obtain ⟨b, off, rfl, hb, hcc⟩ := HVG.out (by omega)
      obtain ⟨u, hu, hbs⟩ := hcc k hlt
      have hbs' := hbs.but (HG.out.trans hgr) (fun _ _ _ h => h)
      have hu' := grow_cell (HG.out.trans hgr) hu
      obtain ⟨x, hx⟩ : ∃ x, x = C.getD k [] := ⟨_, rfl⟩
      have hxo := HO.out x (by rw [hx]; simp [List.getD, show k < C.length by rw [← HC.out]; exact hlt])
      rw [← hx] at hbs'
      have HCP := Hid.mk' (copy_any hbs' (by rw [hxo.1]; decide))
      have HXO := Hid.mk' hxo
      have HX : Hid (ini C k = x) := by show _ = _; rw [hx, ini_lt (by rw [← HC.out]; exact hlt)]
      obtain ⟨ua, un, uc, rfl⟩ := hbs.sl
      obtain ⟨ra, rc, hre⟩ := hnb.len
      subst hre
      clear hcc hu hbs hbs' hx hxo hnb hgr hb
      go_wp2_with fail
      refine Calls.mono HCP.out ?_
      rintro e w1 ⟨v1, rfl, ho1, hb1⟩
      have hg1 : Grow wr w1 := But.of hb1
      obtain ⟨g1, cp, R, rfl, hge, hbk, hRl, hc1, hc2⟩ := ho1.opn (by have := HXO.out.1; omega)
      rw [HXO.out.1] at hRl hc1 ⊢
      have HEL : Hid (El (w1.alloc (.cells #[.slice (some ⟨g1, 0, none⟩) 256 cp] 22)) (.slice (some ⟨g1, 0, none⟩) 256 cp) g1 x) := ⟨cp, R, rfl, hc1, HXO.out.1, HXO.out.2, hbk.but (R := fun _ => False) ((But.refl _ w1).alloc _) (fun h => h)⟩
      have HG1 := Hid.mk' hg1
      have HNBi := Hid.mk' ((HNB.out.grow hg1).grow ((But.refl (fun _ => False) w1).alloc (.cells #[.slice (some ⟨g1, 0, none⟩) 256 cp] 22)))
      have HBLK : Hid (Blk (w1.alloc (.cells #[.slice (some ⟨g1, 0, none⟩) 256 cp] 22)) w1.heap.size 22 [.slice (some ⟨g1, 0, none⟩) 256 cp]) := Blk.new rfl
      have HGE := Hid.mk' hge
      have HLO : Hid (∀ i, i < k → G i ≠ g1) := fun i hi e => by
        obtain ⟨V, -, hV⟩ := HNB.out.ex
        have := (hV i hi).lt
        omega
      have HRO : Hid ((Value.slice ra k rc).ownBlock ≠ some g1) := fun e => by
        have := (HNB.out.row.lt _ e).2
        omega
      clear ho1 hb1 hg1 hbk hRl hc1 hc2 hge HCP
      go_wp2_with (first
        | (refine wpList_someH rfl (exec_append (v := .slice ra k rc) (n := k) (xs := (List.range k).map HNBi.out.ex.choose) (news := [.slice (some ⟨g1, 0, none⟩) 256 cp]) Tryd.underlying45 infS rfl (by decide) rfl rfl HNBi.out.row rfl rfl (fun j u hj => HBLK.out.cells0 j u hj) (fun u hu => by rw [show u = .slice (some ⟨g1, 0, none⟩) 256 cp by simpa using hu]; rfl) (by omega) (by decide)) ?_; intro v5 w5 hap)
        | fail)
      have hs1 := HG1.out.size
      have hs2 := HGR.out.size
      have hpu := Nb.push HNBi.out HEL.out (by have := HGE.out; omega) (by simp; omega) HLO.out HRO.out hap
      refine ⟨⟨k + 1, v5, rfl, by omega, by go_num, _, hpu.same (fun i _ => push_ini HX.out i), (HGR.out.trans (HG1.out.alloc _)).then hap.but (fun i hi e => ?_)⟩, by simp [intOf]; omega⟩
      have := (HNBi.out.rnew i e).1
      omega
    · have hkc : k = c := by omega
      subst hkc
      obtain ⟨c, hcc⟩ : ∃ c, c = k := ⟨_, rfl⟩
      subst hcc
      obtain ⟨r0, hr0⟩ : ∃ r0, r0 = r := ⟨_, rfl⟩
      subst hr0
      obtain ⟨wq, hwq⟩ : ∃ wq, wq = wr := ⟨_, rfl⟩
      subst hwq
      obtain ⟨ra0, rc0, hre0⟩ := hnb.len
      subst hre0
      have HNBQ := HNB
      have HGRQ := HGR
      clear hnb hgr HNB HGR H0 HVG HPS HO
      go_upto_region 7 with fail
      go_loopw [5, 7] (fun xv iv wr => ∃ (k : Nat) (r : Value), r = xv ∧ k ≤ nd ∧ iv = .int .i64 k ∧ ∃ G, Nb wb.heap.size wr r (c + k) G (ini C) ∧ Grow wb wr) (fun _ iv _ => nd - (intOf iv).toNat)
      case atStart => exact ⟨0, _, rfl, Nat.zero_le _, rfl, _, HNBQ.out, HGRQ.out⟩
      case round =>
        obtain ⟨k, r, hr, hk, rfl, G, hnb, hgr⟩ := hrel
        subst hr
        have HNB := Hid.mk' hnb
        have HGR := Hid.mk' hgr
        have cnd : wr.cell? ⟨gp, 4, none⟩ = some (.int .i64 (nd : Int)) := by
          rw [HND.out]; exact (HBX.out.but hgr (fun h => h)).cell 4
        by_cases hlt : k < nd
        · obtain ⟨ra, rc, hre⟩ := hnb.len
          subst hre
          have HX : Hid (ini C (c + k) = z256) := ini_ge (by rw [← HC.out]; omega)
          clear hnb hgr
          obtain ⟨q, hq⟩ : ∃ q, q = c + k := ⟨_, rfl⟩
          rw [← hq] at HNB HX ⊢
          have HQ := Hid.mk' hq
          have hqb : q ≤ 300 := by omega
          clear hq
          go_wp2_with (first
            | (at_make; refine wpList_make_full _ rfl _ _ 22 rfl wr.heap.size 5 i0 (.int .u8 0) 1 Tryd.underlying22 hi hz0 hz1 .i64 .i64 _ _ 256 rfl rfl (by go_num) (by go_num) (by rw [hz2]; omega) (by unfold maxLen; omega) (Nat.le_refl _) ?_; intro w3 hown hgrow; have HT3 : Hid (Grow wr w3) := (But.refl _ _).grown hgrow (by simp); have HO3 := Hid.mk' (own_block hown); have HNB3 := Hid.mk' ((HNB.out.grow HT3.out).grow ((But.refl (fun _ => False) w3).alloc (.cells #[.slice (some ⟨wr.heap.size, 0, none⟩) 256 256] 22))); have HBL : Hid (Blk (w3.alloc (.cells #[.slice (some ⟨wr.heap.size, 0, none⟩) 256 256] 22)) w3.heap.size 22 [.slice (some ⟨wr.heap.size, 0, none⟩) 256 256]) := Blk.new rfl)
            | (refine wpList_someH rfl (exec_append (v := .slice ra q rc) (n := q) (xs := (List.range q).map HNB3.out.ex.choose) (news := [.slice (some ⟨wr.heap.size, 0, none⟩) 256 256]) Tryd.underlying45 infS rfl (by decide) rfl rfl HNB3.out.row rfl rfl (fun j u hj => HBL.out.cells0 j u hj) (fun u hu => by rw [show u = .slice (some ⟨wr.heap.size, 0, none⟩) 256 256 by simpa using hu]; rfl) (by omega) (by decide)) ?_; intro v5 w5 hap)
            | fail)
          have hel : El (w3.alloc (.cells #[.slice (some ⟨wr.heap.size, 0, none⟩) 256 256] 22)) (.slice (some ⟨wr.heap.size, 0, none⟩) 256 256) wr.heap.size z256 := by
            have hb : Blk w3 wr.heap.size 5 (u8s z256) := by
              have := HO3.out
              rw [made_zero] at this
              exact this
            exact ⟨256, [], rfl, Nat.le_refl _, z256_len, z256_lt, by rw [List.append_nil]; exact hb.but (R := fun _ => False) ((But.refl _ w3).alloc _) (fun h => h)⟩
          have hlow : ∀ i, i < q → G i ≠ wr.heap.size := fun i hi e => by
            obtain ⟨V, -, hV⟩ := HNB.out.ex
            have := (hV i hi).lt
            omega
          have hro : (Value.slice ra q rc).ownBlock ≠ some wr.heap.size := fun e => by
            have := (HNB.out.row.lt _ e).2
            omega
          have hs2 := HGR.out.size
          have hs3 := HT3.out.size
          have hpu := Nb.push HNB3.out hel (by omega) (by simp; omega) hlow hro hap
          refine ⟨⟨k + 1, v5, rfl, by omega, by go_num, _, by rw [← Nat.add_assoc, ← HQ.out]; exact hpu.same (fun i _ => push_ini HX.out i), (HGR.out.trans (HT3.out.alloc _)).then hap.but (fun i hi e => ?_)⟩, by simp [intOf]; omega⟩
          have := (HNB3.out.rnew i e).1
          omega
        · have hkn : k = nd := by omega
          subst hkn
          obtain ⟨nd, hndd⟩ : ∃ nd, nd = k := ⟨_, rfl⟩
          subst hndd
          obtain ⟨ws, hws⟩ : ∃ ws, ws = wr := ⟨_, rfl⟩
          subst hws
          obtain ⟨ra, rc, hre⟩ := hnb.len
          subst hre
          obtain ⟨n, hn⟩ : ∃ n, n = c + nd := ⟨_, rfl⟩
          rw [← hn] at hnb HNB ⊢
          have HNE := Hid.mk' hn
          have hnbd : n ≤ 300 := by omega
          have HNBS : Hid (Nb wb.heap.size ws (.slice ra n rc) n G (stN p.dig p.parN (ini C) 0)) := HNB.out
          have HGRS := HGR
          have HT := Hid.mk' (HM.out.tree)
          rw [show (p.counters + p.nodes).toNat = n by have := HCC.out; have := HND.out; omega] at HT
          clear hnb hgr HNB HGR HNBQ HGRQ hn
          go_upto_region 11 with fail
          go_loopw [8] (fun iv wr => ∃ k : Nat, k ≤ n ∧ iv = .int .i64 k ∧ Nb wb.heap.size wr (.slice ra n rc) n G (stN p.dig p.parN (ini C) k) ∧ Grow wb wr) (fun iv _ => n - (intOf iv).toNat)
          case atStart => exact ⟨0, Nat.zero_le _, rfl, HNBS.out, HGRS.out⟩
          case round =>
            obtain ⟨k, hk, rfl, hnb, hgr⟩ := hrel
            have HNB := Hid.mk' hnb
            have HGR := Hid.mk' hgr
            by_cases hlt : k < n
            · have cpg : wr.cell? ⟨gp, 0, none⟩ = some (.int .i64 (pg : Int)) := by rw [HPGE.out]; exact (HBX.out.but hgr (fun h => h)).cell 0
              have hbk : p.pages + (k : Int) = ((pg : Int) + (k : Int)) := by have := HPGE.out; omega
              have hup := HM.out.parN_up (i := k) (by have := HCC.out; have := HND.out; have := HNE.out; omega)
              have hpar : p.parN k = if (p.par (p.pages + k)).e = 0 then some (((p.par (p.pages + k)).block - p.pages).toNat, (p.par (p.pages + k)).at'.toNat) else none := rfl
              rw [hbk] at hup hpar
              have hbi : i64 ((pg : Int) + (k : Int)) := by unfold i64; omega
              have hpr := rparent_any wr p pv ((pg : Int) + (k : Int)) hbi (HV.out.grow (HG.out.trans hgr)) HM.out.good
              rw [HM.out.rpar hbi] at hpr
              obtain ⟨pb2, hpb2⟩ : ∃ q, q = (p.par ((pg : Int) + (k : Int))).block := ⟨_, rfl⟩
              obtain ⟨pa2, hpa2⟩ : ∃ q, q = (p.par ((pg : Int) + (k : Int))).at' := ⟨_, rfl⟩
              obtain ⟨pe2, hpe2⟩ : ∃ q, q = (p.par ((pg : Int) + (k : Int))).e := ⟨_, rfl⟩
              unfold Pc.ret pval at hpr
              rw [← hpb2, ← hpa2, ← hpe2] at hpr
              rw [← hpb2, ← hpa2, ← hpe2] at hup hpar
              have HPR := Hid.mk' hpr
              have HUP := Hid.mk' hup
              have HPAR := Hid.mk' hpar
              have HLD := Hid.mk' (HCB.out wr hgr)
              clear hpb2 hpa2 hpe2 hpr hup hpar hbi hnb hgr hbk
              go_wp2_with (first
                | (refine wpList_load_cells rfl _ _ rfl ⟨gp, 0, none⟩ rfl (pcells p pv) _ HLD.out Tryd.underlying44 rfl iPl ?_)
                | fail)
              refine Calls.mono HPR.out ?_
              rintro e w1 ⟨rfl, hg1⟩
              have HG1 := Hid.mk' hg1
              obtain ⟨g9, hg9⟩ : ∃ g, g = w1.heap.size := ⟨_, rfl⟩
              have HBP : Hid (Blk (w1.alloc (.cells (plc 0 0).toArray 83)) w1.heap.size 83 ([] ++ plc 0 0 ++ [])) := Blk.new rfl
              clear hg1
              go_upto_region 14 with (first
                | (refine wpList_runH rfl (exec_allocF rfl (zPc _)) ?_)
                | (refine wpList_store_at rfl _ _ _ rfl w1.heap.size 0 (plc pb2 pa2) rfl (by exact rfl) 83 [] (plc 0 0) [] HBP.out rfl rfl iPc2 (plc_one _ _) ?_; intro w2 hb2 hbut2; rw [List.nil_append, List.append_nil] at hb2)
                | fail)
              have hg2 : Grow w1 w2 := ((But.refl _ w1).alloc _).then hbut2 (fun i hi e => by omega)
              rw [← hg9] at hb2 ⊢
              have HB2 := Hid.mk' hb2
              have HG2 := Hid.mk' (HG1.out.trans hg2)
              have hg9w : wr.heap.size ≤ g9 := by have := HG1.out.size; omega
              have HG9 := Hid.mk' hg9w
              clear hb2 hbut2 hg2 hg9 HBP HLD hg9w
              by_cases hpe : pe2 = 0
              · have hpeb : (pe2 != 0) = false := by rw [hpe]; rfl
                have hpn := HPAR.out
                rw [if_pos hpe] at hpn
                obtain ⟨q2, q3, q4, q5, q6⟩ : (pg : Int) + k < pb2 ∧ p.pages + p.counters ≤ pb2 ∧ pb2 < p.head ∧ 0 ≤ pa2 ∧ pa2 < 8 := by
                  rcases HUP.out with h | ⟨-, h⟩
                  · exact absurd hpe h
                  · exact h
                obtain ⟨b, hb⟩ : ∃ b : Nat, b = (pb2 - p.pages).toNat := ⟨_, rfl⟩
                obtain ⟨a, ha⟩ : ∃ a : Nat, a = pa2.toNat := ⟨_, rfl⟩
                rw [← hb, ← ha] at hpn
                have hhd := HM.out.hd
                have hbI : pb2 = (pg : Int) + (b : Int) := by have := HPGE.out; omega
                have haI : pa2 = (a : Int) := by omega
                have hbn : b < n := by have := HPGE.out; have := HCC.out; have := HND.out; have := HNE.out; omega
                have ha8 : a < 8 := by omega
                have HPN : Hid (p.parN k = some (b, a)) := hpn
                obtain ⟨rb, rc', cap1, R1, hve1, hcell1, hcap1, hblk1, htl1, htz1, -, -, -⟩ := HNB.out.opn (i := k) hlt
                simp only [Value.slice.injEq, true_and] at hve1
                obtain ⟨rfl, rfl⟩ := hve1
                obtain ⟨x, hx⟩ : ∃ x, x = stN p.dig p.parN (ini C) k k := ⟨_, rfl⟩
                rw [← hx] at hblk1 htl1 htz1
                have hel1 : El wr (.slice (some ⟨G k, 0, none⟩) 256 cap1) (G k) x := ⟨cap1, R1, rfl, hcap1, htl1, htz1, hblk1⟩
                obtain ⟨gk, hgk⟩ : ∃ gk, gk = G k := ⟨_, rfl⟩
                rw [← hgk] at hcell1 hel1
                obtain ⟨D, hD⟩ : ∃ D, D = p.dig k x := ⟨_, rfl⟩
                have HDW : Hid (wf32 D) := by show wf32 _; rw [hD]; exact bd_wf _ _
                have HDG : Hid (∀ w', Grow wr w' → Calls Tryd.prog 13 #[.int .i64 ((pg : Int) + (k : Int)), .slice (some ⟨gk, 0, none⟩) 256 cap1] w' fun e w'' => e = .returned (dkey D) ∧ Grow w' w'') := fun w' kk => by
                  have := rdig_any (x := (pg : Int) + (k : Int)) (hel1.bs.but kk (fun _ _ _ h => h)) (by omega)
                  rw [hD]
                  unfold Pn.dig
                  rw [← HPGE.out]
                  exact this
                obtain ⟨DN, hDN⟩ : ∃ DN, DN = (u8s D).toArray := ⟨_, rfl⟩
                rw [show dkey D = .agg DN by rw [hDN]; rfl] at HDG
                have HDN := Hid.mk' hDN
                have HD := Hid.mk' hD
                have HX := Hid.mk' hx
                have HC1 : Hid (∀ w', Grow wr w' → w'.cell? ⟨rb, k, none⟩ = some (.slice (some ⟨gk, 0, none⟩) 256 cap1)) := fun w' kk => grow_cell kk hcell1
                have HCP : Hid (∀ w', Grow wr w' → w'.cell? ⟨gp, 0, none⟩ = some (.int .i64 (pg : Int))) := fun w' kk => grow_cell kk cpg
                obtain ⟨Z, hZ⟩ : ∃ Z, Z = u8s z32 := ⟨_, rfl⟩
                have hz := z32v
                rw [← hZ] at hz
                have HZL : Hid (Z.length = 32) := by show _ = _; rw [hZ]; rfl
                have HBI := Hid.mk' hbI
                have HAI := Hid.mk' haI
                have hwk : IntKind.i64.wrap ((pg : Int) + (k : Int)) = (pg : Int) + (k : Int) := wrapI (by omega) (by omega)
                clear hpe hpn q2 q3 q4 q5 q6 hb ha hhd hcell1 hblk1 htl1 htz1 hcap1 hel1 hgk hD hDN hx hZ cpg hbI haI
                go_upto_region 15 with fail
                refine region_chain [([0, 1, 2, 3, 4, 5, 6, 7, 8], 9), ([], 10)] [] (Grow w2) (Grow w2) (by kernel_rfl) (by kernel_rfl) (fun _ _ h k => h.trans k) (fun _ h => h) ((But.refl _ w2).drew) ?_
                intro ι hne X hX
                have cp : ∀ z, (X z).cell? ⟨gp, 0, none⟩ = some (.int .i64 (pg : Int)) := fun z => HCP.out (X z) (HG2.out.trans (hX z))
                have cr : ∀ z, (X z).cell? ⟨rb, k, none⟩ = some (.slice (some ⟨gk, 0, none⟩) 256 cap1) := fun z => HC1.out (X z) (HG2.out.trans (hX z))
                iterate 8 (refine still_step rfl (fun K hK => ?_); go_simp; refine hK _ ?_; clear hK K)
                refine still_call rfl (.agg DN) 13 #[.int .i64 ((pg : Int) + (k : Int)), .slice (some ⟨gk, 0, none⟩) 256 cap1] rfl (fun _ => by kernel_rfl) (fun z => HDG.out (X z) (HG2.out.trans (hX z))) ?_
                intro K hK; go_simp; refine hK _ ?_; clear hK K
                refine still_nil ?_
                clear hX hne cp cr
                refine turn_run rfl rfl (fun u w' => ∃ g, u = .pointer (some ⟨g, 0, none⟩) ∧ w2.heap.size ≤ g ∧ Blk w' g 26 Z ∧ Grow w2 w') (fun _ w' => Grow w2 w') (fun _ w1 w2 h k => by
                  obtain ⟨g, h1, h2, h3, h4⟩ := h
                  exact ⟨g, h1, h2, h3.but k (fun h => h), h4.trans k⟩) (fun _ _ h => by obtain ⟨_, _, _, _, h4⟩ := h; exact h4) (.inr (fun _ _ h => h)) ?_ ?_
                · intro w6 hw6
                  exact ⟨_, _, .inl (exec_allocF rfl (hz w6)), w6.heap.size, rfl, hw6.size, Blk.new rfl, hw6.alloc _⟩
                rintro u ⟨wq', g11, rfl, hge, -, -⟩ Y hY
                go_simp
                refine hY _ ?_
                clear hY Y
                intro ι hne X hX
                refine still_nil ?_
                clear hX hne
                refine turn_run rfl rfl (fun _ w' => Blk w' g11 26 (u8s D) ∧ Grow w2 w') (fun _ w' => Grow w2 w') (fun _ w1 w2 h k => ⟨h.1.but k (fun h => h), h.2.trans k⟩) (fun _ _ h => h.2) (.inr (fun _ _ h => h)) ?_ ?_
                · rintro w6 ⟨g, e, h2, h3, h4⟩
                  have e2 : g11 = g := by simpa using e
                  subst e2
                  exact turn_storeA (D := D) (L := Z) (v := .agg DN) i32 rfl rfl rfl (by rw [HDN.out]) HDW.out.1 HZL.out h3 (fun w7 hb7 hk7 => ⟨hb7, h4.then hk7 (fun i hi e => by omega)⟩)
                rintro z - Y hY
                go_simp
                refine hY _ ?_
                clear hY Y
                intro ι hne X hX
                refine still_nil ?_
                clear hX hne
                intro w5 hw5
                have HB11 := Hid.mk' hw5.1
                have HG25 := Hid.mk' hw5.2
                have HG5 := Hid.mk' (HG2.out.trans hw5.2)
                have HB95 := Hid.mk' (HB2.out.but hw5.2 (fun h => h))
                have HGE := Hid.mk' hge
                clear hw5 hge
                -- the block that has the place
                obtain ⟨rb2, rc2, cp2, R, hve2, hcell2, hcap2, hblk2, htl2, htz2, hne2, hgb2, hset2⟩ := (HNB.out.grow HG5.out).opn (i := b) hbn
                simp only [Value.slice.injEq, Option.some.injEq, Addr.mk.injEq, and_true, true_and] at hve2
                obtain ⟨rfl, rfl⟩ := hve2
                obtain ⟨gb, hgb⟩ : ∃ gb, gb = G b := ⟨_, rfl⟩
                rw [← hgb] at hcell2 hblk2 hne2 hgb2 hset2
                obtain ⟨zs, hzs⟩ : ∃ zs, zs = stN p.dig p.parN (ini C) k b := ⟨_, rfl⟩
                rw [← hzs] at hblk2 htl2 htz2
                have hgbl : gb < wr.heap.size := by
                  obtain ⟨V, -, hV⟩ := HNB.out.ex
                  rw [hgb]; exact (hV b hbn).lt
                have hgpl : gp < wb.heap.size := HBX.out.lt
                have HNE1 : Hid (rb ≠ gb ∧ gp ≠ gb ∧ g9 ≠ gb ∧ g11 ≠ gb) := ⟨hne2, by omega, by have := HG9.out; omega, by have := HGE.out; have := HG2.out.size; omega⟩
                have HSET := Hid.mk' hset2
                have HB5 : Hid (Blk w5 gb 5 (u8s (setP zs a D 0) ++ R)) := by show Blk _ _ _ _; rw [setP_zero]; exact hblk2
                have HC5 : Hid (∀ w', But (· = gb) w5 w' → w'.cell? ⟨rb, b, none⟩ = some (.slice (some ⟨gb, 0, none⟩) 256 cp2)) := fun w' kk => (World.cell?_of_block (kk.block rb (cell_lt hcell2) HNE1.out.1)).trans hcell2
                have cgp5 := HCP.out w5 HG5.out
                have HC6 : Hid (∀ w', But (· = gb) w5 w' → w'.cell? ⟨gp, 0, none⟩ = some (.int .i64 (pg : Int))) := fun w' kk => (World.cell?_of_block (kk.block gp (cell_lt cgp5) HNE1.out.2.1)).trans cgp5
                have HC7 : Hid (∀ w', But (· = gb) w5 w' → Blk w' g9 83 (plc pb2 pa2)) := fun w' kk => HB95.out.but kk HNE1.out.2.2.1
                have HC8 : Hid (∀ w', But (· = gb) w5 w' → Blk w' g11 26 (u8s D)) := fun w' kk => HB11.out.but kk HNE1.out.2.2.2
                have HTL := Hid.mk' htl2
                have HTZ := Hid.mk' htz2
                have HZS := Hid.mk' hzs
                have HGB2 := Hid.mk' hgb2
                have HCAP := Hid.mk' hcap2
                clear hcell2 hcap2 hblk2 htl2 htz2 hne2 hgb2 hset2 hgb hzs hgbl hgpl cgp5
                obtain ⟨wo, hwo⟩ : ∃ wo, wo = wr := ⟨_, rfl⟩
                subst hwo
                rw [HBI.out, HAI.out] at HC7
                go_upto_region 17 with fail
                go_loopw [12] (fun jv wr => ∃ j : Nat, j ≤ 32 ∧ jv = .int .i64 j ∧ Blk wr gb 5 (u8s (setP zs a D j) ++ R) ∧ But (· = gb) w5 wr) (fun jv _ => 32 - (intOf jv).toNat)
                case atStart => exact ⟨0, by omega, rfl, HB5.out, But.refl _ _⟩
                case round =>
                  obtain ⟨j, hj, rfl, hbj, hbt⟩ := hrel
                  have HBJ := Hid.mk' hbj
                  have HBT := Hid.mk' hbt
                  by_cases hjl : j < 32
                  · obtain ⟨m, hm⟩ : ∃ m, m = 32 * a := ⟨_, rfl⟩
                    have hsub : IntKind.i64.wrap ((pg : Int) + (b : Int) - (pg : Int)) = (b : Int) := by rw [wrapI (by omega) (by omega)]; omega
                    have hmul : IntKind.i64.wrap (32 * (a : Int)) = (m : Int) := by rw [wrapI (by omega) (by omega)]; omega
                    obtain ⟨s, hsm⟩ : ∃ s, s = m + j := ⟨_, rfl⟩
                    have haddm : IntKind.i64.wrap ((m : Int) + (j : Int)) = (s : Int) := by rw [wrapI (by omega) (by omega)]; omega
                    have hmj : s < 256 := by omega
                    have hmjI : (s : Int) < 256 := by omega
                    have HSM := Hid.mk' hsm
                    obtain ⟨dj, hdj⟩ : ∃ dj, dj = D.getD j 0 := ⟨_, rfl⟩
                    have HDJ := Hid.mk' hdj
                    have HMA := Hid.mk' hm
                    have HKB : Hid (∀ w', But (· = gb) wr w' → But (· = gb) w5 w') := fun w' kk => hbt.trans kk
                    have hplen : (setP zs a D j).length = 256 := setP_len HTL.out ha8 hj HDW.out.1
                    have HPL := Hid.mk' hplen
                    clear hbj hbt hdj hm hplen hsm
                    go_upto_region 19 with fail
                    refine region_chain [([0, 1, 2, 3, 4, 5, 6, 7, 8, 9, 10, 11, 12, 13, 14, 15, 16], 17)] [] (fun w' => But (· = gb) wr w') (fun w' => Blk w' gb 5 (u8s (setP zs a D j) ++ R) ∧ But (· = gb) wr w') (by kernel_rfl) (by kernel_rfl) (fun _ _ h k => ⟨h.1.but k (fun h => h), h.2.trans (k.mono (fun _ _ h => h.elim))⟩) (fun _ h => h.2) ⟨HBJ.out.but (R := fun _ => False) ((But.refl _ wr).drew) (fun h => h), (But.refl _ wr).drew⟩ ?_
                    intro ι hne X hX
                    have cr : ∀ z, (X z).cell? ⟨rb, b, none⟩ = some (.slice (some ⟨gb, 0, none⟩) 256 cp2) := fun z => HC5.out (X z) (HKB.out _ (hX z))
                    have cp : ∀ z, (X z).cell? ⟨gp, 0, none⟩ = some (.int .i64 (pg : Int)) := fun z => HC6.out (X z) (HKB.out _ (hX z))
                    have c90 : ∀ z, (X z).cell? ⟨g9, 0, none⟩ = some (.int .i64 ((pg : Int) + (b : Int))) := fun z => (HC7.out (X z) (HKB.out _ (hX z))).cell 0
                    have c91 : ∀ z, (X z).cell? ⟨g9, 1, none⟩ = some (.int .i64 (a : Int)) := fun z => (HC7.out (X z) (HKB.out _ (hX z))).cell 1
                    have cd : ∀ z, (X z).cell? ⟨g11, j, none⟩ = some (.int .u8 (dj : Int)) := fun z => by
                      rw [(HC8.out (X z) (HKB.out _ (hX z))).cell, u8s_get _ _ (by rw [HDW.out.1]; exact hjl), HDJ.out]
                    iterate 17 (refine still_step rfl (fun K hK => ?_); go_simp; refine hK _ ?_; clear hK K)
                    refine still_nil ?_
                    clear hX hne cr cp c90 c91 cd
                    refine turn_run rfl rfl (fun _ w' => Blk w' gb 5 (u8s (setP zs a D (j + 1)) ++ R) ∧ But (· = gb) wr w') (fun _ _ => True) (fun _ w1 w2 h k => ⟨h.1.but k (fun h => h), h.2.trans (k.mono (fun _ _ h => h.elim))⟩) (fun _ _ _ => trivial) (.inl (by kernel_rfl)) ?_ ?_
                    · rintro w6 ⟨h6, h7⟩
                      refine turn_store (v := .int .u8 (dj : Int)) (i := s) (by kernel_rfl) rfl rfl rfl rfl h6 (by have := HPL.out; simp [u8s]; omega) ⟨?_, h7.trans (But.set1 w6 gb s _)⟩
                      have hs := h6.set s (.int .u8 (dj : Int))
                      rw [List.set_append_left _ _ (by have := HPL.out; simp [u8s]; omega), u8s_set, HSM.out, HMA.out, HDJ.out, setP_next HTL.out ha8 hjl HDW.out.1] at hs
                      rw [HSM.out, HMA.out, HDJ.out]
                      exact hs
                    · rintro z - Y hY
                      go_simp
                      refine hY _ ?_
                      clear hY Y
                      intro ι hne X hX
                      refine still_nil ?_
                      clear hX hne
                      intro w7 hw7
                      have HK7 := Hid.mk' hw7
                      clear hw7
                      go_wp2
                      exact ⟨⟨j + 1, by omega, by go_num, HK7.out.1, HBT.out.trans HK7.out.2⟩, by simp [intOf]; omega⟩
                  · have hj32 : j = 32 := by omega
                    subst hj32
                    have hns := HSET.out wr (setP zs a D 32) (setP_len HTL.out ha8 (by decide) HDW.out.1) (setP_lt HTZ.out HDW.out.2) hbj hbt
                    have he : upd (stN p.dig p.parN (ini C) k) b (setP zs a D 32) = stN p.dig p.parN (ini C) (k + 1) := by
                      rw [setP_full HDW.out.1, HD.out, HX.out, HZS.out]
                      funext i
                      rw [stN, stp, HPN.out]
                      rfl
                    rw [he] at hns
                    have HNS := Hid.mk' hns
                    clear hns he hbj hbt
                    go_wp2
                    exact ⟨⟨k + 1, by omega, by go_num, HNS.out, (HGR.out.trans HG5.out).then HBT.out (fun i hi e => by have := HGB2.out; omega)⟩, by simp [intOf]; omega⟩
              · have hpeb : (pe2 != 0) = true := by simpa using hpe
                have HPN : Hid (p.parN k = none) := by show _ = _; rw [HPAR.out, if_neg hpe]
                clear hpe
                go_wp2
                refine ⟨⟨k + 1, by omega, by go_num, ?_, HGR.out.trans HG2.out⟩, by simp [intOf]; omega⟩
                have := HNB.out.grow HG2.out
                refine this.same (fun i _ => ?_)
                rw [stN, stp_other (fun a e => by rw [HPN.out] at e; cases e)]
            · have hkn : k = n := by omega
              subst hkn
              clear hnb hgr
              go_wp2
              go_ret
              rw [← HNE.out]
              exact ⟨.slice ra k rc, G, rfl, HNB.out.mono HG.out.size, HG.out.trans HGR.out⟩
end Go.Proofs.YtbidllclcedjbaaDoor
