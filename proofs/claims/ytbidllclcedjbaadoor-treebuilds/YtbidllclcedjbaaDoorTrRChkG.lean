/- tree's reference: Check. -/
import Derived.Test.YtbidllclcedjbaaDoorTrRKidG
namespace Go.Proofs.YtbidllclcedjbaaDoor
open Go.RowKit

/-- The reference's Check lays ahead. -/
structure RcM (w : World) (p : Pn) (pv : Value) (D : List Nat) (W : World) (g : Nat) : Prop where
  ew : W = (w.alloc (.cells (pcells p pv).toArray 44)).alloc (.cells (u8s D).toArray 26)
  eg : g = w.heap.size
  grow : Grow w W
  box : Blk W g 44 (pcells p pv)
  arg : Blk W (g + 1) 26 (u8s D)
theorem rc_begin (w : World) (p : Pn) (pv : Value) (D : List Nat) : ∃ W g, RcM w p pv D W g := by
  refine ⟨_, _, rfl, rfl, ((But.refl _ w).alloc _).alloc _, ?_, Blk.new (by simp)⟩
  exact (Blk.new rfl).but (R := fun _ => False) ((But.refl _ _).alloc _) (fun h => h)
theorem turn_storeS {w : World} {o : Oper} {ρ : Operand → Value} {T : TypeId} {x y : Operand} {g : Nat} {vs L : List Value} {K' : Value → World → Prop} (hi : (Tryd.prog.info? T).map (·.size) = some vs.length) (ho : o.op = .store T x y) (hx : ρ x = .pointer (some ⟨g, 0, none⟩)) (hy : ρ y = .agg vs.toArray) (hL : L.length = vs.length) (h1 : ∀ v ∈ vs, v.oneCell' = true) (hb : Blk w g T L)
    (hk : ∀ w', Blk w' g T vs → But (· = g) w w' → K' undef w') : ∃ u w', ((execOp ρ o).run Tryd.prog w = .ok (.value u) w' ∨ ((execOp ρ o).run Tryd.prog w = .ok .skip w' ∧ u = undef)) ∧ K' u w' := by
  obtain ⟨w', hr, hbl, hbt⟩ := run_storeVar_at w g 0 T T [] L [] vs (by simpa using hb) rfl hL hi h1
  refine ⟨undef, w', .inr ⟨?_, rfl⟩, hk w' (by simpa using hbl) hbt⟩
  unfold execOp
  simp only [ho, hx, hy, Instr.storeAt, Instr.sureAddr, Sem.run_bind, Sem.run_pure, Result.andThen_ok, hr]
set_option maxRecDepth 100000 in
set_option maxHeartbeats 16000000 in
theorem rchk_any {w : World} {v pv : Value} {p : Pn} {x : Int} {root : List Nat} {path : List Bk} (hm : Mad p) (hv : Nums w pv p.levels) (hps : Ps w v path) (hl : path.length ≤ 9) (hr : wf32 root) :
    Calls Tryd.prog 27 #[pval p pv, .int .i64 x, v, dkey root] w fun e w' => ∃ r, e = .returned (.int .i64 r) ∧ CkIs p x path root r ∧ Grow w w' := by
  obtain ⟨W, g, hM⟩ := rc_begin w p pv root
  have HM := Hid.mk' hM
  have HCB : Hid (∀ w', Grow W w' → ∀ j v, (pcells p pv)[j]? = some v → w'.cell? ((⟨g, 0, none⟩ : Addr).add j) = some v) := fun w' k => (hM.box.but k (fun h => h)).cells0
  have HPS := Hid.mk' (fun w' (k : Grow w w') => hps.below k)
  have HV := Hid.mk' hv
  have HMD := Hid.mk' hm
  have HRT := Hid.mk' hr
  unfold pval
  obtain ⟨N, hN⟩ : ∃ N, N = (pcells p pv).toArray := ⟨_, rfl⟩
  obtain ⟨M, hMD⟩ : ∃ M, M = (u8s root).toArray := ⟨_, rfl⟩
  rw [show dkey root = .agg M by rw [hMD]; rfl]
  have hew := hM.ew
  rw [← hN, ← hMD] at hew
  rw [← hN]
  have HN := Hid.mk' hN
  have HMM := Hid.mk' hMD
  have HEW := Hid.mk' hew
  obtain ⟨a0, vc, hve, hpg⟩ := hps.gen
  obtain ⟨m, hmm⟩ : ∃ m, m = path.length := ⟨_, rfl⟩
  rw [← hmm] at hve hl hpg
  have HPM := Hid.mk' hmm
  subst hve
  have HPG := Hid.mk' hpg
  cases hx : p.has x with
  | false =>
    have HRP := Hid.mk' (rpath_not W p pv x hx)
    have HX := Hid.mk' hx
    unfold pval at HRP
    clear hM hN hMD hew hv hm hr hmm hps hpg hx
    go_enter Tryd.func27, Tryd.ntmps27
    go_upto_region 1 with fail
    rw [← HEW.out, ← HM.out.eg]
    go_wp2_with (first
      | (refine wpList_load_cells rfl _ _ rfl ⟨g, 0, none⟩ rfl (pcells p pv) _ (HCB.out W (But.refl _ _)) Tryd.underlying44 rfl iPl ?_)
      | fail)
    refine Calls.mono HRP.out ?_
    rintro e w1 ⟨rfl, hg1⟩
    have HG1 := Hid.mk' (HM.out.grow.trans hg1)
    clear hg1
    unfold noS
    go_wp2
    go_ret
    exact ⟨1, rfl, .inl ⟨HX.out, rfl⟩, HG1.out⟩
  | true =>
    have HX := Hid.mk' hx
    have HRP := Hid.mk' (rpath_any W p pv x hm hx (hv.grow hM.grow))
    have hs := hm.stps hx
    have HS := Hid.mk' hs
    have HI := Hid.mk' (path_nums hm hx)
    unfold PathTo pval at HRP
    have hsl := hs.len
    obtain ⟨bl, hbl⟩ : ∃ bl, bl = p.path x := ⟨_, rfl⟩
    rw [← hbl] at HRP HS HI hsl
    have HBL := Hid.mk' hbl
    clear hM hN hMD hew hv hm hr hmm hps hpg hx hs hbl
    go_enter Tryd.func27, Tryd.ntmps27
    go_upto_region 1 with fail
    rw [← HEW.out, ← HM.out.eg]
    go_wp2_with (first
      | (refine wpList_load_cells rfl _ _ rfl ⟨g, 0, none⟩ rfl (pcells p pv) _ (HCB.out W (But.refl _ _)) Tryd.underlying44 rfl iPl ?_)
      | fail)
    refine Calls.mono HRP.out ?_
    rintro e w1 ⟨vb, rfl, ho, hg1⟩
    have hrow := ho.row
    obtain ⟨nb, nc, rfl, hcb⟩ := row_cellP (e := 3) (v := vb) (L := numv bl) (by rw [show (numv bl).length = bl.length by simp]; exact hrow) (by rw [show (numv bl).length = bl.length by simp]; omega)
    obtain ⟨n, hn⟩ : ∃ n, n = bl.length := ⟨_, rfl⟩
    rw [show (numv bl).length = bl.length by simp, ← hn] at ho ⊢
    have HNN := Hid.mk' hn
    rw [← hn] at hsl
    have HCN : Hid (∀ i, i < n → w1.cell? ⟨nb, i, none⟩ = some (.int .i64 (bl.getD i 0))) := fun i hi => hcb i _ (by simp [List.getD, show i < bl.length by omega])
    have HG1 := Hid.mk' (HM.out.grow.trans hg1)
    have HGW := Hid.mk' hg1
    clear hg1 ho HRP hrow hcb hn
    by_cases hmn : m = n
    · subst hmn
      have hmm : ((m : Int) != (m : Int)) = false := by simp
      go_upto_region 7 with fail
      obtain ⟨pb, po, rfl, hpb⟩ : ∃ pb po, a0 = some ⟨pb, po, none⟩ ∧ pb < w.heap.size := by
        obtain ⟨b, off, e, hb, _⟩ := HPG.out (by omega)
        exact ⟨b, off, e, hb⟩
      have HAT : Hid (∀ w', Grow w w' → ∀ i, i < m → ∃ u, w'.cell? ⟨pb, po + i, none⟩ = some u ∧ Bs w' u (path.getD i [])) := fun w' k i hi => by
        obtain ⟨a, c, e, hh⟩ := (HPS.out w' k).gen
        obtain ⟨b, off, e2, _, hc⟩ := hh (by rw [← HPM.out]; omega)
        simp only [Value.slice.injEq] at e
        rw [e2] at e
        simp only [Option.some.injEq, Addr.mk.injEq, and_true] at e
        obtain ⟨⟨rfl, rfl⟩, _, _⟩ := e
        exact hc i (by rw [← HPM.out]; exact hi)
      clear hpb
      go_loopw [11] (fun iv wr => ∃ k : Nat, k ≤ m ∧ iv = .int .i64 k ∧ wr = w1 ∧ ∀ j, j < k → (path.getD j []).length = 256) (fun iv _ => m - (intOf iv).toNat)
      case atStart => exact ⟨0, Nat.zero_le _, rfl, rfl, fun i hi => absurd hi (Nat.not_lt_zero _)⟩
      case round =>
        obtain ⟨k, hk, rfl, rfl, hall⟩ := hrel
        have HA := Hid.mk' hall
        by_cases hlt : k < m
        · obtain ⟨u, hu, hbs⟩ := HAT.out wr HG1.out k hlt
          obtain ⟨a1, c1, rfl, -⟩ := hbs.gen
          by_cases hl256 : (path.getD k []).length = 256
          · have HL := Hid.mk' hl256
            rw [hl256] at hu
            clear hbs hl256 hall
            go_wp2
            exact ⟨⟨k + 1, by omega, by go_num, trivial, fun j hj => by
              by_cases hjk : j = k
              · rw [hjk]; exact HL.out
              · exact HA.out j (by omega)⟩, by simp [intOf]; omega⟩
          · have HWF : Hid (whl path = false) := whl_not (by rw [← HPM.out]; exact hlt) hl256
            generalize (path.getD k []).length = q at *
            clear hbs hall
            have hq2 : ((q : Int) != 256) = true := by
              have : (q : Int) ≠ 256 := by omega
              simpa using this
            go_wp2
            go_ret
            exact ⟨3, rfl, .inr (.inl ⟨HX.out, .inr HWF.out, rfl⟩), HG1.out⟩
        · have hkm : k = m := by omega
          subst hkm
          have HWT : Hid (whl path = true) := whl_of (fun y hy => by
            obtain ⟨i, hi, rfl⟩ := List.mem_iff_getElem.1 hy
            have := HA.out i (by rw [HPM.out]; exact hi)
            simpa [List.getD, hi] using this)
          have HFT : Hid (Fits p x path) := ⟨HX.out, by rw [← HPM.out, HNN.out, HBL.out], HWT.out⟩
          have H256 := Hid.mk' (whl_true HWT.out)
          have HELT := Hid.mk' (HPS.out w (But.refl _ _)).elems
          clear hall HA
          obtain ⟨w1, hw1⟩ : ∃ w1, w1 = wr := ⟨_, rfl⟩
          subst hw1
          go_upto_region 12 with fail
          obtain ⟨m, hmk⟩ : ∃ m, m = k := ⟨_, rfl⟩
          subst hmk
          go_loopw [12] (fun iv wr => ∃ k : Nat, k ≤ m ∧ iv = .int .i64 k ∧ Grow w1 wr ∧ ∀ i, i < k → bd (bl.getD i 0) (path.getD i []) = wantB p bl path root i) (fun iv _ => m - (intOf iv).toNat)
          case atStart => exact ⟨0, Nat.zero_le _, rfl, But.refl _ _, fun i hi => absurd hi (Nat.not_lt_zero _)⟩
          case round =>
            obtain ⟨k, hk, rfl, hgr, hgood⟩ := hrel
            have HGR := Hid.mk' hgr
            have HGO := Hid.mk' hgood
            by_cases hlt : k < m
            · have hGw : ∀ w', Grow wr w' → Grow w w' := fun w' k => (HG1.out.trans HGR.out).trans k
              obtain ⟨bk, hbk⟩ : ∃ bk, bk = bl.getD k 0 := ⟨_, rfl⟩
              obtain ⟨y, hy⟩ : ∃ y, y = path.getD k [] := ⟨_, rfl⟩
              obtain ⟨D, hD⟩ : ∃ D, D = wantB p bl path root k := ⟨_, rfl⟩
              have HD := Hid.mk' hD
              have HBK := Hid.mk' hbk
              have HYE := Hid.mk' hy
              have HDW : Hid (wf32 D) := by
                show wf32 _; rw [hD]
                exact wantB_wf HS.out (by rw [← HPM.out, HNN.out]) HWT.out HELT.out HRT.out (by rw [← HPM.out]; exact hlt)
              obtain ⟨WN, hWN⟩ : ∃ WN, WN = (u8s D).toArray := ⟨_, rfl⟩
              have HWN := Hid.mk' hWN
              have HCB2 : Hid (∀ w', Grow wr w' → w'.cell? ⟨nb, k, none⟩ = some (.int .i64 bk)) := fun w' kk => by rw [hbk]; exact grow_cell (HGR.out.trans kk) (HCN.out k hlt)
              obtain ⟨u, hu, hbs⟩ := HAT.out wr (hGw wr (But.refl _ _)) k hlt
              rw [← hy] at hbs
              have hy256 : y.length = 256 := H256.out y (by rw [hy]; simp [List.getD, show k < path.length by rw [← HPM.out]; exact hlt])
              have HDG : Hid (∀ w', Grow wr w' → Calls Tryd.prog 13 #[.int .i64 bk, u] w' fun e w'' => e = .returned (dkey (bd bk y)) ∧ Grow w' w'') := fun w' k => rdig_any (hbs.but k (fun _ _ _ h => h)) (by omega)
              have HUC : Hid (∀ w', Grow wr w' → w'.cell? ⟨pb, po + k, none⟩ = some u) := fun w' k => grow_cell k hu
              obtain ⟨DN, hDN⟩ : ∃ DN, DN = (u8s (bd bk y)).toArray := ⟨_, rfl⟩
              rw [show dkey (bd bk y) = .agg DN by rw [hDN]; rfl] at HDG
              obtain ⟨ua, un, uc, hue⟩ := hbs.sl
              obtain ⟨r, hr⟩ : ∃ r : Bool, r = decide (bd bk y = D) := ⟨_, rfl⟩
              have HR := Hid.mk' hr
              have HEQ : Hid (∀ w', (Op.equalIn 10000 26 (.agg DN) (.agg WN)).run Tryd.prog w' = .ok r w') := fun w' => by
                rw [hDN, hWN, hr]; exact equalN ukt _ _ (bd_len _ _) HDW.out.1 w'
              obtain ⟨c9, hc9⟩ : ∃ c9 : Bool, (!r) = c9 := ⟨_, rfl⟩
              have HC9 := Hid.mk' hc9
              obtain ⟨Z, hZ⟩ : ∃ Z, Z = u8s z32 := ⟨_, rfl⟩
              have hz := z32v
              rw [← hZ] at hz
              have HZL : Hid (Z.length = 32) := by show _ = _; rw [hZ]; rfl
              have hbi : i64 bk := by
                rw [hbk]
                exact HI.out _ (by simp [List.getD, show k < bl.length by rw [← HNN.out]; exact hlt])
              obtain ⟨pb2, hpb2⟩ : ∃ q, q = (p.par bk).block := ⟨_, rfl⟩
              obtain ⟨pa2, hpa2⟩ : ∃ q, q = (p.par bk).at' := ⟨_, rfl⟩
              obtain ⟨pe2, hpe2⟩ : ∃ q, q = (p.par bk).e := ⟨_, rfl⟩
              have HPE : Hid (pe2 = (p.par bk).e ∧ pa2 = (p.par bk).at') := ⟨hpe2, hpa2⟩
              have HPR : Hid (∀ w', Grow wr w' → Calls Tryd.prog 43 #[.agg N, .int .i64 bk] w' fun e w'' => e = .returned (.tuple #[.agg (plc pb2 pa2).toArray, .int .i64 pe2]) ∧ Grow w' w'') := fun w' kk => by
                have := rparent_any w' p pv bk hbi (HV.out.grow (hGw w' kk)) HMD.out.good
                rw [HMD.out.rpar hbi] at this
                unfold pval Pc.ret at this
                rw [← HN.out, ← hpb2, ← hpa2, ← hpe2] at this
                exact this
              have HAG : Hid (∀ w', Grow wr w' → Blk w' (g + 1) 26 (u8s root)) := fun w' k => ((HM.out.arg.but HGW.out (fun h => h)).but HGR.out (fun h => h)).but k (fun h => h)
              have HCB3 : Hid (∀ w', Grow wr w' → ∀ j v, (pcells p pv)[j]? = some v → w'.cell? ((⟨g, 0, none⟩ : Addr).add j) = some v) := fun w' k => HCB.out w' ((HGW.out.trans HGR.out).trans k)
              have hwk : IntKind.i64.wrap ((k : Int) + 1) = ((k + 1 : Nat) : Int) := by rw [wrapI (by omega) (by omega)]; omega
              subst hue
              clear hbk hy hD hWN hu hbs hy256 hDN hr hc9 hZ hbi hpb2 hpa2 hpe2 hgood hgr hGw
              have HAR := HAG.out wr (But.refl _ _)
              have HBZ : Hid (Blk (wr.alloc (.cells Z.toArray 26)) wr.heap.size 26 Z) := Blk.new rfl
              obtain ⟨g13, hg13⟩ : ∃ g, g = wr.heap.size := ⟨_, rfl⟩
              have HAR1 : Hid (Blk wr (g + 1) 26 (u8s root)) := HAR
              clear HAR
              go_upto_region 15 with (first
                | (refine wpList_load_u8s ukt i32 rfl _ rfl (g + 1) root HRT.out.1 rfl HAR1.out ?_)
                | (refine wpList_store_u8s i32 rfl _ _ rfl wr.heap.size root HRT.out.1 rfl rfl Z HZL.out HBZ.out ?_; intro w2 hb2 hbut2)
                | fail)
              have hg2 : Grow wr w2 := ((But.refl _ wr).alloc _).then hbut2 (fun i hi e => by omega)
              rw [← hg13] at hb2 ⊢
              have HG2 := Hid.mk' hg2
              have HB2 := Hid.mk' hb2
              have HGV : Hid (wr.heap.size ≤ g13) := by show _ ≤ _; omega
              clear hg2 hb2 hbut2 hg13 HBZ HAR1
              refine region_chain [([0, 1, 2, 3, 4, 5, 6, 7, 8], 9), ([], 10)] [11] (Grow w2) (Grow w2) (by kernel_rfl) (by kernel_rfl) (fun _ _ h k => h.trans k) (fun _ h => h) ((But.refl _ w2).drew) ?_
              intro ι hne X hX
              have cb : ∀ z, (X z).cell? ⟨nb, k, none⟩ = some (.int .i64 bk) := fun z => HCB2.out (X z) (HG2.out.trans (hX z))
              refine still_val rfl (.agg N) rfl (fun z => by rw [HN.out]; exact exec_ldF Tryd.underlying44 rfl iPl (HCB3.out (X z) (HG2.out.trans (hX z))) rfl rfl) ?_
              intro K hK; go_simp; refine hK _ ?_; clear hK K
              iterate 4 (refine still_step rfl (fun K hK => ?_); go_simp; refine hK _ ?_; clear hK K)
              refine still_call rfl (.tuple #[.agg (plc pb2 pa2).toArray, .int .i64 pe2]) 43 #[.agg N, .int .i64 bk] rfl (fun _ => by kernel_rfl) (fun z => HPR.out (X z) (HG2.out.trans (hX z))) ?_
              intro K hK; go_simp; refine hK _ ?_; clear hK K
              iterate 3 (refine still_step rfl (fun K hK => ?_); go_simp; refine hK _ ?_; clear hK K)
              refine still_nil ?_
              clear hX hne cb
              refine turn_run rfl rfl (fun u w' => ∃ g, u = .pointer (some ⟨g, 0, none⟩) ∧ w2.heap.size ≤ g ∧ Blk w' g 83 (plc 0 0) ∧ Grow w2 w') (fun _ w' => Grow w2 w') (fun _ w1 w2 h k => by
                obtain ⟨g, h1, h2, h3, h4⟩ := h
                exact ⟨g, h1, h2, h3.but k (fun h => h), h4.trans k⟩) (fun _ _ h => by obtain ⟨_, _, _, _, h4⟩ := h; exact h4) (.inr (fun _ _ h => h)) ?_ ?_
              · intro w6 hw6
                exact ⟨_, _, .inl (exec_allocF rfl (zPc w6)), w6.heap.size, rfl, hw6.size, Blk.new rfl, hw6.alloc _⟩
              rintro u ⟨wq, g14, rfl, hge, -, -⟩ Y hY
              go_simp
              refine hY _ ?_
              clear hY Y
              intro ι hne X hX
              refine still_nil ?_
              clear hX hne
              refine turn_run rfl rfl (fun _ w' => Blk w' g14 83 (plc pb2 pa2) ∧ Grow w2 w') (fun _ w' => Grow w2 w') (fun _ w1 w2 h k => ⟨h.1.but k (fun h => h), h.2.trans k⟩) (fun _ _ h => h.2) (.inr (fun _ _ h => h)) ?_ ?_
              · rintro w6 ⟨g, e, h2, h3, h4⟩
                have e2 : g14 = g := by simpa using e
                subst e2
                exact turn_storeS (L := plc 0 0) iPc2 rfl rfl rfl rfl (plc_one _ _) h3 (fun w7 hb7 hk7 => ⟨hb7, h4.then hk7 (fun i hi e => by omega)⟩)
              rintro z - Y hY
              go_simp
              refine hY _ ?_
              clear hY Y
              intro ι hne X hX
              refine still_step rfl (fun K hK => ?_); go_simp; refine hK _ ?_; clear hK K
              refine still_nil ?_
              clear hX hne
              intro w3 hw3
              have HB3 := Hid.mk' hw3.1
              have HG3 := Hid.mk' (HG2.out.trans hw3.2)
              have HB13 := Hid.mk' (HB2.out.but hw3.2 (fun h => h))
              clear hw3
              by_cases hkm : k + 1 = m
              · have hpe0 : (pe2 == 0) = false := by
                  have := HS.out.top k (by rw [← HNN.out]; exact hkm)
                  rw [← HBK.out, ← HPE.out.1] at this
                  simpa using this
                have HDR : Hid (D = root) := by
                  show _ = _
                  rw [HD.out, wantB, if_pos (by rw [← HPM.out]; exact hkm)]
                go_upto_region 18 with fail
                have HBX := HB13
                rw [← HDR.out] at HBX
                have HGX := HG3
                refine region_chain [] [0, 1, 2, 3, 4, 5, 6, 7, 8, 9, 10] (Grow w3) (Grow w3) (by kernel_rfl) (by kernel_rfl) (fun _ _ h k => h.trans k) (fun _ h => h) ((But.refl _ w3).drew) ?_
                intro ι hne X hX
                have cb : ∀ z, (X z).cell? ⟨nb, k, none⟩ = some (.int .i64 bk) := fun z => HCB2.out (X z) (HGX.out.trans (hX z))
                have cu : ∀ z, (X z).cell? ⟨pb, po + k, none⟩ = some (.slice ua un uc) := fun z => HUC.out (X z) (HGX.out.trans (hX z))
                iterate 8 (refine still_step rfl (fun K hK => ?_); go_simp; refine hK _ ?_; clear hK K)
                refine still_call rfl (.agg DN) 13 #[.int .i64 bk, .slice ua un uc] rfl (fun _ => by kernel_rfl) (fun z => HDG.out (X z) (HGX.out.trans (hX z))) ?_
                intro K hK; go_simp; refine hK _ ?_; clear hK K
                refine still_val rfl (.agg WN) rfl (fun z => by rw [HWN.out]; exact run_load_arr ukt i32 (HBX.out.but (hX z) (fun h => h)).cells0 HDW.out.1 rfl rfl) ?_
                intro K hK; go_simp; refine hK _ ?_; clear hK K
                refine still_val rfl (.bool c9) rfl (fun z => exec_bin3 rfl rfl rfl (by kernel_rfl) (HEQ.out (X z)) HC9.out) ?_
                intro K hK; go_simp; refine hK _ ?_; clear hK K
                refine still_nil ?_
                clear hX hne cb cu
                intro w8 hw8
                have HG8 := Hid.mk' (HGX.out.trans hw8)
                clear hw8
                cases hr9 : r with
                | true =>
                  have hc9 : c9 = false := by rw [← HC9.out, hr9]; rfl
                  have HEQ2 : Hid (bd bk y = D) := by
                    have := HR.out
                    rw [hr9] at this
                    show _ = _
                    exact of_decide_eq_true this.symm
                  subst hc9
                  clear hr9 HEQ HC9 HR
                  go_wp2
                  refine ⟨⟨k + 1, by omega, by go_num, HGR.out.trans HG8.out, fun i hi => ?_⟩, by simp [intOf]; omega⟩
                  by_cases hik : i = k
                  · rw [hik, ← HBK.out, ← HYE.out, HEQ2.out, HD.out]
                  · exact HGO.out i (by omega)
                | false =>
                  have hc9 : c9 = true := by rw [← HC9.out, hr9]; rfl
                  have HEQ2 : Hid (bd bk y ≠ D) := by
                    have := HR.out
                    rw [hr9] at this
                    show ¬ (_ = _)
                    exact of_decide_eq_false this.symm
                  subst hc9
                  clear hr9 HEQ HC9 HR
                  go_wp2
                  go_ret
                  refine ⟨10, rfl, .inr (.inr (.inr ⟨HFT.out, fun hgd => HEQ2.out ?_, rfl⟩)), (HG1.out.trans HGR.out).trans HG8.out⟩
                  have := hgd k (by rw [← HPM.out]; exact hlt)
                  rw [← HBL.out] at this
                  rw [HBK.out, HYE.out, this, HD.out]
                  rfl
              · have hup := HS.out.up k (by rw [← HNN.out]; omega)
                rw [← HBK.out, ← HPE.out.1, ← HPE.out.2] at hup
                obtain ⟨hpe0, -, ha0, ha8⟩ := hup
                obtain ⟨a, ha⟩ : ∃ a : Nat, pa2 = (a : Int) := ⟨pa2.toNat, by omega⟩
                subst ha
                have HDK : Hid (D = kidL (path.getD (k + 1) []) a) := by
                  show _ = _
                  rw [HD.out, wantB, if_neg (by rw [← HPM.out]; exact hkm), ← HBK.out, ← HPE.out.2]
                  rfl
                have hpe1 : (pe2 == 0) = true := by rw [hpe0]; rfl
                obtain ⟨u2, hu2, hbs2⟩ := HAT.out wr (HG1.out.trans HGR.out) (k + 1) (by omega)
                have HU2 : Hid (∀ w', Grow wr w' → w'.cell? ⟨pb, po + k + 1, none⟩ = some u2) := fun w' kk => by rw [Nat.add_assoc]; exact grow_cell kk hu2
                have HKD : Hid (∀ w', Grow wr w' → Calls Tryd.prog 19 #[u2, .int .i64 (a : Int)] w' fun e w'' => e = .returned (.agg WN) ∧ Grow w' w'') := fun w' kk => by
                  have := rkid_any (hbs2.but kk (fun _ _ _ h => h)) (i := a) (H256.out _ (by simp [List.getD, show k + 1 < path.length by rw [← HPM.out]; omega])) (by omega)
                  rw [← HDK.out, show dkey D = .agg WN by rw [HWN.out]; rfl] at this
                  exact this
                obtain ⟨u2a, u2n, u2c, rfl⟩ := hbs2.sl
                have hk1 : (0 : Int) ≤ (k : Int) + 1 ∧ (k : Int) + 1 < (m : Int) := by omega
                clear hu2 hbs2 hpe0 ha0 ha8
                go_upto_region 17 with fail
                refine region_chain [([0, 1, 2, 3, 4, 5, 6, 7], 8)] [] (Grow w3) (Grow w3) (by kernel_rfl) (by kernel_rfl) (fun _ _ h k => h.trans k) (fun _ h => h) ((But.refl _ w3).drew) ?_
                intro ι hne X hX
                have cu2 : ∀ z, (X z).cell? ⟨pb, po + k + 1, none⟩ = some (.slice u2a u2n u2c) := fun z => HU2.out (X z) (HG3.out.trans (hX z))
                have cu3 : ∀ z, (X z).cell? ⟨pb, po + (k + 1), none⟩ = some (.slice u2a u2n u2c) := fun z => by rw [← Nat.add_assoc]; exact cu2 z
                have ca : ∀ z, (X z).cell? ⟨g14, 1, none⟩ = some (.int .i64 (a : Int)) := fun z => (HB3.out.but (hX z) (fun h => h)).cell 1
                iterate 7 (refine still_step rfl (fun K hK => ?_); go_simp; refine hK _ ?_; clear hK K)
                refine still_call rfl (.agg WN) 19 #[.slice u2a u2n u2c, .int .i64 (a : Int)] rfl (fun _ => by kernel_rfl) (fun z => HKD.out (X z) (HG3.out.trans (hX z))) ?_
                intro K hK; go_simp; refine hK _ ?_; clear hK K
                refine still_nil ?_
                clear hX hne cu2 cu3 ca
                refine turn_run rfl rfl (fun _ w' => Blk w' g13 26 (u8s D) ∧ But (· = g13) w3 w') (fun _ _ => True) (fun _ w1 w2 h k => ⟨h.1.but k (fun h => h), h.2.trans (k.mono (fun _ _ h => h.elim))⟩) (fun _ _ _ => trivial) (.inl (by kernel_rfl)) ?_ ?_
                · intro w6 hw6
                  exact turn_storeA (D := D) (L := u8s root) (v := .agg WN) i32 rfl rfl rfl (by rw [HWN.out]) HDW.out.1 (by simp [u8s, HRT.out.1]) (HB13.out.but hw6 (fun h => h)) (fun w7 hb7 hk7 => ⟨hb7, (hw6.mono (fun _ _ h => h.elim)).trans hk7⟩)
                rintro z - Y hY
                go_simp
                refine hY _ ?_
                clear hY Y
                intro ι hne X hX
                refine still_nil ?_
                clear hX hne
                intro w4 hw4
                have HBX := Hid.mk' hw4.1
                have HGX : Hid (Grow wr w4) := HG3.out.then hw4.2 (fun i hi e => by have := HGV.out; omega)
                clear hw4
                go_upto_region 18 with fail
                refine region_chain [] [0, 1, 2, 3, 4, 5, 6, 7, 8, 9, 10] (Grow w4) (Grow w4) (by kernel_rfl) (by kernel_rfl) (fun _ _ h k => h.trans k) (fun _ h => h) ((But.refl _ w4).drew) ?_
                intro ι hne X hX
                have cb : ∀ z, (X z).cell? ⟨nb, k, none⟩ = some (.int .i64 bk) := fun z => HCB2.out (X z) (HGX.out.trans (hX z))
                have cu : ∀ z, (X z).cell? ⟨pb, po + k, none⟩ = some (.slice ua un uc) := fun z => HUC.out (X z) (HGX.out.trans (hX z))
                iterate 8 (refine still_step rfl (fun K hK => ?_); go_simp; refine hK _ ?_; clear hK K)
                refine still_call rfl (.agg DN) 13 #[.int .i64 bk, .slice ua un uc] rfl (fun _ => by kernel_rfl) (fun z => HDG.out (X z) (HGX.out.trans (hX z))) ?_
                intro K hK; go_simp; refine hK _ ?_; clear hK K
                refine still_val rfl (.agg WN) rfl (fun z => by rw [HWN.out]; exact run_load_arr ukt i32 (HBX.out.but (hX z) (fun h => h)).cells0 HDW.out.1 rfl rfl) ?_
                intro K hK; go_simp; refine hK _ ?_; clear hK K
                refine still_val rfl (.bool c9) rfl (fun z => exec_bin3 rfl rfl rfl (by kernel_rfl) (HEQ.out (X z)) HC9.out) ?_
                intro K hK; go_simp; refine hK _ ?_; clear hK K
                refine still_nil ?_
                clear hX hne cb cu
                intro w8 hw8
                have HG8 := Hid.mk' (HGX.out.trans hw8)
                clear hw8
                cases hr9 : r with
                | true =>
                  have hc9 : c9 = false := by rw [← HC9.out, hr9]; rfl
                  have HEQ2 : Hid (bd bk y = D) := by
                    have := HR.out
                    rw [hr9] at this
                    show _ = _
                    exact of_decide_eq_true this.symm
                  subst hc9
                  clear hr9 HEQ HC9 HR
                  go_wp2
                  refine ⟨⟨k + 1, by omega, by go_num, HGR.out.trans HG8.out, fun i hi => ?_⟩, by simp [intOf]; omega⟩
                  by_cases hik : i = k
                  · rw [hik, ← HBK.out, ← HYE.out, HEQ2.out, HD.out]
                  · exact HGO.out i (by omega)
                | false =>
                  have hc9 : c9 = true := by rw [← HC9.out, hr9]; rfl
                  have HEQ2 : Hid (bd bk y ≠ D) := by
                    have := HR.out
                    rw [hr9] at this
                    show ¬ (_ = _)
                    exact of_decide_eq_false this.symm
                  subst hc9
                  clear hr9 HEQ HC9 HR
                  go_wp2
                  go_ret
                  refine ⟨10, rfl, .inr (.inr (.inr ⟨HFT.out, fun hgd => HEQ2.out ?_, rfl⟩)), (HG1.out.trans HGR.out).trans HG8.out⟩
                  have := hgd k (by rw [← HPM.out]; exact hlt)
                  rw [← HBL.out] at this
                  rw [HBK.out, HYE.out, this, HD.out]
                  rfl
            · have hkm : k = m := by omega
              have HGD : Hid (Good p (p.path x) path root) := by
                rw [← HBL.out]
                exact fun i hi => HGO.out i (by rw [hkm, HPM.out]; exact hi)
              have HGF := Hid.mk' (HG1.out.trans hgr)
              clear hgood hgr
              go_wp2
              go_ret
              exact ⟨0, rfl, .inr (.inr (.inl ⟨HFT.out, HGD.out, rfl⟩)), HGF.out⟩
    · have hmm : ((m : Int) != (n : Int)) = true := by
        have : (m : Int) ≠ (n : Int) := by omega
        simpa using this
      have HNE : Hid (path.length ≠ (p.path x).length) := by show ¬ _; rw [← HBL.out, ← HPM.out, ← HNN.out]; exact hmn
      clear hmn
      go_wp2
      go_ret
      exact ⟨3, rfl, .inr (.inl ⟨HX.out, .inl HNE.out, rfl⟩), HG1.out⟩
end Go.Proofs.YtbidllclcedjbaaDoor
