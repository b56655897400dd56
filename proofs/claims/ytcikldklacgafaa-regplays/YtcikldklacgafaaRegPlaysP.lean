/- RegPlays: the walk. -/
import Derived.Test.YtcikldklacgafaaRgPlay
namespace Go.Proofs.Ytcikldklacgafaa
open Go.ChangeShapes Go.WideShapes Go.ChangeAt Go.RowKit

set_option maxRecDepth 100000 in
set_option maxHeartbeats 8000000 in
theorem regPlays_walk (v0 : Value) (n : Nat) (A : Nat → RA) (w : World) (h1 : RActs w v0 n A) :
    Calls Try.prog 5 #[v0] w fun e w' => e = .returned (.bool true) ∧ Below w.heap.size w w' := by
  have H1 := Hid.mk' h1
  obtain ⟨ao, cap, rfl⟩ := h1.sl
  have HNW := Hid.mk' (new_any w 1 (by decide) (by decide))
  have HS0 : Hid ((Dev.fresh 1).up = true ∧ Dsm (Dev.fresh 1) 0 ∧ (Dev.fresh 1).arm = 0) := ⟨rfl, fresh_sm 1, rfl⟩
  generalize Dev.fresh 1 = s0 at HNW HS0
  obtain ⟨Z, hZ⟩ : ∃ Z, Z = (scells Stt.zero).toArray := ⟨_, rfl⟩
  have HZ := Hid.mk' hZ
  have HZV : Hid (∀ w, (zeroValue 26).run Try.prog w = .ok (.agg Z) w) := fun w => by rw [hZ]; exact zeroVS w
  clear h1 hZ
  go_enter Try.func5, Try.ntmps5
  go_wp2_with fail
  refine Calls.mono HNW.out ?_
  rintro e w1 ⟨gd, own, rfl, hd1⟩
  have HD1 := Hid.mk' hd1
  clear hd1 HNW
  go_wp2_with fail
  refine Calls.mono (regnew_any gd w1) ?_
  rintro e w2 ⟨rfl, hb2, hg2⟩
  have HR0 : Hid (Rr (fun x => x < w.heap.size) w w2 gd w1.heap.size s0 Stt.zero) := mkRr HD1.out hb2 hg2
  obtain ⟨gr, hgr⟩ : ∃ gr, gr = w1.heap.size := ⟨_, rfl⟩
  rw [← hgr] at HR0 ⊢
  clear hb2 hg2 HD1 hgr
  have HRD := Hid.mk' (regread_any HR0.out.ok HR0.out.blk)
  rw [← HZ.out] at HRD
  have HBL : Hid (∀ w, Calls Try.prog 15 #[.agg Z] w fun e w' => e = .returned (.bool true) ∧ Grow w w') := fun w => by
    have := rblank_any Stt.zero_ok w
    rw [show Stt.zero.blank = true from blank_iff.2 rfl] at this
    rw [HZ.out]; exact this
  go_wp2_with fail
  refine Calls.mono HRD.out ?_
  rintro e w3 ⟨rfl, hg3⟩
  have HG3 := Hid.mk' hg3
  clear hg3 HRD
  go_wp2_with fail
  refine Calls.mono (HBL.out w3) ?_
  rintro e w4 ⟨rfl, hg4⟩
  have HG4 := Hid.mk' (HG3.out.trans hg4)
  clear hg4 HBL
  have HBZ : Hid ((Instr.build 26 #[]).run Try.prog w4 = .ok (.agg Z) w4) := by show _ = _; rw [HZ.out]; exact builtZ w4
  have HBV : Hid (Blk (w4.alloc (.cells Z 26)) w4.heap.size 26 (scells Stt.zero)) := by show Blk _ _ _ _; rw [HZ.out]; exact Blk.new rfl
  have HLZ : Hid ((Try.prog.info? 26).map (·.size) = some (scells Stt.zero).length) := iSt
  have hz := HZV.out
  go_upto_region 6 with (first
    | (refine wpList_build_run rfl _ [] rfl [] rfl _ HBZ.out ?_)
    | (refine wpList_store_at rfl _ _ _ rfl w4.heap.size 0 (scells Stt.zero) rfl (by show Value.agg Z = _; rw [HZ.out]) 26 [] (scells Stt.zero) [] (by simpa using HBV.out) rfl rfl HLZ.out (scells_one _) ?_; intro w5 hbv hbutv; rw [List.nil_append, List.append_nil] at hbv)
    | fail)
  have hgv : Grow w4 w5 := ((But.refl _ w4).alloc _).then hbutv (fun b hb e => by omega)
  obtain ⟨g7, hg7⟩ : ∃ g7, g7 = w4.heap.size := ⟨_, rfl⟩
  rw [← hg7] at hbv ⊢
  have HG5 : Hid (Grow w2 w5) := HG4.out.trans hgv
  have HRF := Hid.mk' (HR0.out.add HG5.out)
  have HF7 : Hid ((fun b => (fun x => x < w.heap.size) b ∨ (w2.heap.size ≤ b ∧ b < w5.heap.size)) g7) := .inr ⟨by have := HG4.out.size; omega, hbv.lt⟩
  have HFW : Hid (∀ b, b < w.heap.size → (fun b => (fun x => x < w.heap.size) b ∨ (w2.heap.size ≤ b ∧ b < w5.heap.size)) b) := fun b h => .inl h
  have HGW : Hid (Grow w w5) := by
    have h5 : But (fun b => ¬ (fun x => x < w.heap.size) b) w w5 := HR0.out.but.trans (HG5.out.mono (fun _ _ h => h.elim))
    exact h5.mono (fun b hb hn => hn hb)
  have HG7N : Hid (w.heap.size ≤ g7) := by
    have h5 := HR0.out.but.size
    have h6 := HG4.out.size
    show _ ≤ _
    omega
  generalize (fun b => (fun x => x < w.heap.size) b ∨ (w2.heap.size ≤ b ∧ b < w5.heap.size)) = F at HRF HF7 HFW
  have HP0 : Hid (PlI F w w5 gd gr g7 s0 Stt.zero 0 0) := PlI.mk' HRF.out (fun _ h => h) HFW.out HGW.out hbv HS0.out.2.1 (by rw [HS0.out.1, HS0.out.2.2]; rfl)
  have HU0 := Hid.mk' HS0.out.1
  clear hbv hbutv hgv hg7 HBV HBZ HLZ HRF HG5 HG4 HG3 HGW HR0 HS0 hz
  obtain ⟨ZA, hZA⟩ : ∃ ZA, ZA = (racells zRA).toArray := ⟨_, rfl⟩
  have HZA := Hid.mk' hZA
  have HZAV : Hid (∀ w, (zeroValue 41).run Try.prog w = .ok (.agg ZA) w) := fun w => by rw [hZA]; exact zeroRA w
  clear hZA
  go_wp2
  go_loopw [8, 9, 10] (fun av ov iv wr => ∃ (k : Nat) (s : Dev) (S : Stt) (a : Int) (o : Bool), k ≤ n ∧ k ≤ 300 ∧ iv = .int .i64 (k : Int) ∧ av = .int .i64 a ∧ ov = .bool o ∧ o = !s.up ∧ PlI F w wr gd gr g7 s S a k) (fun _ _ iv _ => n - (intOf iv).toNat)
  case atStart => exact ⟨0, s0, Stt.zero, 0, false, Nat.zero_le _, by decide, rfl, rfl, rfl, by rw [HU0.out]; rfl, HP0.out⟩
  case round =>
    clear HP0 HU0
    obtain ⟨k, s, S, a, oo, hkn, hk3, rfl, rfl, rfl, hoo, hpl⟩ := hrel
    have HP := Hid.mk' hpl
    have HOO := Hid.mk' hoo
    have HAR := Hid.mk' hpl.ar
    have ha0 : 0 ≤ a := by
      rw [hpl.ar]
      split <;> omega
    have ha1 : a ≤ 9223372036854775807 := by
      have := hpl.sm.arm
      rw [hpl.ar]
      split <;> omega
    clear hpl hoo
    by_cases hlt : k < n
    · by_cases h300 : k < 300
      · have hlt' : (k : Int) < (n : Int) := by omega
        have h300' : (k : Int) < 300 := by omega
        obtain ⟨b, off, cap', e1, hbw, hcell, hrn, hok⟩ := H1.out.at hlt
        simp only [Value.slice.injEq] at e1
        obtain ⟨rfl, -, rfl⟩ := e1
        have HOT := Hid.mk' hok
        obtain ⟨AK, hAK⟩ : ∃ AK, AK = A k := ⟨_, rfl⟩
        rw [← hAK] at hcell hrn HOT
        obtain ⟨NA, hNA⟩ : ∃ NA, NA = (racells AK).toArray := ⟨_, rfl⟩
        have HNA := Hid.mk' hNA
        have HLA : Hid ((Try.prog.info? 41).map (·.size) = some (racells AK).length) := by rw [racells_len HOT.out]; exact iRA
        have HZLA : Hid ((racells zRA).length = (racells AK).length) := by show _ = _; rw [racells_len HOT.out, racells_len Stt.zero_ok]
        have HCA : Hid (∀ j u, (racells AK)[j]? = some u → wr.cell? ((⟨b, off + k * 74, none⟩ : Addr).add j) = some u) := fun j u hj => by
          rw [addr_add]
          exact hcell wr (HP.out.grow.block b hbw (fun h => h)) j u hj
        have HBA : Hid (Blk (wr.alloc (.cells ZA 41)) wr.heap.size 41 (racells zRA)) := by show Blk _ _ _ _; rw [HZA.out]; exact Blk.new rfl
        clear hcell hbw hok hAK hNA
        have hz := HZAV.out
        go_upto_region 12 with (first
          | (refine wpList_load_cells rfl _ _ rfl ⟨b, off + k * 74, none⟩ rfl (racells AK) _ HCA.out Try.underlying41 rfl HLA.out ?_; rw [← HNA.out])
          | (refine wpList_store_at rfl _ _ _ rfl wr.heap.size 0 (racells AK) rfl (by show Value.agg NA = _; rw [HNA.out]) 41 [] (racells zRA) [] (by simpa using HBA.out) rfl HZLA.out HLA.out (racells_one _) ?_; intro w4 hbv hbutv; rw [List.nil_append, List.append_nil] at hbv)
          | fail)
        have hgv : Grow wr w4 := ((But.refl _ wr).alloc _).then hbutv (fun b hb e => by omega)
        obtain ⟨g11, hg11⟩ : ∃ g11, g11 = wr.heap.size := ⟨_, rfl⟩
        rw [← hg11] at hbv ⊢
        have HV11 := Hid.mk' hbv
        have HR4 := Hid.mk' (HP.out.rr.add hgv)
        have HV7 := Hid.mk' (HP.out.blk.but hgv (fun h => h))
        have HGW4 : Hid (Grow w w4) := HP.out.grow.trans hgv
        have HG11 : Hid ((fun b => F b ∨ (wr.heap.size ≤ b ∧ b < w4.heap.size)) g11) := .inr ⟨Nat.le_of_eq hg11.symm, hbv.lt⟩
        have HFG : Hid (∀ b, F b → (fun b => F b ∨ (wr.heap.size ≤ b ∧ b < w4.heap.size)) b) := fun b h => .inl h
        generalize (fun b => F b ∨ (wr.heap.size ≤ b ∧ b < w4.heap.size)) = G at HR4 HG11 HFG
        have HSM := Hid.mk' HP.out.sm
        have HKT : Hid (∀ w', But (fun b => ¬ G b) w4 w' → ∀ j u, (scells AK.S)[j]? = some u → w'.cell? ((⟨g11, 2, none⟩ : Addr).add j) = some u) := fun w' kk j u hj => by
          rw [addr_add, (HV11.out.but kk (fun n => n HG11.out)).cell, Nat.add_comm]
          exact hj
        have cK : w4.cell? ⟨g11, 0, none⟩ = some (.int .i64 AK.kind) := HV11.out.cell 0
        have cN : w4.cell? ⟨g11, 1, none⟩ = some (.int .i64 AK.n) := HV11.out.cell 1
        clear hbv hbutv hgv hg11 HCA HBA HLA HZLA HNA hz HP
        generalize AK.S = T at HOT HKT
        have HQN : Hid ((racells AK)[1]? = some (.int .i64 AK.n)) := rfl
        generalize AK.n = m at cN hrn HQN
        generalize AK.kind = kd at cK
        obtain ⟨q, hq⟩ : ∃ q, bits .and .i64 kd 7 = q := ⟨_, rfl⟩
        have HOS := Hid.mk' HR4.out.ok
        have HLT : Hid ((Try.prog.info? 26).map (·.size) = some (scells T).length) := by rw [scells_len HOT.out]; exact iSt
        have HLS : Hid ((Try.prog.info? 26).map (·.size) = some (scells S).length) := by rw [scells_len HOS.out]; exact iSt
        have HLST : Hid ((scells S).length = (scells T).length) := by show _ = _; rw [scells_len HOS.out, scells_len HOT.out]
        obtain ⟨NT, hNT⟩ : ∃ NT, NT = (scells T).toArray := ⟨_, rfl⟩
        obtain ⟨NS, hNS⟩ : ∃ NS, NS = (scells S).toArray := ⟨_, rfl⟩
        have HNT := Hid.mk' hNT
        have HNS := Hid.mk' hNS
        have HFO : Hid (∀ w, Calls Try.prog 11 #[.agg NS, .agg NT] w fun e w' => e = .returned (.bool (S.follows T)) ∧ Grow w w') := fun w => by rw [hNS, hNT]; exact rfollows_any HOS.out HOT.out w
        clear hNT hNS
        have HNE : Hid (¬ g11 = g7) := fun e => by
          have h5 := HV11.out
          have h6 := HV7.out
          rw [e] at h5
          unfold Blk at h5 h6
          rw [h5] at h6
          simp only [Option.some.injEq, Obj.cells.injEq] at h6
          exact absurd h6.2.1 (by decide)
        by_cases hqw : q = 0 ∨ q = 5 ∨ q = 6 ∨ q = 7
        · rcases hqw with rfl | rfl | rfl | rfl
          all_goals
            cases oo
            case true =>
              have HU : Hid (s.up = false) := by have h := HOO.out; cases hs : s.up; rfl; rw [hs] at h; cases h
              have HWR := Hid.mk' (regwrite_any HR4.out HOT.out (by have := HSM.out.cnt; omega) HSM.out.arm)
              have HWS := Hid.mk' (wr_sm HSM.out S T)
              rw [show wrcode s S T = 7 by unfold wrcode; rw [HU.out]; rfl, show wrheld s S T = S by unfold wrheld; rw [HU.out]; rfl, ← HNT.out] at HWR
              rw [show wrdev s S T = s by unfold wrdev; rw [HU.out]; rfl] at HWR HWS
              go_wp2_with (first
                | (refine wpList_load_cells rfl _ _ rfl ⟨g11, 2, none⟩ rfl (scells T) _ (HKT.out _ (But.refl _ _)) Try.underlying26 rfl HLT.out ?_; rw [← HNT.out])
                | fail)
              refine Calls.mono HWR.out ?_
              rintro e w6 ⟨rfl, hrw⟩
              have HPF : Hid (PlI F w w6 gd gr g7 s S a (k + 1)) := PlI.mk' hrw HFG.out HFW.out HGW4.out (HV7.out.but hrw.but (fun n => n (HFG.out _ HF7.out))) HWS.out (HAR.out)
              have HUF : Hid (s.up = false) := HU.out
              clear hrw HWR HWS cK cN
              have HRDF : Hid (∀ w', Grow w6 w' → Calls Try.prog 16 #[.pointer (some ⟨gr, 0, none⟩)] w' fun e w'' => e = .returned (.agg NS) ∧ Grow w' w'') := fun w' kk => by
                rw [HNS.out]
                exact regread_any HPF.out.rr.ok (HPF.out.rr.then kk).blk
              have HUPF : Hid (∀ w', Grow w6 w' → Calls Try.prog 22 #[.pointer (some ⟨gd, 0, none⟩)] w' fun e w'' => e = .returned (.bool false) ∧ Grow w' w'') := fun w' kk => by
                refine (HPF.out.rr.then kk).up.mono ?_
                rintro e w'' ⟨rfl, rfl⟩
                exact ⟨by rw [HUF.out], But.refl _ _⟩
              have HEQF : Hid (∀ w, (Op.equalIn 10000 26 (.agg NS) (.agg NS)).run Try.prog w = .ok true w) := fun w => by
                have := equalS HPF.out.rr.ok HPF.out.rr.ok w
                rw [same_refl] at this
                rw [HNS.out]; exact this
              go_upto_region 48 with fail
              refine region_chain [] [0, 1, 2, 3, 4, 5, 6, 7, 8, 9] (Grow w6) (Grow w6) (by kernel_rfl) (by kernel_rfl) (fun _ _ h k => h.trans k) (fun _ h => h) ((But.refl _ w6).drew) ?_
              intro ι hne X hX
              iterate 1 (refine still_step rfl (fun K hK => ?_); go_simp; refine hK _ ?_; clear hK K)
              refine still_call rfl (.agg NS) 16 #[.pointer (some ⟨gr, 0, none⟩)] rfl (fun x => by kernel_rfl) (fun x => HRDF.out _ (hX x)) ?_
              intro K hK; go_simp; refine hK _ ?_; clear hK K
              refine still_val rfl (.agg NS) rfl (fun x => by rw [HNS.out]; exact exec_ld Try.underlying26 rfl HLS.out (HPF.out.blk.but (hX x) (fun h => h)).cells0 rfl rfl) ?_
              intro K hK; go_simp; refine hK _ ?_; clear hK K
              refine still_val rfl (.bool (!true)) rfl (fun x => exec_neA rfl rfl rfl (by kernel_rfl) (HEQF.out _)) ?_
              intro K hK; go_simp; refine hK _ ?_; clear hK K
              iterate 2 (refine still_step rfl (fun K hK => ?_); go_simp; refine hK _ ?_; clear hK K)
              refine still_call rfl (.bool false) 22 #[.pointer (some ⟨gd, 0, none⟩)] rfl (fun x => by kernel_rfl) (fun x => HUPF.out _ (hX x)) ?_
              intro K hK; go_simp; refine hK _ ?_; clear hK K
              iterate 3 (refine still_step rfl (fun K hK => ?_); go_simp; refine hK _ ?_; clear hK K)
              refine still_nil ?_
              clear hX hne
              intro wz hwz
              have HPZ := Hid.mk' (HPF.out.then hwz)
              clear hwz
              go_wp2
              exact ⟨⟨k + 1, s, S, a, true, by omega, by omega, by go_num, rfl, rfl, by first | rfl | (rw [HUF.out]; rfl), HPZ.out⟩, by simp [intOf]; omega⟩
            case false =>
              have HU : Hid (s.up = true) := by have h := HOO.out; cases hs : s.up; rw [hs] at h; cases h; rfl
              have HAA : Hid (a = (s.arm : Int)) := by have h := HAR.out; rw [HU.out] at h; exact h
              go_wp2_with (first
                | (refine wpList_load_cells rfl _ _ rfl ⟨g7, 0, none⟩ rfl (scells S) _ HV7.out.cells0 Try.underlying26 rfl HLS.out ?_; rw [← HNS.out])
                | (refine wpList_load_cells rfl _ _ rfl ⟨g11, 2, none⟩ rfl (scells T) _ (HKT.out _ (But.refl _ _)) Try.underlying26 rfl HLT.out ?_; rw [← HNT.out])
                | fail)
              refine Calls.mono (HFO.out w4) ?_
              rintro e w5 ⟨rfl, hg5⟩
              have HB5 : Hid (But (fun b => ¬ G b) w4 w5) := hg5.mono (fun _ _ h => h.elim)
              have HR5 := Hid.mk' (HR4.out.then hg5)
              have HV75 := Hid.mk' (HV7.out.but hg5 (fun h => h))
              clear hg5
              cases hf : S.follows T
              case false =>
                have HWR := Hid.mk' (regwrite_any HR5.out HOT.out (by have := HSM.out.cnt; omega) HSM.out.arm)
                have HWS := Hid.mk' (wr_sm HSM.out S T)
                rw [show wrcode s S T = 3 by unfold wrcode; rw [HU.out, hf]; rfl, show wrheld s S T = S by unfold wrheld; rw [HU.out, hf]; rfl, ← HNT.out] at HWR
                rw [show wrdev s S T = s by unfold wrdev; rw [HU.out, hf]; rfl] at HWR HWS
                go_wp2_with (first
                  | (refine wpList_load_cells rfl _ _ rfl ⟨g11, 2, none⟩ rfl (scells T) _ (HKT.out _ HB5.out) Try.underlying26 rfl HLT.out ?_; rw [← HNT.out])
                  | fail)
                refine Calls.mono HWR.out ?_
                rintro e w6 ⟨rfl, hrw⟩
                have HPF : Hid (PlI F w w6 gd gr g7 s S a (k + 1)) := PlI.mk' hrw HFG.out HFW.out HGW4.out (HV7.out.but hrw.but (fun n => n (HFG.out _ HF7.out))) HWS.out (HAR.out)
                have HUF : Hid (s.up = true) := HU.out
                clear hrw HWR HWS cK cN
                have HRDF : Hid (∀ w', Grow w6 w' → Calls Try.prog 16 #[.pointer (some ⟨gr, 0, none⟩)] w' fun e w'' => e = .returned (.agg NS) ∧ Grow w' w'') := fun w' kk => by
                  rw [HNS.out]
                  exact regread_any HPF.out.rr.ok (HPF.out.rr.then kk).blk
                have HUPF : Hid (∀ w', Grow w6 w' → Calls Try.prog 22 #[.pointer (some ⟨gd, 0, none⟩)] w' fun e w'' => e = .returned (.bool true) ∧ Grow w' w'') := fun w' kk => by
                  refine (HPF.out.rr.then kk).up.mono ?_
                  rintro e w'' ⟨rfl, rfl⟩
                  exact ⟨by rw [HUF.out], But.refl _ _⟩
                have HEQF : Hid (∀ w, (Op.equalIn 10000 26 (.agg NS) (.agg NS)).run Try.prog w = .ok true w) := fun w => by
                  have := equalS HPF.out.rr.ok HPF.out.rr.ok w
                  rw [same_refl] at this
                  rw [HNS.out]; exact this
                go_upto_region 48 with fail
                refine region_chain [] [0, 1, 2, 3, 4, 5, 6, 7, 8, 9] (Grow w6) (Grow w6) (by kernel_rfl) (by kernel_rfl) (fun _ _ h k => h.trans k) (fun _ h => h) ((But.refl _ w6).drew) ?_
                intro ι hne X hX
                iterate 1 (refine still_step rfl (fun K hK => ?_); go_simp; refine hK _ ?_; clear hK K)
                refine still_call rfl (.agg NS) 16 #[.pointer (some ⟨gr, 0, none⟩)] rfl (fun x => by kernel_rfl) (fun x => HRDF.out _ (hX x)) ?_
                intro K hK; go_simp; refine hK _ ?_; clear hK K
                refine still_val rfl (.agg NS) rfl (fun x => by rw [HNS.out]; exact exec_ld Try.underlying26 rfl HLS.out (HPF.out.blk.but (hX x) (fun h => h)).cells0 rfl rfl) ?_
                intro K hK; go_simp; refine hK _ ?_; clear hK K
                refine still_val rfl (.bool (!true)) rfl (fun x => exec_neA rfl rfl rfl (by kernel_rfl) (HEQF.out _)) ?_
                intro K hK; go_simp; refine hK _ ?_; clear hK K
                iterate 2 (refine still_step rfl (fun K hK => ?_); go_simp; refine hK _ ?_; clear hK K)
                refine still_call rfl (.bool true) 22 #[.pointer (some ⟨gd, 0, none⟩)] rfl (fun x => by kernel_rfl) (fun x => HUPF.out _ (hX x)) ?_
                intro K hK; go_simp; refine hK _ ?_; clear hK K
                iterate 3 (refine still_step rfl (fun K hK => ?_); go_simp; refine hK _ ?_; clear hK K)
                refine still_nil ?_
                clear hX hne
                intro wz hwz
                have HPZ := Hid.mk' (HPF.out.then hwz)
                clear hwz
                go_wp2
                exact ⟨⟨k + 1, s, S, a, false, by omega, by omega, by go_num, rfl, rfl, by first | rfl | (rw [HUF.out]; rfl), HPZ.out⟩, by simp [intOf]; omega⟩
              case true =>
                by_cases ha : a = 1
                · have HA1 : Hid (s.arm = 1) := by have := HAA.out; show _ = _; omega
                  subst ha
                  have HWR := Hid.mk' (regwrite_any HR5.out HOT.out (by have := HSM.out.cnt; omega) HSM.out.arm)
                  have HWS := Hid.mk' (wr_sm HSM.out S T)
                  rw [show wrcode s S T = 7 by unfold wrcode; rw [HU.out, hf, HA1.out]; rfl, show wrheld s S T = S by unfold wrheld; rw [HU.out, hf, HA1.out]; rfl, ← HNT.out] at HWR
                  rw [show wrdev s S T = s.acc by unfold wrdev; rw [HU.out, hf]; rfl] at HWR HWS
                  go_wp2_with (first
                    | (refine wpList_load_cells rfl _ _ rfl ⟨g11, 2, none⟩ rfl (scells T) _ (HKT.out _ HB5.out) Try.underlying26 rfl HLT.out ?_; rw [← HNT.out])
                    | fail)
                  refine Calls.mono HWR.out ?_
                  rintro e w6 ⟨rfl, hrw⟩
                  have HPF : Hid (PlI F w w6 gd gr g7 s.acc S 0 (k + 1)) := PlI.mk' hrw HFG.out HFW.out HGW4.out (HV7.out.but hrw.but (fun n => n (HFG.out _ HF7.out))) HWS.out (by rw [show s.acc.up = false by show (!(s.arm == 1)) = false; rw [HA1.out]; rfl]; rfl)
                  have HUF : Hid (s.acc.up = false) := by show (!(s.arm == 1)) = false; rw [HA1.out]; rfl
                  clear hrw HWR HWS cK cN
                  have HRDF : Hid (∀ w', Grow w6 w' → Calls Try.prog 16 #[.pointer (some ⟨gr, 0, none⟩)] w' fun e w'' => e = .returned (.agg NS) ∧ Grow w' w'') := fun w' kk => by
                    rw [HNS.out]
                    exact regread_any HPF.out.rr.ok (HPF.out.rr.then kk).blk
                  have HUPF : Hid (∀ w', Grow w6 w' → Calls Try.prog 22 #[.pointer (some ⟨gd, 0, none⟩)] w' fun e w'' => e = .returned (.bool false) ∧ Grow w' w'') := fun w' kk => by
                    refine (HPF.out.rr.then kk).up.mono ?_
                    rintro e w'' ⟨rfl, rfl⟩
                    exact ⟨by rw [HUF.out], But.refl _ _⟩
                  have HEQF : Hid (∀ w, (Op.equalIn 10000 26 (.agg NS) (.agg NS)).run Try.prog w = .ok true w) := fun w => by
                    have := equalS HPF.out.rr.ok HPF.out.rr.ok w
                    rw [same_refl] at this
                    rw [HNS.out]; exact this
                  go_upto_region 48 with fail
                  refine region_chain [] [0, 1, 2, 3, 4, 5, 6, 7, 8, 9] (Grow w6) (Grow w6) (by kernel_rfl) (by kernel_rfl) (fun _ _ h k => h.trans k) (fun _ h => h) ((But.refl _ w6).drew) ?_
                  intro ι hne X hX
                  iterate 1 (refine still_step rfl (fun K hK => ?_); go_simp; refine hK _ ?_; clear hK K)
                  refine still_call rfl (.agg NS) 16 #[.pointer (some ⟨gr, 0, none⟩)] rfl (fun x => by kernel_rfl) (fun x => HRDF.out _ (hX x)) ?_
                  intro K hK; go_simp; refine hK _ ?_; clear hK K
                  refine still_val rfl (.agg NS) rfl (fun x => by rw [HNS.out]; exact exec_ld Try.underlying26 rfl HLS.out (HPF.out.blk.but (hX x) (fun h => h)).cells0 rfl rfl) ?_
                  intro K hK; go_simp; refine hK _ ?_; clear hK K
                  refine still_val rfl (.bool (!true)) rfl (fun x => exec_neA rfl rfl rfl (by kernel_rfl) (HEQF.out _)) ?_
                  intro K hK; go_simp; refine hK _ ?_; clear hK K
                  iterate 2 (refine still_step rfl (fun K hK => ?_); go_simp; refine hK _ ?_; clear hK K)
                  refine still_call rfl (.bool false) 22 #[.pointer (some ⟨gd, 0, none⟩)] rfl (fun x => by kernel_rfl) (fun x => HUPF.out _ (hX x)) ?_
                  intro K hK; go_simp; refine hK _ ?_; clear hK K
                  iterate 3 (refine still_step rfl (fun K hK => ?_); go_simp; refine hK _ ?_; clear hK K)
                  refine still_nil ?_
                  clear hX hne
                  intro wz hwz
                  have HPZ := Hid.mk' (HPF.out.then hwz)
                  clear hwz
                  go_wp2
                  exact ⟨⟨k + 1, s.acc, S, 0, true, by omega, by omega, by go_num, rfl, rfl, by first | rfl | (rw [HUF.out]; rfl), HPZ.out⟩, by simp [intOf]; omega⟩
                · have HA1 : Hid (s.arm ≠ 1) := fun h => ha (by rw [HAA.out, h]; rfl)
                  have ha' : (a == 1) = false := by simpa using ha
                  go_upto_region 28 with (first
                    | (refine wpList_load_cells rfl _ _ rfl ⟨g11, 2, none⟩ rfl (scells T) _ (HKT.out _ HB5.out) Try.underlying26 rfl HLT.out ?_; rw [← HNT.out])
                    | (refine wpList_store_at rfl _ _ _ rfl g7 0 (scells T) rfl (by show Value.agg NT = _; rw [HNT.out]) 26 [] (scells S) [] (by simpa using HV75.out) rfl HLST.out HLT.out (scells_one _) ?_; intro w6 hb6 hbut6; rw [List.nil_append, List.append_nil] at hb6)
                    | fail)
                  have HR6 := Hid.mk' (HR5.out.turn (hbut6.mono (fun b _ e => by rw [e]; exact HFG.out _ HF7.out)))
                  have HV76 := Hid.mk' hb6
                  have HGW6 : Hid (Grow w w6) := (HGW4.out.then (HB5.out) (fun b hb hn => hn (HFG.out b (HFW.out b hb)))).then hbut6 (fun b hb e => by have := HG7N.out; omega)
                  have HKT6 : Hid (∀ j u, (scells T)[j]? = some u → w6.cell? ((⟨g11, 2, none⟩ : Addr).add j) = some u) := by
                    intro j u hj
                    have h5 := HKT.out w5 HB5.out j u hj
                    rw [addr_add] at h5 ⊢
                    have hne : ¬ g11 = g7 := HNE.out
                    have hlt : g11 < w5.heap.size := (HV11.out.but HB5.out (fun n => n HG11.out)).lt
                    exact (World.cell?_of_block (hbut6.block g11 hlt hne)).trans h5
                  clear hb6 hbut6
                  have HWR := Hid.mk' (regwrite_any HR6.out HOT.out (by have := HSM.out.cnt; omega) HSM.out.arm)
                  have HWS := Hid.mk' (wr_sm HSM.out S T)
                  rw [show wrcode s S T = 0 by unfold wrcode; rw [HU.out, hf]; simp [HA1.out], show wrheld s S T = T by unfold wrheld; rw [HU.out, hf]; simp [HA1.out], ← HNT.out] at HWR
                  rw [show wrdev s S T = s.acc by unfold wrdev; rw [HU.out, hf]; rfl] at HWR HWS
                  go_wp2_with (first
                    | (refine wpList_load_cells rfl _ _ rfl ⟨g11, 2, none⟩ rfl (scells T) _ HKT6.out Try.underlying26 rfl HLT.out ?_; rw [← HNT.out])
                    | fail)
                  refine Calls.mono HWR.out ?_
                  rintro e w7 ⟨rfl, hrw⟩
                  have HPF : Hid (PlI F w w7 gd gr g7 s.acc T (max (a - 1) 0) (k + 1)) := PlI.mk' hrw HFG.out HFW.out HGW6.out (HV76.out.but hrw.but (fun n => n (HFG.out _ HF7.out))) HWS.out (by have h6 := HAA.out; rw [show s.acc.up = true by show (!(s.arm == 1)) = true; simpa using HA1.out, if_pos rfl]; show _ = ((s.arm - 1 : Nat) : Int); rw [Int.max_def]; split <;> omega)
                  have HUF : Hid (s.acc.up = true) := by show (!(s.arm == 1)) = true; simpa using HA1.out
                  clear hrw HWR HWS cK cN
                  have HRDF : Hid (∀ w', Grow w7 w' → Calls Try.prog 16 #[.pointer (some ⟨gr, 0, none⟩)] w' fun e w'' => e = .returned (.agg NT) ∧ Grow w' w'') := fun w' kk => by
                    rw [HNT.out]
                    exact regread_any HPF.out.rr.ok (HPF.out.rr.then kk).blk
                  have HUPF : Hid (∀ w', Grow w7 w' → Calls Try.prog 22 #[.pointer (some ⟨gd, 0, none⟩)] w' fun e w'' => e = .returned (.bool true) ∧ Grow w' w'') := fun w' kk => by
                    refine (HPF.out.rr.then kk).up.mono ?_
                    rintro e w'' ⟨rfl, rfl⟩
                    exact ⟨by rw [HUF.out], But.refl _ _⟩
                  have HEQF : Hid (∀ w, (Op.equalIn 10000 26 (.agg NT) (.agg NT)).run Try.prog w = .ok true w) := fun w => by
                    have := equalS HPF.out.rr.ok HPF.out.rr.ok w
                    rw [same_refl] at this
                    rw [HNT.out]; exact this
                  go_upto_region 48 with fail
                  refine region_chain [] [0, 1, 2, 3, 4, 5, 6, 7, 8, 9] (Grow w7) (Grow w7) (by kernel_rfl) (by kernel_rfl) (fun _ _ h k => h.trans k) (fun _ h => h) ((But.refl _ w7).drew) ?_
                  intro ι hne X hX
                  iterate 1 (refine still_step rfl (fun K hK => ?_); go_simp; refine hK _ ?_; clear hK K)
                  refine still_call rfl (.agg NT) 16 #[.pointer (some ⟨gr, 0, none⟩)] rfl (fun x => by kernel_rfl) (fun x => HRDF.out _ (hX x)) ?_
                  intro K hK; go_simp; refine hK _ ?_; clear hK K
                  refine still_val rfl (.agg NT) rfl (fun x => by rw [HNT.out]; exact exec_ld Try.underlying26 rfl HLT.out (HPF.out.blk.but (hX x) (fun h => h)).cells0 rfl rfl) ?_
                  intro K hK; go_simp; refine hK _ ?_; clear hK K
                  refine still_val rfl (.bool (!true)) rfl (fun x => exec_neA rfl rfl rfl (by kernel_rfl) (HEQF.out _)) ?_
                  intro K hK; go_simp; refine hK _ ?_; clear hK K
                  iterate 2 (refine still_step rfl (fun K hK => ?_); go_simp; refine hK _ ?_; clear hK K)
                  refine still_call rfl (.bool true) 22 #[.pointer (some ⟨gd, 0, none⟩)] rfl (fun x => by kernel_rfl) (fun x => HUPF.out _ (hX x)) ?_
                  intro K hK; go_simp; refine hK _ ?_; clear hK K
                  iterate 3 (refine still_step rfl (fun K hK => ?_); go_simp; refine hK _ ?_; clear hK K)
                  refine still_nil ?_
                  clear hX hne
                  intro wz hwz
                  have HPZ := Hid.mk' (HPF.out.then hwz)
                  clear hwz
                  go_wp2
                  exact ⟨⟨k + 1, s.acc, T, (max (a - 1) 0), false, by omega, by omega, by go_num, rfl, rfl, by first | rfl | (rw [HUF.out]; rfl), HPZ.out⟩, by simp [intOf]; omega⟩
        by_cases hq1 : q = 1
        · subst hq1
          cases oo
          case true =>
            have HU : Hid (s.up = false) := by have h := HOO.out; cases hs : s.up; rfl; rw [hs] at h; cases h
            have HAA : Hid (a = 0) := by have h := HAR.out; rw [HU.out] at h; exact h
            go_wp2_with fail
            refine Calls.mono (HR4.out.arm m) ?_
            rintro e w5 ⟨rfl, hrw⟩
            have HPF : Hid (PlI F w w5 gd gr g7 { s with arm := m.toNat } S a (k + 1)) := PlI.mk' hrw HFG.out HFW.out HGW4.out (HV7.out.but hrw.but (fun n => n (HFG.out _ HF7.out))) ⟨HSM.out.wr, Nat.le_succ_of_le HSM.out.cnt, by show m.toNat ≤ _; omega⟩ (by rw [HAA.out]; show (0 : Int) = if s.up then _ else 0; rw [HU.out]; rfl)
            have HUF : Hid (({ s with arm := m.toNat }).up = false) := HU.out
            clear hrw cK
            clear cN
            have HRDF : Hid (∀ w', Grow w5 w' → Calls Try.prog 16 #[.pointer (some ⟨gr, 0, none⟩)] w' fun e w'' => e = .returned (.agg NS) ∧ Grow w' w'') := fun w' kk => by
              rw [HNS.out]
              exact regread_any HPF.out.rr.ok (HPF.out.rr.then kk).blk
            have HUPF : Hid (∀ w', Grow w5 w' → Calls Try.prog 22 #[.pointer (some ⟨gd, 0, none⟩)] w' fun e w'' => e = .returned (.bool false) ∧ Grow w' w'') := fun w' kk => by
              refine (HPF.out.rr.then kk).up.mono ?_
              rintro e w'' ⟨rfl, rfl⟩
              exact ⟨by rw [HUF.out], But.refl _ _⟩
            have HEQF : Hid (∀ w, (Op.equalIn 10000 26 (.agg NS) (.agg NS)).run Try.prog w = .ok true w) := fun w => by
              have := equalS HPF.out.rr.ok HPF.out.rr.ok w
              rw [same_refl] at this
              rw [HNS.out]; exact this
            go_upto_region 48 with fail
            refine region_chain [] [0, 1, 2, 3, 4, 5, 6, 7, 8, 9] (Grow w5) (Grow w5) (by kernel_rfl) (by kernel_rfl) (fun _ _ h k => h.trans k) (fun _ h => h) ((But.refl _ w5).drew) ?_
            intro ι hne X hX
            iterate 1 (refine still_step rfl (fun K hK => ?_); go_simp; refine hK _ ?_; clear hK K)
            refine still_call rfl (.agg NS) 16 #[.pointer (some ⟨gr, 0, none⟩)] rfl (fun x => by kernel_rfl) (fun x => HRDF.out _ (hX x)) ?_
            intro K hK; go_simp; refine hK _ ?_; clear hK K
            refine still_val rfl (.agg NS) rfl (fun x => by rw [HNS.out]; exact exec_ld Try.underlying26 rfl HLS.out (HPF.out.blk.but (hX x) (fun h => h)).cells0 rfl rfl) ?_
            intro K hK; go_simp; refine hK _ ?_; clear hK K
            refine still_val rfl (.bool (!true)) rfl (fun x => exec_neA rfl rfl rfl (by kernel_rfl) (HEQF.out _)) ?_
            intro K hK; go_simp; refine hK _ ?_; clear hK K
            iterate 2 (refine still_step rfl (fun K hK => ?_); go_simp; refine hK _ ?_; clear hK K)
            refine still_call rfl (.bool false) 22 #[.pointer (some ⟨gd, 0, none⟩)] rfl (fun x => by kernel_rfl) (fun x => HUPF.out _ (hX x)) ?_
            intro K hK; go_simp; refine hK _ ?_; clear hK K
            iterate 3 (refine still_step rfl (fun K hK => ?_); go_simp; refine hK _ ?_; clear hK K)
            refine still_nil ?_
            clear hX hne
            intro wz hwz
            have HPZ := Hid.mk' (HPF.out.then hwz)
            clear hwz
            go_wp2
            exact ⟨⟨k + 1, { s with arm := m.toNat }, S, a, true, by omega, by omega, by go_num, rfl, rfl, by first | rfl | (rw [HUF.out]; rfl), HPZ.out⟩, by simp [intOf]; omega⟩
          case false =>
            have HU : Hid (s.up = true) := by have h := HOO.out; cases hs : s.up; rw [hs] at h; cases h; rfl
            have HAA : Hid (a = (s.arm : Int)) := by have h := HAR.out; rw [HU.out] at h; exact h
            go_wp2_with fail
            refine Calls.mono (HR4.out.arm m) ?_
            rintro e w5 ⟨rfl, hrw⟩
            have cN5 : w5.cell? ⟨g11, 1, none⟩ = some (.int .i64 m) := ((HV11.out.but hrw.but (fun n => n HG11.out)).cell 1).trans HQN.out
            have HPF : Hid (PlI F w w5 gd gr g7 { s with arm := m.toNat } S (max m 0) (k + 1)) := PlI.mk' hrw HFG.out HFW.out HGW4.out (HV7.out.but hrw.but (fun n => n (HFG.out _ HF7.out))) ⟨HSM.out.wr, Nat.le_succ_of_le HSM.out.cnt, by show m.toNat ≤ _; omega⟩ (by show (max m 0) = if s.up then (m.toNat : Int) else 0; rw [HU.out]; rw [if_pos rfl, Int.max_def]; split <;> omega)
            have HUF : Hid (({ s with arm := m.toNat } : Dev).up = true) := HU.out
            clear hrw cK cN
            have HRDF : Hid (∀ w', Grow w5 w' → Calls Try.prog 16 #[.pointer (some ⟨gr, 0, none⟩)] w' fun e w'' => e = .returned (.agg NS) ∧ Grow w' w'') := fun w' kk => by
              rw [HNS.out]
              exact regread_any HPF.out.rr.ok (HPF.out.rr.then kk).blk
            have HUPF : Hid (∀ w', Grow w5 w' → Calls Try.prog 22 #[.pointer (some ⟨gd, 0, none⟩)] w' fun e w'' => e = .returned (.bool true) ∧ Grow w' w'') := fun w' kk => by
              refine (HPF.out.rr.then kk).up.mono ?_
              rintro e w'' ⟨rfl, rfl⟩
              exact ⟨by rw [HUF.out], But.refl _ _⟩
            have HEQF : Hid (∀ w, (Op.equalIn 10000 26 (.agg NS) (.agg NS)).run Try.prog w = .ok true w) := fun w => by
              have := equalS HPF.out.rr.ok HPF.out.rr.ok w
              rw [same_refl] at this
              rw [HNS.out]; exact this
            go_upto_region 48 with fail
            refine region_chain [] [0, 1, 2, 3, 4, 5, 6, 7, 8, 9] (Grow w5) (Grow w5) (by kernel_rfl) (by kernel_rfl) (fun _ _ h k => h.trans k) (fun _ h => h) ((But.refl _ w5).drew) ?_
            intro ι hne X hX
            iterate 1 (refine still_step rfl (fun K hK => ?_); go_simp; refine hK _ ?_; clear hK K)
            refine still_call rfl (.agg NS) 16 #[.pointer (some ⟨gr, 0, none⟩)] rfl (fun x => by kernel_rfl) (fun x => HRDF.out _ (hX x)) ?_
            intro K hK; go_simp; refine hK _ ?_; clear hK K
            refine still_val rfl (.agg NS) rfl (fun x => by rw [HNS.out]; exact exec_ld Try.underlying26 rfl HLS.out (HPF.out.blk.but (hX x) (fun h => h)).cells0 rfl rfl) ?_
            intro K hK; go_simp; refine hK _ ?_; clear hK K
            refine still_val rfl (.bool (!true)) rfl (fun x => exec_neA rfl rfl rfl (by kernel_rfl) (HEQF.out _)) ?_
            intro K hK; go_simp; refine hK _ ?_; clear hK K
            iterate 2 (refine still_step rfl (fun K hK => ?_); go_simp; refine hK _ ?_; clear hK K)
            refine still_call rfl (.bool true) 22 #[.pointer (some ⟨gd, 0, none⟩)] rfl (fun x => by kernel_rfl) (fun x => HUPF.out _ (hX x)) ?_
            intro K hK; go_simp; refine hK _ ?_; clear hK K
            iterate 3 (refine still_step rfl (fun K hK => ?_); go_simp; refine hK _ ?_; clear hK K)
            refine still_nil ?_
            clear hX hne
            intro wz hwz
            have HPZ := Hid.mk' (HPF.out.then hwz)
            clear hwz
            go_wp2
            exact ⟨⟨k + 1, { s with arm := m.toNat }, S, (max m 0), false, by omega, by omega, by go_num, rfl, rfl, by first | rfl | (rw [HUF.out]; rfl), HPZ.out⟩, by simp [intOf]; omega⟩
        by_cases hq2 : q = 2
        · subst hq2
          clear cN
          go_wp2_with fail
          refine Calls.mono (HR4.out.crash) ?_
          rintro e w5 ⟨rfl, hrw⟩
          have HPF : Hid (PlI F w w5 gd gr g7 { s with arm := 0, up := false } S 0 (k + 1)) := PlI.mk' hrw HFG.out HFW.out HGW4.out (HV7.out.but hrw.but (fun n => n (HFG.out _ HF7.out))) ⟨HSM.out.wr, Nat.le_succ_of_le HSM.out.cnt, by show (0 : Nat) ≤ _; decide⟩ (rfl)
          have HUF : Hid (({ s with arm := 0, up := false }).up = false) := rfl
          clear hrw cK
          have HRDF : Hid (∀ w', Grow w5 w' → Calls Try.prog 16 #[.pointer (some ⟨gr, 0, none⟩)] w' fun e w'' => e = .returned (.agg NS) ∧ Grow w' w'') := fun w' kk => by
            rw [HNS.out]
            exact regread_any HPF.out.rr.ok (HPF.out.rr.then kk).blk
          have HUPF : Hid (∀ w', Grow w5 w' → Calls Try.prog 22 #[.pointer (some ⟨gd, 0, none⟩)] w' fun e w'' => e = .returned (.bool false) ∧ Grow w' w'') := fun w' kk => by
            refine (HPF.out.rr.then kk).up.mono ?_
            rintro e w'' ⟨rfl, rfl⟩
            exact ⟨by rw [HUF.out], But.refl _ _⟩
          have HEQF : Hid (∀ w, (Op.equalIn 10000 26 (.agg NS) (.agg NS)).run Try.prog w = .ok true w) := fun w => by
            have := equalS HPF.out.rr.ok HPF.out.rr.ok w
            rw [same_refl] at this
            rw [HNS.out]; exact this
          go_upto_region 48 with fail
          refine region_chain [] [0, 1, 2, 3, 4, 5, 6, 7, 8, 9] (Grow w5) (Grow w5) (by kernel_rfl) (by kernel_rfl) (fun _ _ h k => h.trans k) (fun _ h => h) ((But.refl _ w5).drew) ?_
          intro ι hne X hX
          iterate 1 (refine still_step rfl (fun K hK => ?_); go_simp; refine hK _ ?_; clear hK K)
          refine still_call rfl (.agg NS) 16 #[.pointer (some ⟨gr, 0, none⟩)] rfl (fun x => by kernel_rfl) (fun x => HRDF.out _ (hX x)) ?_
          intro K hK; go_simp; refine hK _ ?_; clear hK K
          refine still_val rfl (.agg NS) rfl (fun x => by rw [HNS.out]; exact exec_ld Try.underlying26 rfl HLS.out (HPF.out.blk.but (hX x) (fun h => h)).cells0 rfl rfl) ?_
          intro K hK; go_simp; refine hK _ ?_; clear hK K
          refine still_val rfl (.bool (!true)) rfl (fun x => exec_neA rfl rfl rfl (by kernel_rfl) (HEQF.out _)) ?_
          intro K hK; go_simp; refine hK _ ?_; clear hK K
          iterate 2 (refine still_step rfl (fun K hK => ?_); go_simp; refine hK _ ?_; clear hK K)
          refine still_call rfl (.bool false) 22 #[.pointer (some ⟨gd, 0, none⟩)] rfl (fun x => by kernel_rfl) (fun x => HUPF.out _ (hX x)) ?_
          intro K hK; go_simp; refine hK _ ?_; clear hK K
          iterate 3 (refine still_step rfl (fun K hK => ?_); go_simp; refine hK _ ?_; clear hK K)
          refine still_nil ?_
          clear hX hne
          intro wz hwz
          have HPZ := Hid.mk' (HPF.out.then hwz)
          clear hwz
          go_wp2
          exact ⟨⟨k + 1, { s with arm := 0, up := false }, S, 0, true, by omega, by omega, by go_num, rfl, rfl, by first | rfl | (rw [HUF.out]; rfl), HPZ.out⟩, by simp [intOf]; omega⟩
        by_cases hq3 : q = 3
        · subst hq3
          cases oo
          case true =>
            have HU : Hid (s.up = false) := by have h := HOO.out; cases hs : s.up; rfl; rw [hs] at h; cases h
            have HAA : Hid (a = 0) := by have h := HAR.out; rw [HU.out] at h; exact h
            clear cN
            go_wp2_with fail
            refine Calls.mono (HR4.out.on HSM.out) ?_
            rintro e w5 ⟨rfl, hrw⟩
            have HPF : Hid (PlI F w w5 gd gr g7 (ondR s) S 0 (k + 1)) := PlI.mk' hrw HFG.out HFW.out HGW4.out (HV7.out.but hrw.but (fun n => n (HFG.out _ HF7.out))) HSM.out.ond.up (by unfold ondR; rw [HU.out]; rfl)
            have HUF : Hid (((ondR s)).up = true) := ondR_up s
            clear hrw cK
            have HRDF : Hid (∀ w', Grow w5 w' → Calls Try.prog 16 #[.pointer (some ⟨gr, 0, none⟩)] w' fun e w'' => e = .returned (.agg NS) ∧ Grow w' w'') := fun w' kk => by
              rw [HNS.out]
              exact regread_any HPF.out.rr.ok (HPF.out.rr.then kk).blk
            have HUPF : Hid (∀ w', Grow w5 w' → Calls Try.prog 22 #[.pointer (some ⟨gd, 0, none⟩)] w' fun e w'' => e = .returned (.bool true) ∧ Grow w' w'') := fun w' kk => by
              refine (HPF.out.rr.then kk).up.mono ?_
              rintro e w'' ⟨rfl, rfl⟩
              exact ⟨by rw [HUF.out], But.refl _ _⟩
            have HEQF : Hid (∀ w, (Op.equalIn 10000 26 (.agg NS) (.agg NS)).run Try.prog w = .ok true w) := fun w => by
              have := equalS HPF.out.rr.ok HPF.out.rr.ok w
              rw [same_refl] at this
              rw [HNS.out]; exact this
            go_upto_region 48 with fail
            refine region_chain [] [0, 1, 2, 3, 4, 5, 6, 7, 8, 9] (Grow w5) (Grow w5) (by kernel_rfl) (by kernel_rfl) (fun _ _ h k => h.trans k) (fun _ h => h) ((But.refl _ w5).drew) ?_
            intro ι hne X hX
            iterate 1 (refine still_step rfl (fun K hK => ?_); go_simp; refine hK _ ?_; clear hK K)
            refine still_call rfl (.agg NS) 16 #[.pointer (some ⟨gr, 0, none⟩)] rfl (fun x => by kernel_rfl) (fun x => HRDF.out _ (hX x)) ?_
            intro K hK; go_simp; refine hK _ ?_; clear hK K
            refine still_val rfl (.agg NS) rfl (fun x => by rw [HNS.out]; exact exec_ld Try.underlying26 rfl HLS.out (HPF.out.blk.but (hX x) (fun h => h)).cells0 rfl rfl) ?_
            intro K hK; go_simp; refine hK _ ?_; clear hK K
            refine still_val rfl (.bool (!true)) rfl (fun x => exec_neA rfl rfl rfl (by kernel_rfl) (HEQF.out _)) ?_
            intro K hK; go_simp; refine hK _ ?_; clear hK K
            iterate 2 (refine still_step rfl (fun K hK => ?_); go_simp; refine hK _ ?_; clear hK K)
            refine still_call rfl (.bool true) 22 #[.pointer (some ⟨gd, 0, none⟩)] rfl (fun x => by kernel_rfl) (fun x => HUPF.out _ (hX x)) ?_
            intro K hK; go_simp; refine hK _ ?_; clear hK K
            iterate 3 (refine still_step rfl (fun K hK => ?_); go_simp; refine hK _ ?_; clear hK K)
            refine still_nil ?_
            clear hX hne
            intro wz hwz
            have HPZ := Hid.mk' (HPF.out.then hwz)
            clear hwz
            go_wp2
            exact ⟨⟨k + 1, (ondR s), S, 0, false, by omega, by omega, by go_num, rfl, rfl, by first | rfl | (rw [HUF.out]; rfl), HPZ.out⟩, by simp [intOf]; omega⟩
          case false =>
            have HU : Hid (s.up = true) := by have h := HOO.out; cases hs : s.up; rw [hs] at h; cases h; rfl
            have HAA : Hid (a = (s.arm : Int)) := by have h := HAR.out; rw [HU.out] at h; exact h
            clear cN
            go_wp2_with fail
            refine Calls.mono (HR4.out.on HSM.out) ?_
            rintro e w5 ⟨rfl, hrw⟩
            have HPF : Hid (PlI F w w5 gd gr g7 (ondR s) S a (k + 1)) := PlI.mk' hrw HFG.out HFW.out HGW4.out (HV7.out.but hrw.but (fun n => n (HFG.out _ HF7.out))) HSM.out.ond.up (by rw [show ondR s = s by unfold ondR; rw [HU.out]; rfl, HU.out, if_pos rfl]; exact HAA.out)
            have HUF : Hid (((ondR s)).up = true) := ondR_up s
            clear hrw cK
            have HRDF : Hid (∀ w', Grow w5 w' → Calls Try.prog 16 #[.pointer (some ⟨gr, 0, none⟩)] w' fun e w'' => e = .returned (.agg NS) ∧ Grow w' w'') := fun w' kk => by
              rw [HNS.out]
              exact regread_any HPF.out.rr.ok (HPF.out.rr.then kk).blk
            have HUPF : Hid (∀ w', Grow w5 w' → Calls Try.prog 22 #[.pointer (some ⟨gd, 0, none⟩)] w' fun e w'' => e = .returned (.bool true) ∧ Grow w' w'') := fun w' kk => by
              refine (HPF.out.rr.then kk).up.mono ?_
              rintro e w'' ⟨rfl, rfl⟩
              exact ⟨by rw [HUF.out], But.refl _ _⟩
            have HEQF : Hid (∀ w, (Op.equalIn 10000 26 (.agg NS) (.agg NS)).run Try.prog w = .ok true w) := fun w => by
              have := equalS HPF.out.rr.ok HPF.out.rr.ok w
              rw [same_refl] at this
              rw [HNS.out]; exact this
            go_upto_region 48 with fail
            refine region_chain [] [0, 1, 2, 3, 4, 5, 6, 7, 8, 9] (Grow w5) (Grow w5) (by kernel_rfl) (by kernel_rfl) (fun _ _ h k => h.trans k) (fun _ h => h) ((But.refl _ w5).drew) ?_
            intro ι hne X hX
            iterate 1 (refine still_step rfl (fun K hK => ?_); go_simp; refine hK _ ?_; clear hK K)
            refine still_call rfl (.agg NS) 16 #[.pointer (some ⟨gr, 0, none⟩)] rfl (fun x => by kernel_rfl) (fun x => HRDF.out _ (hX x)) ?_
            intro K hK; go_simp; refine hK _ ?_; clear hK K
            refine still_val rfl (.agg NS) rfl (fun x => by rw [HNS.out]; exact exec_ld Try.underlying26 rfl HLS.out (HPF.out.blk.but (hX x) (fun h => h)).cells0 rfl rfl) ?_
            intro K hK; go_simp; refine hK _ ?_; clear hK K
            refine still_val rfl (.bool (!true)) rfl (fun x => exec_neA rfl rfl rfl (by kernel_rfl) (HEQF.out _)) ?_
            intro K hK; go_simp; refine hK _ ?_; clear hK K
            iterate 2 (refine still_step rfl (fun K hK => ?_); go_simp; refine hK _ ?_; clear hK K)
            refine still_call rfl (.bool true) 22 #[.pointer (some ⟨gd, 0, none⟩)] rfl (fun x => by kernel_rfl) (fun x => HUPF.out _ (hX x)) ?_
            intro K hK; go_simp; refine hK _ ?_; clear hK K
            iterate 3 (refine still_step rfl (fun K hK => ?_); go_simp; refine hK _ ?_; clear hK K)
            refine still_nil ?_
            clear hX hne
            intro wz hwz
            have HPZ := Hid.mk' (HPF.out.then hwz)
            clear hwz
            go_wp2
            exact ⟨⟨k + 1, (ondR s), S, a, false, by omega, by omega, by go_num, rfl, rfl, by first | rfl | (rw [HUF.out]; rfl), HPZ.out⟩, by simp [intOf]; omega⟩
        by_cases hq4 : q = 4
        · subst hq4
          cases oo
          case true =>
            have HU : Hid (s.up = false) := by have h := HOO.out; cases hs : s.up; rfl; rw [hs] at h; cases h
            have HAA : Hid (a = 0) := by have h := HAR.out; rw [HU.out] at h; exact h
            obtain rfl := HAA.out
            have HSPD := Hid.mk' (HR4.out.spend HSM.out (by omega))
            rw [HU.out, if_neg (by decide)] at HSPD
            generalize (false && !(s.arm == 1)) = rv at HSPD
            clear cN
            go_wp2_with fail
            refine Calls.mono HSPD.out ?_
            rintro e w5 ⟨rfl, hrw⟩
            have HPF : Hid (PlI F w w5 gd gr g7 s S 0 (k + 1)) := PlI.mk' hrw HFG.out HFW.out HGW4.out (HV7.out.but hrw.but (fun n => n (HFG.out _ HF7.out))) HSM.out.up (by rw [HU.out]; rfl)
            have HUF : Hid (s.up = false) := HU.out
            clear hrw cK HSPD
            have HRDF : Hid (∀ w', Grow w5 w' → Calls Try.prog 16 #[.pointer (some ⟨gr, 0, none⟩)] w' fun e w'' => e = .returned (.agg NS) ∧ Grow w' w'') := fun w' kk => by
              rw [HNS.out]
              exact regread_any HPF.out.rr.ok (HPF.out.rr.then kk).blk
            have HUPF : Hid (∀ w', Grow w5 w' → Calls Try.prog 22 #[.pointer (some ⟨gd, 0, none⟩)] w' fun e w'' => e = .returned (.bool false) ∧ Grow w' w'') := fun w' kk => by
              refine (HPF.out.rr.then kk).up.mono ?_
              rintro e w'' ⟨rfl, rfl⟩
              exact ⟨by rw [HUF.out], But.refl _ _⟩
            have HEQF : Hid (∀ w, (Op.equalIn 10000 26 (.agg NS) (.agg NS)).run Try.prog w = .ok true w) := fun w => by
              have := equalS HPF.out.rr.ok HPF.out.rr.ok w
              rw [same_refl] at this
              rw [HNS.out]; exact this
            go_upto_region 48 with fail
            refine region_chain [] [0, 1, 2, 3, 4, 5, 6, 7, 8, 9] (Grow w5) (Grow w5) (by kernel_rfl) (by kernel_rfl) (fun _ _ h k => h.trans k) (fun _ h => h) ((But.refl _ w5).drew) ?_
            intro ι hne X hX
            iterate 1 (refine still_step rfl (fun K hK => ?_); go_simp; refine hK _ ?_; clear hK K)
            refine still_call rfl (.agg NS) 16 #[.pointer (some ⟨gr, 0, none⟩)] rfl (fun x => by kernel_rfl) (fun x => HRDF.out _ (hX x)) ?_
            intro K hK; go_simp; refine hK _ ?_; clear hK K
            refine still_val rfl (.agg NS) rfl (fun x => by rw [HNS.out]; exact exec_ld Try.underlying26 rfl HLS.out (HPF.out.blk.but (hX x) (fun h => h)).cells0 rfl rfl) ?_
            intro K hK; go_simp; refine hK _ ?_; clear hK K
            refine still_val rfl (.bool (!true)) rfl (fun x => exec_neA rfl rfl rfl (by kernel_rfl) (HEQF.out _)) ?_
            intro K hK; go_simp; refine hK _ ?_; clear hK K
            iterate 2 (refine still_step rfl (fun K hK => ?_); go_simp; refine hK _ ?_; clear hK K)
            refine still_call rfl (.bool false) 22 #[.pointer (some ⟨gd, 0, none⟩)] rfl (fun x => by kernel_rfl) (fun x => HUPF.out _ (hX x)) ?_
            intro K hK; go_simp; refine hK _ ?_; clear hK K
            iterate 3 (refine still_step rfl (fun K hK => ?_); go_simp; refine hK _ ?_; clear hK K)
            refine still_nil ?_
            clear hX hne
            intro wz hwz
            have HPZ := Hid.mk' (HPF.out.then hwz)
            clear hwz
            go_wp2
            exact ⟨⟨k + 1, s, S, 0, true, by omega, by omega, by go_num, rfl, rfl, by first | rfl | (rw [HUF.out]; rfl), HPZ.out⟩, by simp [intOf]; omega⟩
          case false =>
            have HU : Hid (s.up = true) := by have h := HOO.out; cases hs : s.up; rw [hs] at h; cases h; rfl
            have HAA : Hid (a = (s.arm : Int)) := by have h := HAR.out; rw [HU.out] at h; exact h
            by_cases ha : a = 1
            · have HA1 : Hid (s.arm = 1) := by have := HAA.out; show _ = _; omega
              subst ha
              have HSPD := Hid.mk' (HR4.out.spend HSM.out (by omega))
              rw [HU.out, if_pos rfl] at HSPD
              generalize (true && !(s.arm == 1)) = rv at HSPD
              clear cN
              go_wp2_with fail
              refine Calls.mono HSPD.out ?_
              rintro e w5 ⟨rfl, hrw⟩
              have HPF : Hid (PlI F w w5 gd gr g7 s.acc S 0 (k + 1)) := PlI.mk' hrw HFG.out HFW.out HGW4.out (HV7.out.but hrw.but (fun n => n (HFG.out _ HF7.out))) HSM.out.acc (by rw [show s.acc.up = false by show (!(s.arm == 1)) = false; rw [HA1.out]; rfl]; rfl)
              have HUF : Hid (s.acc.up = false) := by show (!(s.arm == 1)) = false; rw [HA1.out]; rfl
              clear hrw cK HSPD
              have HRDF : Hid (∀ w', Grow w5 w' → Calls Try.prog 16 #[.pointer (some ⟨gr, 0, none⟩)] w' fun e w'' => e = .returned (.agg NS) ∧ Grow w' w'') := fun w' kk => by
                rw [HNS.out]
                exact regread_any HPF.out.rr.ok (HPF.out.rr.then kk).blk
              have HUPF : Hid (∀ w', Grow w5 w' → Calls Try.prog 22 #[.pointer (some ⟨gd, 0, none⟩)] w' fun e w'' => e = .returned (.bool false) ∧ Grow w' w'') := fun w' kk => by
                refine (HPF.out.rr.then kk).up.mono ?_
                rintro e w'' ⟨rfl, rfl⟩
                exact ⟨by rw [HUF.out], But.refl _ _⟩
              have HEQF : Hid (∀ w, (Op.equalIn 10000 26 (.agg NS) (.agg NS)).run Try.prog w = .ok true w) := fun w => by
                have := equalS HPF.out.rr.ok HPF.out.rr.ok w
                rw [same_refl] at this
                rw [HNS.out]; exact this
              go_upto_region 48 with fail
              refine region_chain [] [0, 1, 2, 3, 4, 5, 6, 7, 8, 9] (Grow w5) (Grow w5) (by kernel_rfl) (by kernel_rfl) (fun _ _ h k => h.trans k) (fun _ h => h) ((But.refl _ w5).drew) ?_
              intro ι hne X hX
              iterate 1 (refine still_step rfl (fun K hK => ?_); go_simp; refine hK _ ?_; clear hK K)
              refine still_call rfl (.agg NS) 16 #[.pointer (some ⟨gr, 0, none⟩)] rfl (fun x => by kernel_rfl) (fun x => HRDF.out _ (hX x)) ?_
              intro K hK; go_simp; refine hK _ ?_; clear hK K
              refine still_val rfl (.agg NS) rfl (fun x => by rw [HNS.out]; exact exec_ld Try.underlying26 rfl HLS.out (HPF.out.blk.but (hX x) (fun h => h)).cells0 rfl rfl) ?_
              intro K hK; go_simp; refine hK _ ?_; clear hK K
              refine still_val rfl (.bool (!true)) rfl (fun x => exec_neA rfl rfl rfl (by kernel_rfl) (HEQF.out _)) ?_
              intro K hK; go_simp; refine hK _ ?_; clear hK K
              iterate 2 (refine still_step rfl (fun K hK => ?_); go_simp; refine hK _ ?_; clear hK K)
              refine still_call rfl (.bool false) 22 #[.pointer (some ⟨gd, 0, none⟩)] rfl (fun x => by kernel_rfl) (fun x => HUPF.out _ (hX x)) ?_
              intro K hK; go_simp; refine hK _ ?_; clear hK K
              iterate 3 (refine still_step rfl (fun K hK => ?_); go_simp; refine hK _ ?_; clear hK K)
              refine still_nil ?_
              clear hX hne
              intro wz hwz
              have HPZ := Hid.mk' (HPF.out.then hwz)
              clear hwz
              go_wp2
              exact ⟨⟨k + 1, s.acc, S, 0, true, by omega, by omega, by go_num, rfl, rfl, by first | rfl | (rw [HUF.out]; rfl), HPZ.out⟩, by simp [intOf]; omega⟩
            · have HA1 : Hid (s.arm ≠ 1) := fun h => ha (by rw [HAA.out, h]; rfl)
              have ha' : (a == 1) = false := by simpa using ha
              have HSPD := Hid.mk' (HR4.out.spend HSM.out (by omega))
              rw [HU.out, if_pos rfl] at HSPD
              generalize (true && !(s.arm == 1)) = rv at HSPD
              clear cN
              go_wp2_with fail
              refine Calls.mono HSPD.out ?_
              rintro e w5 ⟨rfl, hrw⟩
              have HPF : Hid (PlI F w w5 gd gr g7 s.acc S (max (a - 1) 0) (k + 1)) := PlI.mk' hrw HFG.out HFW.out HGW4.out (HV7.out.but hrw.but (fun n => n (HFG.out _ HF7.out))) HSM.out.acc (by have h6 := HAA.out; rw [show s.acc.up = true by show (!(s.arm == 1)) = true; simpa using HA1.out, if_pos rfl]; show _ = ((s.arm - 1 : Nat) : Int); rw [Int.max_def]; split <;> omega)
              have HUF : Hid (s.acc.up = true) := by show (!(s.arm == 1)) = true; simpa using HA1.out
              clear hrw cK HSPD
              have HRDF : Hid (∀ w', Grow w5 w' → Calls Try.prog 16 #[.pointer (some ⟨gr, 0, none⟩)] w' fun e w'' => e = .returned (.agg NS) ∧ Grow w' w'') := fun w' kk => by
                rw [HNS.out]
                exact regread_any HPF.out.rr.ok (HPF.out.rr.then kk).blk
              have HUPF : Hid (∀ w', Grow w5 w' → Calls Try.prog 22 #[.pointer (some ⟨gd, 0, none⟩)] w' fun e w'' => e = .returned (.bool true) ∧ Grow w' w'') := fun w' kk => by
                refine (HPF.out.rr.then kk).up.mono ?_
                rintro e w'' ⟨rfl, rfl⟩
                exact ⟨by rw [HUF.out], But.refl _ _⟩
              have HEQF : Hid (∀ w, (Op.equalIn 10000 26 (.agg NS) (.agg NS)).run Try.prog w = .ok true w) := fun w => by
                have := equalS HPF.out.rr.ok HPF.out.rr.ok w
                rw [same_refl] at this
                rw [HNS.out]; exact this
              go_upto_region 48 with fail
              refine region_chain [] [0, 1, 2, 3, 4, 5, 6, 7, 8, 9] (Grow w5) (Grow w5) (by kernel_rfl) (by kernel_rfl) (fun _ _ h k => h.trans k) (fun _ h => h) ((But.refl _ w5).drew) ?_
              intro ι hne X hX
              iterate 1 (refine still_step rfl (fun K hK => ?_); go_simp; refine hK _ ?_; clear hK K)
              refine still_call rfl (.agg NS) 16 #[.pointer (some ⟨gr, 0, none⟩)] rfl (fun x => by kernel_rfl) (fun x => HRDF.out _ (hX x)) ?_
              intro K hK; go_simp; refine hK _ ?_; clear hK K
              refine still_val rfl (.agg NS) rfl (fun x => by rw [HNS.out]; exact exec_ld Try.underlying26 rfl HLS.out (HPF.out.blk.but (hX x) (fun h => h)).cells0 rfl rfl) ?_
              intro K hK; go_simp; refine hK _ ?_; clear hK K
              refine still_val rfl (.bool (!true)) rfl (fun x => exec_neA rfl rfl rfl (by kernel_rfl) (HEQF.out _)) ?_
              intro K hK; go_simp; refine hK _ ?_; clear hK K
              iterate 2 (refine still_step rfl (fun K hK => ?_); go_simp; refine hK _ ?_; clear hK K)
              refine still_call rfl (.bool true) 22 #[.pointer (some ⟨gd, 0, none⟩)] rfl (fun x => by kernel_rfl) (fun x => HUPF.out _ (hX x)) ?_
              intro K hK; go_simp; refine hK _ ?_; clear hK K
              iterate 3 (refine still_step rfl (fun K hK => ?_); go_simp; refine hK _ ?_; clear hK K)
              refine still_nil ?_
              clear hX hne
              intro wz hwz
              have HPZ := Hid.mk' (HPF.out.then hwz)
              clear hwz
              go_wp2
              exact ⟨⟨k + 1, s.acc, S, (max (a - 1) 0), false, by omega, by omega, by go_num, rfl, rfl, by first | rfl | (rw [HUF.out]; rfl), HPZ.out⟩, by simp [intOf]; omega⟩
        have e0 : (q == 0) = false := by simp; omega
        have e5 : (q == 5) = false := by simp; omega
        have e6 : (q == 6) = false := by simp; omega
        have e7 : (q == 7) = false := by simp; omega
        have e1 : (q == 1) = false := by simpa using hq1
        have e2 : (q == 2) = false := by simpa using hq2
        have e3 : (q == 3) = false := by simpa using hq3
        have e4 : (q == 4) = false := by simpa using hq4
        have HPF : Hid (PlI F w w4 gd gr g7 s S a (k + 1)) := PlI.mk' HR4.out HFG.out HFW.out HGW4.out HV7.out HSM.out.up HAR.out
        clear cN
        cases oo
        case true =>
          have HUF : Hid (s.up = false) := by have h := HOO.out; cases hs : s.up; rfl; rw [hs] at h; cases h
          have HRDF : Hid (∀ w', Grow w4 w' → Calls Try.prog 16 #[.pointer (some ⟨gr, 0, none⟩)] w' fun e w'' => e = .returned (.agg NS) ∧ Grow w' w'') := fun w' kk => by
            rw [HNS.out]
            exact regread_any HPF.out.rr.ok (HPF.out.rr.then kk).blk
          have HUPF : Hid (∀ w', Grow w4 w' → Calls Try.prog 22 #[.pointer (some ⟨gd, 0, none⟩)] w' fun e w'' => e = .returned (.bool false) ∧ Grow w' w'') := fun w' kk => by
            refine (HPF.out.rr.then kk).up.mono ?_
            rintro e w'' ⟨rfl, rfl⟩
            exact ⟨by rw [HUF.out], But.refl _ _⟩
          have HEQF : Hid (∀ w, (Op.equalIn 10000 26 (.agg NS) (.agg NS)).run Try.prog w = .ok true w) := fun w => by
            have := equalS HPF.out.rr.ok HPF.out.rr.ok w
            rw [same_refl] at this
            rw [HNS.out]; exact this
          go_upto_region 48 with fail
          refine region_chain [] [0, 1, 2, 3, 4, 5, 6, 7, 8, 9] (Grow w4) (Grow w4) (by kernel_rfl) (by kernel_rfl) (fun _ _ h k => h.trans k) (fun _ h => h) ((But.refl _ w4).drew) ?_
          intro ι hne X hX
          iterate 1 (refine still_step rfl (fun K hK => ?_); go_simp; refine hK _ ?_; clear hK K)
          refine still_call rfl (.agg NS) 16 #[.pointer (some ⟨gr, 0, none⟩)] rfl (fun x => by kernel_rfl) (fun x => HRDF.out _ (hX x)) ?_
          intro K hK; go_simp; refine hK _ ?_; clear hK K
          refine still_val rfl (.agg NS) rfl (fun x => by rw [HNS.out]; exact exec_ld Try.underlying26 rfl HLS.out (HPF.out.blk.but (hX x) (fun h => h)).cells0 rfl rfl) ?_
          intro K hK; go_simp; refine hK _ ?_; clear hK K
          refine still_val rfl (.bool (!true)) rfl (fun x => exec_neA rfl rfl rfl (by kernel_rfl) (HEQF.out _)) ?_
          intro K hK; go_simp; refine hK _ ?_; clear hK K
          iterate 2 (refine still_step rfl (fun K hK => ?_); go_simp; refine hK _ ?_; clear hK K)
          refine still_call rfl (.bool false) 22 #[.pointer (some ⟨gd, 0, none⟩)] rfl (fun x => by kernel_rfl) (fun x => HUPF.out _ (hX x)) ?_
          intro K hK; go_simp; refine hK _ ?_; clear hK K
          iterate 3 (refine still_step rfl (fun K hK => ?_); go_simp; refine hK _ ?_; clear hK K)
          refine still_nil ?_
          clear hX hne
          intro wz hwz
          have HPZ := Hid.mk' (HPF.out.then hwz)
          clear hwz
          go_wp2
          exact ⟨⟨k + 1, s, S, a, true, by omega, by omega, by go_num, rfl, rfl, by first | rfl | (rw [HUF.out]; rfl), HPZ.out⟩, by simp [intOf]; omega⟩
        case false =>
          have HUF : Hid (s.up = true) := by have h := HOO.out; cases hs : s.up; rw [hs] at h; cases h; rfl
          have HRDF : Hid (∀ w', Grow w4 w' → Calls Try.prog 16 #[.pointer (some ⟨gr, 0, none⟩)] w' fun e w'' => e = .returned (.agg NS) ∧ Grow w' w'') := fun w' kk => by
            rw [HNS.out]
            exact regread_any HPF.out.rr.ok (HPF.out.rr.then kk).blk
          have HUPF : Hid (∀ w', Grow w4 w' → Calls Try.prog 22 #[.pointer (some ⟨gd, 0, none⟩)] w' fun e w'' => e = .returned (.bool true) ∧ Grow w' w'') := fun w' kk => by
            refine (HPF.out.rr.then kk).up.mono ?_
            rintro e w'' ⟨rfl, rfl⟩
            exact ⟨by rw [HUF.out], But.refl _ _⟩
          have HEQF : Hid (∀ w, (Op.equalIn 10000 26 (.agg NS) (.agg NS)).run Try.prog w = .ok true w) := fun w => by
            have := equalS HPF.out.rr.ok HPF.out.rr.ok w
            rw [same_refl] at this
            rw [HNS.out]; exact this
          go_upto_region 48 with fail
          refine region_chain [] [0, 1, 2, 3, 4, 5, 6, 7, 8, 9] (Grow w4) (Grow w4) (by kernel_rfl) (by kernel_rfl) (fun _ _ h k => h.trans k) (fun _ h => h) ((But.refl _ w4).drew) ?_
          intro ι hne X hX
          iterate 1 (refine still_step rfl (fun K hK => ?_); go_simp; refine hK _ ?_; clear hK K)
          refine still_call rfl (.agg NS) 16 #[.pointer (some ⟨gr, 0, none⟩)] rfl (fun x => by kernel_rfl) (fun x => HRDF.out _ (hX x)) ?_
          intro K hK; go_simp; refine hK _ ?_; clear hK K
          refine still_val rfl (.agg NS) rfl (fun x => by rw [HNS.out]; exact exec_ld Try.underlying26 rfl HLS.out (HPF.out.blk.but (hX x) (fun h => h)).cells0 rfl rfl) ?_
          intro K hK; go_simp; refine hK _ ?_; clear hK K
          refine still_val rfl (.bool (!true)) rfl (fun x => exec_neA rfl rfl rfl (by kernel_rfl) (HEQF.out _)) ?_
          intro K hK; go_simp; refine hK _ ?_; clear hK K
          iterate 2 (refine still_step rfl (fun K hK => ?_); go_simp; refine hK _ ?_; clear hK K)
          refine still_call rfl (.bool true) 22 #[.pointer (some ⟨gd, 0, none⟩)] rfl (fun x => by kernel_rfl) (fun x => HUPF.out _ (hX x)) ?_
          intro K hK; go_simp; refine hK _ ?_; clear hK K
          iterate 3 (refine still_step rfl (fun K hK => ?_); go_simp; refine hK _ ?_; clear hK K)
          refine still_nil ?_
          clear hX hne
          intro wz hwz
          have HPZ := Hid.mk' (HPF.out.then hwz)
          clear hwz
          go_wp2
          exact ⟨⟨k + 1, s, S, a, false, by omega, by omega, by go_num, rfl, rfl, by first | rfl | (rw [HUF.out]; rfl), HPZ.out⟩, by simp [intOf]; omega⟩
      · have hlt' : (k : Int) < (n : Int) := by omega
        have h300' : ¬ ((k : Int) < 300) := by omega
        go_wp2_with fail
        refine Calls.mono (awake_any wr) ?_
        rintro e w9 ⟨rfl, hg9⟩
        have HE := Hid.mk' ((HP.out.grow.trans hg9).below (Nat.le_refl _) (fun _ _ h => h))
        clear hg9
        go_wp2
        go_ret
        exact ⟨rfl, HE.out⟩
    · have hlt' : ¬ ((k : Int) < (n : Int)) := by omega
      go_wp2_with fail
      refine Calls.mono (awake_any wr) ?_
      rintro e w9 ⟨rfl, hg9⟩
      have HE := Hid.mk' ((HP.out.grow.trans hg9).below (Nat.le_refl _) (fun _ _ h => h))
      clear hg9
      go_wp2
      go_ret
      exact ⟨rfl, HE.out⟩

set_option maxRecDepth 100000 in
theorem regPlays_lifted (os : Os) (started : os.Started) (H : Type) (enc : TypeId × Value → H) :
    ReturnsInHanded {} Try.checked os 5 .any (Rows.regPlaysSpec.pre6 enc Try.prog Try.f5 Rows.regPlaysRow.domain false) (Rows.regPlaysSpec.post enc Try.prog Try.f5 false true false false) := by
  refine returnsInHanded_of_change_sized (C := Try.checked) (by kernel_rfl) started (by kernel_rfl) Try.func5
    (ChangeSpec.witness6 (enc := enc) (C := Try.checked) false ⟨#[], #[.slice none 0 0], []⟩ 8 (by kernel_rfl) (by kernel_rfl) (by kernel_rfl) (by kernel_rfl)) ?_
  intro W base args ds gs before hval0 hW hcnd hsz0 _
  have hsz : (DataW.weightsEach Try.prog (Try.f5.params.toList ++ Rows.regPlaysSpec.plain.varTypes Try.prog) (ds ++ gs)).all (· ≤ reachBytes) = true := hsz0
  clear hsz0
  have hval : ∀ (j : Nat) t v, Try.f5.params[j]? = some t → args[j]? = some v → Value.okWide Try.prog W .any base t v := hval0
  have hW' := hW
  obtain ⟨p, q, hA0, hV, rfl, hfz, hnd⟩ := hW
  have hA : DataW.TrodAll enc Try.prog W 0 (fun _ => true) true Try.f5.params.toList args.toList ds p := hA0
  rw [Try.params5] at hA hval hsz
  obtain ⟨v0, vs0, d0, ds0, p0, q0, hargs, rfl, rfl, h0, r0⟩ := trodAll_cons hA
  obtain ⟨rfl, rfl, rfl⟩ := trodAll_nil r0
  obtain rfl : args = #[v0] := by cases args; simp_all
  obtain ⟨rfl, rfl⟩ := trodVars_none hV
  have lt0 : ∀ x ∈ p0, x.block < W.heap.size := by obtain ⟨m, hm⟩ := h0; exact DataW.trod_lt m _ _ _ hm
  obtain ⟨n0, z0, w0⟩ := view_racts (hval 0 31 v0 rfl rfl) h0 lt0 hsz (j := 0) rfl rfl
  clear hA0 hval0
  refine (regPlays_walk v0 n0 z0 W w0).mono fun e W' ⟨he, bel⟩ => ?_
  subst he
  exact ⟨_, rfl, _, _, _, [], _, [], hW', trodAll_mk1 (shut_bool Try.underlying4 _), (trodAll_cons_mk (Below.trod (by kernel_rfl) (by kernel_rfl) (of_decide_eq_true (by kernel_rfl)) h0 bel lt0) trodAll_mk0), rfl, bel.frame _, fun h => by cases h⟩

theorem regPlays_holds : Rows.RegPlaysSaid :=
  OpenClaim.holds_of_wide 5 Try.f5 rfl rfl rfl rfl rfl rfl rfl ⟨rfl, rfl, rfl, rfl, rfl⟩ rfl rfl rfl rfl rfl (by kernel_rfl) Try.func5 (by kernel_rfl)
    (of_decide_eq_true (by kernel_rfl)) (by unfold Func.isWrapper; first | (rw [if_pos (by decide +kernel)]; kernel_rfl) | (rw [if_neg (by decide +kernel)]; exact ⟨rfl, rfl⟩))
    (fun os started H enc _ => regPlays_lifted os started H enc)
#print axioms regPlays_holds
end Go.Proofs.Ytcikldklacgafaa
