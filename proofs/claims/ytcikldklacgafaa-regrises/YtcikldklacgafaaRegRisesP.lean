/- RegRises: the walk. -/
import Derived.Test.YtcikldklacgafaaRgSteps
namespace Go.Proofs.Ytcikldklacgafaa
open Go.ChangeShapes Go.WideShapes Go.ChangeAt Go.RowKit

set_option maxRecDepth 100000 in
set_option maxHeartbeats 8000000 in
theorem regRises_walk (v0 : Value) (n : Nat) (A : Nat → RA) (w : World) (h1 : RActs w v0 n A) :
    Calls Try.prog 6 #[v0] w fun e w' => e = .returned (.bool true) ∧ Below w.heap.size w w' := by
  have H1 := Hid.mk' h1
  obtain ⟨ao, cap, rfl⟩ := h1.sl
  have HNW := Hid.mk' (new_any w 1 (by decide) (by decide))
  have HS0 : Hid ((Dev.fresh 1).up = true ∧ Dsm (Dev.fresh 1) 0 ∧ (Dev.fresh 1).arm = 0) := ⟨rfl, fresh_sm 1, rfl⟩
  generalize Dev.fresh 1 = s0 at HNW HS0
  obtain ⟨Z, hZ⟩ : ∃ Z, Z = (scells Stt.zero).toArray := ⟨_, rfl⟩
  have HZ := Hid.mk' hZ
  have HZV : Hid (∀ w, (zeroValue 26).run Try.prog w = .ok (.agg Z) w) := fun w => by rw [hZ]; exact zeroVS w
  clear h1 hZ
  go_enter Try.func6, Try.ntmps6
  go_wp2_with fail
  refine Calls.mono HNW.out ?_
  rintro e w1 ⟨gd, own, rfl, hd1⟩
  have HD1 := Hid.mk' hd1
  clear hd1 HNW
  go_wp2_with fail
  refine Calls.mono (regnew_any gd w1) ?_
  rintro e w2 ⟨rfl, hb2, hg2⟩
  have HR0 : Hid (Rr (fun x => x < w.heap.size) w w2 gd w1.heap.size s0 Stt.zero) := mkRr HD1.out hb2 hg2
  obtain ⟨gr, hgr⟩ : ∃ gr, gr = w1.heap.size := ⟨_, rfl⟩
  rw [← hgr] at HR0 ⊢
  clear hb2 hg2 HD1 hgr
  go_wp2
  go_loopw [7] (fun iv wr => ∃ (k : Nat) (s : Dev) (S : Stt), k ≤ n ∧ k ≤ 300 ∧ iv = .int .i64 (k : Int) ∧ Rr (fun x => x < w.heap.size) w wr gd gr s S ∧ s.up = true ∧ Dsm s k) (fun iv _ => n - (intOf iv).toNat)
  case atStart => exact ⟨0, s0, Stt.zero, Nat.zero_le _, by decide, rfl, HR0.out, HS0.out.1, HS0.out.2.1⟩
  case round =>
    clear HR0 HS0
    obtain ⟨k, s, S, hkn, hk3, rfl, hrr, hup, hsm⟩ := hrel
    have HRR := Hid.mk' hrr
    have HSM := Hid.mk' hsm
    clear hrr hsm hup
    by_cases hlt : k < n
    · by_cases h300 : k < 300
      · have hlt' : (k : Int) < (n : Int) := by omega
        have h300' : (k : Int) < 300 := by omega
        obtain ⟨b, off, cap', e1, hbw, hcell, hrn, hok⟩ := H1.out.at hlt
        simp only [Value.slice.injEq] at e1
        obtain ⟨rfl, -, rfl⟩ := e1
        have HCE := Hid.mk' hcell
        have HBW := Hid.mk' hbw
        have HOT := Hid.mk' hok
        have HQN : Hid ((racells (A k))[1]? = some (.int .i64 (A k).n)) := rfl
        have HQS : Hid (∀ j u, (scells (A k).S)[j]? = some u → (racells (A k))[2 + j]? = some u) := fun j u hj => by
          rw [Nat.add_comm]
          exact hj
        generalize (A k).S = T at HOT HQS
        generalize (A k).n = m at HQN hrn
        clear hcell hbw hok
        have HOS := Hid.mk' HRR.out.ok
        obtain ⟨NS, hNS⟩ : ∃ NS, NS = (scells S).toArray := ⟨_, rfl⟩
        have HNS := Hid.mk' hNS
        have HLNS : Hid ((Try.prog.info? 26).map (·.size) = some (scells S).length) := by rw [scells_len HOS.out]; exact iSt
        have HZLNS : Hid ((scells Stt.zero).length = (scells S).length) := by show _ = _; rw [scells_len HOS.out]; rfl
        clear hNS
        obtain ⟨NT, hNT⟩ : ∃ NT, NT = (scells T).toArray := ⟨_, rfl⟩
        have HNT := Hid.mk' hNT
        have HLNT : Hid ((Try.prog.info? 26).map (·.size) = some (scells T).length) := by rw [scells_len HOT.out]; exact iSt
        have HZLNT : Hid ((scells Stt.zero).length = (scells T).length) := by show _ = _; rw [scells_len HOT.out]; rfl
        clear hNT
        have HRD := Hid.mk' (regread_any HRR.out.ok HRR.out.blk)
        rw [← HNS.out] at HRD
        go_wp2_with fail
        refine Calls.mono HRD.out ?_
        rintro e w3 ⟨rfl, hg3⟩
        have HG3 := Hid.mk' hg3
        clear hg3 HRD
        have HBV : Hid (Blk (w3.alloc (.cells Z 26)) w3.heap.size 26 (scells Stt.zero)) := by show Blk _ _ _ _; rw [HZ.out]; exact Blk.new rfl
        have hz := HZV.out
        go_upto_region 9 with (first
          | (refine wpList_store_at rfl _ _ _ rfl w3.heap.size 0 (scells S) rfl (by show Value.agg NS = _; rw [HNS.out]) 26 [] (scells Stt.zero) [] (by simpa using HBV.out) rfl HZLNS.out HLNS.out (scells_one _) ?_; intro w4 hbv hbutv; rw [List.nil_append, List.append_nil] at hbv)
          | fail)
        have hgv : Grow w3 w4 := ((But.refl _ w3).alloc _).then hbutv (fun b hb e => by omega)
        obtain ⟨g8, hg8⟩ : ∃ g8, g8 = w3.heap.size := ⟨_, rfl⟩
        rw [← hg8] at hbv ⊢
        have HEg8 := Hid.mk' hg8
        have HVg8 := Hid.mk' hbv
        have HGg8 := Hid.mk' hgv
        clear hbv hbutv hgv hg8 HBV hz
        have HG34 : Hid (Grow wr w4) := HG3.out.trans HGg8.out
        have HR4 := Hid.mk' (HRR.out.add HG34.out)
        have HF8 : Hid ((fun b => (fun x => x < w.heap.size) b ∨ (wr.heap.size ≤ b ∧ b < w4.heap.size)) g8) := .inr ⟨by have := HEg8.out; have := HG3.out.size; omega, HVg8.out.lt⟩
        have HFW : Hid (∀ b, b < w.heap.size → (fun b => (fun x => x < w.heap.size) b ∨ (wr.heap.size ≤ b ∧ b < w4.heap.size)) b) := fun b h => .inl h
        have HBK : Hid (∀ w' s' S', Rr (fun b => (fun x => x < w.heap.size) b ∨ (wr.heap.size ≤ b ∧ b < w4.heap.size)) w4 w' gd gr s' S' → Rr (fun x => x < w.heap.size) w w' gd gr s' S') := fun w' s' S' h' => h'.less (fun b hb => .inl hb) HRR.out.fl ((HRR.out.but.trans (HG34.out.mono (fun _ _ h => h.elim))).then h'.but (fun b _ hn hf => hn (.inl hf)))
        have HHP : Hid (∀ w', But (fun b => ¬ (fun b => (fun x => x < w.heap.size) b ∨ (wr.heap.size ≤ b ∧ b < w4.heap.size)) b) w4 w' → w'.heap[b]? = w.heap[b]?) := fun w' k' => by
          have h5 : But (fun b => ¬ (fun x => x < w.heap.size) b) w w' := (HRR.out.but.trans (HG34.out.mono (fun _ _ h => h.elim))).then k' (fun b _ hn hf => hn (.inl hf))
          exact h5.block b HBW.out (fun n => n HBW.out)
        generalize (fun b => (fun x => x < w.heap.size) b ∨ (wr.heap.size ≤ b ∧ b < w4.heap.size)) = G at HR4 HF8 HFW HBK HHP
        have cN : w4.cell? ⟨b, off + k * 74 + 1, none⟩ = some (.int .i64 m) := HCE.out _ (HHP.out _ (But.refl _ _)) 1 _ HQN.out
        obtain ⟨q, hq⟩ : ∃ q, bits .and .i64 m 7 = q := ⟨_, rfl⟩
        by_cases hq1 : q = 1
        case pos =>
          subst hq1
          go_wp2_with fail
          refine Calls.mono (HR4.out.arm 1) ?_
          rintro e w5 ⟨rfl, hr5⟩
          have HR5 := Hid.mk' hr5
          have HSM5 : Hid (Dsm { s with arm := (1 : Int).toNat } k) := ⟨HSM.out.wr, HSM.out.cnt, by show (1 : Int).toNat ≤ _; decide⟩
          generalize ({ s with arm := (1 : Int).toNat } : Dev) = s5 at HR5 HSM5
          clear hr5 cN hq
          have HTC : Hid (∀ j u, (scells T)[j]? = some u → w5.cell? ((⟨b, off + k * 74 + 2, none⟩ : Addr).add j) = some u) := fun j u hj => by
            rw [addr_add, Nat.add_assoc (off + k * 74)]
            exact HCE.out _ (HHP.out _ HR5.out.but) _ _ (HQS.out j u hj)
          have HWR := Hid.mk' (regwrite_any HR5.out HOT.out (by have := HSM5.out.cnt; omega) HSM5.out.arm)
          have HWC := Hid.mk' (wr_cases s5 S T)
          have HWM := Hid.mk' (fun h => wr_mono (s := s5) (S := S) (T := T) h)
          have HWS := Hid.mk' (wr_sm HSM5.out S T)
          generalize wrcode s5 S T = c at HWR HWC
          generalize wrheld s5 S T = Q at HWR HWC HWM
          generalize wrdev s5 S T = s6 at HWR HWS
          rw [← HNT.out] at HWR
          go_wp2_with (first
            | (refine wpList_load_cells rfl _ _ rfl ⟨b, off + k * 74 + 2, none⟩ rfl (scells T) _ HTC.out Try.underlying26 rfl HLNT.out ?_; rw [← HNT.out])
            | fail)
          refine Calls.mono HWR.out ?_
          rintro e w6 ⟨rfl, hr6⟩
          have HR6 := Hid.mk' hr6
          clear hr6 HWR HTC
          obtain ⟨NQ, hNQ⟩ : ∃ NQ, NQ = (scells Q).toArray := ⟨_, rfl⟩
          have HNQ := Hid.mk' hNQ
          have HLNQ : Hid ((Try.prog.info? 26).map (·.size) = some (scells Q).length) := by rw [scells_len HR6.out.ok]; exact iSt
          have HZLNQ : Hid ((scells Stt.zero).length = (scells Q).length) := by show _ = _; rw [scells_len HR6.out.ok]; rfl
          clear hNQ
          have HRD := Hid.mk' (regread_any HR6.out.ok HR6.out.blk)
          rw [← HNQ.out] at HRD
          go_wp2_with fail
          refine Calls.mono HRD.out ?_
          rintro e w7 ⟨rfl, hg7⟩
          have HG7 := Hid.mk' hg7
          clear hg7 HRD
          have HBV : Hid (Blk (w7.alloc (.cells Z 26)) w7.heap.size 26 (scells Stt.zero)) := by show Blk _ _ _ _; rw [HZ.out]; exact Blk.new rfl
          have hz := HZV.out
          go_upto_region 13 with (first
            | (refine wpList_store_at rfl _ _ _ rfl w7.heap.size 0 (scells Q) rfl (by show Value.agg NQ = _; rw [HNQ.out]) 26 [] (scells Stt.zero) [] (by simpa using HBV.out) rfl HZLNQ.out HLNQ.out (scells_one _) ?_; intro w8 hbv hbutv; rw [List.nil_append, List.append_nil] at hbv)
            | fail)
          have hgv : Grow w7 w8 := ((But.refl _ w7).alloc _).then hbutv (fun b hb e => by omega)
          obtain ⟨g10, hg10⟩ : ∃ g10, g10 = w7.heap.size := ⟨_, rfl⟩
          rw [← hg10] at hbv ⊢
          have HEg10 := Hid.mk' hg10
          have HVg10 := Hid.mk' hbv
          have HGg10 := Hid.mk' hgv
          clear hbv hbutv hgv hg10 HBV hz
          have HR8 := Hid.mk' (HR6.out.then (HG7.out.trans HGg10.out))
          have HV8 := Hid.mk' (HVg8.out.but HR8.out.but (fun n => n HF8.out))
          have HEQ : Hid (∀ w, (Op.equalIn 10000 26 (.agg NQ) (.agg NQ)).run Try.prog w = .ok true w) := fun w => by
            have := equalS HR6.out.ok HR6.out.ok w
            rw [same_refl] at this
            rw [HNQ.out]; exact this
          refine region_chain [] [0, 1, 2, 3, 4, 5, 6, 7, 8, 9, 10, 11, 12, 13, 14, 15, 16, 17, 18, 19] (Grow w8) (Grow w8) (by kernel_rfl) (by kernel_rfl) (fun _ _ h k => h.trans k) (fun _ h => h) ((But.refl _ w8).drew) ?_
          intro ι hne X hX
          rcases HWC.out with ⟨hc0, hQT, -⟩ | ⟨hc0, hQS⟩
          · have hc1 : (c != 0) = false := by simpa using hc0
            have hc2 : (c == 0) = true := by simpa using hc0
            subst hQT
            iterate 2 (refine still_step rfl (fun K hK => ?_); go_simp; refine hK _ ?_; clear hK K)
            refine still_step rfl (fun K hK => ?_)
            have hK' := fun (a : Act) h1 h4 => hK a (still_pass1 (a := a) 2 true 54 (.bool false) [3, 4, 5] [6, 7, 8, 9, 10, 11, 12, 13, 14, 15, 16, 17, 18, 19] [55, 56, 57] rfl rfl (fun h => by cases h) (by kernel_rfl) (by kernel_rfl) h1 h4)
            clear hK
            go_simp
            refine hK' _ (by kernel_rfl) ?_
            clear hK' K
            intro K hK
            simp only [undefL]
            go_simp
            refine hK _ ?_
            clear hK K
            iterate 5 (refine still_step rfl (fun K hK => ?_); go_simp; refine hK _ ?_; clear hK K)
            refine still_val rfl (.agg NQ) rfl (fun x => by rw [HNQ.out]; exact exec_ld Try.underlying26 rfl HLNQ.out (HVg10.out.but (hX x) (fun h => h)).cells0 rfl rfl) ?_
            intro K hK; go_simp; refine hK _ ?_; clear hK K
            iterate 4 (refine still_step rfl (fun K hK => ?_); go_simp; refine hK _ ?_; clear hK K)
            refine still_val rfl (.agg NQ) rfl (fun x => by
              rw [HNQ.out]
              exact exec_ld (ad := ⟨b, off + k * 74 + 2, none⟩) Try.underlying26 rfl HLNQ.out (fun j u hj => by
                rw [addr_add, Nat.add_assoc (off + k * 74)]
                exact HCE.out _ (HHP.out _ (HR8.out.then (hX x)).but) _ _ (HQS.out j u hj)) rfl rfl) ?_
            intro K hK; go_simp; refine hK _ ?_; clear hK K
            refine still_val rfl (.bool (!true)) rfl (fun x => exec_neA rfl rfl rfl (by kernel_rfl) (HEQ.out _)) ?_
            intro K hK; go_simp; refine hK _ ?_; clear hK K
            iterate 2 (refine still_step rfl (fun K hK => ?_); go_simp; refine hK _ ?_; clear hK K)
            refine still_nil ?_
            clear hX hne
            intro wA hwA
            have HRA := Hid.mk' (HR8.out.then hwA)
            have hva := HV8.out.but hwA (fun h => h)
            have hvn := HVg10.out.but hwA (fun h => h)
            have a0 : wA.cell? ⟨g8, 0, none⟩ = some (.int .i64 S.pages) := hva.cell 0
            have a1 : wA.cell? ⟨g8, 1, none⟩ = some (.int .i64 S.budget) := hva.cell 1
            have a2 : wA.cell? ⟨g8, 2, none⟩ = some (.bool S.wide) := hva.cell 2
            have a3 : wA.cell? ⟨g8, 3, none⟩ = some (.int .u32 S.boot) := hva.cell 3
            have a4 : wA.cell? ⟨g8, 4, none⟩ = some (.int .u64 S.version) := hva.cell 4
            have a5 : wA.cell? ⟨g8, 5, none⟩ = some (.int .u32 S.epoch) := hva.cell 5
            have n0 : wA.cell? ⟨g10, 0, none⟩ = some (.int .i64 Q.pages) := hvn.cell 0
            have n1 : wA.cell? ⟨g10, 1, none⟩ = some (.int .i64 Q.budget) := hvn.cell 1
            have n2 : wA.cell? ⟨g10, 2, none⟩ = some (.bool Q.wide) := hvn.cell 2
            have n3 : wA.cell? ⟨g10, 3, none⟩ = some (.int .u32 Q.boot) := hvn.cell 3
            have n4 : wA.cell? ⟨g10, 4, none⟩ = some (.int .u64 Q.version) := hvn.cell 4
            have n5 : wA.cell? ⟨g10, 5, none⟩ = some (.int .u32 Q.epoch) := hvn.cell 5
            clear hwA hva hvn
            by_cases hp : S.pages = 0
            · have hp' : (S.pages != 0) = false := by simpa using hp
              go_upto_region 17 with fail
              clear a0 a1 a2 a3 a4 a5 n0 n1 n2 n3 n4 n5 hp'
              go_wp2_with fail
              refine Calls.mono (HRA.out.on HWS.out) ?_
              rintro e wB ⟨rfl, hrB⟩
              have HRB := Hid.mk' (HBK.out _ _ _ hrB)
              clear hrB
              go_wp2
              exact ⟨⟨k + 1, _, _, by omega, by omega, by go_num, HRB.out, ondR_up _, HWS.out.ond⟩, by simp [intOf]; omega⟩
            · have hp' : (S.pages != 0) = true := by simpa using hp
              obtain ⟨m1, m2, m3, m4, m5, m6⟩ := HWM.out hp
              rw [m4] at n0
              rw [m5] at n1
              rw [m6] at n2
              clear m4 m5 m6
              go_upto_region 17 with fail
              clear a0 a1 a2 a3 a4 a5 n0 n1 n2 n3 n4 n5 hp' m1 m2 m3
              go_wp2_with fail
              refine Calls.mono (HRA.out.on HWS.out) ?_
              rintro e wB ⟨rfl, hrB⟩
              have HRB := Hid.mk' (HBK.out _ _ _ hrB)
              clear hrB
              go_wp2
              exact ⟨⟨k + 1, _, _, by omega, by omega, by go_num, HRB.out, ondR_up _, HWS.out.ond⟩, by simp [intOf]; omega⟩
          · have hc1 : (c != 0) = true := by simpa using hc0
            have hc2 : (c == 0) = false := by simpa using hc0
            subst hQS
            iterate 3 (refine still_step rfl (fun K hK => ?_); go_simp; refine hK _ ?_; clear hK K)
            refine still_val rfl (.agg NQ) rfl (fun x => by rw [HNQ.out]; exact exec_ld Try.underlying26 rfl HLNQ.out (HVg10.out.but (hX x) (fun h => h)).cells0 rfl rfl) ?_
            intro K hK; go_simp; refine hK _ ?_; clear hK K
            refine still_val rfl (.agg NQ) rfl (fun x => by rw [HNQ.out]; exact exec_ld Try.underlying26 rfl HLNQ.out (HV8.out.but (hX x) (fun h => h)).cells0 rfl rfl) ?_
            intro K hK; go_simp; refine hK _ ?_; clear hK K
            refine still_val rfl (.bool (!true)) rfl (fun x => exec_neA rfl rfl rfl (by kernel_rfl) (HEQ.out _)) ?_
            intro K hK; go_simp; refine hK _ ?_; clear hK K
            iterate 4 (refine still_step rfl (fun K hK => ?_); go_simp; refine hK _ ?_; clear hK K)
            refine still_step rfl (fun K hK => ?_)
            have hK' := fun (a : Act) h1 h4 => hK a (still_pass1 (a := a) 10 true 62 (.bool false) [11, 12, 13, 14, 15, 16, 17] [18, 19] [63, 64, 65, 66, 67, 68, 69] rfl rfl (fun h => by cases h) (by kernel_rfl) (by kernel_rfl) h1 h4)
            clear hK
            go_simp
            refine hK' _ (by kernel_rfl) ?_
            clear hK' K
            intro K hK
            simp only [undefL]
            go_simp
            refine hK _ ?_
            clear hK K
            iterate 2 (refine still_step rfl (fun K hK => ?_); go_simp; refine hK _ ?_; clear hK K)
            refine still_nil ?_
            clear hX hne
            intro wA hwA
            have HRA := Hid.mk' (HR8.out.then hwA)
            have hva := HV8.out.but hwA (fun h => h)
            have hvn := HVg10.out.but hwA (fun h => h)
            have a0 : wA.cell? ⟨g8, 0, none⟩ = some (.int .i64 Q.pages) := hva.cell 0
            have a1 : wA.cell? ⟨g8, 1, none⟩ = some (.int .i64 Q.budget) := hva.cell 1
            have a2 : wA.cell? ⟨g8, 2, none⟩ = some (.bool Q.wide) := hva.cell 2
            have a3 : wA.cell? ⟨g8, 3, none⟩ = some (.int .u32 Q.boot) := hva.cell 3
            have a4 : wA.cell? ⟨g8, 4, none⟩ = some (.int .u64 Q.version) := hva.cell 4
            have a5 : wA.cell? ⟨g8, 5, none⟩ = some (.int .u32 Q.epoch) := hva.cell 5
            have n0 : wA.cell? ⟨g10, 0, none⟩ = some (.int .i64 Q.pages) := hvn.cell 0
            have n1 : wA.cell? ⟨g10, 1, none⟩ = some (.int .i64 Q.budget) := hvn.cell 1
            have n2 : wA.cell? ⟨g10, 2, none⟩ = some (.bool Q.wide) := hvn.cell 2
            have n3 : wA.cell? ⟨g10, 3, none⟩ = some (.int .u32 Q.boot) := hvn.cell 3
            have n4 : wA.cell? ⟨g10, 4, none⟩ = some (.int .u64 Q.version) := hvn.cell 4
            have n5 : wA.cell? ⟨g10, 5, none⟩ = some (.int .u32 Q.epoch) := hvn.cell 5
            clear hwA hva hvn
            by_cases hp : Q.pages = 0
            · have hp' : (Q.pages != 0) = false := by simpa using hp
              go_upto_region 17 with fail
              clear a0 a1 a2 a3 a4 a5 n0 n1 n2 n3 n4 n5 hp'
              go_wp2_with fail
              refine Calls.mono (HRA.out.on HWS.out) ?_
              rintro e wB ⟨rfl, hrB⟩
              have HRB := Hid.mk' (HBK.out _ _ _ hrB)
              clear hrB
              go_wp2
              exact ⟨⟨k + 1, _, _, by omega, by omega, by go_num, HRB.out, ondR_up _, HWS.out.ond⟩, by simp [intOf]; omega⟩
            · have hp' : (Q.pages != 0) = true := by simpa using hp
              obtain ⟨m1, m2, m3, m4, m5, m6⟩ := HWM.out hp
              rw [m4] at n0
              rw [m5] at n1
              rw [m6] at n2
              clear m4 m5 m6
              go_upto_region 17 with fail
              clear a0 a1 a2 a3 a4 a5 n0 n1 n2 n3 n4 n5 hp' m1 m2 m3
              go_wp2_with fail
              refine Calls.mono (HRA.out.on HWS.out) ?_
              rintro e wB ⟨rfl, hrB⟩
              have HRB := Hid.mk' (HBK.out _ _ _ hrB)
              clear hrB
              go_wp2
              exact ⟨⟨k + 1, _, _, by omega, by omega, by go_num, HRB.out, ondR_up _, HWS.out.ond⟩, by simp [intOf]; omega⟩
        case neg =>
          have hq2 : (q == 1) = false := by simpa using hq1
          have HR5 := HR4
          have HSM5 := HSM
          obtain ⟨w5, hw5⟩ : ∃ w5, w5 = w4 := ⟨_, rfl⟩
          obtain ⟨s5, hs5⟩ : ∃ s5, s5 = s := ⟨_, rfl⟩
          rw [← hs5] at HR5 HSM5
          go_upto_region 11 with fail
          clear cN hq hq2
          have HTC : Hid (∀ j u, (scells T)[j]? = some u → w4.cell? ((⟨b, off + k * 74 + 2, none⟩ : Addr).add j) = some u) := fun j u hj => by
            rw [addr_add, Nat.add_assoc (off + k * 74)]
            exact HCE.out _ (HHP.out _ HR5.out.but) _ _ (HQS.out j u hj)
          have HWR := Hid.mk' (regwrite_any HR5.out HOT.out (by have := HSM5.out.cnt; omega) HSM5.out.arm)
          have HWC := Hid.mk' (wr_cases s5 S T)
          have HWM := Hid.mk' (fun h => wr_mono (s := s5) (S := S) (T := T) h)
          have HWS := Hid.mk' (wr_sm HSM5.out S T)
          generalize wrcode s5 S T = c at HWR HWC
          generalize wrheld s5 S T = Q at HWR HWC HWM
          generalize wrdev s5 S T = s6 at HWR HWS
          rw [← HNT.out] at HWR
          go_wp2_with (first
            | (refine wpList_load_cells rfl _ _ rfl ⟨b, off + k * 74 + 2, none⟩ rfl (scells T) _ HTC.out Try.underlying26 rfl HLNT.out ?_; rw [← HNT.out])
            | fail)
          refine Calls.mono HWR.out ?_
          rintro e w6 ⟨rfl, hr6⟩
          have HR6 := Hid.mk' hr6
          clear hr6 HWR HTC
          obtain ⟨NQ, hNQ⟩ : ∃ NQ, NQ = (scells Q).toArray := ⟨_, rfl⟩
          have HNQ := Hid.mk' hNQ
          have HLNQ : Hid ((Try.prog.info? 26).map (·.size) = some (scells Q).length) := by rw [scells_len HR6.out.ok]; exact iSt
          have HZLNQ : Hid ((scells Stt.zero).length = (scells Q).length) := by show _ = _; rw [scells_len HR6.out.ok]; rfl
          clear hNQ
          have HRD := Hid.mk' (regread_any HR6.out.ok HR6.out.blk)
          rw [← HNQ.out] at HRD
          go_wp2_with fail
          refine Calls.mono HRD.out ?_
          rintro e w7 ⟨rfl, hg7⟩
          have HG7 := Hid.mk' hg7
          clear hg7 HRD
          have HBV : Hid (Blk (w7.alloc (.cells Z 26)) w7.heap.size 26 (scells Stt.zero)) := by show Blk _ _ _ _; rw [HZ.out]; exact Blk.new rfl
          have hz := HZV.out
          go_upto_region 13 with (first
            | (refine wpList_store_at rfl _ _ _ rfl w7.heap.size 0 (scells Q) rfl (by show Value.agg NQ = _; rw [HNQ.out]) 26 [] (scells Stt.zero) [] (by simpa using HBV.out) rfl HZLNQ.out HLNQ.out (scells_one _) ?_; intro w8 hbv hbutv; rw [List.nil_append, List.append_nil] at hbv)
            | fail)
          have hgv : Grow w7 w8 := ((But.refl _ w7).alloc _).then hbutv (fun b hb e => by omega)
          obtain ⟨g10, hg10⟩ : ∃ g10, g10 = w7.heap.size := ⟨_, rfl⟩
          rw [← hg10] at hbv ⊢
          have HEg10 := Hid.mk' hg10
          have HVg10 := Hid.mk' hbv
          have HGg10 := Hid.mk' hgv
          clear hbv hbutv hgv hg10 HBV hz
          have HR8 := Hid.mk' (HR6.out.then (HG7.out.trans HGg10.out))
          have HV8 := Hid.mk' (HVg8.out.but HR8.out.but (fun n => n HF8.out))
          have HEQ : Hid (∀ w, (Op.equalIn 10000 26 (.agg NQ) (.agg NQ)).run Try.prog w = .ok true w) := fun w => by
            have := equalS HR6.out.ok HR6.out.ok w
            rw [same_refl] at this
            rw [HNQ.out]; exact this
          refine region_chain [] [0, 1, 2, 3, 4, 5, 6, 7, 8, 9, 10, 11, 12, 13, 14, 15, 16, 17, 18, 19] (Grow w8) (Grow w8) (by kernel_rfl) (by kernel_rfl) (fun _ _ h k => h.trans k) (fun _ h => h) ((But.refl _ w8).drew) ?_
          intro ι hne X hX
          rcases HWC.out with ⟨hc0, hQT, -⟩ | ⟨hc0, hQS⟩
          · have hc1 : (c != 0) = false := by simpa using hc0
            have hc2 : (c == 0) = true := by simpa using hc0
            subst hQT
            iterate 2 (refine still_step rfl (fun K hK => ?_); go_simp; refine hK _ ?_; clear hK K)
            refine still_step rfl (fun K hK => ?_)
            have hK' := fun (a : Act) h1 h4 => hK a (still_pass1 (a := a) 2 true 54 (.bool false) [3, 4, 5] [6, 7, 8, 9, 10, 11, 12, 13, 14, 15, 16, 17, 18, 19] [55, 56, 57] rfl rfl (fun h => by cases h) (by kernel_rfl) (by kernel_rfl) h1 h4)
            clear hK
            go_simp
            refine hK' _ (by kernel_rfl) ?_
            clear hK' K
            intro K hK
            simp only [undefL]
            go_simp
            refine hK _ ?_
            clear hK K
            iterate 5 (refine still_step rfl (fun K hK => ?_); go_simp; refine hK _ ?_; clear hK K)
            refine still_val rfl (.agg NQ) rfl (fun x => by rw [HNQ.out]; exact exec_ld Try.underlying26 rfl HLNQ.out (HVg10.out.but (hX x) (fun h => h)).cells0 rfl rfl) ?_
            intro K hK; go_simp; refine hK _ ?_; clear hK K
            iterate 4 (refine still_step rfl (fun K hK => ?_); go_simp; refine hK _ ?_; clear hK K)
            refine still_val rfl (.agg NQ) rfl (fun x => by
              rw [HNQ.out]
              exact exec_ld (ad := ⟨b, off + k * 74 + 2, none⟩) Try.underlying26 rfl HLNQ.out (fun j u hj => by
                rw [addr_add, Nat.add_assoc (off + k * 74)]
                exact HCE.out _ (HHP.out _ (HR8.out.then (hX x)).but) _ _ (HQS.out j u hj)) rfl rfl) ?_
            intro K hK; go_simp; refine hK _ ?_; clear hK K
            refine still_val rfl (.bool (!true)) rfl (fun x => exec_neA rfl rfl rfl (by kernel_rfl) (HEQ.out _)) ?_
            intro K hK; go_simp; refine hK _ ?_; clear hK K
            iterate 2 (refine still_step rfl (fun K hK => ?_); go_simp; refine hK _ ?_; clear hK K)
            refine still_nil ?_
            clear hX hne
            intro wA hwA
            have HRA := Hid.mk' (HR8.out.then hwA)
            have hva := HV8.out.but hwA (fun h => h)
            have hvn := HVg10.out.but hwA (fun h => h)
            have a0 : wA.cell? ⟨g8, 0, none⟩ = some (.int .i64 S.pages) := hva.cell 0
            have a1 : wA.cell? ⟨g8, 1, none⟩ = some (.int .i64 S.budget) := hva.cell 1
            have a2 : wA.cell? ⟨g8, 2, none⟩ = some (.bool S.wide) := hva.cell 2
            have a3 : wA.cell? ⟨g8, 3, none⟩ = some (.int .u32 S.boot) := hva.cell 3
            have a4 : wA.cell? ⟨g8, 4, none⟩ = some (.int .u64 S.version) := hva.cell 4
            have a5 : wA.cell? ⟨g8, 5, none⟩ = some (.int .u32 S.epoch) := hva.cell 5
            have n0 : wA.cell? ⟨g10, 0, none⟩ = some (.int .i64 Q.pages) := hvn.cell 0
            have n1 : wA.cell? ⟨g10, 1, none⟩ = some (.int .i64 Q.budget) := hvn.cell 1
            have n2 : wA.cell? ⟨g10, 2, none⟩ = some (.bool Q.wide) := hvn.cell 2
            have n3 : wA.cell? ⟨g10, 3, none⟩ = some (.int .u32 Q.boot) := hvn.cell 3
            have n4 : wA.cell? ⟨g10, 4, none⟩ = some (.int .u64 Q.version) := hvn.cell 4
            have n5 : wA.cell? ⟨g10, 5, none⟩ = some (.int .u32 Q.epoch) := hvn.cell 5
            clear hwA hva hvn
            by_cases hp : S.pages = 0
            · have hp' : (S.pages != 0) = false := by simpa using hp
              go_upto_region 17 with fail
              clear a0 a1 a2 a3 a4 a5 n0 n1 n2 n3 n4 n5 hp'
              go_wp2_with fail
              refine Calls.mono (HRA.out.on HWS.out) ?_
              rintro e wB ⟨rfl, hrB⟩
              have HRB := Hid.mk' (HBK.out _ _ _ hrB)
              clear hrB
              go_wp2
              exact ⟨⟨k + 1, _, _, by omega, by omega, by go_num, HRB.out, ondR_up _, HWS.out.ond⟩, by simp [intOf]; omega⟩
            · have hp' : (S.pages != 0) = true := by simpa using hp
              obtain ⟨m1, m2, m3, m4, m5, m6⟩ := HWM.out hp
              rw [m4] at n0
              rw [m5] at n1
              rw [m6] at n2
              clear m4 m5 m6
              go_upto_region 17 with fail
              clear a0 a1 a2 a3 a4 a5 n0 n1 n2 n3 n4 n5 hp' m1 m2 m3
              go_wp2_with fail
              refine Calls.mono (HRA.out.on HWS.out) ?_
              rintro e wB ⟨rfl, hrB⟩
              have HRB := Hid.mk' (HBK.out _ _ _ hrB)
              clear hrB
              go_wp2
              exact ⟨⟨k + 1, _, _, by omega, by omega, by go_num, HRB.out, ondR_up _, HWS.out.ond⟩, by simp [intOf]; omega⟩
          · have hc1 : (c != 0) = true := by simpa using hc0
            have hc2 : (c == 0) = false := by simpa using hc0
            subst hQS
            iterate 3 (refine still_step rfl (fun K hK => ?_); go_simp; refine hK _ ?_; clear hK K)
            refine still_val rfl (.agg NQ) rfl (fun x => by rw [HNQ.out]; exact exec_ld Try.underlying26 rfl HLNQ.out (HVg10.out.but (hX x) (fun h => h)).cells0 rfl rfl) ?_
            intro K hK; go_simp; refine hK _ ?_; clear hK K
            refine still_val rfl (.agg NQ) rfl (fun x => by rw [HNQ.out]; exact exec_ld Try.underlying26 rfl HLNQ.out (HV8.out.but (hX x) (fun h => h)).cells0 rfl rfl) ?_
            intro K hK; go_simp; refine hK _ ?_; clear hK K
            refine still_val rfl (.bool (!true)) rfl (fun x => exec_neA rfl rfl rfl (by kernel_rfl) (HEQ.out _)) ?_
            intro K hK; go_simp; refine hK _ ?_; clear hK K
            iterate 4 (refine still_step rfl (fun K hK => ?_); go_simp; refine hK _ ?_; clear hK K)
            refine still_step rfl (fun K hK => ?_)
            have hK' := fun (a : Act) h1 h4 => hK a (still_pass1 (a := a) 10 true 62 (.bool false) [11, 12, 13, 14, 15, 16, 17] [18, 19] [63, 64, 65, 66, 67, 68, 69] rfl rfl (fun h => by cases h) (by kernel_rfl) (by kernel_rfl) h1 h4)
            clear hK
            go_simp
            refine hK' _ (by kernel_rfl) ?_
            clear hK' K
            intro K hK
            simp only [undefL]
            go_simp
            refine hK _ ?_
            clear hK K
            iterate 2 (refine still_step rfl (fun K hK => ?_); go_simp; refine hK _ ?_; clear hK K)
            refine still_nil ?_
            clear hX hne
            intro wA hwA
            have HRA := Hid.mk' (HR8.out.then hwA)
            have hva := HV8.out.but hwA (fun h => h)
            have hvn := HVg10.out.but hwA (fun h => h)
            have a0 : wA.cell? ⟨g8, 0, none⟩ = some (.int .i64 Q.pages) := hva.cell 0
            have a1 : wA.cell? ⟨g8, 1, none⟩ = some (.int .i64 Q.budget) := hva.cell 1
            have a2 : wA.cell? ⟨g8, 2, none⟩ = some (.bool Q.wide) := hva.cell 2
            have a3 : wA.cell? ⟨g8, 3, none⟩ = some (.int .u32 Q.boot) := hva.cell 3
            have a4 : wA.cell? ⟨g8, 4, none⟩ = some (.int .u64 Q.version) := hva.cell 4
            have a5 : wA.cell? ⟨g8, 5, none⟩ = some (.int .u32 Q.epoch) := hva.cell 5
            have n0 : wA.cell? ⟨g10, 0, none⟩ = some (.int .i64 Q.pages) := hvn.cell 0
            have n1 : wA.cell? ⟨g10, 1, none⟩ = some (.int .i64 Q.budget) := hvn.cell 1
            have n2 : wA.cell? ⟨g10, 2, none⟩ = some (.bool Q.wide) := hvn.cell 2
            have n3 : wA.cell? ⟨g10, 3, none⟩ = some (.int .u32 Q.boot) := hvn.cell 3
            have n4 : wA.cell? ⟨g10, 4, none⟩ = some (.int .u64 Q.version) := hvn.cell 4
            have n5 : wA.cell? ⟨g10, 5, none⟩ = some (.int .u32 Q.epoch) := hvn.cell 5
            clear hwA hva hvn
            by_cases hp : Q.pages = 0
            · have hp' : (Q.pages != 0) = false := by simpa using hp
              go_upto_region 17 with fail
              clear a0 a1 a2 a3 a4 a5 n0 n1 n2 n3 n4 n5 hp'
              go_wp2_with fail
              refine Calls.mono (HRA.out.on HWS.out) ?_
              rintro e wB ⟨rfl, hrB⟩
              have HRB := Hid.mk' (HBK.out _ _ _ hrB)
              clear hrB
              go_wp2
              exact ⟨⟨k + 1, _, _, by omega, by omega, by go_num, HRB.out, ondR_up _, HWS.out.ond⟩, by simp [intOf]; omega⟩
            · have hp' : (Q.pages != 0) = true := by simpa using hp
              obtain ⟨m1, m2, m3, m4, m5, m6⟩ := HWM.out hp
              rw [m4] at n0
              rw [m5] at n1
              rw [m6] at n2
              clear m4 m5 m6
              go_upto_region 17 with fail
              clear a0 a1 a2 a3 a4 a5 n0 n1 n2 n3 n4 n5 hp' m1 m2 m3
              go_wp2_with fail
              refine Calls.mono (HRA.out.on HWS.out) ?_
              rintro e wB ⟨rfl, hrB⟩
              have HRB := Hid.mk' (HBK.out _ _ _ hrB)
              clear hrB
              go_wp2
              exact ⟨⟨k + 1, _, _, by omega, by omega, by go_num, HRB.out, ondR_up _, HWS.out.ond⟩, by simp [intOf]; omega⟩
      · have hlt' : (k : Int) < (n : Int) := by omega
        have h300' : ¬ ((k : Int) < 300) := by omega
        go_wp2_with fail
        refine Calls.mono (awake_any wr) ?_
        rintro e w9 ⟨rfl, hg9⟩
        have HE := Hid.mk' ((HRR.out.then hg9).but.below (Nat.le_refl _) (fun b hb n => n hb))
        clear hg9
        go_wp2
        go_ret
        exact ⟨rfl, HE.out⟩
    · have hlt' : ¬ ((k : Int) < (n : Int)) := by omega
      go_wp2_with fail
      refine Calls.mono (awake_any wr) ?_
      rintro e w9 ⟨rfl, hg9⟩
      have HE := Hid.mk' ((HRR.out.then hg9).but.below (Nat.le_refl _) (fun b hb n => n hb))
      clear hg9
      go_wp2
      go_ret
      exact ⟨rfl, HE.out⟩

set_option maxRecDepth 100000 in
theorem regRises_lifted (os : Os) (started : os.Started) (H : Type) (enc : TypeId × Value → H) :
    ReturnsInHanded {} Try.checked os 6 .any (Rows.regRisesSpec.pre6 enc Try.prog Try.f6 Rows.regRisesRow.domain false) (Rows.regRisesSpec.post enc Try.prog Try.f6 false true false false) := by
  refine returnsInHanded_of_change_sized (C := Try.checked) (by kernel_rfl) started (by kernel_rfl) Try.func6
    (ChangeSpec.witness6 (enc := enc) (C := Try.checked) false ⟨#[], #[.slice none 0 0], []⟩ 8 (by kernel_rfl) (by kernel_rfl) (by kernel_rfl) (by kernel_rfl)) ?_
  intro W base args ds gs before hval0 hW hcnd hsz0 _
  have hsz : (DataW.weightsEach Try.prog (Try.f6.params.toList ++ Rows.regRisesSpec.plain.varTypes Try.prog) (ds ++ gs)).all (· ≤ reachBytes) = true := hsz0
  clear hsz0
  have hval : ∀ (j : Nat) t v, Try.f6.params[j]? = some t → args[j]? = some v → Value.okWide Try.prog W .any base t v := hval0
  have hW' := hW
  obtain ⟨p, q, hA0, hV, rfl, hfz, hnd⟩ := hW
  have hA : DataW.TrodAll enc Try.prog W 0 (fun _ => true) true Try.f6.params.toList args.toList ds p := hA0
  rw [Try.params6] at hA hval hsz
  obtain ⟨v0, vs0, d0, ds0, p0, q0, hargs, rfl, rfl, h0, r0⟩ := trodAll_cons hA
  obtain ⟨rfl, rfl, rfl⟩ := trodAll_nil r0
  obtain rfl : args = #[v0] := by cases args; simp_all
  obtain ⟨rfl, rfl⟩ := trodVars_none hV
  have lt0 : ∀ x ∈ p0, x.block < W.heap.size := by obtain ⟨m, hm⟩ := h0; exact DataW.trod_lt m _ _ _ hm
  obtain ⟨n0, z0, w0⟩ := view_racts (hval 0 31 v0 rfl rfl) h0 lt0 hsz (j := 0) rfl rfl
  clear hA0 hval0
  refine (regRises_walk v0 n0 z0 W w0).mono fun e W' ⟨he, bel⟩ => ?_
  subst he
  exact ⟨_, rfl, _, _, _, [], _, [], hW', trodAll_mk1 (shut_bool Try.underlying4 _), (trodAll_cons_mk (Below.trod (by kernel_rfl) (by kernel_rfl) (of_decide_eq_true (by kernel_rfl)) h0 bel lt0) trodAll_mk0), rfl, bel.frame _, fun h => by cases h⟩

theorem regRises_holds : Rows.RegRisesSaid :=
  OpenClaim.holds_of_wide 6 Try.f6 rfl rfl rfl rfl rfl rfl rfl ⟨rfl, rfl, rfl, rfl, rfl⟩ rfl rfl rfl rfl rfl (by kernel_rfl) Try.func6 (by kernel_rfl)
    (of_decide_eq_true (by kernel_rfl)) (by unfold Func.isWrapper; first | (rw [if_pos (by decide +kernel)]; kernel_rfl) | (rw [if_neg (by decide +kernel)]; exact ⟨rfl, rfl⟩))
    (fun os started H enc _ => regRises_lifted os started H enc)
#print axioms regRises_holds
end Go.Proofs.Ytcikldklacgafaa
