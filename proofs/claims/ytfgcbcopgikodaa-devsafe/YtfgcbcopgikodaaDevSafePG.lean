/- DevSafe: the walk. -/
import Derived.Test.YtfgcbcopgikodaaDvWasG
import Derived.ProofKit
import Derived.OpenShut
import Derived.ChangeOld
import Derived.Below
namespace Go.Proofs.Ytfgcbcopgikodaa
open Go.ChangeShapes Go.WideShapes Go.ChangeAt Go.RowKit

set_option maxRecDepth 100000 in
set_option maxHeartbeats 8000000 in
theorem devSafe_walk (a0 : Int) (v1 : Value) (n : Nat) (A : Nat → DA) (v2 : Value) (fs : List Int) (w : World) (_ : (Lit.int .i64 a0).wf = true) (h1 : DActs w v1 n A) (hf2 : IntS w v2 fs) :
    Calls Try.prog 4 #[.int .i64 a0, v1, v2] w fun e w' => e = .returned (.bool true) ∧ Below w.heap.size w w' := by
  have H1 := Hid.mk' h1
  have HF2 := Hid.mk' hf2
  have HGT := Hid.mk' (dgreat_any h1)
  obtain ⟨ao, cap, rfl⟩ := h1.sl
  obtain ⟨af, cf, e0⟩ := hf2.len
  obtain ⟨nf, hnf⟩ : ∃ nf, nf = fs.length := ⟨_, rfl⟩
  rw [← hnf] at e0
  subst e0
  clear h1 hf2 hnf
  go_enter Try.func4, Try.ntmps4
  go_wp2_with fail
  refine Calls.mono HGT.out ?_
  rintro e w1 ⟨b, rfl, htold⟩
  have h2 := htold.same.symm
  subst h2
  have HSM := Hid.mk' htold.small
  clear htold HGT
  cases b
  case true =>
    go_wp2_with fail
    refine Calls.mono (awake_any w) ?_
    rintro e w1 ⟨rfl, hgq⟩
    have HGQ := Hid.mk' hgq
    clear hgq
    go_wp2
    go_ret
    exact ⟨rfl, HGQ.out.below (Nat.le_refl _) (fun _ _ h => h)⟩
  by_cases hfl : 1000 < nf
  · have hfl' : (1000 : Int) < (nf : Int) := by omega
    go_wp2_with fail
    refine Calls.mono (awake_any w) ?_
    rintro e w1 ⟨rfl, hgq⟩
    have HGQ := Hid.mk' hgq
    clear hgq
    go_wp2
    go_ret
    exact ⟨rfl, HGQ.out.below (Nat.le_refl _) (fun _ _ h => h)⟩
  have hfl' : ¬ ((1000 : Int) < (nf : Int)) := by omega
  obtain ⟨q, hq⟩ : ∃ q, q = a0 % 20 := ⟨_, rfl⟩
  have hq0 : 0 ≤ q := by rw [hq]; exact Int.emod_nonneg a0 (by decide)
  have hq1 : q < 20 := by rw [hq]; exact Int.emod_lt_of_pos a0 (by decide)
  have HPK := Hid.mk' (pick20 a0 w)
  rw [← hq] at HPK
  have HBG : Hid (Calls Try.prog 9 #[.int .i64 (1 + q)] w (BegIs w (1 + q.toNat))) := by
    have e : (1 + q : Int) = ((1 + q.toNat : Nat) : Int) := by omega
    rw [e]
    exact begun_any w (by omega) (by omega)
  obtain ⟨N, hN⟩ : ∃ N, N = 1 + q.toNat := ⟨_, rfl⟩
  have HN : Hid (1 ≤ N ∧ N ≤ 20) := by show _ ∧ _; omega
  rw [← hN] at HBG
  clear hq hN
  go_wp2_with fail
  refine Calls.mono HPK.out ?_
  rintro e w1 ⟨rfl, hw1⟩
  have h2 := hw1.symm
  subst h2
  clear hw1 HPK
  go_wp2_with fail
  refine Calls.mono HBG.out ?_
  rintro e w2 ⟨gd, gx, rfl, htw⟩
  have HTW := Hid.mk' htw
  have HBZ : Hid (Blk (w2.alloc (.cells #[.pointer none, .pointer none] 28)) w2.heap.size 28 [.pointer none, .pointer none]) := Blk.new (L := [.pointer none, .pointer none]) rfl
  have hz := zPair
  clear htw HBG
  go_wp2_with (first
    | (refine wpList_store_at rfl _ _ _ rfl w2.heap.size 0 [.pointer (some ⟨gd, 0, none⟩), .pointer (some ⟨gx, 0, none⟩)] rfl rfl 28 [] [.pointer none, .pointer none] [] (by simpa using HBZ.out) rfl rfl iPair (fun u hu => by
        rcases List.mem_cons.1 hu with rfl | hu
        · rfl
        · rw [show u = .pointer (some ⟨gx, 0, none⟩) by simpa using hu]; rfl) ?_; intro w3 hb3 hbut3; rw [List.nil_append, List.append_nil] at hb3)
    | fail)
  have hg3 : Grow w2 w3 := ((But.refl _ w2).alloc _).then hbut3 (fun b hb e => by omega)
  obtain ⟨F, hlaw⟩ := HTW.out.law hg3 hb3
  obtain ⟨gp, hgp⟩ : ∃ gp, gp = w2.heap.size := ⟨_, rfl⟩
  rw [← hgp] at hlaw ⊢
  have HLAW := Hid.mk' hlaw
  clear hz hb3 hbut3 hg3 hlaw hgp HTW HBZ hq0 hq1
  obtain ⟨s0, hs0⟩ : ∃ s0, s0 = Dev.fresh N := ⟨_, rfl⟩
  rw [← hs0] at HLAW
  clear hs0 HN
  go_wp2
  go_loopw [8] (fun iv wr => ∃ k : Nat, k ≤ n ∧ k ≤ 200 ∧ iv = .int .i64 (k : Int) ∧ Law w w3 wr gp gd gx F s0 k) (fun iv _ => n - (intOf iv).toNat)
  case atStart => exact ⟨0, Nat.zero_le _, by decide, rfl, HLAW.out⟩
  case round =>
    clear HLAW
    obtain ⟨k, hkn, hk2, rfl, hlaw⟩ := hrel
    have HL := Hid.mk' hlaw
    clear hlaw
    by_cases hlt : k < n
    · by_cases h200 : k < 200
      · have hlt' : (k : Int) < (n : Int) := by omega
        have h200' : (k : Int) < 200 := by omega
        obtain ⟨b, off, cap', ud, uf, e1, hbw, hcell, hra, hrb, hdat, hfat⟩ := H1.out.at hlt
        simp only [Value.slice.injEq] at e1
        obtain ⟨rfl, -, rfl⟩ := e1
        have HCE := Hid.mk' hcell
        have HBW := Hid.mk' hbw
        have HDO : Hid (∀ w', Grow wr w' → Calls Try.prog 11 #[.agg #[.pointer (some ⟨gd, 0, none⟩), .pointer (some ⟨gx, 0, none⟩)], .agg (dcells (A k) ud uf).toArray] w' (DoIs F w3 gd gx s0 (k + 1))) := fun w' g => do_any (HL.out.inn (by omega) hra hrb hdat hfat (HSM.out (by first | rfl | trivial) k hlt h200) g)
        clear hcell hbw hra hrb hdat hfat
        go_upto_region 7 with fail
        refine region_chain [([0, 1, 2, 3, 4], 5)] [] (But (fun b => ¬ F b) w3) (Grow wr) (by kernel_rfl) (by kernel_rfl) (fun _ _ h k => h.trans k) (fun _ h => (HL.out.st.then h).but) ((But.refl _ wr).drew) ?_
        intro ι hne X hX
        refine still_val rfl (.agg #[.pointer (some ⟨gd, 0, none⟩), .pointer (some ⟨gx, 0, none⟩)]) rfl (fun x => exec_load_agg Try.underlying28 rfl (cs := [.pointer (some ⟨gd, 0, none⟩), .pointer (some ⟨gx, 0, none⟩)]) iPair (HL.out.p (hX x)).cells0 rfl rfl) ?_
        intro K hK; go_simp; refine hK _ ?_; clear hK K
        iterate 3 (refine still_step rfl (fun K hK => ?_); go_simp; refine hK _ ?_; clear hK K)
        refine still_val rfl (.agg (dcells (A k) ud uf).toArray) rfl (fun x => exec_load_agg Try.underlying35 rfl iAct (HCE.out _ (HL.out.heap (hX x) HBW.out)) rfl rfl) ?_
        intro K hK; go_simp; refine hK _ ?_; clear hK K
        refine still_nil ?_
        clear hX hne
        refine turn_call rfl rfl (fun v w' => v = .bool true ∧ DoTo F w3 w' gd gx s0 (k + 1)) (fun _ w' => DoTo F w3 w' gd gx s0 (k + 1)) (fun _ _ _ h k => ⟨h.1, h.2.then k⟩) (fun _ _ h => h.2) (.inr (fun _ _ h => h.but)) 11 #[.agg #[.pointer (some ⟨gd, 0, none⟩), .pointer (some ⟨gx, 0, none⟩)], .agg (dcells (A k) ud uf).toArray] (fun _ => by kernel_rfl) ?_ ?_
        · intro w5 h5
          refine Calls.mono (HDO.out _ h5) ?_
          rintro e w6 ⟨rfl, h6⟩
          exact ⟨_, rfl, rfl, h6⟩
        rintro v ⟨wq, rfl, -⟩ Y hY
        clear wq
        go_simp
        refine hY _ ?_
        clear hY Y
        intro ι hne X hX
        refine still_nil ?_
        clear hX hne
        rintro w5 ⟨-, h5⟩
        have HL5 := Hid.mk' (HL.out.on h5)
        clear h5 HDO HCE HL
        go_wp2
        exact ⟨⟨k + 1, by omega, by omega, by go_num, HL5.out⟩, by simp [intOf]; omega⟩
      · have hlt' : (k : Int) < (n : Int) := by omega
        have h200' : ¬ ((k : Int) < 200) := by omega
        obtain ⟨s, x, ht, -, hb, -⟩ := HL.out.st.ex
        have HLP : Hid (∀ w', But (fun b => ¬ F b) w3 w' → Blk w' gp 28 [.pointer (some ⟨gd, 0, none⟩), .pointer (some ⟨gx, 0, none⟩)]) := fun w' b => HL.out.p b
        have HBE : Hid (∀ w', But (fun b => ¬ F b) w3 w' → Below w.heap.size w w') := fun w' b => HL.out.below b
        have HFW := Hid.mk' HL.out.fw
        have HGR0 := Hid.mk' HL.out.gr
        have p0 : wr.cell? ⟨gp, 0, none⟩ = some (.pointer (some ⟨gd, 0, none⟩)) := HL.out.pw.cell 0
        have HON := Hid.mk' (don_all ht (nil_intf _ _) hb (by omega))
        have HU1 := Hid.mk' (ond_up s [])
        have HS1 := Hid.mk' (keeps_ond hb hb.xarm []).1
        generalize Dev.ond s [] = s1 at HON HU1 HS1
        clear ht hb HL
        go_wp2_with fail
        refine Calls.mono HON.out ?_
        rintro e w4 ⟨rfl, ht4⟩
        have HT4 := Hid.mk' ht4
        clear ht4 p0 HON
        have p0 : w4.cell? ⟨gp, 0, none⟩ = some (.pointer (some ⟨gd, 0, none⟩)) := (HLP.out _ HT4.out.but).cell 0
        have HAR := Hid.mk' (darm_all HT4.out 0)
        have HS2 := Hid.mk' (keeps_arm HS1.out HS1.out.xarm 0 (by decide)).1
        have HU2 : Hid (({ s1 with arm := (0 : Int).toNat } : Dev).up = true ∧ ({ s1 with arm := (0 : Int).toNat } : Dev).arm = 0) := ⟨HU1.out, rfl⟩
        generalize ({ s1 with arm := (0 : Int).toNat } : Dev) = s2 at HAR HS2 HU2
        go_wp2_with fail
        refine Calls.mono HAR.out ?_
        rintro e w5 ⟨rfl, ht5⟩
        have HT5 := Hid.mk' ht5
        clear ht5 p0 HAR HT4 HS1 HU1
        have p0 : w5.cell? ⟨gp, 0, none⟩ = some (.pointer (some ⟨gd, 0, none⟩)) := (HLP.out _ HT5.out.but).cell 0
        have HFL := Hid.mk' (dflush_all HT5.out HS2.out (by omega))
        have HS3 := Hid.mk' (keeps_flu HS2.out HS2.out.xarm).1
        have hsf := safe_flush HU2.out.1 HU2.out.2
        rw [hsf.1] at HFL
        have HU3 := Hid.mk' hsf.2.1
        have HW3 := Hid.mk' hsf.2.2
        generalize s2.flu = s3 at HFL HS3 HU3 HW3
        clear hsf
        go_wp2_with fail
        refine Calls.mono HFL.out ?_
        rintro e w6 ⟨rfl, ht6⟩
        have HT6 := Hid.mk' ht6
        obtain ⟨ns, hns⟩ : ∃ ns, ns = s3.st.length := ⟨_, rfl⟩
        have HNS := Hid.mk' hns
        have HNB : Hid (ns ≤ 65536) := by rw [hns]; exact ht6.ok.nb
        have hnsb : (ns : Int) ≤ 65536 := by have := HNB.out; omega
        clear ht6 p0 HFL HT5 HS2 HU2 hns
        go_wp2
        go_loopw [9, 10] (fun tv iv wr => ∃ (i : Nat) (v : Value) (M : List SbE), i ≤ ns ∧ iv = .int .i64 (i : Int) ∧ v = tv ∧ WasI w6 s3.now i v M wr) (fun _ iv _ => ns - (intOf iv).toNat)
        case atStart => exact ⟨0, .slice none 0 0, [], Nat.zero_le _, rfl, rfl, WasI.zero _ _⟩
        case round =>
          rename_i tv
          obtain ⟨i, v, M, hin, rfl, rfl, hI⟩ := hrel
          have HI := Hid.mk' hI
          have HTI := Hid.mk' (HT6.out.then hI.grow)
          have p0 : wr.cell? ⟨gp, 0, none⟩ = some (.pointer (some ⟨gd, 0, none⟩)) := (HLP.out _ HTI.out.but).cell 0
          have HBLK : Hid (Calls Try.prog 18 #[.pointer (some ⟨gd, 0, none⟩)] wr fun e w' => e = .returned (.int .i64 (ns : Int)) ∧ w' = wr) := by
            obtain ⟨own, hd, -, -⟩ := HTI.out.dev
            rw [HNS.out]
            exact blocks_any hd
          clear hI
          by_cases hlti : i < ns
          · have hlti' : (i : Int) < (ns : Int) := by omega
            have HRD := Hid.mk' (dread_all HTI.out (i : Int))
            rw [(up_codes HU3.out (by rw [← HNS.out]; exact hlti)).1, (up_codes HU3.out (by rw [← HNS.out]; exact hlti)).2] at HRD
            have HWF : Hid (wf256 (s3.now i)) := HTI.out.ok.now (by rw [← HNS.out]; exact hlti)
            go_wp2_with fail
            refine Calls.mono HBLK.out ?_
            rintro e wq ⟨rfl, hwq⟩
            have h2 := hwq.symm
            subst h2
            clear hwq HBLK
            go_wp2_with fail
            refine Calls.mono HRD.out ?_
            rintro e w1 ⟨u, rfl, hu, hg⟩
            obtain ⟨ua, un, uc, rfl⟩ := hu.bs.sl
            have HU := Hid.mk' hu
            have HG := Hid.mk' hg
            have HML := Hid.mk' HI.out.len
            have HR1 := Hid.mk' (ownsRow_grow HI.out.row hg)
            have HAL : Hid (Grow w1 (w1.alloc (.cells #[.slice ua un uc] 32))) := (But.refl _ w1).alloc _
            have HBL : Hid (Blk (w1.alloc (.cells #[.slice ua un uc] 32)) w1.heap.size 32 [.slice ua un uc]) := Blk.new (L := [.slice ua un uc]) rfl
            clear hu hg p0 HRD
            go_wp2_with (first
              | (refine wpList_run rfl (exec_row1 Try.underlying39 infS (by decide) (by decide) rfl rfl rfl) ?_)
              | (refine wpList_some rfl (exec_append (v := v) (n := M.length) (xs := M.map (·.1)) (news := [.slice ua un uc]) Try.underlying39 infS rfl (by decide) rfl rfl (ownsRow_grow HR1.out HAL.out) rfl rfl (fun j u hj => HBL.out.cells0 j u hj) (fun u hu => by rw [show u = .slice ua un uc by simpa using hu]; rfl) (by have := HML.out; have := HNB.out; omega) (by decide)) ?_; intro v4 w4 hap)
              | fail)
            exact ⟨⟨i + 1, v4, _, by omega, by go_num, rfl, HI.out.next HU.out (by rw [HWF.out.1]; decide) HG.out hap⟩, by simp [intOf]; omega⟩
          · have hlti' : ¬ ((i : Int) < (ns : Int)) := by omega
            obtain rfl : ns = i := by omega
            go_wp2_with fail
            refine Calls.mono HBLK.out ?_
            rintro e wq ⟨rfl, hwq⟩
            have h2 := hwq.symm
            subst h2
            clear hwq HBLK p0
            obtain ⟨w7, rfl⟩ : ∃ w7, w7 = wr := ⟨_, rfl⟩
            obtain ⟨av, cv, hvs⟩ := ownsRow_sl HI.out.row
            rw [HI.out.len] at hvs
            subst hvs
            have HT7 := Hid.mk' (HT6.out.add HI.out.grow)
            have HIF : Hid (∀ b, w6.heap.size ≤ b → b < w7.heap.size → (fun b => F b ∨ (w6.heap.size ≤ b ∧ b < w7.heap.size)) b) := fun b h1 h2 => .inr ⟨h1, h2⟩
            have HI3 : Hid (But (fun b => ¬ F b) w3 w7) := HTI.out.but
            have HFF : Hid (∀ b, F b → (fun b => F b ∨ (w6.heap.size ≤ b ∧ b < w7.heap.size)) b) := fun b h => .inl h
            clear HTI
            generalize (fun b => F b ∨ (w6.heap.size ≤ b ∧ b < w7.heap.size)) = F2 at HT7 HIF HFF
            have HQ2 : Hid (∀ w', But (fun b => ¬ F2 b) w7 w' → But (fun b => ¬ F b) w3 w') := fun w' k => HI3.out.then k (fun b _ hn hf => hn (HFF.out b hf))
            have p0 : w7.cell? ⟨gp, 0, none⟩ = some (.pointer (some ⟨gd, 0, none⟩)) := (HLP.out _ (HQ2.out _ HT7.out.but)).cell 0
            go_wp2_with fail
            refine Calls.mono (dcrash_all HT7.out) ?_
            rintro e w8 ⟨rfl, ht8⟩
            have HT8 := Hid.mk' ht8
            clear ht8 p0
            have p0 : w8.cell? ⟨gp, 0, none⟩ = some (.pointer (some ⟨gd, 0, none⟩)) := (HLP.out _ (HQ2.out _ HT8.out.but)).cell 0
            have HS8 := Hid.mk' (keeps_crash HS3.out HS3.out.xarm).1
            have HF8 : Hid (IntF w8 F2 (.slice af nf cf) fs) := by
              have h5 : But (fun b => ¬ F b) w w8 := (HGR0.out.mono (fun _ _ h => h.elim)).trans (HQ2.out _ HT8.out.but)
              have h6 := HF2.out.f.but h5 (fun b hb n => n (HFW.out b hb))
              exact ⟨h6.1, fun h0 b hb => HFF.out b (HFW.out b (h6.2 h0 b hb))⟩
            have HON := Hid.mk' (don_all HT8.out HF8.out HS8.out (by omega))
            have HON9 : Hid _ := on_none (s := { s3 with arm := 0, up := false }) (show s3.wt = [] from HW3.out) fs
            have HUP9 := Hid.mk' (ond_up { s3 with arm := 0, up := false } fs)
            have HS9 := Hid.mk' (keeps_ond HS8.out HS8.out.xarm fs).1
            generalize hs9 : Dev.ond { s3 with arm := 0, up := false } fs = s9 at HON HON9 HUP9 HS9
            have HNW : Hid (∀ i, s9.now i = s3.now i) := fun i => by
              rw [now_flat HON9.out.2, now_flat HW3.out, HON9.out.1]
            have HNS5 : Hid (ns = s9.st.length) := by rw [HON9.out.1]; exact HNS.out
            clear HS8 hs9
            go_wp2_with fail
            refine Calls.mono HON.out ?_
            rintro e w9 ⟨rfl, ht9⟩
            have HT9 := Hid.mk' ht9
            clear ht9 p0 HON HF8 HT8
            go_wp2
            go_loopw [13] (fun iv wr => ∃ j : Nat, j ≤ ns ∧ iv = .int .i64 (j : Int) ∧ Grow w9 wr) (fun iv _ => ns - (intOf iv).toNat)
            case atStart => exact ⟨0, Nat.zero_le _, rfl, But.refl _ _⟩
            case round =>
              obtain ⟨j, hjn, rfl, hgr⟩ := hrel
              have HGR := Hid.mk' hgr
              have HTJ := Hid.mk' (HT9.out.then hgr)
              clear hgr
              by_cases hltj : j < ns
              · have hltj' : (j : Int) < (ns : Int) := by omega
                obtain ⟨gv, cv', uj, ev, cuj, hbj⟩ := HI.out.at HIF.out HTJ.out.but hltj
                simp only [Value.slice.injEq] at ev
                obtain ⟨rfl, -, rfl⟩ := ev
                have HCUJ := Hid.mk' cuj
                have HBJ := Hid.mk' hbj
                have p0 : wr.cell? ⟨gp, 0, none⟩ = some (.pointer (some ⟨gd, 0, none⟩)) := (HLP.out _ (HQ2.out _ HTJ.out.but)).cell 0
                have HRD := Hid.mk' (dread_all HTJ.out (j : Int))
                rw [(up_codes HUP9.out (by rw [← HNS5.out]; exact hltj)).1, (up_codes HUP9.out (by rw [← HNS5.out]; exact hltj)).2, HNW.out] at HRD
                clear cuj hbj
                go_wp2_with fail
                refine Calls.mono HRD.out ?_
                rintro e w1 ⟨u, rfl, hu, hg⟩
                obtain ⟨ua, un, uc, rfl⟩ := hu.bs.sl
                obtain ⟨ta, tn, tc, rfl⟩ := HBJ.out.sl
                have HSA := Hid.mk' (same_any hu.bs (HBJ.out.but hg (fun _ _ _ h => h)))
                rw [decide_eq_true rfl] at HSA
                have cuj : w1.cell? ⟨gv, j, none⟩ = some (.slice ta tn tc) := grow_cell hg HCUJ.out
                have HG1 : Hid (Grow w9 w1) := HGR.out.trans hg
                clear hu hg p0 HRD HBJ HCUJ
                go_wp2_with fail
                refine Calls.mono HSA.out ?_
                rintro e w2' ⟨rfl, hd2⟩
                have HG2 : Hid (Grow w9 w2') := by obtain ⟨d, rfl⟩ := hd2; exact HG1.out.drewN
                clear hd2 cuj HSA
                go_wp2
                exact ⟨⟨j + 1, by omega, by go_num, HG2.out⟩, by simp [intOf]; omega⟩
              · have hltj' : ¬ ((j : Int) < (ns : Int)) := by omega
                have p0 : wr.cell? ⟨gp, 0, none⟩ = some (.pointer (some ⟨gd, 0, none⟩)) := (HLP.out _ (HQ2.out _ HTJ.out.but)).cell 0
                have HWT : Hid (Calls Try.prog 22 #[.pointer (some ⟨gd, 0, none⟩)] wr fun e w' => e = .returned (.int .i64 0) ∧ Grow wr w') := by
                  obtain ⟨own, hd, -, -⟩ := HTJ.out.dev
                  have h9 := waits_any hd (by have := HS9.out.wr; omega)
                  rw [HON9.out.2] at h9
                  exact h9
                go_wp2_with fail
                refine Calls.mono HWT.out ?_
                rintro e wA ⟨rfl, hgA⟩
                have HGA := Hid.mk' hgA
                clear hgA p0 HWT
                go_wp2_with fail
                refine Calls.mono (awake_any wA) ?_
                rintro e wB ⟨rfl, hgB⟩
                have HB := Hid.mk' (HBE.out _ (HQ2.out _ ((HTJ.out.then HGA.out).then hgB).but))
                clear hgB
                go_wp2
                go_ret
                exact ⟨rfl, HB.out⟩
    · have hlt' : ¬ ((k : Int) < (n : Int)) := by omega
      obtain ⟨s, x, ht, -, hb, -⟩ := HL.out.st.ex
      have HLP : Hid (∀ w', But (fun b => ¬ F b) w3 w' → Blk w' gp 28 [.pointer (some ⟨gd, 0, none⟩), .pointer (some ⟨gx, 0, none⟩)]) := fun w' b => HL.out.p b
      have HBE : Hid (∀ w', But (fun b => ¬ F b) w3 w' → Below w.heap.size w w') := fun w' b => HL.out.below b
      have HFW := Hid.mk' HL.out.fw
      have HGR0 := Hid.mk' HL.out.gr
      have p0 : wr.cell? ⟨gp, 0, none⟩ = some (.pointer (some ⟨gd, 0, none⟩)) := HL.out.pw.cell 0
      have HON := Hid.mk' (don_all ht (nil_intf _ _) hb (by omega))
      have HU1 := Hid.mk' (ond_up s [])
      have HS1 := Hid.mk' (keeps_ond hb hb.xarm []).1
      generalize Dev.ond s [] = s1 at HON HU1 HS1
      clear ht hb HL
      go_wp2_with fail
      refine Calls.mono HON.out ?_
      rintro e w4 ⟨rfl, ht4⟩
      have HT4 := Hid.mk' ht4
      clear ht4 p0 HON
      have p0 : w4.cell? ⟨gp, 0, none⟩ = some (.pointer (some ⟨gd, 0, none⟩)) := (HLP.out _ HT4.out.but).cell 0
      have HAR := Hid.mk' (darm_all HT4.out 0)
      have HS2 := Hid.mk' (keeps_arm HS1.out HS1.out.xarm 0 (by decide)).1
      have HU2 : Hid (({ s1 with arm := (0 : Int).toNat } : Dev).up = true ∧ ({ s1 with arm := (0 : Int).toNat } : Dev).arm = 0) := ⟨HU1.out, rfl⟩
      generalize ({ s1 with arm := (0 : Int).toNat } : Dev) = s2 at HAR HS2 HU2
      go_wp2_with fail
      refine Calls.mono HAR.out ?_
      rintro e w5 ⟨rfl, ht5⟩
      have HT5 := Hid.mk' ht5
      clear ht5 p0 HAR HT4 HS1 HU1
      have p0 : w5.cell? ⟨gp, 0, none⟩ = some (.pointer (some ⟨gd, 0, none⟩)) := (HLP.out _ HT5.out.but).cell 0
      have HFL := Hid.mk' (dflush_all HT5.out HS2.out (by omega))
      have HS3 := Hid.mk' (keeps_flu HS2.out HS2.out.xarm).1
      have hsf := safe_flush HU2.out.1 HU2.out.2
      rw [hsf.1] at HFL
      have HU3 := Hid.mk' hsf.2.1
      have HW3 := Hid.mk' hsf.2.2
      generalize s2.flu = s3 at HFL HS3 HU3 HW3
      clear hsf
      go_wp2_with fail
      refine Calls.mono HFL.out ?_
      rintro e w6 ⟨rfl, ht6⟩
      have HT6 := Hid.mk' ht6
      obtain ⟨ns, hns⟩ : ∃ ns, ns = s3.st.length := ⟨_, rfl⟩
      have HNS := Hid.mk' hns
      have HNB : Hid (ns ≤ 65536) := by rw [hns]; exact ht6.ok.nb
      have hnsb : (ns : Int) ≤ 65536 := by have := HNB.out; omega
      clear ht6 p0 HFL HT5 HS2 HU2 hns
      go_wp2
      go_loopw [9, 10] (fun tv iv wr => ∃ (i : Nat) (v : Value) (M : List SbE), i ≤ ns ∧ iv = .int .i64 (i : Int) ∧ v = tv ∧ WasI w6 s3.now i v M wr) (fun _ iv _ => ns - (intOf iv).toNat)
      case atStart => exact ⟨0, .slice none 0 0, [], Nat.zero_le _, rfl, rfl, WasI.zero _ _⟩
      case round =>
        rename_i tv
        obtain ⟨i, v, M, hin, rfl, rfl, hI⟩ := hrel
        have HI := Hid.mk' hI
        have HTI := Hid.mk' (HT6.out.then hI.grow)
        have p0 : wr.cell? ⟨gp, 0, none⟩ = some (.pointer (some ⟨gd, 0, none⟩)) := (HLP.out _ HTI.out.but).cell 0
        have HBLK : Hid (Calls Try.prog 18 #[.pointer (some ⟨gd, 0, none⟩)] wr fun e w' => e = .returned (.int .i64 (ns : Int)) ∧ w' = wr) := by
          obtain ⟨own, hd, -, -⟩ := HTI.out.dev
          rw [HNS.out]
          exact blocks_any hd
        clear hI
        by_cases hlti : i < ns
        · have hlti' : (i : Int) < (ns : Int) := by omega
          have HRD := Hid.mk' (dread_all HTI.out (i : Int))
          rw [(up_codes HU3.out (by rw [← HNS.out]; exact hlti)).1, (up_codes HU3.out (by rw [← HNS.out]; exact hlti)).2] at HRD
          have HWF : Hid (wf256 (s3.now i)) := HTI.out.ok.now (by rw [← HNS.out]; exact hlti)
          go_wp2_with fail
          refine Calls.mono HBLK.out ?_
          rintro e wq ⟨rfl, hwq⟩
          have h2 := hwq.symm
          subst h2
          clear hwq HBLK
          go_wp2_with fail
          refine Calls.mono HRD.out ?_
          rintro e w1 ⟨u, rfl, hu, hg⟩
          obtain ⟨ua, un, uc, rfl⟩ := hu.bs.sl
          have HU := Hid.mk' hu
          have HG := Hid.mk' hg
          have HML := Hid.mk' HI.out.len
          have HR1 := Hid.mk' (ownsRow_grow HI.out.row hg)
          have HAL : Hid (Grow w1 (w1.alloc (.cells #[.slice ua un uc] 32))) := (But.refl _ w1).alloc _
          have HBL : Hid (Blk (w1.alloc (.cells #[.slice ua un uc] 32)) w1.heap.size 32 [.slice ua un uc]) := Blk.new (L := [.slice ua un uc]) rfl
          clear hu hg p0 HRD
          go_wp2_with (first
            | (refine wpList_run rfl (exec_row1 Try.underlying39 infS (by decide) (by decide) rfl rfl rfl) ?_)
            | (refine wpList_some rfl (exec_append (v := v) (n := M.length) (xs := M.map (·.1)) (news := [.slice ua un uc]) Try.underlying39 infS rfl (by decide) rfl rfl (ownsRow_grow HR1.out HAL.out) rfl rfl (fun j u hj => HBL.out.cells0 j u hj) (fun u hu => by rw [show u = .slice ua un uc by simpa using hu]; rfl) (by have := HML.out; have := HNB.out; omega) (by decide)) ?_; intro v4 w4 hap)
            | fail)
          exact ⟨⟨i + 1, v4, _, by omega, by go_num, rfl, HI.out.next HU.out (by rw [HWF.out.1]; decide) HG.out hap⟩, by simp [intOf]; omega⟩
        · have hlti' : ¬ ((i : Int) < (ns : Int)) := by omega
          obtain rfl : ns = i := by omega
          go_wp2_with fail
          refine Calls.mono HBLK.out ?_
          rintro e wq ⟨rfl, hwq⟩
          have h2 := hwq.symm
          subst h2
          clear hwq HBLK p0
          obtain ⟨w7, rfl⟩ : ∃ w7, w7 = wr := ⟨_, rfl⟩
          obtain ⟨av, cv, hvs⟩ := ownsRow_sl HI.out.row
          rw [HI.out.len] at hvs
          subst hvs
          have HT7 := Hid.mk' (HT6.out.add HI.out.grow)
          have HIF : Hid (∀ b, w6.heap.size ≤ b → b < w7.heap.size → (fun b => F b ∨ (w6.heap.size ≤ b ∧ b < w7.heap.size)) b) := fun b h1 h2 => .inr ⟨h1, h2⟩
          have HI3 : Hid (But (fun b => ¬ F b) w3 w7) := HTI.out.but
          have HFF : Hid (∀ b, F b → (fun b => F b ∨ (w6.heap.size ≤ b ∧ b < w7.heap.size)) b) := fun b h => .inl h
          clear HTI
          generalize (fun b => F b ∨ (w6.heap.size ≤ b ∧ b < w7.heap.size)) = F2 at HT7 HIF HFF
          have HQ2 : Hid (∀ w', But (fun b => ¬ F2 b) w7 w' → But (fun b => ¬ F b) w3 w') := fun w' k => HI3.out.then k (fun b _ hn hf => hn (HFF.out b hf))
          have p0 : w7.cell? ⟨gp, 0, none⟩ = some (.pointer (some ⟨gd, 0, none⟩)) := (HLP.out _ (HQ2.out _ HT7.out.but)).cell 0
          go_wp2_with fail
          refine Calls.mono (dcrash_all HT7.out) ?_
          rintro e w8 ⟨rfl, ht8⟩
          have HT8 := Hid.mk' ht8
          clear ht8 p0
          have p0 : w8.cell? ⟨gp, 0, none⟩ = some (.pointer (some ⟨gd, 0, none⟩)) := (HLP.out _ (HQ2.out _ HT8.out.but)).cell 0
          have HS8 := Hid.mk' (keeps_crash HS3.out HS3.out.xarm).1
          have HF8 : Hid (IntF w8 F2 (.slice af nf cf) fs) := by
            have h5 : But (fun b => ¬ F b) w w8 := (HGR0.out.mono (fun _ _ h => h.elim)).trans (HQ2.out _ HT8.out.but)
            have h6 := HF2.out.f.but h5 (fun b hb n => n (HFW.out b hb))
            exact ⟨h6.1, fun h0 b hb => HFF.out b (HFW.out b (h6.2 h0 b hb))⟩
          have HON := Hid.mk' (don_all HT8.out HF8.out HS8.out (by omega))
          have HON9 : Hid _ := on_none (s := { s3 with arm := 0, up := false }) (show s3.wt = [] from HW3.out) fs
          have HUP9 := Hid.mk' (ond_up { s3 with arm := 0, up := false } fs)
          have HS9 := Hid.mk' (keeps_ond HS8.out HS8.out.xarm fs).1
          generalize hs9 : Dev.ond { s3 with arm := 0, up := false } fs = s9 at HON HON9 HUP9 HS9
          have HNW : Hid (∀ i, s9.now i = s3.now i) := fun i => by
            rw [now_flat HON9.out.2, now_flat HW3.out, HON9.out.1]
          have HNS5 : Hid (ns = s9.st.length) := by rw [HON9.out.1]; exact HNS.out
          clear HS8 hs9
          go_wp2_with fail
          refine Calls.mono HON.out ?_
          rintro e w9 ⟨rfl, ht9⟩
          have HT9 := Hid.mk' ht9
          clear ht9 p0 HON HF8 HT8
          go_wp2
          go_loopw [13] (fun iv wr => ∃ j : Nat, j ≤ ns ∧ iv = .int .i64 (j : Int) ∧ Grow w9 wr) (fun iv _ => ns - (intOf iv).toNat)
          case atStart => exact ⟨0, Nat.zero_le _, rfl, But.refl _ _⟩
          case round =>
            obtain ⟨j, hjn, rfl, hgr⟩ := hrel
            have HGR := Hid.mk' hgr
            have HTJ := Hid.mk' (HT9.out.then hgr)
            clear hgr
            by_cases hltj : j < ns
            · have hltj' : (j : Int) < (ns : Int) := by omega
              obtain ⟨gv, cv', uj, ev, cuj, hbj⟩ := HI.out.at HIF.out HTJ.out.but hltj
              simp only [Value.slice.injEq] at ev
              obtain ⟨rfl, -, rfl⟩ := ev
              have HCUJ := Hid.mk' cuj
              have HBJ := Hid.mk' hbj
              have p0 : wr.cell? ⟨gp, 0, none⟩ = some (.pointer (some ⟨gd, 0, none⟩)) := (HLP.out _ (HQ2.out _ HTJ.out.but)).cell 0
              have HRD := Hid.mk' (dread_all HTJ.out (j : Int))
              rw [(up_codes HUP9.out (by rw [← HNS5.out]; exact hltj)).1, (up_codes HUP9.out (by rw [← HNS5.out]; exact hltj)).2, HNW.out] at HRD
              clear cuj hbj
              go_wp2_with fail
              refine Calls.mono HRD.out ?_
              rintro e w1 ⟨u, rfl, hu, hg⟩
              obtain ⟨ua, un, uc, rfl⟩ := hu.bs.sl
              obtain ⟨ta, tn, tc, rfl⟩ := HBJ.out.sl
              have HSA := Hid.mk' (same_any hu.bs (HBJ.out.but hg (fun _ _ _ h => h)))
              rw [decide_eq_true rfl] at HSA
              have cuj : w1.cell? ⟨gv, j, none⟩ = some (.slice ta tn tc) := grow_cell hg HCUJ.out
              have HG1 : Hid (Grow w9 w1) := HGR.out.trans hg
              clear hu hg p0 HRD HBJ HCUJ
              go_wp2_with fail
              refine Calls.mono HSA.out ?_
              rintro e w2' ⟨rfl, hd2⟩
              have HG2 : Hid (Grow w9 w2') := by obtain ⟨d, rfl⟩ := hd2; exact HG1.out.drewN
              clear hd2 cuj HSA
              go_wp2
              exact ⟨⟨j + 1, by omega, by go_num, HG2.out⟩, by simp [intOf]; omega⟩
            · have hltj' : ¬ ((j : Int) < (ns : Int)) := by omega
              have p0 : wr.cell? ⟨gp, 0, none⟩ = some (.pointer (some ⟨gd, 0, none⟩)) := (HLP.out _ (HQ2.out _ HTJ.out.but)).cell 0
              have HWT : Hid (Calls Try.prog 22 #[.pointer (some ⟨gd, 0, none⟩)] wr fun e w' => e = .returned (.int .i64 0) ∧ Grow wr w') := by
                obtain ⟨own, hd, -, -⟩ := HTJ.out.dev
                have h9 := waits_any hd (by have := HS9.out.wr; omega)
                rw [HON9.out.2] at h9
                exact h9
              go_wp2_with fail
              refine Calls.mono HWT.out ?_
              rintro e wA ⟨rfl, hgA⟩
              have HGA := Hid.mk' hgA
              clear hgA p0 HWT
              go_wp2_with fail
              refine Calls.mono (awake_any wA) ?_
              rintro e wB ⟨rfl, hgB⟩
              have HB := Hid.mk' (HBE.out _ (HQ2.out _ ((HTJ.out.then HGA.out).then hgB).but))
              clear hgB
              go_wp2
              go_ret
              exact ⟨rfl, HB.out⟩

set_option maxRecDepth 100000 in
theorem devSafe_lifted (os : Os) (started : os.Started) (H : Type) (enc : TypeId × Value → H) :
    ReturnsInHanded {} Try.checked os 4 .any (Rows.devSafeSpec.pre6 enc Try.prog Try.f4 Rows.devSafeRow.domain false) (Rows.devSafeSpec.post enc Try.prog Try.f4 false true false false) := by
  refine returnsInHanded_of_change_sized (C := Try.checked) (by kernel_rfl) started (by kernel_rfl) Try.func4
    (ChangeSpec.witness6 (enc := enc) (C := Try.checked) false ⟨#[], #[.int .i64 0, .slice none 0 0, .slice none 0 0], []⟩ 8 (by kernel_rfl) (by kernel_rfl) (by kernel_rfl) (by kernel_rfl)) ?_
  intro W base args ds gs before hval0 hW hcnd hsz0 _
  have hsz : (DataW.weightsEach Try.prog (Try.f4.params.toList ++ Rows.devSafeSpec.plain.varTypes Try.prog) (ds ++ gs)).all (· ≤ reachBytes) = true := hsz0
  clear hsz0
  have hval : ∀ (j : Nat) t v, Try.f4.params[j]? = some t → args[j]? = some v → Value.okWide Try.prog W .any base t v := hval0
  have hW' := hW
  obtain ⟨p, q, hA0, hV, rfl, hfz, hnd⟩ := hW
  have hA : DataW.TrodAll enc Try.prog W 0 (fun _ => true) true Try.f4.params.toList args.toList ds p := hA0
  rw [Try.params4] at hA hval hsz
  obtain ⟨v0, vs0, d0, ds0, p0, q0, hargs, rfl, rfl, h0, r0⟩ := trodAll_cons hA
  obtain ⟨v1, vs1, d1, ds1, p1, q1, rfl, rfl, rfl, h1, r1⟩ := trodAll_cons r0
  obtain ⟨v2, vs2, d2, ds2, p2, q2, rfl, rfl, rfl, h2, r2⟩ := trodAll_cons r1
  obtain ⟨rfl, rfl, rfl⟩ := trodAll_nil r2
  obtain rfl : args = #[v0, v1, v2] := by cases args; simp_all
  obtain ⟨rfl, rfl⟩ := trodVars_none hV
  obtain ⟨a0, rfl, rfl, rfl, w0⟩ := open_int Try.underlying3 (hval 0 3 v0 rfl rfl) h0
  have lt1 : ∀ x ∈ p1, x.block < W.heap.size := by obtain ⟨m, hm⟩ := h1; exact DataW.trod_lt m _ _ _ hm
  obtain ⟨n1, z1, w1⟩ := view_dacts (hval 1 22 v1 rfl rfl) h1 lt1 hsz (j := 1) rfl rfl
  have lt2 : ∀ x ∈ p2, x.block < W.heap.size := by obtain ⟨m, hm⟩ := h2; exact DataW.trod_lt m _ _ _ hm
  obtain ⟨z2, w2⟩ := view_ints Try.underlying33 Try.underlying3 (by kernel_rfl) (by kernel_rfl) (hval 2 33 v2 rfl rfl) h2 lt2 hsz (j := 2) rfl rfl
  clear hA0 hval0
  refine (devSafe_walk a0 v1 n1 z1 v2 z2 W w0 w1 w2).mono fun e W' ⟨he, bel⟩ => ?_
  subst he
  exact ⟨_, rfl, _, _, _, [], _, [], hW', trodAll_mk1 (shut_bool Try.underlying4 _), (trodAll_cons_mk (shut_int Try.underlying3 w0) (trodAll_cons_mk (Below.trod (by kernel_rfl) (by kernel_rfl) (of_decide_eq_true (by kernel_rfl)) h1 bel lt1) (trodAll_cons_mk (Below.trod (by kernel_rfl) (by kernel_rfl) (of_decide_eq_true (by kernel_rfl)) h2 bel lt2) trodAll_mk0))), rfl, bel.frame _, fun h => by cases h⟩

theorem devSafe_holds : Rows.DevSafeSaid :=
  OpenClaim.holds_of_wide 4 Try.f4 rfl rfl rfl rfl rfl rfl rfl ⟨rfl, rfl, rfl, rfl, rfl⟩ rfl rfl rfl rfl rfl (by kernel_rfl) Try.func4 (by kernel_rfl)
    (of_decide_eq_true (by kernel_rfl)) (by unfold Func.isWrapper; first | (rw [if_pos (by decide +kernel)]; kernel_rfl) | (rw [if_neg (by decide +kernel)]; exact ⟨rfl, rfl⟩))
    (fun os started H enc _ => devSafe_lifted os started H enc)
#print axioms devSafe_holds
end Go.Proofs.Ytfgcbcopgikodaa
