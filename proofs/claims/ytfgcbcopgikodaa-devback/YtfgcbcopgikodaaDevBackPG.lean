/- DevBack: the walk. -/
import Derived.Test.YtfgcbcopgikodaaDvLaw2G
import Derived.ProofKit
import Derived.OpenShut
import Derived.ChangeOld
import Derived.Below
namespace Go.Proofs.Ytfgcbcopgikodaa
open Go.ChangeShapes Go.WideShapes Go.ChangeAt Go.RowKit

set_option maxRecDepth 100000 in
set_option maxHeartbeats 8000000 in
theorem devBack_walk (a0 : Int) (v1 : Value) (n : Nat) (A : Nat → DA) (v2 : Value) (n2 : Nat) (B : Nat → DA) (w : World) (_ : (Lit.int .i64 a0).wf = true) (h1 : DActs w v1 n A) (h3 : DActs w v2 n2 B) :
    Calls Try.prog 5 #[.int .i64 a0, v1, v2] w fun e w' => e = .returned (.bool true) ∧ Below w.heap.size w w' := by
  have H1 := Hid.mk' h1
  have H3 := Hid.mk' h3
  have HGT := Hid.mk' (dgreat_any h1)
  have HGT2 := Hid.mk' (dgreat_any h3)
  obtain ⟨ao, cap, rfl⟩ := h1.sl
  obtain ⟨bo, bcap, rfl⟩ := h3.sl
  clear h1 h3
  go_enter Try.func5, Try.ntmps5
  go_wp2_with fail
  refine Calls.mono HGT.out ?_
  rintro e w1 ⟨b, rfl, htold⟩
  have h2 := htold.same.symm
  subst h2
  have HSM := Hid.mk' htold.small
  clear htold HGT
  cases b
  case true =>
    go_wp2_with fail
    refine Calls.mono (awake_any w) ?_
    rintro e w1 ⟨rfl, hgq⟩
    have HGQ := Hid.mk' hgq
    clear hgq
    go_wp2
    go_ret
    exact ⟨rfl, HGQ.out.below (Nat.le_refl _) (fun _ _ h => h)⟩
  go_wp2_with fail
  refine Calls.mono HGT2.out ?_
  rintro e w1 ⟨b, rfl, htold⟩
  have h2 := htold.same.symm
  subst h2
  have HSM2 := Hid.mk' htold.small
  clear htold HGT2
  cases b
  case true =>
    go_wp2_with fail
    refine Calls.mono (awake_any w) ?_
    rintro e w1 ⟨rfl, hgq⟩
    have HGQ := Hid.mk' hgq
    clear hgq
    go_wp2
    go_ret
    exact ⟨rfl, HGQ.out.below (Nat.le_refl _) (fun _ _ h => h)⟩
  obtain ⟨q, hq⟩ : ∃ q, q = a0 % 9 := ⟨_, rfl⟩
  have hq0 : 0 ≤ q := by rw [hq]; exact Int.emod_nonneg a0 (by decide)
  have hq1 : q < 9 := by rw [hq]; exact Int.emod_lt_of_pos a0 (by decide)
  have HPK := Hid.mk' (pick9 a0 w)
  rw [← hq] at HPK
  have HBG : Hid (Calls Try.prog 9 #[.int .i64 (1 + q)] w (BegIs w (1 + q.toNat))) := by
    have e : (1 + q : Int) = ((1 + q.toNat : Nat) : Int) := by omega
    rw [e]
    exact begun_any w (by omega) (by omega)
  obtain ⟨N, hN⟩ : ∃ N, N = 1 + q.toNat := ⟨_, rfl⟩
  have HN : Hid (1 ≤ N ∧ N ≤ 9) := by show _ ∧ _; omega
  rw [← hN] at HBG
  clear hq hN
  go_wp2_with fail
  refine Calls.mono HPK.out ?_
  rintro e w1 ⟨rfl, hw1⟩
  have h2 := hw1.symm
  subst h2
  clear hw1 HPK
  go_wp2_with fail
  refine Calls.mono HBG.out ?_
  rintro e w2 ⟨gd, gx, rfl, htw⟩
  have HTW := Hid.mk' htw
  have HBZ : Hid (Blk (w2.alloc (.cells #[.pointer none, .pointer none] 28)) w2.heap.size 28 [.pointer none, .pointer none]) := Blk.new (L := [.pointer none, .pointer none]) rfl
  have hz := zPair
  clear htw HBG
  go_wp2_with (first
    | (refine wpList_store_at rfl _ _ _ rfl w2.heap.size 0 [.pointer (some ⟨gd, 0, none⟩), .pointer (some ⟨gx, 0, none⟩)] rfl rfl 28 [] [.pointer none, .pointer none] [] (by simpa using HBZ.out) rfl rfl iPair (fun u hu => by
        rcases List.mem_cons.1 hu with rfl | hu
        · rfl
        · rw [show u = .pointer (some ⟨gx, 0, none⟩) by simpa using hu]; rfl) ?_; intro w3 hb3 hbut3; rw [List.nil_append, List.append_nil] at hb3)
    | fail)
  have hg3 : Grow w2 w3 := ((But.refl _ w2).alloc _).then hbut3 (fun b hb e => by omega)
  obtain ⟨F, hlaw⟩ := HTW.out.law hg3 hb3
  obtain ⟨gp, hgp⟩ : ∃ gp, gp = w2.heap.size := ⟨_, rfl⟩
  rw [← hgp] at hlaw ⊢
  have HLAW := Hid.mk' hlaw
  clear hz hb3 hbut3 hg3 hlaw hgp HTW HBZ hq0 hq1
  obtain ⟨s0, hs0⟩ : ∃ s0, s0 = Dev.fresh N := ⟨_, rfl⟩
  rw [← hs0] at HLAW
  clear hs0 HN
  go_wp2
  go_loopw [8] (fun iv wr => ∃ k : Nat, k ≤ n ∧ k ≤ 60 ∧ iv = .int .i64 (k : Int) ∧ Law w w3 wr gp gd gx F s0 k) (fun iv _ => n - (intOf iv).toNat)
  case atStart => exact ⟨0, Nat.zero_le _, by decide, rfl, HLAW.out⟩
  case round =>
    clear HLAW
    obtain ⟨k, hkn, hk2, rfl, hlaw⟩ := hrel
    have HL := Hid.mk' hlaw
    clear hlaw
    by_cases hlt : k < n
    · by_cases h200 : k < 60
      · have hlt' : (k : Int) < (n : Int) := by omega
        have h200' : (k : Int) < 60 := by omega
        obtain ⟨b, off, cap', ud, uf, e1, hbw, hcell, hra, hrb, hdat, hfat⟩ := H1.out.at hlt
        simp only [Value.slice.injEq] at e1
        obtain ⟨rfl, -, rfl⟩ := e1
        have HCE := Hid.mk' hcell
        have HBW := Hid.mk' hbw
        have HDO : Hid (∀ w', Grow wr w' → Calls Try.prog 11 #[.agg #[.pointer (some ⟨gd, 0, none⟩), .pointer (some ⟨gx, 0, none⟩)], .agg (dcells (A k) ud uf).toArray] w' (DoIs F w3 gd gx s0 (k + 1))) := fun w' g => do_any (HL.out.inn (by omega) hra hrb hdat hfat (HSM.out (by first | rfl | trivial) k hlt (by omega)) g)
        clear hcell hbw hra hrb hdat hfat
        go_upto_region 7 with fail
        refine region_chain [([0, 1, 2, 3, 4], 5)] [] (But (fun b => ¬ F b) w3) (Grow wr) (by kernel_rfl) (by kernel_rfl) (fun _ _ h k => h.trans k) (fun _ h => (HL.out.st.then h).but) ((But.refl _ wr).drew) ?_
        intro ι hne X hX
        refine still_val rfl (.agg #[.pointer (some ⟨gd, 0, none⟩), .pointer (some ⟨gx, 0, none⟩)]) rfl (fun x => exec_load_agg Try.underlying28 rfl (cs := [.pointer (some ⟨gd, 0, none⟩), .pointer (some ⟨gx, 0, none⟩)]) iPair (HL.out.p (hX x)).cells0 rfl rfl) ?_
        intro K hK; go_simp; refine hK _ ?_; clear hK K
        iterate 3 (refine still_step rfl (fun K hK => ?_); go_simp; refine hK _ ?_; clear hK K)
        refine still_val rfl (.agg (dcells (A k) ud uf).toArray) rfl (fun x => exec_load_agg Try.underlying35 rfl iAct (HCE.out _ (HL.out.heap (hX x) HBW.out)) rfl rfl) ?_
        intro K hK; go_simp; refine hK _ ?_; clear hK K
        refine still_nil ?_
        clear hX hne
        refine turn_call rfl rfl (fun v w' => v = .bool true ∧ DoTo F w3 w' gd gx s0 (k + 1)) (fun _ w' => DoTo F w3 w' gd gx s0 (k + 1)) (fun _ _ _ h k => ⟨h.1, h.2.then k⟩) (fun _ _ h => h.2) (.inr (fun _ _ h => h.but)) 11 #[.agg #[.pointer (some ⟨gd, 0, none⟩), .pointer (some ⟨gx, 0, none⟩)], .agg (dcells (A k) ud uf).toArray] (fun _ => by kernel_rfl) ?_ ?_
        · intro w5 h5
          refine Calls.mono (HDO.out _ h5) ?_
          rintro e w6 ⟨rfl, h6⟩
          exact ⟨_, rfl, rfl, h6⟩
        rintro v ⟨wq, rfl, -⟩ Y hY
        clear wq
        go_simp
        refine hY _ ?_
        clear hY Y
        intro ι hne X hX
        refine still_nil ?_
        clear hX hne
        rintro w5 ⟨-, h5⟩
        have HL5 := Hid.mk' (HL.out.on h5)
        clear h5 HDO HCE HL
        go_wp2
        exact ⟨⟨k + 1, by omega, by omega, by go_num, HL5.out⟩, by simp [intOf]; omega⟩
      · have hlt' : (k : Int) < (n : Int) := by omega
        have h200' : ¬ ((k : Int) < 60) := by omega
        obtain ⟨s, x, ht, hag, hb, -⟩ := HL.out.st.ex
        have HLP : Hid (∀ w', But (fun b => ¬ F b) w3 w' → Blk w' gp 28 [.pointer (some ⟨gd, 0, none⟩), .pointer (some ⟨gx, 0, none⟩)]) := fun w' b => HL.out.p b
        have HBE : Hid (∀ w', But (fun b => ¬ F b) w3 w' → Below w.heap.size w w') := fun w' b => HL.out.below b
        have HFW := Hid.mk' HL.out.fw
        have HFP := Hid.mk' HL.out.fp
        have HGR0 := Hid.mk' HL.out.gr
        have HAG := Hid.mk' hag
        have HOK := Hid.mk' ht.ok
        have HBS := Hid.mk' hb
        have p0 : wr.cell? ⟨gp, 0, none⟩ = some (.pointer (some ⟨gd, 0, none⟩)) := HL.out.pw.cell 0
        have HON := Hid.mk' (don_all ht (nil_intf _ _) hb (by omega))
        have HU1 := Hid.mk' (ond_up s [])
        have HS1 := Hid.mk' (keeps_ond hb hb.xarm []).1
        generalize Dev.ond s [] = s1 at HON HU1 HS1
        clear ht hb hag HL
        go_wp2_with fail
        refine Calls.mono HON.out ?_
        rintro e w6 ⟨rfl, ht6⟩
        have HT6 := Hid.mk' ht6
        obtain ⟨ns, hns⟩ : ∃ ns, ns = s1.st.length := ⟨_, rfl⟩
        have HNS := Hid.mk' hns
        have HNB : Hid (ns ≤ 65536) := by rw [hns]; exact ht6.ok.nb
        have hnsb : (ns : Int) ≤ 65536 := by have := HNB.out; omega
        clear ht6 p0 HON hns
        go_wp2
        go_loopw [9, 10] (fun tv iv wr => ∃ (i : Nat) (v : Value) (M : List SbE), i ≤ ns ∧ iv = .int .i64 (i : Int) ∧ v = tv ∧ WasI w6 s1.now i v M wr) (fun _ iv _ => ns - (intOf iv).toNat)
        case atStart => exact ⟨0, .slice none 0 0, [], Nat.zero_le _, rfl, rfl, WasI.zero _ _⟩
        case round =>
          rename_i tv
          obtain ⟨i, v, M, hin, rfl, rfl, hI⟩ := hrel
          have HI := Hid.mk' hI
          have HTI := Hid.mk' (HT6.out.then hI.grow)
          have p0 : wr.cell? ⟨gp, 0, none⟩ = some (.pointer (some ⟨gd, 0, none⟩)) := (HLP.out _ HTI.out.but).cell 0
          have HBLK : Hid (Calls Try.prog 18 #[.pointer (some ⟨gd, 0, none⟩)] wr fun e w' => e = .returned (.int .i64 (ns : Int)) ∧ w' = wr) := by
            obtain ⟨own, hd, -, -⟩ := HTI.out.dev
            rw [HNS.out]
            exact blocks_any hd
          clear hI
          by_cases hlti : i < ns
          · have hlti' : (i : Int) < (ns : Int) := by omega
            have HRD := Hid.mk' (dread_all HTI.out (i : Int))
            rw [(up_codes HU1.out (by rw [← HNS.out]; exact hlti)).1, (up_codes HU1.out (by rw [← HNS.out]; exact hlti)).2] at HRD
            have HWF : Hid (wf256 (s1.now i)) := HTI.out.ok.now (by rw [← HNS.out]; exact hlti)
            go_wp2_with fail
            refine Calls.mono HBLK.out ?_
            rintro e wq ⟨rfl, hwq⟩
            have h2 := hwq.symm
            subst h2
            clear hwq HBLK
            go_wp2_with fail
            refine Calls.mono HRD.out ?_
            rintro e w1 ⟨u, rfl, hu, hg⟩
            obtain ⟨ua, un, uc, rfl⟩ := hu.bs.sl
            have HU := Hid.mk' hu
            have HG := Hid.mk' hg
            have HML := Hid.mk' HI.out.len
            have HR1 := Hid.mk' (ownsRow_grow HI.out.row hg)
            have HAL : Hid (Grow w1 (w1.alloc (.cells #[.slice ua un uc] 32))) := (But.refl _ w1).alloc _
            have HBL : Hid (Blk (w1.alloc (.cells #[.slice ua un uc] 32)) w1.heap.size 32 [.slice ua un uc]) := Blk.new (L := [.slice ua un uc]) rfl
            clear hu hg p0 HRD
            go_wp2_with (first
              | (refine wpList_run rfl (exec_row1 Try.underlying39 infS (by decide) (by decide) rfl rfl rfl) ?_)
              | (refine wpList_some rfl (exec_append (v := v) (n := M.length) (xs := M.map (·.1)) (news := [.slice ua un uc]) Try.underlying39 infS rfl (by decide) rfl rfl (ownsRow_grow HR1.out HAL.out) rfl rfl (fun j u hj => HBL.out.cells0 j u hj) (fun u hu => by rw [show u = .slice ua un uc by simpa using hu]; rfl) (by have := HML.out; have := HNB.out; omega) (by decide)) ?_; intro v4 w4 hap)
              | fail)
            exact ⟨⟨i + 1, v4, _, by omega, by go_num, rfl, HI.out.next HU.out (by rw [HWF.out.1]; decide) HG.out hap⟩, by simp [intOf]; omega⟩
          · have hlti' : ¬ ((i : Int) < (ns : Int)) := by omega
            obtain rfl : ns = i := by omega
            go_wp2_with fail
            refine Calls.mono HBLK.out ?_
            rintro e wq ⟨rfl, hwq⟩
            have h2 := hwq.symm
            subst h2
            clear hwq HBLK p0
            obtain ⟨w7, rfl⟩ : ∃ w7, w7 = wr := ⟨_, rfl⟩
            obtain ⟨av, cv, hvs⟩ := ownsRow_sl HI.out.row
            rw [HI.out.len] at hvs
            subst hvs
            have HT7 := Hid.mk' (HT6.out.add HI.out.grow)
            have HIF : Hid (∀ b, w6.heap.size ≤ b → b < w7.heap.size → (fun b => F b ∨ (w6.heap.size ≤ b ∧ b < w7.heap.size)) b) := fun b h1 h2 => .inr ⟨h1, h2⟩
            have HI3 : Hid (But (fun b => ¬ F b) w3 w7) := HTI.out.but
            have HFF : Hid (∀ b, F b → (fun b => F b ∨ (w6.heap.size ≤ b ∧ b < w7.heap.size)) b) := fun b h => .inl h
            clear HTI
            generalize (fun b => F b ∨ (w6.heap.size ≤ b ∧ b < w7.heap.size)) = F2 at HT7 HIF HFF
            have HQ2 : Hid (∀ w', But (fun b => ¬ F2 b) w7 w' → But (fun b => ¬ F b) w3 w') := fun w' k => HI3.out.then k (fun b _ hn hf => hn (HFF.out b hf))
            have p0 : w7.cell? ⟨gp, 0, none⟩ = some (.pointer (some ⟨gd, 0, none⟩)) := (HLP.out _ (HQ2.out _ HT7.out.but)).cell 0
            have HSN := Hid.mk' (dsnap_all HT7.out HS1.out)
            have HS2 := Hid.mk' (keeps_snapd HS1.out HS1.out.xarm).1
            by_cases h8 : s1.im.length = 8
            · rw [show s1.nnum = 0 by unfold Dev.nnum; rw [if_pos h8], show s1.ncode = 11 by unfold Dev.ncode; rw [if_pos h8]] at HSN
              go_wp2_with fail
              refine Calls.mono HSN.out ?_
              rintro e w8 ⟨rfl, ht8⟩
              have HT8 := Hid.mk' ht8
              clear ht8 p0 HSN
              go_wp2_with fail
              refine Calls.mono (awake_any w8) ?_
              rintro e wB ⟨rfl, hgB⟩
              have HB := Hid.mk' (HBE.out _ (HQ2.out _ (HT8.out.then hgB).but))
              clear hgB
              go_wp2
              go_ret
              exact ⟨rfl, HB.out⟩
            obtain ⟨ni, hni⟩ : ∃ ni : Int, ni = (s1.im.length : Int) := ⟨_, rfl⟩
            have hn0 : 0 ≤ ni := by omega
            have hn8 : ni < 8 := by have := HS1.out.im; omega
            have HNI := Hid.mk' hni
            rw [show s1.nnum = ni by unfold Dev.nnum; rw [if_neg h8, hni], show s1.ncode = 0 by unfold Dev.ncode; rw [if_neg h8], show s1.snapd = s1.snapped by unfold Dev.snapd; rw [if_neg h8]] at HSN
            rw [show s1.snapd = s1.snapped by unfold Dev.snapd; rw [if_neg h8]] at HS2
            clear hni
            go_wp2_with fail
            refine Calls.mono HSN.out ?_
            rintro e w8 ⟨rfl, ht8⟩
            have HL20 : Hid (Law2 w w7 w8 gp gd gx F2 s1.snapped (k + 2 + 0)) := ⟨⟨s1.snapped, s, x, ht8, HAG.out, ⟨HOK.out.wt, HOK.out.wl⟩, HS2.out, ⟨Nat.le_trans HBS.out.wr (by omega), Nat.le_trans HBS.out.cnt (by omega), HBS.out.im, HBS.out.arm, HBS.out.xarm⟩, Kp.refl _⟩, HLP.out _ (HQ2.out _ (But.refl _ _)), HFF.out _ HFP.out, fun b hb => HFF.out b (HFW.out b hb), HGR0.out.then (HQ2.out _ (But.refl _ _)) (fun b hb hn => hn (HFW.out b hb))⟩
            clear ht8 p0 HSN h8 HT6
            go_wp2
            go_loopw [15] (fun iv wr => ∃ j : Nat, j ≤ n2 ∧ j ≤ 60 ∧ iv = .int .i64 (j : Int) ∧ Law2 w w7 wr gp gd gx F2 s1.snapped (k + 2 + j)) (fun iv _ => n2 - (intOf iv).toNat)
            case atStart => exact ⟨0, Nat.zero_le _, by decide, rfl, HL20.out⟩
            case round =>
              clear HL20
              obtain ⟨j, hjn, hj2, rfl, hlaw2⟩ := hrel
              have HL2 := Hid.mk' hlaw2
              clear hlaw2
              by_cases hlt2 : j < n2
              · by_cases h60 : j < 60
                · have hlt2' : (j : Int) < (n2 : Int) := by omega
                  have h60' : (j : Int) < 60 := by omega
                  obtain ⟨b, off, cap', ud, uf, e1, hbw, hcell, hra, hrb, hdat, hfat⟩ := H3.out.at hlt2
                  simp only [Value.slice.injEq] at e1
                  obtain ⟨rfl, -, rfl⟩ := e1
                  have HCE := Hid.mk' hcell
                  have HBW := Hid.mk' hbw
                  have HDO : Hid (∀ w', Grow wr w' → Calls Try.prog 11 #[.agg #[.pointer (some ⟨gd, 0, none⟩), .pointer (some ⟨gx, 0, none⟩)], .agg (dcells (B j) ud uf).toArray] w' (DoIs2 F2 w7 gd gx s1.snapped (k + 2 + j + 1))) := fun w' g => fo_any (HL2.out.inn (by omega) hra hrb hdat hfat (HSM2.out (by first | rfl | trivial) j hlt2 (by omega)) g)
                  clear hcell hbw hra hrb hdat hfat
                  go_upto_region 21 with fail
                  refine region_chain [([0, 1, 2, 3, 4], 5)] [] (But (fun b => ¬ F2 b) w7) (Grow wr) (by kernel_rfl) (by kernel_rfl) (fun _ _ h k => h.trans k) (fun _ h => (HL2.out.st.then h).but) ((But.refl _ wr).drew) ?_
                  intro ι hne X hX
                  refine still_val rfl (.agg #[.pointer (some ⟨gd, 0, none⟩), .pointer (some ⟨gx, 0, none⟩)]) rfl (fun x => exec_load_agg Try.underlying28 rfl (cs := [.pointer (some ⟨gd, 0, none⟩), .pointer (some ⟨gx, 0, none⟩)]) iPair (HL2.out.p (hX x)).cells0 rfl rfl) ?_
                  intro K hK; go_simp; refine hK _ ?_; clear hK K
                  iterate 3 (refine still_step rfl (fun K hK => ?_); go_simp; refine hK _ ?_; clear hK K)
                  refine still_val rfl (.agg (dcells (B j) ud uf).toArray) rfl (fun x => exec_load_agg Try.underlying35 rfl iAct (HCE.out _ (HL2.out.heap (hX x) HBW.out)) rfl rfl) ?_
                  intro K hK; go_simp; refine hK _ ?_; clear hK K
                  refine still_nil ?_
                  clear hX hne
                  refine turn_call rfl rfl (fun v w' => (∃ r, v = .bool r) ∧ DoT2 F2 w7 w' gd gx s1.snapped (k + 2 + j + 1)) (fun _ w' => DoT2 F2 w7 w' gd gx s1.snapped (k + 2 + j + 1)) (fun _ _ _ h k => ⟨h.1, h.2.then k⟩) (fun _ _ h => h.2) (.inr (fun _ _ h => h.but)) 11 #[.agg #[.pointer (some ⟨gd, 0, none⟩), .pointer (some ⟨gx, 0, none⟩)], .agg (dcells (B j) ud uf).toArray] (fun _ => by kernel_rfl) ?_ ?_
                  · intro w5 h5
                    refine Calls.mono (HDO.out _ h5) ?_
                    rintro e w6 ⟨r, rfl, h6⟩
                    exact ⟨_, rfl, ⟨r, rfl⟩, h6⟩
                  rintro v ⟨wq, ⟨r, rfl⟩, -⟩ Y hY
                  clear wq
                  go_simp
                  refine hY _ ?_
                  clear hY Y
                  intro ι hne X hX
                  refine still_nil ?_
                  clear hX hne
                  rintro w5 ⟨-, h5⟩
                  have HL5 := Hid.mk' (HL2.out.on h5)
                  clear h5 HDO HCE HL2
                  go_wp2
                  exact ⟨⟨j + 1, by omega, by omega, by go_num, HL5.out⟩, by simp [intOf]; omega⟩
                · have hlt2' : (j : Int) < (n2 : Int) := by omega
                  have h60' : ¬ ((j : Int) < 60) := by omega
                  obtain ⟨s3, gg, x3, ht3, -, -, hb3, -, hkp⟩ := HL2.out.st.ex
                  have HT3 := Hid.mk' ht3
                  have HB3 := Hid.mk' hb3
                  have HKP := Hid.mk' hkp
                  clear ht3 hb3 hkp
                  obtain ⟨wM, rfl⟩ : ∃ wM, wM = wr := ⟨_, rfl⟩
                  have p0 : wM.cell? ⟨gp, 0, none⟩ = some (.pointer (some ⟨gd, 0, none⟩)) := (HLP.out _ (HQ2.out _ HT3.out.but)).cell 0
                  have HBA := Hid.mk' (dback_all HT3.out (s1.im.length : Int))
                  have HSB := Hid.mk' (keeps_backd HB3.out HT3.out.ok HB3.out.xarm (s1.im.length : Int)).1
                  rw [(back_iok HKP.out).1, (back_iok HKP.out).2] at HBA
                  rw [(back_iok HKP.out).2] at HSB
                  rw [← HNI.out] at HBA
                  have HSTL : Hid ((s3.backed s1.im.length).st.length = s1.st.length) := back_len HKP.out
                  have HSTN : Hid (∀ i, i < s1.st.length → (s3.backed s1.im.length).st.getD i [] = s1.now i) := fun i hi => back_now HKP.out hi
                  have HSTW : Hid ((s3.backed s1.im.length).wt = []) := rfl
                  generalize s3.backed s1.im.length = s4 at HBA HSB HSTL HSTN HSTW
                  go_wp2_with fail
                  refine Calls.mono HBA.out ?_
                  rintro e wP ⟨rfl, htP⟩
                  have HTP := Hid.mk' htP
                  clear htP p0 HBA
                  have p0 : wP.cell? ⟨gp, 0, none⟩ = some (.pointer (some ⟨gd, 0, none⟩)) := (HLP.out _ (HQ2.out _ HTP.out.but)).cell 0
                  have HWT : Hid (Calls Try.prog 22 #[.pointer (some ⟨gd, 0, none⟩)] wP fun e w' => e = .returned (.int .i64 0) ∧ Grow wP w') := by
                    obtain ⟨own, hd, -, -⟩ := HTP.out.dev
                    have h9 := waits_any hd (by have := HSB.out.wr; omega)
                    rw [HSTW.out] at h9
                    exact h9
                  go_wp2_with fail
                  refine Calls.mono HWT.out ?_
                  rintro e wQ ⟨rfl, hgQ⟩
                  have HTQ := Hid.mk' (HTP.out.then hgQ)
                  clear hgQ p0 HWT
                  have p0 : wQ.cell? ⟨gp, 0, none⟩ = some (.pointer (some ⟨gd, 0, none⟩)) := (HLP.out _ (HQ2.out _ HTQ.out.but)).cell 0
                  have HON := Hid.mk' (don_all HTQ.out (nil_intf _ _) HSB.out (by omega))
                  have HON9 : Hid _ := on_none HSTW.out []
                  have HUP9 := Hid.mk' (ond_up s4 [])
                  generalize s4.ond [] = s9 at HON HON9 HUP9
                  have HNW : Hid (∀ i, i < ns → s9.now i = s1.now i) := fun i hi => by
                    rw [now_flat HON9.out.2, HON9.out.1]
                    exact HSTN.out i (by rw [← HNS.out]; exact hi)
                  have HNS5 : Hid (ns = s9.st.length) := by rw [HON9.out.1, HSTL.out]; exact HNS.out
                  go_wp2_with fail
                  refine Calls.mono HON.out ?_
                  rintro e w9 ⟨rfl, ht9⟩
                  have HT9 := Hid.mk' ht9
                  clear ht9 p0 HON HL2
                  go_wp2
                  go_loopw [16] (fun iv wr => ∃ j : Nat, j ≤ ns ∧ iv = .int .i64 (j : Int) ∧ Grow w9 wr) (fun iv _ => ns - (intOf iv).toNat)
                  case atStart => exact ⟨0, Nat.zero_le _, rfl, But.refl _ _⟩
                  case round =>
                    obtain ⟨j, hjn, rfl, hgr⟩ := hrel
                    have HGR := Hid.mk' hgr
                    have HTJ := Hid.mk' (HT9.out.then hgr)
                    clear hgr
                    by_cases hltj : j < ns
                    · have hltj' : (j : Int) < (ns : Int) := by omega
                      obtain ⟨gv, cv', uj, ev, cuj, hbj⟩ := HI.out.at HIF.out HTJ.out.but hltj
                      simp only [Value.slice.injEq] at ev
                      obtain ⟨rfl, -, rfl⟩ := ev
                      have HCUJ := Hid.mk' cuj
                      have HBJ := Hid.mk' hbj
                      have p0 : wr.cell? ⟨gp, 0, none⟩ = some (.pointer (some ⟨gd, 0, none⟩)) := (HLP.out _ (HQ2.out _ HTJ.out.but)).cell 0
                      have HRD := Hid.mk' (dread_all HTJ.out (j : Int))
                      rw [(up_codes HUP9.out (by rw [← HNS5.out]; exact hltj)).1, (up_codes HUP9.out (by rw [← HNS5.out]; exact hltj)).2, HNW.out j hltj] at HRD
                      clear cuj hbj
                      go_wp2_with fail
                      refine Calls.mono HRD.out ?_
                      rintro e w1 ⟨u, rfl, hu, hg⟩
                      obtain ⟨ua, un, uc, rfl⟩ := hu.bs.sl
                      obtain ⟨ta, tn, tc, rfl⟩ := HBJ.out.sl
                      have HSA := Hid.mk' (same_any hu.bs (HBJ.out.but hg (fun _ _ _ h => h)))
                      rw [decide_eq_true rfl] at HSA
                      have cuj : w1.cell? ⟨gv, j, none⟩ = some (.slice ta tn tc) := grow_cell hg HCUJ.out
                      have HG1 : Hid (Grow w9 w1) := HGR.out.trans hg
                      clear hu hg p0 HRD HBJ HCUJ
                      go_wp2_with fail
                      refine Calls.mono HSA.out ?_
                      rintro e w2' ⟨rfl, hd2⟩
                      have HG2 : Hid (Grow w9 w2') := by obtain ⟨d, rfl⟩ := hd2; exact HG1.out.drewN
                      clear hd2 cuj HSA
                      go_wp2
                      exact ⟨⟨j + 1, by omega, by go_num, HG2.out⟩, by simp [intOf]; omega⟩
                    · have hltj' : ¬ ((j : Int) < (ns : Int)) := by omega
                      go_wp2_with fail
                      refine Calls.mono (awake_any wr) ?_
                      rintro e wB ⟨rfl, hgB⟩
                      have HB := Hid.mk' (HBE.out _ (HQ2.out _ (HTJ.out.then hgB).but))
                      clear hgB
                      go_wp2
                      go_ret
                      exact ⟨rfl, HB.out⟩
              · have hlt2' : ¬ ((j : Int) < (n2 : Int)) := by omega
                obtain ⟨s3, gg, x3, ht3, -, -, hb3, -, hkp⟩ := HL2.out.st.ex
                have HT3 := Hid.mk' ht3
                have HB3 := Hid.mk' hb3
                have HKP := Hid.mk' hkp
                clear ht3 hb3 hkp
                obtain ⟨wM, rfl⟩ : ∃ wM, wM = wr := ⟨_, rfl⟩
                have p0 : wM.cell? ⟨gp, 0, none⟩ = some (.pointer (some ⟨gd, 0, none⟩)) := (HLP.out _ (HQ2.out _ HT3.out.but)).cell 0
                have HBA := Hid.mk' (dback_all HT3.out (s1.im.length : Int))
                have HSB := Hid.mk' (keeps_backd HB3.out HT3.out.ok HB3.out.xarm (s1.im.length : Int)).1
                rw [(back_iok HKP.out).1, (back_iok HKP.out).2] at HBA
                rw [(back_iok HKP.out).2] at HSB
                rw [← HNI.out] at HBA
                have HSTL : Hid ((s3.backed s1.im.length).st.length = s1.st.length) := back_len HKP.out
                have HSTN : Hid (∀ i, i < s1.st.length → (s3.backed s1.im.length).st.getD i [] = s1.now i) := fun i hi => back_now HKP.out hi
                have HSTW : Hid ((s3.backed s1.im.length).wt = []) := rfl
                generalize s3.backed s1.im.length = s4 at HBA HSB HSTL HSTN HSTW
                go_wp2_with fail
                refine Calls.mono HBA.out ?_
                rintro e wP ⟨rfl, htP⟩
                have HTP := Hid.mk' htP
                clear htP p0 HBA
                have p0 : wP.cell? ⟨gp, 0, none⟩ = some (.pointer (some ⟨gd, 0, none⟩)) := (HLP.out _ (HQ2.out _ HTP.out.but)).cell 0
                have HWT : Hid (Calls Try.prog 22 #[.pointer (some ⟨gd, 0, none⟩)] wP fun e w' => e = .returned (.int .i64 0) ∧ Grow wP w') := by
                  obtain ⟨own, hd, -, -⟩ := HTP.out.dev
                  have h9 := waits_any hd (by have := HSB.out.wr; omega)
                  rw [HSTW.out] at h9
                  exact h9
                go_wp2_with fail
                refine Calls.mono HWT.out ?_
                rintro e wQ ⟨rfl, hgQ⟩
                have HTQ := Hid.mk' (HTP.out.then hgQ)
                clear hgQ p0 HWT
                have p0 : wQ.cell? ⟨gp, 0, none⟩ = some (.pointer (some ⟨gd, 0, none⟩)) := (HLP.out _ (HQ2.out _ HTQ.out.but)).cell 0
                have HON := Hid.mk' (don_all HTQ.out (nil_intf _ _) HSB.out (by omega))
                have HON9 : Hid _ := on_none HSTW.out []
                have HUP9 := Hid.mk' (ond_up s4 [])
                generalize s4.ond [] = s9 at HON HON9 HUP9
                have HNW : Hid (∀ i, i < ns → s9.now i = s1.now i) := fun i hi => by
                  rw [now_flat HON9.out.2, HON9.out.1]
                  exact HSTN.out i (by rw [← HNS.out]; exact hi)
                have HNS5 : Hid (ns = s9.st.length) := by rw [HON9.out.1, HSTL.out]; exact HNS.out
                go_wp2_with fail
                refine Calls.mono HON.out ?_
                rintro e w9 ⟨rfl, ht9⟩
                have HT9 := Hid.mk' ht9
                clear ht9 p0 HON HL2
                go_wp2
                go_loopw [16] (fun iv wr => ∃ j : Nat, j ≤ ns ∧ iv = .int .i64 (j : Int) ∧ Grow w9 wr) (fun iv _ => ns - (intOf iv).toNat)
                case atStart => exact ⟨0, Nat.zero_le _, rfl, But.refl _ _⟩
                case round =>
                  obtain ⟨j, hjn, rfl, hgr⟩ := hrel
                  have HGR := Hid.mk' hgr
                  have HTJ := Hid.mk' (HT9.out.then hgr)
                  clear hgr
                  by_cases hltj : j < ns
                  · have hltj' : (j : Int) < (ns : Int) := by omega
                    obtain ⟨gv, cv', uj, ev, cuj, hbj⟩ := HI.out.at HIF.out HTJ.out.but hltj
                    simp only [Value.slice.injEq] at ev
                    obtain ⟨rfl, -, rfl⟩ := ev
                    have HCUJ := Hid.mk' cuj
                    have HBJ := Hid.mk' hbj
                    have p0 : wr.cell? ⟨gp, 0, none⟩ = some (.pointer (some ⟨gd, 0, none⟩)) := (HLP.out _ (HQ2.out _ HTJ.out.but)).cell 0
                    have HRD := Hid.mk' (dread_all HTJ.out (j : Int))
                    rw [(up_codes HUP9.out (by rw [← HNS5.out]; exact hltj)).1, (up_codes HUP9.out (by rw [← HNS5.out]; exact hltj)).2, HNW.out j hltj] at HRD
                    clear cuj hbj
                    go_wp2_with fail
                    refine Calls.mono HRD.out ?_
                    rintro e w1 ⟨u, rfl, hu, hg⟩
                    obtain ⟨ua, un, uc, rfl⟩ := hu.bs.sl
                    obtain ⟨ta, tn, tc, rfl⟩ := HBJ.out.sl
                    have HSA := Hid.mk' (same_any hu.bs (HBJ.out.but hg (fun _ _ _ h => h)))
                    rw [decide_eq_true rfl] at HSA
                    have cuj : w1.cell? ⟨gv, j, none⟩ = some (.slice ta tn tc) := grow_cell hg HCUJ.out
                    have HG1 : Hid (Grow w9 w1) := HGR.out.trans hg
                    clear hu hg p0 HRD HBJ HCUJ
                    go_wp2_with fail
                    refine Calls.mono HSA.out ?_
                    rintro e w2' ⟨rfl, hd2⟩
                    have HG2 : Hid (Grow w9 w2') := by obtain ⟨d, rfl⟩ := hd2; exact HG1.out.drewN
                    clear hd2 cuj HSA
                    go_wp2
                    exact ⟨⟨j + 1, by omega, by go_num, HG2.out⟩, by simp [intOf]; omega⟩
                  · have hltj' : ¬ ((j : Int) < (ns : Int)) := by omega
                    go_wp2_with fail
                    refine Calls.mono (awake_any wr) ?_
                    rintro e wB ⟨rfl, hgB⟩
                    have HB := Hid.mk' (HBE.out _ (HQ2.out _ (HTJ.out.then hgB).but))
                    clear hgB
                    go_wp2
                    go_ret
                    exact ⟨rfl, HB.out⟩
    · have hlt' : ¬ ((k : Int) < (n : Int)) := by omega
      obtain ⟨s, x, ht, hag, hb, -⟩ := HL.out.st.ex
      have HLP : Hid (∀ w', But (fun b => ¬ F b) w3 w' → Blk w' gp 28 [.pointer (some ⟨gd, 0, none⟩), .pointer (some ⟨gx, 0, none⟩)]) := fun w' b => HL.out.p b
      have HBE : Hid (∀ w', But (fun b => ¬ F b) w3 w' → Below w.heap.size w w') := fun w' b => HL.out.below b
      have HFW := Hid.mk' HL.out.fw
      have HFP := Hid.mk' HL.out.fp
      have HGR0 := Hid.mk' HL.out.gr
      have HAG := Hid.mk' hag
      have HOK := Hid.mk' ht.ok
      have HBS := Hid.mk' hb
      have p0 : wr.cell? ⟨gp, 0, none⟩ = some (.pointer (some ⟨gd, 0, none⟩)) := HL.out.pw.cell 0
      have HON := Hid.mk' (don_all ht (nil_intf _ _) hb (by omega))
      have HU1 := Hid.mk' (ond_up s [])
      have HS1 := Hid.mk' (keeps_ond hb hb.xarm []).1
      generalize Dev.ond s [] = s1 at HON HU1 HS1
      clear ht hb hag HL
      go_wp2_with fail
      refine Calls.mono HON.out ?_
      rintro e w6 ⟨rfl, ht6⟩
      have HT6 := Hid.mk' ht6
      obtain ⟨ns, hns⟩ : ∃ ns, ns = s1.st.length := ⟨_, rfl⟩
      have HNS := Hid.mk' hns
      have HNB : Hid (ns ≤ 65536) := by rw [hns]; exact ht6.ok.nb
      have hnsb : (ns : Int) ≤ 65536 := by have := HNB.out; omega
      clear ht6 p0 HON hns
      go_wp2
      go_loopw [9, 10] (fun tv iv wr => ∃ (i : Nat) (v : Value) (M : List SbE), i ≤ ns ∧ iv = .int .i64 (i : Int) ∧ v = tv ∧ WasI w6 s1.now i v M wr) (fun _ iv _ => ns - (intOf iv).toNat)
      case atStart => exact ⟨0, .slice none 0 0, [], Nat.zero_le _, rfl, rfl, WasI.zero _ _⟩
      case round =>
        rename_i tv
        obtain ⟨i, v, M, hin, rfl, rfl, hI⟩ := hrel
        have HI := Hid.mk' hI
        have HTI := Hid.mk' (HT6.out.then hI.grow)
        have p0 : wr.cell? ⟨gp, 0, none⟩ = some (.pointer (some ⟨gd, 0, none⟩)) := (HLP.out _ HTI.out.but).cell 0
        have HBLK : Hid (Calls Try.prog 18 #[.pointer (some ⟨gd, 0, none⟩)] wr fun e w' => e = .returned (.int .i64 (ns : Int)) ∧ w' = wr) := by
          obtain ⟨own, hd, -, -⟩ := HTI.out.dev
          rw [HNS.out]
          exact blocks_any hd
        clear hI
        by_cases hlti : i < ns
        · have hlti' : (i : Int) < (ns : Int) := by omega
          have HRD := Hid.mk' (dread_all HTI.out (i : Int))
          rw [(up_codes HU1.out (by rw [← HNS.out]; exact hlti)).1, (up_codes HU1.out (by rw [← HNS.out]; exact hlti)).2] at HRD
          have HWF : Hid (wf256 (s1.now i)) := HTI.out.ok.now (by rw [← HNS.out]; exact hlti)
          go_wp2_with fail
          refine Calls.mono HBLK.out ?_
          rintro e wq ⟨rfl, hwq⟩
          have h2 := hwq.symm
          subst h2
          clear hwq HBLK
          go_wp2_with fail
          refine Calls.mono HRD.out ?_
          rintro e w1 ⟨u, rfl, hu, hg⟩
          obtain ⟨ua, un, uc, rfl⟩ := hu.bs.sl
          have HU := Hid.mk' hu
          have HG := Hid.mk' hg
          have HML := Hid.mk' HI.out.len
          have HR1 := Hid.mk' (ownsRow_grow HI.out.row hg)
          have HAL : Hid (Grow w1 (w1.alloc (.cells #[.slice ua un uc] 32))) := (But.refl _ w1).alloc _
          have HBL : Hid (Blk (w1.alloc (.cells #[.slice ua un uc] 32)) w1.heap.size 32 [.slice ua un uc]) := Blk.new (L := [.slice ua un uc]) rfl
          clear hu hg p0 HRD
          go_wp2_with (first
            | (refine wpList_run rfl (exec_row1 Try.underlying39 infS (by decide) (by decide) rfl rfl rfl) ?_)
            | (refine wpList_some rfl (exec_append (v := v) (n := M.length) (xs := M.map (·.1)) (news := [.slice ua un uc]) Try.underlying39 infS rfl (by decide) rfl rfl (ownsRow_grow HR1.out HAL.out) rfl rfl (fun j u hj => HBL.out.cells0 j u hj) (fun u hu => by rw [show u = .slice ua un uc by simpa using hu]; rfl) (by have := HML.out; have := HNB.out; omega) (by decide)) ?_; intro v4 w4 hap)
            | fail)
          exact ⟨⟨i + 1, v4, _, by omega, by go_num, rfl, HI.out.next HU.out (by rw [HWF.out.1]; decide) HG.out hap⟩, by simp [intOf]; omega⟩
        · have hlti' : ¬ ((i : Int) < (ns : Int)) := by omega
          obtain rfl : ns = i := by omega
          go_wp2_with fail
          refine Calls.mono HBLK.out ?_
          rintro e wq ⟨rfl, hwq⟩
          have h2 := hwq.symm
          subst h2
          clear hwq HBLK p0
          obtain ⟨w7, rfl⟩ : ∃ w7, w7 = wr := ⟨_, rfl⟩
          obtain ⟨av, cv, hvs⟩ := ownsRow_sl HI.out.row
          rw [HI.out.len] at hvs
          subst hvs
          have HT7 := Hid.mk' (HT6.out.add HI.out.grow)
          have HIF : Hid (∀ b, w6.heap.size ≤ b → b < w7.heap.size → (fun b => F b ∨ (w6.heap.size ≤ b ∧ b < w7.heap.size)) b) := fun b h1 h2 => .inr ⟨h1, h2⟩
          have HI3 : Hid (But (fun b => ¬ F b) w3 w7) := HTI.out.but
          have HFF : Hid (∀ b, F b → (fun b => F b ∨ (w6.heap.size ≤ b ∧ b < w7.heap.size)) b) := fun b h => .inl h
          clear HTI
          generalize (fun b => F b ∨ (w6.heap.size ≤ b ∧ b < w7.heap.size)) = F2 at HT7 HIF HFF
          have HQ2 : Hid (∀ w', But (fun b => ¬ F2 b) w7 w' → But (fun b => ¬ F b) w3 w') := fun w' k => HI3.out.then k (fun b _ hn hf => hn (HFF.out b hf))
          have p0 : w7.cell? ⟨gp, 0, none⟩ = some (.pointer (some ⟨gd, 0, none⟩)) := (HLP.out _ (HQ2.out _ HT7.out.but)).cell 0
          have HSN := Hid.mk' (dsnap_all HT7.out HS1.out)
          have HS2 := Hid.mk' (keeps_snapd HS1.out HS1.out.xarm).1
          by_cases h8 : s1.im.length = 8
          · rw [show s1.nnum = 0 by unfold Dev.nnum; rw [if_pos h8], show s1.ncode = 11 by unfold Dev.ncode; rw [if_pos h8]] at HSN
            go_wp2_with fail
            refine Calls.mono HSN.out ?_
            rintro e w8 ⟨rfl, ht8⟩
            have HT8 := Hid.mk' ht8
            clear ht8 p0 HSN
            go_wp2_with fail
            refine Calls.mono (awake_any w8) ?_
            rintro e wB ⟨rfl, hgB⟩
            have HB := Hid.mk' (HBE.out _ (HQ2.out _ (HT8.out.then hgB).but))
            clear hgB
            go_wp2
            go_ret
            exact ⟨rfl, HB.out⟩
          obtain ⟨ni, hni⟩ : ∃ ni : Int, ni = (s1.im.length : Int) := ⟨_, rfl⟩
          have hn0 : 0 ≤ ni := by omega
          have hn8 : ni < 8 := by have := HS1.out.im; omega
          have HNI := Hid.mk' hni
          rw [show s1.nnum = ni by unfold Dev.nnum; rw [if_neg h8, hni], show s1.ncode = 0 by unfold Dev.ncode; rw [if_neg h8], show s1.snapd = s1.snapped by unfold Dev.snapd; rw [if_neg h8]] at HSN
          rw [show s1.snapd = s1.snapped by unfold Dev.snapd; rw [if_neg h8]] at HS2
          clear hni
          go_wp2_with fail
          refine Calls.mono HSN.out ?_
          rintro e w8 ⟨rfl, ht8⟩
          have HL20 : Hid (Law2 w w7 w8 gp gd gx F2 s1.snapped (k + 2 + 0)) := ⟨⟨s1.snapped, s, x, ht8, HAG.out, ⟨HOK.out.wt, HOK.out.wl⟩, HS2.out, ⟨Nat.le_trans HBS.out.wr (by omega), Nat.le_trans HBS.out.cnt (by omega), HBS.out.im, HBS.out.arm, HBS.out.xarm⟩, Kp.refl _⟩, HLP.out _ (HQ2.out _ (But.refl _ _)), HFF.out _ HFP.out, fun b hb => HFF.out b (HFW.out b hb), HGR0.out.then (HQ2.out _ (But.refl _ _)) (fun b hb hn => hn (HFW.out b hb))⟩
          clear ht8 p0 HSN h8 HT6
          go_wp2
          go_loopw [15] (fun iv wr => ∃ j : Nat, j ≤ n2 ∧ j ≤ 60 ∧ iv = .int .i64 (j : Int) ∧ Law2 w w7 wr gp gd gx F2 s1.snapped (k + 2 + j)) (fun iv _ => n2 - (intOf iv).toNat)
          case atStart => exact ⟨0, Nat.zero_le _, by decide, rfl, HL20.out⟩
          case round =>
            clear HL20
            obtain ⟨j, hjn, hj2, rfl, hlaw2⟩ := hrel
            have HL2 := Hid.mk' hlaw2
            clear hlaw2
            by_cases hlt2 : j < n2
            · by_cases h60 : j < 60
              · have hlt2' : (j : Int) < (n2 : Int) := by omega
                have h60' : (j : Int) < 60 := by omega
                obtain ⟨b, off, cap', ud, uf, e1, hbw, hcell, hra, hrb, hdat, hfat⟩ := H3.out.at hlt2
                simp only [Value.slice.injEq] at e1
                obtain ⟨rfl, -, rfl⟩ := e1
                have HCE := Hid.mk' hcell
                have HBW := Hid.mk' hbw
                have HDO : Hid (∀ w', Grow wr w' → Calls Try.prog 11 #[.agg #[.pointer (some ⟨gd, 0, none⟩), .pointer (some ⟨gx, 0, none⟩)], .agg (dcells (B j) ud uf).toArray] w' (DoIs2 F2 w7 gd gx s1.snapped (k + 2 + j + 1))) := fun w' g => fo_any (HL2.out.inn (by omega) hra hrb hdat hfat (HSM2.out (by first | rfl | trivial) j hlt2 (by omega)) g)
                clear hcell hbw hra hrb hdat hfat
                go_upto_region 21 with fail
                refine region_chain [([0, 1, 2, 3, 4], 5)] [] (But (fun b => ¬ F2 b) w7) (Grow wr) (by kernel_rfl) (by kernel_rfl) (fun _ _ h k => h.trans k) (fun _ h => (HL2.out.st.then h).but) ((But.refl _ wr).drew) ?_
                intro ι hne X hX
                refine still_val rfl (.agg #[.pointer (some ⟨gd, 0, none⟩), .pointer (some ⟨gx, 0, none⟩)]) rfl (fun x => exec_load_agg Try.underlying28 rfl (cs := [.pointer (some ⟨gd, 0, none⟩), .pointer (some ⟨gx, 0, none⟩)]) iPair (HL2.out.p (hX x)).cells0 rfl rfl) ?_
                intro K hK; go_simp; refine hK _ ?_; clear hK K
                iterate 3 (refine still_step rfl (fun K hK => ?_); go_simp; refine hK _ ?_; clear hK K)
                refine still_val rfl (.agg (dcells (B j) ud uf).toArray) rfl (fun x => exec_load_agg Try.underlying35 rfl iAct (HCE.out _ (HL2.out.heap (hX x) HBW.out)) rfl rfl) ?_
                intro K hK; go_simp; refine hK _ ?_; clear hK K
                refine still_nil ?_
                clear hX hne
                refine turn_call rfl rfl (fun v w' => (∃ r, v = .bool r) ∧ DoT2 F2 w7 w' gd gx s1.snapped (k + 2 + j + 1)) (fun _ w' => DoT2 F2 w7 w' gd gx s1.snapped (k + 2 + j + 1)) (fun _ _ _ h k => ⟨h.1, h.2.then k⟩) (fun _ _ h => h.2) (.inr (fun _ _ h => h.but)) 11 #[.agg #[.pointer (some ⟨gd, 0, none⟩), .pointer (some ⟨gx, 0, none⟩)], .agg (dcells (B j) ud uf).toArray] (fun _ => by kernel_rfl) ?_ ?_
                · intro w5 h5
                  refine Calls.mono (HDO.out _ h5) ?_
                  rintro e w6 ⟨r, rfl, h6⟩
                  exact ⟨_, rfl, ⟨r, rfl⟩, h6⟩
                rintro v ⟨wq, ⟨r, rfl⟩, -⟩ Y hY
                clear wq
                go_simp
                refine hY _ ?_
                clear hY Y
                intro ι hne X hX
                refine still_nil ?_
                clear hX hne
                rintro w5 ⟨-, h5⟩
                have HL5 := Hid.mk' (HL2.out.on h5)
                clear h5 HDO HCE HL2
                go_wp2
                exact ⟨⟨j + 1, by omega, by omega, by go_num, HL5.out⟩, by simp [intOf]; omega⟩
              · have hlt2' : (j : Int) < (n2 : Int) := by omega
                have h60' : ¬ ((j : Int) < 60) := by omega
                obtain ⟨s3, gg, x3, ht3, -, -, hb3, -, hkp⟩ := HL2.out.st.ex
                have HT3 := Hid.mk' ht3
                have HB3 := Hid.mk' hb3
                have HKP := Hid.mk' hkp
                clear ht3 hb3 hkp
                obtain ⟨wM, rfl⟩ : ∃ wM, wM = wr := ⟨_, rfl⟩
                have p0 : wM.cell? ⟨gp, 0, none⟩ = some (.pointer (some ⟨gd, 0, none⟩)) := (HLP.out _ (HQ2.out _ HT3.out.but)).cell 0
                have HBA := Hid.mk' (dback_all HT3.out (s1.im.length : Int))
                have HSB := Hid.mk' (keeps_backd HB3.out HT3.out.ok HB3.out.xarm (s1.im.length : Int)).1
                rw [(back_iok HKP.out).1, (back_iok HKP.out).2] at HBA
                rw [(back_iok HKP.out).2] at HSB
                rw [← HNI.out] at HBA
                have HSTL : Hid ((s3.backed s1.im.length).st.length = s1.st.length) := back_len HKP.out
                have HSTN : Hid (∀ i, i < s1.st.length → (s3.backed s1.im.length).st.getD i [] = s1.now i) := fun i hi => back_now HKP.out hi
                have HSTW : Hid ((s3.backed s1.im.length).wt = []) := rfl
                generalize s3.backed s1.im.length = s4 at HBA HSB HSTL HSTN HSTW
                go_wp2_with fail
                refine Calls.mono HBA.out ?_
                rintro e wP ⟨rfl, htP⟩
                have HTP := Hid.mk' htP
                clear htP p0 HBA
                have p0 : wP.cell? ⟨gp, 0, none⟩ = some (.pointer (some ⟨gd, 0, none⟩)) := (HLP.out _ (HQ2.out _ HTP.out.but)).cell 0
                have HWT : Hid (Calls Try.prog 22 #[.pointer (some ⟨gd, 0, none⟩)] wP fun e w' => e = .returned (.int .i64 0) ∧ Grow wP w') := by
                  obtain ⟨own, hd, -, -⟩ := HTP.out.dev
                  have h9 := waits_any hd (by have := HSB.out.wr; omega)
                  rw [HSTW.out] at h9
                  exact h9
                go_wp2_with fail
                refine Calls.mono HWT.out ?_
                rintro e wQ ⟨rfl, hgQ⟩
                have HTQ := Hid.mk' (HTP.out.then hgQ)
                clear hgQ p0 HWT
                have p0 : wQ.cell? ⟨gp, 0, none⟩ = some (.pointer (some ⟨gd, 0, none⟩)) := (HLP.out _ (HQ2.out _ HTQ.out.but)).cell 0
                have HON := Hid.mk' (don_all HTQ.out (nil_intf _ _) HSB.out (by omega))
                have HON9 : Hid _ := on_none HSTW.out []
                have HUP9 := Hid.mk' (ond_up s4 [])
                generalize s4.ond [] = s9 at HON HON9 HUP9
                have HNW : Hid (∀ i, i < ns → s9.now i = s1.now i) := fun i hi => by
                  rw [now_flat HON9.out.2, HON9.out.1]
                  exact HSTN.out i (by rw [← HNS.out]; exact hi)
                have HNS5 : Hid (ns = s9.st.length) := by rw [HON9.out.1, HSTL.out]; exact HNS.out
                go_wp2_with fail
                refine Calls.mono HON.out ?_
                rintro e w9 ⟨rfl, ht9⟩
                have HT9 := Hid.mk' ht9
                clear ht9 p0 HON HL2
                go_wp2
                go_loopw [16] (fun iv wr => ∃ j : Nat, j ≤ ns ∧ iv = .int .i64 (j : Int) ∧ Grow w9 wr) (fun iv _ => ns - (intOf iv).toNat)
                case atStart => exact ⟨0, Nat.zero_le _, rfl, But.refl _ _⟩
                case round =>
                  obtain ⟨j, hjn, rfl, hgr⟩ := hrel
                  have HGR := Hid.mk' hgr
                  have HTJ := Hid.mk' (HT9.out.then hgr)
                  clear hgr
                  by_cases hltj : j < ns
                  · have hltj' : (j : Int) < (ns : Int) := by omega
                    obtain ⟨gv, cv', uj, ev, cuj, hbj⟩ := HI.out.at HIF.out HTJ.out.but hltj
                    simp only [Value.slice.injEq] at ev
                    obtain ⟨rfl, -, rfl⟩ := ev
                    have HCUJ := Hid.mk' cuj
                    have HBJ := Hid.mk' hbj
                    have p0 : wr.cell? ⟨gp, 0, none⟩ = some (.pointer (some ⟨gd, 0, none⟩)) := (HLP.out _ (HQ2.out _ HTJ.out.but)).cell 0
                    have HRD := Hid.mk' (dread_all HTJ.out (j : Int))
                    rw [(up_codes HUP9.out (by rw [← HNS5.out]; exact hltj)).1, (up_codes HUP9.out (by rw [← HNS5.out]; exact hltj)).2, HNW.out j hltj] at HRD
                    clear cuj hbj
                    go_wp2_with fail
                    refine Calls.mono HRD.out ?_
                    rintro e w1 ⟨u, rfl, hu, hg⟩
                    obtain ⟨ua, un, uc, rfl⟩ := hu.bs.sl
                    obtain ⟨ta, tn, tc, rfl⟩ := HBJ.out.sl
                    have HSA := Hid.mk' (same_any hu.bs (HBJ.out.but hg (fun _ _ _ h => h)))
                    rw [decide_eq_true rfl] at HSA
                    have cuj : w1.cell? ⟨gv, j, none⟩ = some (.slice ta tn tc) := grow_cell hg HCUJ.out
                    have HG1 : Hid (Grow w9 w1) := HGR.out.trans hg
                    clear hu hg p0 HRD HBJ HCUJ
                    go_wp2_with fail
                    refine Calls.mono HSA.out ?_
                    rintro e w2' ⟨rfl, hd2⟩
                    have HG2 : Hid (Grow w9 w2') := by obtain ⟨d, rfl⟩ := hd2; exact HG1.out.drewN
                    clear hd2 cuj HSA
                    go_wp2
                    exact ⟨⟨j + 1, by omega, by go_num, HG2.out⟩, by simp [intOf]; omega⟩
                  · have hltj' : ¬ ((j : Int) < (ns : Int)) := by omega
                    go_wp2_with fail
                    refine Calls.mono (awake_any wr) ?_
                    rintro e wB ⟨rfl, hgB⟩
                    have HB := Hid.mk' (HBE.out _ (HQ2.out _ (HTJ.out.then hgB).but))
                    clear hgB
                    go_wp2
                    go_ret
                    exact ⟨rfl, HB.out⟩
            · have hlt2' : ¬ ((j : Int) < (n2 : Int)) := by omega
              obtain ⟨s3, gg, x3, ht3, -, -, hb3, -, hkp⟩ := HL2.out.st.ex
              have HT3 := Hid.mk' ht3
              have HB3 := Hid.mk' hb3
              have HKP := Hid.mk' hkp
              clear ht3 hb3 hkp
              obtain ⟨wM, rfl⟩ : ∃ wM, wM = wr := ⟨_, rfl⟩
              have p0 : wM.cell? ⟨gp, 0, none⟩ = some (.pointer (some ⟨gd, 0, none⟩)) := (HLP.out _ (HQ2.out _ HT3.out.but)).cell 0
              have HBA := Hid.mk' (dback_all HT3.out (s1.im.length : Int))
              have HSB := Hid.mk' (keeps_backd HB3.out HT3.out.ok HB3.out.xarm (s1.im.length : Int)).1
              rw [(back_iok HKP.out).1, (back_iok HKP.out).2] at HBA
              rw [(back_iok HKP.out).2] at HSB
              rw [← HNI.out] at HBA
              have HSTL : Hid ((s3.backed s1.im.length).st.length = s1.st.length) := back_len HKP.out
              have HSTN : Hid (∀ i, i < s1.st.length → (s3.backed s1.im.length).st.getD i [] = s1.now i) := fun i hi => back_now HKP.out hi
              have HSTW : Hid ((s3.backed s1.im.length).wt = []) := rfl
              generalize s3.backed s1.im.length = s4 at HBA HSB HSTL HSTN HSTW
              go_wp2_with fail
              refine Calls.mono HBA.out ?_
              rintro e wP ⟨rfl, htP⟩
              have HTP := Hid.mk' htP
              clear htP p0 HBA
              have p0 : wP.cell? ⟨gp, 0, none⟩ = some (.pointer (some ⟨gd, 0, none⟩)) := (HLP.out _ (HQ2.out _ HTP.out.but)).cell 0
              have HWT : Hid (Calls Try.prog 22 #[.pointer (some ⟨gd, 0, none⟩)] wP fun e w' => e = .returned (.int .i64 0) ∧ Grow wP w') := by
                obtain ⟨own, hd, -, -⟩ := HTP.out.dev
                have h9 := waits_any hd (by have := HSB.out.wr; omega)
                rw [HSTW.out] at h9
                exact h9
              go_wp2_with fail
              refine Calls.mono HWT.out ?_
              rintro e wQ ⟨rfl, hgQ⟩
              have HTQ := Hid.mk' (HTP.out.then hgQ)
              clear hgQ p0 HWT
              have p0 : wQ.cell? ⟨gp, 0, none⟩ = some (.pointer (some ⟨gd, 0, none⟩)) := (HLP.out _ (HQ2.out _ HTQ.out.but)).cell 0
              have HON := Hid.mk' (don_all HTQ.out (nil_intf _ _) HSB.out (by omega))
              have HON9 : Hid _ := on_none HSTW.out []
              have HUP9 := Hid.mk' (ond_up s4 [])
              generalize s4.ond [] = s9 at HON HON9 HUP9
              have HNW : Hid (∀ i, i < ns → s9.now i = s1.now i) := fun i hi => by
                rw [now_flat HON9.out.2, HON9.out.1]
                exact HSTN.out i (by rw [← HNS.out]; exact hi)
              have HNS5 : Hid (ns = s9.st.length) := by rw [HON9.out.1, HSTL.out]; exact HNS.out
              go_wp2_with fail
              refine Calls.mono HON.out ?_
              rintro e w9 ⟨rfl, ht9⟩
              have HT9 := Hid.mk' ht9
              clear ht9 p0 HON HL2
              go_wp2
              go_loopw [16] (fun iv wr => ∃ j : Nat, j ≤ ns ∧ iv = .int .i64 (j : Int) ∧ Grow w9 wr) (fun iv _ => ns - (intOf iv).toNat)
              case atStart => exact ⟨0, Nat.zero_le _, rfl, But.refl _ _⟩
              case round =>
                obtain ⟨j, hjn, rfl, hgr⟩ := hrel
                have HGR := Hid.mk' hgr
                have HTJ := Hid.mk' (HT9.out.then hgr)
                clear hgr
                by_cases hltj : j < ns
                · have hltj' : (j : Int) < (ns : Int) := by omega
                  obtain ⟨gv, cv', uj, ev, cuj, hbj⟩ := HI.out.at HIF.out HTJ.out.but hltj
                  simp only [Value.slice.injEq] at ev
                  obtain ⟨rfl, -, rfl⟩ := ev
                  have HCUJ := Hid.mk' cuj
                  have HBJ := Hid.mk' hbj
                  have p0 : wr.cell? ⟨gp, 0, none⟩ = some (.pointer (some ⟨gd, 0, none⟩)) := (HLP.out _ (HQ2.out _ HTJ.out.but)).cell 0
                  have HRD := Hid.mk' (dread_all HTJ.out (j : Int))
                  rw [(up_codes HUP9.out (by rw [← HNS5.out]; exact hltj)).1, (up_codes HUP9.out (by rw [← HNS5.out]; exact hltj)).2, HNW.out j hltj] at HRD
                  clear cuj hbj
                  go_wp2_with fail
                  refine Calls.mono HRD.out ?_
                  rintro e w1 ⟨u, rfl, hu, hg⟩
                  obtain ⟨ua, un, uc, rfl⟩ := hu.bs.sl
                  obtain ⟨ta, tn, tc, rfl⟩ := HBJ.out.sl
                  have HSA := Hid.mk' (same_any hu.bs (HBJ.out.but hg (fun _ _ _ h => h)))
                  rw [decide_eq_true rfl] at HSA
                  have cuj : w1.cell? ⟨gv, j, none⟩ = some (.slice ta tn tc) := grow_cell hg HCUJ.out
                  have HG1 : Hid (Grow w9 w1) := HGR.out.trans hg
                  clear hu hg p0 HRD HBJ HCUJ
                  go_wp2_with fail
                  refine Calls.mono HSA.out ?_
                  rintro e w2' ⟨rfl, hd2⟩
                  have HG2 : Hid (Grow w9 w2') := by obtain ⟨d, rfl⟩ := hd2; exact HG1.out.drewN
                  clear hd2 cuj HSA
                  go_wp2
                  exact ⟨⟨j + 1, by omega, by go_num, HG2.out⟩, by simp [intOf]; omega⟩
                · have hltj' : ¬ ((j : Int) < (ns : Int)) := by omega
                  go_wp2_with fail
                  refine Calls.mono (awake_any wr) ?_
                  rintro e wB ⟨rfl, hgB⟩
                  have HB := Hid.mk' (HBE.out _ (HQ2.out _ (HTJ.out.then hgB).but))
                  clear hgB
                  go_wp2
                  go_ret
                  exact ⟨rfl, HB.out⟩

set_option maxRecDepth 100000 in
theorem devBack_lifted (os : Os) (started : os.Started) (H : Type) (enc : TypeId × Value → H) :
    ReturnsInHanded {} Try.checked os 5 .any (Rows.devBackSpec.pre6 enc Try.prog Try.f5 Rows.devBackRow.domain false) (Rows.devBackSpec.post enc Try.prog Try.f5 false true false false) := by
  refine returnsInHanded_of_change_sized (C := Try.checked) (by kernel_rfl) started (by kernel_rfl) Try.func5
    (ChangeSpec.witness6 (enc := enc) (C := Try.checked) false ⟨#[], #[.int .i64 0, .slice none 0 0, .slice none 0 0], []⟩ 8 (by kernel_rfl) (by kernel_rfl) (by kernel_rfl) (by kernel_rfl)) ?_
  intro W base args ds gs before hval0 hW hcnd hsz0 _
  have hsz : (DataW.weightsEach Try.prog (Try.f5.params.toList ++ Rows.devBackSpec.plain.varTypes Try.prog) (ds ++ gs)).all (· ≤ reachBytes) = true := hsz0
  clear hsz0
  have hval : ∀ (j : Nat) t v, Try.f5.params[j]? = some t → args[j]? = some v → Value.okWide Try.prog W .any base t v := hval0
  have hW' := hW
  obtain ⟨p, q, hA0, hV, rfl, hfz, hnd⟩ := hW
  have hA : DataW.TrodAll enc Try.prog W 0 (fun _ => true) true Try.f5.params.toList args.toList ds p := hA0
  rw [Try.params5] at hA hval hsz
  obtain ⟨v0, vs0, d0, ds0, p0, q0, hargs, rfl, rfl, h0, r0⟩ := trodAll_cons hA
  obtain ⟨v1, vs1, d1, ds1, p1, q1, rfl, rfl, rfl, h1, r1⟩ := trodAll_cons r0
  obtain ⟨v2, vs2, d2, ds2, p2, q2, rfl, rfl, rfl, h2, r2⟩ := trodAll_cons r1
  obtain ⟨rfl, rfl, rfl⟩ := trodAll_nil r2
  obtain rfl : args = #[v0, v1, v2] := by cases args; simp_all
  obtain ⟨rfl, rfl⟩ := trodVars_none hV
  obtain ⟨a0, rfl, rfl, rfl, w0⟩ := open_int Try.underlying3 (hval 0 3 v0 rfl rfl) h0
  have lt1 : ∀ x ∈ p1, x.block < W.heap.size := by obtain ⟨m, hm⟩ := h1; exact DataW.trod_lt m _ _ _ hm
  obtain ⟨n1, z1, w1⟩ := view_dacts (hval 1 22 v1 rfl rfl) h1 lt1 hsz (j := 1) rfl rfl
  have lt2 : ∀ x ∈ p2, x.block < W.heap.size := by obtain ⟨m, hm⟩ := h2; exact DataW.trod_lt m _ _ _ hm
  obtain ⟨n2, z2, w2⟩ := view_dacts (hval 2 22 v2 rfl rfl) h2 lt2 hsz (j := 2) rfl rfl
  clear hA0 hval0
  refine (devBack_walk a0 v1 n1 z1 v2 n2 z2 W w0 w1 w2).mono fun e W' ⟨he, bel⟩ => ?_
  subst he
  exact ⟨_, rfl, _, _, _, [], _, [], hW', trodAll_mk1 (shut_bool Try.underlying4 _), (trodAll_cons_mk (shut_int Try.underlying3 w0) (trodAll_cons_mk (Below.trod (by kernel_rfl) (by kernel_rfl) (of_decide_eq_true (by kernel_rfl)) h1 bel lt1) (trodAll_cons_mk (Below.trod (by kernel_rfl) (by kernel_rfl) (of_decide_eq_true (by kernel_rfl)) h2 bel lt2) trodAll_mk0))), rfl, bel.frame _, fun h => by cases h⟩

theorem devBack_holds : Rows.DevBackSaid :=
  OpenClaim.holds_of_wide 5 Try.f5 rfl rfl rfl rfl rfl rfl rfl ⟨rfl, rfl, rfl, rfl, rfl⟩ rfl rfl rfl rfl rfl (by kernel_rfl) Try.func5 (by kernel_rfl)
    (of_decide_eq_true (by kernel_rfl)) (by unfold Func.isWrapper; first | (rw [if_pos (by decide +kernel)]; kernel_rfl) | (rw [if_neg (by decide +kernel)]; exact ⟨rfl, rfl⟩))
    (fun os started H enc _ => devBack_lifted os started H enc)
#print axioms devBack_holds
end Go.Proofs.Ytfgcbcopgikodaa
