/- DevKeeps: the walk. -/
import Derived.Test.YtfgcbcopgikodaaDvKeepG
import Derived.ProofKit
import Derived.OpenShut
import Derived.ChangeOld
import Derived.Below
namespace Go.Proofs.Ytfgcbcopgikodaa
open Go.ChangeShapes Go.WideShapes Go.ChangeAt Go.RowKit

set_option maxRecDepth 100000 in
set_option maxHeartbeats 8000000 in
theorem devKeeps_walk (a0 : Int) (v1 : Value) (n : Nat) (A : Nat → DA) (w : World) (_ : (Lit.int .i64 a0).wf = true) (h1 : DActs w v1 n A) :
    Calls Try.prog 6 #[.int .i64 a0, v1] w fun e w' => e = .returned (.bool true) ∧ Below w.heap.size w w' := by
  have H1 := Hid.mk' h1
  have HGT := Hid.mk' (dgreat_any h1)
  obtain ⟨ao, cap, rfl⟩ := h1.sl
  clear h1
  go_enter Try.func6, Try.ntmps6
  go_wp2_with fail
  refine Calls.mono HGT.out ?_
  rintro e w1 ⟨b, rfl, htold⟩
  have h2 := htold.same.symm
  subst h2
  have HSM := Hid.mk' htold.small
  clear htold HGT
  cases b
  case true =>
    go_wp2_with fail
    refine Calls.mono (awake_any w) ?_
    rintro e w1 ⟨rfl, hgq⟩
    have HGQ := Hid.mk' hgq
    clear hgq
    go_wp2
    go_ret
    exact ⟨rfl, HGQ.out.below (Nat.le_refl _) (fun _ _ h => h)⟩
  obtain ⟨q, hq⟩ : ∃ q, q = a0 % 20 := ⟨_, rfl⟩
  have hq0 : 0 ≤ q := by rw [hq]; exact Int.emod_nonneg a0 (by decide)
  have hq1 : q < 20 := by rw [hq]; exact Int.emod_lt_of_pos a0 (by decide)
  have HPK := Hid.mk' (pick20 a0 w)
  rw [← hq] at HPK
  have HBG : Hid (Calls Try.prog 9 #[.int .i64 (1 + q)] w (BegIs w (1 + q.toNat))) := by
    have e : (1 + q : Int) = ((1 + q.toNat : Nat) : Int) := by omega
    rw [e]
    exact begun_any w (by omega) (by omega)
  obtain ⟨N, hN⟩ : ∃ N, N = 1 + q.toNat := ⟨_, rfl⟩
  have HN : Hid (1 ≤ N ∧ N ≤ 20) := by show _ ∧ _; omega
  rw [← hN] at HBG
  clear hq hN
  go_wp2_with fail
  refine Calls.mono HPK.out ?_
  rintro e w1 ⟨rfl, hw1⟩
  have h2 := hw1.symm
  subst h2
  clear hw1 HPK
  go_wp2_with fail
  refine Calls.mono HBG.out ?_
  rintro e w2 ⟨gd, gx, rfl, htw⟩
  have HTW := Hid.mk' htw
  have HBZ : Hid (Blk (w2.alloc (.cells #[.pointer none, .pointer none] 28)) w2.heap.size 28 [.pointer none, .pointer none]) := Blk.new (L := [.pointer none, .pointer none]) rfl
  have hz := zPair
  clear htw HBG
  go_wp2_with (first
    | (refine wpList_store_at rfl _ _ _ rfl w2.heap.size 0 [.pointer (some ⟨gd, 0, none⟩), .pointer (some ⟨gx, 0, none⟩)] rfl rfl 28 [] [.pointer none, .pointer none] [] (by simpa using HBZ.out) rfl rfl iPair (fun u hu => by
        rcases List.mem_cons.1 hu with rfl | hu
        · rfl
        · rw [show u = .pointer (some ⟨gx, 0, none⟩) by simpa using hu]; rfl) ?_; intro w3 hb3 hbut3; rw [List.nil_append, List.append_nil] at hb3)
    | fail)
  have hg3 : Grow w2 w3 := ((But.refl _ w2).alloc _).then hbut3 (fun b hb e => by omega)
  obtain ⟨F, hlaw⟩ := HTW.out.law hg3 hb3
  obtain ⟨gp, hgp⟩ : ∃ gp, gp = w2.heap.size := ⟨_, rfl⟩
  rw [← hgp] at hlaw ⊢
  have HLAW := Hid.mk' hlaw
  clear hz hb3 hbut3 hg3 hlaw hgp HTW HBZ hq0 hq1
  obtain ⟨s0, hs0⟩ : ∃ s0, s0 = Dev.fresh N := ⟨_, rfl⟩
  rw [← hs0] at HLAW
  clear hs0 HN
  go_wp2
  go_loopw [6] (fun iv wr => ∃ k : Nat, k ≤ n ∧ k ≤ 100 ∧ iv = .int .i64 (k : Int) ∧ Law w w3 wr gp gd gx F s0 k) (fun iv _ => n - (intOf iv).toNat)
  case atStart => exact ⟨0, Nat.zero_le _, by decide, rfl, HLAW.out⟩
  case round =>
    clear HLAW
    obtain ⟨k, hkn, hk2, rfl, hlaw⟩ := hrel
    have HL := Hid.mk' hlaw
    clear hlaw
    by_cases hlt : k < n
    · by_cases h200 : k < 100
      · have hlt' : (k : Int) < (n : Int) := by omega
        have h200' : (k : Int) < 100 := by omega
        obtain ⟨b, off, cap', ud, uf, e1, hbw, hcell, hra, hrb, hdat, hfat⟩ := H1.out.at hlt
        simp only [Value.slice.injEq] at e1
        obtain ⟨rfl, -, rfl⟩ := e1
        have HCE := Hid.mk' hcell
        have HBW := Hid.mk' hbw
        have HDO : Hid (∀ w', Grow wr w' → Calls Try.prog 11 #[.agg #[.pointer (some ⟨gd, 0, none⟩), .pointer (some ⟨gx, 0, none⟩)], .agg (dcells (A k) ud uf).toArray] w' (DoIs F w3 gd gx s0 (k + 1))) := fun w' g => do_any (HL.out.inn (by omega) hra hrb hdat hfat (HSM.out (by first | rfl | trivial) k hlt (by omega)) g)
        clear hcell hbw hra hrb hdat hfat
        go_upto_region 7 with fail
        refine region_chain [([0, 1, 2, 3, 4], 5)] [] (But (fun b => ¬ F b) w3) (Grow wr) (by kernel_rfl) (by kernel_rfl) (fun _ _ h k => h.trans k) (fun _ h => (HL.out.st.then h).but) ((But.refl _ wr).drew) ?_
        intro ι hne X hX
        refine still_val rfl (.agg #[.pointer (some ⟨gd, 0, none⟩), .pointer (some ⟨gx, 0, none⟩)]) rfl (fun x => exec_load_agg Try.underlying28 rfl (cs := [.pointer (some ⟨gd, 0, none⟩), .pointer (some ⟨gx, 0, none⟩)]) iPair (HL.out.p (hX x)).cells0 rfl rfl) ?_
        intro K hK; go_simp; refine hK _ ?_; clear hK K
        iterate 3 (refine still_step rfl (fun K hK => ?_); go_simp; refine hK _ ?_; clear hK K)
        refine still_val rfl (.agg (dcells (A k) ud uf).toArray) rfl (fun x => exec_load_agg Try.underlying35 rfl iAct (HCE.out _ (HL.out.heap (hX x) HBW.out)) rfl rfl) ?_
        intro K hK; go_simp; refine hK _ ?_; clear hK K
        refine still_nil ?_
        clear hX hne
        refine turn_call rfl rfl (fun v w' => v = .bool true ∧ DoTo F w3 w' gd gx s0 (k + 1)) (fun _ w' => DoTo F w3 w' gd gx s0 (k + 1)) (fun _ _ _ h k => ⟨h.1, h.2.then k⟩) (fun _ _ h => h.2) (.inr (fun _ _ h => h.but)) 11 #[.agg #[.pointer (some ⟨gd, 0, none⟩), .pointer (some ⟨gx, 0, none⟩)], .agg (dcells (A k) ud uf).toArray] (fun _ => by kernel_rfl) ?_ ?_
        · intro w5 h5
          refine Calls.mono (HDO.out _ h5) ?_
          rintro e w6 ⟨rfl, h6⟩
          exact ⟨_, rfl, rfl, h6⟩
        rintro v ⟨wq, rfl, -⟩ Y hY
        clear wq
        go_simp
        refine hY _ ?_
        clear hY Y
        intro ι hne X hX
        refine still_nil ?_
        clear hX hne
        rintro w5 ⟨-, h5⟩
        have HL5 := Hid.mk' (HL.out.on h5)
        clear h5 HDO HCE HL
        have p0 : w5.cell? ⟨gp, 0, none⟩ = some (.pointer (some ⟨gd, 0, none⟩)) := HL5.out.pw.cell 0
        go_wp2_with fail
        refine Calls.mono (HL5.out.told2 (by omega)) ?_
        rintro e w6 ⟨al, m, cl, U, rfl, hg6, hm6, hkt6⟩
        have HKT6 := Hid.mk' hkt6
        have HG6 := Hid.mk' hg6
        have hmb : (m : Int) ≤ 1000 := by omega
        have HMB := Hid.mk' hm6
        have HAL : Hid (0 < m → ∃ g, al = some ⟨g, 0, none⟩) := fun h0 => by
          obtain ⟨g, e, -⟩ := hkt6.row h0
          exact ⟨g, e⟩
        clear hg6 hm6 hkt6 p0
        go_wp2
        go_loopw [8] (fun iv wr => ∃ j : Nat, j ≤ m ∧ iv = .int .i64 (j : Int) ∧ KT wr w5.heap.size al m U ∧ Grow w5 wr) (fun iv _ => m - (intOf iv).toNat)
        case atStart => exact ⟨0, Nat.zero_le _, rfl, HKT6.out, HG6.out⟩
        case round =>
          clear HKT6 HG6
          obtain ⟨j, hjm, rfl, hkt, hgr⟩ := hrel
          have HKT := Hid.mk' hkt
          have HGR := Hid.mk' hgr
          clear hkt hgr
          by_cases hlj : j < m
          · have hlj' : (j : Int) < (m : Int) := by omega
            obtain ⟨g, rfl⟩ := HAL.out (by omega)
            obtain ⟨u, hu⟩ : ∃ u, U[j]? = some u := ⟨_, List.getElem?_eq_getElem (by rw [HKT.out.len]; exact hlj)⟩
            obtain ⟨ge, nu, cu, z, T, R, rfl, hnu, hge, hz, hbk⟩ := HKT.out.el u (List.mem_of_getElem? hu)
            obtain ⟨g', e1, -, hrow⟩ := HKT.out.row (by omega)
            simp only [Option.some.injEq, Addr.mk.injEq, and_true] at e1
            subst e1
            have HCU : Hid (wr.cell? ⟨g, j * 2 + 1, none⟩ = some (.slice (some ⟨ge, 0, none⟩) nu cu)) := (hrow j _ hu).1
            have hnu' : (0 : Int) < (nu : Int) := by omega
            have hw1 : IntKind.u8.wrap ((z : Int) + 1) = (((z + 1) % 256 : Nat) : Int) := u8_next z hz
            obtain ⟨y, hy⟩ : ∃ y, y = (z + 1) % 256 := ⟨_, rfl⟩
            have HY : Hid (y < 256) := by show _ < _; omega
            rw [← hy] at hw1
            have HBK := Hid.mk' hbk
            have HUJ := Hid.mk' hu
            have HGE := Hid.mk' hge
            clear hu hz hy hbk hrow hge
            go_upto_region 12 with fail
            refine region_chain [([0, 1, 2, 3, 4, 5, 6, 7, 8, 9, 10, 11, 12, 13], 14)] [] (Grow wr) (Grow wr) (by kernel_rfl) (by kernel_rfl) (fun _ _ h k => h.trans k) (fun _ h => h) ((But.refl _ wr).drew) ?_
            intro ι hne X hX
            have c2 : ∀ x, (X x).cell? ⟨g, j * 2 + 1, none⟩ = some (.slice (some ⟨ge, 0, none⟩) nu cu) := fun x => grow_cell (hX x) HCU.out
            have c3 : ∀ x, (X x).cell? ⟨ge, 0, none⟩ = some (.int .u8 (z : Int)) := fun x => (HBK.out.but (hX x) (fun h => h)).cell 0
            iterate 14 (refine still_step rfl (fun K hK => ?_); go_simp; refine hK _ ?_; clear hK K)
            refine still_nil ?_
            clear c2 c3 hX hne
            refine turn_run rfl rfl (fun _ w' => ∃ wq, Grow wr wq ∧ Grow (wq.setCell ⟨ge, 0, none⟩ (.int .u8 (y : Int))) w') (fun _ _ => True) ?_ (fun _ _ _ => trivial) (.inl (by kernel_rfl)) ?_ ?_
            · rintro v wa wb ⟨wq, h1, h2⟩ h3
              exact ⟨wq, h1, h2.trans h3⟩
            · intro wa ha
              exact turn_store (by kernel_rfl) rfl rfl rfl rfl (HBK.out.but ha (fun h => h)) (Nat.zero_lt_succ _) ⟨wa, ha, But.refl _ _⟩
            · rintro v5 - Y hY
              go_simp
              refine hY _ ?_
              clear hY Y
              intro ι hne X hX
              refine still_nil ?_
              clear hX hne
              rintro wa ⟨wq, h1, h2⟩
              have HK6 := Hid.mk' ((((HKT.out.grow h1).set HUJ.out HY.out)).grow h2)
              have HG7 : Hid (Grow w5 wa) := ((HGR.out.trans h1).then (But.set1 wq ge 0 (.int .u8 (y : Int))) (fun b hb e => by have := HGE.out; omega)).trans h2
              clear h1 h2
              go_wp2
              exact ⟨⟨j + 1, by omega, by go_num, HK6.out, HG7.out⟩, by simp [intOf]; omega⟩
          · have hlj' : ¬ ((j : Int) < (m : Int)) := by omega
            obtain ⟨w7, rfl⟩ : ∃ w7, w7 = wr := ⟨_, rfl⟩
            have HL7 := Hid.mk' (HL5.out.then HGR.out)
            clear HKT HGR
            have p0 : w7.cell? ⟨gp, 0, none⟩ = some (.pointer (some ⟨gd, 0, none⟩)) := HL7.out.pw.cell 0
            go_wp2_with fail
            refine Calls.mono HL7.out.read0 ?_
            rintro e w8 ⟨ab, mb, cb, cc, rfl, hg8, hm8, hw8⟩
            have HG8 := Hid.mk' hg8
            have HW8 := Hid.mk' hw8
            have hmb8 : (mb : Int) ≤ 256 := by omega
            clear hg8 hm8 hw8 p0
            go_wp2
            go_loopw [11] (fun iv wr => ∃ t : Nat, t ≤ mb ∧ iv = .int .i64 (t : Int) ∧ Wri w8 wr w7.heap.size ab mb) (fun iv _ => mb - (intOf iv).toNat)
            case atStart => exact ⟨0, Nat.zero_le _, rfl, HW8.out⟩
            case round =>
              obtain ⟨t, htm, rfl, hwri⟩ := hrel
              by_cases hltt : t < mb
              · have hltt' : (t : Int) < (mb : Int) := by omega
                obtain ⟨g, z, rfl, hz, cz, fz, hset⟩ := hwri.next hltt
                have hw1 : IntKind.u8.wrap ((z : Int) + 1) = (((z + 1) % 256 : Nat) : Int) := u8_next z hz
                obtain ⟨y, hy⟩ : ∃ y, y = (z + 1) % 256 := ⟨_, rfl⟩
                rw [← hy] at hw1
                have HS := Hid.mk' (hset y (by omega))
                clear hset hz hy hwri
                go_wp2
                exact ⟨⟨t + 1, by omega, by go_num, HS.out⟩, by simp [intOf]; omega⟩
              · have hltt' : ¬ ((t : Int) < (mb : Int)) := by omega
                have HLZ : Hid (Law w w3 wr gp gd gx F s0 (k + 1)) := HL7.out.then (HG8.out.then hwri.but (fun b hb e => by
                  obtain ⟨g, T, R, zs', e1, e2, -⟩ := hwri.ex e.1
                  rw [e.2] at e1
                  simp only [Option.some.injEq, Addr.mk.injEq, and_true] at e1
                  omega))
                clear hwri
                go_wp2
                exact ⟨⟨k + 1, by omega, by omega, by go_num, HLZ.out⟩, by simp [intOf]; omega⟩
      · have hlt' : (k : Int) < (n : Int) := by omega
        have h200' : ¬ ((k : Int) < 100) := by omega
        obtain ⟨L, vx, M, -, hwr, c6, htw, hmap, hll⟩ := HL.out.told (by omega)
        have HWR := Hid.mk' hwr
        have HC6 := Hid.mk' c6
        have HTM := Hid.mk' htw
        have HMP := Hid.mk' hmap
        have HLL := Hid.mk' hll
        clear hwr c6 htw hmap hll
        go_upto_region 18 with fail
        refine region_chain [([0, 1, 2, 3, 4, 6, 7, 8, 9, 10], 5)] [11, 12, 13, 14, 15, 16] (Grow wr) (Grow wr) (by kernel_rfl) (by kernel_rfl) (fun _ _ h k => h.trans k) (fun _ h => h) ((But.refl _ wr).drew) ?_
        intro ι hne X hX
        have p0 : ∀ x, (X x).cell? ⟨gp, 0, none⟩ = some (.pointer (some ⟨gd, 0, none⟩)) := fun x => (HL.out.pw.but (hX x) (fun h => h)).cell 0
        have p1 : ∀ x, (X x).cell? ⟨gp, 1, none⟩ = some (.pointer (some ⟨gx, 0, none⟩)) := fun x => (HL.out.pw.but (hX x) (fun h => h)).cell 1
        have x6 : ∀ x, (X x).cell? ⟨gx, 6, none⟩ = some vx := fun x => grow_cell (hX x) HC6.out
        refine still_val rfl (.agg #[.pointer (some ⟨gd, 0, none⟩), .pointer (some ⟨gx, 0, none⟩)]) rfl (fun x => exec_load_agg Try.underlying28 rfl (cs := [.pointer (some ⟨gd, 0, none⟩), .pointer (some ⟨gx, 0, none⟩)]) iPair (HL.out.pw.but (hX x) (fun h => h)).cells0 rfl rfl) ?_
        intro K hK; go_simp; refine hK _ ?_; clear hK K
        refine still_call rfl (.bool true) 12 #[.agg #[.pointer (some ⟨gd, 0, none⟩), .pointer (some ⟨gx, 0, none⟩)]] rfl (fun x => by kernel_rfl) (fun x => alike_any (HL.out.st.then (hX x)) (by omega)) ?_
        intro K hK; go_simp; refine hK _ ?_; clear hK K
        iterate 8 (refine still_step rfl (fun K hK => ?_); go_simp; refine hK _ ?_; clear hK K)
        refine still_nil ?_
        clear hX hne p0 p1 x6
        refine turn_call rfl rfl (fun v w' => Grow wr w' ∧ TwOf w' v L) (fun v w' => Grow wr w' ∧ TwOf w' v L) (fun _ _ _ h k => ⟨h.1.trans k, h.2.grow k⟩) (fun _ _ h => h) (.inr (fun _ _ h => h.1)) 14 #[.pointer (some ⟨gd, 0, none⟩)] (fun _ => by kernel_rfl) ?_ ?_
        · intro w5 h5
          refine Calls.mono (HWR.out _ h5) ?_
          rintro e w6 ⟨v, rfl, h6, L', h7, h8⟩
          exact ⟨_, rfl, h5.trans h6, L', h7, h8.tw⟩
        rintro v - Y hY
        go_simp
        refine hY _ ?_
        clear hY Y
        intro ι hne X hX
        have hsw : ∀ x, Calls Try.prog 13 #[v, vx] (X x) fun e w' => e = .returned (.bool true) ∧ Grow (X x) w' := fun x => by
          obtain ⟨h5, L', h6, h7⟩ := hX x
          exact rsame_true h7 (HTM.out.grow h5) (h6.trans HMP.out.symm) (by have := congrArg List.length h6; rw [List.length_map] at this; have := HLL.out; omega)
        refine still_call rfl (.bool true) 13 #[v, vx] rfl (fun x => by kernel_rfl) (fun x => hsw x) ?_
        intro K hK; go_simp; refine hK _ ?_; clear hK K
        iterate 2 (refine still_step rfl (fun K hK => ?_); go_simp; refine hK _ ?_; clear hK K)
        refine still_call rfl (.bool true) 8 #[] rfl (fun x => by kernel_rfl) (fun x => awake_any _) ?_
        intro K hK; go_simp; refine hK _ ?_; clear hK K
        iterate 2 (refine still_step rfl (fun K hK => ?_); go_simp; refine hK _ ?_; clear hK K)
        refine still_nil ?_
        clear hX hne hsw
        rintro w5 ⟨h5, -⟩
        have HB := Hid.mk' (HL.out.below ((HL.out.st.then h5).but))
        clear h5
        go_wp2
        go_ret
        exact ⟨rfl, HB.out⟩
    · have hlt' : ¬ ((k : Int) < (n : Int)) := by omega
      obtain ⟨L, vx, M, -, hwr, c6, htw, hmap, hll⟩ := HL.out.told (by omega)
      have HWR := Hid.mk' hwr
      have HC6 := Hid.mk' c6
      have HTM := Hid.mk' htw
      have HMP := Hid.mk' hmap
      have HLL := Hid.mk' hll
      clear hwr c6 htw hmap hll
      go_upto_region 18 with fail
      refine region_chain [([0, 1, 2, 3, 4, 6, 7, 8, 9, 10], 5)] [11, 12, 13, 14, 15, 16] (Grow wr) (Grow wr) (by kernel_rfl) (by kernel_rfl) (fun _ _ h k => h.trans k) (fun _ h => h) ((But.refl _ wr).drew) ?_
      intro ι hne X hX
      have p0 : ∀ x, (X x).cell? ⟨gp, 0, none⟩ = some (.pointer (some ⟨gd, 0, none⟩)) := fun x => (HL.out.pw.but (hX x) (fun h => h)).cell 0
      have p1 : ∀ x, (X x).cell? ⟨gp, 1, none⟩ = some (.pointer (some ⟨gx, 0, none⟩)) := fun x => (HL.out.pw.but (hX x) (fun h => h)).cell 1
      have x6 : ∀ x, (X x).cell? ⟨gx, 6, none⟩ = some vx := fun x => grow_cell (hX x) HC6.out
      refine still_val rfl (.agg #[.pointer (some ⟨gd, 0, none⟩), .pointer (some ⟨gx, 0, none⟩)]) rfl (fun x => exec_load_agg Try.underlying28 rfl (cs := [.pointer (some ⟨gd, 0, none⟩), .pointer (some ⟨gx, 0, none⟩)]) iPair (HL.out.pw.but (hX x) (fun h => h)).cells0 rfl rfl) ?_
      intro K hK; go_simp; refine hK _ ?_; clear hK K
      refine still_call rfl (.bool true) 12 #[.agg #[.pointer (some ⟨gd, 0, none⟩), .pointer (some ⟨gx, 0, none⟩)]] rfl (fun x => by kernel_rfl) (fun x => alike_any (HL.out.st.then (hX x)) (by omega)) ?_
      intro K hK; go_simp; refine hK _ ?_; clear hK K
      iterate 8 (refine still_step rfl (fun K hK => ?_); go_simp; refine hK _ ?_; clear hK K)
      refine still_nil ?_
      clear hX hne p0 p1 x6
      refine turn_call rfl rfl (fun v w' => Grow wr w' ∧ TwOf w' v L) (fun v w' => Grow wr w' ∧ TwOf w' v L) (fun _ _ _ h k => ⟨h.1.trans k, h.2.grow k⟩) (fun _ _ h => h) (.inr (fun _ _ h => h.1)) 14 #[.pointer (some ⟨gd, 0, none⟩)] (fun _ => by kernel_rfl) ?_ ?_
      · intro w5 h5
        refine Calls.mono (HWR.out _ h5) ?_
        rintro e w6 ⟨v, rfl, h6, L', h7, h8⟩
        exact ⟨_, rfl, h5.trans h6, L', h7, h8.tw⟩
      rintro v - Y hY
      go_simp
      refine hY _ ?_
      clear hY Y
      intro ι hne X hX
      have hsw : ∀ x, Calls Try.prog 13 #[v, vx] (X x) fun e w' => e = .returned (.bool true) ∧ Grow (X x) w' := fun x => by
        obtain ⟨h5, L', h6, h7⟩ := hX x
        exact rsame_true h7 (HTM.out.grow h5) (h6.trans HMP.out.symm) (by have := congrArg List.length h6; rw [List.length_map] at this; have := HLL.out; omega)
      refine still_call rfl (.bool true) 13 #[v, vx] rfl (fun x => by kernel_rfl) (fun x => hsw x) ?_
      intro K hK; go_simp; refine hK _ ?_; clear hK K
      iterate 2 (refine still_step rfl (fun K hK => ?_); go_simp; refine hK _ ?_; clear hK K)
      refine still_call rfl (.bool true) 8 #[] rfl (fun x => by kernel_rfl) (fun x => awake_any _) ?_
      intro K hK; go_simp; refine hK _ ?_; clear hK K
      iterate 2 (refine still_step rfl (fun K hK => ?_); go_simp; refine hK _ ?_; clear hK K)
      refine still_nil ?_
      clear hX hne hsw
      rintro w5 ⟨h5, -⟩
      have HB := Hid.mk' (HL.out.below ((HL.out.st.then h5).but))
      clear h5
      go_wp2
      go_ret
      exact ⟨rfl, HB.out⟩

set_option maxRecDepth 100000 in
theorem devKeeps_lifted (os : Os) (started : os.Started) (H : Type) (enc : TypeId × Value → H) :
    ReturnsInHanded {} Try.checked os 6 .any (Rows.devKeepsSpec.pre6 enc Try.prog Try.f6 Rows.devKeepsRow.domain false) (Rows.devKeepsSpec.post enc Try.prog Try.f6 false true false false) := by
  refine returnsInHanded_of_change_sized (C := Try.checked) (by kernel_rfl) started (by kernel_rfl) Try.func6
    (ChangeSpec.witness6 (enc := enc) (C := Try.checked) false ⟨#[], #[.int .i64 0, .slice none 0 0], []⟩ 8 (by kernel_rfl) (by kernel_rfl) (by kernel_rfl) (by kernel_rfl)) ?_
  intro W base args ds gs before hval0 hW hcnd hsz0 _
  have hsz : (DataW.weightsEach Try.prog (Try.f6.params.toList ++ Rows.devKeepsSpec.plain.varTypes Try.prog) (ds ++ gs)).all (· ≤ reachBytes) = true := hsz0
  clear hsz0
  have hval : ∀ (j : Nat) t v, Try.f6.params[j]? = some t → args[j]? = some v → Value.okWide Try.prog W .any base t v := hval0
  have hW' := hW
  obtain ⟨p, q, hA0, hV, rfl, hfz, hnd⟩ := hW
  have hA : DataW.TrodAll enc Try.prog W 0 (fun _ => true) true Try.f6.params.toList args.toList ds p := hA0
  rw [Try.params6] at hA hval hsz
  obtain ⟨v0, vs0, d0, ds0, p0, q0, hargs, rfl, rfl, h0, r0⟩ := trodAll_cons hA
  obtain ⟨v1, vs1, d1, ds1, p1, q1, rfl, rfl, rfl, h1, r1⟩ := trodAll_cons r0
  obtain ⟨rfl, rfl, rfl⟩ := trodAll_nil r1
  obtain rfl : args = #[v0, v1] := by cases args; simp_all
  obtain ⟨rfl, rfl⟩ := trodVars_none hV
  obtain ⟨a0, rfl, rfl, rfl, w0⟩ := open_int Try.underlying3 (hval 0 3 v0 rfl rfl) h0
  have lt1 : ∀ x ∈ p1, x.block < W.heap.size := by obtain ⟨m, hm⟩ := h1; exact DataW.trod_lt m _ _ _ hm
  obtain ⟨n1, z1, w1⟩ := view_dacts (hval 1 22 v1 rfl rfl) h1 lt1 hsz (j := 1) rfl rfl
  clear hA0 hval0
  refine (devKeeps_walk a0 v1 n1 z1 W w0 w1).mono fun e W' ⟨he, bel⟩ => ?_
  subst he
  exact ⟨_, rfl, _, _, _, [], _, [], hW', trodAll_mk1 (shut_bool Try.underlying4 _), (trodAll_cons_mk (shut_int Try.underlying3 w0) (trodAll_cons_mk (Below.trod (by kernel_rfl) (by kernel_rfl) (of_decide_eq_true (by kernel_rfl)) h1 bel lt1) trodAll_mk0)), rfl, bel.frame _, fun h => by cases h⟩

theorem devKeeps_holds : Rows.DevKeepsSaid :=
  OpenClaim.holds_of_wide 6 Try.f6 rfl rfl rfl rfl rfl rfl rfl ⟨rfl, rfl, rfl, rfl, rfl⟩ rfl rfl rfl rfl rfl (by kernel_rfl) Try.func6 (by kernel_rfl)
    (of_decide_eq_true (by kernel_rfl)) (by unfold Func.isWrapper; first | (rw [if_pos (by decide +kernel)]; kernel_rfl) | (rw [if_neg (by decide +kernel)]; exact ⟨rfl, rfl⟩))
    (fun os started H enc _ => devKeeps_lifted os started H enc)
#print axioms devKeeps_holds
end Go.Proofs.Ytfgcbcopgikodaa
