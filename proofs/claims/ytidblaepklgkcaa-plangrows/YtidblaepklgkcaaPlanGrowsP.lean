/- With one page more a Commit writes no block fewer, and at most a page and its path more; the same page again is none: for any pages, any budget, any list, any page. No condition. -/
import Derived.Test.YtidblaepklgkcaaPlRNeed
import Derived.ProofKit
import Derived.OpenShut
import Derived.ChangeOld
import Derived.Below
namespace Go.Proofs.Ytidblaepklgkcaa
open Go.ChangeShapes Go.WideShapes Go.ChangeAt Go.RowKit

theorem grows_math {p : Pn} (hm : Mad p) {D : List Int} {q : Int} (hq : p.has q = true) : (D.foldl (addP p) []).length ≤ ((D ++ [q]).foldl (addP p) []).length ∧ ((D ++ [q]).foldl (addP p) []).length ≤ (D.foldl (addP p) []).length + 2 + p.levels.length ∧ (((D ++ [q]) ++ [q]).foldl (addP p) []).length = ((D ++ [q]).foldl (addP p) []).length ∧ (((D ++ [q]).foldl (addP p) []).length : Int) ≤ p.head := by
  have h1 := just_add hm D
  have h2 := just_add hm (D ++ [q])
  have h3 := just_add hm ((D ++ [q]) ++ [q])
  refine ⟨h1.le h2 (fun y hy => Wr.more.2 (.inl hy)), ?_, Nat.le_antisymm (h3.le h2 (fun y hy => ?_)) (h2.le h3 (fun y hy => Wr.more.2 (.inl hy))), ?_⟩
  · have h5 := nodup_len h2.1 (m := D.foldl (addP p) [] ++ (q :: p.path q)) (fun y hy => by
      rcases Wr.more.1 ((h2.2 y).1 hy) with h | ⟨-, h | h⟩
      · exact List.mem_append_left _ ((h1.2 y).2 h)
      · exact List.mem_append_right _ (by rw [h]; exact List.mem_cons_self)
      · exact List.mem_append_right _ (List.mem_cons_of_mem _ h))
    rw [List.length_append, List.length_cons, (hm.path hq).2.len] at h5
    omega
  · rcases Wr.more.1 hy with h | h
    · exact h
    · exact Wr.more.2 (.inr h)
  · have hpg := hm.pg
    have hhd := hm.hd
    have hct := hm.c1
    have hnd := hm.nd
    have hsp := (hm.lv.pos hct.1).2
    have h5 := nodup_len h2.1 (m := (List.range p.head.toNat).map (fun i => ((i : Nat) : Int))) (fun y hy => by
      obtain ⟨x, -, h1, h2⟩ := (h2.2 y).1 hy
      have h3 := of_decide_eq_true h1
      refine List.mem_map.2 ⟨y.toNat, List.mem_range.2 ?_, ?_⟩
      · rcases h2 with h2 | h2
        · omega
        · have := (hm.path h1).2.ge y h2; omega
      · rcases h2 with h2 | h2
        · omega
        · have := (hm.path h1).2.ge y h2; omega)
    rw [List.length_map, List.length_range] at h5
    omega
set_option maxRecDepth 100000 in
set_option maxHeartbeats 4000000 in
theorem planGrows_walk (x y : Int) (v2 : Value) (xs : List Int) (z0 : Int) (w : World) (_ : (Lit.int .i64 x).wf = true) (_ : (Lit.int .i64 y).wf = true) (hl : Nums w v2 xs) (_ : (Lit.int .i64 z0).wf = true) : Calls Try.prog 8 #[.int .i64 x, .int .i64 y, v2, .int .i64 z0] w fun e w' => e = .returned (.bool true) ∧ Below w.heap.size w w' := by
  have HMD := Hid.mk' (made_any w x y)
  obtain ⟨la, lc, hle⟩ := hl.len
  have HXS := Hid.mk' hl
  obtain ⟨n0, hn0⟩ : ∃ n, n = xs.length := ⟨_, rfl⟩
  rw [← hn0] at hle
  have HN0 := Hid.mk' hn0
  have hn0i : (n0 : Int) ≤ 140737488355328 := by have := hl.2.1; omega
  have HAW := Hid.mk' (fun w => plawake_any w)
  clear hl hn0
  subst hle
  go_enter Try.func8, Try.ntmps8
  go_wp2_with fail
  refine Calls.mono HMD.out ?_
  rintro e w1 ⟨n, b, v, hn, hb, rfl, ho, hg⟩
  have hx1 := Int.emod_nonneg x (b := 4096) (by decide)
  have hx2 := Int.emod_lt_of_pos x (b := 4096) (by decide)
  have n1 : 1 ≤ n := by omega
  have n2 : n ≤ 4096 := by omega
  have HPM := Hid.mk' (Pm.of n1 n2 ho)
  have HMA := Hid.mk' (plan_mad (b := b) n1 n2)
  obtain ⟨va, vc, hve⟩ := ho.sl
  obtain ⟨P, hP⟩ : ∃ P, P = plan n b := ⟨_, rfl⟩
  have HPN : Hid (∀ wz, Pm wz n b v → Nums wz v P.levels) := fun wz h => by rw [hP]; exact h.nums
  rw [← hP] at hve HMA ⊢
  have HG1 := Hid.mk' hg
  generalize hln : P.levels.length = ln at hve
  have HLN := Hid.mk' hln
  subst hve
  clear hg ho hn hb hx1 hx2 n1 n2 hP HMD hln
  go_upto_region 2 with (first
    | (refine wpList_runH rfl (exec_allocF rfl (zPl _)) ?_)
    | (refine wpList_store_at rfl _ _ _ rfl w1.heap.size 0 (pcells P (.slice va ln vc)) rfl rfl 42 [] (pcells Pn.zero noS) [] (var_new w1) rfl rfl iPl (pcells_one _ rfl) ?_; intro w2 hb2 hbut2; rw [List.nil_append, List.append_nil] at hb2)
    | fail)
  obtain ⟨g, hgg⟩ : ∃ g, g = w1.heap.size := ⟨_, rfl⟩
  have hg2 := var_grow hbut2
  rw [← hgg] at hb2 ⊢
  have HBX : Hid (∀ wz, Grow w2 wz → Blk wz g 42 (pcells P (.slice va ln vc))) := fun wz kk => hb2.but kk (fun h => h)
  have HNX : Hid (∀ wz, Grow w2 wz → Nums wz (.slice va ln vc) P.levels) := fun wz kk => HPN.out _ ((HPM.out.grow hg2).grow kk)
  have HG2 := Hid.mk' (HG1.out.trans hg2)
  have HXX : Hid (∀ wz, Grow w2 wz → Nums wz (.slice la n0 lc) xs) := fun wz kk => HXS.out.grow (HG2.out.trans kk)
  clear hgg hb2 hbut2 hg2 HPM HG1 HPN
  by_cases h300 : 300 < n0
  · have h3i : (300 : Int) < (n0 : Int) := by omega
    go_wp2_with fail
    refine Calls.mono (HAW.out _) ?_
    rintro e w3 ⟨rfl, hg3⟩
    have HG3 := Hid.mk' (HG2.out.trans hg3)
    clear hg3
    go_wp2
    go_ret
    exact ⟨rfl, HG3.out.below (Nat.le_refl _) (fun _ _ h => h)⟩
  · have h3i : ¬ (300 : Int) < (n0 : Int) := by omega
    have H300 := Hid.mk' h300
    obtain ⟨pg, hpg⟩ : ∃ q, q = P.pages := ⟨_, rfl⟩
    have hpb : 1 ≤ pg ∧ pg ≤ 4096 := by rw [hpg]; exact HMA.out.pg
    have HPG := Hid.mk' hpg
    have HPB := Hid.mk' hpb
    have HPK : Hid (∀ z wz, Calls Try.prog 9 #[.int .i64 z, .int .i64 pg] wz fun e w' => e = .returned (.int .i64 (z % pg)) ∧ Grow wz w') := fun z wz => Calls.mono (pick_any z pg wz (by omega) (by omega)) (fun e w' h => ⟨h.1, by rw [h.2]; exact But.refl _ _⟩)
    have HC0 : Hid (∀ wz, Grow w2 wz → wz.cell? ⟨g, 0, none⟩ = some (.int .i64 pg)) := fun wz kk => by rw [hpg]; exact (HBX.out wz kk).cell 0
    clear h300 hpg hpb
    go_wp2
    go_loopw [11, 12] (fun rv iv wr => ∃ (i : Nat) (r : Value), i ≤ n0 ∧ iv = .int .i64 i ∧ r = rv ∧ Own w2 wr r ((xs.take i).map (· % pg)) ∧ Grow w2 wr) (fun _ iv _ => n0 - (intOf iv).toNat)
    case atStart => exact ⟨0, noS, Nat.zero_le _, rfl, rfl, ⟨World.ownsRow_nil _ _ _ _, fun k hk => by cases hk⟩, But.refl _ _⟩
    case round =>
      rename_i rv
      obtain ⟨i, r, hin, rfl, rfl, hO, hG⟩ := hrel
      have HO := Hid.mk' hO
      have HG := Hid.mk' hG
      obtain ⟨ra, rc, hre⟩ := hO.sl
      rw [List.length_map] at hre
      have hlen : (xs.take i).length = i := by rw [List.length_take, ← HN0.out]; omega
      rw [hlen] at hre
      have HLI := Hid.mk' hlen
      clear hO hG hlen
      subst hre
      by_cases hlt : i < n0
      · have hlti : (i : Int) < (n0 : Int) := by omega
        obtain ⟨bb, o1, k1, e3, -, -, hc1⟩ := (HXX.out wr HG.out).at (by have := HN0.out; omega)
        simp only [Value.slice.injEq] at e3
        obtain ⟨rfl, -, rfl⟩ := e3
        obtain ⟨z, hz⟩ : ∃ z, z = xs.getD i 0 := ⟨_, rfl⟩
        have cu := hc1 i (by have := HN0.out; omega)
        rw [← hz] at cu
        have hzg : xs[i]? = some z := by
          have h9 : i < xs.length := by have := HN0.out; omega
          rw [hz, List.getD_eq_getElem?_getD, List.getElem?_eq_getElem h9]; rfl
        have HNX2 : Hid ((xs.take (i + 1)).map (· % pg) = (xs.take i).map (· % pg) ++ [z % pg]) := Hid.mk' (by
          have h3 := List.getElem?_eq_some_iff.1 hzg
          rw [List.take_succ_eq_append_getElem h3.1, List.map_append, h3.2]; rfl)
        have HCU := Hid.mk' cu
        obtain ⟨q, hq⟩ : ∃ q, q = z % pg := ⟨_, rfl⟩
        have HPQ : Hid (∀ wz, Calls Try.prog 9 #[.int .i64 z, .int .i64 pg] wz fun e w' => e = .returned (.int .i64 q) ∧ Grow wz w') := Hid.mk' (by rw [hq]; exact HPK.out z)
        rw [← hq] at HNX2
        have HRW : Hid (wr.ownsRow 0 3 1 (.slice ra i rc) i (numv ((xs.take i).map (· % pg)))) := Hid.mk' (by have h := HO.out.row; rw [List.length_map, HLI.out] at h; exact h)
        generalize (xs.take i).map (· % pg) = D at HO HNX2 HRW
        have HDL : Hid (D.length = i) := Hid.mk' (by have h := HRW.out.1; simpa [numv] using h)
        have HLT := Hid.mk' hlt
        clear hc1 hz cu hzg hq hin hlt
        go_upto_region 8 with fail
        refine region_chain [([0, 1, 2, 3, 4, 5, 6, 7], 8), ([], 9)] [10] (Grow w2) (Grow wr) (by kernel_rfl) (by kernel_rfl) (fun _ _ h k => h.trans k) (fun _ h => HG.out.trans h) ((But.refl _ wr).drew) ?_
        intro ι hne X hX
        have d0 : ∀ j, (X j).cell? ⟨g, 0, none⟩ = some (.int .i64 pg) := fun j => HC0.out _ (hX j)
        have dz : ∀ j, (X j).cell? ⟨bb, o1 + i, none⟩ = some (.int .i64 z) := fun j => by
          obtain ⟨b2, o2, k2, e2, -, -, hc2⟩ := (HXX.out _ (hX j)).at (by have := HN0.out; have := HLT.out; omega)
          simp only [Value.slice.injEq, Option.some.injEq, Addr.mk.injEq, and_true] at e2
          obtain ⟨⟨rfl, rfl⟩, -, -⟩ := e2
          have h5 := hc2 i (by have := HN0.out; have := HLT.out; omega)
          obtain ⟨b3, o3, k3, e3, -, -, hc3⟩ := (HXX.out _ HG.out).at (by have := HN0.out; have := HLT.out; omega)
          simp only [Value.slice.injEq, Option.some.injEq, Addr.mk.injEq, and_true] at e3
          obtain ⟨⟨rfl, rfl⟩, -, -⟩ := e3
          have h6 := hc3 i (by have := HN0.out; have := HLT.out; omega)
          rw [HCU.out] at h6
          rw [h5, ← h6]
        iterate 7 (refine still_step rfl (fun K hK => ?_); go_simp; refine hK _ ?_; clear hK K)
        refine still_call rfl (.int .i64 q) 9 #[.int .i64 z, .int .i64 pg] rfl (fun j => by kernel_rfl) (fun j => HPQ.out _) ?_
        intro K hK; go_simp; refine hK _ ?_; clear hK K
        refine still_nil ?_
        clear d0 dz hX hne X ι
        refine turn_run rfl rfl (fun u w' => Grow wr w' ∧ ∃ gn, u = .slice (some ⟨gn, 0, none⟩) 1 1 ∧ Blk w' gn 3 [.int .i64 q]) (fun _ => Grow w2) ?_ (fun _ _ h => HG.out.trans h.1) (.inr (fun _ _ h => h)) ?_ ?_
        · rintro u w4 w5 ⟨h1, gn, h2, h3⟩ k
          exact ⟨h1.trans k, gn, h2, h3.but k (fun h => h)⟩
        · intro w4 h4
          refine turn_row1 (v := .int .i64 q) Try.underlying34 infNum (by decide) (by decide) rfl rfl rfl ⟨h4.trans ((But.refl _ w4).alloc _), _, rfl, ?_⟩
          exact Blk.new (L := [.int .i64 q]) rfl
        rintro u ⟨wq, -, gn, rfl, -⟩ Y hY
        clear wq
        go_simp
        refine hY _ ?_
        clear hY Y
        intro ι hne X hX
        refine still_nil ?_
        clear hX hne X ι
        refine turn_run rfl rfl (fun u w' => Own w2 w' u (D ++ [q]) ∧ Grow w2 w') (fun u w' => Own w2 w' u (D ++ [q]) ∧ Grow w2 w') (fun _ _ _ h k => ⟨h.1.grow k, h.2.trans k⟩) (fun _ _ h => h) (.inr (fun _ _ h => h.2)) ?_ ?_
        · rintro w4 ⟨h1, g', e9, h2⟩
          cases e9
          refine turn_append (v := .slice ra i rc) (n := i) (xs := numv D) (news := numv [q]) Try.underlying34 infNum rfl (by decide) rfl rfl (ownsRow_grow HRW.out h1) rfl (by simp [numv]) (fun j u hj => h2.cells0 j u hj) (fun u hu => by rw [show u = .int .i64 q by simpa [numv] using hu]; rfl) (by have := HLT.out; have := H300.out; omega) (by decide) ?_
          intro v' w5 hap
          have hap' : Appd w4 w5 3 1 (.slice ra i rc) v' (D.length + 1) (numv D ++ numv [q]) := by rw [HDL.out]; exact hap
          exact (HO.out.grow h1).more hap' (HG.out.trans h1)
        rintro u ⟨wq, hov, -⟩ Y hY
        clear hov wq
        go_simp
        refine hY _ ?_
        clear hY Y
        intro ι hne X hX
        iterate 1 (refine still_step rfl (fun K hK => ?_); go_simp; refine hK _ ?_; clear hK K)
        refine still_nil ?_
        clear hX hne X ι
        rintro w6 ⟨ho6, hg6⟩
        have HO6 := Hid.mk' ho6
        have HG6 := Hid.mk' hg6
        clear ho6 hg6
        go_wp2
        exact ⟨⟨i + 1, u, by have := HLT.out; omega, by go_num, rfl, by rw [HNX2.out]; exact HO6.out, HG6.out⟩, by simp [intOf]; have := HLT.out; omega⟩
      · have hie : i = n0 := by omega
        have hlti : ¬ (i : Int) < (n0 : Int) := by omega
        obtain ⟨D, hD⟩ : ∃ D, D = xs.map (· % pg) := ⟨_, rfl⟩
        have hDe : (xs.take i).map (· % pg) = D := by rw [hD, hie, HN0.out, List.take_of_length_le (Nat.le_refl _)]
        rw [hDe] at HO
        have HDB : Hid (D.length = i ∧ i ≤ 300 ∧ ∀ q ∈ D, 0 ≤ q ∧ q < pg) := Hid.mk' ⟨by rw [hD, List.length_map, ← HN0.out, hie], by have := H300.out; omega, fun q hq => by
          rw [hD] at hq
          obtain ⟨z, -, rfl⟩ := List.mem_map.1 hq
          have := HPB.out
          exact ⟨Int.emod_nonneg z (by omega), Int.emod_lt_of_pos z (by omega)⟩⟩
        have HDN : Hid (∀ wz, Grow wr wz → Nums wz (.slice ra i rc) D) := fun wz kk => (HO.out.grow kk).nums (fun q hq => by have := HDB.out.2.2 q hq; have := HPB.out; omega) (by have := HDB.out; omega)
        clear hie hDe hD hin hlt HLI
        have hlen3 : P.levels.length ≤ 3 := HMA.out.len.2
        have HND : Hid (∀ wz u L, Grow w2 wz → Nums wz u L → Calls Try.prog 27 #[pval P (.slice va ln vc), u] wz fun e w' => e = .returned (.int .i64 ((L.foldl (addP P) []).length : Int)) ∧ Grow wz w') := fun wz u L kk hL => need_any wz P _ _ L (HNX.out _ kk) (by omega) hL
        obtain ⟨q, hq⟩ : ∃ q, q = z0 % pg := ⟨_, rfl⟩
        have hqb : 0 ≤ q ∧ q < pg := by
          have := HPB.out
          rw [hq]
          exact ⟨Int.emod_nonneg z0 (by omega), Int.emod_lt_of_pos z0 (by omega)⟩
        have HQB := Hid.mk' hqb
        have HGM := Hid.mk' (grows_math (D := D) (q := q) HMA.out (decide_eq_true (by rw [← HPG.out]; exact hqb)))
        have HPQ : Hid (∀ wz, Calls Try.prog 9 #[.int .i64 z0, .int .i64 pg] wz fun e w' => e = .returned (.int .i64 q) ∧ w' = wz) := fun wz => by
          rw [hq]
          exact pick_any z0 pg wz (by have := HPB.out; omega) (by have := HPB.out; omega)
        have HBW := Hid.mk' (HBX.out _ HG.out)
        have HN1 := Hid.mk' (HND.out wr _ D HG.out (HDN.out _ (But.refl _ _)))
        have HHB : Hid (P.head ≤ 5000) := Hid.mk' (by
          have := HMA.out.pg
          have := HMA.out.hd
          have := HMA.out.c1
          have := HMA.out.nd
          have := HMA.out.sum
          omega)
        obtain ⟨N1, hN1⟩ : ∃ N, N = (D.foldl (addP P) []).length := ⟨_, rfl⟩
        obtain ⟨N2, hN2⟩ : ∃ N, N = ((D ++ [q]).foldl (addP P) []).length := ⟨_, rfl⟩
        obtain ⟨N3, hN3⟩ : ∃ N, N = (((D ++ [q]) ++ [q]).foldl (addP P) []).length := ⟨_, rfl⟩
        rw [← hN1] at HN1
        rw [← hN1, ← hN2, ← hN3, HLN.out] at HGM
        have HE2 := Hid.mk' hN2
        have HE3 := Hid.mk' hN3
        have HRO : Hid (wr.ownsRow 0 3 1 (.slice ra i rc) i (numv D)) := Hid.mk' (by have h := HO.out.row; rw [HDB.out.1] at h; exact h)
        clear hlen3 hq hqb hN1 hN2 hN3
        go_wp2_with (first
          | (refine wpList_load_cells rfl _ _ rfl ⟨g, 0, none⟩ rfl (pcells P (.slice va ln vc)) _ HBW.out.pl Try.underlying42 rfl iPl ?_)
          | fail)
        refine Calls.mono HN1.out ?_
        rintro e w5 ⟨rfl, hg5⟩
        have HG5 := Hid.mk' hg5
        have c5 := HC0.out w5 (HG.out.trans hg5)
        have HR5 := Hid.mk' (ownsRow_grow HRO.out hg5)
        have HO5 := Hid.mk' (HO.out.grow hg5)
        clear hg5 HN1 HBW HRO
        go_wp2_with fail
        refine Calls.mono (HPQ.out _) ?_
        rintro e w' ⟨rfl, hw⟩
        have h3 := hw.symm
        subst h3
        clear hw
        have HAL : Hid (Grow w5 (w5.alloc (.cells #[.int .i64 q] 3))) := (But.refl _ w5).alloc _
        have HBL : Hid (Blk (w5.alloc (.cells #[.int .i64 q] 3)) w5.heap.size 3 (numv [q])) := Blk.new (L := numv [q]) rfl
        go_upto_region 11 with (first
          | (refine wpList_runH rfl (exec_row1 (v := .int .i64 q) Try.underlying34 infNum (by decide) (by decide) rfl rfl rfl) ?_)
          | (refine wpList_someH rfl (exec_append (v := .slice ra i rc) (n := i) (xs := numv D) (news := numv [q]) Try.underlying34 infNum rfl (by decide) rfl rfl (ownsRow_grow HR5.out (HAL.out)) rfl rfl (fun j u hj => HBL.out.cells0 j u hj) (fun u hu => by rw [show u = .int .i64 q by simpa [numv] using hu]; rfl) (by have := HDB.out; omega) (by decide)) ?_; intro v6 w6 hap)
          | fail)
        have hap' : Appd (w5.alloc (.cells #[.int .i64 q] 3)) w6 3 1 (.slice ra i rc) v6 (D.length + 1) (numv D ++ numv [q]) := by rw [HDB.out.1]; exact hap
        have hm6 := (HO5.out.grow HAL.out).more hap' ((HG.out.trans HG5.out).trans HAL.out)
        obtain ⟨a6, c6, e6⟩ := hm6.1.sl
        rw [List.length_append, List.length_singleton, HDB.out.1] at e6
        subst e6
        have HO6 := Hid.mk' hm6.1
        have HG6 := Hid.mk' hm6.2
        have HQI : Hid (∀ u ∈ (D ++ [q]), -9223372036854775808 ≤ u ∧ u ≤ 9223372036854775807) := fun u hu => by
          have := HPB.out
          rcases List.mem_append.1 hu with hu | hu
          · have := HDB.out.2.2 u hu; omega
          · rw [show u = q by simpa using hu]; have := HQB.out; omega
        have HN2 := Hid.mk' (HND.out w6 _ (D ++ [q]) hm6.2 (hm6.1.nums HQI.out (by rw [List.length_append, List.length_singleton]; have := HDB.out; omega)))
        rw [← HE2.out] at HN2
        have HB6 := Hid.mk' (HBX.out _ hm6.2)
        clear hap hap' hm6 HAL HBL c5 HR5 HO5 HG5
        go_wp2_with (first
          | (refine wpList_load_cells rfl _ _ rfl ⟨g, 0, none⟩ rfl (pcells P (.slice va ln vc)) _ HB6.out.pl Try.underlying42 rfl iPl ?_)
          | fail)
        refine Calls.mono HN2.out ?_
        rintro e w7 ⟨rfl, hg7⟩
        have HG7 := Hid.mk' (HG6.out.trans hg7)
        have HO7 := Hid.mk' (HO6.out.grow hg7)
        have HR7 : Hid (w7.ownsRow 0 3 1 (.slice a6 (i + 1) c6) (i + 1) (numv (D ++ [q]))) := Hid.mk' (by have h := HO7.out.row; rw [List.length_append, List.length_singleton, HDB.out.1] at h; exact h)
        obtain ⟨b7, q7, e7, hcell⟩ := row_cellP (e := 3) (L := numv (D ++ [q])) (by rw [show (numv (D ++ [q])).length = (D ++ [q]).length from List.length_map ..]; exact HO7.out.row) (by simp [numv])
        rw [show (numv (D ++ [q])).length = (D ++ [q]).length from List.length_map ..] at e7
        simp only [Value.slice.injEq] at e7
        obtain ⟨rfl, -, rfl⟩ := e7
        have cq := hcell i (.int .i64 q) (by unfold numv; rw [List.getElem?_map, List.getElem?_append_right (by have := HDB.out.1; omega), HDB.out.1, Nat.sub_self]; rfl)
        have HAL : Hid (Grow w7 (w7.alloc (.cells #[.int .i64 q] 3))) := (But.refl _ w7).alloc _
        have HBL : Hid (Blk (w7.alloc (.cells #[.int .i64 q] 3)) w7.heap.size 3 (numv [q])) := Blk.new (L := numv [q]) rfl
        have hi3 : (i : Int) ≤ 300 := by have := HDB.out.2.1; omega
        have hix : ((i + 1 : Nat) : Int) - 1 = (i : Int) := by omega
        clear hg7 HN2 HB6 HO6 HG6 hcell
        go_upto_region 13 with (first
          | (refine wpList_runH rfl (exec_row1 (v := .int .i64 q) Try.underlying34 infNum (by decide) (by decide) rfl rfl rfl) ?_)
          | (refine wpList_someH rfl (exec_append (v := .slice (some ⟨b7, 0, none⟩) (i + 1) c6) (n := (i + 1)) (xs := numv (D ++ [q])) (news := numv [q]) Try.underlying34 infNum rfl (by decide) rfl rfl (ownsRow_grow HR7.out (HAL.out)) rfl rfl (fun j u hj => HBL.out.cells0 j u hj) (fun u hu => by rw [show u = .int .i64 q by simpa [numv] using hu]; rfl) (by have := HDB.out; omega) (by decide)) ?_; intro v8 w8 hap)
          | fail)
        have hap' : Appd (w7.alloc (.cells #[.int .i64 q] 3)) w8 3 1 (.slice (some ⟨b7, 0, none⟩) (i + 1) c6) v8 ((D ++ [q]).length + 1) (numv (D ++ [q]) ++ numv [q]) := by rw [List.length_append, List.length_singleton, HDB.out.1]; exact hap
        have hm8 := (HO7.out.grow HAL.out).more hap' (HG7.out.trans HAL.out)
        obtain ⟨a8, c8, e8⟩ := hm8.1.sl
        have hl8 : ((D ++ [q]) ++ [q]).length = i + 2 := by simp [HDB.out.1]
        rw [hl8] at e8
        subst e8
        have HB8 := Hid.mk' (HBX.out _ hm8.2)
        have HG8 := Hid.mk' hm8.2
        have HN3 := Hid.mk' (HND.out w8 _ ((D ++ [q]) ++ [q]) hm8.2 (hm8.1.nums (fun u hu => by
          rcases List.mem_append.1 hu with hu | hu
          · exact HQI.out u hu
          · exact HQI.out u (List.mem_append_right _ hu)) (by rw [hl8]; have := HDB.out; omega)))
        obtain ⟨m1, m2, m3, m4⟩ := HGM.out
        rw [← HE3.out, m3] at HN3
        have c3 : w8.cell? ⟨g, 3, none⟩ = some (.slice va ln vc) := HB8.out.cell 3
        have c5 : w8.cell? ⟨g, 5, none⟩ = some (.int .i64 P.head) := HB8.out.cell 5
        have HC5 : Hid (∀ wz, Grow w8 wz → wz.cell? ⟨g, 5, none⟩ = some (.int .i64 P.head)) := fun wz kk => (HB8.out.but kk (fun h => h)).cell 5
        obtain ⟨hd, hhd⟩ : ∃ h, h = P.head := ⟨_, rfl⟩
        have hhb := HHB.out
        rw [← hhd] at c5 HC5 m4 hhb
        have hl3 : ln ≤ 3 := by have := HMA.out.len; have := HLN.out; omega
        have f1 : (N1 : Int) ≤ (N2 : Int) := by omega
        have f2 : (N2 : Int) ≤ (N1 : Int) + 2 + (ln : Int) := by omega
        have f5 : (ln : Int) ≤ 3 := by omega
        have f6 : (N1 : Int) ≤ 5000 := by omega
        have f7 : ((N2 : Int) == (N2 : Int)) = true := by simp
        clear hap hap' hm8 hl8 m1 m2 m3 hhd hl3 HAL HBL cq HR7 HO7 HG7 hix
        go_wp2_with (first
          | (refine wpList_runG rfl (exec_ldF (cs := pcells P (.slice va ln vc)) Try.underlying42 rfl iPl HB8.out.pl rfl rfl) ?_)
          | fail)
        refine Calls.mono HN3.out ?_
        rintro e w9 ⟨rfl, hg9⟩
        have HG9 := Hid.mk' (HG8.out.trans hg9)
        have d5 := HC5.out w9 hg9
        clear hg9 HN3 c3 c5
        go_wp2_with fail
        refine Calls.mono (HAW.out _) ?_
        rintro e w10 ⟨rfl, hg10⟩
        have HG10 := Hid.mk' (HG2.out.trans (HG9.out.trans hg10))
        clear hg10
        go_wp2
        go_ret
        exact ⟨rfl, HG10.out.below (Nat.le_refl _) (fun _ _ h => h)⟩
set_option maxRecDepth 100000 in
theorem planGrows_lifted (os : Os) (started : os.Started) (H : Type) (enc : TypeId × Value → H) :
    ReturnsInHanded {} Try.checked os 8 .any (Rows.planGrowsSpec.pre6 enc Try.prog Try.f8 Rows.planGrowsRow.domain false) (Rows.planGrowsSpec.post enc Try.prog Try.f8 false true false false) := by
  refine returnsInHanded_of_change_sized (C := Try.checked) (by kernel_rfl) started (by kernel_rfl) Try.func8
    (ChangeSpec.witness6 (enc := enc) (C := Try.checked) false ⟨#[], #[.int .i64 0, .int .i64 0, .slice none 0 0, .int .i64 0], []⟩ 8 (by kernel_rfl) (by kernel_rfl) (by kernel_rfl) (by kernel_rfl)) ?_
  intro W base args ds gs before hval0 hW hcnd hsz0 _
  have hsz : (DataW.weightsEach Try.prog (Try.f8.params.toList ++ Rows.planGrowsSpec.plain.varTypes Try.prog) (ds ++ gs)).all (· ≤ reachBytes) = true := hsz0
  clear hsz0
  have hval : ∀ (j : Nat) t v, Try.f8.params[j]? = some t → args[j]? = some v → Value.okWide Try.prog W .any base t v := hval0
  have hW' := hW
  obtain ⟨p, q, hA0, hV, rfl, hfz, hnd⟩ := hW
  have hA : DataW.TrodAll enc Try.prog W 0 (fun _ => true) true Try.f8.params.toList args.toList ds p := hA0
  rw [Try.params8] at hA hval hsz
  obtain ⟨v0, vs0, d0, ds0, p0, q0, hargs, rfl, rfl, h0, r0⟩ := trodAll_cons hA
  obtain ⟨v1, vs1, d1, ds1, p1, q1, rfl, rfl, rfl, h1, r1⟩ := trodAll_cons r0
  obtain ⟨v2, vs2, d2, ds2, p2, q2, rfl, rfl, rfl, h2, r2⟩ := trodAll_cons r1
  obtain ⟨v3, vs3, d3, ds3, p3, q3, rfl, rfl, rfl, h3, r3⟩ := trodAll_cons r2
  obtain ⟨rfl, rfl, rfl⟩ := trodAll_nil r3
  obtain rfl : args = #[v0, v1, v2, v3] := by cases args; simp_all
  obtain ⟨rfl, rfl⟩ := trodVars_none hV
  obtain ⟨a0, rfl, rfl, rfl, w0⟩ := open_int Try.underlying3 (hval 0 3 v0 rfl rfl) h0
  obtain ⟨a1, rfl, rfl, rfl, w1⟩ := open_int Try.underlying3 (hval 1 3 v1 rfl rfl) h1
  have lt2 : ∀ x ∈ p2, x.block < W.heap.size := by obtain ⟨m, hm⟩ := h2; exact DataW.trod_lt m _ _ _ hm
  obtain ⟨z2, w2⟩ := view_nums Try.underlying34 Try.underlying3 (by kernel_rfl) (by kernel_rfl) (hval 2 34 v2 rfl rfl) h2 lt2 hsz (j := 2) rfl rfl
  obtain ⟨a3, rfl, rfl, rfl, w3⟩ := open_int Try.underlying3 (hval 3 3 v3 rfl rfl) h3
  clear hA0 hval0
  refine (planGrows_walk a0 a1 v2 z2 a3 W w0 w1 w2 w3).mono fun e W' ⟨he, bel⟩ => ?_
  subst he
  exact ⟨_, rfl, _, _, _, [], _, [], hW', trodAll_mk1 (shut_bool Try.underlying4 _), (trodAll_cons_mk (shut_int Try.underlying3 w0) (trodAll_cons_mk (shut_int Try.underlying3 w1) (trodAll_cons_mk (Below.trod (by kernel_rfl) (by kernel_rfl) (of_decide_eq_true (by kernel_rfl)) h2 bel lt2) (trodAll_cons_mk (shut_int Try.underlying3 w3) trodAll_mk0)))), rfl, bel.frame _, fun h => by cases h⟩

theorem planGrows_holds : Rows.PlanGrowsSaid :=
  OpenClaim.holds_of_wide 8 Try.f8 rfl rfl rfl rfl rfl rfl rfl ⟨rfl, rfl, rfl, rfl, rfl⟩ rfl rfl rfl rfl rfl (by kernel_rfl) Try.func8 (by kernel_rfl)
    (of_decide_eq_true (by kernel_rfl)) (by unfold Func.isWrapper; first | (rw [if_pos (by decide +kernel)]; kernel_rfl) | (rw [if_neg (by decide +kernel)]; exact ⟨rfl, rfl⟩))
    (fun os started H enc _ => planGrows_lifted os started H enc)
#print axioms planGrows_holds
end Go.Proofs.Ytidblaepklgkcaa
