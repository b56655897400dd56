/- SpillAll: n slots hold n pages, the least slot first, and none more; cleared they hold them again. For every input. -/
import Derived.Test.YtehajgfjdmhdpaaSpAll
import Derived.Test.YtehajgfjdmhdpaaPickAny
import Derived.Test.YtehajgfjdmhdpaaNumsMore
namespace Go.Proofs.Ytehajgfjdmhdpaa
open Go.ChangeShapes Go.WideShapes Go.ChangeAt Go.RowKit Go.Deep

set_option maxRecDepth 100000 in
set_option maxHeartbeats 8000000 in
theorem spillAll_walk (nn q : Int) (v : Value) (x : En) (w : World) (_ : (Lit.int .i64 nn).wf = true) (_ : (Lit.int .i64 q).wf = true) (hx : v = evalE x ∧ x.ok) : Calls Try.prog 5 #[.int .i64 nn, .int .i64 q, v] w fun e w' => e = .returned (.bool true) ∧ Below w.heap.size w w' := by
  obtain ⟨rfl, -⟩ := hx
  obtain ⟨w0, hw0⟩ : ∃ w0, w0 = w.alloc (.cells (ecells x).toArray 33) := ⟨_, rfl⟩
  obtain ⟨gx, hgx⟩ : ∃ gx, gx = w.heap.size := ⟨_, rfl⟩
  have K0 : Hid (Grow w w0) := by rw [hw0]; exact (But.refl _ w).alloc _
  have B0 : Hid (Blk w0 gx 33 (ecells x)) := by rw [hw0]; exact Blk.new hgx.symm
  have HW0 := Hid.mk' hw0
  have HGX := Hid.mk' hgx
  have hP1 := pick_any nn 256 w0 (by decide) (by decide)
  have hP2 := pick_any q 1073741824 w0 (by decide) (by decide)
  obtain ⟨m, hm⟩ : ∃ m, m = nn % 256 := ⟨_, rfl⟩
  obtain ⟨p, hp⟩ : ∃ p, p = q % 1073741824 := ⟨_, rfl⟩
  rw [← hm] at hP1
  rw [← hp] at hP2
  have hm0 : 0 ≤ m := by omega
  have hm1 : m < 256 := by omega
  have hp0 : 0 ≤ p := by omega
  have hp1 : p ≤ 1073741824 := by omega
  obtain ⟨N, hN⟩ : ∃ N : Nat, (N : Int) = 1 + m := ⟨(1 + m).toNat, by omega⟩
  have HP1 := Hid.mk' hP1
  have HP2 := Hid.mk' hP2
  have HNE := Hid.mk' hN
  have HNB : Hid (1 ≤ N ∧ N ≤ 256) := by show _ ∧ _; omega
  clear hw0 hgx hP1 hP2 hN hm hp
  show Calls _ _ #[_, _, .agg (ecells x).toArray] _ _
  go_enter Try.func5, Try.ntmps5
  go_upto_region 1 with fail
  rw [← HW0.out, ← HGX.out]
  go_wp2_with fail
  refine Calls.mono HP1.out ?_
  rintro e w' ⟨rfl, rfl⟩
  go_upto_region 2 with fail
  rw [← HNE.out]
  clear hm0 hm1 HNE HP1
  go_wp2_with fail
  refine Calls.mono HP2.out ?_
  rintro e w' ⟨rfl, rfl⟩
  have HN := Hid.mk' (sa_new w' N HNB.out.1 HNB.out.2)
  clear HP2
  go_wp2_with fail
  refine Calls.mono HN.out ?_
  rintro e w1 ⟨gs, gm, rfl, h1⟩
  have hxl := B0.out.lt
  have hxm : gx ≠ gm := by have := h1.nm; omega
  have HB1 := Hid.mk' (B0.out.but h1.grow (fun h => h))
  have HS1 : Hid (Sa w w1 gs gm N (List.replicate N none)) := ⟨h1.m, K0.out.trans h1.grow, by have := h1.ns; have := K0.out.size; omega, by have := h1.nm; have := K0.out.size; omega⟩
  have HXM := Hid.mk' hxm
  have hNi : (N : Int) ≤ 256 := by have := HNB.out.2; omega
  clear h1 hxl hxm HN B0 K0
  go_wp2
  go_loopw [9] (fun tv wr => ∃ t : Nat, t ≤ 2 ∧ tv = .int .i64 t ∧ Sa w wr gs gm N (List.replicate N none) ∧ Blk wr gx 33 (ecells x)) (fun tv _ => 2 - (intOf tv).toNat)
  case atStart => exact ⟨0, by decide, rfl, HS1.out, HB1.out⟩
  case round =>
    obtain ⟨t, ht, rfl, hs, hb⟩ := hrel
    have HSA := Hid.mk' hs
    have HBX := Hid.mk' hb
    clear hs hb HS1 HB1
    by_cases hlt : t < 2
    · have hlti : (t : Int) < 2 := by omega
      have HI0 : Hid (AlI w wr wr gs gm gx N 0 0 p x (.slice none 0 0)) := by
        refine ⟨by rw [allS_zero]; exact HSA.out, HBX.out, ⟨World.ownsRow_nil _ _ _ _, fun k hk => by cases hk⟩, HSA.out.lt.1, HSA.out.lt.2, HBX.out.lt, HXM.out, HSA.out.grow.size, Nat.le_refl _⟩
      go_wp2
      go_loopw [10, 11] (fun xv iv wi => ∃ (i : Nat) (r : Value), r = xv ∧ i ≤ N ∧ iv = .int .i64 i ∧ AlI w wr wi gs gm gx N i i p x r) (fun _ iv _ => N - (intOf iv).toNat)
      case atStart => exact ⟨0, _, rfl, Nat.zero_le _, rfl, HI0.out⟩
      case round =>
        rename_i xv0
        obtain ⟨i, r, rfl, hi, rfl, hA⟩ := hrel
        have HA := Hid.mk' hA
        clear hA HI0
        by_cases hli : i < N
        · have hlii : (i : Int) < (N : Int) := by omega
          have h3 := sa_give (p := p + (i : Int)) HA.out.sa (by unfold i64; omega) x
          rw [(allS_giv hli).1, (allS_giv hli).2, allS_gave hli] at h3
          have HG3 := Hid.mk' h3
          clear h3
          go_wp2_with (refine wpList_runH rfl (exec_ldE (cs := x) HA.out.bx.cells0 rfl rfl) ?_)
          refine Calls.mono HG3.out ?_
          rintro e w3 ⟨rfl, hs3, hb3⟩
          have HA3 := Hid.mk' (HA.out.sa' hs3 hb3)
          have HAL : Hid (Grow w3 (w3.alloc (.cells #[.int .i64 (p + (i : Int))] 3))) := (But.refl _ w3).alloc _
          have HBL : Hid (Blk (w3.alloc (.cells #[.int .i64 (p + (i : Int))] 3)) w3.heap.size 3 (numv [p + (i : Int)])) := Blk.new (L := numv [p + (i : Int)]) rfl
          have HRW : Hid (w3.ownsRow 0 3 1 r i (numv (pgs p i))) := by have h5 := HA3.out.own.row; rw [pgs_len] at h5; exact h5
          clear hs3 hb3 HG3
          go_wp2_with (first
            | (refine wpList_runH rfl (exec_row1 (v := .int .i64 (p + (i : Int))) Try.underlying47 infNum (by decide) (by decide) rfl rfl rfl) ?_)
            | (refine wpList_someH rfl (exec_append (v := r) (n := i) (xs := numv (pgs p i)) (news := numv [p + (i : Int)]) Try.underlying47 infNum rfl (by decide) rfl rfl (ownsRow_grow HRW.out HAL.out) rfl rfl (fun j u hj => HBL.out.cells0 j u hj) (fun u hu => by rw [show u = .int .i64 (p + (i : Int)) by simpa [numv] using hu]; rfl) (by have := HNB.out.2; omega) (by decide)) ?_; intro v4 w4 hap)
            | fail)
          exact ⟨⟨i + 1, v4, rfl, by omega, by go_num, HA3.out.app HAL.out hap⟩, by simp [intOf]; omega⟩
        · have hlii : ¬ (i : Int) < (N : Int) := by omega
          have hiN : N = i := by omega
          subst hiN
          obtain ⟨ra, rc, hr⟩ := HA.out.own.sl
          rw [pgs_len] at hr
          subst hr
          obtain ⟨g1, g2, g3⟩ := allS_giv_no (n := N) (p := p) (x := x)
          have h3 := sa_give (p := p + (N : Int)) HA.out.sa (by unfold i64; omega) x
          rw [g1, g2, g3] at h3
          have HG3 := Hid.mk' h3
          clear h3 g1 g2 g3 hi
          go_wp2_with (refine wpList_runH rfl (exec_ldE (cs := x) HA.out.bx.cells0 rfl rfl) ?_)
          refine Calls.mono HG3.out ?_
          rintro e w3 ⟨rfl, hs3, hb3⟩
          have HA3 := Hid.mk' (HA.out.sa' hs3 hb3)
          have h4 := sa_pages hs3
          rw [allS_ris] at h4
          have HP4 := Hid.mk' h4
          clear hs3 hb3 HG3 h4 HA
          go_wp2_with fail
          refine Calls.mono HP4.out ?_
          rintro e w4 ⟨pa, pc, rfl, ho4, hs4, k4⟩
          have HA4 := Hid.mk' (HA3.out.grow k4)
          have hpi := pgs_i64 hp0 hp1 HNB.out.2
          have hpl : (pgs p N).length ≤ 140737488355328 := by rw [pgs_len]; omega
          have h5 := sameints_any (ho4.nums hpi hpl) (HA4.out.own.nums hpi hpl)
          rw [decide_eq_true rfl, pgs_len] at h5
          have HS5 := Hid.mk' h5
          rw [pgs_len]
          clear ho4 hs4 k4 hpi hpl h5 HP4 HA3
          go_wp2_with fail
          refine Calls.mono HS5.out ?_
          rintro e w5 ⟨rfl, k5⟩
          have HA5 := Hid.mk' (HA4.out.grow k5)
          have h6 := sa_clear HA5.out.sa
          have HC6 := Hid.mk' h6
          clear k5 HS5 h6 HA4
          go_wp2_with fail
          refine Calls.mono HC6.out ?_
          rintro e w6 ⟨rfl, hs6, hb6⟩
          have HBX6 := Hid.mk' (HA5.out.bx.but hb6 HXM.out)
          have h7 := sa_pages hs6
          rw [ris_none] at h7
          have HP7 := Hid.mk' h7
          clear hs6 hb6 HC6 h7 HA5
          go_wp2_with fail
          refine Calls.mono HP7.out ?_
          rintro e w7 ⟨pa7, pc7, rfl, -, hs7, k7⟩
          have HA7 := Hid.mk' hs7
          have HBX7 := Hid.mk' (HBX6.out.but k7 (fun h => h))
          clear hs7 k7 HP7
          go_wp2
          exact ⟨⟨t + 1, by omega, by go_num, HA7.out, HBX7.out⟩, by simp [intOf]; omega⟩
    · have hlti : ¬ (t : Int) < 2 := by omega
      have H6 := Hid.mk' (awake_any wr)
      go_wp2_with fail
      refine Calls.mono H6.out ?_
      rintro e w4 ⟨rfl, k4⟩
      have HK4 : Hid (Grow w w4) := HSA.out.grow.trans k4
      clear k4
      go_wp2
      go_ret
      exact ⟨rfl, HK4.out.below (Nat.le_refl _) (fun _ _ h => h)⟩
set_option maxRecDepth 100000 in
theorem spillAll_lifted (os : Os) (started : os.Started) (H : Type) (enc : TypeId × Value → H) :
    ReturnsInHanded {} Try.checked os 5 .any (Rows.spillAllSpec.pre6 enc Try.prog Try.f5 Rows.spillAllRow.domain false) (Rows.spillAllSpec.post enc Try.prog Try.f5 false true false false) := by
  refine returnsInHanded_of_change_sized (C := Try.checked) (by kernel_rfl) started (by kernel_rfl) Try.func5
    (ChangeSpec.witness6 (enc := enc) (C := Try.checked) false ⟨#[], #[.int .i64 0, .int .i64 0, .agg #[.int .u32 0, .int .u32 0, .int .u64 0]], []⟩ 8 (by kernel_rfl) (by kernel_rfl) (by kernel_rfl) (by kernel_rfl)) ?_
  intro W base args ds gs before hval0 hW hcnd hsz0 _
  have hsz : (DataW.weightsEach Try.prog (Try.f5.params.toList ++ Rows.spillAllSpec.plain.varTypes Try.prog) (ds ++ gs)).all (· ≤ reachBytes) = true := hsz0
  clear hsz0
  have hval : ∀ (j : Nat) t v, Try.f5.params[j]? = some t → args[j]? = some v → Value.okWide Try.prog W .any base t v := hval0
  have hW' := hW
  obtain ⟨p, q, hA0, hV, rfl, hfz, hnd⟩ := hW
  have hA : DataW.TrodAll enc Try.prog W 0 (fun _ => true) true Try.f5.params.toList args.toList ds p := hA0
  rw [Try.params5] at hA hval hsz
  obtain ⟨v0, vs0, d0, ds0, p0, q0, hargs, rfl, rfl, h0, r0⟩ := trodAll_cons hA
  obtain ⟨v1, vs1, d1, ds1, p1, q1, rfl, rfl, rfl, h1, r1⟩ := trodAll_cons r0
  obtain ⟨v2, vs2, d2, ds2, p2, q2, rfl, rfl, rfl, h2, r2⟩ := trodAll_cons r1
  obtain ⟨rfl, rfl, rfl⟩ := trodAll_nil r2
  obtain rfl : args = #[v0, v1, v2] := by cases args; simp_all
  obtain ⟨rfl, rfl⟩ := trodVars_none hV
  obtain ⟨a0, rfl, rfl, rfl, w0⟩ := open_int Try.underlying3 (hval 0 3 v0 rfl rfl) h0
  obtain ⟨a1, rfl, rfl, rfl, w1⟩ := open_int Try.underlying3 (hval 1 3 v1 rfl rfl) h1
  have lt2 : ∀ x ∈ p2, x.block < W.heap.size := by obtain ⟨m, hm⟩ := h2; exact DataW.trod_lt m _ _ _ hm
  obtain ⟨z2, w2⟩ := view_entry (hval 2 33 v2 rfl rfl) h2 lt2 hsz (j := 2) rfl rfl
  clear hA0 hval0
  refine (spillAll_walk a0 a1 v2 z2 W w0 w1 w2).mono fun e W' ⟨he, bel⟩ => ?_
  subst he
  exact ⟨_, rfl, _, _, _, [], _, [], hW', trodAll_mk1 (shut_bool Try.underlying4 _), (trodAll_cons_mk (shut_int Try.underlying3 w0) (trodAll_cons_mk (shut_int Try.underlying3 w1) (trodAll_cons_mk (Below.trod (by kernel_rfl) (by kernel_rfl) (of_decide_eq_true (by kernel_rfl)) h2 bel lt2) trodAll_mk0))), rfl, bel.frame _, fun h => by cases h⟩

theorem spillAll_holds : Rows.SpillAllSaid :=
  OpenClaim.holds_of_wide 5 Try.f5 rfl rfl rfl rfl rfl rfl rfl ⟨rfl, rfl, rfl, rfl, rfl⟩ rfl rfl rfl rfl rfl (by kernel_rfl) Try.func5 (by kernel_rfl)
    (of_decide_eq_true (by kernel_rfl)) (by unfold Func.isWrapper; first | (rw [if_pos (by decide +kernel)]; kernel_rfl) | (rw [if_neg (by decide +kernel)]; exact ⟨rfl, rfl⟩))
    (fun os started H enc _ => spillAll_lifted os started H enc)
#print axioms spillAll_holds
end Go.Proofs.Ytehajgfjdmhdpaa
