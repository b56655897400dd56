/- Of plans that nobody made each call ends: for any plan, any list, any block. No condition. -/
import Derived.Test.YtidblaepklgkcabPlView
namespace Go.Proofs.Ytidblaepklgkcab
open Go.ChangeShapes Go.WideShapes Go.ChangeAt Go.RowKit

set_option maxRecDepth 100000 in
theorem path_all (w : World) (p : Pn) (v : Value) (x : Int) (hv : Nums w v p.levels) (hlen : p.levels.length ≤ 100000) : Calls Try.prog 10 #[pval p v, .int .i64 x] w fun e w' => (∃ r, e = .returned r) ∧ Grow w w' := by
  cases h : p.has x with
  | false => exact Calls.mono (path_not w p v x h) (fun e w' hh => ⟨⟨_, hh.1⟩, hh.2⟩)
  | true => exact Calls.mono (path_any w p v x h hv hlen) (fun e w' hh => by
      obtain ⟨r, h1, -, h3⟩ := hh
      exact ⟨⟨_, h1⟩, h3⟩)
set_option maxRecDepth 100000 in
set_option maxHeartbeats 1000000 in
theorem planAny_walk (v0 : Value) (p : Pn) (u : Value) (v1 : Value) (xs : List Int) (x : Int) (w : World) (h0 : v0 = pval p u ∧ Nums w u p.levels) (h1 : Nums w v1 xs) (_ : (Lit.int .i64 x).wf = true) : Calls Try.prog 4 #[v0, v1, .int .i64 x] w fun e w' => e = .returned (.bool true) ∧ Below w.heap.size w w' := by
  obtain ⟨rfl, hv⟩ := h0
  obtain ⟨W, gp, hbx⟩ := box_pl w p u
  have HW := Hid.mk' hbx.ew
  have HGP := Hid.mk' hbx.eg
  have HBX := Hid.mk' hbx
  have HV := Hid.mk' hv
  have HU := Hid.mk' h1
  obtain ⟨ua, uc, hue⟩ := h1.len
  obtain ⟨la, lc, hve⟩ := hv.len
  obtain ⟨n, hn⟩ : ∃ n, n = xs.length := ⟨_, rfl⟩
  obtain ⟨m, hm⟩ : ∃ m, m = p.levels.length := ⟨_, rfl⟩
  rw [← hn] at hue
  rw [← hm] at hve
  have hni : (n : Int) ≤ 140737488355328 := by have := h1.2.1; omega
  have hmi : (m : Int) ≤ 140737488355328 := by have := hv.2.1; omega
  have HM := Hid.mk' hm
  have c3 : W.cell? ⟨gp, 3, none⟩ = some u := hbx.blk.cell 3
  have HAW : Hid (∀ wz, Calls Try.prog 9 #[] wz fun e w' => e = .returned (.bool true) ∧ Grow wz w') := plawake_any
  have HL : Hid (∀ wz, Grow W wz → ∀ j u', (pcells p u)[j]? = some u' → wz.cell? ((⟨gp, 0, none⟩ : Addr).add j) = some u') := fun wz k => (hbx.blk.but k (fun h => h)).pl
  unfold pval
  obtain ⟨N, hN⟩ : ∃ N, N = (pcells p u).toArray := ⟨_, rfl⟩
  rw [← hN] at HW ⊢
  clear hbx hN hv h1 hn hm
  subst hue hve
  by_cases h2 : 100 < n
  · have h2i : (100 : Int) < (n : Int) := by omega
    go_enter Try.func4, Try.ntmps4
    go_upto_region 1 with fail
    rw [← HW.out, ← HGP.out]
    clear HW HGP
    go_wp2_with fail
    refine Calls.mono (HAW.out _) ?_
    rintro e w2 ⟨rfl, hg2⟩
    have HG2 := Hid.mk' (HBX.out.grow.trans hg2)
    clear hg2
    go_wp2
    go_ret
    exact ⟨rfl, HG2.out.below (Nat.le_refl _) (fun _ _ h => h)⟩
  · have h2i : ¬ (100 : Int) < (n : Int) := by omega
    by_cases h3 : 100 < m
    · have h3i : (100 : Int) < (m : Int) := by omega
      go_enter Try.func4, Try.ntmps4
      go_upto_region 1 with fail
      rw [← HW.out, ← HGP.out]
      clear HW HGP
      go_wp2_with fail
      refine Calls.mono (HAW.out _) ?_
      rintro e w2 ⟨rfl, hg2⟩
      have HG2 := Hid.mk' (HBX.out.grow.trans hg2)
      clear hg2
      go_wp2
      go_ret
      exact ⟨rfl, HG2.out.below (Nat.le_refl _) (fun _ _ h => h)⟩
    · have h3i : ¬ (100 : Int) < (m : Int) := by omega
      have HMM : Hid (p.levels.length ≤ 100000) := Hid.mk' (by have := HM.out; omega)
      clear h2 h3
      have HL0 := Hid.mk' (HL.out W (But.refl _ W))
      have HTP := Hid.mk' (top_any W p (.slice la m lc))
      go_enter Try.func4, Try.ntmps4
      go_upto_region 1 with fail
      rw [← HW.out, ← HGP.out]
      clear HW HGP
      go_wp2_with (first
        | (refine wpList_load_cells rfl _ _ rfl ⟨gp, 0, none⟩ rfl (pcells p (.slice la m lc)) _ HL0.out Try.underlying24 rfl iPl ?_)
        | fail)
      refine Calls.mono HTP.out ?_
      rintro e w2 ⟨rfl, hg2⟩
      have HG2 := Hid.mk' hg2
      have HL2 := Hid.mk' (HL.out _ hg2)
      have HPR := Hid.mk' (parent_any w2 p (.slice la m lc) x ((HV.out.grow HBX.out.grow).grow hg2) HMM.out)
      clear hg2 HTP HL0
      go_wp2_with (first
        | (refine wpList_load_cells rfl _ _ rfl ⟨gp, 0, none⟩ rfl (pcells p (.slice la m lc)) _ HL2.out Try.underlying24 rfl iPl ?_)
        | fail)
      refine Calls.mono HPR.out ?_
      rintro e w3 ⟨rfl, hg3⟩
      have HG3 := Hid.mk' (HG2.out.trans hg3)
      have HL3 := Hid.mk' (HL.out _ HG3.out)
      have HPA := Hid.mk' (path_all w3 p (.slice la m lc) x ((HV.out.grow HBX.out.grow).grow HG3.out) HMM.out)
      clear hg3 HPR HL2 HG2
      go_wp2_with (first
        | (refine wpList_load_cells rfl _ _ rfl ⟨gp, 0, none⟩ rfl (pcells p (.slice la m lc)) _ HL3.out Try.underlying24 rfl iPl ?_)
        | fail)
      refine Calls.mono HPA.out ?_
      rintro e w4 ⟨⟨r, rfl⟩, hg4⟩
      have HG4 := Hid.mk' (HG3.out.trans hg4)
      have HL4 := Hid.mk' (HL.out _ HG4.out)
      have HND := Hid.mk' (need_any w4 p (.slice la m lc) (.slice ua n uc) xs ((HV.out.grow HBX.out.grow).grow HG4.out) HMM.out ((HU.out.grow HBX.out.grow).grow HG4.out))
      clear hg4 HPA HL3 HG3
      go_wp2_with (first
        | (refine wpList_load_cells rfl _ _ rfl ⟨gp, 0, none⟩ rfl (pcells p (.slice la m lc)) _ HL4.out Try.underlying24 rfl iPl ?_)
        | fail)
      refine Calls.mono HND.out ?_
      rintro e w5 ⟨rfl, hg5⟩
      have HG5 := Hid.mk' (HG4.out.trans hg5)
      clear hg5 HND HL4 HG4
      go_wp2_with fail
      refine Calls.mono (HAW.out _) ?_
      rintro e w6 ⟨rfl, hg6⟩
      have HG6 := Hid.mk' (HBX.out.grow.trans (HG5.out.trans hg6))
      clear hg6
      go_wp2
      go_ret
      exact ⟨rfl, HG6.out.below (Nat.le_refl _) (fun _ _ h => h)⟩
set_option maxRecDepth 100000 in
theorem planAny_lifted (os : Os) (started : os.Started) (H : Type) (enc : TypeId × Value → H) :
    ReturnsInHanded {} Try.checked os 4 .any (Rows.planAnySpec.pre6 enc Try.prog Try.f4 Rows.planAnyRow.domain false) (Rows.planAnySpec.post enc Try.prog Try.f4 false true false false) := by
  refine returnsInHanded_of_change_sized (C := Try.checked) (by kernel_rfl) started (by kernel_rfl) Try.func4
    (ChangeSpec.witness6 (enc := enc) (C := Try.checked) false ⟨#[], #[.agg #[.int .i64 0, .int .i64 0, .int .i64 0, .slice none 0 0, .int .i64 0, .int .i64 0, .int .i64 0, .int .i64 0, .int .i64 0, .int .i64 0], .slice none 0 0, .int .i64 0], []⟩ 8 (by kernel_rfl) (by kernel_rfl) (by kernel_rfl) (by kernel_rfl)) ?_
  intro W base args ds gs before hval0 hW hcnd hsz0 _
  have hsz : (DataW.weightsEach Try.prog (Try.f4.params.toList ++ Rows.planAnySpec.plain.varTypes Try.prog) (ds ++ gs)).all (· ≤ reachBytes) = true := hsz0
  clear hsz0
  have hval : ∀ (j : Nat) t v, Try.f4.params[j]? = some t → args[j]? = some v → Value.okWide Try.prog W .any base t v := hval0
  have hW' := hW
  obtain ⟨p, q, hA0, hV, rfl, hfz, hnd⟩ := hW
  have hA : DataW.TrodAll enc Try.prog W 0 (fun _ => true) true Try.f4.params.toList args.toList ds p := hA0
  rw [Try.params4] at hA hval hsz
  obtain ⟨v0, vs0, d0, ds0, p0, q0, hargs, rfl, rfl, h0, r0⟩ := trodAll_cons hA
  obtain ⟨v1, vs1, d1, ds1, p1, q1, rfl, rfl, rfl, h1, r1⟩ := trodAll_cons r0
  obtain ⟨v2, vs2, d2, ds2, p2, q2, rfl, rfl, rfl, h2, r2⟩ := trodAll_cons r1
  obtain ⟨rfl, rfl, rfl⟩ := trodAll_nil r2
  obtain rfl : args = #[v0, v1, v2] := by cases args; simp_all
  obtain ⟨rfl, rfl⟩ := trodVars_none hV
  have lt0 : ∀ x ∈ p0, x.block < W.heap.size := by obtain ⟨m, hm⟩ := h0; exact DataW.trod_lt m _ _ _ hm
  obtain ⟨n0, z0, w0⟩ := view_plan (hval 0 24 v0 rfl rfl) h0 lt0 hsz (j := 0) rfl rfl
  have lt1 : ∀ x ∈ p1, x.block < W.heap.size := by obtain ⟨m, hm⟩ := h1; exact DataW.trod_lt m _ _ _ hm
  obtain ⟨z1, w1⟩ := view_nums Try.underlying22 Try.underlying3 (by kernel_rfl) (by kernel_rfl) (hval 1 22 v1 rfl rfl) h1 lt1 hsz (j := 1) rfl rfl
  obtain ⟨a2, rfl, rfl, rfl, w2⟩ := open_int Try.underlying3 (hval 2 3 v2 rfl rfl) h2
  clear hA0 hval0
  refine (planAny_walk v0 n0 z0 v1 z1 a2 W w0 w1 w2).mono fun e W' ⟨he, bel⟩ => ?_
  subst he
  exact ⟨_, rfl, _, _, _, [], _, [], hW', trodAll_mk1 (shut_bool Try.underlying4 _), (trodAll_cons_mk (Below.trod (by kernel_rfl) (by kernel_rfl) (of_decide_eq_true (by kernel_rfl)) h0 bel lt0) (trodAll_cons_mk (Below.trod (by kernel_rfl) (by kernel_rfl) (of_decide_eq_true (by kernel_rfl)) h1 bel lt1) (trodAll_cons_mk (shut_int Try.underlying3 w2) trodAll_mk0))), rfl, bel.frame _, fun h => by cases h⟩

theorem planAny_holds : Rows.PlanAnySaid :=
  OpenClaim.holds_of_wide 4 Try.f4 rfl rfl rfl rfl rfl rfl rfl ⟨rfl, rfl, rfl, rfl, rfl⟩ rfl rfl rfl rfl rfl (by kernel_rfl) Try.func4 (by kernel_rfl)
    (of_decide_eq_true (by kernel_rfl)) (by unfold Func.isWrapper; first | (rw [if_pos (by decide +kernel)]; kernel_rfl) | (rw [if_neg (by decide +kernel)]; exact ⟨rfl, rfl⟩))
    (fun os started H enc _ => planAny_lifted os started H enc)
#print axioms planAny_holds
end Go.Proofs.Ytidblaepklgkcab
