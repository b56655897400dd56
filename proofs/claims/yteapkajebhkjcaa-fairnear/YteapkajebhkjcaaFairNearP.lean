/- As long as tasks are awake their passes stay near to one another, whatever their weights are: for any number and any acts. No condition. -/
import Derived.Test.YteapkajebhkjcaaFaNear
import Derived.ProofKit
import Derived.OpenShut
import Derived.ChangeOld
import Derived.Below
namespace Go.Proofs.Yteapkajebhkjcaa
open Go.ChangeShapes Go.WideShapes Go.ChangeAt Go.RowKit

theorem exec_subF {P : Program} {w w' : World} {o : Oper} {ρ : Operand → Value} {t t2 : TypeId} {x y : Operand} {u v r : Value} (ho : o.op = .binOp .sub t x y t2) (hx : ρ x = u) (hy : ρ y = v) (h : (binOp .sub t u v).run P w = .ok r w') : (execOp ρ o).run P w = .ok (.value r) w' := by
  have e : (eqGuard .sub t x y u v).run P w = .ok () w := rfl
  unfold execOp
  simp only [ho, hx, hy, Sem.run_bind, e, Result.andThen_ok, h, Sem.run_pure]
set_option maxRecDepth 100000 in
set_option maxHeartbeats 4000000 in
theorem fairNear_walk (x : Int) (v1 : Value) (l : Nat) (A : Nat → FA) (w : World) (_ : (Lit.int .i64 x).wf = true) (hv : FActs w v1 l A) : Calls Try.prog 4 #[.int .i64 x, v1] w fun e w' => e = .returned (.bool true) ∧ Below w.heap.size w w' := by
  obtain ⟨ao, cap1, rfl⟩ := hv.len
  have HV := Hid.mk' hv
  have hl : (l : Int) ≤ 140737488351232 := by have := hv.1; omega
  have HP := Hid.mk' (pick_any x 8 w (by decide) (by decide))
  obtain ⟨m0, hm0⟩ : ∃ m : Nat, x % 8 = (m : Int) := ⟨(x % 8).toNat, by have := Int.emod_nonneg x (b := 8) (by decide); omega⟩
  rw [hm0] at HP
  obtain ⟨n, hn⟩ : ∃ n : Nat, (n : Int) = 1 + (m0 : Int) := ⟨m0 + 1, by omega⟩
  have hmn : 1 + (m0 : Int) = (n : Int) := hn.symm
  have h1 : 1 ≤ n := by omega
  have h8 : n ≤ 8 := by omega
  have HN := Hid.mk' (fl_new w n h1 h8)
  have hni : (n : Int) ≤ 8 := by omega
  have hmi : (m0 : Int) ≤ 7 := by omega
  have H1 := Hid.mk' h1
  have H8 := Hid.mk' h8
  clear hv h1 h8 hn hm0
  go_enter Try.func4, Try.ntmps4
  go_wp2_with fail
  refine Calls.mono HP.out ?_
  rintro e w' ⟨rfl, hw⟩
  have h2 := hw.symm
  subst h2
  clear hw HP
  go_wp2_with fail
  refine Calls.mono HN.out ?_
  rintro e w1 ⟨g, gt, rfl, h1⟩
  have HRN := Hid.mk' (rnew_any w1 n H1.out H8.out)
  have HF1 := Hid.mk' h1
  clear h1 HN
  go_wp2_with fail
  refine Calls.mono HRN.out ?_
  intro e w2 h2
  obtain ⟨gx, gy, cap, rfl, h3⟩ := fx_new HF1.out h2
  have H3 := Hid.mk' h3
  clear h2 h3 HF1 HRN
  go_wp2
  clear hmn
  go_loopw [8] (fun iv wr => ∃ i : Nat, i ≤ l ∧ i ≤ 300 ∧ iv = .int .i64 i ∧ ∃ T : List Sh, Nr T (i + 1) ∧ Fx w wr g gt gx gy cap T) (fun iv _ => l - (intOf iv).toNat)
  case atStart => exact ⟨0, Nat.zero_le _, by decide, rfl, _, Nr.new n, H3.out⟩
  case round =>
    clear H3
    obtain ⟨i, hil, hi3, rfl, T, hT, hF⟩ := hrel
    by_cases hlt : i < l ∧ i < 300
    · have hlti : (i : Int) < (l : Int) := by omega
      have hlt2 : (i : Int) < 300 := by omega
      obtain ⟨b, off, cap', e1, hbl, hA⟩ := HV.out.at hlt.1
      simp only [Value.slice.injEq] at e1
      obtain ⟨rfl, -, rfl⟩ := e1
      obtain ⟨hok, hcell⟩ := hA i hlt.1
      have HCW : Hid (∀ c u, (fac (A i))[c]? = some u → wr.cell? ((⟨b, off + i * 3, none⟩ : Addr).add c) = some u) := fun c u hc => by
        rw [addr_add]; exact grow_cell hF.fl.grow (hcell c u hc)
      have HDO := Hid.mk' (do_any hF hok)
      have HLT := Hid.mk' hlt
      have HT2 : Hid (Nr (dact T (A i)) (i + 1 + 1)) := Hid.mk' (hT.act hF.fl.fr.ok (by omega) (A i))
      clear hT
      clear hF hA hok hcell hbl hlt hil hi3
      generalize dact T (A i) = T2 at *
      generalize A i = ai at *
      obtain ⟨kd, tk, y⟩ := ai
      go_wp2_with (first
        | (refine wpList_load_cells rfl _ _ rfl ⟨b, off + i * 3, none⟩ rfl (fac ⟨kd, tk, y⟩) _ HCW.out Try.underlying33 rfl iFa ?_)
        | fail)
      refine Calls.mono HDO.out ?_
      rintro e w3 ⟨rfl, h3⟩
      have H3 := Hid.mk' h3
      have HAW := Hid.mk' (awake_list h3.fl.fr)
      clear h3 HDO HCW
      go_wp2_with fail
      refine Calls.mono HAW.out ?_
      rintro e w4 ⟨v4, rfl, r4, -, g4⟩
      have H4 := Hid.mk' (H3.out.then g4)
      obtain ⟨q, hq⟩ : ∃ q, q = (awN T2).length := ⟨_, rfl⟩
      obtain ⟨va, vc, e4⟩ := own_sl r4
      rw [ints_len, ← hq] at e4
      subst e4
      have HR4 := Hid.mk' r4
      have HQ := Hid.mk' hq
      have hq8 : q ≤ 8 := by rw [hq]; exact Nat.le_trans (awU_len _ _) H3.out.fl.fr.ok.n8
      have hqi : (q : Int) ≤ 8 := by omega
      clear r4 g4 HAW H3 hq hq8
      go_wp2
      go_loopw [10] (fun kv wx => ∃ k : Nat, k ≤ q ∧ kv = .int .i64 k ∧ Grow w4 wx) (fun kv _ => q - (intOf kv).toNat)
      case atStart => exact ⟨0, Nat.zero_le _, rfl, But.refl _ _⟩
      case round =>
        obtain ⟨k, hkq, rfl, hgk⟩ := hrel
        have HGK := Hid.mk' hgk
        clear hgk
        by_cases hk : (k : Int) < (q : Int)
        · go_wp2
          go_loopw [11] (fun jv wx => ∃ j : Nat, j ≤ q ∧ jv = .int .i64 j ∧ Grow w4 wx) (fun jv _ => q - (intOf jv).toNat)
          case atStart => exact ⟨0, Nat.zero_le _, rfl, HGK.out⟩
          case round =>
            clear HGK
            obtain ⟨j, hjq, rfl, hgj⟩ := hrel
            have HGJ := Hid.mk' hgj
            clear hgj
            by_cases hj : (j : Int) < (q : Int)
            · obtain ⟨ik, hik⟩ : ∃ z, (awN T2)[k]? = some z := ⟨_, List.getElem?_eq_getElem (by have := HQ.out; omega)⟩
              obtain ⟨ij, hij⟩ : ∃ z, (awN T2)[j]? = some z := ⟨_, List.getElem?_eq_getElem (by have := HQ.out; omega)⟩
              obtain ⟨lk, wk⟩ := awU_lt (List.mem_of_getElem? hik)
              obtain ⟨lj, wj⟩ := awU_lt (List.mem_of_getElem? hij)
              obtain ⟨b4, c4, e4, hcell⟩ := row_cell (e := 3) (L := numv (ints (awN T2))) (by rw [show (numv (ints (awN T2))).length = (ints (awN T2)).length from List.length_map ..]; exact HR4.out) (by rw [show (numv (ints (awN T2))).length = (ints (awN T2)).length from List.length_map .., ints_len]; have := HQ.out; omega)
              simp only [Value.slice.injEq] at e4
              obtain ⟨rfl, -, rfl⟩ := e4
              have HCK := Hid.mk' (hcell k (.int .i64 (ik : Int)) (by unfold numv ints; rw [List.getElem?_map, List.getElem?_map, hik]; rfl))
              have HCJ := Hid.mk' (hcell j (.int .i64 (ij : Int)) (by unfold numv ints; rw [List.getElem?_map, List.getElem?_map, hij]; rfl))
              have HPK : Hid (∀ wz, Grow w4 wz → Calls Try.prog 17 #[ptr g, .int .i64 (ik : Int)] wz fun e w' => e = .returned (.float .f64 (pat T2 ik)) ∧ Grow wz w') := fun wz hz => by
                have := pass_any (i := (ik : Int)) (H4.out.then hz).fl.fr
                rw [pas_pat lk] at this
                exact this.mono (fun e w' h => ⟨h.1, by rw [h.2]; exact But.refl _ _⟩)
              have HPJ : Hid (∀ wz, Grow w4 wz → Calls Try.prog 17 #[ptr g, .int .i64 (ij : Int)] wz fun e w' => e = .returned (.float .f64 (pat T2 ij)) ∧ Grow wz w') := fun wz hz => by
                have := pass_any (i := (ij : Int)) (H4.out.then hz).fl.fr
                rw [pas_pat lj] at this
                exact this.mono (fun e w' h => ⟨h.1, by rw [h.2]; exact But.refl _ _⟩)
              have hmb : i + 1 + 1 ≤ 400 := by have := HLT.out; omega
              obtain ⟨r, hr1, hr2, hr3, hr4⟩ := sub_near (HT2.out.fin hmb ik) (HT2.out.fin hmb ij) (HT2.out.dist hmb wk wj)
              have HSUB : Hid (∀ wz : World, (binOp .sub 31 (.float .f64 (pat T2 ik)) (.float .f64 (pat T2 ij))).run Try.prog wz = .ok (.float .f64 r) wz) := fun wz => run_float_arith wz .sub _ .f64 _ _ _ hr1
              have hne : (FloatKind.f64.format.order r r != some Ordering.eq) = false := by rw [ne_self r hr2]; exact hr3
              have hgt : (FloatKind.f64.format.order r 4652222813120233472 == some Ordering.gt) = false := by
                have h9 := ord_gt r 4652222813120233472 hr2 (by decide)
                rw [show sm 4652222813120233472 = 4652222813120233472 from by decide +kernel, decide_eq_false (show ¬ (4652222813120233472 : Int) < sm r by omega), Bool.and_false] at h9
                exact h9
              generalize pat T2 ik = pk at *
              generalize pat T2 ij = pj at *
              clear hik hij lk wk lj wj hcell hmb hr1 hr2 hr3 hr4 hkq hjq
              go_upto_region 17 with fail
              refine region_chain [] [0, 1, 2, 3, 4, 5, 6, 7, 8, 9, 10, 11, 12, 13] (Grow w4) (Grow w4) (by kernel_rfl) (by kernel_rfl) (fun _ _ h k => h.trans k) (fun _ h => h) (HGJ.out.drew) ?_
              intro ι hne2 X hX
              have x1 : ∀ z, (X z).cell? ⟨b4, k, none⟩ = some (.int .i64 (ik : Int)) := fun z => grow_cell (hX z) HCK.out
              have x2 : ∀ z, (X z).cell? ⟨b4, j, none⟩ = some (.int .i64 (ij : Int)) := fun z => grow_cell (hX z) HCJ.out
              iterate 5 (refine still_step rfl (fun K hK => ?_); go_simp; refine hK _ ?_; clear hK K)
              refine still_call rfl (.float .f64 pk) 17 #[ptr g, .int .i64 (ik : Int)] rfl (fun x => by kernel_rfl) (fun x => HPK.out _ (hX x)) ?_
              intro K hK; go_simp; refine hK _ ?_; clear hK K
              iterate 5 (refine still_step rfl (fun K hK => ?_); go_simp; refine hK _ ?_; clear hK K)
              refine still_call rfl (.float .f64 pj) 17 #[ptr g, .int .i64 (ij : Int)] rfl (fun x => by kernel_rfl) (fun x => HPJ.out _ (hX x)) ?_
              intro K hK; go_simp; refine hK _ ?_; clear hK K
              refine still_val rfl (.float .f64 r) rfl (fun z => exec_subF rfl rfl rfl (HSUB.out _)) ?_
              intro K hK; go_simp; refine hK _ ?_; clear hK K
              iterate 1 (refine still_step rfl (fun K hK => ?_); go_simp; refine hK _ ?_; clear hK K)
              refine still_nil ?_
              clear hX hne2 x1 x2
              intro w9 hw9
              have HW9 := Hid.mk' hw9
              clear hw9
              go_wp2
              exact ⟨⟨j + 1, by omega, by go_num, HW9.out⟩, by simp [intOf]; omega⟩
            · go_wp2
              exact ⟨⟨k + 1, by omega, by go_num, HGJ.out⟩, by simp [intOf]; omega⟩
        · have H6 := Hid.mk' (H4.out.then HGK.out)
          go_wp2
          exact ⟨⟨i + 1, by have := HLT.out; omega, by have := HLT.out; omega, by go_num, T2, HT2.out, H6.out⟩, by simp [intOf]; have := HLT.out; omega⟩
    · have HAW := Hid.mk' (awake_any wr)
      have HG := Hid.mk' hF.fl.grow
      clear hF hT
      rcases (by omega : ¬ (i : Int) < (l : Int) ∨ ((i : Int) < (l : Int) ∧ ¬ (i : Int) < 300)) with h1 | ⟨h1, h2⟩
      all_goals
        clear hlt
        go_wp2_with fail
        refine Calls.mono HAW.out ?_
        rintro e w7 ⟨rfl, h7⟩
        go_wp2
        go_ret
        exact ⟨rfl, (HG.out.trans h7).below (Nat.le_refl _) (fun _ _ h => h)⟩
set_option maxRecDepth 100000 in
theorem fairNear_lifted (os : Os) (started : os.Started) (H : Type) (enc : TypeId × Value → H) :
    ReturnsInHanded {} Try.checked os 4 .any (Rows.fairNearSpec.pre6 enc Try.prog Try.f4 Rows.fairNearRow.domain false) (Rows.fairNearSpec.post enc Try.prog Try.f4 false true false false) := by
  refine returnsInHanded_of_change_sized (C := Try.checked) (by kernel_rfl) started (by kernel_rfl) Try.func4
    (ChangeSpec.witness6 (enc := enc) (C := Try.checked) false ⟨#[], #[.int .i64 0, .slice none 0 0], []⟩ 8 (by kernel_rfl) (by kernel_rfl) (by kernel_rfl) (by kernel_rfl)) ?_
  intro W base args ds gs before hval0 hW hcnd hsz0 _
  have hsz : (DataW.weightsEach Try.prog (Try.f4.params.toList ++ Rows.fairNearSpec.plain.varTypes Try.prog) (ds ++ gs)).all (· ≤ reachBytes) = true := hsz0
  clear hsz0
  have hval : ∀ (j : Nat) t v, Try.f4.params[j]? = some t → args[j]? = some v → Value.okWide Try.prog W .any base t v := hval0
  have hW' := hW
  obtain ⟨p, q, hA0, hV, rfl, hfz, hnd⟩ := hW
  have hA : DataW.TrodAll enc Try.prog W 0 (fun _ => true) true Try.f4.params.toList args.toList ds p := hA0
  rw [Try.params4] at hA hval hsz
  obtain ⟨v0, vs0, d0, ds0, p0, q0, hargs, rfl, rfl, h0, r0⟩ := trodAll_cons hA
  obtain ⟨v1, vs1, d1, ds1, p1, q1, rfl, rfl, rfl, h1, r1⟩ := trodAll_cons r0
  obtain ⟨rfl, rfl, rfl⟩ := trodAll_nil r1
  obtain rfl : args = #[v0, v1] := by cases args; simp_all
  obtain ⟨rfl, rfl⟩ := trodVars_none hV
  obtain ⟨a0, rfl, rfl, rfl, w0⟩ := open_int Try.underlying3 (hval 0 3 v0 rfl rfl) h0
  have lt1 : ∀ x ∈ p1, x.block < W.heap.size := by obtain ⟨m, hm⟩ := h1; exact DataW.trod_lt m _ _ _ hm
  obtain ⟨n1, z1, w1⟩ := view_racts15 (hval 1 22 v1 rfl rfl) h1 lt1 hsz (j := 1) rfl rfl
  clear hA0 hval0
  refine (fairNear_walk a0 v1 n1 z1 W w0 w1).mono fun e W' ⟨he, bel⟩ => ?_
  subst he
  exact ⟨_, rfl, _, _, _, [], _, [], hW', trodAll_mk1 (shut_bool Try.underlying4 _), (trodAll_cons_mk (shut_int Try.underlying3 w0) (trodAll_cons_mk (Below.trod (by kernel_rfl) (by kernel_rfl) (of_decide_eq_true (by kernel_rfl)) h1 bel lt1) trodAll_mk0)), rfl, bel.frame _, fun h => by cases h⟩

theorem fairNear_holds : Rows.FairNearSaid :=
  OpenClaim.holds_of_wide 4 Try.f4 rfl rfl rfl rfl rfl rfl rfl ⟨rfl, rfl, rfl, rfl, rfl⟩ rfl rfl rfl rfl rfl (by kernel_rfl) Try.func4 (by kernel_rfl)
    (of_decide_eq_true (by kernel_rfl)) (by unfold Func.isWrapper; first | (rw [if_pos (by decide +kernel)]; kernel_rfl) | (rw [if_neg (by decide +kernel)]; exact ⟨rfl, rfl⟩))
    (fun os started H enc _ => fairNear_lifted os started H enc)
#print axioms fairNear_holds
end Go.Proofs.Yteapkajebhkjcaa
