/- DevTorn: the walk. -/
import Derived.Test.YtbdmlnmicijnjaaDvAwake
import Derived.Test.YtbdmlnmicijnjaaHalve
import Derived.ProofKit
import Derived.OpenShut
import Derived.ChangeOld
import Derived.Below
namespace Go.Proofs.Ytbdmlnmicijnjaa
open Go.ChangeShapes Go.WideShapes Go.ChangeAt Go.RowKit

theorem pick257 (x : Int) (w : World) :
    Calls Try.prog 12 #[.int .i64 x, .int .i64 257] w fun e w' => e = .returned (.int .i64 (spare [x] 0 : Int)) ∧ w' = w := by
  have ht1 : x.tmod 257 < 257 := Int.tmod_lt_of_pos x (by omega)
  have ht2 : -(257 : Int) < x.tmod 257 := by
    have := Int.lt_tmod_of_pos x (b := (257 : Int)) (by omega)
    omega
  obtain ⟨m, hm⟩ : ∃ m, m = x.tmod 257 := ⟨_, rfl⟩
  have hsp : (spare [x] 0 : Int) = x % 257 := by
    have h5 := Int.emod_nonneg x (b := 257) (by decide)
    show (((x % 257).toNat : Nat) : Int) = _
    omega
  have hem : x % 257 = if m < 0 then m + 257 else m := by
    have h5 := Int.emod_nonneg x (b := 257) (by decide)
    have h6 := Int.emod_lt_of_pos x (b := 257) (by decide)
    have h7 := Int.emod_add_mul_ediv x 257
    have h8 := Int.tmod_add_mul_tdiv x 257
    rw [hm]
    split <;> omega
  rw [← hm] at ht1 ht2
  have HSP := Hid.mk' hsp
  have HEM := Hid.mk' hem
  clear hsp hem
  by_cases hneg : m < 0
  · go_enter Try.func12, Try.ntmps12
    go_wp2
    go_ret
    refine ⟨?_, rfl⟩
    rw [HSP.out, HEM.out, if_pos hneg, hm]; rfl
  · go_enter Try.func12, Try.ntmps12
    go_wp2
    go_ret
    refine ⟨?_, rfl⟩
    rw [HSP.out, HEM.out, if_neg (by omega), hm]; rfl
theorem lay_take {B A : List Nat} {k : Nat} (hB : B.length = 256) (hk : k ≤ 256) : (layTo B A k).take k = B.take k := by
  unfold layTo
  rw [List.take_append_of_le_length (by rw [List.length_take]; omega), List.take_take, Nat.min_self]
theorem lay_drop {B A : List Nat} {k : Nat} (hB : B.length = 256) (hk : k ≤ 256) : (layTo B A k).drop k = A.drop k := by
  unfold layTo
  rw [List.drop_append_of_le_length (by rw [List.length_take]; omega), List.drop_take, Nat.sub_self, List.take_zero, List.nil_append]
set_option maxRecDepth 100000 in
set_option maxHeartbeats 4000000 in
theorem devTorn_walk (v0 : Value) (zs : List Nat) (v1 : Value) (ys : List Nat) (fate : Int) (w : World) (h0 : Bs w v0 zs ∧ zs.length ≤ 140737488351232) (h1 : Bs w v1 ys ∧ ys.length ≤ 140737488351232) (hf : (Lit.int .i64 fate).wf = true) :
    Calls Try.prog 5 #[v0, v1, .int .i64 fate] w fun e w' => e = .returned (.bool true) ∧ Below w.heap.size w w' := by
  have HFR : Hid (-9223372036854775808 ≤ fate ∧ fate ≤ 9223372036854775807) := by
    have e1 : IntKind.i64.min = -9223372036854775808 := rfl
    have e2 : IntKind.i64.max = 9223372036854775807 := rfl
    simp only [Lit.wf, e1, e2, Bool.and_eq_true, decide_eq_true_eq] at hf
    exact ⟨by omega, by omega⟩
  have HNW := Hid.mk' (new_any w 1 (by decide) (by decide))
  unfold Dev.fresh at HNW
  obtain ⟨st, hst⟩ : ∃ st, st = List.replicate 1 z256 := ⟨_, rfl⟩
  rw [← hst] at HNW
  have HSL : Hid (st.length = 1) := by show _ = _; rw [hst]; rfl
  obtain ⟨A, hA⟩ : ∃ A, A = fullOf zs := ⟨_, rfl⟩
  obtain ⟨B, hB⟩ : ∃ B, B = fullOf ys := ⟨_, rfl⟩
  have HAW : Hid (wf256 A) := by rw [hA]; exact fullOf_wf h0.1.1
  have HBW : Hid (wf256 B) := by rw [hB]; exact fullOf_wf h1.1.1
  have HAE := Hid.mk' hA
  have HBE := Hid.mk' hB
  have HV0 := Hid.mk' h0.1
  have HV1 := Hid.mk' h1.1
  clear hst hA hB h0 h1 hf
  go_enter Try.func5, Try.ntmps5
  go_wp2_with fail
  refine Calls.mono HNW.out ?_
  rintro e w1 ⟨gd, own, rfl, hd1⟩
  have HD1 := Hid.mk' hd1
  have HFA := Hid.mk' (full_any (HV0.out.but hd1.grow (fun _ _ _ h => h)))
  rw [← HAE.out] at HFA
  clear hd1 HNW
  go_wp2_with fail
  refine Calls.mono HFA.out ?_
  rintro e w2 ⟨⟨ga, rfl, hga, hoa⟩, hg2⟩
  have HD2 := Hid.mk' (HD1.out.then hg2)
  have HA2 : Hid (Bf w2 (Is own .none) (.slice (some ⟨ga, 0, none⟩) 256 256) A) := HD1.out.free hoa
  have HFB := Hid.mk' (full_any (HV1.out.but HD2.out.grow (fun _ _ _ h => h)))
  rw [← HBE.out] at HFB
  clear hga hoa hg2 HFA HD1
  go_wp2_with fail
  refine Calls.mono HFB.out ?_
  rintro e w3 ⟨⟨gb, rfl, hgb, hob⟩, hg3⟩
  have HD3 := Hid.mk' (HD2.out.then hg3)
  have HB3 : Hid (Bf w3 (Is own .none) (.slice (some ⟨gb, 0, none⟩) 256 256) B) := HD2.out.free hob
  have HA3 := Hid.mk' (HA2.out.but hg3 (fun _ _ h => h))
  have HW1 := Hid.mk' (write_any HD3.out.dv (by rfl) (b := 0) (by show 0 < st.length; rw [HSL.out]; decide) HA3.out HAW.out.1 (by show 0 < 100000; decide) (by show 0 < _; decide) (by show 0 ≤ _; decide))
  rw [if_neg (show ¬ (Dev.of st).arm = 1 by show ¬ (0 = 1); decide)] at HW1
  clear hgb hob hg3 HFB HD2 HA2
  go_wp2_with fail
  refine Calls.mono HW1.out ?_
  rintro e w4 ⟨rfl, h4⟩
  obtain ⟨own4, hd4, hk4, -⟩ := HD3.out.step h4
  have HD4 := Hid.mk' hd4
  have HA4 := Hid.mk' (hk4 _ _ HA3.out)
  have HB4 := Hid.mk' (hk4 _ _ HB3.out)
  have HFL := Hid.mk' (flush_any hd4.dv (by rfl) (by show 1 < _; decide) (by show 0 ≤ _; decide) (by show ¬ (0 = 1); decide))
  clear h4 hd4 hk4 HW1 HD3 HA3 HB3
  go_wp2_with fail
  refine Calls.mono HFL.out ?_
  rintro e w5 ⟨rfl, h5⟩
  obtain ⟨own5, hd5, hk5, -⟩ := HD4.out.step h5
  have HD5 := Hid.mk' hd5
  have HA5 := Hid.mk' (hk5 _ _ HA4.out)
  have HB5 := Hid.mk' (hk5 _ _ HB4.out)
  have HLN : Hid ((((Dev.of st).write 0 A).acc).acc.flushed.st.length = 1) := by
    show ((List.range st.length).map _).length = 1
    rw [List.length_map, List.length_range, HSL.out]
  have HW2 := Hid.mk' (write_any hd5.dv (by rfl) (b := 0) (by rw [HLN.out]; decide) HB5.out HBW.out.1 (by show 1 < 100000; decide) (by show 2 < _; decide) (by show 0 ≤ _; decide))
  rw [if_neg (show ¬ ((((Dev.of st).write 0 A).acc).acc.flushed).arm = 1 by show ¬ (0 = 1); decide)] at HW2
  clear h5 hd5 hk5 HFL HD4 HA4 HB4
  go_wp2_with fail
  refine Calls.mono HW2.out ?_
  rintro e w6 ⟨rfl, h6⟩
  obtain ⟨own6, hd6, hk6, -⟩ := HD5.out.step h6
  have HD6 : Hid (DvN w w6 own6 gd (chain st 0 A B)) := hd6
  have HA6 := Hid.mk' (hk6 _ _ HA5.out)
  have HB6 := Hid.mk' (hk6 _ _ HB5.out)
  have HCR := Hid.mk' (crash_any HD6.out.dv)
  clear h6 hd6 hk6 HW2 HD5 HA5 HB5
  go_wp2_with fail
  refine Calls.mono HCR.out ?_
  rintro e w7 ⟨rfl, h7⟩
  obtain ⟨own7, hd7, hk7, -⟩ := HD6.out.step h7
  have HD7 := Hid.mk' hd7
  have HA7 := Hid.mk' (hk7 _ _ HA6.out)
  have HB7 := Hid.mk' (hk7 _ _ HB6.out)
  have HR7 := Hid.mk' (read_down hd7.dv (by rfl) 0)
  have HW7 := Hid.mk' (write_down hd7.dv (by rfl) 0 (.slice (some ⟨ga, 0, none⟩) 256 256))
  have HF7 := Hid.mk' (flush_down hd7.dv (by rfl))
  have HS7 := Hid.mk' (spend_any hd7.dv (by show 3 < _; decide) (by show 0 ≤ _; decide))
  clear h7 hd7 hk7 HCR HD6 HA6 HB6
  go_wp2_with fail
  refine Calls.mono HR7.out ?_
  rintro e w7 ⟨rfl, rfl⟩
  go_wp2_with fail
  refine Calls.mono HW7.out ?_
  rintro e w7 ⟨rfl, rfl⟩
  go_wp2_with fail
  refine Calls.mono HF7.out ?_
  rintro e w7 ⟨rfl, rfl⟩
  go_wp2_with fail
  refine Calls.mono HS7.out ?_
  rintro e w8 ⟨rfl, h8⟩
  obtain ⟨own8, hd8, hk8, -⟩ := HD7.out.step h8
  have HA8' := Hid.mk' (hk8 _ _ HA7.out)
  have HB8' := Hid.mk' (hk8 _ _ HB7.out)
  have hd8' : DvN w w8 own8 gd { chain st 0 A B with arm := 0, up := false } := hd8
  have hg8 : Grow w8 (w8.alloc (.cells #[.int .i64 fate] 3)) := (But.refl _ w8).alloc _
  have HD8 := Hid.mk' (hd8'.then hg8)
  have HA8 := Hid.mk' (HA8'.out.but hg8 (fun _ _ h => h))
  have HB8 := Hid.mk' (HB8'.out.but hg8 (fun _ _ h => h))
  have HON := Hid.mk' (on_any HD8.out.dv (by rfl) (v := .slice (some ⟨w8.heap.size, 0, none⟩) 1 1) (fs := [fate]) ⟨lit_i w8 fate HFR.out.1 HFR.out.2, fun _ j hj => hd8.dv.top j (by cases hj; exact Nat.le_refl _)⟩ (by show 2 ≤ 100000; decide))
  have hsp : ((({ chain st 0 A B with arm := 0, up := false } : Dev).up && !(({ chain st 0 A B with arm := 0, up := false } : Dev).arm == 1))) = false := rfl
  rw [hsp]
  clear h8 hd8 hd8' hk8 hg8 HD7 HA7 HB7 HA8' HB8' HR7 HW7 HF7 HS7 hsp
  go_wp2_with (first
    | (refine wpList_run rfl (exec_row1 Try.underlying33 infI (by decide) (by decide) rfl rfl rfl) ?_)
    | fail)
  refine Calls.mono HON.out ?_
  rintro e w9 ⟨rfl, h9⟩
  obtain ⟨own9, hd9, hk9, -⟩ := HD8.out.step h9
  have HD9 := Hid.mk' hd9
  have HA9 := Hid.mk' (hk9 _ _ HA8.out)
  have HB9 := Hid.mk' (hk9 _ _ HB8.out)
  obtain ⟨k, hk⟩ : ∃ k, k = spare [fate] 0 := ⟨_, rfl⟩
  have HK : Hid (k ≤ 256) := by rw [hk]; exact spare_le _ _
  have HNOW : Hid ((({ chain st 0 A B with arm := 0, up := false } : Dev).on [fate]).now 0 = layTo B A k) := by
    show _ = _
    rw [chain_on (by rw [HSL.out]; decide), ← hk]
  have HRD := Hid.mk' (read_any hd9.dv (by rfl) (b := 0) (by
    show 0 < (tear _ _ _).length
    rw [tear_len]
    show 0 < ((List.range st.length).map _).length
    rw [List.length_map, List.length_range, HSL.out]; decide))
  rw [HNOW.out] at HRD
  have HPK := Hid.mk' (fun w => pick257 fate w)
  rw [← hk] at HPK
  clear h9 hd9 hk9 HON HD8 HA8 HB8 hk
  go_wp2_with fail
  refine Calls.mono HRD.out ?_
  rintro e wA ⟨gc, rfl, hgc, hbc, hgA⟩
  have HDA := Hid.mk' (HD9.out.then hgA)
  have HLW : Hid (wf256 (layTo B A k)) := layTo_wf HBW.out HAW.out HK.out
  have HCA := Hid.mk' (hbc.bs HLW.out.1 (by decide) HLW.out.2 (by decide))
  have HAA := Hid.mk' (HA9.out.but hgA (fun _ _ h => h)).1
  have HBA := Hid.mk' (HB9.out.but hgA (fun _ _ h => h)).1
  clear hgc hbc hgA HRD HD9 HA9 HB9
  go_wp2_with fail
  refine Calls.mono (HPK.out _) ?_
  rintro e wA ⟨rfl, rfl⟩
  obtain ⟨c1, c2, hc1, hc2, hbc1, hbc2⟩ := HCA.out.halve (n := k) (by rw [HLW.out.1]; exact HK.out)
  obtain ⟨a1, a2, ha1, ha2, hba1, hba2⟩ := HAA.out.halve (n := k) (by rw [HAW.out.1]; exact HK.out)
  obtain ⟨b1, b2, hb1, hb2, hbb1, hbb2⟩ := HBA.out.halve (n := k) (by rw [HBW.out.1]; exact HK.out)
  rw [lay_take HBW.out.1 HK.out] at hbc1
  rw [lay_drop HBW.out.1 HK.out] at hbc2
  have HSA : Hid (∀ w', Grow wA w' → Calls Try.prog 23 #[c1, b1] w' fun r w'' => r = .returned (.bool true) ∧ Grow w' w'') := fun w' hw => by
    have := same_any (hbc1.but hw (fun _ _ _ h => h)) (hbb1.but hw (fun _ _ _ h => h))
    rw [decide_eq_true rfl] at this
    refine this.mono ?_
    rintro r w'' ⟨rfl, d, rfl⟩
    exact ⟨rfl, (But.refl _ w').drewN⟩
  have HSB : Hid (∀ w', Grow wA w' → Calls Try.prog 23 #[c2, a2] w' fun r w'' => r = .returned (.bool true) ∧ Grow w' w'') := fun w' hw => by
    have := same_any (hbc2.but hw (fun _ _ _ h => h)) (hba2.but hw (fun _ _ _ h => h))
    rw [decide_eq_true rfl] at this
    refine this.mono ?_
    rintro r w'' ⟨rfl, d, rfl⟩
    exact ⟨rfl, (But.refl _ w').drewN⟩
  have HC1 := Hid.mk' hc1
  have HC2 := Hid.mk' hc2
  have HB1 := Hid.mk' hb1
  have HA2 := Hid.mk' ha2
  clear hc1 hc2 hbc1 hbc2 ha1 ha2 hba1 hba2 hb1 hb2 hbb1 hbb2 HPK HCA HAA HBA
  go_upto_region 12 with fail
  refine region_chain [] [0, 1, 2, 3, 4, 5, 6, 7, 8, 9, 10, 11, 12, 13, 14, 15, 16, 17, 18, 19, 20, 21, 22, 23, 24, 25, 26, 27, 28] (Grow wA) (Grow wA) (by kernel_rfl) (by kernel_rfl) (fun _ _ h k => h.trans k) (fun _ h => h) ((But.refl _ wA).drew) ?_
  intro ι hne X hX
  iterate 10 (refine still_step rfl (fun K hK => ?_); go_simp; refine hK _ ?_; clear hK K)
  refine still_val rfl c1 rfl (fun x => exec_slc rfl rfl rfl rfl (HC1.out _)) ?_
  intro K hK; go_simp; refine hK _ ?_; clear hK K
  iterate 2 (refine still_step rfl (fun K hK => ?_); go_simp; refine hK _ ?_; clear hK K)
  refine still_val rfl b1 rfl (fun x => exec_slc rfl rfl rfl rfl (HB1.out _)) ?_
  intro K hK; go_simp; refine hK _ ?_; clear hK K
  refine still_call rfl (.bool true) 23 #[c1, b1] rfl (fun x => by kernel_rfl) (fun x => HSA.out _ (hX x)) ?_
  intro K hK; go_simp; refine hK _ ?_; clear hK K
  iterate 4 (refine still_step rfl (fun K hK => ?_); go_simp; refine hK _ ?_; clear hK K)
  refine still_val rfl c2 rfl (fun x => exec_slc rfl rfl rfl rfl (HC2.out _)) ?_
  intro K hK; go_simp; refine hK _ ?_; clear hK K
  iterate 2 (refine still_step rfl (fun K hK => ?_); go_simp; refine hK _ ?_; clear hK K)
  refine still_val rfl a2 rfl (fun x => exec_slc rfl rfl rfl rfl (HA2.out _)) ?_
  intro K hK; go_simp; refine hK _ ?_; clear hK K
  refine still_call rfl (.bool true) 23 #[c2, a2] rfl (fun x => by kernel_rfl) (fun x => HSB.out _ (hX x)) ?_
  intro K hK; go_simp; refine hK _ ?_; clear hK K
  iterate 2 (refine still_step rfl (fun K hK => ?_); go_simp; refine hK _ ?_; clear hK K)
  refine still_call rfl (.bool true) 10 #[] rfl (fun x => by kernel_rfl) (fun x => awake_any _) ?_
  intro K hK; go_simp; refine hK _ ?_; clear hK K
  iterate 2 (refine still_step rfl (fun K hK => ?_); go_simp; refine hK _ ?_; clear hK K)
  refine still_nil ?_
  clear hX hne
  intro w' hw'
  have HW' := Hid.mk' (HDA.out.grow.trans hw')
  clear hw'
  go_wp2
  go_ret
  exact ⟨rfl, HW'.out.below (Nat.le_refl _) (fun _ _ h => h)⟩

set_option maxRecDepth 100000 in
theorem devTorn_lifted (os : Os) (started : os.Started) (H : Type) (enc : TypeId × Value → H) :
    ReturnsInHanded {} Try.checked os 5 .any (Rows.devTornSpec.pre6 enc Try.prog Try.f5 Rows.devTornRow.domain false) (Rows.devTornSpec.post enc Try.prog Try.f5 false true false false) := by
  refine returnsInHanded_of_change_sized (C := Try.checked) (by kernel_rfl) started (by kernel_rfl) Try.func5
    (ChangeSpec.witness6 (enc := enc) (C := Try.checked) false ⟨#[], #[.slice none 0 0, .slice none 0 0, .int .i64 0], []⟩ 8 (by kernel_rfl) (by kernel_rfl) (by kernel_rfl) (by kernel_rfl)) ?_
  intro W base args ds gs before hval0 hW hcnd hsz0 _
  have hsz : (DataW.weightsEach Try.prog (Try.f5.params.toList ++ Rows.devTornSpec.plain.varTypes Try.prog) (ds ++ gs)).all (· ≤ reachBytes) = true := hsz0
  clear hsz0
  have hval : ∀ (j : Nat) t v, Try.f5.params[j]? = some t → args[j]? = some v → Value.okWide Try.prog W .any base t v := hval0
  have hW' := hW
  obtain ⟨p, q, hA0, hV, rfl, hfz, hnd⟩ := hW
  have hA : DataW.TrodAll enc Try.prog W 0 (fun _ => true) true Try.f5.params.toList args.toList ds p := hA0
  rw [Try.params5] at hA hval hsz
  obtain ⟨v0, vs0, d0, ds0, p0, q0, hargs, rfl, rfl, h0, r0⟩ := trodAll_cons hA
  obtain ⟨v1, vs1, d1, ds1, p1, q1, rfl, rfl, rfl, h1, r1⟩ := trodAll_cons r0
  obtain ⟨v2, vs2, d2, ds2, p2, q2, rfl, rfl, rfl, h2, r2⟩ := trodAll_cons r1
  obtain ⟨rfl, rfl, rfl⟩ := trodAll_nil r2
  obtain rfl : args = #[v0, v1, v2] := by cases args; simp_all
  obtain ⟨rfl, rfl⟩ := trodVars_none hV
  have lt0 : ∀ x ∈ p0, x.block < W.heap.size := by obtain ⟨m, hm⟩ := h0; exact DataW.trod_lt m _ _ _ hm
  obtain ⟨z0, w0⟩ := view_bytes Try.underlying32 Try.underlying5 (by kernel_rfl) (by kernel_rfl) (hval 0 32 v0 rfl rfl) h0 lt0 hsz (j := 0) rfl rfl
  have lt1 : ∀ x ∈ p1, x.block < W.heap.size := by obtain ⟨m, hm⟩ := h1; exact DataW.trod_lt m _ _ _ hm
  obtain ⟨z1, w1⟩ := view_bytes Try.underlying32 Try.underlying5 (by kernel_rfl) (by kernel_rfl) (hval 1 32 v1 rfl rfl) h1 lt1 hsz (j := 1) rfl rfl
  obtain ⟨a2, rfl, rfl, rfl, w2⟩ := open_int Try.underlying3 (hval 2 3 v2 rfl rfl) h2
  clear hA0 hval0
  refine (devTorn_walk v0 z0 v1 z1 a2 W w0 w1 w2).mono fun e W' ⟨he, bel⟩ => ?_
  subst he
  exact ⟨_, rfl, _, _, _, [], _, [], hW', trodAll_mk1 (shut_bool Try.underlying4 _), (trodAll_cons_mk (Below.trod (by kernel_rfl) (by kernel_rfl) (of_decide_eq_true (by kernel_rfl)) h0 bel lt0) (trodAll_cons_mk (Below.trod (by kernel_rfl) (by kernel_rfl) (of_decide_eq_true (by kernel_rfl)) h1 bel lt1) (trodAll_cons_mk (shut_int Try.underlying3 w2) trodAll_mk0))), rfl, bel.frame _, fun h => by cases h⟩

theorem devTorn_holds : Rows.DevTornSaid :=
  OpenClaim.holds_of_wide 5 Try.f5 rfl rfl rfl rfl rfl rfl rfl ⟨rfl, rfl, rfl, rfl, rfl⟩ rfl rfl rfl rfl rfl (by kernel_rfl) Try.func5 (by kernel_rfl)
    (of_decide_eq_true (by kernel_rfl)) (by unfold Func.isWrapper; first | (rw [if_pos (by decide +kernel)]; kernel_rfl) | (rw [if_neg (by decide +kernel)]; exact ⟨rfl, rfl⟩))
    (fun os started H enc _ => devTorn_lifted os started H enc)
#print axioms devTorn_holds
end Go.Proofs.Ytbdmlnmicijnjaa
