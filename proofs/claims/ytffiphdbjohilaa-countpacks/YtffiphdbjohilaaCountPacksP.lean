/- CountPacks: any entries are packed as the document says, or refused. For every input. -/
import Derived.Test.YtffiphdbjohilaaCtView
namespace Go.Proofs.Ytffiphdbjohilaa
open Go.ChangeShapes Go.WideShapes Go.ChangeAt Go.RowKit Go.Deep

set_option maxRecDepth 100000 in
set_option maxHeartbeats 2000000 in
theorem countPacks_walk (v0 : Value) (n : Nat) (A : Nat → En) (w : World) (h : Ens w v0 n A) :
    Calls Try.prog 3 #[v0] w fun e w' => e = .returned (.bool true) ∧ Below w.heap.size w w' := by
  obtain ⟨ao, cap, rfl⟩ := h.len
  by_cases hn : n ≤ 16
  · have H1 := Hid.mk' (pack_any h hn)
    have HE := Hid.mk' h
    have HN := Hid.mk' hn
    clear h hn
    go_enter Try.func3, Try.ntmps3
    go_wp2_with fail
    refine Calls.mono H1.out ?_
    rintro e w1 ⟨v1, rfl, hb1⟩
    have HO1 := Hid.mk' hb1.ow
    have HT1 := Hid.mk' hb1.but
    have H2 := Hid.mk' (rpack_any (HE.out.but hb1.but (fun _ _ _ h => h)) HN.out)
    obtain ⟨a1, m1, c1, rfl⟩ := HO1.out.slice
    clear hb1 H1
    go_wp2_with fail
    refine Calls.mono H2.out ?_
    rintro e w2 ⟨v2, rfl, hb2, ht2⟩
    have H3 := Hid.mk' (same_any (HO1.out.bs.but ht2 (fun _ _ _ h => h)) hb2)
    rw [decide_eq_true rfl] at H3
    have HT2 := Hid.mk' ht2
    obtain ⟨a2, m2, c2, rfl⟩ := hb2.sl
    clear H2 hb2 ht2
    go_wp2_with fail
    refine Calls.mono H3.out ?_
    rintro e w3 ⟨rfl, d, rfl⟩
    go_wp2_with fail
    refine Calls.mono (cawake_any _) ?_
    rintro e w4 ⟨rfl, ht4⟩
    go_wp2
    go_ret
    exact ⟨rfl, (((HT1.out.trans HT2.out).drewN).trans ht4).below (Nat.le_refl _) (fun _ _ h => h)⟩
  · have H1 := Hid.mk' (pack_no h (by omega))
    have H2 := Hid.mk' (rpack_no h (by omega))
    clear h
    go_enter Try.func3, Try.ntmps3
    go_wp2_with fail
    refine Calls.mono H1.out ?_
    rintro e w1 ⟨rfl, hw⟩
    have hw2 := hw.symm
    subst hw2
    go_wp2_with fail
    refine Calls.mono H2.out ?_
    rintro e w2 ⟨rfl, hw⟩
    have hw2 := hw.symm
    subst hw2
    go_wp2_with fail
    refine Calls.mono (same_any (Bs.nil _) (Bs.nil _)) ?_
    rintro e w3 ⟨rfl, d, rfl⟩
    rw [decide_eq_true rfl]
    go_wp2_with fail
    refine Calls.mono (cawake_any _) ?_
    rintro e w4 ⟨rfl, ht4⟩
    go_wp2
    go_ret
    exact ⟨rfl, (((But.refl _ _).drewN).trans ht4).below (Nat.le_refl _) (fun _ _ h => h)⟩

set_option maxRecDepth 100000 in
theorem countPacks_lifted (os : Os) (started : os.Started) (H : Type) (enc : TypeId × Value → H) :
    ReturnsInHanded {} Try.checked os 3 .any (Rows.countPacksSpec.pre6 enc Try.prog Try.f3 Rows.countPacksRow.domain false) (Rows.countPacksSpec.post enc Try.prog Try.f3 false true false false) := by
  refine returnsInHanded_of_change_sized (C := Try.checked) (by kernel_rfl) started (by kernel_rfl) Try.func3
    (ChangeSpec.witness6 (enc := enc) (C := Try.checked) false ⟨#[], #[.slice none 0 0], []⟩ 8 (by kernel_rfl) (by kernel_rfl) (by kernel_rfl) (by kernel_rfl)) ?_
  intro W base args ds gs before hval0 hW hcnd hsz0 _
  have hsz : (DataW.weightsEach Try.prog (Try.f3.params.toList ++ Rows.countPacksSpec.plain.varTypes Try.prog) (ds ++ gs)).all (· ≤ reachBytes) = true := hsz0
  clear hsz0
  have hval : ∀ (j : Nat) t v, Try.f3.params[j]? = some t → args[j]? = some v → Value.okWide Try.prog W .any base t v := hval0
  have hW' := hW
  obtain ⟨p, q, hA0, hV, rfl, hfz, hnd⟩ := hW
  have hA : DataW.TrodAll enc Try.prog W 0 (fun _ => true) true Try.f3.params.toList args.toList ds p := hA0
  rw [Try.params3] at hA hval hsz
  obtain ⟨v0, vs0, d0, ds0, p0, q0, hargs, rfl, rfl, h0, r0⟩ := trodAll_cons hA
  obtain ⟨rfl, rfl, rfl⟩ := trodAll_nil r0
  obtain rfl : args = #[v0] := by cases args; simp_all
  obtain ⟨rfl, rfl⟩ := trodVars_none hV
  have lt0 : ∀ x ∈ p0, x.block < W.heap.size := by obtain ⟨m, hm⟩ := h0; exact DataW.trod_lt m _ _ _ hm
  obtain ⟨n0, z0, w0⟩ := view_entries (hval 0 22 v0 rfl rfl) h0 lt0 hsz (j := 0) rfl rfl
  clear hA0 hval0
  refine (countPacks_walk v0 n0 z0 W w0).mono fun e W' ⟨he, bel⟩ => ?_
  subst he
  exact ⟨_, rfl, _, _, _, [], _, [], hW', trodAll_mk1 (shut_bool Try.underlying4 _), (trodAll_cons_mk (Below.trod (by kernel_rfl) (by kernel_rfl) (of_decide_eq_true (by kernel_rfl)) h0 bel lt0) trodAll_mk0), rfl, bel.frame _, fun h => by cases h⟩

theorem countPacks_holds : Rows.CountPacksSaid :=
  OpenClaim.holds_of_wide 3 Try.f3 rfl rfl rfl rfl rfl rfl rfl ⟨rfl, rfl, rfl, rfl, rfl⟩ rfl rfl rfl rfl rfl (by kernel_rfl) Try.func3 (by kernel_rfl)
    (of_decide_eq_true (by kernel_rfl)) (by unfold Func.isWrapper; first | (rw [if_pos (by decide +kernel)]; kernel_rfl) | (rw [if_neg (by decide +kernel)]; exact ⟨rfl, rfl⟩))
    (fun os started H enc _ => countPacks_lifted os started H enc)
#print axioms countPacks_holds
end Go.Proofs.Ytffiphdbjohilaa
