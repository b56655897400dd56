/- TreeBinds: the row and the card, over the walk. -/
import Derived.Test.YtbidllclcedjbaaDoorAllB
import Derived.Test.YtbidllclcedjbaaDoorArrNumG
import Derived.Test.YtbidllclcedjbaaDoorAllF
namespace Go.Proofs.YtbidllclcedjbaaDoor
open Go.ChangeShapes Go.WideShapes Go.ChangeAt Go.RowKit

set_option maxRecDepth 100000 in
theorem treeBinds_lifted (walk : ∀ (a0 : Int) (a1 : Int) (v2 : Value) (z2 : List (List Nat)) (v3 : Value) (z3 : List (List Nat)) (D4 : List Nat) (w : World), Kw w → Hw w → (Lit.int .i64 a0).wf = true → (Lit.int .i64 a1).wf = true → ((Ps w v2 z2 ∧ z2.length * 24 ≤ 140737488351232 ∧ ∀ x ∈ z2, x.length ≤ 140737488351232) ∧ ∀ ao n c, v2 = .slice ao n c → n ≤ c) → ((Ps w v3 z3 ∧ z3.length * 24 ≤ 140737488351232 ∧ ∀ x ∈ z3, x.length ≤ 140737488351232) ∧ ∀ ao n c, v3 = .slice ao n c → n ≤ c) → (wf32 D4) → Calls Tryd.prog 8 #[.int .i64 a0, .int .i64 a1, v2, v3, dkey D4] w fun e w' => e = .returned (.bool true) ∧ Below w.heap.size w w') (os : Os) (started : os.Started) (H : Type) (enc : TypeId × Value → H) :
    ReturnsInHanded {} Tryd.checked os 8 .any (fun w args => (Rows.treeBindsSpec.pre enc Tryd.prog Tryd.f8 [] false w args ∧ laidMetH Tryd.prog Rows.treeBindsRow.laid w) ∧ sizedMet enc Tryd.prog Tryd.f8 (OpenSpec.ofChange Rows.treeBindsSpec) false w args)
      (Rows.treeBindsSpec.post enc Tryd.prog Tryd.f8 false true false false) := by
  refine returnsInHanded_of_change_and (C := Tryd.checked) (X := fun w _ => laidMetH Tryd.prog Rows.treeBindsRow.laid w) (fun _ _ _ hh h => h.of_heap hh) Tryd.own started (by kernel_rfl) Tryd.func8
    (ChangeSpec.witness_shaped (enc := enc) (C := Tryd.checked) (os := os) (X := fun w _ => laidMetH Tryd.prog Rows.treeBindsRow.laid w) false (World.doorLaid Tryd.prog 19 os) #[.int .i64 0, .int .i64 0, .slice none 0 0, .slice none 0 0, .agg #[.int .u8 0, .int .u8 0, .int .u8 0, .int .u8 0, .int .u8 0, .int .u8 0, .int .u8 0, .int .u8 0, .int .u8 0, .int .u8 0, .int .u8 0, .int .u8 0, .int .u8 0, .int .u8 0, .int .u8 0, .int .u8 0, .int .u8 0, .int .u8 0, .int .u8 0, .int .u8 0, .int .u8 0, .int .u8 0, .int .u8 0, .int .u8 0, .int .u8 0, .int .u8 0, .int .u8 0, .int .u8 0, .int .u8 0, .int .u8 0, .int .u8 0, .int .u8 0]] 8 rfl (World.shaped_of_RefB (by kernel_rfl) (by kernel_rfl)) (by kernel_rfl) (by kernel_rfl) (by kernel_rfl) (door_met os _)) ?_
  intro W base args ds gs before hval0 hW _ hsz0 hL _
  have hsz : (DataW.weightsEach Tryd.prog (Tryd.f8.params.toList ++ Rows.treeBindsSpec.plain.varTypes Tryd.prog) (ds ++ gs)).all (· ≤ reachBytes) = true := hsz0
  clear hsz0
  have hval : ∀ (j : Nat) t v, Tryd.f8.params[j]? = some t → args[j]? = some v → Value.okWide Tryd.prog W .any base t v := hval0
  have hW' := hW
  obtain ⟨p, q, hA0, hV, rfl, hfz, hnd⟩ := hW
  have hA : DataW.TrodAll enc Tryd.prog W 0 (fun _ => true) true Tryd.f8.params.toList args.toList ds p := hA0
  rw [Tryd.params8] at hA hval hsz
  obtain ⟨v0, vs0, d0, ds0, p0, q0, hargs, rfl, rfl, h0, r0⟩ := trodAll_cons hA
  obtain ⟨v1, vs1, d1, ds1, p1, q1, rfl, rfl, rfl, h1, r1⟩ := trodAll_cons r0
  obtain ⟨v2, vs2, d2, ds2, p2, q2, rfl, rfl, rfl, h2, r2⟩ := trodAll_cons r1
  obtain ⟨v3, vs3, d3, ds3, p3, q3, rfl, rfl, rfl, h3, r3⟩ := trodAll_cons r2
  obtain ⟨v4, vs4, d4, ds4, p4, q4, rfl, rfl, rfl, h4, r4⟩ := trodAll_cons r3
  obtain ⟨rfl, rfl, rfl⟩ := trodAll_nil r4
  obtain rfl : args = #[v0, v1, v2, v3, v4] := by cases args; simp_all
  obtain ⟨rfl, rfl⟩ := trodVars_none hV
  obtain ⟨a0, rfl, rfl, rfl, w0⟩ := open_int Tryd.underlying3 (hval 0 3 v0 rfl rfl) h0
  obtain ⟨a1, rfl, rfl, rfl, w1⟩ := open_int Tryd.underlying3 (hval 1 3 v1 rfl rfl) h1
  have lt2 : ∀ x ∈ p2, x.block < W.heap.size := by obtain ⟨m, hm⟩ := h2; exact DataW.trod_lt m _ _ _ hm
  have rm2 := view_room Tryd.underlying45 (by kernel_rfl) (hval 2 45 v2 rfl rfl) h2
  obtain ⟨z2, w2⟩ := view_parts Tryd.underlying45 Tryd.underlying22 Tryd.underlying5 (by kernel_rfl) (by kernel_rfl) (by kernel_rfl) (by kernel_rfl) (hval 2 45 v2 rfl rfl) h2 lt2 hsz (j := 2) rfl rfl
  have lt3 : ∀ x ∈ p3, x.block < W.heap.size := by obtain ⟨m, hm⟩ := h3; exact DataW.trod_lt m _ _ _ hm
  have rm3 := view_room Tryd.underlying45 (by kernel_rfl) (hval 3 45 v3 rfl rfl) h3
  obtain ⟨z3, w3⟩ := view_parts Tryd.underlying45 Tryd.underlying22 Tryd.underlying5 (by kernel_rfl) (by kernel_rfl) (by kernel_rfl) (by kernel_rfl) (hval 3 45 v3 rfl rfl) h3 lt3 hsz (j := 3) rfl rfl
  have lt4 : ∀ x ∈ p4, x.block < W.heap.size := by obtain ⟨m, hm⟩ := h4; exact DataW.trod_lt m _ _ _ hm
  obtain ⟨D4, rfl, w4⟩ := view_arrN Tryd.underlying26 Tryd.underlying5 (by kernel_rfl) (by kernel_rfl) (hval 4 26 v4 rfl rfl) h4 lt4 hsz (j := 4) rfl rfl
  obtain ⟨hh, hk⟩ := of_laid hL
  clear hA0 hval0
  refine (walk a0 a1 v2 z2 v3 z3 D4 W hk hh w0 w1 ⟨w2, rm2⟩ ⟨w3, rm3⟩ w4).mono fun e W' ⟨he, bel⟩ => ?_
  subst he
  exact ⟨_, rfl, _, _, _, [], _, [], hW', trodAll_mk1 (shut_bool Tryd.underlying4 _), (trodAll_cons_mk (shut_int Tryd.underlying3 w0) (trodAll_cons_mk (shut_int Tryd.underlying3 w1) (trodAll_cons_mk (Below.trod (by kernel_rfl) (by kernel_rfl) (of_decide_eq_true (by kernel_rfl)) h2 bel lt2) (trodAll_cons_mk (Below.trod (by kernel_rfl) (by kernel_rfl) (of_decide_eq_true (by kernel_rfl)) h3 bel lt3) (trodAll_cons_mk (Below.trod (by kernel_rfl) (by kernel_rfl) (of_decide_eq_true (by kernel_rfl)) h4 bel lt4) trodAll_mk0))))), rfl, bel.frame _, fun h => by cases h⟩
theorem treeBinds_row (walk : ∀ (a0 : Int) (a1 : Int) (v2 : Value) (z2 : List (List Nat)) (v3 : Value) (z3 : List (List Nat)) (D4 : List Nat) (w : World), Kw w → Hw w → (Lit.int .i64 a0).wf = true → (Lit.int .i64 a1).wf = true → ((Ps w v2 z2 ∧ z2.length * 24 ≤ 140737488351232 ∧ ∀ x ∈ z2, x.length ≤ 140737488351232) ∧ ∀ ao n c, v2 = .slice ao n c → n ≤ c) → ((Ps w v3 z3 ∧ z3.length * 24 ≤ 140737488351232 ∧ ∀ x ∈ z3, x.length ≤ 140737488351232) ∧ ∀ ao n c, v3 = .slice ao n c → n ≤ c) → (wf32 D4) → Calls Tryd.prog 8 #[.int .i64 a0, .int .i64 a1, v2, v3, dkey D4] w fun e w' => e = .returned (.bool true) ∧ Below w.heap.size w w') : Rows.TreeBindsSaid :=
  OpenClaim.holds_of_wide 8 Tryd.f8 rfl rfl rfl rfl rfl rfl rfl ⟨rfl, rfl, rfl, rfl, rfl⟩ rfl rfl rfl rfl rfl (by kernel_rfl) Tryd.func8 (by kernel_rfl)
    (of_decide_eq_true (by kernel_rfl)) (by unfold Func.isWrapper; first | (rw [if_pos (by decide +kernel)]; kernel_rfl) | (rw [if_neg (by decide +kernel)]; exact ⟨rfl, rfl⟩))
    (fun os started H enc _ => treeBinds_lifted walk os started H enc)
theorem treeBinds_card (walk : ∀ (a0 : Int) (a1 : Int) (v2 : Value) (z2 : List (List Nat)) (v3 : Value) (z3 : List (List Nat)) (D4 : List Nat) (w : World), Kw w → Hw w → (Lit.int .i64 a0).wf = true → (Lit.int .i64 a1).wf = true → ((Ps w v2 z2 ∧ z2.length * 24 ≤ 140737488351232 ∧ ∀ x ∈ z2, x.length ≤ 140737488351232) ∧ ∀ ao n c, v2 = .slice ao n c → n ≤ c) → ((Ps w v3 z3 ∧ z3.length * 24 ≤ 140737488351232 ∧ ∀ x ∈ z3, x.length ≤ 140737488351232) ∧ ∀ ao n c, v3 = .slice ao n c → n ≤ c) → (wf32 D4) → Calls Tryd.prog 8 #[.int .i64 a0, .int .i64 a1, v2, v3, dkey D4] w fun e w' => e = .returned (.bool true) ∧ Below w.heap.size w w') : Rows.TreeBindsCardSaid :=
  Claim7.holds_tied_plain_at .later [] [.data, .data] true Rows.treeBindsCard.stood.harness false
    (treeBinds_row walk) (fun _ h => by cases h) (by kernel_rfl) (fun _ h => by cases h) treeBinds_row_tie rfl ⟨rfl, rfl⟩ (by kernel_rfl) rfl
    (fun f fn hf hfn => by
      obtain rfl : f = 8 := Option.some.inj ((show Tryd.prog.funcNamed Rows.treeBindsRow.func = some 8 by kernel_rfl).symm.trans hf) |>.symm
      obtain rfl : fn = Tryd.f8 := (Option.some.inj (Tryd.func8.symm.trans hfn)).symm
      exact ⟨by kernel_rfl, fun j t ht => by
        rw [Tryd.params8] at ht
        have hm : t ∈ [3, 3, 45, 45, 26] := by simpa using Array.mem_of_getElem? ht
        have hall : ([3, 3, 45, 45, 26].all fun u => !Tryd.prog.wantsStandIn u) = true := by kernel_rfl
        exact (show Tryd.prog.wantsStandIn t = false by simpa using List.all_eq_true.1 hall t hm)⟩)
    (by kernel_rfl)
end Go.Proofs.YtbidllclcedjbaaDoor
