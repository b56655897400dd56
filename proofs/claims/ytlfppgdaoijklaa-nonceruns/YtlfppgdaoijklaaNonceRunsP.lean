/- NonceRuns: a source tells number behind number, from the first on, each with its epoch, till they are at their end. For every input. -/
import Derived.Test.YtlfppgdaoijklaaNnLaw
import Derived.Test.YtlfppgdaoijklaaU32s
namespace Go.Proofs.Ytlfppgdaoijklaa
open Go.ChangeShapes Go.WideShapes Go.ChangeAt Go.RowKit Go.Deep

theorem lef_off {p : Nat} (h : 18446744073709551616 ≤ p) : lef p = 0 := by unfold lef; rw [if_neg (by omega)]; omega
theorem lef_on {p : Nat} (h : p < 18446744073709551616) : 0 < lef p := by unfold lef; split <;> omega
set_option maxRecDepth 100000 in
set_option maxHeartbeats 8000000 in
theorem nonceRuns_walk (a b : Int) (v : Value) (fs : List Nat) (w : World) (ha : (Lit.int .u32 a).wf = true) (hb : (Lit.int .u64 b).wf = true) (hv : Us w v fs) : Calls Try.prog 3 #[.int .u32 a, .int .u64 b, v] w fun e w' => e = .returned (.bool true) ∧ Below w.heap.size w w' := by
  obtain ⟨B, rfl, hB⟩ := wf_u32 ha
  obtain ⟨F, rfl, hF⟩ := wf_u64 hb
  obtain ⟨ao, cap, rfl⟩ := hv.len
  obtain ⟨n, hn⟩ : ∃ n, n = fs.length := ⟨_, rfl⟩
  rw [← hn] at hv ⊢
  have HN := Hid.mk' hn
  have HV := Hid.mk' hv
  have hl : n ≤ 140737488355328 := by have := hv.2.1; omega
  have HL := Hid.mk' hl
  have HS0 := Hid.mk' (sr_new w B F hB hF)
  have HF := Hid.mk' hF
  have n0 : (n : Int) ≤ 140737488355328 := by omega
  clear hn hv hl ha hb hB hF
  go_enter Try.func3, Try.ntmps3
  go_wp2_with fail
  refine Calls.mono HS0.out ?_
  rintro e w1 ⟨g, rfl, h1⟩
  have HH1 := Hid.mk' h1
  clear h1 HS0
  go_wp2
  go_loopw [8] (fun iv wr => ∃ i : Nat, i ≤ n ∧ i ≤ 500 ∧ iv = .int .i64 i ∧ Sr w wr g B (F + i)) (fun iv _ => n - (intOf iv).toNat)
  case atStart => exact ⟨0, Nat.zero_le _, Nat.zero_le _, rfl, HH1.out⟩
  case round =>
    obtain ⟨i, hi, hi5, rfl, hs⟩ := hrel
    have HS := Hid.mk' hs
    clear hs HH1
    have HEND : Hid (∀ w2, Sr w w2 g B (F + i) → Calls Try.prog 11 #[] w2 fun e w' => e = .returned (.bool true) ∧ Grow w w') := fun w2 h => (nnawake_any w2).mono fun _ _ k => ⟨k.1, h.grow.trans k.2⟩
    by_cases hlt : i < n
    · by_cases hl5 : i < 500
      · have t1 : (i : Int) < (n : Int) := by omega
        have t2 : (i : Int) < 500 := by omega
        have e64 : IntKind.u64.wrap (i : Int) = (i : Int) := by simp [IntKind.wrap, IntKind.bits, IntKind.signed]; omega
        have H3 := Hid.mk' (rleft_any wr F i HF.out (by omega))
        have H4 := Hid.mk' (nleft_any HS.out.src)
        obtain ⟨L, hL⟩ : ∃ L : Int, L = (lef (F + i) : Int) := ⟨_, rfl⟩
        have HLL := Hid.mk' hL
        rw [← hL] at H3 H4
        obtain ⟨gb, off, cap', hva, hcap, hgb, hcell⟩ := HV.out.at (by have := HN.out; omega)
        obtain ⟨rfl, -, rfl⟩ : ao = some ⟨gb, off, none⟩ ∧ n = fs.length ∧ cap = cap' := by simpa using hva
        obtain ⟨E, hE⟩ : ∃ E, E = fs.getD i 0 := ⟨_, rfl⟩
        have hec : w.cell? ⟨gb, off + i, none⟩ = some (.int .u32 (E : Int)) := by rw [hE]; exact hcell i (by have := HN.out; omega)
        have HEC : Hid (∀ w', Grow w w' → w'.cell? ⟨gb, off + i, none⟩ = some (.int .u32 (E : Int))) := fun w' k => grow_cell k hec
        have d1 := HEC.out _ HS.out.grow
        have H5 := Hid.mk' (sr_next HS.out E)
        have hnc : n ≤ cap := by have := HN.out; omega
        clear hL hva hcell hE hec hgb hcap
        go_wp2_with fail
        refine Calls.mono H3.out ?_
        rintro e w' ⟨rfl, rfl⟩
        go_wp2_with fail
        refine Calls.mono H4.out ?_
        rintro e w' ⟨rfl, rfl⟩
        clear H3 H4
        go_wp2_with fail
        refine Calls.mono H5.out ?_
        rintro e w3 ⟨rfl, h6, -⟩
        obtain ⟨X, hX⟩ : ∃ X, X = tldE E B (F + i) := ⟨_, rfl⟩
        rw [← hX]
        obtain ⟨w4, hs4, hb4, h7, -⟩ := sr_var h6 X
        have HS4 := Hid.mk' hs4
        have HB4 := Hid.mk' hb4
        have HH4 : Hid (Sr w w4 g B (F + (i + 1))) := h7
        have HX := Hid.mk' hX
        clear hs4 hb4 h6 h7 H5 hX
        by_cases hp : 18446744073709551616 ≤ F + i
        · have hx0 : X = ⟨0, 0, 0⟩ := by rw [HX.out]; unfold tldE; rw [if_neg (by omega)]
          have hl0 : L = 0 := by rw [HLL.out, lef_off hp]; rfl
          have hc0 : codE (F + i) = 13 := by unfold codE; rw [if_neg (by omega)]
          rw [hc0]
          subst hx0
          subst hl0
          clear hc0 hp HX HLL
          go_wp2_with (first
            | (refine wpList_runH rfl (exec_allocF rfl (zeroE _)) ?_)
            | (refine wpList_skipH rfl (exec_stF (v := evalE ⟨0, 0, 0⟩) rfl rfl rfl HS4.out) ?_)
            | (refine wpList_want_runN rfl (exec_ldE (cs := ⟨0, 0, 0⟩) HB4.out.cells0 rfl rfl) ?_)
            | (refine wpList_want_runN rfl (exec_neE (b := true) rfl rfl rfl gE (equalEn ⟨0, 0, 0⟩ _)) ?_)
            | fail)
          exact ⟨⟨i + 1, by omega, by omega, by go_num, HH4.out⟩, by simp [intOf]; omega⟩
        · have hx0 : X = ⟨E, B, F + i⟩ := by rw [HX.out]; unfold tldE; rw [if_pos (by omega)]
          have hl0 : (L == 0) = false := by
            have := HLL.out
            have := lef_on (p := F + i) (by omega)
            simp
            omega
          have hc0 : codE (F + i) = 0 := by unfold codE; rw [if_pos (by omega)]
          have ew : IntKind.u64.wrap ((F : Int) + (i : Int)) = (F : Int) + (i : Int) := by simp [IntKind.wrap, IntKind.bits, IntKind.signed]; omega
          have HEQ : Hid (∀ w, (Op.equalIn 10000 30 (evalE ⟨E, B, F + i⟩) (.agg #[.int .u32 (E : Int), .int .u32 (B : Int), .int .u64 ((F : Int) + (i : Int))])).run Try.prog w = .ok true w) := fun w => equalEn ⟨E, B, F + i⟩ w
          rw [hc0]
          subst hx0
          clear hc0 hp HX HLL
          go_upto_region 13 with (first
            | (refine wpList_runH rfl (exec_allocF rfl (zeroE _)) ?_)
            | (refine wpList_skipH rfl (exec_stF (v := evalE ⟨E, B, F + i⟩) rfl rfl rfl HS4.out) ?_)
            | fail)
          refine region_chain [] [0, 1, 2, 3, 4, 5, 6, 7, 8, 9, 10, 11, 12, 13, 14] (Grow w4) (Grow w4) (by kernel_rfl) (by kernel_rfl) (fun _ _ h k => h.trans k) (fun _ h => h) ((But.refl _ w4).drew) ?_
          intro ι hne Y hY
          have d2 : ∀ x, (Y x).cell? ⟨gb, off + i, none⟩ = some (.int .u32 (E : Int)) := fun x => HEC.out _ (HH4.out.grow.trans (hY x))
          iterate 3 (refine still_step rfl (fun K hK => ?_); go_simp; refine hK _ ?_; clear hK K)
          refine still_val rfl (evalE ⟨E, B, F + i⟩) rfl (fun q => exec_ldE (cs := ⟨E, B, F + i⟩) (HB4.out.but (hY q) (fun h => h)).cells0 rfl rfl) ?_
          intro K hK; go_simp; refine hK _ ?_; clear hK K
          iterate 9 (refine still_step rfl (fun K hK => ?_); go_simp; refine hK _ ?_; clear hK K)
          refine still_val rfl (.bool false) rfl (fun q => exec_neE (b := true) rfl rfl rfl gE (HEQ.out _)) ?_
          intro K hK; go_simp; refine hK _ ?_; clear hK K
          refine still_step rfl (fun K hK => ?_); go_simp; refine hK _ ?_; clear hK K
          refine still_nil ?_
          clear d2 hY hne Y ι
          intro w8 hw8
          have HH8 : Hid (Sr w w8 g B (F + (i + 1))) := HH4.out.then hw8
          clear hw8
          go_wp2
          exact ⟨⟨i + 1, by omega, by omega, by go_num, HH8.out⟩, by simp [intOf]; omega⟩
      · have t1 : (i : Int) < (n : Int) := by omega
        have t2 : ¬ (i : Int) < 500 := by omega
        have H6 := Hid.mk' (HEND.out wr HS.out)
        go_wp2_with fail
        refine Calls.mono H6.out ?_
        rintro e w9 ⟨rfl, k9⟩
        have HG9 := Hid.mk' k9
        clear k9
        go_wp2
        go_ret
        exact ⟨rfl, HG9.out.below (Nat.le_refl _) (fun _ _ h => h)⟩
    · have t1 : ¬ (i : Int) < (n : Int) := by omega
      have H6 := Hid.mk' (HEND.out wr HS.out)
      go_wp2_with fail
      refine Calls.mono H6.out ?_
      rintro e w9 ⟨rfl, k9⟩
      have HG9 := Hid.mk' k9
      clear k9
      go_wp2
      go_ret
      exact ⟨rfl, HG9.out.below (Nat.le_refl _) (fun _ _ h => h)⟩
set_option maxRecDepth 100000 in
theorem nonceRuns_lifted (os : Os) (started : os.Started) (H : Type) (enc : TypeId × Value → H) :
    ReturnsInHanded {} Try.checked os 3 .any (Rows.nonceRunsSpec.pre6 enc Try.prog Try.f3 Rows.nonceRunsRow.domain false) (Rows.nonceRunsSpec.post enc Try.prog Try.f3 false true false false) := by
  refine returnsInHanded_of_change_sized (C := Try.checked) (by kernel_rfl) started (by kernel_rfl) Try.func3
    (ChangeSpec.witness6 (enc := enc) (C := Try.checked) false ⟨#[], #[.int .u32 0, .int .u64 0, .slice none 0 0], []⟩ 8 (by kernel_rfl) (by kernel_rfl) (by kernel_rfl) (by kernel_rfl)) ?_
  intro W base args ds gs before hval0 hW hcnd hsz0 _
  have hsz : (DataW.weightsEach Try.prog (Try.f3.params.toList ++ Rows.nonceRunsSpec.plain.varTypes Try.prog) (ds ++ gs)).all (· ≤ reachBytes) = true := hsz0
  clear hsz0
  have hval : ∀ (j : Nat) t v, Try.f3.params[j]? = some t → args[j]? = some v → Value.okWide Try.prog W .any base t v := hval0
  have hW' := hW
  obtain ⟨p, q, hA0, hV, rfl, hfz, hnd⟩ := hW
  have hA : DataW.TrodAll enc Try.prog W 0 (fun _ => true) true Try.f3.params.toList args.toList ds p := hA0
  rw [Try.params3] at hA hval hsz
  obtain ⟨v0, vs0, d0, ds0, p0, q0, hargs, rfl, rfl, h0, r0⟩ := trodAll_cons hA
  obtain ⟨v1, vs1, d1, ds1, p1, q1, rfl, rfl, rfl, h1, r1⟩ := trodAll_cons r0
  obtain ⟨v2, vs2, d2, ds2, p2, q2, rfl, rfl, rfl, h2, r2⟩ := trodAll_cons r1
  obtain ⟨rfl, rfl, rfl⟩ := trodAll_nil r2
  obtain rfl : args = #[v0, v1, v2] := by cases args; simp_all
  obtain ⟨rfl, rfl⟩ := trodVars_none hV
  obtain ⟨a0, rfl, rfl, rfl, w0⟩ := open_int Try.underlying22 (hval 0 22 v0 rfl rfl) h0
  obtain ⟨a1, rfl, rfl, rfl, w1⟩ := open_int Try.underlying23 (hval 1 23 v1 rfl rfl) h1
  have lt2 : ∀ x ∈ p2, x.block < W.heap.size := by obtain ⟨m, hm⟩ := h2; exact DataW.trod_lt m _ _ _ hm
  obtain ⟨z2, w2⟩ := view_u32s Try.underlying24 Try.underlying22 (by kernel_rfl) (by kernel_rfl) (hval 2 24 v2 rfl rfl) h2 lt2 hsz (j := 2) rfl rfl
  clear hA0 hval0
  refine (nonceRuns_walk a0 a1 v2 z2 W w0 w1 w2).mono fun e W' ⟨he, bel⟩ => ?_
  subst he
  exact ⟨_, rfl, _, _, _, [], _, [], hW', trodAll_mk1 (shut_bool Try.underlying4 _), (trodAll_cons_mk (shut_int Try.underlying22 w0) (trodAll_cons_mk (shut_int Try.underlying23 w1) (trodAll_cons_mk (Below.trod (by kernel_rfl) (by kernel_rfl) (of_decide_eq_true (by kernel_rfl)) h2 bel lt2) trodAll_mk0))), rfl, bel.frame _, fun h => by cases h⟩

theorem nonceRuns_holds : Rows.NonceRunsSaid :=
  OpenClaim.holds_of_wide 3 Try.f3 rfl rfl rfl rfl rfl rfl rfl ⟨rfl, rfl, rfl, rfl, rfl⟩ rfl rfl rfl rfl rfl (by kernel_rfl) Try.func3 (by kernel_rfl)
    (of_decide_eq_true (by kernel_rfl)) (by unfold Func.isWrapper; first | (rw [if_pos (by decide +kernel)]; kernel_rfl) | (rw [if_neg (by decide +kernel)]; exact ⟨rfl, rfl⟩))
    (fun os started H enc _ => nonceRuns_lifted os started H enc)
#print axioms nonceRuns_holds
end Go.Proofs.Ytlfppgdaoijklaa
