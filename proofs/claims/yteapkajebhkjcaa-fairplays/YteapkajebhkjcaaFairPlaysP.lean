/- Whatever weights tasks have, whoever wakes and sleeps, each call is answered as the document says, and each pass is its, to the last bit: for any number and any acts. No condition. -/
import Derived.Test.YteapkajebhkjcaaFaPlay
import Derived.ProofKit
import Derived.OpenShut
import Derived.ChangeOld
import Derived.Below
namespace Go.Proofs.Yteapkajebhkjcaa
open Go.ChangeShapes Go.WideShapes Go.ChangeAt Go.RowKit

set_option maxRecDepth 100000 in
set_option maxHeartbeats 4000000 in
theorem fairPlays_walk (x : Int) (v1 : Value) (l : Nat) (A : Nat → FA) (w : World) (_ : (Lit.int .i64 x).wf = true) (hv : FActs w v1 l A) : Calls Try.prog 3 #[.int .i64 x, v1] w fun e w' => e = .returned (.bool true) ∧ Below w.heap.size w w' := by
  obtain ⟨ao, cap1, rfl⟩ := hv.len
  have HV := Hid.mk' hv
  have hl : (l : Int) ≤ 140737488351232 := by have := hv.1; omega
  clear hv
  by_cases hx : 1 ≤ x ∧ x ≤ 8
  · obtain ⟨n, rfl⟩ : ∃ n : Nat, x = (n : Int) := ⟨x.toNat, by omega⟩
    have h1 : 1 ≤ n := by omega
    have h8 : n ≤ 8 := by omega
    have HN := Hid.mk' (fl_new w n h1 h8)
    have hni : (n : Int) ≤ 8 := by omega
    have H1 := Hid.mk' h1
    have H8 := Hid.mk' h8
    clear hx h1 h8
    go_enter Try.func3, Try.ntmps3
    go_wp2_with fail
    refine Calls.mono HN.out ?_
    rintro e w1 ⟨g, gt, rfl, h1⟩
    have HRN := Hid.mk' (rnew_any w1 n H1.out H8.out)
    have HF1 := Hid.mk' h1
    clear h1 HN
    go_wp2_with fail
    refine Calls.mono HRN.out ?_
    intro e w2 h2
    obtain ⟨gx, gy, cap, rfl, h3⟩ := fx_new HF1.out h2
    have H3 := Hid.mk' h3
    clear h2 h3 HF1 HRN
    go_wp2
    go_loopw [8] (fun iv wr => ∃ i : Nat, i ≤ l ∧ i ≤ 300 ∧ iv = .int .i64 i ∧ ∃ T : List Sh, T.length = n ∧ Fx w wr g gt gx gy cap T) (fun iv _ => l - (intOf iv).toNat)
    case atStart => exact ⟨0, Nat.zero_le _, by decide, rfl, _, fresh_len n, H3.out⟩
    case round =>
      clear H3
      obtain ⟨i, hil, hi3, rfl, T, hT, hF⟩ := hrel
      by_cases hlt : i < l ∧ i < 300
      · have hlti : (i : Int) < (l : Int) := by omega
        have hlt2 : (i : Int) < 300 := by omega
        obtain ⟨b, off, cap', e1, hbl, hA⟩ := HV.out.at hlt.1
        simp only [Value.slice.injEq] at e1
        obtain ⟨rfl, -, rfl⟩ := e1
        obtain ⟨hok, hcell⟩ := hA i hlt.1
        have HCW : Hid (∀ c u, (fac (A i))[c]? = some u → wr.cell? ((⟨b, off + i * 3, none⟩ : Addr).add c) = some u) := fun c u hc => by
          rw [addr_add]; exact grow_cell hF.fl.grow (hcell c u hc)
        have HDO := Hid.mk' (do_any hF hok)
        have HLT := Hid.mk' hlt
        have HT2 : Hid ((dact T (A i)).length = n) := Hid.mk' (by rw [dact_len]; exact hT)
        clear hF hT hA hok hcell hbl hlt hil hi3
        generalize dact T (A i) = T2 at *
        generalize A i = ai at *
        obtain ⟨kd, tk, y⟩ := ai
        go_wp2_with (first
          | (refine wpList_load_cells rfl _ _ rfl ⟨b, off + i * 3, none⟩ rfl (fac ⟨kd, tk, y⟩) _ HCW.out Try.underlying33 rfl iFa ?_)
          | fail)
        refine Calls.mono HDO.out ?_
        rintro e w3 ⟨rfl, h3⟩
        have H3 := Hid.mk' h3
        have HAW := Hid.mk' (awake_list h3.fl.fr)
        clear h3 HDO HCW
        go_wp2_with fail
        refine Calls.mono HAW.out ?_
        rintro e w4 ⟨v4, rfl, r4, -, g4⟩
        have H4 := Hid.mk' (H3.out.then g4)
        have HN4 := Hid.mk' (row_nums r4 H3.out.fl.fr.ok)
        have HRW := Hid.mk' (rawake_list H4.out.rr)
        clear r4 g4 HAW H3
        go_wp2_with fail
        refine Calls.mono HRW.out ?_
        rintro e w5 ⟨v5, rfl, r5, -, g5⟩
        have H5 := Hid.mk' (H4.out.then g5)
        have hsm := sameints_any (HN4.out.grow g5) (row_nums r5 H4.out.fl.fr.ok)
        rw [decide_eq_true rfl] at hsm
        have HSM := Hid.mk' hsm
        clear r5 g5 HRW H4 HN4 hsm
        go_wp2_with fail
        refine Calls.mono HSM.out ?_
        rintro e w6 ⟨rfl, g6⟩
        have H6 := Hid.mk' (H5.out.then g6)
        clear g6 H5 HSM
        go_wp2
        go_loopw [9] (fun kv wx => ∃ K : Int, -1 ≤ K ∧ K ≤ (n : Int) + 1 ∧ kv = .int .i64 K ∧ wx = w6) (fun kv _ => ((n : Int) + 1 - intOf kv).toNat)
        case atStart => exact ⟨-1, by decide, by omega, rfl, rfl⟩
        case round =>
          obtain ⟨K, hK1, hK2, rfl, hwx⟩ := hrel
          have h2 := hwx.symm
          subst h2
          clear hwx
          by_cases hKn : K ≤ (n : Int)
          · have HPA := Hid.mk' (pass_any (i := K) H6.out.fl.fr)
            obtain ⟨p, hp⟩ : ∃ p, p = pas T2 K := ⟨_, rfl⟩
            rw [← hp] at HPA
            have hpl : p ≤ 9218868437227405312 := by
              rw [hp]
              unfold pas
              split
              · exact H6.out.fl.fr.ok.pat _
              · exact Nat.zero_le _
            have hsa := fsame_any p p w6 (by omega) (by omega)
            rw [sa_refl] at hsa
            have HSA := Hid.mk' hsa
            have HK1 := Hid.mk' hK1
            by_cases hin : 0 ≤ K ∧ K < (n : Int)
            · obtain ⟨k, rfl⟩ : ∃ k : Nat, K = (k : Int) := ⟨K.toNat, by omega⟩
              obtain ⟨t, ht⟩ : ∃ t, T2[k]? = some t := ⟨_, List.getElem?_eq_getElem (by have := HT2.out; omega)⟩
              have c0 : w6.cell? ⟨gx, 0, none⟩ = some (.slice (some ⟨gy, 0, none⟩) n cap) := by
                have := H6.out.rr.row.cell 0
                rw [HT2.out] at this
                exact this
              have d2 : w6.cell? ⟨gy, k * 3 + 2, none⟩ = some (.float .f64 p) := by
                rw [hp, pas_at ht]
                exact H6.out.rr.cell ht rfl
              have hk0 : (0 : Int) ≤ (k : Int) := by omega
              have hkn : (k : Int) < (n : Int) := hin.2
              clear hp hsa ht hin hK1 hK2
              go_wp2_with fail
              refine Calls.mono HPA.out ?_
              rintro e w' ⟨rfl, hw⟩
              have h2 := hw.symm
              subst h2
              clear hw
              go_wp2_with fail
              refine Calls.mono HSA.out ?_
              rintro e w' ⟨rfl, hw⟩
              have h2 := hw.symm
              subst h2
              clear hw
              go_wp2
              exact ⟨⟨(k : Int) + 1, by omega, by omega, by go_num, trivial⟩, by simp only [intOf]; omega⟩
            · have hp0 : p = 0 := by
                rw [hp]
                unfold pas inR
                rw [HT2.out, decide_eq_false hin]
                rfl
              subst hp0
              have hcase : ¬ 0 ≤ K ∨ (0 ≤ K ∧ ¬ K < (n : Int)) := by omega
              clear hp hsa hin
              rcases hcase with hc | ⟨hc1, hc⟩
              all_goals
                go_wp2_with fail
                refine Calls.mono HPA.out ?_
                rintro e w' ⟨rfl, hw⟩
                have h2 := hw.symm
                subst h2
                clear hw
                go_wp2_with fail
                refine Calls.mono HSA.out ?_
                rintro e w' ⟨rfl, hw⟩
                have h2 := hw.symm
                subst h2
                clear hw
                go_wp2
                exact ⟨⟨K + 1, by have := HK1.out; omega, by omega, by go_num, trivial⟩, by simp only [intOf]; omega⟩
          · go_wp2
            exact ⟨⟨i + 1, by have := HLT.out; omega, by have := HLT.out; omega, by go_num, T2, HT2.out, H6.out⟩, by simp [intOf]; have := HLT.out; omega⟩
      · have HAW := Hid.mk' (awake_any wr)
        have HG := Hid.mk' hF.fl.grow
        clear hF hT
        rcases (by omega : ¬ (i : Int) < (l : Int) ∨ ((i : Int) < (l : Int) ∧ ¬ (i : Int) < 300)) with h1 | ⟨h1, h2⟩
        all_goals
          clear hlt
          go_wp2_with fail
          refine Calls.mono HAW.out ?_
          rintro e w7 ⟨rfl, h7⟩
          go_wp2
          go_ret
          exact ⟨rfl, (HG.out.trans h7).below (Nat.le_refl _) (fun _ _ h => h)⟩
  · have HN := Hid.mk' (new_not w x (by omega))
    have HR := Hid.mk' (rnew_not w x (by omega))
    have HAW := Hid.mk' (awake_any w)
    clear hx
    go_enter Try.func3, Try.ntmps3
    go_wp2_with fail
    refine Calls.mono HN.out ?_
    rintro e w' ⟨rfl, rfl⟩
    go_wp2_with fail
    refine Calls.mono HR.out ?_
    rintro e w' ⟨rfl, rfl⟩
    go_wp2_with fail
    refine Calls.mono HAW.out ?_
    rintro e w7 ⟨rfl, h7⟩
    go_wp2
    go_ret
    exact ⟨rfl, h7.below (Nat.le_refl _) (fun _ _ h => h)⟩
set_option maxRecDepth 100000 in
theorem fairPlays_lifted (os : Os) (started : os.Started) (H : Type) (enc : TypeId × Value → H) :
    ReturnsInHanded {} Try.checked os 3 .any (Rows.fairPlaysSpec.pre6 enc Try.prog Try.f3 Rows.fairPlaysRow.domain false) (Rows.fairPlaysSpec.post enc Try.prog Try.f3 false true false false) := by
  refine returnsInHanded_of_change_sized (C := Try.checked) (by kernel_rfl) started (by kernel_rfl) Try.func3
    (ChangeSpec.witness6 (enc := enc) (C := Try.checked) false ⟨#[], #[.int .i64 0, .slice none 0 0], []⟩ 8 (by kernel_rfl) (by kernel_rfl) (by kernel_rfl) (by kernel_rfl)) ?_
  intro W base args ds gs before hval0 hW hcnd hsz0 _
  have hsz : (DataW.weightsEach Try.prog (Try.f3.params.toList ++ Rows.fairPlaysSpec.plain.varTypes Try.prog) (ds ++ gs)).all (· ≤ reachBytes) = true := hsz0
  clear hsz0
  have hval : ∀ (j : Nat) t v, Try.f3.params[j]? = some t → args[j]? = some v → Value.okWide Try.prog W .any base t v := hval0
  have hW' := hW
  obtain ⟨p, q, hA0, hV, rfl, hfz, hnd⟩ := hW
  have hA : DataW.TrodAll enc Try.prog W 0 (fun _ => true) true Try.f3.params.toList args.toList ds p := hA0
  rw [Try.params3] at hA hval hsz
  obtain ⟨v0, vs0, d0, ds0, p0, q0, hargs, rfl, rfl, h0, r0⟩ := trodAll_cons hA
  obtain ⟨v1, vs1, d1, ds1, p1, q1, rfl, rfl, rfl, h1, r1⟩ := trodAll_cons r0
  obtain ⟨rfl, rfl, rfl⟩ := trodAll_nil r1
  obtain rfl : args = #[v0, v1] := by cases args; simp_all
  obtain ⟨rfl, rfl⟩ := trodVars_none hV
  obtain ⟨a0, rfl, rfl, rfl, w0⟩ := open_int Try.underlying3 (hval 0 3 v0 rfl rfl) h0
  have lt1 : ∀ x ∈ p1, x.block < W.heap.size := by obtain ⟨m, hm⟩ := h1; exact DataW.trod_lt m _ _ _ hm
  obtain ⟨n1, z1, w1⟩ := view_racts15 (hval 1 22 v1 rfl rfl) h1 lt1 hsz (j := 1) rfl rfl
  clear hA0 hval0
  refine (fairPlays_walk a0 v1 n1 z1 W w0 w1).mono fun e W' ⟨he, bel⟩ => ?_
  subst he
  exact ⟨_, rfl, _, _, _, [], _, [], hW', trodAll_mk1 (shut_bool Try.underlying4 _), (trodAll_cons_mk (shut_int Try.underlying3 w0) (trodAll_cons_mk (Below.trod (by kernel_rfl) (by kernel_rfl) (of_decide_eq_true (by kernel_rfl)) h1 bel lt1) trodAll_mk0)), rfl, bel.frame _, fun h => by cases h⟩

theorem fairPlays_holds : Rows.FairPlaysSaid :=
  OpenClaim.holds_of_wide 3 Try.f3 rfl rfl rfl rfl rfl rfl rfl ⟨rfl, rfl, rfl, rfl, rfl⟩ rfl rfl rfl rfl rfl (by kernel_rfl) Try.func3 (by kernel_rfl)
    (of_decide_eq_true (by kernel_rfl)) (by unfold Func.isWrapper; first | (rw [if_pos (by decide +kernel)]; kernel_rfl) | (rw [if_neg (by decide +kernel)]; exact ⟨rfl, rfl⟩))
    (fun os started H enc _ => fairPlays_lifted os started H enc)
#print axioms fairPlays_holds
end Go.Proofs.Yteapkajebhkjcaa
