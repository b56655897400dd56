/- Tasks of one weight take turns, round and round, from the least on: for any number of tasks, any weight, any byte. No condition. -/
import Derived.Test.YteapkajebhkjcaaFaRound
import Derived.Test.YteapkajebhkjcaaPickAny
import Derived.ProofKit
import Derived.OpenShut
import Derived.ChangeOld
import Derived.Below
namespace Go.Proofs.Yteapkajebhkjcaa
open Go.ChangeShapes Go.WideShapes Go.ChangeAt Go.RowKit

theorem wf_u8 {z : Int} (h : (Lit.int .u8 z).wf = true) : 0 ≤ z ∧ z ≤ 255 := by
  have h1 : IntKind.u8.min ≤ z ∧ z ≤ IntKind.u8.max := by simpa [Lit.wf, go_sem] using h
  have e1 : IntKind.u8.min = 0 := rfl
  have e2 : IntKind.u8.max = 255 := rfl
  omega
set_option maxRecDepth 100000 in
set_option maxHeartbeats 2000000 in
theorem fairRound_walk (x : Int) (y : Nat) (rs : Int) (w : World) (_ : (Lit.int .i64 x).wf = true) (hy0 : (Lit.float .f64 y).wf = true) (hr0 : (Lit.int .u8 rs).wf = true) : Calls Try.prog 5 #[.int .i64 x, .float .f64 y, .int .u8 rs] w fun e w' => e = .returned (.bool true) ∧ Below w.heap.size w w' := by
  have hy := wf64 hy0
  have hr := wf_u8 hr0
  have HP := Hid.mk' (pick_any x 8 w (by decide) (by decide))
  obtain ⟨m, hm⟩ : ∃ m : Nat, x % 8 = (m : Int) := ⟨(x % 8).toNat, by have := Int.emod_nonneg x (b := 8) (by decide); omega⟩
  rw [hm] at HP
  obtain ⟨n, hn⟩ : ∃ n : Nat, (n : Int) = 1 + (m : Int) := ⟨m + 1, by omega⟩
  have hmn : 1 + (m : Int) = (n : Int) := hn.symm
  have hn1 : 1 ≤ n := by omega
  have hn8 : n ≤ 8 := by omega
  have HN1 := Hid.mk' hn1
  have HN8 := Hid.mk' hn8
  have HN := Hid.mk' (fl_new w n hn1 hn8)
  have hni : (n : Int) ≤ 8 := by omega
  have hni1 : (1 : Int) ≤ (n : Int) := by omega
  have hmi : (m : Int) ≤ 7 := by omega
  obtain ⟨W, hW⟩ : ∃ W, W = rw' y := ⟨_, rfl⟩
  have hwo := rw_ok hy
  rw [← hW] at hwo
  have HW := Hid.mk' hW
  have HWO := Hid.mk' hwo
  have HY := Hid.mk' hy
  have hwr : IntKind.i64.wrap rs = rs := wrapI (by omega) (by omega)
  obtain ⟨R, hR⟩ : ∃ R : Nat, rs = (R : Int) := ⟨rs.toNat, by omega⟩
  subst hR
  have HR : Hid (R ≤ 255) := Hid.mk' (by omega)
  have hRi : (R : Int) ≤ 255 := by omega
  clear hy0 hr0 hy hr hn hn1 hn8 hW hwo hm
  go_enter Try.func5, Try.ntmps5
  go_wp2_with fail
  refine Calls.mono HP.out ?_
  rintro e w' ⟨rfl, hw⟩
  have h2 := hw.symm
  subst h2
  clear hw HP
  go_wp2_with fail
  refine Calls.mono HN.out ?_
  rintro e w1 ⟨g, gt, rfl, h1⟩
  rw [← stI_zero (W := W)] at h1
  have H1 := Hid.mk' h1
  clear h1 HN
  go_wp2
  clear hmn
  go_loopw [9] (fun iv wr => ∃ i : Nat, i ≤ n ∧ iv = .int .i64 i ∧ Fl w wr g gt (stI n W i)) (fun iv _ => n - (intOf iv).toNat)
  case atStart => exact ⟨0, Nat.zero_le _, rfl, H1.out⟩
  case round =>
    clear H1
    obtain ⟨i, hin, rfl, hL⟩ := hrel
    by_cases hlt : (i : Int) < (n : Int)
    · obtain ⟨s1, s2, s3⟩ := stI_step (n := n) (W := W) (i := i) (x := y) (by omega) HN8.out HW.out.symm HWO.out.1 HWO.out.2
      have h1 := fl_weight (i := (i : Int)) (x := y) hL HY.out
      rw [s1] at h1
      have H1 := Hid.mk' h1
      have S2 := Hid.mk' s2
      have S3 := Hid.mk' s3
      clear h1 hL hin s1 s2 s3
      go_wp2_with fail
      refine Calls.mono H1.out ?_
      rintro e w2 ⟨rfl, h2, -⟩
      have h3 := fl_wake (i := (i : Int)) h2
      rw [S2.out, S3.out] at h3
      have H3 := Hid.mk' h3
      clear h2 h3 H1
      go_wp2_with fail
      refine Calls.mono H3.out ?_
      rintro e w3 ⟨rfl, h4, -⟩
      have H4 := Hid.mk' h4
      clear h4 H3
      go_wp2
      exact ⟨⟨i + 1, by omega, by go_num, H4.out⟩, by simp [intOf]; omega⟩
    · have hie : i = n := by omega
      subst hie
      rw [stI_all] at hL
      have HL := Hid.mk' hL
      clear hL hin
      go_wp2
      go_loopw [10] (fun tv wr => ∃ t : Nat, t ≤ R ∧ tv = .int .i64 t ∧ ∃ q r, t = q * i + r ∧ r < i ∧ Fl w wr g gt (stR i W q r)) (fun tv _ => R - (intOf tv).toNat)
      case atStart => exact ⟨0, Nat.zero_le _, rfl, 0, 0, by simp, by have := HN1.out; omega, HL.out⟩
      case round =>
        clear HL
        obtain ⟨t, htR, rfl, q, r, hqr, hri, hL⟩ := hrel
        by_cases hlt2 : (t : Int) < (R : Int)
        · have hq256 : q < 256 := by
            have h1 : q ≤ q * i := Nat.le_mul_of_pos_right _ HN1.out
            have := HR.out
            omega
          have h1 := fl_next hL
          rw [stR_nx HWO.out.1 HWO.out.2 hri hq256, stR_next HWO.out.1 HWO.out.2 hri hq256, stR_aw, show (List.range i).isEmpty = false from by cases i with | zero => omega | succ n => rw [List.range_succ_eq_map]; rfl] at h1
          have H1 := Hid.mk' h1
          have hmod : Int.tmod (t : Int) (i : Int) = (r : Int) := by
            rw [Int.tmod_eq_emod_of_nonneg (by omega), hqr]
            push_cast
            rw [Int.add_comm, Int.add_mul_emod_self_right]
            exact Int.emod_eq_of_lt (by omega) (by omega)
          have hmod2 : (t : Int) % (i : Int) = (r : Int) := by rw [← hmod, Int.tmod_eq_emod_of_nonneg (by omega)]
          have hz : ((i : Int) == 0) = false := by rw [beq_eq_false_iff_ne]; omega
          have hrr : ((r : Int) != (r : Int)) = false := by simp
          have htb : (t : Int) ≤ 255 := by omega
          have HQR := Hid.mk' hqr
          have HRI := Hid.mk' hri
          clear h1 hL htR hqr hri hq256
          go_wp2_with fail
          refine Calls.mono H1.out ?_
          rintro e w2 ⟨rfl, h2, -⟩
          have H2 := Hid.mk' h2
          clear h2 H1
          go_wp2
          refine ⟨⟨t + 1, by omega, by go_num, ?_⟩, by simp [intOf]; omega⟩
          by_cases hw : r + 1 < i
          · exact ⟨q, r + 1, by have := HQR.out; omega, hw, H2.out⟩
          · have e : r + 1 = i := by have := HRI.out; omega
            have h5 := H2.out
            rw [e, stR_wrap] at h5
            exact ⟨q + 1, 0, by have := HQR.out; rw [Nat.succ_mul]; omega, by omega, h5⟩
        · have HAW := Hid.mk' (awake_any wr)
          have HG := Hid.mk' hL.grow
          clear hL hqr hri htR
          go_wp2_with fail
          refine Calls.mono HAW.out ?_
          rintro e w7 ⟨rfl, h7⟩
          go_wp2
          go_ret
          exact ⟨rfl, (HG.out.trans h7).below (Nat.le_refl _) (fun _ _ h => h)⟩
set_option maxRecDepth 100000 in
theorem fairRound_lifted (os : Os) (started : os.Started) (H : Type) (enc : TypeId × Value → H) :
    ReturnsInHanded {} Try.checked os 5 .any (Rows.fairRoundSpec.pre6 enc Try.prog Try.f5 Rows.fairRoundRow.domain false) (Rows.fairRoundSpec.post enc Try.prog Try.f5 false true false false) := by
  refine returnsInHanded_of_change (C := Try.checked) (by kernel_rfl) started (by kernel_rfl) Try.func5
    (ChangeSpec.witness6 (enc := enc) (C := Try.checked) false ⟨#[], #[.int .i64 0, .float .f64 0, .int .u8 0], []⟩ 8 (by kernel_rfl) (by kernel_rfl) (by kernel_rfl) (by kernel_rfl)) ?_
  intro W base args ds gs before hval0 hW hcnd _
  have hval : ∀ (j : Nat) t v, Try.f5.params[j]? = some t → args[j]? = some v → Value.okWide Try.prog W .any base t v := hval0
  have hW' := hW
  obtain ⟨p, q, hA0, hV, rfl, hfz, hnd⟩ := hW
  have hA : DataW.TrodAll enc Try.prog W 0 (fun _ => true) true Try.f5.params.toList args.toList ds p := hA0
  rw [Try.params5] at hA hval
  obtain ⟨v0, vs0, d0, ds0, p0, q0, hargs, rfl, rfl, h0, r0⟩ := trodAll_cons hA
  obtain ⟨v1, vs1, d1, ds1, p1, q1, rfl, rfl, rfl, h1, r1⟩ := trodAll_cons r0
  obtain ⟨v2, vs2, d2, ds2, p2, q2, rfl, rfl, rfl, h2, r2⟩ := trodAll_cons r1
  obtain ⟨rfl, rfl, rfl⟩ := trodAll_nil r2
  obtain rfl : args = #[v0, v1, v2] := by cases args; simp_all
  obtain ⟨rfl, rfl⟩ := trodVars_none hV
  obtain ⟨a0, rfl, rfl, rfl, w0⟩ := open_int Try.underlying3 (hval 0 3 v0 rfl rfl) h0
  obtain ⟨a1, rfl, rfl, rfl, w1⟩ := open_float Try.underlying31 (hval 1 31 v1 rfl rfl) h1
  obtain ⟨a2, rfl, rfl, rfl, w2⟩ := open_int Try.underlying5 (hval 2 5 v2 rfl rfl) h2
  clear hA0 hval0
  refine (fairRound_walk a0 a1 a2 W w0 w1 w2).mono fun e W' ⟨he, bel⟩ => ?_
  subst he
  exact ⟨_, rfl, _, _, _, [], _, [], hW', trodAll_mk1 (shut_bool Try.underlying4 _), (trodAll_cons_mk (shut_int Try.underlying3 w0) (trodAll_cons_mk (shut_float Try.underlying31 w1) (trodAll_cons_mk (shut_int Try.underlying5 w2) trodAll_mk0))), rfl, bel.frame _, fun h => by cases h⟩

theorem fairRound_holds : Rows.FairRoundSaid :=
  OpenClaim.holds_of_wide 5 Try.f5 rfl rfl rfl rfl rfl rfl rfl ⟨rfl, rfl, rfl, rfl, rfl⟩ rfl rfl rfl rfl rfl (by kernel_rfl) Try.func5 (by kernel_rfl)
    (of_decide_eq_true (by kernel_rfl)) (by unfold Func.isWrapper; first | (rw [if_pos (by decide +kernel)]; kernel_rfl) | (rw [if_neg (by decide +kernel)]; exact ⟨rfl, rfl⟩))
    (fun os started H enc _ => fairRound_lifted os started H enc)
#print axioms fairRound_holds
end Go.Proofs.Yteapkajebhkjcaa
