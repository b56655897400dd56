/- NonceEnds: a source whose first number is so many from the greatest one tells just as many and one, and then none, however often it is asked. For every input. -/
import Derived.Test.YtlfppgdaoijklaaNnLaw
namespace Go.Proofs.Ytlfppgdaoijklaa
open Go.ChangeShapes Go.WideShapes Go.ChangeAt Go.RowKit Go.Deep

theorem wf_u8n {b : Int} (h : (Lit.int .u8 b).wf = true) : ∃ n : Nat, b = (n : Int) ∧ n < 256 := by
  have h8 : IntKind.u8.min ≤ b ∧ b ≤ IntKind.u8.max := by simpa [Lit.wf, go_sem] using h
  have e1 : IntKind.u8.min = 0 := rfl
  have e2 : IntKind.u8.max = 255 := rfl
  exact ⟨b.toNat, by omega, by omega⟩
set_option maxRecDepth 100000 in
set_option maxHeartbeats 4000000 in
theorem nonceEnds_walk (a b c : Int) (w : World) (ha : (Lit.int .u32 a).wf = true) (hb : (Lit.int .u8 b).wf = true) (hc : (Lit.int .u8 c).wf = true) : Calls Try.prog 5 #[.int .u32 a, .int .u8 b, .int .u8 c] w fun e w' => e = .returned (.bool true) ∧ Below w.heap.size w w' := by
  obtain ⟨B, rfl, hB⟩ := wf_u32 ha
  obtain ⟨m, rfl, hm⟩ := wf_u8n hb
  obtain ⟨n, rfl, hn⟩ := wf_u8n hc
  obtain ⟨p, hp⟩ : ∃ p : Nat, p = 18446744073709551615 - m := ⟨_, rfl⟩
  have H1 := sr_new w B p hB (by omega)
  rw [show (p : Int) = 18446744073709551615 - (m : Int) by omega] at H1
  have HN := Hid.mk' H1
  have HP := Hid.mk' hp
  have b1 : (m : Int) < 256 := by omega
  have b2 : (n : Int) < 256 := by omega
  have HM := Hid.mk' hm
  have HNN := Hid.mk' hn
  clear H1 ha hb hc hp hB hm hn
  go_enter Try.func5, Try.ntmps5
  go_wp2_with fail
  refine Calls.mono HN.out ?_
  rintro e w1 ⟨g, rfl, h1⟩
  have HH1 := Hid.mk' h1
  clear h1 HN
  go_wp2
  go_loopw [8] (fun iv wr => ∃ i : Nat, i ≤ m + 1 ∧ iv = .int .i64 i ∧ Sr w wr g B (p + i)) (fun iv _ => m + 1 - (intOf iv).toNat)
  case atStart => exact ⟨0, Nat.zero_le _, rfl, HH1.out⟩
  case round =>
    obtain ⟨i, hi, rfl, hs⟩ := hrel
    have HS := Hid.mk' hs
    clear hs HH1
    by_cases hlt : i ≤ m
    · have t1 : (i : Int) ≤ (m : Int) := by omega
      have h3 := sr_next HS.out 1
      rw [show codE (p + i) = 0 by unfold codE; rw [if_pos (by have := HP.out; have := HM.out; omega)]] at h3
      have H3 := Hid.mk' h3
      generalize tldE 1 B (p + i) = X at *
      clear h3
      go_wp2_with fail
      refine Calls.mono H3.out ?_
      rintro e w3 ⟨rfl, h4, -⟩
      obtain ⟨w4, hs4, -, h4, -⟩ := sr_var h4 X
      have HS4 := Hid.mk' hs4
      have HH4 : Hid (Sr w w4 g B (p + (i + 1))) := h4
      clear hs4 h4 H3
      go_wp2_with (first
        | (refine wpList_runH rfl (exec_allocF rfl (zeroE _)) ?_)
        | (refine wpList_skipH rfl (exec_stF (v := evalE X) rfl rfl rfl HS4.out) ?_)
        | fail)
      exact ⟨⟨i + 1, by omega, by go_num, HH4.out⟩, by simp [intOf]; omega⟩
    · have t1 : ¬ (i : Int) ≤ (m : Int) := by omega
      have him : i = m + 1 := by omega
      have HH2 : Hid (Sr w wr g B 18446744073709551616) := by
        have := HS.out
        rw [show p + i = 18446744073709551616 by have := HP.out; have := HM.out; omega] at this
        exact this
      clear him hi hlt HS
      go_wp2
      go_loopw [11] (fun iv wq => ∃ k : Nat, k ≤ n + 1 ∧ iv = .int .i64 k ∧ Sr w wq g B (18446744073709551616 + k)) (fun iv _ => n + 1 - (intOf iv).toNat)
      case atStart => exact ⟨0, Nat.zero_le _, rfl, HH2.out⟩
      case round =>
        obtain ⟨k, hk, rfl, hs⟩ := hrel
        have HS := Hid.mk' hs
        clear hs HH2
        by_cases hlt : k ≤ n
        · have t2 : (k : Int) ≤ (n : Int) := by omega
          have e32 : IntKind.u32.wrap (k : Int) = (k : Int) := by simp [IntKind.wrap, IntKind.bits, IntKind.signed]; omega
          have h3 := sr_next HS.out k
          rw [show codE (18446744073709551616 + k) = 13 by unfold codE; rw [if_neg (by omega)], show tldE k B (18446744073709551616 + k) = ⟨0, 0, 0⟩ by unfold tldE; rw [if_neg (by omega)]] at h3
          have H3 := Hid.mk' h3
          clear h3
          go_wp2_with fail
          refine Calls.mono H3.out ?_
          rintro e w3 ⟨rfl, h4, -⟩
          obtain ⟨w4, hs4, hb4, h4, -⟩ := sr_var h4 ⟨0, 0, 0⟩
          have HS4 := Hid.mk' hs4
          have HB4 := Hid.mk' hb4
          have HH4 : Hid (Sr w w4 g B (18446744073709551616 + (k + 1))) := h4
          have h5 := nleft_any h4.src
          rw [show lef (18446744073709551616 + k + 1) = 0 by unfold lef; rw [if_neg (by omega)]; omega] at h5
          have H5 := Hid.mk' h5
          clear hs4 h4 H3 hb4 h5
          go_wp2_with (first
            | (refine wpList_runH rfl (exec_allocF rfl (zeroE _)) ?_)
            | (refine wpList_skipH rfl (exec_stF (v := evalE ⟨0, 0, 0⟩) rfl rfl rfl HS4.out) ?_)
            | (refine wpList_want_runN rfl (exec_ldE (cs := ⟨0, 0, 0⟩) HB4.out.cells0 rfl rfl) ?_)
            | (refine wpList_want_runN rfl (exec_neE (b := true) rfl rfl rfl gE (equalEn ⟨0, 0, 0⟩ _)) ?_)
            | fail)
          refine Calls.mono H5.out ?_
          rintro e w' ⟨rfl, rfl⟩
          go_wp2
          exact ⟨⟨k + 1, by omega, by go_num, HH4.out⟩, by simp [intOf]; omega⟩
        · have t2 : ¬ (k : Int) ≤ (n : Int) := by omega
          have H6 := Hid.mk' (nnawake_any wr)
          have HG := Hid.mk' HS.out.grow
          go_wp2_with fail
          refine Calls.mono H6.out ?_
          rintro e w9 ⟨rfl, k9⟩
          have HG9 := Hid.mk' (HG.out.trans k9)
          clear k9
          go_wp2
          go_ret
          exact ⟨rfl, HG9.out.below (Nat.le_refl _) (fun _ _ h => h)⟩
set_option maxRecDepth 100000 in
theorem nonceEnds_lifted (os : Os) (started : os.Started) (H : Type) (enc : TypeId × Value → H) :
    ReturnsInHanded {} Try.checked os 5 .any (Rows.nonceEndsSpec.pre6 enc Try.prog Try.f5 Rows.nonceEndsRow.domain false) (Rows.nonceEndsSpec.post enc Try.prog Try.f5 false true false false) := by
  refine returnsInHanded_of_change (C := Try.checked) (by kernel_rfl) started (by kernel_rfl) Try.func5
    (ChangeSpec.witness6 (enc := enc) (C := Try.checked) false ⟨#[], #[.int .u32 0, .int .u8 0, .int .u8 0], []⟩ 8 (by kernel_rfl) (by kernel_rfl) (by kernel_rfl) (by kernel_rfl)) ?_
  intro W base args ds gs before hval0 hW hcnd _
  have hval : ∀ (j : Nat) t v, Try.f5.params[j]? = some t → args[j]? = some v → Value.okWide Try.prog W .any base t v := hval0
  have hW' := hW
  obtain ⟨p, q, hA0, hV, rfl, hfz, hnd⟩ := hW
  have hA : DataW.TrodAll enc Try.prog W 0 (fun _ => true) true Try.f5.params.toList args.toList ds p := hA0
  rw [Try.params5] at hA hval
  obtain ⟨v0, vs0, d0, ds0, p0, q0, hargs, rfl, rfl, h0, r0⟩ := trodAll_cons hA
  obtain ⟨v1, vs1, d1, ds1, p1, q1, rfl, rfl, rfl, h1, r1⟩ := trodAll_cons r0
  obtain ⟨v2, vs2, d2, ds2, p2, q2, rfl, rfl, rfl, h2, r2⟩ := trodAll_cons r1
  obtain ⟨rfl, rfl, rfl⟩ := trodAll_nil r2
  obtain rfl : args = #[v0, v1, v2] := by cases args; simp_all
  obtain ⟨rfl, rfl⟩ := trodVars_none hV
  obtain ⟨a0, rfl, rfl, rfl, w0⟩ := open_int Try.underlying22 (hval 0 22 v0 rfl rfl) h0
  obtain ⟨a1, rfl, rfl, rfl, w1⟩ := open_int Try.underlying5 (hval 1 5 v1 rfl rfl) h1
  obtain ⟨a2, rfl, rfl, rfl, w2⟩ := open_int Try.underlying5 (hval 2 5 v2 rfl rfl) h2
  clear hA0 hval0
  refine (nonceEnds_walk a0 a1 a2 W w0 w1 w2).mono fun e W' ⟨he, bel⟩ => ?_
  subst he
  exact ⟨_, rfl, _, _, _, [], _, [], hW', trodAll_mk1 (shut_bool Try.underlying4 _), (trodAll_cons_mk (shut_int Try.underlying22 w0) (trodAll_cons_mk (shut_int Try.underlying5 w1) (trodAll_cons_mk (shut_int Try.underlying5 w2) trodAll_mk0))), rfl, bel.frame _, fun h => by cases h⟩

theorem nonceEnds_holds : Rows.NonceEndsSaid :=
  OpenClaim.holds_of_wide 5 Try.f5 rfl rfl rfl rfl rfl rfl rfl ⟨rfl, rfl, rfl, rfl, rfl⟩ rfl rfl rfl rfl rfl (by kernel_rfl) Try.func5 (by kernel_rfl)
    (of_decide_eq_true (by kernel_rfl)) (by unfold Func.isWrapper; first | (rw [if_pos (by decide +kernel)]; kernel_rfl) | (rw [if_neg (by decide +kernel)]; exact ⟨rfl, rfl⟩))
    (fun os started H enc _ => nonceEnds_lifted os started H enc)
#print axioms nonceEnds_holds
end Go.Proofs.Ytlfppgdaoijklaa
