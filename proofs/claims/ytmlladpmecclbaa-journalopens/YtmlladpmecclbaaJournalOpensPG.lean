/- JournalOpens: any blocks are opened as the head that they are, or refused as the document says. For every input. -/
import Derived.Test.YtmlladpmecclbaaAllC
namespace Go.Proofs.Ytmlladpmecclbaa
open Go.ChangeShapes Go.WideShapes Go.ChangeAt Go.RowKit Go.Deep

set_option maxRecDepth 100000 in
set_option maxHeartbeats 8000000 in
theorem journalOpens_walk (v0 : Value) (z0 : List (List Nat)) (a1 : Int) (w : World) (h0 : (Ps w v0 z0 ∧ z0.length * 24 ≤ 140737488351232 ∧ ∀ x ∈ z0, x.length ≤ 140737488351232) ∧ ∀ ao n c, v0 = .slice ao n c → n ≤ c) (_h1 : (Lit.int .i64 a1).wf = true) :
    Calls Try.prog 3 #[v0, .int .i64 a1] w fun e w' => e = .returned (.bool true) ∧ Below w.heap.size w w' := by
  have HGR := Hid.mk' (jgreat_any h0.1.1 (by omega))
  have HP := Hid.mk' h0.1.1
  have HCAP := Hid.mk' h0.2
  obtain ⟨ao, cap, rfl, -⟩ := h0.1.1.gen
  generalize z0.length = n at HGR HP HCAP ⊢
  clear h0 _h1
  go_enter Try.func3, Try.ntmps3
  go_wp2_with fail
  refine Calls.mono HGR.out ?_
  rintro e w1 ⟨q, rfl, hq, hw⟩
  subst w1
  cases q with
  | true =>
    clear hq
    go_wp2_with fail
    refine Calls.mono (jawake_any w) ?_
    rintro e w2 ⟨rfl, hg2⟩
    go_wp2
    go_ret
    exact ⟨rfl, hg2.below (Nat.le_refl _) (fun _ _ h => h)⟩
  | false =>
    have hlen := hq rfl
    clear hq HGR
    by_cases hb : 1 ≤ a1 ∧ a1 ≤ 256
    · obtain ⟨b, rfl⟩ : ∃ b : Nat, a1 = (b : Int) := ⟨a1.toNat, by omega⟩
      have hb1 : 1 ≤ b := by omega
      have hb2 : b ≤ 256 := by omega
      have HJ := Hid.mk' (jopen_any HP.out HCAP.out (by omega) hb1 hb2)
      have HR : Hid (∀ w', Grow w w' → _) := fun w' k => ropen_any (w := w') (HP.out.below k) (by omega) hb1 hb2
      have HU : Hid (∀ v v' l l' e e', OpIs b (hds b) z0 v l e → OpIs b (hds b) z0 v' l' e' → v = v' ∧ l = l' ∧ e = e') := fun v v' l l' e e' h k => h.uniq hb2 (hds_room b) k
      clear hb hlen
      go_wp2_with fail
      refine Calls.mono HJ.out ?_
      rintro e w2 ⟨V, l, f, bv, rfl, ho, hnm, hg2, -⟩
      obtain ⟨ba, bc, hbe⟩ := hnm.len
      generalize (toI l).length = ln at hbe
      subst hbe
      have HG2 := Hid.mk' hg2
      have HO := Hid.mk' ho
      have HNM := Hid.mk' hnm
      clear hg2 ho hnm HJ
      go_wp2_with fail
      refine Calls.mono (HR.out w2 HG2.out) ?_
      rintro e w3 ⟨V', l', f', bv', rfl, ho', hnm', hg3⟩
      obtain ⟨rfl, rfl, rfl⟩ := HU.out _ _ _ _ _ _ HO.out ho'
      have hsi := sameints_any (HNM.out.grow hg3) hnm'
      rw [decide_eq_true rfl] at hsi
      obtain ⟨ba', bc', hbe'⟩ := hnm'.len
      generalize (toI l).length = ln' at hbe'
      subst hbe'
      have HSI := Hid.mk' hsi
      have HG3 := Hid.mk' (HG2.out.trans hg3)
      have e1 : ((V : Int) == (V : Int)) = true := by simp
      have e2 : (f == f) = true := by simp
      clear hsi hg3 ho' hnm' HR HU HO HNM
      go_wp2_with fail
      refine Calls.mono HSI.out ?_
      rintro e w4 ⟨rfl, hg4⟩
      have HG4 := Hid.mk' (HG3.out.trans hg4)
      clear hg4
      go_wp2_with fail
      refine Calls.mono (jawake_any w4) ?_
      rintro e w5 ⟨rfl, hg5⟩
      have HG5 := Hid.mk' (HG4.out.trans hg5)
      clear hg5
      go_wp2
      go_ret
      exact ⟨rfl, HG5.out.below (Nat.le_refl _) (fun _ _ h => h)⟩
    · have HJ := Hid.mk' (jopen_no (w := w) (v := .slice ao n cap) hb)
      have HR : Hid (∀ w', Calls Try.prog 8 #[.slice ao n cap, .int .i64 a1] w' fun e w'' => e = .returned (.tuple #[.int .u64 0, .slice none 0 0, .int .i64 1]) ∧ Grow w' w'') := fun w' => ropen_no hb
      have HSI : Hid (∀ w' : World, Calls Try.prog 9 #[.slice none 0 0, .slice none 0 0] w' fun e w'' => e = .returned (.bool true) ∧ Grow w' w'') := fun w' => by
        have hnil : Nums w' (.slice none 0 0) (toI []) := ⟨nofun, by simp [toI], .inl ⟨rfl, .inl rfl⟩⟩
        have := sameints_any hnil hnil
        rw [decide_eq_true rfl] at this
        exact this
      clear hb hlen
      go_wp2_with fail
      refine Calls.mono HJ.out ?_
      rintro e w2 ⟨rfl, hg2⟩
      have HG2 := Hid.mk' hg2
      clear hg2
      go_wp2_with fail
      refine Calls.mono (HR.out w2) ?_
      rintro e w3 ⟨rfl, hg3⟩
      have HG3 := Hid.mk' (HG2.out.trans hg3)
      clear hg3
      go_wp2_with fail
      refine Calls.mono (HSI.out w3) ?_
      rintro e w4 ⟨rfl, hg4⟩
      have HG4 := Hid.mk' (HG3.out.trans hg4)
      clear hg4
      go_wp2_with fail
      refine Calls.mono (jawake_any w4) ?_
      rintro e w5 ⟨rfl, hg5⟩
      have HG5 := Hid.mk' (HG4.out.trans hg5)
      clear hg5
      go_wp2
      go_ret
      exact ⟨rfl, HG5.out.below (Nat.le_refl _) (fun _ _ h => h)⟩

set_option maxRecDepth 100000 in
theorem journalOpens_lifted (os : Os) (started : os.Started) (H : Type) (enc : TypeId × Value → H) :
    ReturnsInHanded {} Try.checked os 3 .any (Rows.journalOpensSpec.pre6 enc Try.prog Try.f3 Rows.journalOpensRow.domain false) (Rows.journalOpensSpec.post enc Try.prog Try.f3 false true false false) := by
  refine returnsInHanded_of_change_sized (C := Try.checked) (by kernel_rfl) started (by kernel_rfl) Try.func3
    (ChangeSpec.witness6 (enc := enc) (C := Try.checked) false ⟨#[], #[.slice none 0 0, .int .i64 0], []⟩ 8 (by kernel_rfl) (by kernel_rfl) (by kernel_rfl) (by kernel_rfl)) ?_
  intro W base args ds gs before hval0 hW hcnd hsz0 _
  have hsz : (DataW.weightsEach Try.prog (Try.f3.params.toList ++ Rows.journalOpensSpec.plain.varTypes Try.prog) (ds ++ gs)).all (· ≤ reachBytes) = true := hsz0
  clear hsz0
  have hval : ∀ (j : Nat) t v, Try.f3.params[j]? = some t → args[j]? = some v → Value.okWide Try.prog W .any base t v := hval0
  have hW' := hW
  obtain ⟨p, q, hA0, hV, rfl, hfz, hnd⟩ := hW
  have hA : DataW.TrodAll enc Try.prog W 0 (fun _ => true) true Try.f3.params.toList args.toList ds p := hA0
  rw [Try.params3] at hA hval hsz
  obtain ⟨v0, vs0, d0, ds0, p0, q0, hargs, rfl, rfl, h0, r0⟩ := trodAll_cons hA
  obtain ⟨v1, vs1, d1, ds1, p1, q1, rfl, rfl, rfl, h1, r1⟩ := trodAll_cons r0
  obtain ⟨rfl, rfl, rfl⟩ := trodAll_nil r1
  obtain rfl : args = #[v0, v1] := by cases args; simp_all
  obtain ⟨rfl, rfl⟩ := trodVars_none hV
  have lt0 : ∀ x ∈ p0, x.block < W.heap.size := by obtain ⟨m, hm⟩ := h0; exact DataW.trod_lt m _ _ _ hm
  have rm0 := view_room Try.underlying22 (by kernel_rfl) (hval 0 22 v0 rfl rfl) h0
  obtain ⟨z0, w0⟩ := view_parts Try.underlying22 Try.underlying37 Try.underlying5 (by kernel_rfl) (by kernel_rfl) (by kernel_rfl) (by kernel_rfl) (hval 0 22 v0 rfl rfl) h0 lt0 hsz (j := 0) rfl rfl
  obtain ⟨a1, rfl, rfl, rfl, w1⟩ := open_int Try.underlying3 (hval 1 3 v1 rfl rfl) h1
  clear hA0 hval0
  refine (journalOpens_walk v0 z0 a1 W ⟨w0, rm0⟩ w1).mono fun e W' ⟨he, bel⟩ => ?_
  subst he
  exact ⟨_, rfl, _, _, _, [], _, [], hW', trodAll_mk1 (shut_bool Try.underlying4 _), (trodAll_cons_mk (Below.trod (by kernel_rfl) (by kernel_rfl) (of_decide_eq_true (by kernel_rfl)) h0 bel lt0) (trodAll_cons_mk (shut_int Try.underlying3 w1) trodAll_mk0)), rfl, bel.frame _, fun h => by cases h⟩

theorem journalOpens_holds : Rows.JournalOpensSaid :=
  OpenClaim.holds_of_wide 3 Try.f3 rfl rfl rfl rfl rfl rfl rfl ⟨rfl, rfl, rfl, rfl, rfl⟩ rfl rfl rfl rfl rfl (by kernel_rfl) Try.func3 (by kernel_rfl)
    (of_decide_eq_true (by kernel_rfl)) (by unfold Func.isWrapper; first | (rw [if_pos (by decide +kernel)]; kernel_rfl) | (rw [if_neg (by decide +kernel)]; exact ⟨rfl, rfl⟩))
    (fun os started H enc _ => journalOpens_lifted os started H enc)
#print axioms journalOpens_holds
end Go.Proofs.Ytmlladpmecclbaa
