/- For any half and any touches: no heat is no number, or -0. No condition. -/
import Derived.Test.YtmepjgdopfgdhaaHtColds
import Derived.ProofKit
import Derived.OpenShut
import Derived.ChangeOld
import Derived.Below
namespace Go.Proofs.Ytmepjgdopfgdhaa
open Go.ChangeShapes Go.WideShapes Go.ChangeAt Go.RowKit

set_option maxRecDepth 100000 in
set_option maxHeartbeats 1000000 in
theorem heatRight_walk (x : Int) (v1 : Value) (n : Nat) (A : Nat → HA) (w : World) (_ : (Lit.int .i64 x).wf = true) (hv : HActs w v1 n A) :
    Calls Try.prog 6 #[.int .i64 x, v1] w fun e w' => e = .returned (.bool true) ∧ Below w.heap.size w w' := by
  have HV := Hid.mk' hv
  have hlen := hv.1
  have HL := Hid.mk' (laid_any x hv)
  obtain ⟨ao, cap, rfl⟩ := hv.len
  clear hv
  go_enter Try.func6, Try.ntmps6
  go_wp2_with fail
  refine Calls.mono HL.out ?_
  rintro e w1 ⟨gh, gm, gx, rfl, hx⟩
  have HX := Hid.mk' hx
  clear hx HL
  generalize min n 200 = q at *
  generalize hh x = half at *
  generalize tch half A q = L at *
  go_wp2
  go_loopw [7] (fun iv wr => ∃ i : Nat, i ≤ n ∧ iv = .int .i64 i ∧ Grow w1 wr) (fun iv _ => n - (intOf iv).toNat)
  case atStart => exact ⟨0, Nat.zero_le _, rfl, But.refl _ _⟩
  case round =>
    obtain ⟨i, hin, rfl, hG⟩ := hrel
    have HG := Hid.mk' hG
    by_cases hgo : i < n ∧ i < 200
    · obtain ⟨hlt, h200⟩ := hgo
      have hlti : (i : Int) < (n : Int) := by omega
      have h200i : (i : Int) < 200 := by omega
      obtain ⟨b, off, cp, e1, hbl, hcell⟩ := HV.out.at hlt
      simp only [Value.slice.injEq] at e1
      obtain ⟨rfl, -, rfl⟩ := e1
      obtain ⟨hok, hcel⟩ := hcell i hlt
      obtain ⟨key, hkey⟩ : ∃ key, key = (A i).key := ⟨_, rfl⟩
      have cx : wr.cell? ⟨b, off + i * 3 + 1, none⟩ = some (.int .i64 key) := by rw [hkey]; exact grow_cell (HX.out.grow.trans hG) (hcel 1 _ rfl)
      have hki : i64 key := by rw [hkey]; exact hok.2.1
      have HO := Hid.mk' (hx_of (HX.out.then hG) hki)
      have HT := Hid.mk' (hof_ok half q (look L) key)
      have HLT := Hid.mk' (hof_lt (half := half) HX.out.h.ok key)
      obtain ⟨f, hf⟩ : ∃ f, f = hof half q (look L) key := ⟨_, rfl⟩
      rw [← hf] at HO HT HLT
      have f1 := ne_self f HLT.out
      have f2 := eq_zero f HLT.out HT.out.1
      rw [HT.out.1] at f1
      clear hcell hcel hok hkey hki hG hf
      by_cases h0 : mg f = 0
      · have f3 := HT.out.2 h0
        subst f3
        have f4 : (mg 0 == 0) = true := rfl
        rw [f4] at f2
        have HS := Hid.mk' (fun w => signbit_any 0 w (by decide))
        rw [show ng 0 = false from rfl] at HS
        clear h0 f4
        go_wp2_with fail
        refine Calls.mono HO.out ?_
        rintro e w2 ⟨rfl, hg2⟩
        have HG2 := Hid.mk' (HG.out.trans hg2)
        clear hg2
        go_wp2_with fail
        refine Calls.mono (HS.out _) ?_
        rintro e w' ⟨rfl, hw⟩
        have h2 := hw.symm
        subst h2
        clear hw
        go_wp2
        exact ⟨⟨i + 1, by omega, by go_num, HG2.out⟩, by simp [intOf]; omega⟩
      · have f4 : (mg f == 0) = false := by simpa using h0
        rw [f4] at f2
        clear h0 f4
        go_wp2_with fail
        refine Calls.mono HO.out ?_
        rintro e w2 ⟨rfl, hg2⟩
        have HG2 := Hid.mk' (HG.out.trans hg2)
        clear hg2
        go_wp2
        exact ⟨⟨i + 1, by omega, by go_num, HG2.out⟩, by simp [intOf]; omega⟩
    · rcases (by omega : ¬ i < n ∨ (i < n ∧ ¬ i < 200)) with h1 | ⟨h1, h2⟩
      · have hlti : ¬ ((i : Int) < (n : Int)) := by omega
        clear hG hgo
        go_wp2_with fail
        refine Calls.mono (awake_any _) ?_
        rintro e w2 ⟨rfl, hg2⟩
        have HG2 := Hid.mk' ((HX.out.grow.trans HG.out).trans hg2)
        clear hg2
        go_wp2
        go_ret
        exact ⟨rfl, HG2.out.below (Nat.le_refl _) (fun _ _ h => h)⟩
      · have hlti : (i : Int) < (n : Int) := by omega
        have h200i : ¬ ((i : Int) < 200) := by omega
        clear hG hgo
        go_wp2_with fail
        refine Calls.mono (awake_any _) ?_
        rintro e w2 ⟨rfl, hg2⟩
        have HG2 := Hid.mk' ((HX.out.grow.trans HG.out).trans hg2)
        clear hg2
        go_wp2
        go_ret
        exact ⟨rfl, HG2.out.below (Nat.le_refl _) (fun _ _ h => h)⟩

set_option maxRecDepth 100000 in
theorem heatRight_lifted (os : Os) (started : os.Started) (H : Type) (enc : TypeId × Value → H) :
    ReturnsInHanded {} Try.checked os 6 .any (Rows.heatRightSpec.pre6 enc Try.prog Try.f6 Rows.heatRightRow.domain false) (Rows.heatRightSpec.post enc Try.prog Try.f6 false true false false) := by
  refine returnsInHanded_of_change_sized (C := Try.checked) (by kernel_rfl) started (by kernel_rfl) Try.func6
    (ChangeSpec.witness6 (enc := enc) (C := Try.checked) false ⟨#[], #[.int .i64 0, .slice none 0 0], []⟩ 8 (by kernel_rfl) (by kernel_rfl) (by kernel_rfl) (by kernel_rfl)) ?_
  intro W base args ds gs before hval0 hW hcnd hsz0 _
  have hsz : (DataW.weightsEach Try.prog (Try.f6.params.toList ++ Rows.heatRightSpec.plain.varTypes Try.prog) (ds ++ gs)).all (· ≤ reachBytes) = true := hsz0
  clear hsz0
  have hval : ∀ (j : Nat) t v, Try.f6.params[j]? = some t → args[j]? = some v → Value.okWide Try.prog W .any base t v := hval0
  have hW' := hW
  obtain ⟨p, q, hA0, hV, rfl, hfz, hnd⟩ := hW
  have hA : DataW.TrodAll enc Try.prog W 0 (fun _ => true) true Try.f6.params.toList args.toList ds p := hA0
  rw [Try.params6] at hA hval hsz
  obtain ⟨v0, vs0, d0, ds0, p0, q0, hargs, rfl, rfl, h0, r0⟩ := trodAll_cons hA
  obtain ⟨v1, vs1, d1, ds1, p1, q1, rfl, rfl, rfl, h1, r1⟩ := trodAll_cons r0
  obtain ⟨rfl, rfl, rfl⟩ := trodAll_nil r1
  obtain rfl : args = #[v0, v1] := by cases args; simp_all
  obtain ⟨rfl, rfl⟩ := trodVars_none hV
  obtain ⟨a0, rfl, rfl, rfl, w0⟩ := open_int Try.underlying3 (hval 0 3 v0 rfl rfl) h0
  have lt1 : ∀ x ∈ p1, x.block < W.heap.size := by obtain ⟨m, hm⟩ := h1; exact DataW.trod_lt m _ _ _ hm
  obtain ⟨n1, z1, w1⟩ := view_hacts (hval 1 22 v1 rfl rfl) h1 lt1 hsz (j := 1) rfl rfl
  clear hA0 hval0
  refine (heatRight_walk a0 v1 n1 z1 W w0 w1).mono fun e W' ⟨he, bel⟩ => ?_
  subst he
  exact ⟨_, rfl, _, _, _, [], _, [], hW', trodAll_mk1 (shut_bool Try.underlying4 _), (trodAll_cons_mk (shut_int Try.underlying3 w0) (trodAll_cons_mk (Below.trod (by kernel_rfl) (by kernel_rfl) (of_decide_eq_true (by kernel_rfl)) h1 bel lt1) trodAll_mk0)), rfl, bel.frame _, fun h => by cases h⟩

theorem heatRight_holds : Rows.HeatRightSaid :=
  OpenClaim.holds_of_wide 6 Try.f6 rfl rfl rfl rfl rfl rfl rfl ⟨rfl, rfl, rfl, rfl, rfl⟩ rfl rfl rfl rfl rfl (by kernel_rfl) Try.func6 (by kernel_rfl)
    (of_decide_eq_true (by kernel_rfl)) (by unfold Func.isWrapper; first | (rw [if_pos (by decide +kernel)]; kernel_rfl) | (rw [if_neg (by decide +kernel)]; exact ⟨rfl, rfl⟩))
    (fun os started H enc _ => heatRight_lifted os started H enc)
#print axioms heatRight_holds
end Go.Proofs.Ytmepjgdopfgdhaa
