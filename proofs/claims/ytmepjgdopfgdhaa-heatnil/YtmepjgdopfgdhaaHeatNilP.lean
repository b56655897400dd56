/- For any keys and any number: heats that are none are +0, and the coldest key is the least one. No condition. -/
import Derived.Test.YtmepjgdopfgdhaaHtColds
import Derived.ProofKit
import Derived.OpenShut
import Derived.ChangeOld
import Derived.Below
namespace Go.Proofs.Ytmepjgdopfgdhaa
open Go.ChangeShapes Go.WideShapes Go.ChangeAt Go.RowKit

theorem zero_eq : (FloatKind.f64.format.order 0 0 == some Ordering.eq) = true := by decide
set_option maxRecDepth 100000 in
set_option maxHeartbeats 1000000 in
theorem heatNil_walk (v0 : Value) (ks : List Int) (y : Nat) (w : World) (hv : Nums w v0 ks) (_ : (Lit.float .f64 y).wf = true) :
    Calls Try.prog 8 #[v0, .float .f64 y] w fun e w' => e = .returned (.bool true) ∧ Below w.heap.size w w' := by
  have HV := Hid.mk' hv
  have hlen := hv.2.1
  have HC := Hid.mk' (cold_all (ofs_nil w) hv)
  obtain ⟨ao, cap, rfl⟩ := hv.len
  obtain ⟨n, hn⟩ : ∃ n, n = ks.length := ⟨_, rfl⟩
  have HN := Hid.mk' hn
  have h00 := zero_eq
  have HFIN : Hid (coldest (fun _ => 0) (ks.take n) = coldest (fun _ => 0) ks) := by show _ = _; rw [hn, List.take_of_length_le (Nat.le_refl _)]
  obtain ⟨cc, hcc⟩ : ∃ cc, cc = coldest (fun _ => 0) ks := ⟨_, rfl⟩
  rw [← hcc] at HC HFIN
  rw [← hn] at HC hlen ⊢
  have HB : Hid (decide (0 < n) = decide ((0 : Int) < (n : Int))) := by show _ = _; rw [decide_eq_decide]; omega
  rw [HB.out] at HC
  obtain ⟨ob, hob⟩ : ∃ ob, ob = decide ((0 : Int) < (n : Int)) := ⟨_, rfl⟩
  rw [← hob] at HC
  have hob2 : decide (0 < n) = ob := HB.out.trans hob.symm
  clear hv hn hcc hob HB
  go_enter Try.func8, Try.ntmps8
  go_wp2_with fail
  refine Calls.mono (touch_nil _ _ _) ?_
  rintro e w' ⟨rfl, hw⟩
  have h2 := hw.symm
  subst h2
  clear hw
  go_wp2_with fail
  refine Calls.mono (drop_nil _ _) ?_
  rintro e w' ⟨rfl, hw⟩
  have h2 := hw.symm
  subst h2
  clear hw
  go_wp2_with fail
  refine Calls.mono HC.out ?_
  rintro e w1 ⟨rfl, hg1⟩
  have HG1 := Hid.mk' hg1
  clear hg1 HC
  go_wp2
  go_loopw [9, 8] (fun iv lv wr => ∃ i : Nat, i ≤ n ∧ iv = .int .i64 i ∧ lv = .int .i64 (coldest (fun _ => 0) (ks.take i)) ∧ wr = w1) (fun iv _ _ => n - (intOf iv).toNat)
  case atStart => exact ⟨0, Nat.zero_le _, rfl, rfl, rfl⟩
  case round =>
    obtain ⟨i, hin, rfl, rfl, rfl⟩ := hrel
    by_cases hlt : i < n
    · have hlti : (i : Int) < (n : Int) := by omega
      have hiL : i < ks.length := by rw [← HN.out]; exact hlt
      obtain ⟨b, off, cp, e1, -, hbl, hcell⟩ := HV.out.at (by omega)
      rw [← HN.out] at e1
      simp only [Value.slice.injEq] at e1
      obtain ⟨rfl, -, rfl⟩ := e1
      obtain ⟨x, hx⟩ : ∃ x, x = ks.getD i 0 := ⟨_, rfl⟩
      have cx : wr.cell? ⟨b, off + i, none⟩ = some (.int .i64 x) := by rw [hx]; exact grow_cell HG1.out (hcell i hiL)
      by_cases h0 : i = 0
      · subst h0
        have HE : Hid (coldest (fun _ => 0) (ks.take (0 + 1)) = x) := by
          show _ = _
          rw [hx]
          cases ks with
          | nil => simp at hiL
          | cons a l => rfl
        have hz : (((0 : Nat) : Int) == 0) = true := rfl
        have cx0 : wr.cell? ⟨b, off, none⟩ = some (.int .i64 x) := cx
        clear hx hcell cx
        go_wp2
        exact ⟨⟨1, by omega, by go_num, by rw [HE.out], by first | rfl | trivial⟩, by simp [intOf]; omega⟩
      · have hnx := coldest_next (fun _ => 0) ks i (by omega) hiL
        rw [← hx, show colder (fun _ => 0) x (coldest (fun _ => 0) (ks.take i)) = decide (x < coldest (fun _ => 0) (ks.take i)) by unfold colder; simp [ls_irrefl, sa_refl]] at hnx
        obtain ⟨c, hc⟩ : ∃ c, c = coldest (fun _ => 0) (ks.take i) := ⟨_, rfl⟩
        rw [← hc] at hnx ⊢
        have hz : ((i : Int) == 0) = false := by
          have : ¬ (i : Int) = 0 := by omega
          simpa using this
        have hz2 : ¬ (i : Int) = 0 := by omega
        by_cases hxc : x < c
        · have HE : Hid (coldest (fun _ => 0) (ks.take (i + 1)) = x) := by show _ = _; rw [hnx, if_pos (by simpa using hxc)]
          clear hx hcell hnx hc h0
          go_wp2
          exact ⟨⟨i + 1, by omega, by go_num, by rw [HE.out], by first | rfl | trivial⟩, by simp [intOf]; omega⟩
        · have HE : Hid (coldest (fun _ => 0) (ks.take (i + 1)) = c) := by show _ = _; rw [hnx, if_neg (by simpa using hxc)]
          clear hx hcell hnx hc h0
          go_wp2
          exact ⟨⟨i + 1, by omega, by go_num, by rw [HE.out], by first | rfl | trivial⟩, by simp [intOf]; omega⟩
    · have hlti : ¬ ((i : Int) < (n : Int)) := by omega
      have HEI : Hid (coldest (fun _ => 0) (ks.take i) = cc) := by
        have e9 : i = n := by omega
        show _ = _
        rw [e9]; exact HFIN.out
      rw [HEI.out]
      go_wp2_with fail
      refine Calls.mono (of_nil _ _) ?_
      rintro e w' ⟨rfl, hw⟩
      have h2 := hw.symm
      subst h2
      clear hw
      go_wp2_with fail
      refine Calls.mono (awake_any _) ?_
      rintro e w2 ⟨rfl, hg2⟩
      have HG2 := Hid.mk' (HG1.out.trans hg2)
      clear hg2
      go_wp2
      go_ret
      exact ⟨rfl, HG2.out.below (Nat.le_refl _) (fun _ _ h => h)⟩

set_option maxRecDepth 100000 in
theorem heatNil_lifted (os : Os) (started : os.Started) (H : Type) (enc : TypeId × Value → H) :
    ReturnsInHanded {} Try.checked os 8 .any (Rows.heatNilSpec.pre6 enc Try.prog Try.f8 Rows.heatNilRow.domain false) (Rows.heatNilSpec.post enc Try.prog Try.f8 false true false false) := by
  refine returnsInHanded_of_change_sized (C := Try.checked) (by kernel_rfl) started (by kernel_rfl) Try.func8
    (ChangeSpec.witness6 (enc := enc) (C := Try.checked) false ⟨#[], #[.slice none 0 0, .float .f64 0], []⟩ 8 (by kernel_rfl) (by kernel_rfl) (by kernel_rfl) (by kernel_rfl)) ?_
  intro W base args ds gs before hval0 hW hcnd hsz0 _
  have hsz : (DataW.weightsEach Try.prog (Try.f8.params.toList ++ Rows.heatNilSpec.plain.varTypes Try.prog) (ds ++ gs)).all (· ≤ reachBytes) = true := hsz0
  clear hsz0
  have hval : ∀ (j : Nat) t v, Try.f8.params[j]? = some t → args[j]? = some v → Value.okWide Try.prog W .any base t v := hval0
  have hW' := hW
  obtain ⟨p, q, hA0, hV, rfl, hfz, hnd⟩ := hW
  have hA : DataW.TrodAll enc Try.prog W 0 (fun _ => true) true Try.f8.params.toList args.toList ds p := hA0
  rw [Try.params8] at hA hval hsz
  obtain ⟨v0, vs0, d0, ds0, p0, q0, hargs, rfl, rfl, h0, r0⟩ := trodAll_cons hA
  obtain ⟨v1, vs1, d1, ds1, p1, q1, rfl, rfl, rfl, h1, r1⟩ := trodAll_cons r0
  obtain ⟨rfl, rfl, rfl⟩ := trodAll_nil r1
  obtain rfl : args = #[v0, v1] := by cases args; simp_all
  obtain ⟨rfl, rfl⟩ := trodVars_none hV
  have lt0 : ∀ x ∈ p0, x.block < W.heap.size := by obtain ⟨m, hm⟩ := h0; exact DataW.trod_lt m _ _ _ hm
  obtain ⟨z0, w0⟩ := view_nums Try.underlying40 Try.underlying3 (by kernel_rfl) (by kernel_rfl) (hval 0 40 v0 rfl rfl) h0 lt0 hsz (j := 0) rfl rfl
  obtain ⟨a1, rfl, rfl, rfl, w1⟩ := open_float Try.underlying32 (hval 1 32 v1 rfl rfl) h1
  clear hA0 hval0
  refine (heatNil_walk v0 z0 a1 W w0 w1).mono fun e W' ⟨he, bel⟩ => ?_
  subst he
  exact ⟨_, rfl, _, _, _, [], _, [], hW', trodAll_mk1 (shut_bool Try.underlying4 _), (trodAll_cons_mk (Below.trod (by kernel_rfl) (by kernel_rfl) (of_decide_eq_true (by kernel_rfl)) h0 bel lt0) (trodAll_cons_mk (shut_float Try.underlying32 w1) trodAll_mk0)), rfl, bel.frame _, fun h => by cases h⟩

theorem heatNil_holds : Rows.HeatNilSaid :=
  OpenClaim.holds_of_wide 8 Try.f8 rfl rfl rfl rfl rfl rfl rfl ⟨rfl, rfl, rfl, rfl, rfl⟩ rfl rfl rfl rfl rfl (by kernel_rfl) Try.func8 (by kernel_rfl)
    (of_decide_eq_true (by kernel_rfl)) (by unfold Func.isWrapper; first | (rw [if_pos (by decide +kernel)]; kernel_rfl) | (rw [if_neg (by decide +kernel)]; exact ⟨rfl, rfl⟩))
    (fun os started H enc _ => heatNil_lifted os started H enc)
#print axioms heatNil_holds
end Go.Proofs.Ytmepjgdopfgdhaa
