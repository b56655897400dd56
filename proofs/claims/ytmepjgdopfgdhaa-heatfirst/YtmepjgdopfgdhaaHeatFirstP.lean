/- For any half, any touches and any keys (more than 300 are let go): the coldest of the keys is one of them, and none of them is colder. No condition. -/
import Derived.Test.YtmepjgdopfgdhaaHtColds
import Derived.ProofKit
import Derived.OpenShut
import Derived.ChangeOld
import Derived.Below
namespace Go.Proofs.Ytmepjgdopfgdhaa
open Go.ChangeShapes Go.WideShapes Go.ChangeAt Go.RowKit

theorem mem_take_next (ks : List Int) (c : Int) (i : Nat) (h : i < ks.length) : decide (c ∈ ks.take (i + 1)) = (decide (c ∈ ks.take i) || (ks.getD i 0 == c)) := by
  have e : ks.getD i 0 = ks[i] := by rw [List.getD_eq_getElem?_getD, List.getElem?_eq_getElem h]; rfl
  rw [List.take_succ_eq_append_getElem h, e, Bool.eq_iff_iff, decide_eq_true_eq, Bool.or_eq_true, decide_eq_true_eq, beq_iff_eq, List.mem_append, List.mem_singleton]
  exact ⟨fun h => h.imp_right Eq.symm, fun h => h.imp_right Eq.symm⟩
set_option maxRecDepth 100000 in
set_option maxHeartbeats 1000000 in
theorem heatFirst_walk (x : Int) (v1 : Value) (n : Nat) (A : Nat → HA) (v2 : Value) (ks : List Int) (w : World) (_ : (Lit.int .i64 x).wf = true) (hv : HActs w v1 n A) (hk : Nums w v2 ks) :
    Calls Try.prog 5 #[.int .i64 x, v1, v2] w fun e w' => e = .returned (.bool true) ∧ Below w.heap.size w w' := by
  have HK := Hid.mk' hk
  have HL := Hid.mk' (laid_any x hv)
  obtain ⟨ao, cap, rfl⟩ := hk.len
  obtain ⟨l, hl⟩ : ∃ l, l = ks.length := ⟨_, rfl⟩
  rw [← hl]
  have HLE := Hid.mk' hl
  by_cases h300 : l ≤ 300
  · have h3 : ¬ ((300 : Int) < (l : Int)) := by omega
    clear hv hl hk
    go_enter Try.func5, Try.ntmps5
    go_wp2_with fail
    refine Calls.mono HL.out ?_
    rintro e w1 ⟨gh, gm, gx, rfl, hx⟩
    have HX := Hid.mk' hx
    clear hx HL
    generalize min n 200 = q at *
    generalize hh x = half at *
    generalize tch half A q = L at *
    obtain ⟨H, hH⟩ : ∃ H, H = hof half q (look L) := ⟨_, rfl⟩
    have HOF : Hid (Ofs w1 16 (.pointer (some ⟨gh, 0, none⟩)) H) := by rw [hH]; exact ofs_any HX.out.h
    have HKW := Hid.mk' (HK.out.grow HX.out.grow)
    have HC := Hid.mk' (cold_all HOF.out HKW.out)
    rw [← HLE.out] at HC
    have HCM : Hid (0 < l → coldest H ks ∈ ks) := fun h0 => coldest_mem H ks (fun e => by have := HLE.out; rw [e] at this; simp at this; omega)
    have HCL := Hid.mk' (coldest_le H ks)
    have HC0 : Hid (l = 0 → coldest H ks = 0) := fun h0 => by
      obtain rfl : ks = [] := List.eq_nil_of_length_eq_zero (by have := HLE.out; omega)
      rfl
    obtain ⟨c, hc⟩ : ∃ c, c = coldest H ks := ⟨_, rfl⟩
    rw [← hc] at HC HCM HCL HC0
    have HIC : Hid (i64 c) := by
      show i64 c
      by_cases h0 : 0 < l
      · exact HK.out.1 c (HCM.out h0)
      · rw [HC0.out (by omega)]; unfold i64; omega
    clear hH hc
    obtain ⟨ob, hob⟩ : ∃ ob, ob = decide (0 < l) := ⟨_, rfl⟩
    rw [← hob] at HC
    have HOB := Hid.mk' hob
    clear hob
    go_wp2_with fail
    refine Calls.mono HC.out ?_
    rintro e w2 ⟨rfl, hg2⟩
    have HG2 := Hid.mk' hg2
    clear hg2 HC
    go_wp2
    go_loopw [12, 11] (fun iv fv wr => ∃ (i : Nat) (fb : Bool), i ≤ l ∧ iv = .int .i64 i ∧ fv = .bool fb ∧ fb = decide (c ∈ ks.take i) ∧ Grow w1 wr) (fun iv _ _ => l - (intOf iv).toNat)
    case atStart => exact ⟨0, false, Nat.zero_le _, rfl, rfl, rfl, HG2.out⟩
    case round =>
      obtain ⟨i, fb, hil, rfl, rfl, hfb, hG⟩ := hrel
      have HG := Hid.mk' hG
      by_cases hlt : i < l
      · have hlti : (i : Int) < (l : Int) := by omega
        have hiL : i < ks.length := by rw [← HLE.out]; exact hlt
        obtain ⟨b, off, cp, e1, -, hbl, hcell⟩ := HKW.out.at (by omega)
        rw [← HLE.out] at e1
        simp only [Value.slice.injEq] at e1
        obtain ⟨rfl, -, rfl⟩ := e1
        obtain ⟨z, hz⟩ : ∃ z, z = ks.getD i 0 := ⟨_, rfl⟩
        have HCX : Hid (∀ w', Grow w1 w' → w'.cell? ⟨b, off + i, none⟩ = some (.int .i64 z)) := fun w' k => by rw [hz]; exact grow_cell k (hcell i hiL)
        have cx := HCX.out wr hG
        have hzm : z ∈ ks := by rw [hz, List.getD_eq_getElem?_getD, List.getElem?_eq_getElem hiL]; exact List.getElem_mem hiL
        have hzi : i64 z := HK.out.1 z hzm
        have hls : ls (H z) (H c) = false := by
          have := HCL.out z hzm
          unfold ls; simp; exact this
        have hnx := mem_take_next ks c i hiL
        rw [← hz, ← hfb] at hnx
        have HO1 := Hid.mk' (fun w' (k : Grow w1 w') => HOF.out.call w' k z hzi)
        have HO2 := Hid.mk' (fun w' (k : Grow w1 w') => HOF.out.call w' k c HIC.out)
        have HL1 := Hid.mk' (HOF.out.lt z)
        have HL2 := Hid.mk' (HOF.out.lt c)
        obtain ⟨fz, hfz⟩ : ∃ y, y = H z := ⟨_, rfl⟩
        obtain ⟨fc, hfc⟩ : ∃ y, y = H c := ⟨_, rfl⟩
        rw [← hfz] at HO1 HL1 hls
        rw [← hfc] at HO2 HL2 hls
        have HLS := Hid.mk' (fun w => refLess_any fz fc w HL1.out HL2.out)
        rw [hls] at HLS
        have HNX := Hid.mk' hnx
        clear hcell hz hzm hzi hls hG hfz hfc hfb hnx HL1 HL2
        cases fb
        case true =>
          have HN2 : Hid (true = decide (c ∈ ks.take (i + 1))) := by show _ = _; rw [HNX.out]; rfl
          clear HNX
          go_wp2_with fail
          refine Calls.mono (HO1.out wr HG.out) ?_
          rintro e w3 ⟨rfl, hg3⟩
          have HG3 := Hid.mk' (HG.out.trans hg3)
          clear hg3
          go_wp2_with fail
          refine Calls.mono (HO2.out w3 HG3.out) ?_
          rintro e w4 ⟨rfl, hg4⟩
          have HG4 := Hid.mk' (HG3.out.trans hg4)
          clear hg4
          go_wp2_with fail
          refine Calls.mono (HLS.out w4) ?_
          rintro e w' ⟨rfl, hw⟩
          have h2 := hw.symm
          subst h2
          clear hw
          go_wp2
          exact ⟨⟨i + 1, true, by omega, by go_num, rfl, HN2.out, HG4.out⟩, by simp [intOf]; omega⟩
        case false =>
          cases hzc : (z == c)
          case true =>
            have HN2 : Hid (true = decide (c ∈ ks.take (i + 1))) := by show _ = _; rw [HNX.out, hzc]; rfl
            clear HNX
            go_wp2_with fail
            refine Calls.mono (HO1.out wr HG.out) ?_
            rintro e w3 ⟨rfl, hg3⟩
            have HG3 := Hid.mk' (HG.out.trans hg3)
            clear hg3
            go_wp2_with fail
            refine Calls.mono (HO2.out w3 HG3.out) ?_
            rintro e w4 ⟨rfl, hg4⟩
            have HG4 := Hid.mk' (HG3.out.trans hg4)
            clear hg4
            go_wp2_with fail
            refine Calls.mono (HLS.out w4) ?_
            rintro e w' ⟨rfl, hw⟩
            have h2 := hw.symm
            subst h2
            clear hw
            go_wp2
            exact ⟨⟨i + 1, true, by omega, by go_num, rfl, HN2.out, HG4.out⟩, by simp [intOf]; omega⟩
          case false =>
            have HN2 : Hid (false = decide (c ∈ ks.take (i + 1))) := by show _ = _; rw [HNX.out, hzc]; rfl
            clear HNX
            go_wp2_with fail
            refine Calls.mono (HO1.out wr HG.out) ?_
            rintro e w3 ⟨rfl, hg3⟩
            have HG3 := Hid.mk' (HG.out.trans hg3)
            clear hg3
            go_wp2_with fail
            refine Calls.mono (HO2.out w3 HG3.out) ?_
            rintro e w4 ⟨rfl, hg4⟩
            have HG4 := Hid.mk' (HG3.out.trans hg4)
            clear hg4
            go_wp2_with fail
            refine Calls.mono (HLS.out w4) ?_
            rintro e w' ⟨rfl, hw⟩
            have h2 := hw.symm
            subst h2
            clear hw
            go_wp2
            exact ⟨⟨i + 1, false, by omega, by go_num, rfl, HN2.out, HG4.out⟩, by simp [intOf]; omega⟩
      · have hlti : ¬ ((i : Int) < (l : Int)) := by omega
        have hfb2 : fb = decide (0 < l) := by
          rw [hfb, List.take_of_length_le (by have := HLE.out; omega), decide_eq_decide]
          constructor
          · intro h
            have := HLE.out
            cases ks with
            | nil => cases h
            | cons a l => simp at this; omega
          · exact HCM.out
        by_cases h0 : 0 < l
        · rw [decide_eq_true h0] at hfb2
          subst hfb2
          have hob := HOB.out
          rw [decide_eq_true h0] at hob
          subst hob
          clear hG h0 hfb
          go_wp2_with fail
          refine Calls.mono (awake_any _) ?_
          rintro e w5 ⟨rfl, hg5⟩
          have HG5 := Hid.mk' ((HX.out.grow.trans HG.out).trans hg5)
          clear hg5
          go_wp2
          go_ret
          exact ⟨rfl, HG5.out.below (Nat.le_refl _) (fun _ _ h => h)⟩
        · rw [decide_eq_false h0] at hfb2
          subst hfb2
          have hob := HOB.out
          rw [decide_eq_false h0] at hob
          subst hob
          have hc0 := HC0.out (by omega)
          subst hc0
          clear hG h0 hfb
          go_wp2_with fail
          refine Calls.mono (awake_any _) ?_
          rintro e w5 ⟨rfl, hg5⟩
          have HG5 := Hid.mk' ((HX.out.grow.trans HG.out).trans hg5)
          clear hg5
          go_wp2
          go_ret
          exact ⟨rfl, HG5.out.below (Nat.le_refl _) (fun _ _ h => h)⟩
  · have h3 : (300 : Int) < (l : Int) := by omega
    clear hv hl hk HL
    go_enter Try.func5, Try.ntmps5
    go_wp2_with fail
    refine Calls.mono (awake_any _) ?_
    rintro e w5 ⟨rfl, hg5⟩
    have HG5 := Hid.mk' hg5
    clear hg5
    go_wp2
    go_ret
    exact ⟨rfl, HG5.out.below (Nat.le_refl _) (fun _ _ h => h)⟩

set_option maxRecDepth 100000 in
theorem heatFirst_lifted (os : Os) (started : os.Started) (H : Type) (enc : TypeId × Value → H) :
    ReturnsInHanded {} Try.checked os 5 .any (Rows.heatFirstSpec.pre6 enc Try.prog Try.f5 Rows.heatFirstRow.domain false) (Rows.heatFirstSpec.post enc Try.prog Try.f5 false true false false) := by
  refine returnsInHanded_of_change_sized (C := Try.checked) (by kernel_rfl) started (by kernel_rfl) Try.func5
    (ChangeSpec.witness6 (enc := enc) (C := Try.checked) false ⟨#[], #[.int .i64 0, .slice none 0 0, .slice none 0 0], []⟩ 8 (by kernel_rfl) (by kernel_rfl) (by kernel_rfl) (by kernel_rfl)) ?_
  intro W base args ds gs before hval0 hW hcnd hsz0 _
  have hsz : (DataW.weightsEach Try.prog (Try.f5.params.toList ++ Rows.heatFirstSpec.plain.varTypes Try.prog) (ds ++ gs)).all (· ≤ reachBytes) = true := hsz0
  clear hsz0
  have hval : ∀ (j : Nat) t v, Try.f5.params[j]? = some t → args[j]? = some v → Value.okWide Try.prog W .any base t v := hval0
  have hW' := hW
  obtain ⟨p, q, hA0, hV, rfl, hfz, hnd⟩ := hW
  have hA : DataW.TrodAll enc Try.prog W 0 (fun _ => true) true Try.f5.params.toList args.toList ds p := hA0
  rw [Try.params5] at hA hval hsz
  obtain ⟨v0, vs0, d0, ds0, p0, q0, hargs, rfl, rfl, h0, r0⟩ := trodAll_cons hA
  obtain ⟨v1, vs1, d1, ds1, p1, q1, rfl, rfl, rfl, h1, r1⟩ := trodAll_cons r0
  obtain ⟨v2, vs2, d2, ds2, p2, q2, rfl, rfl, rfl, h2, r2⟩ := trodAll_cons r1
  obtain ⟨rfl, rfl, rfl⟩ := trodAll_nil r2
  obtain rfl : args = #[v0, v1, v2] := by cases args; simp_all
  obtain ⟨rfl, rfl⟩ := trodVars_none hV
  obtain ⟨a0, rfl, rfl, rfl, w0⟩ := open_int Try.underlying3 (hval 0 3 v0 rfl rfl) h0
  have lt1 : ∀ x ∈ p1, x.block < W.heap.size := by obtain ⟨m, hm⟩ := h1; exact DataW.trod_lt m _ _ _ hm
  obtain ⟨n1, z1, w1⟩ := view_hacts (hval 1 22 v1 rfl rfl) h1 lt1 hsz (j := 1) rfl rfl
  have lt2 : ∀ x ∈ p2, x.block < W.heap.size := by obtain ⟨m, hm⟩ := h2; exact DataW.trod_lt m _ _ _ hm
  obtain ⟨z2, w2⟩ := view_nums Try.underlying40 Try.underlying3 (by kernel_rfl) (by kernel_rfl) (hval 2 40 v2 rfl rfl) h2 lt2 hsz (j := 2) rfl rfl
  clear hA0 hval0
  refine (heatFirst_walk a0 v1 n1 z1 v2 z2 W w0 w1 w2).mono fun e W' ⟨he, bel⟩ => ?_
  subst he
  exact ⟨_, rfl, _, _, _, [], _, [], hW', trodAll_mk1 (shut_bool Try.underlying4 _), (trodAll_cons_mk (shut_int Try.underlying3 w0) (trodAll_cons_mk (Below.trod (by kernel_rfl) (by kernel_rfl) (of_decide_eq_true (by kernel_rfl)) h1 bel lt1) (trodAll_cons_mk (Below.trod (by kernel_rfl) (by kernel_rfl) (of_decide_eq_true (by kernel_rfl)) h2 bel lt2) trodAll_mk0))), rfl, bel.frame _, fun h => by cases h⟩

theorem heatFirst_holds : Rows.HeatFirstSaid :=
  OpenClaim.holds_of_wide 5 Try.f5 rfl rfl rfl rfl rfl rfl rfl ⟨rfl, rfl, rfl, rfl, rfl⟩ rfl rfl rfl rfl rfl (by kernel_rfl) Try.func5 (by kernel_rfl)
    (of_decide_eq_true (by kernel_rfl)) (by unfold Func.isWrapper; first | (rw [if_pos (by decide +kernel)]; kernel_rfl) | (rw [if_neg (by decide +kernel)]; exact ⟨rfl, rfl⟩))
    (fun os started H enc _ => heatFirst_lifted os started H enc)
#print axioms heatFirst_holds
end Go.Proofs.Ytmepjgdopfgdhaa
