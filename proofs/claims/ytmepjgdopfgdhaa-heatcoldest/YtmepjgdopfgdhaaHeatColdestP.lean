/- For any half, any touches and any keys (more than 300 are let go): the coldest of the keys is the document's; the keys stay. No condition. -/
import Derived.Test.YtmepjgdopfgdhaaHtColds
import Derived.ProofKit
import Derived.OpenShut
import Derived.ChangeOld
import Derived.Below
namespace Go.Proofs.Ytmepjgdopfgdhaa
open Go.ChangeShapes Go.WideShapes Go.ChangeAt Go.RowKit

set_option maxRecDepth 100000 in
set_option maxHeartbeats 1000000 in
theorem heatColdest_walk (x : Int) (v1 : Value) (n : Nat) (A : Nat → HA) (v2 : Value) (ks : List Int) (w : World) (_ : (Lit.int .i64 x).wf = true) (hv : HActs w v1 n A) (hk : Nums w v2 ks) :
    Calls Try.prog 4 #[.int .i64 x, v1, v2] w fun e w' => e = .returned (.bool true) ∧ Below w.heap.size w w' := by
  have HK := Hid.mk' hk
  have HL := Hid.mk' (laid_any x hv)
  obtain ⟨ao, cap, rfl⟩ := hk.len
  obtain ⟨l, hl⟩ : ∃ l, l = ks.length := ⟨_, rfl⟩
  rw [← hl]
  have HLE := Hid.mk' hl
  by_cases h300 : l ≤ 300
  · have h3 : ¬ ((300 : Int) < (l : Int)) := by omega
    clear hv hl hk
    go_enter Try.func4, Try.ntmps4
    go_wp2_with fail
    refine Calls.mono HL.out ?_
    rintro e w1 ⟨gh, gm, gx, rfl, hx⟩
    have HX := Hid.mk' hx
    clear hx HL
    generalize min n 200 = q at *
    generalize hh x = half at *
    generalize tch half A q = L at *
    obtain ⟨H, hH⟩ : ∃ H, H = hof half q (look L) := ⟨_, rfl⟩
    have HOF : Hid (Ofs w1 16 (.pointer (some ⟨gh, 0, none⟩)) H) := by rw [hH]; exact ofs_any HX.out.h
    have HOR : Hid (Ofs w1 17 (.pointer (some ⟨gx, 0, none⟩)) H) := by rw [hH]; exact HX.out.rofs
    have HKW := Hid.mk' (HK.out.grow HX.out.grow)
    have HGA : Hid (Grow w1 (w1.alloc (.cells #[] 3))) := (But.refl _ w1).alloc _
    have HBA : Hid (Blk (w1.alloc (.cells #[] 3)) w1.heap.size 3 []) := Blk.new (L := []) rfl
    have HKA := Hid.mk' (HKW.out.grow HGA.out)
    rw [← HLE.out] at HKA
    clear hH
    go_wp2_with (first
      | (refine wpList_someH rfl (exec_clone rfl rfl HBA.out rfl HKA.out (by have := HLE.out; omega)) ?_; rintro v3 w3 ⟨hn3, hv3, hb3⟩)
      | fail)
    have HG3 : Hid (Grow w1 w3) := HGA.out.then hb3 (fun i hi e => by omega)
    have HN3 := Hid.mk' hn3
    have HC := Hid.mk' (cold_all (HOF.out.grow HG3.out) hn3)
    rw [← HLE.out] at HC
    have HR := Hid.mk' (fun w' (k : Grow w1 w') => rcold_all (HOR.out.grow k) (HKW.out.grow k))
    rw [← HLE.out] at HR
    obtain ⟨c, hc⟩ : ∃ c, c = coldest H ks := ⟨_, rfl⟩
    rw [← hc] at HC HR
    obtain ⟨ob, hob⟩ : ∃ ob, ob = decide (0 < l) := ⟨_, rfl⟩
    rw [← hob] at HC HR
    obtain ⟨a3, c3, rfl⟩ := hn3.len
    rw [← HLE.out] at HC HN3 ⊢
    clear hn3 hv3 hb3 hc hob
    refine Calls.mono HC.out ?_
    rintro e w4 ⟨rfl, hg4⟩
    have HG4 := Hid.mk' (HG3.out.trans hg4)
    have HN4 := Hid.mk' (HN3.out.grow hg4)
    clear hg4 HC HN3 HG3
    go_wp2_with fail
    refine Calls.mono (HR.out w4 HG4.out) ?_
    rintro e w5 ⟨rfl, hg5⟩
    have HG5 := Hid.mk' (HG4.out.trans hg5)
    have HN5 := Hid.mk' (HN4.out.grow hg5)
    have HK5 := Hid.mk' (HKW.out.grow HG5.out)
    clear hg5 HR HN4 HG4
    go_wp2
    go_loopw [14] (fun iv wr => ∃ i : Nat, i ≤ l ∧ iv = .int .i64 i ∧ Grow w5 wr) (fun iv _ => l - (intOf iv).toNat)
    case atStart => exact ⟨0, Nat.zero_le _, rfl, But.refl _ _⟩
    case round =>
      obtain ⟨i, hil, rfl, hG⟩ := hrel
      have HG := Hid.mk' hG
      by_cases hlt : i < l
      · have hlti : (i : Int) < (l : Int) := by omega
        have hiL : i < ks.length := by rw [← HLE.out]; exact hlt
        obtain ⟨b, off, cp, e1, -, hbl, hcell⟩ := HK5.out.at (by omega)
        rw [← HLE.out] at e1
        simp only [Value.slice.injEq] at e1
        obtain ⟨rfl, -, rfl⟩ := e1
        obtain ⟨b3, off3, cp3, e1, -, hbl3, hcell3⟩ := HN5.out.at (by omega)
        rw [← HLE.out] at e1
        simp only [Value.slice.injEq] at e1
        obtain ⟨rfl, -, rfl⟩ := e1
        obtain ⟨z, hz⟩ : ∃ z, z = ks.getD i 0 := ⟨_, rfl⟩
        have HC1 : Hid (∀ w', Grow w5 w' → w'.cell? ⟨b, off + i, none⟩ = some (.int .i64 z)) := fun w' k => by rw [hz]; exact grow_cell k (hcell i hiL)
        have HC2 : Hid (∀ w', Grow w5 w' → w'.cell? ⟨b3, off3 + i, none⟩ = some (.int .i64 z)) := fun w' k => by rw [hz]; exact grow_cell k (hcell3 i hiL)
        clear hcell hcell3 hz hG
        go_upto_region 10 with fail
        refine region_chain [] [0, 1, 2, 3, 4, 5, 6, 7, 8] (Grow wr) (Grow wr) (by kernel_rfl) (by kernel_rfl) (fun _ _ h k => h.trans k) (fun _ h => h) ((But.refl _ wr).drew) ?_
        intro ι hne X hX
        have d1 : ∀ x, (X x).cell? ⟨b, off + i, none⟩ = some (.int .i64 z) := fun x => HC1.out _ (HG.out.trans (hX x))
        have d2 : ∀ x, (X x).cell? ⟨b3, off3 + i, none⟩ = some (.int .i64 z) := fun x => HC2.out _ (HG.out.trans (hX x))
        iterate 9 (refine still_step rfl (fun K hK => ?_); go_simp; refine hK _ ?_; clear hK K)
        refine still_nil ?_
        clear hX hne d1 d2
        intro w6 hw6
        have HG6 := Hid.mk' (HG.out.trans hw6)
        clear hw6
        go_wp2
        exact ⟨⟨i + 1, by omega, by go_num, HG6.out⟩, by simp [intOf]; omega⟩
      · have hlti : ¬ ((i : Int) < (l : Int)) := by omega
        clear hG
        go_wp2_with fail
        refine Calls.mono (awake_any _) ?_
        rintro e w6 ⟨rfl, hg6⟩
        have HG6 := Hid.mk' (((HX.out.grow.trans HG5.out).trans HG.out).trans hg6)
        clear hg6
        go_wp2
        go_ret
        exact ⟨rfl, HG6.out.below (Nat.le_refl _) (fun _ _ h => h)⟩
  · have h3 : (300 : Int) < (l : Int) := by omega
    clear hv hl hk HL
    go_enter Try.func4, Try.ntmps4
    go_wp2_with fail
    refine Calls.mono (awake_any _) ?_
    rintro e w5 ⟨rfl, hg5⟩
    have HG5 := Hid.mk' hg5
    clear hg5
    go_wp2
    go_ret
    exact ⟨rfl, HG5.out.below (Nat.le_refl _) (fun _ _ h => h)⟩

set_option maxRecDepth 100000 in
theorem heatColdest_lifted (os : Os) (started : os.Started) (H : Type) (enc : TypeId × Value → H) :
    ReturnsInHanded {} Try.checked os 4 .any (Rows.heatColdestSpec.pre6 enc Try.prog Try.f4 Rows.heatColdestRow.domain false) (Rows.heatColdestSpec.post enc Try.prog Try.f4 false true false false) := by
  refine returnsInHanded_of_change_sized (C := Try.checked) (by kernel_rfl) started (by kernel_rfl) Try.func4
    (ChangeSpec.witness6 (enc := enc) (C := Try.checked) false ⟨#[], #[.int .i64 0, .slice none 0 0, .slice none 0 0], []⟩ 8 (by kernel_rfl) (by kernel_rfl) (by kernel_rfl) (by kernel_rfl)) ?_
  intro W base args ds gs before hval0 hW hcnd hsz0 _
  have hsz : (DataW.weightsEach Try.prog (Try.f4.params.toList ++ Rows.heatColdestSpec.plain.varTypes Try.prog) (ds ++ gs)).all (· ≤ reachBytes) = true := hsz0
  clear hsz0
  have hval : ∀ (j : Nat) t v, Try.f4.params[j]? = some t → args[j]? = some v → Value.okWide Try.prog W .any base t v := hval0
  have hW' := hW
  obtain ⟨p, q, hA0, hV, rfl, hfz, hnd⟩ := hW
  have hA : DataW.TrodAll enc Try.prog W 0 (fun _ => true) true Try.f4.params.toList args.toList ds p := hA0
  rw [Try.params4] at hA hval hsz
  obtain ⟨v0, vs0, d0, ds0, p0, q0, hargs, rfl, rfl, h0, r0⟩ := trodAll_cons hA
  obtain ⟨v1, vs1, d1, ds1, p1, q1, rfl, rfl, rfl, h1, r1⟩ := trodAll_cons r0
  obtain ⟨v2, vs2, d2, ds2, p2, q2, rfl, rfl, rfl, h2, r2⟩ := trodAll_cons r1
  obtain ⟨rfl, rfl, rfl⟩ := trodAll_nil r2
  obtain rfl : args = #[v0, v1, v2] := by cases args; simp_all
  obtain ⟨rfl, rfl⟩ := trodVars_none hV
  obtain ⟨a0, rfl, rfl, rfl, w0⟩ := open_int Try.underlying3 (hval 0 3 v0 rfl rfl) h0
  have lt1 : ∀ x ∈ p1, x.block < W.heap.size := by obtain ⟨m, hm⟩ := h1; exact DataW.trod_lt m _ _ _ hm
  obtain ⟨n1, z1, w1⟩ := view_hacts (hval 1 22 v1 rfl rfl) h1 lt1 hsz (j := 1) rfl rfl
  have lt2 : ∀ x ∈ p2, x.block < W.heap.size := by obtain ⟨m, hm⟩ := h2; exact DataW.trod_lt m _ _ _ hm
  obtain ⟨z2, w2⟩ := view_nums Try.underlying40 Try.underlying3 (by kernel_rfl) (by kernel_rfl) (hval 2 40 v2 rfl rfl) h2 lt2 hsz (j := 2) rfl rfl
  clear hA0 hval0
  refine (heatColdest_walk a0 v1 n1 z1 v2 z2 W w0 w1 w2).mono fun e W' ⟨he, bel⟩ => ?_
  subst he
  exact ⟨_, rfl, _, _, _, [], _, [], hW', trodAll_mk1 (shut_bool Try.underlying4 _), (trodAll_cons_mk (shut_int Try.underlying3 w0) (trodAll_cons_mk (Below.trod (by kernel_rfl) (by kernel_rfl) (of_decide_eq_true (by kernel_rfl)) h1 bel lt1) (trodAll_cons_mk (Below.trod (by kernel_rfl) (by kernel_rfl) (of_decide_eq_true (by kernel_rfl)) h2 bel lt2) trodAll_mk0))), rfl, bel.frame _, fun h => by cases h⟩

theorem heatColdest_holds : Rows.HeatColdestSaid :=
  OpenClaim.holds_of_wide 4 Try.f4 rfl rfl rfl rfl rfl rfl rfl ⟨rfl, rfl, rfl, rfl, rfl⟩ rfl rfl rfl rfl rfl (by kernel_rfl) Try.func4 (by kernel_rfl)
    (of_decide_eq_true (by kernel_rfl)) (by unfold Func.isWrapper; first | (rw [if_pos (by decide +kernel)]; kernel_rfl) | (rw [if_neg (by decide +kernel)]; exact ⟨rfl, rfl⟩))
    (fun os started H enc _ => heatColdest_lifted os started H enc)
#print axioms heatColdest_holds
end Go.Proofs.Ytmepjgdopfgdhaa
