/- MacDigests: the walk. -/
import Derived.Test.YtkelfjpnjhjmoaaDoorMacPadsP
import Derived.Test.YtkelfjpnjhjmoaaDoorRefMac
namespace Go.Proofs.YtkelfjpnjhjmoaaDoor
open Go.RowKit

set_option maxRecDepth 100000 in
set_option maxHeartbeats 4000000 in
theorem macDigests_walk (v0 : Value) (z0 : List Nat) (v1 : Value) (z1 : List (List Nat)) (w : World) (hk : Kw w) (hh : Hw w) (h0 : Bs w v0 z0 ∧ z0.length ≤ 140737488351232) (h1 : Ps w v1 z1 ∧ z1.length * 24 ≤ 140737488351232 ∧ ∀ x ∈ z1, x.length ≤ 140737488351232) :
    Calls Tryd.prog 3 #[v0, v1] w fun e w' => e = .returned (.bool true) ∧ Below w.heap.size w w' := by
  have HAW : Hid (∀ w2, But (fun _ => False) w w2 → Calls Tryd.prog 9 #[] w2 fun e w' => e = .returned (.bool true) ∧ But (fun _ => False) w2 w') := fun w2 q => awake_any (hk.but q (fun h => h)) (hh.but q (fun h => h))
  have HGR := Hid.mk' (great_any h0.1 h1.1 (by omega))
  have HV0 := Hid.mk' h0.1
  have HV1 := Hid.mk' h1.1
  have HL0 := Hid.mk' (lent_any h0.1 (by omega))
  have HN1 := Hid.mk' h1.2.1
  have HK := Hid.mk' hk
  have HH := Hid.mk' hh
  obtain ⟨a0, c0, rfl, -, -⟩ := h0.1.gen
  obtain ⟨a1, c1, rfl, -⟩ := h1.1.gen
  obtain ⟨m, hm⟩ : ∃ m, m = z0.length := ⟨_, rfl⟩
  obtain ⟨n, hn⟩ : ∃ n, n = z1.length := ⟨_, rfl⟩
  rw [← hm, ← hn] at HGR ⊢
  rw [← hm] at HV0 HL0
  rw [← hn] at HV1 HN1
  have HM := Hid.mk' hm
  have HN := Hid.mk' hn
  clear hk hh h0 h1 hm hn
  go_enter Tryd.func3, Tryd.ntmps3
  go_wp2_with fail
  refine Calls.mono HGR.out ?_
  rintro e w2 ⟨b, rfl, hwe, hsm⟩
  have hwe2 := hwe.symm
  subst hwe2
  cases b with
  | true =>
    go_wp2_with fail
    refine Calls.mono (HAW.out _ (But.refl _ _)) ?_
    rintro e w4 ⟨rfl, hb4⟩
    go_wp2
    go_ret
    exact ⟨rfl, hb4.below (Nat.le_refl _) (fun _ _ h => h)⟩
  | false =>
    obtain ⟨hs0, hs1⟩ := hsm rfl
    clear hsm HGR
    go_wp2_with fail
    refine Calls.mono HL0.out ?_
    rintro e w1 ⟨g, rfl, hg, hown, hb1⟩
    have hx := hown.prefix (c' := z0.length + 3) (by omega)
    rw [← HM.out] at hx
    have q1 : But (fun _ => False) w w1 := But.of hb1
    have hof := mof_any hx (HV1.out.below q1) (HK.out.but q1 (fun h => h)) (HH.out.but q1 (fun h => h)) (by rw [← HM.out]; omega) (by omega) (by rw [← HN.out]; omega)
    have HDL := Hid.mk' (hmac_len z0 z1.flatten)
    have HRF : Hid (∀ (w2 : World) (vj : Value), But (fun _ => False) w w2 → Bs w2 vj z1.flatten → Calls Tryd.prog 12 #[.slice a0 m c0, vj] w2 fun e w' => e = .returned (.agg (u8s (hmac z0 z1.flatten)).toArray) ∧ But (fun _ => False) w2 w') :=
      fun w2 vj q hj => refMac_any (HV0.out.but q (fun _ _ _ h => h)) hj (by rw [← HM.out]; omega) (by omega)
    have HJN : Hid (∀ w2, But (fun _ => False) w w2 → Calls Tryd.prog 13 #[.slice a1 n c1] w2 fun e w' => ∃ v', e = .returned v' ∧ Ow w' w2.heap.size v' z1.flatten ∧ Below w2.heap.size w2 w') :=
      fun w2 q => join_any (HV1.out.below q) (by omega) (by rw [← HN.out]; have := HN1.out; omega)
    generalize hmac z0 z1.flatten = D at *
    obtain ⟨C, hC⟩ : ∃ C, C = (u8s D).toArray := ⟨_, rfl⟩
    rw [← hC] at hof HRF
    have HEQ : Hid (∀ w, (Op.equalIn 10000 27 (.agg C) (.agg C)).run Tryd.prog w = .ok true w) := by intro w; rw [hC]; exact equal_same D HDL.out w
    have HOF := Hid.mk' hof
    have HQ1 := Hid.mk' q1
    have HO1 := Hid.mk' hown
    clear hof q1 hx hown hb1 hC HL0
    go_wp2_with fail
    refine Calls.mono HOF.out ?_
    rintro e w3 ⟨rfl, hb3⟩
    have q3 := HQ1.out.trans hb3
    have HQ3 := Hid.mk' q3
    have HJ3 := Hid.mk' (HJN.out w3 q3)
    have HO3 := Hid.mk' (HO1.out.but hb3 (fun _ _ _ h => h))
    clear hb3 q3 HJN HOF
    go_wp2_with fail
    refine Calls.mono HJ3.out ?_
    rintro e w4 ⟨vj, rfl, hoj, hb4⟩
    have k4 : But (fun _ => False) w3 w4 := But.of hb4
    have q4 := HQ3.out.trans k4
    have HR4 := Hid.mk' (HRF.out w4 vj q4 hoj.bs)
    have HQ4 := Hid.mk' q4
    have HO4 := Hid.mk' (HO3.out.but k4 (fun _ _ _ h => h))
    clear k4 q4 hoj hb4 HRF HJ3
    go_wp2_with fail
    refine Calls.mono HR4.out ?_
    rintro e w5 ⟨rfl, hb5⟩
    have heq := HEQ.out w5
    have q5 := HQ4.out.trans hb5
    have HQ5 := Hid.mk' q5
    have hkp := kept_true (HV0.out.but q5 (fun _ _ _ h => h)) (by rw [← HM.out]; exact HO4.out.but hb5 (fun _ _ _ h => h))
    rw [← HM.out] at hkp
    have HKP := Hid.mk' hkp
    clear hb5 q5 hkp HR4
    go_wp2_with fail
    refine Calls.mono HKP.out ?_
    rintro e w6 ⟨rfl, d6, rfl⟩
    go_wp2_with fail
    refine Calls.mono (HAW.out _ HQ5.out.drewN) ?_
    rintro e w7 ⟨rfl, hb7⟩
    go_wp2
    go_ret
    exact ⟨rfl, (HQ5.out.drewN.trans hb7).below (Nat.le_refl _) (fun _ _ h => h)⟩
end Go.Proofs.YtkelfjpnjhjmoaaDoor
