/- ShaParts: the walk. -/
import Derived.Test.YtmilmaljahjgeaaDoorShaGreat
namespace Go.Proofs.YtmilmaljahjgeaaDoor
open Go.RowKit

set_option maxRecDepth 100000 in
set_option maxHeartbeats 4000000 in
theorem shaParts_walk (v1 : Value) (z1 : List (List Nat)) (w : World) (hk : Kw w) (hh : Hw w) (h1 : Ps w v1 z1 ∧ z1.length * 24 ≤ 140737488351232 ∧ ∀ x ∈ z1, x.length ≤ 140737488351232) :
    Calls Tryd.prog 4 #[v1] w fun e w' => e = .returned (.bool true) ∧ Below w.heap.size w w' := by
  have HAW : Hid (∀ w2, But (fun _ => False) w w2 → Calls Tryd.prog 8 #[] w2 fun e w' => e = .returned (.bool true) ∧ But (fun _ => False) w2 w') := fun w2 q => awake_any (hk.but q (fun h => h)) (hh.but q (fun h => h))
  have HGR := Hid.mk' (great_any h1.1 (by omega))
  have HV1 := Hid.mk' h1.1
  have HN1 := Hid.mk' h1.2.1
  have HK := Hid.mk' hk
  have HH := Hid.mk' hh
  obtain ⟨a1, c1, rfl, -⟩ := h1.1.gen
  obtain ⟨n, hn⟩ : ∃ n, n = z1.length := ⟨_, rfl⟩
  rw [← hn] at HGR ⊢
  rw [← hn] at HV1 HN1
  have HN := Hid.mk' hn
  clear hk hh h1 hn
  go_enter Tryd.func4, Tryd.ntmps4
  go_wp2_with fail
  refine Calls.mono HGR.out ?_
  rintro e w2 ⟨b, rfl, hwe, hsm⟩
  have hwe2 := hwe.symm
  subst hwe2
  cases b with
  | true =>
    go_wp2_with fail
    refine Calls.mono (HAW.out _ (But.refl _ _)) ?_
    rintro e w4 ⟨rfl, hb4⟩
    go_wp2
    go_ret
    exact ⟨rfl, hb4.below (Nat.le_refl _) (fun _ _ h => h)⟩
  | false =>
    have hs1 := hsm rfl
    clear hsm HGR
    go_wp2_with fail
    refine Calls.mono (join_any HV1.out (by omega) (by rw [← HN.out]; have := HN1.out; omega)) ?_
    rintro e w1 ⟨vj, rfl, hoj, hb1⟩
    have q1 : But (fun _ => False) w w1 := But.of hb1
    have hfl : z1.flatten.length ≤ 20000 := by omega
    have HFL := Hid.mk' hfl
    have HDL := Hid.mk' (digest_len z1.flatten)
    have HOF : Hid (∀ w2, But (fun _ => False) w w2 → Calls Tryd.prog 10 #[.slice a1 n c1] w2 fun e w' => e = .returned (.agg (u8s (digest z1.flatten)).toArray) ∧ But (fun _ => False) w2 w') :=
      fun w2 q => of_any (HV1.out.below q) (HK.out.but q (fun h => h)) (HH.out.but q (fun h => h)) (by omega) (by rw [← HN.out]; have := HN1.out; omega)
    have HRF : Hid (∀ w2, But (fun _ => False) w1 w2 → Calls Tryd.prog 11 #[vj] w2 fun e w' => e = .returned (.agg (u8s (digest z1.flatten)).toArray) ∧ But (fun _ => False) w2 w') :=
      fun w2 q => refOf_any (hoj.bs.but q (fun _ _ _ h => h)) (by omega)
    have HOJ : Hid (∀ w2, But (fun _ => False) w1 w2 → Calls Tryd.prog 10 #[.slice (some ⟨w2.heap.size, 0, none⟩) 1 1] (w2.alloc (.cells #[vj] 22)) fun e w' => e = .returned (.agg (u8s (digest z1.flatten)).toArray) ∧ But (fun _ => False) w2 w') := by
      intro w2 q
      have b2 : But (fun _ => False) w2 (w2.alloc (.cells #[vj] 22)) := (But.refl _ w2).alloc _
      have q2 := (q1.trans q).trans b2
      have h := of_any (Ps.one (hoj.bs.but q (fun _ _ _ h => h))) (HK.out.but q2 (fun h => h)) (HH.out.but q2 (fun h => h)) (by simp only [List.flatten_cons, List.flatten_nil, List.append_nil]; omega) (by simp)
      refine h.mono ?_
      rintro e w' ⟨rfl, hb'⟩
      exact ⟨by simp only [List.flatten_cons, List.flatten_nil, List.append_nil], b2.trans hb'⟩
    obtain ⟨aj, lj, cj, hvj⟩ : ∃ aj lj cj, vj = .slice aj lj cj := by
      obtain ⟨aj, cj, e, _⟩ := hoj.bs.gen; exact ⟨_, _, _, e⟩
    subst hvj
    generalize digest z1.flatten = D at *
    obtain ⟨C, hC⟩ : ∃ C, C = (u8s D).toArray := ⟨_, rfl⟩
    rw [← hC] at HOF HRF HOJ
    have HEQ : Hid (∀ w, (Op.equalIn 10000 25 (.agg C) (.agg C)).run Tryd.prog w = .ok true w) := by intro w; rw [hC]; exact equal_same D HDL.out w
    have HQ1 := Hid.mk' q1
    clear q1 hb1 hoj hC hfl hs1
    go_wp2_with fail
    refine Calls.mono (HOF.out w1 HQ1.out) ?_
    rintro e w3 ⟨rfl, hb3⟩
    have HB3 := Hid.mk' hb3
    have HR3 := Hid.mk' (HRF.out w3 hb3)
    clear hb3 HRF
    go_wp2_with fail
    refine Calls.mono HR3.out ?_
    rintro e w4 ⟨rfl, hb4⟩
    have heq := HEQ.out w4
    have HB4 := Hid.mk' (HB3.out.trans hb4)
    have HJ4 := Hid.mk' (HOJ.out w4 (HB3.out.trans hb4))
    clear hb4 HR3 HOJ
    go_wp2_with fail
    refine Calls.mono HJ4.out ?_
    rintro e w5 ⟨rfl, hb5⟩
    have HQ5 := Hid.mk' (HQ1.out.trans (HB4.out.trans hb5))
    have HO5 := Hid.mk' (HOF.out w5 HQ5.out)
    clear hb5 HJ4 HOF heq
    go_wp2_with fail
    refine Calls.mono HO5.out ?_
    rintro e w6 ⟨rfl, hb6⟩
    have heq := HEQ.out w6
    have HQ6 := Hid.mk' (HQ5.out.trans hb6)
    clear hb6 HO5
    go_wp2_with fail
    refine Calls.mono (HAW.out _ HQ6.out) ?_
    rintro e w7 ⟨rfl, hb7⟩
    go_wp2
    go_ret
    exact ⟨rfl, (HQ6.out.trans hb7).below (Nat.le_refl _) (fun _ _ h => h)⟩
end Go.Proofs.YtmilmaljahjgeaaDoor
