/- ShaDigests: the walk. -/
import Derived.Test.YtmilmaljahjgeaaDoorShaRefOf
import Derived.Test.YtmilmaljahjgeaaDoorShaEq
import Derived.Test.YtmilmaljahjgeaaDoorShaAwake
namespace Go.Proofs.YtmilmaljahjgeaaDoor
open Go.RowKit

theorem Bs.drewN {w : World} {v : Value} {xs : List Nat} (h : Bs w v xs) (d : Nat) : Bs (w.drewN d) v xs := h

set_option maxRecDepth 100000 in
set_option maxHeartbeats 4000000 in
theorem shaDigests_walk (v0 : Value) (z0 : List Nat) (w : World) (hk : Kw w) (hh : Hw w) (h0 : Bs w v0 z0 ∧ z0.length ≤ 140737488351232) :
    Calls Tryd.prog 3 #[v0] w fun e w' => e = .returned (.bool true) ∧ Below w.heap.size w w' := by
  have HAW : Hid (∀ w2, But (fun _ => False) w w2 → Calls Tryd.prog 8 #[] w2 fun e w' => e = .returned (.bool true) ∧ But (fun _ => False) w2 w') := fun w2 q => awake_any (hk.but q (fun h => h)) (hh.but q (fun h => h))
  have HV0 := Hid.mk' h0.1
  have HL0 := Hid.mk' (lent_any h0.1 (by omega))
  have HK := Hid.mk' hk
  have HH := Hid.mk' hh
  obtain ⟨a0, c0, rfl, -, -⟩ := h0.1.gen
  obtain ⟨n, hn⟩ : ∃ n, n = z0.length := ⟨_, rfl⟩
  rw [← hn] at HV0 HL0 ⊢
  have HN := Hid.mk' hn
  clear hk hh h0 hn
  by_cases hbig : 20000 < n
  · have hbi : (20000 : Int) < (n : Int) := by omega
    go_enter Tryd.func3, Tryd.ntmps3
    go_wp2_with fail
    refine Calls.mono (HAW.out _ (But.refl _ _)) ?_
    rintro e w4 ⟨rfl, hb4⟩
    go_wp2
    go_ret
    exact ⟨rfl, hb4.below (Nat.le_refl _) (fun _ _ h => h)⟩
  · have hbi : ¬ (20000 : Int) < (n : Int) := by omega
    go_enter Tryd.func3, Tryd.ntmps3
    go_wp2_with fail
    refine Calls.mono HL0.out ?_
    rintro e w1 ⟨g, rfl, hg, hown, hb1⟩
    have HO1 := Hid.mk' hown
    have hx := hown.prefix (c' := z0.length + 3) (by omega)
    rw [← HN.out] at hx
    have q1 : But (fun _ => False) w w1 := But.of hb1
    have b2 : But (fun _ => False) w1 (w1.alloc (.cells #[.slice (some ⟨g, 0, none⟩) n (n + 3)] 22)) := (But.refl _ w1).alloc _
    have q2 := q1.trans b2
    have hof := of_any (Ps.one hx) (HK.out.but q2 (fun h => h)) (HH.out.but q2 (fun h => h)) (by simp [← HN.out]; omega) (by simp)
    rw [show [z0].flatten = z0 by simp] at hof
    have HDL := Hid.mk' (digest_len z0)
    have HRF : Hid (∀ w2, But (fun _ => False) w w2 → Calls Tryd.prog 11 #[.slice a0 n c0] w2 fun e w' => e = .returned (.agg (u8s (digest z0)).toArray) ∧ But (fun _ => False) w2 w') := fun w2 q => refOf_any (HV0.out.but q (fun _ _ _ h => h)) (by rw [← HN.out]; omega)
    generalize digest z0 = D at *
    obtain ⟨C, hC⟩ : ∃ C, C = (u8s D).toArray := ⟨_, rfl⟩
    rw [← hC] at hof HRF
    have HEQ : Hid (∀ w, (Op.equalIn 10000 25 (.agg C) (.agg C)).run Tryd.prog w = .ok true w) := by intro w; rw [hC]; exact equal_same D HDL.out w
    have HOF := Hid.mk' hof
    have HQ2 := Hid.mk' q2
    have HB2 := Hid.mk' b2
    clear hof q2 b2 hx hown hb1 hC q1 HL0
    go_wp2_with fail
    refine Calls.mono HOF.out ?_
    rintro e w3 ⟨rfl, hb3⟩
    have q3 := HQ2.out.trans hb3
    have HQ3 := Hid.mk' q3
    have HR3 := Hid.mk' (HRF.out w3 q3)
    have HO3 := Hid.mk' (HO1.out.but (HB2.out.trans hb3) (fun _ _ _ h => h))
    clear hb3 q3 HRF
    go_wp2_with fail
    refine Calls.mono HR3.out ?_
    rintro e w4 ⟨rfl, hb4⟩
    have heq := HEQ.out w4
    have q4 := HQ3.out.trans hb4
    have HQ4 := Hid.mk' q4
    have hkp := kept_true (HV0.out.but q4 (fun _ _ _ h => h)) (by rw [← HN.out]; exact HO3.out.but hb4 (fun _ _ _ h => h))
    rw [← HN.out] at hkp
    have HKP := Hid.mk' hkp
    clear hb4 q4 hkp HR3
    go_wp2_with fail
    refine Calls.mono HKP.out ?_
    rintro e w5 ⟨rfl, d5, rfl⟩
    go_wp2_with fail
    refine Calls.mono (HAW.out _ HQ4.out.drewN) ?_
    rintro e w6 ⟨rfl, hb6⟩
    go_wp2
    go_ret
    exact ⟨rfl, (HQ4.out.drewN.trans hb6).below (Nat.le_refl _) (fun _ _ h => h)⟩
end Go.Proofs.YtmilmaljahjgeaaDoor
