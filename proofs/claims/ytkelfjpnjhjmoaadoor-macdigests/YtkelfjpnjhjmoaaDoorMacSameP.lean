/- MacSame: the walk. -/
import Derived.Test.YtkelfjpnjhjmoaaDoorMacAwake
namespace Go.Proofs.YtkelfjpnjhjmoaaDoor
open Go.RowKit

theorem Bs.drewN {w : World} {v : Value} {xs : List Nat} (h : Bs w v xs) (d : Nat) : Bs (w.drewN d) v xs := h
theorem Below.drewN' {B : Nat} {w w' : World} (h : Below B w w') (d : Nat) : Below B w (w'.drewN d) := ⟨h.os, h.tape, h.output, h.size, h.block⟩

set_option maxRecDepth 100000 in
set_option maxHeartbeats 4000000 in
theorem macSame_walk (v0 : Value) (z0 : List Nat) (v1 : Value) (z1 : List Nat) (w : World) (hk : Kw w) (hh : Hw w) (h0 : Bs w v0 z0 ∧ z0.length ≤ 140737488351232) (h1 : Bs w v1 z1 ∧ z1.length ≤ 140737488351232) :
    Calls Tryd.prog 5 #[v0, v1] w fun e w' => e = .returned (.bool true) ∧ Below w.heap.size w w' := by
  have HL0 := Hid.mk' (lent_any h0.1 (by omega))
  have HV0 := Hid.mk' h0.1
  have HV1 := Hid.mk' h1.1
  have HN1 := Hid.mk' h1.2
  have HK := Hid.mk' hk
  have HH := Hid.mk' hh
  clear hk hh h0 h1
  go_enter Tryd.func5, Tryd.ntmps5
  go_wp2_with fail
  refine Calls.mono HL0.out ?_
  rintro e w1 ⟨g0, rfl, hg0, ho0, hb0⟩
  have HL1 := Hid.mk' (lent_any (HV1.out.below hb0) (by have := HN1.out; omega))
  have HO0 := Hid.mk' ho0
  have HB0 := Hid.mk' hb0
  clear ho0 hb0 HL0
  go_wp2_with fail
  refine Calls.mono HL1.out ?_
  rintro e w2 ⟨g1, rfl, hg1, ho1, hb1⟩
  have ho0' := HO0.out.but (But.of (R := fun _ => False) hb1) (fun _ _ _ h => h)
  have hx := ho0'.prefix (c' := z0.length + 3) (by omega)
  have hy := ho1.prefix (c' := z1.length + 3) (by omega)
  have q2 : But (fun _ => False) w w2 := (But.of HB0.out).trans (But.of hb1)
  have hv0 := HV0.out.but q2 (fun _ _ _ h => h)
  have hv1 := HV1.out.but q2 (fun _ _ _ h => h)
  have HS1 := Hid.mk' (msame_any hx hy)
  have HS2 : Hid (∀ d, Calls Tryd.prog 19 #[v0, v1] (w2.drewN d) fun e w' => e = .returned (.bool (decide (z0 = z1))) ∧ ∃ d', w' = (w2.drewN d).drewN d') := fun d => same_any (hv0.drewN d) (hv1.drewN d)
  have HS3 : Hid (∀ d, Calls Tryd.prog 18 #[.slice (some ⟨g0, 0, none⟩) z0.length (z0.length + 3), .slice (some ⟨g0, 0, none⟩) z0.length (z0.length + 3)] (w2.drewN d) fun e w' => e = .returned (.bool true) ∧ ∃ d', w' = (w2.drewN d).drewN d') := fun d => (msame_any (hx.drewN d) (hx.drewN d)).mono (fun e w' h => by simpa using h)
  have HK0 : Hid (∀ d, Calls Tryd.prog 14 #[.slice (some ⟨g0, 0, none⟩) z0.length (z0.length + 3), v0] (w2.drewN d) fun e w' => e = .returned (.bool true) ∧ ∃ d', w' = (w2.drewN d).drewN d') := fun d => kept_true (hv0.drewN d) (ho0'.but ((But.refl (fun _ => False) w2).drewN (n := d)) (fun _ _ _ h => h))
  have HK1 : Hid (∀ d, Calls Tryd.prog 14 #[.slice (some ⟨g1, 0, none⟩) z1.length (z1.length + 3), v1] (w2.drewN d) fun e w' => e = .returned (.bool true) ∧ ∃ d', w' = (w2.drewN d).drewN d') := fun d => kept_true (hv1.drewN d) (ho1.but ((But.refl (fun _ => False) w2).drewN (n := d)) (fun _ _ _ h => h))
  have HAW : Hid (∀ d, Calls Tryd.prog 9 #[] (w2.drewN d) fun e w' => e = .returned (.bool true) ∧ But (fun _ => False) (w2.drewN d) w') := fun d => awake_any (HK.out.but (q2.drewN (n := d)) (fun h => h)) (HH.out.but (q2.drewN (n := d)) (fun h => h))
  have HQ2 := Hid.mk' q2
  clear ho0' hx hy q2 hv0 hv1 ho1 hb1 HL1 HO0
  go_wp2_with fail
  refine Calls.mono HS1.out ?_
  rintro e w3 ⟨rfl, d3, rfl⟩
  go_wp2_with fail
  refine Calls.mono (HS2.out _) ?_
  rintro e w3 ⟨rfl, d4, rfl⟩
  go_wp2_with fail
  refine Calls.mono (HS3.out _) ?_
  rintro e w3 ⟨rfl, d5, rfl⟩
  go_wp2_with fail
  refine Calls.mono (HK0.out _) ?_
  rintro e w3 ⟨rfl, d6, rfl⟩
  go_wp2_with fail
  refine Calls.mono (HK1.out _) ?_
  rintro e w3 ⟨rfl, d7, rfl⟩
  go_wp2_with fail
  refine Calls.mono (HAW.out _) ?_
  rintro e w8 ⟨rfl, hb8⟩
  go_wp2
  go_ret
  refine ⟨rfl, ?_⟩
  exact (HQ2.out.drewN.trans hb8).below (Nat.le_refl _) (fun _ _ h => h)
end Go.Proofs.YtkelfjpnjhjmoaaDoor
