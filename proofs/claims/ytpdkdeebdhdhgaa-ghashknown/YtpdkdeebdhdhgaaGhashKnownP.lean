/- What the document tells, and the sum of a key that is none. No condition. -/
import Derived.Test.YtpdkdeebdhdhgaaGhashAwake
namespace Go.Proofs.Ytpdkdeebdhdhgaa
open Go.ChangeShapes Go.WideShapes Go.ChangeAt Go.RowKit

theorem knownH_lit : (u8s (nts knownH)).toArray = #[.int .u8 102, .int .u8 233, .int .u8 75, .int .u8 212, .int .u8 239, .int .u8 138, .int .u8 44, .int .u8 59, .int .u8 136, .int .u8 76, .int .u8 250, .int .u8 89, .int .u8 202, .int .u8 52, .int .u8 43, .int .u8 46] := by kernel_rfl
theorem knownT_lit : (u8s knownT).toArray = #[.int .u8 3, .int .u8 136, .int .u8 218, .int .u8 206, .int .u8 96, .int .u8 182, .int .u8 163, .int .u8 146, .int .u8 243, .int .u8 40, .int .u8 194, .int .u8 185, .int .u8 113, .int .u8 178, .int .u8 254, .int .u8 120] := by kernel_rfl
theorem gzero_lit : (u8s (nts gzero)).toArray = #[.int .u8 0, .int .u8 0, .int .u8 0, .int .u8 0, .int .u8 0, .int .u8 0, .int .u8 0, .int .u8 0, .int .u8 0, .int .u8 0, .int .u8 0, .int .u8 0, .int .u8 0, .int .u8 0, .int .u8 0, .int .u8 0] := by kernel_rfl
theorem zeros_lit : (u8s (List.replicate 16 0)).toArray = #[.int .u8 0, .int .u8 0, .int .u8 0, .int .u8 0, .int .u8 0, .int .u8 0, .int .u8 0, .int .u8 0, .int .u8 0, .int .u8 0, .int .u8 0, .int .u8 0, .int .u8 0, .int .u8 0, .int .u8 0, .int .u8 0] := by kernel_rfl
theorem lits_bs (w : World) (L : List Nat) (C : Array Value) (hC : (u8s L).toArray = C) (h0 : 0 < L.length) (hs : L.length ≤ 1000) (hl : ∀ z ∈ L, z < 256) : Bs (w.alloc (.cells C 5)) (.slice (some ⟨w.heap.size, 0, none⟩) L.length L.length) L := by
  subst hC
  refine ⟨hl, by omega, .inr ⟨h0, w.heap.size, 0, L.length, rfl, Nat.le_refl _, by simp, fun i hi => ?_⟩⟩
  rw [cell_of_row _ _ _ _ _ _ (heap_alloc_new _ _), Nat.zero_add, List.getElem?_toArray, u8s_get L i hi]
set_option maxRecDepth 100000 in
set_option maxHeartbeats 4000000 in
theorem ghashKnown_walk (w : World) :
    Calls Try.prog 8 #[] w fun e w' => e = .returned (.bool true) ∧ Below w.heap.size w w' := by
  have HN1 := Hid.mk' (pnew_any (w := w) (h := knownH) rfl)
  rw [knownH_lit] at HN1
  go_enter Try.func8, Try.ntmps8
  go_wp2_with fail
  refine Calls.mono HN1.out ?_
  rintro e w1 ⟨gk, rfl, hky, -, hb1⟩
  obtain ⟨TC, hTC⟩ : ∃ TC, TC = (u8s knownT).toArray := ⟨_, rfl⟩
  have hb2 : But (fun _ => False) w1 (w1.alloc (.cells #[.int .u8 3, .int .u8 136, .int .u8 218, .int .u8 206, .int .u8 96, .int .u8 182, .int .u8 163, .int .u8 146, .int .u8 243, .int .u8 40, .int .u8 194, .int .u8 185, .int .u8 113, .int .u8 178, .int .u8 254, .int .u8 120] 5)) := (But.refl _ w1).alloc _
  have HS1 := Hid.mk' (psum_any (hky.but hb2 (fun h => h)) (Bs.nil _) (lits_bs w1 knownT _ knownT_lit (by decide) (by decide) (by decide)) (by decide) (by decide))
  rw [known_sum, show knownT.length = 16 from rfl] at HS1
  have HKY := Hid.mk' hky
  have HT1 := Hid.mk' hb1
  have HT2 := Hid.mk' (hb1.trans hb2)
  have HK2 := Hid.mk' (hky.but hb2 (fun h => h))
  clear hky hb1 hb2 hTC HN1
  go_wp2_with fail
  refine Calls.mono HS1.out ?_
  rintro e w3 ⟨rfl, hb3⟩
  have HT3 := Hid.mk' (HT2.out.trans hb3)
  have HK3 := Hid.mk' (HK2.out.but hb3 (fun h => h))
  have hz := zeroG
  obtain ⟨Z, hZ⟩ : ∃ Z, Z = (u8s (List.replicate 16 0)).toArray := ⟨_, rfl⟩
  rw [← hZ] at hz
  have HZE := Hid.mk' hZ
  have HZB : Hid (Blk (w3.alloc (.cells Z 22)) w3.heap.size 22 (u8s (List.replicate 16 0))) := by show Blk _ _ _ _; rw [hZ]; exact Blk.new rfl
  have HSN : Hid ((nts knownS).length = 16) := by show _ = _; rw [nts_len]; rfl
  clear hb3 hZ HT2 HK2 HS1
  go_upto_region 4 with (refine wpList_store_u8s i16g rfl _ _ rfl w3.heap.size (nts knownS) HSN.out rfl (by exact rfl) _ (by simp [u8s]) HZB.out ?_; intro w4 hb4 hbut4)
  obtain ⟨gs, hgs⟩ : ∃ gs, gs = w3.heap.size := ⟨_, rfl⟩
  rw [← hgs] at hb4 hbut4 ⊢
  have hx : But (· = gs) w3 w4 := ((But.refl (· = gs) w3).alloc _).trans hbut4
  have HK4 := Hid.mk' (HK3.out.but hx (show ¬ (gk = gs) by have := HK3.out.lt; omega))
  have HT4 := Hid.mk' (HT3.out.then hx (fun i hi e => by have := HT3.out.size; omega))
  have c0 : w4.cell? ⟨gs, 0, none⟩ = some (.int .u8 243) := (blk_nts hb4 0 (by decide)).trans rfl
  have c1 : w4.cell? ⟨gs, 1, none⟩ = some (.int .u8 140) := (blk_nts hb4 1 (by decide)).trans rfl
  have c15 : w4.cell? ⟨gs, 15, none⟩ = some (.int .u8 133) := (blk_nts hb4 15 (by decide)).trans rfl
  have HEZ : Hid (∀ w', (Op.equalIn 10000 22 (.agg Z) (.agg Z)).run Try.prog w' = .ok true w') := by
    intro w'
    rw [HZE.out]
    have h := equal16 gzero gzero gzero_len gzero_len w'
    rw [gzero_lit, ← zeros_lit] at h
    rw [h]; simp
  generalize (u8s (nts knownS)).toArray = SV
  clear hgs hb4 hbut4 hx HT3 HK3 HZB
  go_wp2_with fail
  refine Calls.mono psum_nil ?_
  rintro e w5 ⟨rfl, hb5⟩
  rw [← HZE.out]
  have HB5 := Hid.mk' hb5
  have e5 := HEZ.out w5
  have HT5 := Hid.mk' ((HT4.out.trans (((But.refl _ w4).alloc _).alloc _)).trans hb5)
  have HK5 := Hid.mk' (HK4.out.but ((((But.refl (fun _ => False) w4).alloc _).alloc _).trans hb5) (fun h => h))
  have HS2 := Hid.mk' (psum_any HK5.out (Bs.nil w5) (Bs.nil w5) (by decide) (by decide))
  rw [none_sum, gzero_lit, ← zeros_lit, ← HZE.out] at HS2
  clear hb5 HB5 HK4 HT4 c0 c1 c15
  go_wp2_with fail
  refine Calls.mono HS2.out ?_
  rintro e w6 ⟨rfl, hb6⟩
  have e6 := HEZ.out w6
  have HT6 := Hid.mk' (HT5.out.trans hb6)
  clear hb6 e5
  go_wp2_with fail
  refine Calls.mono (gawake_any _) ?_
  rintro e w7 ⟨rfl, hb7⟩
  have HT7 := Hid.mk' (HT6.out.trans hb7)
  clear hb7 e6
  go_wp2
  go_ret
  exact ⟨rfl, HT7.out.below (Nat.le_refl _) (fun _ _ h => h)⟩

set_option maxRecDepth 100000 in
theorem ghashKnown_lifted (os : Os) (started : os.Started) (H : Type) (enc : TypeId × Value → H) :
    ReturnsInHanded {} Try.checked os 8 .any (Rows.ghashKnownSpec.pre6 enc Try.prog Try.f8 Rows.ghashKnownRow.domain false) (Rows.ghashKnownSpec.post enc Try.prog Try.f8 false true false false) := by
  refine returnsInHanded_of_change (C := Try.checked) (by kernel_rfl) started (by kernel_rfl) Try.func8
    (ChangeSpec.witness6 (enc := enc) (C := Try.checked) false ⟨#[], #[], []⟩ 8 (by kernel_rfl) (by kernel_rfl) (by kernel_rfl) (by kernel_rfl)) ?_
  intro W base args ds gs before hval0 hW hcnd _
  have hval : ∀ (j : Nat) t v, Try.f8.params[j]? = some t → args[j]? = some v → Value.okWide Try.prog W .any base t v := hval0
  have hW' := hW
  obtain ⟨p, q, hA0, hV, rfl, hfz, hnd⟩ := hW
  have hA : DataW.TrodAll enc Try.prog W 0 (fun _ => true) true Try.f8.params.toList args.toList ds p := hA0
  rw [Try.params8] at hA hval
  obtain ⟨hargs, rfl, rfl⟩ := trodAll_nil hA
  obtain rfl : args = #[] := by cases args; simp_all
  obtain ⟨rfl, rfl⟩ := trodVars_none hV
  clear hA0 hval0
  refine (ghashKnown_walk  W ).mono fun e W' ⟨he, bel⟩ => ?_
  subst he
  exact ⟨_, rfl, _, _, _, [], _, [], hW', trodAll_mk1 (shut_bool Try.underlying4 _), trodAll_mk0, rfl, bel.frame _, fun h => by cases h⟩

theorem ghashKnown_holds : Rows.GhashKnownSaid :=
  OpenClaim.holds_of_wide 8 Try.f8 rfl rfl rfl rfl rfl rfl rfl ⟨rfl, rfl, rfl, rfl, rfl⟩ rfl rfl rfl rfl rfl (by kernel_rfl) Try.func8 (by kernel_rfl)
    (of_decide_eq_true (by kernel_rfl)) (by unfold Func.isWrapper; first | (rw [if_pos (by decide +kernel)]; kernel_rfl) | (rw [if_neg (by decide +kernel)]; exact ⟨rfl, rfl⟩))
    (fun os started H enc _ => ghashKnown_lifted os started H enc)
#print axioms ghashKnown_holds
end Go.Proofs.Ytpdkdeebdhdhgaa
