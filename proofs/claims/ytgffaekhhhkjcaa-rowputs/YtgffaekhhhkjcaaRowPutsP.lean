/- Any number is put as the document says, or refused; what it is put behind stays. No condition. -/
import Derived.Test.YtgffaekhhhkjcaaRowRefPut
import Derived.ProofKit
import Derived.OpenShut
import Derived.ChangeOld
namespace Go.Proofs.Ytgffaekhhhkjcaa
open Go.ChangeShapes Go.WideShapes Go.ChangeAt Go.RowKit

theorem wf_u64' {a : Int} (h : (Lit.int .u64 a).wf = true) : ∃ n : Nat, a = n ∧ n < 18446744073709551616 := by
  have h8 : IntKind.u64.min ≤ a ∧ a ≤ IntKind.u64.max := by simpa [Lit.wf, go_sem] using h
  have e1 : IntKind.u64.min = 0 := rfl
  have e2 : IntKind.u64.max = 18446744073709551615 := rfl
  exact ⟨a.toNat, by omega, by omega⟩

theorem rowPuts_bad (v : Value) (xs : List Nat) (n s : Int) (w : World) (hv : Bs w v xs) (hl : xs.length ≤ 140737488351232)
    (HP : Hid (∀ u (w : World), Calls Try.prog 10 #[u, .int .u64 n, .int .i64 s] w fun e w' => e = .returned (.tuple #[.slice none 0 0, .int .i64 1]) ∧ w' = w))
    (HQ : Hid (∀ w : World, Bs w v xs → Calls Try.prog 11 #[v, .int .u64 n, .int .i64 s] w fun e w' => e = .returned (.tuple #[.slice none 0 0, .int .i64 1]) ∧ Below w.heap.size w w')) :
    Calls Try.prog 3 #[v, .int .u64 n, .int .i64 s] w fun e w' => e = .returned (.bool true) ∧ Below w.heap.size w w' := by
  have HV : Hid (Bs w v xs) := hv
  obtain ⟨ao, cap, rfl, _, _⟩ := hv.gen
  clear hv
  go_enter Try.func3, Try.ntmps3
  go_wp2_with fail
  refine Calls.mono (lent_any HV.out (by omega)) ?_
  rintro e w1 ⟨g, rfl, hg, hown, hb1⟩
  have HV1 : Hid (Bs w1 (.slice ao xs.length cap) xs) := HV.out.below hb1
  have HO1 : Hid (Ow w1 w.heap.size (.slice (some ⟨g, 0, none⟩) (xs.length + 3) (xs.length + 3)) (xs ++ [201, 202, 203])) := hown
  have hs1 := hb1.size
  clear hown
  go_wp2_with fail
  refine Calls.mono (HP.out _ w1) ?_
  rintro e w2 ⟨rfl, hw⟩
  have hw' := hw.symm
  subst hw'
  go_wp2_with fail
  refine Calls.mono (HQ.out _ HV1.out) ?_
  rintro e w2 ⟨rfl, hb2⟩
  have hs2 := hb2.size
  have HV2 : Hid (Bs w2 (.slice ao xs.length cap) xs) := HV1.out.below hb2
  have HO2 : Hid (Ow w2 w.heap.size (.slice (some ⟨g, 0, none⟩) (xs.length + 3) (xs.length + 3)) (xs ++ [201, 202, 203])) := HO1.out.but (R := fun _ => False) (But.of hb2) (fun _ _ _ h => h)
  have HS : Hid (Calls Try.prog 12 #[.slice none 0 0, .slice none 0 0] w2 fun e w' => e = .returned (.bool true) ∧ w' = w2) := same_none _ _ _ _ w2
  have HK : Hid (∀ d, Calls Try.prog 13 #[.slice (some ⟨g, 0, none⟩) xs.length (xs.length + 3), .slice ao xs.length cap] (w2.drewN d) fun e w' => e = .returned (.bool true) ∧ ∃ d', w' = w2.drewN d') := fun d =>
    (kept_true (HV2.out.drewN d) (HO2.out.but (R := fun _ => False) (But.of (below_drewN (Below.refl _ _) d)) (fun _ _ _ h => h))).mono fun e w' h => ⟨h.1, let ⟨d', e'⟩ := h.2; ⟨_, e'.trans (World.drewN_drewN _ _ _)⟩⟩
  have HB : Hid (Below w.heap.size w w2) := hb1.trans (hb2.mono hs1)
  clear hb1 hb2
  go_wp2_with fail
  refine Calls.mono HS.out ?_
  rintro e w3 ⟨rfl, hw⟩
  have hw' := hw.symm
  subst hw'
  go_wp2_with fail
  refine Calls.mono (HK.out 0) ?_
  rintro e w3 ⟨rfl, d, rfl⟩
  go_wp2_with fail
  refine Calls.mono (HK.out d) ?_
  rintro e w3 ⟨rfl, d', rfl⟩
  have hB3 : Below w.heap.size w (w2.drewN d') := below_drewN HB.out d'
  go_wp2_with fail
  refine Calls.mono (awake_any _) ?_
  rintro e w4 ⟨rfl, hb4⟩
  go_wp2
  go_ret
  exact ⟨rfl, hB3.trans (hb4.mono hB3.size)⟩

set_option maxHeartbeats 1000000 in
theorem rowPuts_good (v : Value) (xs : List Nat) (Z : List Nat) (n s : Int) (l : Nat) (w : World) (hv : Bs w v xs) (hl : xs.length ≤ 140737488351232) (hzl : Z.length = l) (hl1 : 0 < l)
    (HP : Hid (∀ u (w : World), Bs w u xs → Calls Try.prog 10 #[u, .int .u64 n, .int .i64 s] w fun e w' => ∃ v', e = .returned (.tuple #[v', .int .i64 0]) ∧ Ow w' w.heap.size v' Z ∧ Below w.heap.size w w'))
    (HQ : Hid (∀ w : World, Bs w v xs → Calls Try.prog 11 #[v, .int .u64 n, .int .i64 s] w fun e w' => ∃ v', e = .returned (.tuple #[v', .int .i64 0]) ∧ Bs w' v' Z ∧ Below w.heap.size w w')) :
    Calls Try.prog 3 #[v, .int .u64 n, .int .i64 s] w fun e w' => e = .returned (.bool true) ∧ Below w.heap.size w w' := by
  have HV : Hid (Bs w v xs) := hv
  obtain ⟨ao, cap, rfl, _, _⟩ := hv.gen
  have hvlt : ∀ k, (Value.slice ao xs.length cap).ownBlock = some k → 0 < xs.length → k < w.heap.size := by
    intro k e h0
    obtain ⟨_, _, ⟨h, _⟩ | ⟨_, b, off, c, e', _, hb, _⟩⟩ := hv
    · rw [h] at h0; exact absurd h0 (by simp)
    · rw [e'] at e
      have : some b = some k := e
      cases this; exact hb
  clear hv
  go_enter Try.func3, Try.ntmps3
  go_wp2_with fail
  refine Calls.mono (lent_any HV.out (by omega)) ?_
  rintro e w1 ⟨g, rfl, hg, hown, hb1⟩
  have HV1 : Hid (Bs w1 (.slice ao xs.length cap) xs) := HV.out.below hb1
  have HO1 : Hid (Ow w1 w.heap.size (.slice (some ⟨g, 0, none⟩) (xs.length + 3) (xs.length + 3)) (xs ++ [201, 202, 203])) := hown
  have HI1 : Hid (Bs w1 (.slice (some ⟨g, 0, none⟩) xs.length (xs.length + 3)) xs) := hown.prefix (by omega)
  have hs1 := hb1.size
  have hg1 : g < w1.heap.size := (hown.ge g rfl).2
  clear hown
  go_wp2_with fail
  refine Calls.mono (HP.out _ _ HI1.out) ?_
  rintro e w2 ⟨v2, rfl, hown2, hb2⟩
  have hs2 := hb2.size
  have HV2 : Hid (Bs w2 (.slice ao xs.length cap) xs) := HV1.out.below hb2
  rcases hown2.shape with ⟨_, h0⟩ | ⟨h, c, rfl, hc, hh1, hh2, hfz, hcell⟩
  · rw [h0] at hzl; simp at hzl; omega
  rw [hzl] at hcell hown2 ⊢
  have HO2 : Hid (Ow w2 w1.heap.size (.slice (some ⟨h, 0, none⟩) l c) Z) := hown2
  obtain ⟨z, hz⟩ : ∃ z, Z.getD 0 0 = z := ⟨_, rfl⟩
  have hz256 : z < 256 := by rw [← hz]; exact hown2.lt _ (getD_mem _ 0 (by omega))
  have hc2 : w2.cell? ⟨h, 0, none⟩ = some (.int .u8 (z : Nat)) := by rw [← hz]; exact hcell 0 (by omega)
  have hf2 := hfz 0
  clear hown2 hcell hz hfz
  go_wp2_with fail
  refine Calls.mono (HQ.out _ HV2.out) ?_
  rintro e w3 ⟨v3, rfl, hv3, hb3⟩
  have hs3 := hb3.size
  obtain ⟨ao3, cap3, rfl, _, _⟩ := hv3.gen
  rw [hzl] at hv3 ⊢
  have HS : Hid (Calls Try.prog 12 #[.slice (some ⟨h, 0, none⟩) l c, .slice ao3 l cap3] w3 fun e w' => e = .returned (.bool true) ∧ ∃ d, w' = w3.drewN d) := by
    have := same_any (HO2.out.bs.below hb3) hv3
    rw [decide_eq_true rfl] at this
    exact this
  have HV3 : Hid (Bs w3 (.slice ao xs.length cap) xs) := HV2.out.below hb3
  have HO3 : Hid (Ow w3 w.heap.size (.slice (some ⟨g, 0, none⟩) (xs.length + 3) (xs.length + 3)) (xs ++ [201, 202, 203])) := (HO1.out.but (R := fun _ => False) (But.of hb2) (fun _ _ _ h => h)).but (R := fun _ => False) (But.of hb3) (fun _ _ _ h => h)
  have hc3 : w3.cell? ⟨h, 0, none⟩ = some (.int .u8 (z : Nat)) := (hb3.cell (by exact hh2)).trans hc2
  have hf3 : w3.frozen? ⟨h, 0, none⟩ = false := (hb3.frozen (by exact hh2)).trans hf2
  have HB : Hid (Below w.heap.size w w3) := (hb1.trans (hb2.mono hs1)).trans (hb3.mono (by omega))
  have HK : Hid (∀ d, Calls Try.prog 13 #[.slice (some ⟨g, 0, none⟩) xs.length (xs.length + 3), .slice ao xs.length cap] (w3.drewN d) fun e w' => e = .returned (.bool true) ∧ ∃ d', w' = w3.drewN d') := fun d =>
    (kept_true (HV3.out.drewN d) (HO3.out.but (R := fun _ => False) (But.of (below_drewN (Below.refl _ _) d)) (fun _ _ _ h => h))).mono fun e w' h => ⟨h.1, let ⟨d', e'⟩ := h.2; ⟨_, e'.trans (World.drewN_drewN _ _ _)⟩⟩
  have HK2 : Hid (∀ d u, Calls Try.prog 13 #[.slice (some ⟨g, 0, none⟩) xs.length (xs.length + 3), .slice ao xs.length cap] ((w3.setCell ⟨h, 0, none⟩ u).drewN d) fun e w' => e = .returned (.bool true) ∧ Below w.heap.size w w') := by
    intro d u
    have hbut : But (· = h) w3 ((w3.setCell ⟨h, 0, none⟩ u).drewN d) := ((But.refl (· = h) w3).setCell (p := ⟨h, 0, none⟩) (fun _ => rfl) u).trans (But.of (below_drewN (Below.refl _ _) d))
    have hb4 : Below w.heap.size w ((w3.setCell ⟨h, 0, none⟩ u).drewN d) := HB.out.trans (hbut.below (by omega) (fun k hk e => by omega))
    refine (kept_true (base := w.heap.size) ?_ (HO3.out.but hbut (fun j e _ => ?_))).mono fun e w' h => ⟨h.1, let ⟨d', e'⟩ := h.2; by rw [e']; exact below_drewN hb4 d'⟩
    · by_cases h0 : 0 < xs.length
      · exact HV3.out.but hbut (fun j e _ => by have := hvlt j e h0; omega)
      · have := List.eq_nil_of_length_eq_zero (by omega : xs.length = 0)
        obtain ⟨p1, p2, p3⟩ := HV3.out
        refine ⟨p1, p2, .inl ?_⟩
        rcases p3 with p3 | p3
        · exact p3
        · omega
    · have : some g = some j := e
      cases this; omega
  clear hb1 hb2 hb3 hc2 hf2 hv3
  go_wp2_with fail
  refine Calls.mono HS.out ?_
  rintro e w4 ⟨rfl, d, rfl⟩
  go_wp2_with fail
  refine Calls.mono (HK.out d) ?_
  rintro e w4 ⟨rfl, d2, rfl⟩
  have hpos : (0 : Int) < (l : Int) := by omega
  go_wp2_with fail
  refine Calls.mono (HK2.out d2 _) ?_
  rintro e w4 ⟨rfl, hb4⟩
  go_wp2_with fail
  refine Calls.mono (awake_any _) ?_
  rintro e w5 ⟨rfl, hb5⟩
  go_wp2
  go_ret
  exact ⟨rfl, hb4.trans (hb5.mono hb4.size)⟩

theorem rowPuts_walk (v : Value) (xs : List Nat) (n s : Int) (w : World) (hv : Bs w v xs ∧ xs.length ≤ 140737488351232) (hn : (Lit.int .u64 n).wf = true) (_hs : (Lit.int .i64 s).wf = true) :
    Calls Try.prog 3 #[v, .int .u64 n, .int .i64 s] w fun e w' => e = .returned (.bool true) ∧ Below w.heap.size w w' := by
  by_cases h : 1 ≤ s ∧ s ≤ 8
  · obtain ⟨n, rfl, hn64⟩ := wf_u64' hn
    obtain ⟨s, rfl⟩ : ∃ k : Nat, s = k := ⟨s.toNat, by omega⟩
    by_cases hr : n / 256 ^ s = 0
    · refine rowPuts_good v xs (xs ++ be n s) n s (xs.length + s) w hv.1 hv.2 (by rw [List.length_append, be_len]) (by omega) (fun u w hu => put_ok hu (by have := hv.2; omega) n s (by omega) (by omega) hr) (fun w hw => ?_)
      refine (refPut_any hw hv.2 n s (by omega) (by omega) hn64).mono ?_
      rintro e w' ⟨v', f, rfl, hb, ⟨h0, _⟩ | ⟨_, rfl, hbs⟩⟩
      · exact absurd hr h0
      · exact ⟨_, rfl, hbs, hb⟩
    · refine rowPuts_bad v xs n s w hv.1 hv.2 (fun u w => put_room w n s (by omega) (by omega) hr) (fun w hw => ?_)
      refine (refPut_any hw hv.2 n s (by omega) (by omega) hn64).mono ?_
      rintro e w' ⟨v', f, rfl, hb, ⟨_, rfl, rfl⟩ | ⟨h0, _⟩⟩
      · exact ⟨rfl, hb⟩
      · exact absurd h0 hr
  · exact rowPuts_bad v xs n s w hv.1 hv.2 (fun u w => put_size w n s h) (fun w _ => (refPut_size w n s h).mono fun e w' he => ⟨he.1, he.2 ▸ Below.refl _ _⟩)

set_option maxRecDepth 100000 in
theorem rowPuts_lifted (os : Os) (started : os.Started) (H : Type) (enc : TypeId × Value → H) :
    ReturnsInHanded {} Try.checked os 3 .any (Rows.rowPutsSpec.pre6 enc Try.prog Try.f3 Rows.rowPutsRow.domain false) (Rows.rowPutsSpec.post enc Try.prog Try.f3 false true false false) := by
  refine returnsInHanded_of_change_sized (C := Try.checked) (by kernel_rfl) started (by kernel_rfl) Try.func3
    (ChangeSpec.witness6 (enc := enc) (C := Try.checked) false ⟨#[], #[.slice none 0 0, .int .u64 0, .int .i64 0], []⟩ 8 (by kernel_rfl) (by kernel_rfl) (by kernel_rfl) (by kernel_rfl)) ?_
  intro W base args ds gs before hval0 hW hcnd hsz0 _
  have hsz : (DataW.weightsEach Try.prog (Try.f3.params.toList ++ Rows.rowPutsSpec.plain.varTypes Try.prog) (ds ++ gs)).all (· ≤ reachBytes) = true := hsz0
  clear hsz0
  have hval : ∀ (j : Nat) t v, Try.f3.params[j]? = some t → args[j]? = some v → Value.okWide Try.prog W .any base t v := hval0
  have hW' := hW
  obtain ⟨p, q, hA0, hV, rfl, hfz, hnd⟩ := hW
  have hA : DataW.TrodAll enc Try.prog W 0 (fun _ => true) true Try.f3.params.toList args.toList ds p := hA0
  rw [Try.params3] at hA hval hsz
  obtain ⟨v0, vs0, d0, ds0, p0, q0, hargs, rfl, rfl, h0, r0⟩ := trodAll_cons hA
  obtain ⟨v1, vs1, d1, ds1, p1, q1, rfl, rfl, rfl, h1, r1⟩ := trodAll_cons r0
  obtain ⟨v2, vs2, d2, ds2, p2, q2, rfl, rfl, rfl, h2, r2⟩ := trodAll_cons r1
  obtain ⟨rfl, rfl, rfl⟩ := trodAll_nil r2
  obtain rfl : args = #[v0, v1, v2] := by cases args; simp_all
  obtain ⟨rfl, rfl⟩ := trodVars_none hV
  have lt0 : ∀ x ∈ p0, x.block < W.heap.size := by obtain ⟨m, hm⟩ := h0; exact DataW.trod_lt m _ _ _ hm
  obtain ⟨z0, w0⟩ := view_bytes Try.underlying22 Try.underlying5 (by kernel_rfl) (by kernel_rfl) (hval 0 22 v0 rfl rfl) h0 lt0 hsz (j := 0) rfl rfl
  obtain ⟨a1, rfl, rfl, rfl, w1⟩ := open_int Try.underlying23 (hval 1 23 v1 rfl rfl) h1
  obtain ⟨a2, rfl, rfl, rfl, w2⟩ := open_int Try.underlying3 (hval 2 3 v2 rfl rfl) h2
  clear hA0 hval0
  refine (rowPuts_walk v0 z0 a1 a2 W w0 w1 w2).mono fun e W' ⟨he, bel⟩ => ?_
  subst he
  exact ⟨_, rfl, _, _, _, [], _, [], hW', trodAll_mk1 (shut_bool Try.underlying4 _), (trodAll_cons_mk (Below.trod (by kernel_rfl) (by kernel_rfl) (of_decide_eq_true (by kernel_rfl)) h0 bel lt0) (trodAll_cons_mk (shut_int Try.underlying23 w1) (trodAll_cons_mk (shut_int Try.underlying3 w2) trodAll_mk0))), rfl, bel.frame _, fun h => by cases h⟩

theorem rowPuts_holds : Rows.RowPutsSaid :=
  OpenClaim.holds_of_wide 3 Try.f3 rfl rfl rfl rfl rfl rfl rfl ⟨rfl, rfl, rfl, rfl, rfl⟩ rfl rfl rfl rfl rfl (by kernel_rfl) Try.func3 (by kernel_rfl)
    (of_decide_eq_true (by kernel_rfl)) (by unfold Func.isWrapper; first | (rw [if_pos (by decide +kernel)]; kernel_rfl) | (rw [if_neg (by decide +kernel)]; exact ⟨rfl, rfl⟩))
    (fun os started H enc _ => rowPuts_lifted os started H enc)
#print axioms rowPuts_holds
end Go.Proofs.Ytgffaekhhhkjcaa
