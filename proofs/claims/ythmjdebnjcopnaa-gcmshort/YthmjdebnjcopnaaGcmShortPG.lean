/- Fewer than sixteen bytes are none that were sealed; a box that is none opens nothing. No condition. -/
import Derived.Test.YthmjdebnjcopnaaAllG
namespace Go.Proofs.Ythmjdebnjcopnaa
open Go.ChangeShapes Go.WideShapes Go.ChangeAt Go.RowKit

theorem min_fifteen (ts : Array TypeId) (t : TypeId) (D n : Nat) (h : n = min D 15) (w : World) : (Builtin.min_ ts t #[.int .i64 (D : Int), .int .i64 15]).run Try.prog w = .ok (.int .i64 (n : Int)) w := by
  subst h
  by_cases h1 : (D : Int) < 15 <;> simp [Builtin.min_, Builtin.min2, go_sem] <;> omega
set_option maxRecDepth 100000 in
set_option maxHeartbeats 4000000 in
theorem gcmShort_walk (v0 : Value) (zs : List Nat) (u : Value) (nc : List B8) (v1 : Value) (xs : List Nat) (v2 : Value) (ys : List Nat) (w : World) (h0 : Bs w v0 zs ∧ zs.length ≤ 140737488351232) (hn : nc.length = 12 ∧ u = .agg (u8s (nts nc)).toArray) (_h1 : Bs w v1 xs ∧ xs.length ≤ 140737488351232) (h2 : Bs w v2 ys ∧ ys.length ≤ 140737488351232) :
    Calls Try.prog 7 #[v0, u, v1, v2] w fun e w' => e = .returned (.bool true) ∧ Below w.heap.size w w' := by
  obtain ⟨hn, rfl⟩ := hn
  obtain ⟨h0, -⟩ := h0
  obtain ⟨h2, hb2⟩ := h2
  obtain ⟨key, rfl⟩ := h0.bytes
  obtain ⟨C, hC⟩ : ∃ C, C = (u8s (nts nc)).toArray := ⟨_, rfl⟩
  rw [← hC]
  obtain ⟨g, hg⟩ : ∃ g, g = w.heap.size := ⟨_, rfl⟩
  obtain ⟨W0, hW0⟩ : ∃ W0, W0 = w.alloc (.cells C 23) := ⟨_, rfl⟩
  have hT0 : But (fun _ => False) w W0 := by rw [hW0]; exact (But.refl _ w).alloc _
  have HNB : Hid (Blk W0 g 23 (u8s (nts nc))) := by rw [hW0, hC]; exact Blk.new hg.symm
  have HK := Hid.mk' (h0.but hT0 (fun _ _ _ h => h))
  have H2 := Hid.mk' (h2.but hT0 (fun _ _ _ h => h))
  have HNN : Hid ((nts nc).length = 12) := by show _ = _; rw [nts_len]; exact hn
  have HN := Hid.mk' hn
  have HT0 := Hid.mk' hT0
  obtain ⟨ao2, c2, rfl, hno, -⟩ := h2.gen
  obtain ⟨D, hD⟩ : ∃ D, D = ys.length := ⟨_, rfl⟩
  rw [← hD] at hb2 H2 hno ⊢
  have HD := Hid.mk' hD
  have HNO := Hid.mk' hno
  have HG := Hid.mk' hg
  have HW0 := Hid.mk' hW0
  have HC := Hid.mk' hC
  have HO := Hid.mk' (gopen_nil (w := W0) (nc := nc) (v1 := v1) (v2 := .slice ao2 D c2))
  rw [← hC] at HO
  clear hn hC hg hW0 hT0 h0 h2 hD hno _h1
  go_enter Try.func7, Try.ntmps7
  go_wp2_with (first
    | (rw [← HW0.out, ← HG.out]; refine wpList_load_u8s Try.underlying23 i12 rfl _ rfl g (nts nc) HNN.out rfl HNB.out ?_; rw [← HC.out])
    | fail)
  refine Calls.mono HO.out ?_
  rintro e w1 ⟨vp, rfl, hp, hb⟩
  obtain ⟨ap, cp, rfl, -, -⟩ := hp.gen
  rw [List.length_nil]
  have HB1 := Hid.mk' hb
  have HN1 := Hid.mk' (HNB.out.but hb (fun h => h))
  have HSE := Hid.mk' (gseal_nil (w := w1) (nc := nc) (v1 := v1) (v2 := .slice ao2 D c2))
  rw [← HC.out] at HSE
  clear hp hb HO HW0
  go_wp2_with (first
    | (refine wpList_load_u8s_g Try.underlying23 i12 rfl _ rfl g (nts nc) HNN.out rfl HN1.out ?_; rw [← HC.out])
    | fail)
  refine Calls.mono HSE.out ?_
  rintro e w2 ⟨vs, rfl, hs, hb⟩
  obtain ⟨aq, cq, rfl, -, -⟩ := hs.gen
  rw [List.length_nil]
  have HB2 := Hid.mk' (HB1.out.trans hb)
  have HN2 := Hid.mk' (HN1.out.but hb (fun h => h))
  clear hs hb HSE HB1 HN1
  by_cases hk : key.length = 16 ∨ key.length = 32
  · have HNW := Hid.mk' (gnew_any (HK.out.but HB2.out (fun _ _ _ h => h)) hk)
    clear hk
    go_wp2_with fail
    refine Calls.mono HNW.out ?_
    rintro e w3 ⟨gx, rfl, hbx, hb⟩
    have HX3 := Hid.mk' hbx
    have HT3 := Hid.mk' (HT0.out.trans (HB2.out.trans hb))
    have HN3 := Hid.mk' (HN2.out.but hb (fun h => h))
    have HD3 := Hid.mk' (H2.out.but (HB2.out.trans hb) (fun _ _ _ h => h))
    obtain ⟨m, hm⟩ : ∃ m, m = min D 15 := ⟨_, rfl⟩
    have hmD : m ≤ D := by omega
    have hmi := min_fifteen #[3, 3] 3 D m hm
    have hcut : ∀ w', Sem.run Try.prog (Instr.sliceAt 22 (.slice ao2 D c2) none (some (.int .i64 (m : Int))) none) w' = .ok (.slice ao2 m c2) w' := fun w' => run_slice_to HD3.out hmD HD.out.symm
    have HOS : Hid (∀ w', But (fun _ => False) w3 w' → Calls Try.prog 18 #[.pointer (some ⟨gx, 0, none⟩), .agg C, .slice none 0 0, .slice ao2 m c2] w' fun e w'' => e = .returned (.tuple #[.slice none 0 0, .int .i64 2]) ∧ But (fun _ => False) w3 w'') := by
      intro w' hw'
      rw [HC.out]
      refine (gopen_short (HX3.out.but hw' (fun _ _ h => h)) HN.out (Bs.nil w') ((HD3.out.but hw' (fun _ _ _ h => h)).front (n := m) (by rw [← HD.out]; exact hmD) (fun e => (HNO.out e).2)) (by rw [List.length_take]; omega)).mono ?_
      rintro e w'' ⟨h1, h2⟩
      exact ⟨h1, hw'.trans h2⟩
    clear hbx hb hm HNW HB2 HN2 H2 HX3
    go_upto_region 8 with fail
    refine region_same (l := [_, _, _, _, _, _, _, _, _, _, _, _, _]) (fun w' => But (fun _ => False) w3 w') (by kernel_rfl) (by kernel_rfl) ((But.refl _ w3).drew) ?_
    refine guard_val _ rfl (fun w' _ => rfl) ?_
    intro K hK; go_simp; refine hK _ ?_; clear hK K
    refine guard_val (.agg C) rfl (fun w' hw' => by rw [HC.out]; exact run_load12 HNN.out (blk_add (HN3.out.but hw' (fun h => h))) rfl rfl) ?_
    intro K hK; go_simp; refine hK _ ?_; clear hK K
    refine guard_val _ rfl (fun w' _ => rfl) ?_
    intro K hK; go_simp; refine hK _ ?_; clear hK K
    refine guard_val _ rfl (fun w' _ => rfl) ?_
    intro K hK; go_simp; refine hK _ ?_; clear hK K
    refine guard_val (.int .i64 (D : Int)) rfl (fun w' _ => by go_simp) ?_
    intro K hK; go_simp; refine hK _ ?_; clear hK K
    refine guard_val (.int .i64 (m : Int)) rfl (fun w' _ => by have h := hmi w'; go_simp) ?_
    intro K hK; go_simp; refine hK _ ?_; clear hK K
    refine guard_val (.slice ao2 m c2) rfl (fun w' _ => by have h := hcut w'; go_simp) ?_
    intro K hK; go_simp; refine hK _ ?_; clear hK K
    refine guard_call (.tuple #[.slice none 0 0, .int .i64 2]) 18 #[.pointer (some ⟨gx, 0, none⟩), .agg C, .slice none 0 0, .slice ao2 m c2] rfl (fun w' _ => by kernel_rfl) (fun w' hw' => HOS.out w' hw') ?_
    intro K hK; go_simp; refine hK _ ?_; clear hK K
    refine guard_val _ rfl (fun w' _ => rfl) ?_
    intro K hK; go_simp; refine hK _ ?_; clear hK K
    refine guard_val (.slice none 0 0) rfl (fun w' _ => by go_simp) ?_
    intro K hK; go_simp; refine hK _ ?_; clear hK K
    refine guard_val (.int .i64 2) rfl (fun w' _ => by go_simp) ?_
    intro K hK; go_simp; refine hK _ ?_; clear hK K
    refine guard_val _ rfl (fun w' _ => rfl) ?_
    intro K hK; go_simp; refine hK _ ?_; clear hK K
    refine guard_val _ rfl (fun w' _ => rfl) ?_
    intro K hK; go_simp; refine hK _ ?_; clear hK K
    refine wpQuiet_nil ?_
    intro w4 hw4
    have HT4 := Hid.mk' (HT3.out.trans hw4)
    clear hw4 HT3 HOS hmi hcut HN3 HD3
    go_wp2_with fail
    refine Calls.mono (awake_any _) ?_
    rintro e wz ⟨rfl, hbz⟩
    have HTZ := Hid.mk' (HT4.out.trans hbz)
    clear hbz
    go_wp2
    go_ret
    exact ⟨rfl, HTZ.out.below (Nat.le_refl _) (fun _ _ h => h)⟩
  · have HNW := Hid.mk' (gnew_none (HK.out.but HB2.out (fun _ _ _ h => h)) (by rw [nts_len]; omega) (by rw [nts_len]; omega))
    clear hk
    go_wp2_with fail
    refine Calls.mono HNW.out ?_
    rintro e w3 ⟨rfl, hb⟩
    have HT3 := Hid.mk' (HT0.out.trans (HB2.out.trans hb))
    clear hb HNW
    go_wp2_with fail
    refine Calls.mono (awake_any _) ?_
    rintro e wz ⟨rfl, hbz⟩
    have HTZ := Hid.mk' (HT3.out.trans hbz)
    clear hbz
    go_wp2
    go_ret
    exact ⟨rfl, HTZ.out.below (Nat.le_refl _) (fun _ _ h => h)⟩

set_option maxRecDepth 100000 in
theorem gcmShort_lifted (os : Os) (started : os.Started) (H : Type) (enc : TypeId × Value → H) :
    ReturnsInHanded {} Try.checked os 7 .any (Rows.gcmShortSpec.pre6 enc Try.prog Try.f7 Rows.gcmShortRow.domain false) (Rows.gcmShortSpec.post enc Try.prog Try.f7 false true false false) := by
  refine returnsInHanded_of_change_sized (C := Try.checked) (by kernel_rfl) started (by kernel_rfl) Try.func7
    (ChangeSpec.witness6 (enc := enc) (C := Try.checked) false ⟨#[], #[.slice none 0 0, .agg #[.int .u8 0, .int .u8 0, .int .u8 0, .int .u8 0, .int .u8 0, .int .u8 0, .int .u8 0, .int .u8 0, .int .u8 0, .int .u8 0, .int .u8 0, .int .u8 0], .slice none 0 0, .slice none 0 0], []⟩ 8 (by kernel_rfl) (by kernel_rfl) (by kernel_rfl) (by kernel_rfl)) ?_
  intro W base args ds gs before hval0 hW hcnd hsz0 _
  have hsz : (DataW.weightsEach Try.prog (Try.f7.params.toList ++ Rows.gcmShortSpec.plain.varTypes Try.prog) (ds ++ gs)).all (· ≤ reachBytes) = true := hsz0
  clear hsz0
  have hval : ∀ (j : Nat) t v, Try.f7.params[j]? = some t → args[j]? = some v → Value.okWide Try.prog W .any base t v := hval0
  have hW' := hW
  obtain ⟨p, q, hA0, hV, rfl, hfz, hnd⟩ := hW
  have hA : DataW.TrodAll enc Try.prog W 0 (fun _ => true) true Try.f7.params.toList args.toList ds p := hA0
  rw [Try.params7] at hA hval hsz
  obtain ⟨v0, vs0, d0, ds0, p0, q0, hargs, rfl, rfl, h0, r0⟩ := trodAll_cons hA
  obtain ⟨v1, vs1, d1, ds1, p1, q1, rfl, rfl, rfl, h1, r1⟩ := trodAll_cons r0
  obtain ⟨v2, vs2, d2, ds2, p2, q2, rfl, rfl, rfl, h2, r2⟩ := trodAll_cons r1
  obtain ⟨v3, vs3, d3, ds3, p3, q3, rfl, rfl, rfl, h3, r3⟩ := trodAll_cons r2
  obtain ⟨rfl, rfl, rfl⟩ := trodAll_nil r3
  obtain rfl : args = #[v0, v1, v2, v3] := by cases args; simp_all
  obtain ⟨rfl, rfl⟩ := trodVars_none hV
  have lt0 : ∀ x ∈ p0, x.block < W.heap.size := by obtain ⟨m, hm⟩ := h0; exact DataW.trod_lt m _ _ _ hm
  obtain ⟨z0, w0⟩ := view_bytes Try.underlying22 Try.underlying5 (by kernel_rfl) (by kernel_rfl) (hval 0 22 v0 rfl rfl) h0 lt0 hsz (j := 0) rfl rfl
  have lt1 : ∀ x ∈ p1, x.block < W.heap.size := by obtain ⟨m, hm⟩ := h1; exact DataW.trod_lt m _ _ _ hm
  obtain ⟨z1, w1⟩ := view_arr Try.underlying23 Try.underlying5 (by kernel_rfl) (by kernel_rfl) (hval 1 23 v1 rfl rfl) h1 lt1 hsz (j := 1) rfl rfl
  have lt2 : ∀ x ∈ p2, x.block < W.heap.size := by obtain ⟨m, hm⟩ := h2; exact DataW.trod_lt m _ _ _ hm
  obtain ⟨z2, w2⟩ := view_bytes Try.underlying22 Try.underlying5 (by kernel_rfl) (by kernel_rfl) (hval 2 22 v2 rfl rfl) h2 lt2 hsz (j := 2) rfl rfl
  have lt3 : ∀ x ∈ p3, x.block < W.heap.size := by obtain ⟨m, hm⟩ := h3; exact DataW.trod_lt m _ _ _ hm
  obtain ⟨z3, w3⟩ := view_bytes Try.underlying22 Try.underlying5 (by kernel_rfl) (by kernel_rfl) (hval 3 22 v3 rfl rfl) h3 lt3 hsz (j := 3) rfl rfl
  clear hA0 hval0
  refine (gcmShort_walk v0 z0 v1 z1 v2 z2 v3 z3 W w0 w1 w2 w3).mono fun e W' ⟨he, bel⟩ => ?_
  subst he
  exact ⟨_, rfl, _, _, _, [], _, [], hW', trodAll_mk1 (shut_bool Try.underlying4 _), (trodAll_cons_mk (Below.trod (by kernel_rfl) (by kernel_rfl) (of_decide_eq_true (by kernel_rfl)) h0 bel lt0) (trodAll_cons_mk (Below.trod (by kernel_rfl) (by kernel_rfl) (of_decide_eq_true (by kernel_rfl)) h1 bel lt1) (trodAll_cons_mk (Below.trod (by kernel_rfl) (by kernel_rfl) (of_decide_eq_true (by kernel_rfl)) h2 bel lt2) (trodAll_cons_mk (Below.trod (by kernel_rfl) (by kernel_rfl) (of_decide_eq_true (by kernel_rfl)) h3 bel lt3) trodAll_mk0)))), rfl, bel.frame _, fun h => by cases h⟩

theorem gcmShort_holds : Rows.GcmShortSaid :=
  OpenClaim.holds_of_wide 7 Try.f7 rfl rfl rfl rfl rfl rfl rfl ⟨rfl, rfl, rfl, rfl, rfl⟩ rfl rfl rfl rfl rfl (by kernel_rfl) Try.func7 (by kernel_rfl)
    (of_decide_eq_true (by kernel_rfl)) (by unfold Func.isWrapper; first | (rw [if_pos (by decide +kernel)]; kernel_rfl) | (rw [if_neg (by decide +kernel)]; exact ⟨rfl, rfl⟩))
    (fun os started H enc _ => gcmShort_lifted os started H enc)
#print axioms gcmShort_holds
end Go.Proofs.Ythmjdebnjcopnaa
