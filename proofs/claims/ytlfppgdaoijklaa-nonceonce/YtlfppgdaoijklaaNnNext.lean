/- The program's source: Next. -/
import Derived.Test.YtlfppgdaoijklaaNnMem
namespace Go.Proofs.Ytlfppgdaoijklaa
open Go.RowKit

section
variable {w w' : World} {g B p : Nat}
set_option maxRecDepth 100000 in
theorem nnext_nil (w : World) (E : Nat) : Calls Try.prog 10 #[.pointer none, .int .u32 (E : Int)] w fun e w' => e = .returned (.tuple #[evalE ⟨0, 0, 0⟩, .int .i64 5]) ∧ Grow w w' := by
  obtain ⟨w2, hs, hb2, hk⟩ := newEn w ⟨0, 0, 0⟩
  have HS := Hid.mk' hs
  have HB := Hid.mk' hb2
  have HG := Hid.mk' hk
  clear hs hb2 hk
  go_enter Try.func10, Try.ntmps10
  go_wp2_with (first
    | (refine wpList_runH rfl (exec_allocF rfl (zeroE w)) ?_)
    | (refine wpList_skipH rfl (exec_stF (v := evalE ⟨0, 0, 0⟩) rfl rfl rfl HS.out) ?_)
    | fail)
  exact bodyPost_ret (results_ct rfl _ _ w.heap.size _ _ _ _ rfl HB.out Try.underlying30 rfl (by rw [iEn]; rfl) rfl) rfl ⟨rfl, HG.out⟩
/-- What Next leaves. -/
structure NxTo (w : World) (g B p : Nat) (w' : World) : Prop where
  src : Src w' g B (p + 1)
  but : But (· = g) w w'
set_option maxRecDepth 100000 in
set_option maxHeartbeats 1000000 in
theorem nnext_off (h : Src w g B p) (hp : 18446744073709551616 ≤ p) (E : Nat) : Calls Try.prog 10 #[ptr g, .int .u32 (E : Int)] w fun e w' => e = .returned (.tuple #[evalE ⟨0, 0, 0⟩, .int .i64 13]) ∧ NxTo w g B p w' := by
  obtain ⟨w0, hw0⟩ : ∃ w0, w0 = w.alloc (.cells #[.int .u32 0, .int .u32 0, .int .u64 0] 30) := ⟨_, rfl⟩
  obtain ⟨w2, hs, hb2, hk⟩ := newEn w ⟨0, 0, 0⟩
  rw [← hw0] at hs
  have k0 : Grow w w0 := by rw [hw0]; exact (But.refl _ w).alloc _
  have c2 : w0.cell? ⟨g, 2, none⟩ = some (.bool true) := by
    have := (h.grow k0).blk.cell 2
    rw [this]
    unfold ncl
    rw [decide_eq_true hp]
    rfl
  have HF : Hid (NxTo w g B p w2) := by
    refine ⟨⟨?_, h.hB⟩, hk.mono (fun _ _ e => e.elim)⟩
    have e : ncl B (p + 1) = ncl B p := by
      unfold ncl
      rw [Nat.min_eq_right (by omega), Nat.min_eq_right (by omega), decide_eq_true hp, decide_eq_true (by omega)]
    rw [e]
    exact (h.grow hk).blk
  have HS := Hid.mk' hs
  have HB := Hid.mk' hb2
  have HW0 := Hid.mk' hw0
  clear hs hb2 hk h hp hw0 k0
  go_enter Try.func10, Try.ntmps10
  go_upto_region 1 with (first
    | (refine wpList_runH rfl (exec_allocF rfl (zeroE w)) ?_)
    | fail)
  rw [← HW0.out]
  go_wp2_with (first
    | (refine wpList_skipH rfl (exec_stF (v := evalE ⟨0, 0, 0⟩) rfl rfl rfl HS.out) ?_)
    | fail)
  exact bodyPost_ret (results_ct rfl _ _ w.heap.size _ _ _ _ rfl HB.out Try.underlying30 rfl (by rw [iEn]; rfl) rfl) rfl ⟨rfl, HF.out⟩
set_option maxRecDepth 100000 in
set_option maxHeartbeats 2000000 in
theorem nnext_on (h : Src w g B p) (hp : p < 18446744073709551616) (E : Nat) : Calls Try.prog 10 #[ptr g, .int .u32 (E : Int)] w fun e w' => e = .returned (.tuple #[evalE ⟨E, B, p⟩, .int .i64 0]) ∧ NxTo w g B p w' := by
  obtain ⟨w0, hw0⟩ : ∃ w0, w0 = w.alloc (.cells #[.int .u32 0, .int .u32 0, .int .u64 0] 30) := ⟨_, rfl⟩
  obtain ⟨gr, hgr⟩ : ∃ gr, gr = w.heap.size := ⟨_, rfl⟩
  have k0 : Grow w w0 := by rw [hw0]; exact (But.refl _ w).alloc _
  have s0 : w0.heap.size = gr + 1 := by rw [hw0, hgr]; simp
  have hlt : g < gr := by have := h.blk.lt; omega
  have hb0 : Blk w0 gr 30 [.int .u32 0, .int .u32 0, .int .u64 0] := by rw [hw0]; exact Blk.new (L := [.int .u32 0, .int .u32 0, .int .u64 0]) hgr.symm
  have hn : ncl B p = [.int .u32 (B : Int), .int .u64 (p : Int), .bool false] := by
    unfold ncl
    rw [Nat.min_eq_left (by omega), decide_eq_false (by omega)]
  have h0 := (h.grow k0).blk
  rw [hn] at h0
  have hB := h.hB
  have HB := Hid.mk' hB
  have H0 := Hid.mk' h0
  have HB0 := Hid.mk' hb0
  have HK0 := Hid.mk' k0
  have HW0 := Hid.mk' hw0
  have HGR := Hid.mk' hgr
  have HS0 := Hid.mk' s0
  have HLT := Hid.mk' hlt
  have c2 : w0.cell? ⟨g, 2, none⟩ = some (.bool false) := h0.cell 2
  have HP := Hid.mk' hp
  clear h hw0 hgr k0 s0 hb0 hlt hn h0 hB hp
  go_enter Try.func10, Try.ntmps10
  go_upto_region 1 with (first
    | (refine wpList_runH rfl (exec_allocF rfl (zeroE w)) ?_)
    | fail)
  rw [← HW0.out, ← HGR.out]
  go_upto_region 5 with fail
  refine region_chain [([0, 1, 2, 3, 4, 5, 6, 7, 8, 9], 10), ([], 11)] [] (Grow w0) (Grow w0) (by kernel_rfl) (by kernel_rfl) (fun _ _ h k => h.trans k) (fun _ h => h) ((But.refl _ w0).drew) ?_
  intro ι hne X hX
  have d0 : ∀ x, (X x).cell? ⟨g, 0, none⟩ = some (.int .u32 (B : Int)) := fun x => (H0.out.but (hX x) (fun h => h)).cell 0
  have d1 : ∀ x, (X x).cell? ⟨g, 1, none⟩ = some (.int .u64 (p : Int)) := fun x => (H0.out.but (hX x) (fun h => h)).cell 1
  iterate 10 (refine still_step rfl (fun K hK => ?_); go_simp; refine hK _ ?_; clear hK K)
  refine still_nil ?_
  clear d0 d1 hX hne X ι
  refine turn_run rfl rfl (fun v w' => ∃ g6, v = ptr g6 ∧ w0.heap.size ≤ g6 ∧ Grow w0 w' ∧ Blk w' g6 30 [.int .u32 0, .int .u32 0, .int .u64 0]) (fun _ w' => Grow w0 w') (fun _ _ _ h k => by obtain ⟨g6, a1, a2, a3, a4⟩ := h; exact ⟨g6, a1, a2, a3.trans k, a4.but k (fun h => h)⟩) (fun _ _ h => by obtain ⟨g6, a1, a2, a3, a4⟩ := h; exact a3) (.inr (fun _ _ h => h)) ?_ ?_
  · intro w4 h4
    exact ⟨_, _, .inl (exec_allocF rfl (zeroE w4)), w4.heap.size, rfl, h4.size, h4.trans ((But.refl _ w4).alloc _), Blk.new (L := [.int .u32 0, .int .u32 0, .int .u64 0]) rfl⟩
  rintro v5 ⟨w5, g6, rfl, hg6, -, -⟩ Y hY
  go_simp
  refine hY _ ?_
  clear hY Y w5
  have HG6 := Hid.mk' hg6
  clear hg6
  intro ι hne X hX
  refine still_nil ?_
  clear hX hne X ι
  refine turn_run rfl rfl (fun _ w' => Grow w0 w' ∧ Blk w' g6 30 (ecells ⟨E, B, p⟩)) (fun _ w' => Grow w0 w') (fun _ _ _ h k => ⟨h.1.trans k, h.2.but k (fun h => h)⟩) (fun _ _ h => h.1) (.inr (fun _ _ h => h)) ?_ ?_
  · rintro w4 ⟨g7, e7, -, h4, hb4⟩
    have e8 : g6 = g7 := by
      have e9 : some (⟨g6, 0, none⟩ : Addr) = some ⟨g7, 0, none⟩ := (Value.pointer.injEq _ _).mp e7
      exact congrArg Addr.block (Option.some.inj e9)
    subst e8
    obtain ⟨w5, q1, q2, q3⟩ := boxEn rfl hb4 ⟨E, B, p⟩
    exact ⟨undef, w5, .inr ⟨exec_stF (v := evalE ⟨E, B, p⟩) rfl rfl rfl q1, rfl⟩, h4.then q3 (fun b hb e => by have := HG6.out; omega), q2⟩
  rintro v5 - Y hY
  go_simp
  refine hY _ ?_
  clear hY Y
  intro ι hne X hX
  refine still_nil ?_
  clear hX hne X ι
  rintro w2 ⟨h2, hb2⟩
  have H2 : Hid (Blk w2 g 43 [.int .u32 (B : Int), .int .u64 (p : Int), .bool false]) := H0.out.but h2 (fun h => h)
  have HR2 := Hid.mk' (HB0.out.but h2 (fun h => h))
  have HE2 := Hid.mk' hb2
  have HK2 : Hid (Grow w w2) := HK0.out.trans h2
  have d1 : w2.cell? ⟨g, 1, none⟩ = some (.int .u64 (p : Int)) := H2.out.cell 1
  have d2 : w2.cell? ⟨g, 2, none⟩ = some (.bool false) := H2.out.cell 2
  have f1 : w2.frozen? ⟨g, 1, none⟩ = false := H2.out.free 1
  have f2 : w2.frozen? ⟨g, 2, none⟩ = false := H2.out.free 2
  clear h2 hb2 H0 c2
  have key : ∀ w3, But (· = g) w2 w3 → Src w3 g B (p + 1) → ∃ w4, (storeVar 30 ⟨gr, 0, none⟩ (evalE ⟨E, B, p⟩)).run Try.prog w3 = .ok () w4 ∧ Blk w4 gr 30 (ecells ⟨E, B, p⟩) ∧ NxTo w g B p w4 := fun w3 k hs => by
    obtain ⟨w4, q1, q2, q3⟩ := boxEn rfl (HR2.out.but k (fun e => by have := HLT.out; omega)) ⟨E, B, p⟩
    refine ⟨w4, q1, q2, hs.but q3 (fun e => by have := HLT.out; omega), ((HK2.out.mono (fun _ _ e => e.elim)).then k (fun _ _ e => e)).then q3 (fun b hb e => by have := HGR.out; omega)⟩
  have KEY := Hid.mk' key
  clear key
  by_cases hm : p = 18446744073709551615
  · have t1 : ((p : Int) == 18446744073709551615) = true := by rw [hm]; rfl
    obtain ⟨w3, hw3⟩ : ∃ w3, w3 = w2.setCell ⟨g, 2, none⟩ (.bool true) := ⟨_, rfl⟩
    have k3 : But (· = g) w2 w3 := by rw [hw3]; exact But.set1 _ _ _ _
    have hs3 : Src w3 g B (p + 1) := by
      refine ⟨?_, HB.out⟩
      have e : ncl B (p + 1) = [.int .u32 (B : Int), .int .u64 (p : Int), .bool false].set 2 (.bool true) := by
        unfold ncl
        rw [Nat.min_eq_right (by omega), decide_eq_true (by omega), hm]
        rfl
      rw [e, hw3]
      exact H2.out.set 2 _
    obtain ⟨w4, q1, q2, q3⟩ := KEY.out w3 k3 hs3
    have HW3 := Hid.mk' hw3
    have HQ1 := Hid.mk' q1
    have HQ2 := Hid.mk' q2
    have HQ3 := Hid.mk' q3
    have HE3 := Hid.mk' (HE2.out.but k3 (fun e => by have := HG6.out; have := HS0.out; have := HLT.out; omega))
    clear hm hw3 k3 hs3 q1 q2 q3 KEY
    go_upto_region 9 with fail
    rw [← HW3.out]
    go_wp2_with (first
      | (refine wpList_runH rfl (exec_ldE (cs := ⟨E, B, p⟩) HE3.out.cells0 rfl rfl) ?_)
      | (refine wpList_skipH rfl (exec_stF (v := evalE ⟨E, B, p⟩) rfl rfl rfl HQ1.out) ?_)
      | fail)
    exact bodyPost_ret (results_ct rfl _ _ gr _ _ _ _ rfl HQ2.out Try.underlying30 rfl (by rw [iEn]; rfl) rfl) rfl ⟨rfl, HQ3.out⟩
  · have t1 : ((p : Int) == 18446744073709551615) = false := by simp; omega
    obtain ⟨N, hN⟩ : ∃ N : Int, N = (p : Int) := ⟨_, rfl⟩
    have hN1 : N + 1 = ((p + 1 : Nat) : Int) := by omega
    have n1 : 0 ≤ N := by omega
    have n2 : N < 18446744073709551615 := by have := HP.out; omega
    obtain ⟨w3, hw3⟩ : ∃ w3, w3 = w2.setCell ⟨g, 1, none⟩ (.int .u64 (N + 1)) := ⟨_, rfl⟩
    have k3 : But (· = g) w2 w3 := by rw [hw3]; exact But.set1 _ _ _ _
    have hs3 : Src w3 g B (p + 1) := by
      refine ⟨?_, HB.out⟩
      have e : ncl B (p + 1) = [.int .u32 (B : Int), .int .u64 (p : Int), .bool false].set 1 (.int .u64 (N + 1)) := by
        unfold ncl
        rw [Nat.min_eq_left (by omega), decide_eq_false (by omega), hN1]
        rfl
      rw [e, hw3]
      exact H2.out.set 1 _
    obtain ⟨w4, q1, q2, q3⟩ := KEY.out w3 k3 hs3
    have HW3 := Hid.mk' hw3
    have HQ1 := Hid.mk' q1
    have HQ2 := Hid.mk' q2
    have HQ3 := Hid.mk' q3
    have HE3 := Hid.mk' (HE2.out.but k3 (fun e => by have := HG6.out; have := HS0.out; have := HLT.out; omega))
    rw [← hN] at d1 t1
    clear hm hw3 k3 hs3 q1 q2 q3 KEY hN hN1
    go_upto_region 9 with fail
    rw [← HW3.out]
    go_wp2_with (first
      | (refine wpList_runH rfl (exec_ldE (cs := ⟨E, B, p⟩) HE3.out.cells0 rfl rfl) ?_)
      | (refine wpList_skipH rfl (exec_stF (v := evalE ⟨E, B, p⟩) rfl rfl rfl HQ1.out) ?_)
      | fail)
    exact bodyPost_ret (results_ct rfl _ _ gr _ _ _ _ rfl HQ2.out Try.underlying30 rfl (by rw [iEn]; rfl) rfl) rfl ⟨rfl, HQ3.out⟩
/-- Next, in one. -/
theorem nnext_any (h : Src w g B p) (E : Nat) : Calls Try.prog 10 #[ptr g, .int .u32 (E : Int)] w fun e w' => e = .returned (.tuple #[evalE (tldE E B p), .int .i64 (codE p)]) ∧ NxTo w g B p w' := by
  unfold tldE codE
  by_cases hp : p < 18446744073709551616
  · rw [if_pos hp, if_pos hp]
    exact nnext_on h hp E
  · rw [if_neg hp, if_neg hp]
    exact nnext_off h (by omega) E
end
end Go.Proofs.Ytlfppgdaoijklaa
