/- JournalMarks: the walk. -/
import Derived.Test.YtmlladpmecclbaaDoorJalE
import Derived.Test.YtmlladpmecclbaaDoorJalB
namespace Go.Proofs.YtmlladpmecclbaaDoor
open Go.RowKit

set_option maxRecDepth 100000 in
set_option maxHeartbeats 16000000 in
theorem journalMarks_walk (v0 : Value) (z0 : List (List Nat)) (v1 : Value) (z1 : List (List Nat)) (w : World) (hk : Kw w) (hh : Hw w)
    (h0 : Ps w v0 z0 ∧ z0.length * 24 ≤ 140737488351232 ∧ ∀ x ∈ z0, x.length ≤ 140737488351232) (h1 : Ps w v1 z1 ∧ z1.length * 24 ≤ 140737488351232 ∧ ∀ x ∈ z1, x.length ≤ 140737488351232) :
    Calls Tryd.prog 4 #[v0, v1] w fun e w' => e = .returned (.bool true) ∧ Below w.heap.size w w' := by
  have HGR0 := Hid.mk' (jgreat_any h0.1 (by omega))
  have HGR1 := Hid.mk' (jgreat_any h1.1 (by omega))
  have HK := Hid.mk' hk
  have HH := Hid.mk' hh
  have HP0 := Hid.mk' h0.1
  have HP1 := Hid.mk' h1.1
  obtain ⟨a0, n0, c0, rfl⟩ : ∃ a n c, v0 = .slice a n c := by obtain ⟨a, c, e, _⟩ := h0.1.gen; exact ⟨a, _, c, e⟩
  obtain ⟨a1, n1, c1, rfl⟩ : ∃ a n c, v1 = .slice a n c := by obtain ⟨a, c, e, _⟩ := h1.1.gen; exact ⟨a, _, c, e⟩
  obtain ⟨Z, hZ⟩ : ∃ Z, Z = u8s z32 := ⟨_, rfl⟩
  have hz := z32v
  rw [← hZ] at hz
  have HZL : Hid (Z.length = 32) := by show _ = _; rw [hZ]; rfl
  have HNW := Hid.mk' (new_any (w := w) (fun _ => .none) (fun _ _ => rfl))
  clear hk hh h0 h1 hZ
  go_enter Tryd.func4, Tryd.ntmps4
  go_wp2_with fail
  refine Calls.mono HGR0.out ?_
  rintro e w1 ⟨q, rfl, hq, hw⟩
  subst w1
  cases q with
  | true =>
    go_wp2_with fail
    refine Calls.mono (jawake_any w) ?_
    rintro e w2 ⟨rfl, hg2⟩
    go_wp2
    go_ret
    exact ⟨rfl, hg2.below (Nat.le_refl _) (fun _ _ h => h)⟩
  | false =>
    have hl0 := hq rfl
    clear hq HGR0
    go_wp2_with fail
    refine Calls.mono HGR1.out ?_
    rintro e w1 ⟨q, rfl, hq, hw⟩
    subst w1
    cases q with
    | true =>
      go_wp2_with fail
      refine Calls.mono (jawake_any w) ?_
      rintro e w2 ⟨rfl, hg2⟩
      go_wp2
      go_ret
      exact ⟨rfl, hg2.below (Nat.le_refl _) (fun _ _ h => h)⟩
    | false =>
      have hl1 := hq rfl
      clear hq HGR1
      have HL : Hid (z0.flatten.length + z0.length ≤ 20000 ∧ z1.flatten.length + z1.length ≤ 20000) := ⟨by omega, by omega⟩
      clear hl0 hl1
      go_wp2_with fail
      refine Calls.mono HNW.out ?_
      rintro e w1 ⟨gl, rfl, hgl, hg1, hlg1⟩
      have hnew := own_new hgl
      generalize tagAt (fun _ => Tag.none) gl .log = own1 at *
      have HNE := Hid.mk' hnew
      have HG1 := Hid.mk' hg1
      have hlo : LgO w1 own1 (.pointer (some ⟨gl, 0, none⟩)) [] := .inr ⟨gl, rfl, hlg1⟩
      obtain ⟨D, hD⟩ : ∃ D, D = digest (mkI z0 z1) := ⟨_, rfl⟩
      have hdg := jmark_any hlo (HP0.out.below hg1) (HP1.out.below hg1) (HK.out.but hg1 (fun h => h)) (HH.out.but hg1 (fun h => h)) HL.out.1 HL.out.2 (by decide)
      obtain ⟨N, hN⟩ : ∃ N, N = (u8s D).toArray := ⟨_, rfl⟩
      rw [show dkey (digest (mkI z0 z1)) = .agg N by rw [hN, hD]; rfl] at hdg
      have HDG := Hid.mk' hdg
      have HD := Hid.mk' hD
      have HNN := Hid.mk' hN
      have HDW : Hid (wf32 D) := by show wf32 _; rw [hD]; exact digest_wf _
      clear hgl hg1 hlg1 hnew hlo hdg hD hN HNW
      go_wp2_with fail
      refine Calls.mono HDG.out ?_
      rintro e w2 ⟨rfl, hto⟩
      obtain ⟨own2, q1, q2, q3⟩ := hto.ex
      have hg2 : Grow w w2 := HG1.out.then hto.but (fun i hi e => absurd (HNE.out i e) (by omega))
      have HG2 := Hid.mk' hg2
      obtain ⟨gv, hgv⟩ : ∃ g, g = w2.heap.size := ⟨_, rfl⟩
      have HBZ : Hid (Blk (w2.alloc (.cells Z.toArray 31)) w2.heap.size 31 Z) := Blk.new rfl
      have HQ3 := Hid.mk' q3
      clear hto q1 q2 q3 hg2 HDG
      go_upto_region 5 with (first
        | (refine wpList_store_u8s i32 rfl _ _ rfl w2.heap.size D HDW.out.1 rfl (by rw [← HNN.out]; rfl) Z HZL.out HBZ.out ?_; intro w3 hb3 hbut3)
        | fail)
      have hg3 : Grow w2 w3 := ((But.refl _ w2).alloc _).then hbut3 (fun i hi e => by omega)
      rw [← hgv] at hb3 ⊢
      have HB3 := Hid.mk' hb3
      have HG3 := Hid.mk' (HG2.out.trans hg3)
      have hlg3 : Lg w3 own2 gl ([] ++ [(mkI z0 z1, digest (mkI z0 z1))]) [] [] := by
        rcases HQ3.out.grow hg3 with ⟨e, _⟩ | ⟨g, e, h⟩
        · cases e
        · have e2 : gl = g := by simpa using e
          rw [e2]; exact h
      have hct := count_any hlg3
      have HCT := Hid.mk' hct
      clear hb3 hbut3 hgv hg3 hlg3 hct HBZ HQ3
      go_wp2_with fail
      refine Calls.mono HCT.out ?_
      rintro e w4 ⟨rfl, hg4⟩
      have HG4 := Hid.mk' (HG3.out.trans hg4)
      have HB4 := Hid.mk' (HB3.out.but hg4 (fun h => h))
      have hgw : ∀ w', Grow w4 w' → Grow w w' := fun w' k => HG4.out.trans k
      have HAW : Hid (∀ w', Grow w4 w' → Calls Tryd.prog 15 #[] w' fun e w'' => e = .returned (.bool true) ∧ Grow w' w'') := fun w' _ => jawake_any w'
      have HRD : Hid (∀ w', Grow w4 w' → Calls Tryd.prog 18 #[.slice a0 n0 c0, .slice a1 n1 c1] w' fun e w'' => e = .returned (.agg N) ∧ Grow w' w'') := fun w' k => by
        have := rjmark_any (HP0.out.below (hgw w' k)) (HP1.out.below (hgw w' k)) HL.out.1 HL.out.2
        rw [← HD.out, show dkey D = .agg N by rw [HNN.out]; rfl] at this
        exact this
      have HTD : Hid (∀ w', Grow w4 w' → Calls Tryd.prog 16 #[.pointer none, .slice a0 n0 c0, .slice a1 n1 c1] w' fun e w'' => e = .returned (.agg N) ∧ Grow w' w'') := fun w' k => by
        have := jmark_any (LgO.none w' []) (HP0.out.below (hgw w' k)) (HP1.out.below (hgw w' k)) (HK.out.but (hgw w' k) (fun h => h)) (HH.out.but (hgw w' k) (fun h => h)) HL.out.1 HL.out.2 (by decide)
        rw [← HD.out, show dkey D = .agg N by rw [HNN.out]; rfl] at this
        refine this.mono ?_
        rintro e w'' ⟨h1, h2⟩
        exact ⟨h1, h2.but.mono (fun _ _ h => h rfl)⟩
      have HEQ : Hid (∀ w', (Op.equalIn 10000 31 (.agg N) (.agg N)).run Tryd.prog w' = .ok true w') := fun w' => by
        rw [HNN.out]; exact equal_same D HDW.out.1 w'
      clear hg4 hgw HCT HB3
      go_upto_region 6 with fail
      refine region_chain [] [0, 1, 2, 3, 4, 5, 6, 7, 8, 9, 10, 11, 12, 13, 14, 15, 16, 17, 18, 19] (Grow w4) (Grow w4) (by kernel_rfl) (by kernel_rfl) (fun _ _ h k => h.trans k) (fun _ h => h) ((But.refl _ w4).drew) ?_
      intro ι hne X hX
      refine still_val rfl (.agg N) rfl (fun x => by rw [HNN.out]; exact run_load_arr ukt i32 (HB4.out.but (hX x) (fun h => h)).cells0 HDW.out.1 rfl rfl) ?_
      intro K hK; go_simp; refine hK _ ?_; clear hK K
      iterate 2 (refine still_step rfl (fun K hK => ?_); go_simp; refine hK _ ?_; clear hK K)
      refine still_call rfl (.agg N) 18 #[.slice a0 n0 c0, .slice a1 n1 c1] rfl (fun _ => by kernel_rfl) (fun x => HRD.out (X x) (hX x)) ?_
      intro K hK; go_simp; refine hK _ ?_; clear hK K
      refine still_val rfl (.bool true) rfl (fun x => exec_eqT rfl rfl rfl (by kernel_rfl) (HEQ.out (X x))) ?_
      intro K hK; go_simp; refine hK _ ?_; clear hK K
      refine still_step rfl (fun K hK => ?_); go_simp; refine hK _ ?_; clear hK K
      refine still_val rfl (.agg N) rfl (fun x => by rw [HNN.out]; exact run_load_arr ukt i32 (HB4.out.but (hX x) (fun h => h)).cells0 HDW.out.1 rfl rfl) ?_
      intro K hK; go_simp; refine hK _ ?_; clear hK K
      iterate 2 (refine still_step rfl (fun K hK => ?_); go_simp; refine hK _ ?_; clear hK K)
      refine still_call rfl (.agg N) 16 #[.pointer none, .slice a0 n0 c0, .slice a1 n1 c1] rfl (fun _ => by kernel_rfl) (fun x => HTD.out (X x) (hX x)) ?_
      intro K hK; go_simp; refine hK _ ?_; clear hK K
      refine still_val rfl (.bool true) rfl (fun x => exec_eqT rfl rfl rfl (by kernel_rfl) (HEQ.out (X x))) ?_
      intro K hK; go_simp; refine hK _ ?_; clear hK K
      iterate 6 (refine still_step rfl (fun K hK => ?_); go_simp; refine hK _ ?_; clear hK K)
      refine still_call rfl (.bool true) 15 #[] rfl (fun _ => by kernel_rfl) (fun x => HAW.out (X x) (hX x)) ?_
      intro K hK; go_simp; refine hK _ ?_; clear hK K
      iterate 2 (refine still_step rfl (fun K hK => ?_); go_simp; refine hK _ ?_; clear hK K)
      refine still_nil ?_
      clear hX hne
      intro w8 hw8
      have HG8 := Hid.mk' (HG4.out.trans hw8)
      clear hw8
      go_wp2
      go_ret
      exact ⟨rfl, HG8.out.below (Nat.le_refl _) (fun _ _ h => h)⟩
end Go.Proofs.YtmlladpmecclbaaDoor
