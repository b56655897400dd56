/- The program's spill slots: Give. -/
import Derived.Test.YtehajgfjdmhdpaaSpOf
import Derived.Test.YtehajgfjdmhdpaaSpLeast
namespace Go.Proofs.Ytehajgfjdmhdpaa
open Go.RowKit Go.Maps

/-- What Give tells: the slot, or 0 with ErrFull. -/
def givI (S : Sl) (p : Int) : Int := match slotS S p with
  | some i => (i : Int)
  | none => 0
def givE (S : Sl) (p : Int) : Int := match slotS S p with
  | some _ => 0
  | none => 11
section
variable {w w' : World} {gs gm n : Nat} {S : Sl} {R : Nat → Prop}
theorem spgive_nil (w : World) (p : Int) (x : En) : Calls Try.prog 14 #[.pointer none, .int .i64 p, evalE x] w fun e w' => e = .returned (.tuple #[.int .i64 0, .int .i64 5]) ∧ Grow w w' := by
  have HG : Hid (Grow w (w.alloc (.cells (ecells x).toArray 33))) := (But.refl _ w).alloc _
  show Calls _ _ #[_, _, .agg (ecells x).toArray] _ _
  go_enter Try.func14, Try.ntmps14
  go_wp2
  exact bodyPost_ret (results_tmp2 rfl _ _ _) rfl ⟨rfl, HG.out⟩
/-- The slot is there: it is put. -/
theorem SpM.put (h : SpM w gs gm n S) {p : Int} (hp : i64 p) {i : Nat} (hi : slotS S p = some i) (x : En) : ∃ w', (Instr.mapUpdate 53 (.map (some gm)) (.int .i64 p) (.agg (scl i x).toArray)).run Try.prog w = .ok () w' ∧ SpTo w gs gm n (gaveS S p x) w' := by
  have hg : gaveS S p x = S.set i (some (p, x)) := by unfold gaveS; rw [hi]
  obtain ⟨w1, hr, hm, hb, -⟩ := h.map.upd (t := 53) (et := 58) (l' := entS (gaveS S p x)) keyIa Try.underlying53 (p, i, x) (keyOfIa p hp) (by
    rintro ⟨q, j, y⟩
    rw [mem_entS, mem_entS, hg, setS_at h.ok hi]
    constructor
    · rintro (⟨h1, h2⟩ | ⟨rfl, rfl, rfl⟩)
      · exact .inl ⟨h1, fun e => h2 (iv_inj e)⟩
      · exact .inr rfl
    · rintro (⟨h1, h2⟩ | h1)
      · exact .inl ⟨h1, fun e => h2 (by rw [e])⟩
      · simp only [Prod.mk.injEq] at h1
        exact .inr ⟨h1.1, h1.2.1, h1.2.2⟩)
  exact ⟨w1, hr, ⟨h.blk.but hb h.ne, hm, by rw [gaveS_len]; exact h.len, h.lo, h.hi, h.ok.gaveS hp x, h.ne⟩, hb⟩
set_option maxRecDepth 100000 in
set_option maxHeartbeats 4000000 in
theorem spgive_any (h : SpM w gs gm n S) {p : Int} (hp : i64 p) (x : En) : Calls Try.prog 14 #[ptr gs, .int .i64 p, evalE x] w fun e w' => e = .returned (.tuple #[.int .i64 (givI S p), .int .i64 (givE S p)]) ∧ SpTo w gs gm n (gaveS S p x) w' := by
  obtain ⟨w0, hw0⟩ : ∃ w0, w0 = w.alloc (.cells (ecells x).toArray 33) := ⟨_, rfl⟩
  obtain ⟨gx, hgx⟩ : ∃ gx, gx = w.heap.size := ⟨_, rfl⟩
  have k0 : Grow w w0 := by rw [hw0]; exact (But.refl _ w).alloc _
  have b0 : Blk w0 gx 33 (ecells x) := by rw [hw0]; exact Blk.new hgx.symm
  have HH := Hid.mk' h
  have HH0 := Hid.mk' (h.grow k0)
  have HOF := Hid.mk' (spof_any (h.grow k0) hp)
  have HPI := Hid.mk' hp
  have HK0 := Hid.mk' k0
  have HB0 := Hid.mk' b0
  have HW0 := Hid.mk' hw0
  have HGX := Hid.mk' hgx
  obtain ⟨I, hI⟩ : ∃ I, I = ofI S p := ⟨_, rfl⟩
  obtain ⟨X, hX⟩ : ∃ X, X = ofX S p := ⟨_, rfl⟩
  obtain ⟨B, hB⟩ : ∃ B, B = ofB S p := ⟨_, rfl⟩
  rw [← hI, ← hX, ← hB] at HOF
  have HI := Hid.mk' hI
  have HB := Hid.mk' hB
  have HX1 : Hid (∀ w1 : World, ∃ w2, (storeVar 33 ⟨w1.heap.size, 0, none⟩ (evalE X)).run Try.prog (w1.alloc (.cells #[.int .u32 0, .int .u32 0, .int .u64 0] 33)) = .ok () w2 ∧ Grow w1 w2) := fun w1 => by
    obtain ⟨w2, q1, -, q3⟩ := boxEn (w := w1.alloc (.cells #[.int .u32 0, .int .u32 0, .int .u64 0] 33)) (g := w1.heap.size) (L := [.int .u32 0, .int .u32 0, .int .u64 0]) rfl (Blk.new rfl) X
    exact ⟨w2, q1, ((But.refl (fun _ => False) w1).alloc _).then q3 (fun b hb e => by omega)⟩
  clear h hp k0 b0 hw0 hgx hI hX hB
  show Calls _ _ #[_, _, .agg (ecells x).toArray] _ _
  go_enter Try.func14, Try.ntmps14
  go_upto_region 1 with fail
  rw [← HW0.out, ← HGX.out]
  go_wp2_with fail
  refine Calls.mono HOF.out ?_
  rintro e w1 ⟨rfl, k1⟩
  have HK1 := Hid.mk' k1
  obtain ⟨w2, hs2, k2⟩ := HX1.out w1
  have HS2 := Hid.mk' hs2
  have HK2 := Hid.mk' (k1.trans k2)
  have HM2 := Hid.mk' (HH0.out.grow (k1.trans k2))
  have HB2 := Hid.mk' (HB0.out.but (k1.trans k2) (fun h => h))
  clear k1 hs2 k2 HOF HX1
  cases hbo : B
  case' true =>
    have HSL : Hid (slotS S p = some I) := by
      show slotS S p = _
      have h1 := HB.out
      rw [hbo] at h1
      unfold ofB at h1
      have h2 := HI.out
      unfold ofI at h2
      unfold slotS
      cases e : whoS S p with
      | none => rw [e] at h1; cases h1
      | some i => rw [e] at h2; rw [h2]; rfl
    obtain ⟨J, hJ⟩ : ∃ J, J = I := ⟨_, rfl⟩
    have HSJ : Hid (slotS S p = some J) := by show slotS S p = _; rw [hJ]; exact HSL.out
    clear HSL
    subst hJ
    go_upto_region 8 with (first
      | (refine wpList_runH rfl (exec_allocF rfl (zeroE w1)) ?_)
      | (refine wpList_skipH rfl (exec_stF (v := evalE X) rfl rfl rfl HS2.out) ?_)
      | fail)
    obtain ⟨w3, hw3⟩ : ∃ w3, w3 = w2 := ⟨_, rfl⟩
    subst hw3
    have HK3 : Hid (Grow w w3) := HK0.out.trans HK2.out
    have HB3 := HB2
  case' false =>
    have hwn : whoS S p = none := by
      have h1 := HB.out
      rw [hbo] at h1
      unfold ofB at h1
      cases e : whoS S p with
      | none => rfl
      | some i => rw [e] at h1; cases h1
    have hsg : slotS S p = gapS S := by unfold slotS; rw [hwn]; rfl
    have HSG := Hid.mk' hsg
    clear hwn hsg
    have HLE := Hid.mk' (spleast_any HM2.out)
    go_wp2_with (first
      | (refine wpList_runH rfl (exec_allocF rfl (zeroE w1)) ?_)
      | (refine wpList_skipH rfl (exec_stF (v := evalE X) rfl rfl rfl HS2.out) ?_)
      | fail)
    refine Calls.mono HLE.out ?_
    rintro e w3 ⟨rfl, k3⟩
    have HG3 := Hid.mk' k3
    clear k3 HLE
    obtain hga | ⟨J, hga⟩ : gapS S = none ∨ ∃ J, gapS S = some J := by cases gapS S <;> simp
    · have hgi : gapI S = -1 := by unfold gapI; rw [hga]
      rw [hgi]
      have HE1 : Hid (givI S p = 0 ∧ givE S p = 11 ∧ gaveS S p x = S) := by
        have h1 := HSG.out
        rw [hga] at h1
        refine ⟨?_, ?_, ?_⟩
        · unfold givI; rw [h1]
        · unfold givE; rw [h1]
        · unfold gaveS; rw [h1]
      go_wp2
      refine bodyPost_ret (results_tmp2 rfl _ _ _) rfl ?_
      have kk := (HK0.out.trans HK2.out).trans HG3.out
      rw [HE1.out.1, HE1.out.2.1, HE1.out.2.2]
      exact ⟨rfl, HH.out.grow kk, kk.mono (fun _ _ h => h.elim)⟩
    have hgi : gapI S = (J : Int) := by unfold gapI; rw [hga]
    have hj0 : ¬ ((J : Int) < 0) := by omega
    rw [hgi]
    have HSJ : Hid (slotS S p = some J) := HSG.out.trans hga
    clear hga hgi
    go_upto_region 8 with fail
    have HK3 : Hid (Grow w w3) := (HK0.out.trans HK2.out).trans HG3.out
    have HB3 := Hid.mk' (HB2.out.but HG3.out (fun h => h))
  all_goals
    have HE1 : Hid (givI S p = (J : Int) ∧ givE S p = 0) := by
      have h1 := HSJ.out
      refine ⟨?_, ?_⟩
      · unfold givI; rw [h1]
      · unfold givE; rw [h1]
    have HBU : Hid (∀ w : World, (Instr.build 58 #[(0, .int .i64 (J : Int)), (1, .agg (ecells x).toArray)]).run Try.prog w = .ok (.agg (scl J x).toArray) w) := fun w => by kernel_rfl
    refine region_chain [([0, 1, 2, 3, 4, 5, 6, 7], 8)] [] (Grow w3) (Grow w3) (by kernel_rfl) (by kernel_rfl) (fun _ _ h k => h.trans k) (fun _ h => h) ((But.refl _ w3).drew) ?_
    intro ι hne X0 hX
    have d1 : ∀ x, (X0 x).cell? ⟨gs, 1, none⟩ = some (.map (some gm)) := fun x => (HH.out.grow (HK3.out.trans (hX x))).blk.cell 1
    have DE : Hid (∀ z, ∀ j u, (ecells x)[j]? = some u → (X0 z).cell? ((⟨gx, 0, none⟩ : Addr).add j) = some u) := fun z => (HB3.out.but (hX z) (fun h => h)).cells0
    iterate 6 (refine still_step rfl (fun K hK => ?_); go_simp; refine hK _ ?_; clear hK K)
    refine still_val rfl (evalE x) rfl (fun z => exec_ldE (DE.out z) rfl rfl) ?_
    intro K hK; go_simp; refine hK _ ?_; clear hK K
    refine still_val rfl (.agg (scl J x).toArray) rfl (fun z => exec_build _ [(0, .tmp 31), (1, .tmp 32)] rfl _ rfl _ (HBU.out _)) ?_
    intro K hK; go_simp; refine hK _ ?_; clear hK K
    refine still_nil ?_
    clear d1 DE hX hne X0 ι
    refine turn_run rfl rfl (fun _ w' => SpTo w gs gm n (gaveS S p x) w') (fun _ _ => True) (fun _ _ _ h k => h.grow k) (fun _ _ _ => trivial) (.inl (by kernel_rfl)) ?_ ?_
    · intro w4 h4
      have kk := HK3.out.trans h4
      obtain ⟨w5, q1, q2⟩ := (HH.out.grow kk).put HPI.out HSJ.out x
      exact ⟨undef, w5, .inr ⟨exec_mapUpdate rfl rfl rfl rfl q1, rfl⟩, q2.m, (kk.mono (fun _ _ h => h.elim)).trans q2.but⟩
    rintro v5 - Y hY
    go_simp
    refine hY _ ?_
    clear hY Y
    intro ι hne X0 hX
    refine still_nil ?_
    clear hX hne
    intro w6 hw6
    have HW6 := Hid.mk' hw6
    clear hw6
    go_wp2
    refine bodyPost_ret (results_tmp2 rfl _ _ _) rfl ?_
    rw [HE1.out.1, HE1.out.2]
    exact ⟨rfl, HW6.out⟩
end
end Go.Proofs.Ytehajgfjdmhdpaa
