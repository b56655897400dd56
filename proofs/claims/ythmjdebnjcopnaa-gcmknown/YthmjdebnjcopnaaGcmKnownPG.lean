/- What the document tells of sixteen bytes 00. No condition. -/
import Derived.Test.YthmjdebnjcopnaaAllG
namespace Go.Proofs.Ythmjdebnjcopnaa
open Go.ChangeShapes Go.WideShapes Go.ChangeAt Go.RowKit

set_option maxRecDepth 100000 in
set_option maxHeartbeats 4000000 in
theorem gcmKnown_walk (w : World) : Calls Try.prog 8 #[] w fun e w' => e = .returned (.bool true) ∧ Below w.heap.size w w' := by
  have hmk : ∀ wx : World, Sem.run Try.prog (Instr.makeSlice 22 (.int .i64 16) (.int .i64 16)) wx = .ok (.slice (some ⟨wx.heap.size, 0, none⟩) 16 16) (wx.alloc (.cells (u8s (List.replicate 16 0)).toArray 5)) := fun wx => make_bytes wx 16 (by decide)
  obtain ⟨Z, hZ⟩ : ∃ Z, Z = (u8s (List.replicate 16 0)).toArray := ⟨_, rfl⟩
  rw [← hZ] at hmk
  have hK : ∀ wx : World, Bs (wx.alloc (.cells Z 5)) (.slice (some ⟨wx.heap.size, 0, none⟩) 16 16) (nts key0) := by
    intro wx
    rw [hZ]
    exact blk_bs (L := nts key0) (Blk.new rfl) (by decide) (by decide) (nts_lt _)
  have HKB := Hid.mk' hK
  have HN := Hid.mk' (gnew_any (hK w) (.inl rfl))
  clear hZ hK
  go_enter Try.func8, Try.ntmps8
  go_wp2_with fail
  refine Calls.mono HN.out ?_
  rintro e w1 ⟨gx, rfl, hbx, hb1⟩
  have ha : But (fun _ => False) w1 (w1.alloc (.cells Z 5)) := (But.refl _ w1).alloc _
  have HS := Hid.mk' (gseal_any (nc := non0) (hbx.but ha (fun _ _ h => h)) (wlen (.inl rfl)) rfl (Bs.nil (w1.alloc (.cells Z 5))) (HKB.out w1) (by decide) (by decide))
  rw [lit12, show nts key0 = List.replicate 16 0 by decide, seal_0] at HS
  have HT1 : Hid (But (fun _ => False) w (w1.alloc (.cells Z 5))) := (((But.refl _ w).alloc _).trans hb1).trans ha
  clear hbx hb1 ha HN HKB
  go_wp2_with fail
  refine Calls.mono HS.out ?_
  rintro e w2 ⟨v, rfl, ho2, hb2⟩
  have hl : sealed0.length = 32 := by rw [sealed_lit]; rfl
  obtain ⟨g, cap, R, hv, -, -, -, -, -⟩ := ho2.open (by rw [hl]; decide)
  rw [hl] at hv
  subst hv
  have c0 := ho2.cellAt 0 (by rw [hl]; decide)
  have c1 := ho2.cellAt 1 (by rw [hl]; decide)
  have c16 := ho2.cellAt 16 (by rw [hl]; decide)
  have c31 := ho2.cellAt 31 (by rw [hl]; decide)
  rw [sealed_lit] at c0 c1 c16 c31
  have d0 : w2.cell? ⟨g, 0, none⟩ = some (.int .u8 3) := c0
  have d1 : w2.cell? ⟨g, 1, none⟩ = some (.int .u8 136) := c1
  have d16 : w2.cell? ⟨g, 16, none⟩ = some (.int .u8 171) := c16
  have d31 : w2.cell? ⟨g, 31, none⟩ = some (.int .u8 223) := c31
  have HT2 := Hid.mk' (HT1.out.trans hb2)
  clear ho2 hb2 HS HT1 c0 c1 c16 c31 hl
  go_wp2_with fail
  refine Calls.mono (awake_any _) ?_
  rintro e wz ⟨rfl, hbz⟩
  have HTZ := Hid.mk' (HT2.out.trans hbz)
  clear hbz
  go_wp2
  go_ret
  exact ⟨rfl, HTZ.out.below (Nat.le_refl _) (fun _ _ h => h)⟩

set_option maxRecDepth 100000 in
theorem gcmKnown_lifted (os : Os) (started : os.Started) (H : Type) (enc : TypeId × Value → H) :
    ReturnsInHanded {} Try.checked os 8 .any (Rows.gcmKnownSpec.pre6 enc Try.prog Try.f8 Rows.gcmKnownRow.domain false) (Rows.gcmKnownSpec.post enc Try.prog Try.f8 false true false false) := by
  refine returnsInHanded_of_change (C := Try.checked) (by kernel_rfl) started (by kernel_rfl) Try.func8
    (ChangeSpec.witness6 (enc := enc) (C := Try.checked) false ⟨#[], #[], []⟩ 8 (by kernel_rfl) (by kernel_rfl) (by kernel_rfl) (by kernel_rfl)) ?_
  intro W base args ds gs before hval0 hW hcnd _
  have hval : ∀ (j : Nat) t v, Try.f8.params[j]? = some t → args[j]? = some v → Value.okWide Try.prog W .any base t v := hval0
  have hW' := hW
  obtain ⟨p, q, hA0, hV, rfl, hfz, hnd⟩ := hW
  have hA : DataW.TrodAll enc Try.prog W 0 (fun _ => true) true Try.f8.params.toList args.toList ds p := hA0
  rw [Try.params8] at hA hval
  obtain ⟨hargs, rfl, rfl⟩ := trodAll_nil hA
  obtain rfl : args = #[] := by cases args; simp_all
  obtain ⟨rfl, rfl⟩ := trodVars_none hV
  clear hA0 hval0
  refine (gcmKnown_walk  W ).mono fun e W' ⟨he, bel⟩ => ?_
  subst he
  exact ⟨_, rfl, _, _, _, [], _, [], hW', trodAll_mk1 (shut_bool Try.underlying4 _), trodAll_mk0, rfl, bel.frame _, fun h => by cases h⟩

theorem gcmKnown_holds : Rows.GcmKnownSaid :=
  OpenClaim.holds_of_wide 8 Try.f8 rfl rfl rfl rfl rfl rfl rfl ⟨rfl, rfl, rfl, rfl, rfl⟩ rfl rfl rfl rfl rfl (by kernel_rfl) Try.func8 (by kernel_rfl)
    (of_decide_eq_true (by kernel_rfl)) (by unfold Func.isWrapper; first | (rw [if_pos (by decide +kernel)]; kernel_rfl) | (rw [if_neg (by decide +kernel)]; exact ⟨rfl, rfl⟩))
    (fun os started H enc _ => gcmKnown_lifted os started H enc)
#print axioms gcmKnown_holds
end Go.Proofs.Ythmjdebnjcopnaa
