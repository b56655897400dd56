/- latch: queue. -/
import Derived.Test.YtgldkckhliklhaaLtHold
namespace Go.Proofs.Ytgldkckhliklhaa
open Go.RowKit Go.Maps

section
variable {w w' : World} {own own' : Owner} {gt gl gh gw : Nat} {lb hb : Int → Nat} {KL TL : List Int} {c : Lc} {s : Ls} {R : Nat → Prop} {T : Tag}
set_option maxRecDepth 100000 in
set_option maxHeartbeats 4000000 in
theorem lqueue_any (h : Lm w own gt gl gh gw lb hb KL TL c) {tk ky : Int} {al : Bool} (h1 : i64 tk) (h2 : i64 ky) (hnw : ∀ y ∈ c.qw, y.1 ≠ tk) (hql : c.qq.length < 10000) : Calls Try.prog 27 #[ptr gt, .int .i64 tk, .agg #[.int .i64 ky, .bool al]] w fun e w' => e = .returned (.tuple #[]) ∧ QueTo w own gt gl gh gw hb TL ky { c with qw := c.qw ++ [(tk, ky, al)], qq := c.qq ++ [(tk, ky, al)] } w' := by
  obtain ⟨w1, hw1⟩ : ∃ w1, w1 = w.alloc (.cells #[.int .i64 ky, .bool al] 60) := ⟨_, rfl⟩
  obtain ⟨g5, hg5⟩ : ∃ g5, g5 = w.heap.size := ⟨_, rfl⟩
  have k1 : Grow w w1 := by rw [hw1]; exact (But.refl _ w).alloc _
  have b5 : Blk w1 g5 60 [.int .i64 ky, .bool al] := by rw [hw1]; exact Blk.new (L := [.int .i64 ky, .bool al]) hg5.symm
  have HW1 := Hid.mk' hw1
  have HG5 := Hid.mk' hg5
  have HK1 := Hid.mk' k1
  have HM1 := Hid.mk' (h.grow k1)
  have HB51 := Hid.mk' b5
  have HI1 := Hid.mk' h1
  have HI2 := Hid.mk' h2
  have HNW := Hid.mk' hnw
  have HQL := Hid.mk' hql
  have HGW : Hid (Wo own gw) := by show own gw ≠ .none; rw [h.ow]; decide
  have HN5' : Hid (own g5 = .none) := by show _ = _; rw [hg5]; exact h.top _ (Nat.le_refl _)
  clear h h1 h2 hnw hql hw1 hg5 k1 b5
  go_enter Try.func27, Try.ntmps27
  go_upto_region 1 with fail
  rw [← HW1.out, ← HG5.out]
  clear HW1
  by_cases hk : ky ∈ KL
  · refine region_chain [] [0, 1, 2, 3, 4, 5, 6, 7] (Grow w1) (Grow w1) (by kernel_rfl) (by kernel_rfl) (fun _ _ h k => h.trans k) (fun _ h => h) ((But.refl _ w1).drew) ?_
    intro ι hne X hX
    have d0 : ∀ x, (X x).cell? ⟨gt, 0, none⟩ = some (.map (some gl)) := fun x => (HM1.out.blk.but (hX x) (fun h => h)).cell 0
    have d1 : ∀ x, (X x).cell? ⟨g5, 0, none⟩ = some (.int .i64 ky) := fun x => (HB51.out.but (hX x) (fun h => h)).cell 0
    iterate 6 (refine still_step rfl (fun K hK => ?_); go_simp; refine hK _ ?_; clear hK K)
    refine still_val rfl (ptr (lb ky)) rfl (fun z => exec_lookup rfl rfl rfl (((HM1.out.grow (hX z)).lookL HI2.out).1 hk)) ?_
    intro K hK; go_simp; refine hK _ ?_; clear hK K
    iterate 1 (refine still_step rfl (fun K hK => ?_); go_simp; refine hK _ ?_; clear hK K)
    refine still_nil ?_
    clear hX hne d0 d1 X ι
    intro wA hwA
    have HMA := Hid.mk' (HM1.out.grow hwA)
    have HKA : Hid (ky ∈ KL) := hk
    have HB5 := Hid.mk' (HB51.out.but hwA (fun h => h))
    have HSA : Hid (Sub w own own) := Sub.refl _ _
    have HBA : Hid (But (Wo own) w wA) := (HK1.out.trans hwA).mono (fun _ _ h => h.elim)
    have HN5 : Hid (¬ Wo own g5) := fun e => e HN5'.out
    have HWO : Hid (∀ b, b < w.heap.size → Wo own b → Wo own b) := fun _ _ h => h
    clear hwA hk HM1 HB51
    have hkA := HKA.out
    obtain ⟨u, hbu, hqu⟩ := HMA.out.each _ hkA
    obtain ⟨ua, uc, hul⟩ := hqu.len
    obtain ⟨ul, hull⟩ : ∃ ul, ul = (qkl c.qq ky).length := ⟨_, rfl⟩
    rw [← hull] at hul
    subst hul
    have HQU := Hid.mk' hqu
    have HUL : Hid (ul ≤ 10000 ∧ ul = (qkl c.qq ky).length) := by
      refine ⟨?_, hull⟩
      rw [hull]
      unfold qkl
      rw [List.length_map]
      exact Nat.le_trans (List.length_filter_le _ _) (Nat.le_of_lt HQL.out)
    have c2 : wA.cell? ⟨lb ky, 2, none⟩ = some (.slice ua ul uc) := hbu.cell 2
    have HAL : Hid (Grow wA (wA.alloc (.cells #[.int .i64 tk] 3))) := (But.refl _ wA).alloc _
    have HBL : Hid (Blk (wA.alloc (.cells #[.int .i64 tk] 3)) wA.heap.size 3 [.int .i64 tk]) := Blk.new (L := [.int .i64 tk]) rfl
    have HBU := Hid.mk' hbu
    have HNB : Hid (¬ Is own (tQ ky) (lb ky)) := fun e => tLQ _ _ ((HMA.out.olb _ HKA.out).symm.trans e)
    clear hbu hqu hull hkA
    go_upto_region 6 with (first
      | (refine wpList_runH rfl (exec_row1 Try.underlying33 infNum (by decide) (by decide) rfl rfl rfl) ?_)
      | (refine wpList_someH rfl (Qu.push (v := .slice ua ul uc) (t := tk) (ts := qkl c.qq ky) rfl rfl (HQU.out.grow HAL.out) rfl HBL.out (by have := HUL.out; omega)) ?_; intro v6 w6 hap; obtain ⟨hq6, hk6, a6, c6, e6⟩ := hap; subst e6; have d6 : w6.cell? ⟨lb ky, 2, none⟩ = some (.slice ua ul uc) := ((HBU.out.but HAL.out (fun h => h)).but hk6 HNB.out).cell 2; have f6 : w6.frozen? ⟨lb ky, 2, none⟩ = false := ((HBU.out.but HAL.out (fun h => h)).but hk6 HNB.out).free 2)
      | fail)
    have hk6' : But (Is own (tQ ky)) wA w6 := (HAL.out.mono (fun _ _ h => h.elim)).trans hk6
    have hsA := HAL.out.size
    have hq6' : Qu w6 (fun b => Is own (tQ ky) b ∨ ((wA.alloc (.cells #[.int .i64 tk] 3)).heap.size ≤ b ∧ b < w6.heap.size)) (.slice a6 ((qkl c.qq ky).length + 1) c6) (qkl c.qq ky ++ [tk]) := hq6
    obtain ⟨own2, hm2, hs2, hb2⟩ := HMA.out.queued (x := (tk, ky, al)) HKA.out HQL.out hk6' (hq6'.but (But.refl (fun _ => False) _) (fun _ _ h => h) (fun j hj => hj.elim .inl (fun e => .inr ⟨by omega, e.2⟩)))
    rw [← HUL.out.2] at hm2 hb2
    obtain ⟨W2, hW2⟩ : ∃ W2, W2 = w6.setCell ⟨lb ky, 2, none⟩ (.slice a6 (ul + 1) c6) := ⟨_, rfl⟩
    have HM2 : Hid (Lm W2 own2 gt gl gh gw lb hb KL TL { c with qq := c.qq ++ [(tk, ky, al)] }) := by rw [hW2]; exact hm2
    have HB2 : Hid (But (Wo own) wA W2) := by rw [hW2]; exact hb2
    have HS2 := Hid.mk' hs2
    have h5 : Blk W2 g5 60 [.int .i64 ky, .bool al] := by
      rw [hW2]
      exact HB5.out.but hb2 HN5.out
    have HB52 := Hid.mk' h5
    have HUL2 := Hid.mk' HUL.out.2
    first
      | rw [← hW2]
      | (rw [show (qkl c.qq ky).length = ul from HUL.out.2.symm, ← hW2])
    clear hm2 hs2 hb2 hW2 h5 hq6 hq6' hk6 hk6' d6 f6 c2 hsA HQU HBU HAL HBL
    refine region_chain [([0, 1, 2, 3, 4, 5], 6)] [] (Grow W2) (Grow W2) (by kernel_rfl) (by kernel_rfl) (fun _ _ h k => h.trans k) (fun _ h => h) ((But.refl _ W2).drew) ?_
    intro ι hne X hX
    have d2 : ∀ x, (X x).cell? ⟨gt, 2, none⟩ = some (.map (some gw)) := fun x => (HM2.out.blk.but (hX x) (fun h => h)).cell 2
    iterate 5 (refine still_step rfl (fun K hK => ?_); go_simp; refine hK _ ?_; clear hK K)
    refine still_val rfl (.agg #[.int .i64 ky, .bool al]) rfl (fun z => exec_ldF (cs := [.int .i64 ky, .bool al]) Try.underlying60 rfl iWt (HB52.out.but (hX z) (fun h => h)).cells0 rfl rfl) ?_
    intro K hK; go_simp; refine hK _ ?_; clear hK K
    refine still_nil ?_
    clear hX hne d2 X ι
    refine turn_run rfl rfl (fun _ w' => QueTo w own gt gl gh gw hb TL ky { c with qw := c.qw ++ [(tk, ky, al)], qq := c.qq ++ [(tk, ky, al)] } w') (fun _ _ => True) (fun _ _ _ h k => by
      obtain ⟨o, l, K', h1, h2, h3, h4⟩ := h
      exact ⟨o, l, K', h1.grow k, h2, h3, h4.trans (k.mono (fun _ _ h => h.elim))⟩) (fun _ _ _ => trivial) (.inl (by kernel_rfl)) ?_ ?_
    · intro w7 k7
      have hm7 := HM2.out.grow k7
      obtain ⟨w8, hr8, hw8, hb8, -⟩ := hm7.wai.put (t := 50) (et := 60) keyIa Try.underlying50 (tk, ky, al) (keyOfIa _ HI1.out) (fun y hy e => HNW.out y hy (iv_inj e))
      have hm8 := hm7.setW hb8 hw8
      refine turn_put rfl rfl rfl rfl hr8 ⟨own2, lb, KL, hm8, HKA.out, HSA.out.trans HBA.out.size HS2.out, ?_⟩
      refine HBA.out.then ((HB2.out.trans (k7.mono (fun _ _ h => h.elim)))) (fun b hb e => ?_) |>.then hb8 (fun b hb e => ?_)
      · exact HWO.out b hb e
      · rw [e]
        exact HGW.out
    rintro _ - Y hY
    go_simp
    refine hY _ ?_
    clear hY Y
    intro ι hne X hX
    refine still_nil ?_
    clear hX hne
    intro w9 hw9
    have HFIN := Hid.mk' hw9
    clear hw9
    go_wp2
    go_end0
    exact ⟨rfl, HFIN.out⟩
  · refine region_chain [] [0, 1, 2, 3, 4, 5, 6, 7] (Grow w1) (Grow w1) (by kernel_rfl) (by kernel_rfl) (fun _ _ h k => h.trans k) (fun _ h => h) ((But.refl _ w1).drew) ?_
    intro ι hne X hX
    have d0 : ∀ x, (X x).cell? ⟨gt, 0, none⟩ = some (.map (some gl)) := fun x => (HM1.out.blk.but (hX x) (fun h => h)).cell 0
    have d1 : ∀ x, (X x).cell? ⟨g5, 0, none⟩ = some (.int .i64 ky) := fun x => (HB51.out.but (hX x) (fun h => h)).cell 0
    iterate 6 (refine still_step rfl (fun K hK => ?_); go_simp; refine hK _ ?_; clear hK K)
    refine still_val rfl (.pointer none) rfl (fun z => exec_lookup rfl rfl rfl (((HM1.out.grow (hX z)).lookL HI2.out).2 hk)) ?_
    intro K hK; go_simp; refine hK _ ?_; clear hK K
    iterate 1 (refine still_step rfl (fun K hK => ?_); go_simp; refine hK _ ?_; clear hK K)
    refine still_nil ?_
    clear hX hne d0 d1 X ι
    intro w2 hw2
    obtain ⟨w3, hw3⟩ : ∃ w3, w3 = w2.alloc (.cells #[.int .i64 0, .bool false, .slice none 0 0] 67) := ⟨_, rfl⟩
    obtain ⟨g6, hg6⟩ : ∃ g6, g6 = w2.heap.size := ⟨_, rfl⟩
    have k3 : Grow w2 w3 := by rw [hw3]; exact (But.refl _ w2).alloc _
    have b6 : Blk w3 g6 67 [.int .i64 0, .bool false, .slice none 0 0] := by rw [hw3]; exact Blk.new (L := [.int .i64 0, .bool false, .slice none 0 0]) hg6.symm
    have HW3 := Hid.mk' hw3
    have HG6 := Hid.mk' hg6
    have HM3 := Hid.mk' (HM1.out.grow (hw2.trans k3))
    have HM2' := Hid.mk' (HM1.out.grow hw2)
    have HK23 := Hid.mk' k3
    have HB6 := Hid.mk' b6
    have HB53 := Hid.mk' (HB51.out.but (hw2.trans k3) (fun h => h))
    have HKW := Hid.mk' (HK1.out.trans (hw2.trans k3))
    have HSZ2 := Hid.mk' (Nat.le_trans HK1.out.size hw2.size)
    have HKN : Hid (ky ∉ KL) := hk
    have HSZ12 := Hid.mk' hw2.size
    clear hw2 k3 b6 hw3 hg6 hk
    go_upto_region 4 with (first
      | (refine wpList_build_run rfl _ [] rfl [] rfl _ (bldLt _) ?_)
      | fail)
    rw [← HW3.out, ← HG6.out]
    clear HW3
    refine region_chain [([0, 1, 2, 3, 4, 5, 6], 7)] [] (Grow w3) (Grow w3) (by kernel_rfl) (by kernel_rfl) (fun _ _ h k => h.trans k) (fun _ h => h) ((But.refl _ w3).drew) ?_
    intro ι hne X hX
    have d0 : ∀ x, (X x).cell? ⟨gt, 0, none⟩ = some (.map (some gl)) := fun x => (HM3.out.blk.but (hX x) (fun h => h)).cell 0
    have d1 : ∀ x, (X x).cell? ⟨g5, 0, none⟩ = some (.int .i64 ky) := fun x => (HB53.out.but (hX x) (fun h => h)).cell 0
    iterate 7 (refine still_step rfl (fun K hK => ?_); go_simp; refine hK _ ?_; clear hK K)
    refine still_nil ?_
    clear hX hne d0 d1 X ι
    refine turn_run rfl rfl (fun _ w' => Lm w' (tagAt own g6 (tL ky)) gt gl gh gw (fun j => if j = ky then g6 else lb j) hb (KL ++ [ky]) TL c ∧ Blk w' g5 60 [.int .i64 ky, .bool al] ∧ But (Wo own) w w') (fun _ _ => True) (fun _ _ _ h k => ⟨h.1.grow k, h.2.1.but k (fun h => h), h.2.2.trans (k.mono (fun _ _ h => h.elim))⟩) (fun _ _ _ => trivial) (.inl (by kernel_rfl)) ?_ ?_
    · intro w4 k4
      have hm4 := HM3.out.grow k4
      have hl4 : MapOf 3 w4 gl iv (fun j => ptr (if j = ky then g6 else lb j)) KL := hm4.lat.congr (fun j hj => by rw [if_neg (fun e => HKN.out (by rw [← e]; exact hj))])
      obtain ⟨w5, hr5, hl5, hb5, hs5⟩ := hl4.put (t := 48) (et := 54) keyIa Try.underlying48 ky (keyOfIa _ HI2.out) (fun y hy e => HKN.out (by rw [← iv_inj e]; exact hy))
      simp only [if_true] at hr5
      have hgl := HM2'.out.lat.lt
      have h6l : ¬ (g6 = gl) := by have := HG6.out; omega
      have kk : But (· = gl) w2 w5 := ((HK23.out.trans k4).mono (fun _ _ h => h.elim)).trans hb5
      have hb6 := (HB6.out.but k4 (fun h => h)).but hb5 h6l
      have hfin := HM2'.out.addL HKN.out (Nat.le_of_eq HG6.out.symm) hb6.lt kk hl5 hb6
      have h5l : ¬ (g5 = gl) := fun e => by
        have := HM2'.out.ol
        rw [← e, HN5'.out] at this
        cases this
      refine turn_put rfl rfl rfl rfl hr5 ⟨hfin, (HB53.out.but k4 (fun h => h)).but hb5 h5l, ?_⟩
      exact ((HKW.out.trans k4).mono (fun _ _ h => h.elim)).trans (hb5.mono (fun b _ e => by rw [e]; show own gl ≠ .none; rw [HM2'.out.ol]; decide))
    rintro _ - Y hY
    go_simp
    refine hY _ ?_
    clear hY Y
    intro ι hne X hX
    refine still_nil ?_
    clear hX hne X ι
    rintro wA ⟨hmA, hb5A, hbA⟩
    have HMA := Hid.mk' hmA
    have HKA : Hid (ky ∈ KL ++ [ky]) := List.mem_append_right _ List.mem_cons_self
    have HB5 := Hid.mk' hb5A
    have HSA : Hid (Sub w own (tagAt own g6 (tL ky))) := Sub.at (.inl (by have := HSZ2.out; have := HG6.out; omega))
    have HBA := Hid.mk' hbA
    have HN5 : Hid (¬ Wo (tagAt own g6 (tL ky)) g5) := fun e => by
      unfold Wo tagAt at e
      rw [if_neg (fun e2 => by have := HG5.out; have := HG6.out; have := HB51.out.lt; have := HSZ12.out; omega), HN5'.out] at e
      exact e rfl
    have HWO : Hid (∀ b, b < w.heap.size → Wo (tagAt own g6 (tL ky)) b → Wo own b) := fun b hb e => by
      unfold Wo tagAt at e
      rw [if_neg (by have := HSZ2.out; have := HG6.out; omega)] at e
      exact e
    have hif : (if ky = ky then g6 else lb ky) = g6 := if_pos rfl
    clear hmA hb5A hbA HM1 HB51 HM3 HM2' HK23 HB6 HB53 HKW
    have hkA := HKA.out
    obtain ⟨u, hbu, hqu⟩ := HMA.out.each _ hkA
    rw [hif] at hbu
    obtain ⟨ua, uc, hul⟩ := hqu.len
    obtain ⟨ul, hull⟩ : ∃ ul, ul = (qkl c.qq ky).length := ⟨_, rfl⟩
    rw [← hull] at hul
    subst hul
    have HQU := Hid.mk' hqu
    have HUL : Hid (ul ≤ 10000 ∧ ul = (qkl c.qq ky).length) := by
      refine ⟨?_, hull⟩
      rw [hull]
      unfold qkl
      rw [List.length_map]
      exact Nat.le_trans (List.length_filter_le _ _) (Nat.le_of_lt HQL.out)
    have c2 : wA.cell? ⟨g6, 2, none⟩ = some (.slice ua ul uc) := hbu.cell 2
    have HAL : Hid (Grow wA (wA.alloc (.cells #[.int .i64 tk] 3))) := (But.refl _ wA).alloc _
    have HBL : Hid (Blk (wA.alloc (.cells #[.int .i64 tk] 3)) wA.heap.size 3 [.int .i64 tk]) := Blk.new (L := [.int .i64 tk]) rfl
    have HBU := Hid.mk' hbu
    have HNB : Hid (¬ Is (tagAt own g6 (tL ky)) (tQ ky) g6) := fun e => tLQ _ _ ((show tagAt own g6 (tL ky) g6 = tL ky from tagAt_own).symm.trans e)
    clear hbu hqu hull hkA
    go_upto_region 6 with (first
      | (refine wpList_runH rfl (exec_row1 Try.underlying33 infNum (by decide) (by decide) rfl rfl rfl) ?_)
      | (refine wpList_someH rfl (Qu.push (v := .slice ua ul uc) (t := tk) (ts := qkl c.qq ky) rfl rfl (HQU.out.grow HAL.out) rfl HBL.out (by have := HUL.out; omega)) ?_; intro v6 w6 hap; obtain ⟨hq6, hk6, a6, c6, e6⟩ := hap; subst e6; have d6 : w6.cell? ⟨g6, 2, none⟩ = some (.slice ua ul uc) := ((HBU.out.but HAL.out (fun h => h)).but hk6 HNB.out).cell 2; have f6 : w6.frozen? ⟨g6, 2, none⟩ = false := ((HBU.out.but HAL.out (fun h => h)).but hk6 HNB.out).free 2)
      | fail)
    have hk6' : But (Is (tagAt own g6 (tL ky)) (tQ ky)) wA w6 := (HAL.out.mono (fun _ _ h => h.elim)).trans hk6
    have hsA := HAL.out.size
    have hq6' : Qu w6 (fun b => Is (tagAt own g6 (tL ky)) (tQ ky) b ∨ ((wA.alloc (.cells #[.int .i64 tk] 3)).heap.size ≤ b ∧ b < w6.heap.size)) (.slice a6 ((qkl c.qq ky).length + 1) c6) (qkl c.qq ky ++ [tk]) := hq6
    obtain ⟨own2, hm2, hs2, hb2⟩ := HMA.out.queued (x := (tk, ky, al)) HKA.out HQL.out hk6' (hq6'.but (But.refl (fun _ => False) _) (fun _ _ h => h) (fun j hj => hj.elim .inl (fun e => .inr ⟨by omega, e.2⟩)))
    simp only [if_true] at hm2 hb2
    rw [← HUL.out.2] at hm2 hb2
    obtain ⟨W2, hW2⟩ : ∃ W2, W2 = w6.setCell ⟨g6, 2, none⟩ (.slice a6 (ul + 1) c6) := ⟨_, rfl⟩
    have HM2 : Hid (Lm W2 own2 gt gl gh gw (fun j => if j = ky then g6 else lb j) hb (KL ++ [ky]) TL { c with qq := c.qq ++ [(tk, ky, al)] }) := by rw [hW2]; exact hm2
    have HB2 : Hid (But (Wo (tagAt own g6 (tL ky))) wA W2) := by rw [hW2]; exact hb2
    have HS2 := Hid.mk' hs2
    have h5 : Blk W2 g5 60 [.int .i64 ky, .bool al] := by
      rw [hW2]
      exact HB5.out.but hb2 HN5.out
    have HB52 := Hid.mk' h5
    have HUL2 := Hid.mk' HUL.out.2
    first
      | rw [← hW2]
      | (rw [show (qkl c.qq ky).length = ul from HUL.out.2.symm, ← hW2])
    clear hm2 hs2 hb2 hW2 h5 hq6 hq6' hk6 hk6' d6 f6 c2 hsA HQU HBU HAL HBL
    refine region_chain [([0, 1, 2, 3, 4, 5], 6)] [] (Grow W2) (Grow W2) (by kernel_rfl) (by kernel_rfl) (fun _ _ h k => h.trans k) (fun _ h => h) ((But.refl _ W2).drew) ?_
    intro ι hne X hX
    have d2 : ∀ x, (X x).cell? ⟨gt, 2, none⟩ = some (.map (some gw)) := fun x => (HM2.out.blk.but (hX x) (fun h => h)).cell 2
    iterate 5 (refine still_step rfl (fun K hK => ?_); go_simp; refine hK _ ?_; clear hK K)
    refine still_val rfl (.agg #[.int .i64 ky, .bool al]) rfl (fun z => exec_ldF (cs := [.int .i64 ky, .bool al]) Try.underlying60 rfl iWt (HB52.out.but (hX z) (fun h => h)).cells0 rfl rfl) ?_
    intro K hK; go_simp; refine hK _ ?_; clear hK K
    refine still_nil ?_
    clear hX hne d2 X ι
    refine turn_run rfl rfl (fun _ w' => QueTo w own gt gl gh gw hb TL ky { c with qw := c.qw ++ [(tk, ky, al)], qq := c.qq ++ [(tk, ky, al)] } w') (fun _ _ => True) (fun _ _ _ h k => by
      obtain ⟨o, l, K', h1, h2, h3, h4⟩ := h
      exact ⟨o, l, K', h1.grow k, h2, h3, h4.trans (k.mono (fun _ _ h => h.elim))⟩) (fun _ _ _ => trivial) (.inl (by kernel_rfl)) ?_ ?_
    · intro w7 k7
      have hm7 := HM2.out.grow k7
      obtain ⟨w8, hr8, hw8, hb8, -⟩ := hm7.wai.put (t := 50) (et := 60) keyIa Try.underlying50 (tk, ky, al) (keyOfIa _ HI1.out) (fun y hy e => HNW.out y hy (iv_inj e))
      have hm8 := hm7.setW hb8 hw8
      refine turn_put rfl rfl rfl rfl hr8 ⟨own2, (fun j => if j = ky then g6 else lb j), (KL ++ [ky]), hm8, HKA.out, HSA.out.trans HBA.out.size HS2.out, ?_⟩
      refine HBA.out.then ((HB2.out.trans (k7.mono (fun _ _ h => h.elim)))) (fun b hb e => ?_) |>.then hb8 (fun b hb e => ?_)
      · exact HWO.out b hb e
      · rw [e]
        exact HGW.out
    rintro _ - Y hY
    go_simp
    refine hY _ ?_
    clear hY Y
    intro ι hne X hX
    refine still_nil ?_
    clear hX hne
    intro w9 hw9
    have HFIN := Hid.mk' hw9
    clear hw9
    go_wp2
    go_end0
    exact ⟨rfl, HFIN.out⟩
end
end Go.Proofs.Ytgldkckhliklhaa
