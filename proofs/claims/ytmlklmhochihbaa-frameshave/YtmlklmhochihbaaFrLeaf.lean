/- frames: find, Left, Clean, Written, Pinned. -/
import Derived.Test.YtmlklmhochihbaaFrMem
namespace Go.Proofs.Ytmlklmhochihbaa
open Go.RowKit Go.Maps

theorem zPtr (w : World) : (zeroValue 86).run Try.prog w = .ok (.pointer none) w := by kernel_rfl
theorem zInt (w : World) : (zeroValue 3).run Try.prog w = .ok (.int .i64 0) w := by kernel_rfl
theorem find_nil (w : World) (K : Int) : Calls Try.prog 44 #[.pointer none, .int .i64 K] w fun e w' => e = .returned (.pointer none) ∧ w' = w := by
  go_enter Try.func44, Try.ntmps44
  go_wp2
  go_ret
  exact ⟨rfl, rfl⟩
section
variable {w w' : World} {own own' : Owner} {gt gr gf gp gh gm : Nat} {fb : Int → Nat} {PL : List (Int × Int)} {s s' : St} {R : Nat → Prop}
theorem Fm.wrF (h : Fm w own gt gr gf gp gh gm fb PL s) {e0 : FrE} (he0 : e0 ∈ s.fr) : Wr own (fb e0.1) := by
  unfold Wr
  rw [h.ofb e0 he0]
  exact ⟨(fun e => nomatch e), tFr_byt _⟩
set_option maxRecDepth 100000 in
theorem Fm.looks (h : Fm w own gt gr gf gp gh gm fb PL s) {K : Int} (hK : i64 K) : (s.has K = true → (Instr.lookup 82 (.map (some gf)) (.int .i64 K) false).run Try.prog w = .ok (ptr (fb K)) w) ∧ (s.has K = false → (Instr.lookup 82 (.map (some gf)) (.int .i64 K) false).run Try.prog w = .ok (.pointer none) w) := by
  have hl := h.frm.look (t := 82) (et := 86) keyIa Try.underlying82 zPtr (keyOfIa K hK) false
  refine ⟨fun hh => ?_, fun hh => ?_⟩
  · exact hl.1 K (hasK_keys.1 hh) rfl
  · refine hl.2 (fun x hx e => ?_)
    have : s.has K = true := hasK_keys.2 (by rw [← iv_inj e]; exact hx)
    rw [hh] at this; cases this
set_option maxRecDepth 100000 in
theorem find_has (h : Fm w own gt gr gf gp gh gm fb PL s) {K : Int} (hK : i64 K) (hh : s.has K = true) : Calls Try.prog 44 #[ptr gt, .int .i64 K] w fun e w' => e = .returned (ptr (fb K)) ∧ w' = w := by
  have HL := Hid.mk' ((h.looks hK).1 hh)
  have c3 : w.cell? ⟨gt, 3, none⟩ = some (.map (some gf)) := h.blk.cell 3
  clear h hK hh
  go_enter Try.func44, Try.ntmps44
  go_wp2_with (first
    | (refine wpList_runH rfl (exec_lookup rfl rfl rfl HL.out) ?_)
    | fail)
  go_ret
  exact ⟨rfl, rfl⟩
set_option maxRecDepth 100000 in
theorem find_not (h : Fm w own gt gr gf gp gh gm fb PL s) {K : Int} (hK : i64 K) (hh : s.has K = false) : Calls Try.prog 44 #[ptr gt, .int .i64 K] w fun e w' => e = .returned (.pointer none) ∧ w' = w := by
  have HL := Hid.mk' ((h.looks hK).2 hh)
  have c3 : w.cell? ⟨gt, 3, none⟩ = some (.map (some gf)) := h.blk.cell 3
  clear h hK hh
  go_enter Try.func44, Try.ntmps44
  go_wp2_with (first
    | (refine wpList_runH rfl (exec_lookup rfl rfl rfl HL.out) ?_)
    | fail)
  go_ret
  exact ⟨rfl, rfl⟩
set_option maxRecDepth 100000 in
theorem left_any (h : Ft w own gt s) : Calls Try.prog 24 #[ptr gt] w fun e w' => e = .returned (.int .i64 s.left) ∧ w' = w := by
  obtain ⟨gr, gf, gp, gh, gm, fb, PL, h⟩ := h
  have c1 : w.cell? ⟨gt, 1, none⟩ = some (.int .i64 s.left) := h.blk.cell 1
  generalize s.left = L at *
  clear h
  go_enter Try.func24, Try.ntmps24
  go_wp2
  go_ret
  exact ⟨rfl, rfl⟩
theorem left_nil (w : World) : Calls Try.prog 24 #[.pointer none] w fun e w' => e = .returned (.int .i64 0) ∧ w' = w := by
  go_enter Try.func24, Try.ntmps24
  go_wp2
  go_ret
  exact ⟨rfl, rfl⟩
theorem pinned_nil (w : World) (K : Int) : Calls Try.prog 26 #[.pointer none, .int .i64 K] w fun e w' => e = .returned (.bool false) ∧ w' = w := by
  go_enter Try.func26, Try.ntmps26
  go_wp2_with fail
  refine Calls.mono (find_nil w K) ?_
  rintro e w' ⟨rfl, rfl⟩
  go_wp2
  go_ret
  exact ⟨rfl, rfl⟩
theorem written_nil (w : World) (K : Int) : Calls Try.prog 28 #[.pointer none, .int .i64 K] w fun e w' => e = .returned (.bool false) ∧ w' = w := by
  go_enter Try.func28, Try.ntmps28
  go_wp2_with fail
  refine Calls.mono (find_nil w K) ?_
  rintro e w' ⟨rfl, rfl⟩
  go_wp2
  go_ret
  exact ⟨rfl, rfl⟩
theorem clean_nil (w : World) (K : Int) : Calls Try.prog 27 #[.pointer none, .int .i64 K] w fun e w' => e = .returned (.int .i64 5) ∧ w' = w := by
  go_enter Try.func27, Try.ntmps27
  go_wp2_with fail
  refine Calls.mono (find_nil w K) ?_
  rintro e w' ⟨rfl, rfl⟩
  go_wp2
  go_ret
  exact ⟨rfl, rfl⟩
theorem St.at_mark (h : Sok s) {e : FrE} (he : e ∈ s.fr) : s.mark e.1 = e.2.2 ∧ s.bytes e.1 = e.2.1 := by
  unfold St.mark St.bytes
  rw [find_key h.nd he]
  exact ⟨rfl, rfl⟩
theorem St.mark_none {K : Int} (hh : s.has K = false) : s.mark K = false := by
  unfold St.mark
  rw [List.find?_eq_none.2 (fun e he => by simpa using St.has_not.1 hh e he)]
  rfl
theorem St.pinned_none (h : Sok s) {K : Int} (hh : s.has K = false) : s.pinned K = false := by
  unfold St.pinned
  rw [List.any_eq_false]
  intro p hp e
  have h1 := (h.pk p hp).2.2
  rw [show p.2 = K by simpa using e, hh] at h1
  cases h1
set_option maxRecDepth 100000 in
theorem written_any (h : Ft w own gt s) {K : Int} (hK : i64 K) : Calls Try.prog 28 #[ptr gt, .int .i64 K] w fun e w' => e = .returned (.bool (s.mark K)) ∧ w' = w := by
  obtain ⟨gr, gf, gp, gh, gm, fb, PL, h⟩ := h
  cases hh : s.has K with
  | false =>
    have HF := Hid.mk' (find_not h hK hh)
    rw [St.mark_none hh]
    clear h hK hh
    go_enter Try.func28, Try.ntmps28
    go_wp2_with fail
    refine Calls.mono HF.out ?_
    rintro e w' ⟨rfl, rfl⟩
    go_wp2
    go_ret
    exact ⟨rfl, rfl⟩
  | true =>
    have HF := Hid.mk' (find_has h hK hh)
    obtain ⟨e0, he0, rfl⟩ := St.has_iff.1 hh
    obtain ⟨v, hb, -⟩ := h.each e0 he0
    have c1 : w.cell? ⟨fb e0.1, 1, none⟩ = some (.bool e0.2.2) := hb.cell 1
    rw [(St.at_mark h.ok he0).1]
    generalize e0.1 = K at *
    generalize e0.2.2 = m at *
    generalize fb K = g at *
    clear h hK hh hb
    go_enter Try.func28, Try.ntmps28
    go_wp2_with fail
    refine Calls.mono HF.out ?_
    rintro e w' ⟨rfl, hw⟩
    have h2 := hw.symm
    subst h2
    clear hw
    go_wp2
    go_ret
    exact ⟨rfl, rfl⟩
set_option maxRecDepth 100000 in
theorem pinned_any (h : Ft w own gt s) {K : Int} (hK : i64 K) : Calls Try.prog 26 #[ptr gt, .int .i64 K] w fun e w' => e = .returned (.bool (s.pinned K)) ∧ w' = w := by
  obtain ⟨gr, gf, gp, gh, gm, fb, PL, h⟩ := h
  cases hh : s.has K with
  | false =>
    have HF := Hid.mk' (find_not h hK hh)
    rw [St.pinned_none h.ok hh]
    clear h hK hh
    go_enter Try.func26, Try.ntmps26
    go_wp2_with fail
    refine Calls.mono HF.out ?_
    rintro e w' ⟨rfl, rfl⟩
    go_wp2
    go_ret
    exact ⟨rfl, rfl⟩
  | true =>
    have HF := Hid.mk' (find_has h hK hh)
    obtain ⟨e0, he0, rfl⟩ := St.has_iff.1 hh
    obtain ⟨v, hb, -⟩ := h.each e0 he0
    obtain ⟨N, hN⟩ : ∃ N : Int, N = (cnt PL e0.1 : Int) := ⟨_, rfl⟩
    have c1 : w.cell? ⟨fb e0.1, 2, none⟩ = some (.int .i64 N) := by rw [hN]; exact hb.cell 2
    have hp : decide (0 < N) = s.pinned e0.1 := by
      rw [← h.pinned e0.1, hN, Bool.eq_iff_iff, decide_eq_true_eq, decide_eq_true_eq]
      omega
    rw [← hp]
    generalize e0.1 = K at *
    generalize fb K = g at *
    clear h hK hh hb hp hN
    go_enter Try.func26, Try.ntmps26
    go_wp2_with fail
    refine Calls.mono HF.out ?_
    rintro e w' ⟨rfl, hw⟩
    have h2 := hw.symm
    subst h2
    clear hw
    go_wp2
    go_ret
    exact ⟨rfl, rfl⟩
/-- Clean. -/
theorem St.clean_none {K : Int} (hh : s.has K = false) : s.clean K = s := by
  unfold St.clean
  have : s.fr.map (fun e : FrE => if e.1 == K then (e.1, e.2.1, false) else e) = s.fr := by
    rw [List.map_congr_left (g := id) (fun e he => by
      have : (e.1 == K) = false := by simpa using St.has_not.1 hh e he
      simp [this]), List.map_id]
  rw [this]
set_option maxRecDepth 100000 in
theorem clean_any (h : Ft w own gt s) {K : Int} (hK : i64 K) : Calls Try.prog 27 #[ptr gt, .int .i64 K] w fun e w' => e = .returned (.int .i64 (if s.has K then 0 else 5)) ∧ FtTo w own gt (s.clean K) w' := by
  have HS := Hid.mk' (h.same (But.refl _ w))
  obtain ⟨gr, gf, gp, gh, gm, fb, PL, h⟩ := h
  cases hh : s.has K with
  | false =>
    have HF := Hid.mk' (find_not h hK hh)
    rw [St.clean_none hh]
    clear h hK hh
    go_enter Try.func27, Try.ntmps27
    go_wp2_with fail
    refine Calls.mono HF.out ?_
    rintro e w' ⟨rfl, rfl⟩
    go_wp2
    go_ret
    exact ⟨rfl, HS.out⟩
  | true =>
    have HF := Hid.mk' (find_has h hK hh)
    obtain ⟨e0, he0, rfl⟩ := St.has_iff.1 hh
    obtain ⟨v, hb, hv⟩ := h.each e0 he0
    have c1 : w.cell? ⟨fb e0.1, 1, none⟩ = some (.bool e0.2.2) := hb.cell 1
    have f1 : w.frozen? ⟨fb e0.1, 1, none⟩ = false := hb.free 1
    have HFIN : Hid (FtTo w own gt (s.clean e0.1) (w.setCell ⟨fb e0.1, 1, none⟩ (.bool false))) := by
      have hk := But.set1 w (fb e0.1) 1 (.bool false)
      have h1 := h.store he0 (own' := own) (v := v) (b := e0.2.1) (wr := false) (Ext.refl _) (h.top.grow hk.size) hk (h.ok.ik e0 he0).2 (hb.set 1 (.bool false)) (hv.but hk (fun j hj => h.fbne he0 hj (fun e => tFr_byt _ e.symm)))
      have e1 : ({ s with fr := s.fr.map (fun e => if e.1 == e0.1 then (e.1, e0.2.1, false) else e) } : St) = s.clean e0.1 := by
        unfold St.clean
        congr 1
        apply List.map_congr_left
        intro e he
        by_cases hq : e.1 = e0.1
        · rw [one_key h.ok.nd he he0 hq]
        · have : (e.1 == e0.1) = false := by simpa using hq
          simp [this]
      rw [e1] at h1
      exact ⟨⟨own, ⟨_, _, _, _, _, _, _, h1⟩, Ext.refl _, Fresh.refl _ _⟩, hk.mono (fun b _ e => by rw [e]; exact h.wrF he0)⟩
    generalize e0.1 = K at *
    generalize e0.2.2 = m at *
    generalize fb K = g at *
    clear h hK hh hb hv
    go_enter Try.func27, Try.ntmps27
    go_wp2_with fail
    refine Calls.mono HF.out ?_
    rintro e w' ⟨rfl, hw⟩
    have h2 := hw.symm
    subst h2
    clear hw
    go_wp2
    go_ret
    exact ⟨rfl, HFIN.out⟩
end
end Go.Proofs.Ytmlklmhochihbaa
