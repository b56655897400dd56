/- latch: Ask. -/
import Derived.Test.YtgldkckhliklhaaLtSettle
import Derived.Test.YtgldkckhliklhaaLtWait
namespace Go.Proofs.Ytgldkckhliklhaa
open Go.RowKit Go.Maps

theorem bldWt (k : Int) (a : Bool) (w : World) : (Instr.build 60 #[(0, .int .i64 k), (1, .bool a)]).run Try.prog w = .ok (.agg #[.int .i64 k, .bool a]) w := run_build w _ _ _ (by kernel_rfl)
theorem mode_pos (x : Wt) : mode x ≠ 0 := by unfold mode; split <;> decide
theorem hold_zero {s : Ls} (hok : Lok s) {t k : Int} (h : s.hold t k = 0) : ∀ y ∈ s.has, t = y.1 → k ≠ y.2.1 := fun y hy e1 e2 => by
  subst e1 e2
  have h1 : s.hold y.1 y.2.1 = mode y := holdL_of hok.hn hy
  rw [h1] at h
  exact mode_pos y h
/-- What Ask leaves, where it isn't refused. -/
def AskTo (w : World) (own : Owner) (gt : Nat) (s : Ls) (x : Wt) (e : Ending) (w' : World) : Prop := ∃ G s' own', e = .returned (.tuple #[.bool (!(s'.hold x.1 x.2.1 == 0)), .int .i64 0]) ∧ Steps (· = x.2.1) (s.ask x) G s' ∧ Stb s' x.2.1 ∧ Lt w' own' gt s' ∧ Lok s' ∧ Sub w own own' ∧ But (Wo own) w w'
section
variable {w w' : World} {own own' : Owner} {gt gl gh gw : Nat} {lb hb : Int → Nat} {KL TL : List Int} {c : Lc} {s : Ls} {R : Nat → Prop} {T : Tag}
set_option maxRecDepth 100000 in
set_option maxHeartbeats 4000000 in
theorem ask_busy (h : Lt w own gt s) (hok : Lok s) {t k : Int} {a : Bool} (ht : i64 t) (hk : i64 k) (hbz : s.wait t = true ∨ s.hold t k ≠ 0) : Calls Try.prog 14 #[ptr gt, .int .i64 t, .int .i64 k, .bool a] w fun e w' => e = .returned (.tuple #[.bool false, .int .i64 6]) ∧ Grow w w' := by
  obtain ⟨gl, gh, gw, lb, hb, KL, TL, h⟩ := h
  have c2 : w.cell? ⟨gt, 2, none⟩ = some (.map (some gw)) := h.blk.cell 2
  obtain ⟨al, hl, -⟩ := h.lookWt hok ht
  obtain ⟨w2, hs, hb2, hg⟩ := boxWt w (s.waitK t) al
  have HH := Hid.mk' (holds_any (w := w2) ⟨gl, gh, gw, lb, hb, KL, TL, h.grow hg⟩ hok ht hk)
  have HS := Hid.mk' hs
  have HG := Hid.mk' hg
  generalize s.waitK t = kk at *
  cases hw : s.wait t with
  | true =>
    rw [hw] at hl
    have HL := Hid.mk' hl
    clear h hok ht hk hl hs hb2 hg hbz hw
    go_enter Try.func14, Try.ntmps14
    go_wp2_with (first
      | (refine wpList_runH rfl (exec_lookup rfl rfl rfl HL.out) ?_)
      | (refine wpList_runH rfl (exec_allocF rfl (zWt w)) ?_)
      | (refine wpList_skipH rfl (exec_stF (v := .agg #[.int .i64 kk, .bool al]) rfl rfl rfl HS.out) ?_)
      | fail)
    go_ret2
    exact ⟨rfl, HG.out⟩
  | false =>
    rw [hw] at hl
    have HL := Hid.mk' hl
    have hz : s.hold t k ≠ 0 := hbz.resolve_left (by rw [hw]; decide)
    have hz2 : (s.hold t k == 0) = false := by simpa using hz
    generalize s.hold t k = z at *
    clear h hok ht hk hl hs hb2 hg hbz hw
    go_enter Try.func14, Try.ntmps14
    go_wp2_with (first
      | (refine wpList_runH rfl (exec_lookup rfl rfl rfl HL.out) ?_)
      | (refine wpList_runH rfl (exec_allocF rfl (zWt w)) ?_)
      | (refine wpList_skipH rfl (exec_stF (v := .agg #[.int .i64 kk, .bool al]) rfl rfl rfl HS.out) ?_)
      | fail)
    refine Calls.mono HH.out ?_
    rintro e w' ⟨rfl, hw⟩
    have h2 := hw.symm
    subst h2
    clear hw
    go_wp2
    go_ret2
    exact ⟨rfl, HG.out⟩
set_option maxRecDepth 100000 in
set_option maxHeartbeats 4000000 in
theorem ask_any (h : Lt w own gt s) (hok : Lok s) {t k : Int} {a : Bool} (ht : i64 t) (hk : i64 k) (hw : s.wait t = false) (hh : s.hold t k = 0) (hs : s.has.length + s.q.length < 10000) : Calls Try.prog 14 #[ptr gt, .int .i64 t, .int .i64 k, .bool a] w (AskTo w own gt s (t, k, a)) := by
  obtain ⟨gl, gh, gw, lb, hb, KL, TL, h⟩ := h
  have c2 : w.cell? ⟨gt, 2, none⟩ = some (.map (some gw)) := h.blk.cell 2
  obtain ⟨al, hl, -⟩ := h.lookWt hok ht
  obtain ⟨w2, hst, hb2, hg⟩ := boxWt w (s.waitK t) al
  have HH := Hid.mk' (holds_any (w := w2) ⟨gl, gh, gw, lb, hb, KL, TL, h.grow hg⟩ hok ht hk)
  rw [hh] at HH
  rw [hw] at hl
  have HST := Hid.mk' hst
  have HG := Hid.mk' hg
  have HL := Hid.mk' hl
  have hok2 : Lok (s.ask (t, k, a)) := hok.ask ht hk hw (hold_zero hok hh)
  have HOK2 := Hid.mk' hok2
  have hm2 := h.grow hg
  have hnw : ∀ y ∈ s.q, y.1 ≠ t := fun y hy e => by
    have := List.any_eq_false.1 hw y hy
    exact this (by simpa using e)
  have HQ : Hid (Calls Try.prog 27 #[ptr gt, .int .i64 t, .agg #[.int .i64 k, .bool a]] w2 fun e w' => e = .returned (.tuple #[]) ∧ QueTo w2 own gt gl gh gw hb TL k (s.ask (t, k, a)).c w') := lqueue_any hm2 ht hk hnw (by show s.q.length < _; omega)
  have HSUM : Hid ((s.ask (t, k, a)).has.length + (s.ask (t, k, a)).q.length ≤ 10000) := by
    show s.has.length + (s.q ++ [(t, k, a)]).length ≤ _
    rw [List.length_append, List.length_singleton]
    omega
  have HT := Hid.mk' ht
  have HK := Hid.mk' hk
  have c0 : w2.cell? ⟨gt, 0, none⟩ = some (.map (some gl)) := hm2.blk.cell 0
  have hq := mapnil_l gl w2
  generalize s.waitK t = kk at *
  clear h hok ht hk hl hst hb2 hg hw hh hs hok2 hm2 hnw
  go_enter Try.func14, Try.ntmps14
  go_wp2_with (first
    | (refine wpList_runH rfl (exec_lookup rfl rfl rfl HL.out) ?_)
    | (refine wpList_runH rfl (exec_allocF rfl (zWt w)) ?_)
    | (refine wpList_skipH rfl (exec_stF (v := .agg #[.int .i64 kk, .bool al]) rfl rfl rfl HST.out) ?_)
    | fail)
  refine Calls.mono HH.out ?_
  rintro e w' ⟨rfl, hw⟩
  have h2 := hw.symm
  subst h2
  clear hw
  go_wp2_with (first
    | (refine wpList_build_run rfl _ [_, _] rfl [(0, .int .i64 k), (1, .bool a)] rfl _ (bldWt _ _ _) ?_)
    | fail)
  refine Calls.mono HQ.out ?_
  rintro e w3 ⟨rfl, own3, lb3, KL3, hm3, hk3, hs3, hb3⟩
  have HSE := Hid.mk' (lsettle_any hm3 HOK2.out HK.out hk3 HSUM.out)
  have HS3 := Hid.mk' hs3
  have HB3 := Hid.mk' hb3
  clear hm3 hk3 hs3 hb3 c0 c2 hq HQ HH HL HST
  go_wp2_with fail
  refine Calls.mono HSE.out ?_
  rintro e w4 ⟨v4, rfl, G, S, own4, hst4, hsb4, hlt4, hlok4, -, -, hs4, hb4⟩
  have HH4 := Hid.mk' (holds_any hlt4 hlok4 HT.out HK.out)
  obtain ⟨z, hz⟩ : ∃ z, z = S.hold t k := ⟨_, rfl⟩
  rw [← hz] at HH4
  have HFIN : Hid (∀ e, e = Ending.returned (.tuple #[.bool (!(z == 0)), .int .i64 0]) → AskTo w own gt s (t, k, a) e w4) := fun e he => ⟨G, S, own4, by rw [he, hz], hst4, hsb4, hlt4, hlok4, (show Sub w own own3 from fun b hb => (HS3.out b hb).imp (fun h => h) (fun h => Nat.le_trans HG.out.size h)).trans (Nat.le_trans HG.out.size HB3.out.size) hs4, ((HG.out.mono (fun _ _ h => h.elim)).trans HB3.out).then hb4 (fun b hb e => by
    rcases HS3.out b e with h1 | h1
    · exact h1
    · have := HG.out.size; omega)⟩
  clear hst4 hsb4 hlt4 hlok4 hs4 hb4 hz HSE
  go_wp2_with fail
  refine Calls.mono HH4.out ?_
  rintro e w' ⟨rfl, hw⟩
  have h2 := hw.symm
  subst h2
  clear hw
  go_wp2
  go_ret2
  exact HFIN.out _ rfl
end
end Go.Proofs.Ytgldkckhliklhaa
