/- frames: Free. -/
import Derived.Test.YtmlklmhochihbaaFrDel
namespace Go.Proofs.Ytmlklmhochihbaa
open Go.RowKit Go.Maps

set_option maxRecDepth 100000 in
theorem free_nil (w : World) (t : Int) : Calls Try.prog 21 #[.pointer none, .int .i64 t] w fun e w' => e = .returned (.tuple #[]) ∧ Grow w w' := by
  have HG : Hid (Grow w ((w.alloc (.cells #[.pointer none] 25)).alloc (.cells #[.int .i64 t] 3))) := ((But.refl _ w).alloc _).alloc _
  have hb : Blk ((w.alloc (.cells #[.pointer none] 25)).alloc (.cells #[.int .i64 t] 3)) w.heap.size 25 [.pointer none] := (Blk.new (L := [.pointer none]) rfl).but ((But.refl (fun _ => False) _).alloc _) (fun h => h)
  have c0 : ((w.alloc (.cells #[.pointer none] 25)).alloc (.cells #[.int .i64 t] 3)).cell? ⟨w.heap.size, 0, none⟩ = some (.pointer none) := hb.cell 0
  clear hb
  go_enter Try.func21, Try.ntmps21
  go_wp2
  exact bodyPost_ret (results_none rfl _ _ _) rfl ⟨rfl, HG.out⟩
section
variable {w w' : World} {own own' : Owner} {gt gr gf gp gh gm : Nat} {fb : Int → Nat} {PL : List (Int × Int)} {s s' : St} {R : Nat → Prop}
set_option maxRecDepth 100000 in
set_option maxHeartbeats 2000000 in
theorem free_any (h : Ft w own gt s) {t : Int} (ht : i64 t) : Calls Try.prog 21 #[ptr gt, .int .i64 t] w fun e w' => e = .returned (.tuple #[]) ∧ FtTo w own gt (s.free t) w' := by
  obtain ⟨gr, gf, gp, gh, gm, fb, PL, h⟩ := h
  have HH := Hid.mk' h
  have HTT := Hid.mk' ht
  obtain ⟨w1, hw1⟩ : ∃ w1, w1 = (w.alloc (.cells #[ptr gt] 25)).alloc (.cells #[.int .i64 t] 3) := ⟨_, rfl⟩
  have HW1 := Hid.mk' hw1
  have HG1 : Hid (Grow w w1) := by rw [hw1]; exact ((But.refl _ w).alloc _).alloc _
  have HB2 : Hid (Blk w1 w.heap.size 25 [ptr gt]) := by rw [hw1]; exact (Blk.new (L := [ptr gt]) rfl).but ((But.refl (fun _ => False) _).alloc _) (fun h => h)
  have HB3 : Hid (Blk w1 (w.heap.size + 1) 3 [.int .i64 t]) := by rw [hw1]; exact Blk.new (L := [.int .i64 t]) (by simp)
  have c0 : ((w.alloc (.cells #[ptr gt] 25)).alloc (.cells #[.int .i64 t] 3)).cell? ⟨w.heap.size, 0, none⟩ = some (ptr gt) := by rw [← hw1]; exact HB2.out.cell 0
  have HO2 : Hid (own w.heap.size = .none) := h.top _ (Nat.le_refl _)
  have HO3 : Hid (own (w.heap.size + 1) = .none) := h.top _ (Nat.le_succ _)
  obtain ⟨b2, hb2⟩ : ∃ b2, b2 = w.heap.size := ⟨_, rfl⟩
  obtain ⟨b3, hb3⟩ : ∃ b3, b3 = w.heap.size + 1 := ⟨_, rfl⟩
  have HBE2 := Hid.mk' hb2
  have HBE3 := Hid.mk' hb3
  rw [← hb2] at HB2 HO2
  rw [← hb3] at HB3 HO3
  obtain ⟨q, hq⟩ : ∃ q, q = share s.sh t := ⟨_, rfl⟩
  have HLK : Hid (∀ w', Grow w1 w' → (Instr.lookup 81 (.map (some gr)) (.int .i64 t) false).run Try.prog w' = .ok (.int .i64 q) w') := fun w' k => by rw [hq]; exact (h.grow (HG1.out.trans k)).shareLook ht
  have hl0 := h.ok.left0
  have hm2 := h.ok.m2
  have hq0 : 0 ≤ q := by rw [hq]; exact share_nonneg (fun p hp => (h.ok.sk p hp).2) t
  have hq1 : q ≤ 1024 := by
    have := share_le (fun p hp => (h.ok.sk p hp).2) h.ok.tn t
    have := h.ok.sl
    rw [hq]; omega
  have HLF : Hid (({ s with sh := s.sh.filter (fun p => !(p.1 == t)) } : St).left = s.left + q) := by
    show (s.most : Int) - sums (s.sh.filter (fun p => !(p.1 == t))) = (s.most : Int) - sums s.sh + q
    rw [sums_filter h.ok.tn, ← hq]; omega
  have HQW : Hid (IntKind.i64.wrap (s.left + q) = s.left + q) := wrapI (by omega) (by omega)
  have hgtr : ¬ gt = gr := fun e => by have := h.ot; rw [e, h.ort] at this; cases this
  have HGTR := Hid.mk' hgtr
  clear h ht hw1 hb2 hb3 hq hl0 hm2 hq0 hq1 hgtr
  go_enter Try.func21, Try.ntmps21
  go_upto_region 2 with fail
  rw [← HW1.out, ← HBE3.out, ← HBE2.out]
  clear c0
  refine region_chain [([0, 1, 2, 3, 4, 5, 6, 7, 8, 9, 10, 11, 12], 13)] [] (Grow w1) (Grow w1) (by kernel_rfl) (by kernel_rfl) (fun _ _ h k => h.trans k) (fun _ h => h) ((But.refl _ w1).drew) ?_
  intro ι hne X hX
  have d2 : ∀ x, (X x).cell? ⟨b2, 0, none⟩ = some (ptr gt) := fun x => (HB2.out.but (hX x) (fun h => h)).cell 0
  have d3 : ∀ x, (X x).cell? ⟨b3, 0, none⟩ = some (.int .i64 t) := fun x => (HB3.out.but (hX x) (fun h => h)).cell 0
  have dt1 : ∀ x, (X x).cell? ⟨gt, 1, none⟩ = some (.int .i64 s.left) := fun x => ((HH.out.grow (HG1.out.trans (hX x))).blk).cell 1
  have dt2 : ∀ x, (X x).cell? ⟨gt, 2, none⟩ = some (.map (some gr)) := fun x => ((HH.out.grow (HG1.out.trans (hX x))).blk).cell 2
  have hqw := HQW.out
  generalize hsl : s.left = L at *
  generalize hLq : L + q = Lq at *
  iterate 9 (refine still_step rfl (fun K hK => ?_); go_simp; refine hK _ ?_; clear hK K)
  refine still_val rfl (.int .i64 q) rfl (fun z => exec_lookup rfl rfl rfl (HLK.out _ (hX z))) ?_
  intro K hK; go_simp; refine hK _ ?_; clear hK K
  iterate 3 (refine still_step rfl (fun K hK => ?_); go_simp; refine hK _ ?_; clear hK K)
  refine still_nil ?_
  clear d2 d3 dt1 dt2 hX hne X ι
  refine turn_run rfl rfl (fun _ w' => Blk w' gt 85 (tcl s.most Lq gr gf gp gh) ∧ But (· = gt) w1 w') (fun _ _ => True) (fun _ _ _ h k => ⟨h.1.but k (fun h => h), h.2.trans (k.mono (fun _ _ h => h.elim))⟩) (fun _ _ _ => trivial) (.inl (by kernel_rfl)) ?_ ?_
  · intro w4 h4
    have hb4 := (HH.out.grow (HG1.out.trans h4)).blk
    refine turn_store (by kernel_rfl) rfl rfl rfl rfl hb4 (by simp) ?_
    exact ⟨hb4.set 1 _, (h4.mono (fun _ _ h => h.elim)).trans (But.set1 _ _ _ _)⟩
  rintro v5 - Y hY
  go_simp
  refine hY _ ?_
  clear hY Y
  intro ι hne X hX
  refine still_nil ?_
  clear hX hne
  intro w3 hw3
  have HBT := Hid.mk' hw3.1
  have HK3 := Hid.mk' hw3.2
  clear hw3
  have HN2 : Hid (b2 ≠ gt) := fun e => by have := HO2.out; rw [e, HH.out.ot] at this; cases this
  have HN3 : Hid (b3 ≠ gt) := fun e => by have := HO3.out; rw [e, HH.out.ot] at this; cases this
  have HB23 := Hid.mk' (HB2.out.but HK3.out HN2.out)
  have HB33 := Hid.mk' (HB3.out.but HK3.out HN3.out)
  have HDEL : Hid (∀ w4, Grow w3 w4 → ∃ w5, (Builtin.delete_ #[81, 3] 0 #[.map (some gr), .int .i64 t]).run Try.prog w4 = .ok (.tuple #[]) w5 ∧ Fm w5 own gt gr gf gp gh gm fb PL { s with sh := s.sh.filter (fun p => !(p.1 == t)) } ∧ But (fun b => b = gr ∨ b = gt) w1 w5 ∧ But (· = gr) w3 w5) := fun w4 k4 => by
    have h1 := HH.out.grow HG1.out
    have hres := (h1.res.but (HK3.out.trans (k4.mono (fun _ _ h => h.elim))) (fun e => HGTR.out e.symm))
    obtain ⟨w5, hr, hm, hb, -⟩ := hres.del (l' := s.sh.filter (fun p => !(p.1 == t))) (t := 81) (et := 3) keyIa Try.underlying81 (keyOfIa t HTT.out) (fun x => by
      rw [List.mem_filter]
      exact ⟨fun h => ⟨h.1, fun e => by have := h.2; rw [iv_inj e] at this; simp at this⟩, fun h => ⟨h.1, by have : x.1 ≠ t := fun e => h.2 (by rw [e]); simpa using this⟩⟩) 0
    have kk : But (fun b => b = gr ∨ b = gt) w1 w5 := (HK3.out.mono (fun _ _ e => .inr e)).trans ((k4.mono (fun _ _ h => h.elim)).trans (hb.mono (fun _ _ e => .inl e)))
    refine ⟨w5, hr, h1.shrd kk (show Sok { s with sh := s.sh.filter (fun p => !(p.1 == t)) } from ?_) ?_ hm, kk, (k4.mono (fun _ _ h => h.elim)).trans hb⟩
    · have := HH.out.ok.free t
      exact ⟨this.m1, this.m2, this.nd, this.le, this.ik, HH.out.ok.pk, this.tn, this.sk, this.sl⟩
    · rw [HLF.out]
      exact (HBT.out.but k4 (fun h => h)).but hb HGTR.out
  clear HLK HQW hqw
  go_upto_region 3 with fail
  have HR2 : Hid (b2 ≠ gr) := fun e => by have := HO2.out; rw [e, HH.out.ort] at this; cases this
  have HR3 : Hid (b3 ≠ gr) := fun e => by have := HO3.out; rw [e, HH.out.ort] at this; cases this
  refine region_chain [([0, 1, 2, 3, 4], 5)] [] (But (· = gr) w3) (Grow w3) (by kernel_rfl) (by kernel_rfl) (fun _ _ h k => h.trans k) (fun _ h => h.mono (fun _ _ h => h.elim)) ((But.refl _ w3).drew) ?_
  intro ι hne X hX
  have d2 : ∀ x, (X x).cell? ⟨b2, 0, none⟩ = some (ptr gt) := fun x => (HB23.out.but (hX x) HR2.out).cell 0
  have d3 : ∀ x, (X x).cell? ⟨b3, 0, none⟩ = some (.int .i64 t) := fun x => (HB33.out.but (hX x) HR3.out).cell 0
  have dt2 : ∀ x, (X x).cell? ⟨gt, 2, none⟩ = some (.map (some gr)) := fun x => (HBT.out.but (hX x) HGTR.out).cell 2
  iterate 5 (refine still_step rfl (fun K hK => ?_); go_simp; refine hK _ ?_; clear hK K)
  refine still_nil ?_
  clear d2 d3 dt2 hX hne X ι
  refine turn_run rfl rfl (fun _ w' => Fm w' own gt gr gf gp gh gm fb PL { s with sh := s.sh.filter (fun p => !(p.1 == t)) } ∧ But (fun b => b = gr ∨ b = gt) w1 w' ∧ But (· = gr) w3 w') (fun _ => But (· = gr) w3) (fun _ _ _ h k => ⟨h.1.grow k, h.2.1.trans (k.mono (fun _ _ h => h.elim)), h.2.2.trans (k.mono (fun _ _ h => h.elim))⟩) (fun _ _ h => h.2.2) (.inr (fun _ _ h => h)) ?_ ?_
  · intro w4 h4
    obtain ⟨w5, hr, hf5⟩ := HDEL.out w4 h4
    exact ⟨_, w5, .inl (exec_deleteH rfl rfl rfl hr), hf5⟩
  rintro v5 - Y hY
  go_simp
  refine hY _ ?_
  clear hY Y
  intro ι hne X hX
  refine still_nil ?_
  clear hX hne
  rintro w6 ⟨hf6, hk6, -⟩
  have hne2 : ∀ b, own b = .none → ¬ (b = gr ∨ b = gt) := fun b e e2 => by
    rcases e2 with e2 | e2
    · rw [e2, HH.out.ort] at e; cases e
    · rw [e2, HH.out.ot] at e; cases e
  have hb26 := HB2.out.but hk6 (hne2 _ HO2.out)
  have hb36 := HB3.out.but hk6 (hne2 _ HO3.out)
  have e2 : w6.cell? ⟨b2, 0, none⟩ = some (ptr gt) := hb26.cell 0
  have e4 : w6.cell? ⟨gt, 4, none⟩ = some (.map (some gp)) := hf6.blk.cell 4
  have HD := Hid.mk' (delf_any hf6 hb26 hb36 HO2.out HO3.out)
  have HFIN : Hid (∀ w7, (∃ PL', Fm w7 own gt gr gf gp gh gm fb PL' { ({ s with sh := s.sh.filter (fun p => !(p.1 == t)) } : St) with pins := s.pins.filter (fun p => !(p.1 == t)) }) → But (Wr own) w6 w7 → FtTo w own gt (s.free t) w7) := fun w7 h7 k7 => by
    obtain ⟨PL', h7⟩ := h7
    refine Ft.one h7 ((HG1.out.mono (fun _ _ h => h.elim)).trans ((hk6.mono (fun b _ e => ?_)).trans k7))
    rcases e with e | e
    · rw [e, Wr, HH.out.ort]; exact ⟨by decide, by decide⟩
    · rw [e, Wr, HH.out.ot]; exact ⟨by decide, by decide⟩
  clear hf6 hk6 hb26 hb36 hne2 HDEL
  go_wp2_with fail
  refine Calls.mono HD.out ?_
  rintro e w7 ⟨rfl, h7, k7⟩
  have HW7 := Hid.mk' (HFIN.out w7 h7 k7)
  clear h7 k7
  go_wp2
  go_end0
  exact ⟨rfl, HW7.out⟩
end
end Go.Proofs.Ytmlklmhochihbaa
