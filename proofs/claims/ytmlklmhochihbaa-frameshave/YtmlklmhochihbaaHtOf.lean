/- Of: a heat at the time. -/
import Derived.Test.YtmlklmhochihbaaHtLeaf
namespace Go.Proofs.Ytmlklmhochihbaa
open Go.RowKit

theorem wpList_runH {ops : Array Oper} {rest : List Oper} {o : Oper} {a : Act} {w w' : World} {Q : Exit → Act → World → Prop} {v : Value} (hgd : o.guard = none) (hr : (execOp a.eval o).run Try.prog w = .ok (.value v) w') (h : wpList Try.prog ops Q rest (a.put o.dst v) w') : wpList Try.prog ops Q (o :: rest) a w :=
  wpList_plain hgd fun _ hK => by
    unfold Oper.wp
    rw [hr]
    exact hK _ _ h
theorem iTol : (Try.prog.info? 113).map (·.size) = some 2 := by kernel_rfl
theorem wrapN (n : Nat) (h : n ≤ 1000000000) : IntKind.i64.wrap (n : Int) = (n : Int) := by
  simp [IntKind.wrap, IntKind.bits, IntKind.signed]; omega
theorem of_nil (w : World) (K : Int) : Calls Try.prog 63 #[.pointer none, .int .i64 K] w fun e w' => e = .returned (.float .f64 0) ∧ w' = w := by
  go_enter Try.func63, Try.ntmps63
  go_wp2_with fail
  refine Calls.mono (made_nil w) ?_
  rintro e w' ⟨rfl, rfl⟩
  go_wp2
  go_ret
  exact ⟨rfl, rfl⟩
section
variable {w w' : World} {gh gm half now : Nat} {T : Tb} {R : Nat → Prop}
set_option maxRecDepth 100000 in
set_option maxHeartbeats 1000000 in
theorem of_any (h : HtM w gh gm half now T) {K : Int} (hK : i64 K) : Calls Try.prog 63 #[.pointer (some ⟨gh, 0, none⟩), .int .i64 K] w fun e w' => e = .returned (.float .f64 (hof half now T K)) ∧ Grow w w' := by
  have HM := Hid.mk' (made_any h)
  obtain ⟨b, t, hb, ht, he, hlk⟩ := h.look hK
  have HE := Hid.mk' he
  have HH := Hid.mk' h
  have HLK := Hid.mk' (hlk w (But.refl _ _))
  have c2 : w.cell? ⟨gh, 2, none⟩ = some (.map (some gm)) := h.blk.cell 2
  have hh1 := h.h1
  have hh2 := h.h2
  have hnw := h.nw
  obtain ⟨d, hd⟩ : ∃ d, d = now - t := ⟨_, rfl⟩
  obtain ⟨q, hq⟩ : ∃ q, q = d / half := ⟨_, rfl⟩
  have hqd : q ≤ d := by rw [hq]; exact Nat.div_le_self _ _
  rw [← hd, ← hq] at HE
  have HF := Hid.mk' (fun w => fade_any b (q : Int) w hb (by omega) (by omega))
  rw [show (q : Int).toNat = q by omega] at HF
  have HR := Hid.mk' (fun w => right_any (fd b q) w (fd_lt b q hb))
  have HQ : Hid (Int.tdiv (d : Int) (half : Int) = (q : Int) ∧ ¬ half = 0 ∧ (now : Int) - (t : Int) = (d : Int) ∧ IntKind.i64.wrap (d : Int) = (d : Int) ∧ IntKind.i64.wrap (q : Int) = (q : Int)) := by
    refine ⟨?_, by omega, by omega, wrapN _ (by omega), wrapN _ (by omega)⟩
    rw [hq]; rfl
  obtain ⟨gn, hgn⟩ : ∃ gn, gn = w.heap.size := ⟨_, rfl⟩
  have HGN := Hid.mk' hgn
  have HG0 : Hid (Grow w (w.alloc (.cells #[.float .f64 0, .int .i64 0] 113))) := (But.refl _ w).alloc _
  have HB0 : Hid (Blk (w.alloc (.cells #[.float .f64 0, .int .i64 0] 113)) gn 113 [.float .f64 0, .int .i64 0]) := Blk.new (L := [.float .f64 0, .int .i64 0]) hgn.symm
  clear he hlk hd hq hqd hnw hh1 hh2 hb ht h hgn
  obtain ⟨f, hf⟩ : ∃ f, f = fd b q := ⟨_, rfl⟩
  rw [← hf] at HF HR HE
  clear hf
  go_enter Try.func63, Try.ntmps63
  go_wp2_with fail
  refine Calls.mono HM.out ?_
  rintro e w' ⟨rfl, hw⟩
  have h2 := hw.symm
  subst h2
  clear hw
  go_upto_region 4 with (first
    | (refine wpList_runH rfl (exec_lookup rfl rfl rfl HLK.out) ?_)
    | (refine wpList_store_at rfl _ _ _ rfl gn 0 [.float .f64 b, .int .i64 (t : Int)] (by rw [HGN.out]; rfl) rfl 113 [] [.float .f64 0, .int .i64 0] [] (by simpa using HB0.out) rfl rfl iTol (by intro v hv; rcases List.mem_cons.1 hv with rfl | hv; rfl; rcases List.mem_cons.1 hv with rfl | hv; rfl; cases hv) ?_; intro w1 hb1 hbut1; rw [List.nil_append, List.append_nil] at hb1)
    | fail)
  rw [← HGN.out]
  have HG1 : Hid (Grow w w1) := HG0.out.then hbut1 (fun i hi e => by have := HGN.out; omega)
  have HB1 := Hid.mk' hb1
  have HH1 := Hid.mk' (HH.out.grow HG1.out)
  clear hb1 hbut1 HG0 HB0 HLK c2 HM
  refine region_chain [] [0, 1, 2, 3, 4, 5, 6, 7, 8, 9, 10, 11, 12, 13, 14, 15, 16] (Grow w1) (Grow w1) (by kernel_rfl) (by kernel_rfl) (fun _ _ h k => h.trans k) (fun _ h => h) ((But.refl _ w1).drew) ?_
  intro ι hne X hX
  have d1 : ∀ x, (X x).cell? ⟨gn, 0, none⟩ = some (.float .f64 b) := fun x => (HB1.out.but (hX x) (fun h => h)).cell 0
  have d2 : ∀ x, (X x).cell? ⟨gn, 1, none⟩ = some (.int .i64 (t : Int)) := fun x => (HB1.out.but (hX x) (fun h => h)).cell 1
  have d3 : ∀ x, (X x).cell? ⟨gh, 0, none⟩ = some (.int .i64 (half : Int)) := fun x => ((HH1.out.grow (hX x)).blk).cell 0
  have d4 : ∀ x, (X x).cell? ⟨gh, 1, none⟩ = some (.int .i64 (now : Int)) := fun x => ((HH1.out.grow (hX x)).blk).cell 1
  obtain ⟨q1, q2, q3, q4, q5⟩ := HQ.out
  iterate 14 (refine still_step rfl (fun K hK => ?_); go_simp; refine hK _ ?_; clear hK K)
  refine still_call rfl (.float .f64 f) 72 #[.float .f64 b, .int .i64 (q : Int)] rfl (fun x => by kernel_rfl) (fun x => (HF.out (X x)).mono (fun e w' h => ⟨h.1, by rw [h.2]; exact But.refl _ _⟩)) ?_
  intro K hK; go_simp; refine hK _ ?_; clear hK K
  refine still_call rfl (.float .f64 (rt f)) 62 #[.float .f64 f] rfl (fun x => by kernel_rfl) (fun x => (HR.out (X x)).mono (fun e w' h => ⟨h.1, by rw [h.2]; exact But.refl _ _⟩)) ?_
  intro K hK; go_simp; refine hK _ ?_; clear hK K
  iterate 1 (refine still_step rfl (fun K hK => ?_); go_simp; refine hK _ ?_; clear hK K)
  refine still_nil ?_
  clear hX hne d1 d2 d3 d4 q1 q2 q3 q4 q5
  intro w2 hw2
  have HW2 := Hid.mk' (HG1.out.trans hw2)
  clear hw2
  go_wp2
  go_ret
  exact ⟨by rw [HE.out]; rfl, HW2.out⟩
end
end Go.Proofs.Ytmlklmhochihbaa
