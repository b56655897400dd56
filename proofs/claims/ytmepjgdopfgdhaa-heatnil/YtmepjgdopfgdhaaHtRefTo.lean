/- The reference: Touch, Coldest. -/
import Derived.Test.YtmepjgdopfgdhaaHtRefDo
namespace Go.Proofs.Ytmepjgdopfgdhaa
open Go.RowKit

section
variable {w w' : World} {gx half now : Nat} {v : Value} {L : List Sp} {R : Nat → Prop}
theorem RhM.on (h : RhM w gx v half now L) (hn : now < 1000000) : RhM (w.setCell ⟨gx, 1, none⟩ (.int .i64 ((now + 1 : Nat) : Int))) gx v half (now + 1) L :=
  ⟨h.blk.set 1 _, h.row.but (But.set1 _ _ _ _) (fun j hj => hj) (fun j hj => hj), h.h1, h.h2, by omega, by have := h.ln; omega, fun e he => by have := h.ok e he; exact ⟨this.1, this.2.1, by omega⟩⟩
theorem built_sp (K : Int) (x t : Nat) (w : World) : (Instr.build 56 #[(0, .int .i64 K), (1, .float .f64 x), (2, .int .i64 (t : Int))]).run Try.prog w = .ok (.agg #[.int .i64 K, .float .f64 x, .int .i64 (t : Int)]) w := run_build w _ _ _ (by kernel_rfl)
/-- One more. -/
def touched (half now : Nat) (L : List Sp) (K : Int) (y : Nat) : List Sp := L.filter (fun e => !(e.1 == K)) ++ [(K, radd (hof half (now + 1) (look L) K) y, now + 1)]
theorem touched_len (half now : Nat) (L : List Sp) (K : Int) (y : Nat) (h : L.length ≤ now) : (touched half now L K y).length ≤ now + 1 := by
  unfold touched
  rw [List.length_append, List.length_singleton]
  have := List.length_filter_le (fun e : Sp => !(e.1 == K)) L
  omega
set_option maxRecDepth 100000 in
set_option maxHeartbeats 2000000 in
theorem rtouch_any (h : RhM w gx v half now L) {K : Int} (hK : i64 K) {y : Nat} (hn : now < 1000000) : Calls Try.prog 14 #[.pointer (some ⟨gx, 0, none⟩), .int .i64 K, .float .f64 y] w fun e w' => e = .returned (.tuple #[]) ∧ RhTo w gx half (now + 1) (touched half now L K y) w' := by
  have HH1 := Hid.mk' (h.on hn)
  have HL := Hid.mk' h.ln
  have HKK := Hid.mk' hK
  have HB1 : Hid (But (· = gx) w (w.setCell ⟨gx, 1, none⟩ (.int .i64 ((now + 1 : Nat) : Int)))) := But.set1 w gx 1 _
  have c1 : w.cell? ⟨gx, 1, none⟩ = some (.int .i64 (now : Int)) := h.blk.cell 1
  have f1 : w.frozen? ⟨gx, 1, none⟩ = false := h.blk.free 1
  have HGX := Hid.mk' h.blk.lt
  have hw1 : IntKind.i64.wrap ((now : Int) + 1) = ((now + 1 : Nat) : Int) := by have := wrapN (now + 1) (by omega); push_cast at this ⊢; exact this
  have e1 : (now : Int) + 1 = ((now + 1 : Nat) : Int) := by push_cast; rfl
  have e2 : ((now + 1 : Nat) : Int) ≤ 1000000 := by omega
  have HNB : Hid (now + 1 ≤ 1000000) := by show _ ≤ _; omega
  clear h hK hn
  have HTC : Hid (touched half now L K y = L.filter (fun e => !(e.1 == K)) ++ [(K, radd (hof half (now + 1) (look L) K) y, now + 1)]) := rfl
  obtain ⟨n1, hn1⟩ : ∃ n1, n1 = now + 1 := ⟨_, rfl⟩
  have HTL := Hid.mk' (touched_len half now L K y HL.out)
  rw [← hn1] at HH1 HB1 hw1 e1 e2 HNB HTC HTL ⊢
  clear hn1 HL
  obtain ⟨TC, hTC⟩ : ∃ TC, TC = touched half now L K y := ⟨_, rfl⟩
  rw [← hTC] at HTC HTL ⊢
  clear hTC
  have HO := Hid.mk' (rof_any HH1.out K)
  obtain ⟨f, hf⟩ : ∃ f, f = hof half n1 (look L) K := ⟨_, rfl⟩
  rw [← hf] at HO HTC
  clear hf
  go_enter Try.func14, Try.ntmps14
  go_wp2_with fail
  refine Calls.mono HO.out ?_
  rintro e w2 ⟨rfl, hg2⟩
  clear c1 f1 e1 hw1 e2 HO
  have HH2 := Hid.mk' (HH1.out.grow hg2)
  have HB2 := Hid.mk' (HB1.out.trans (hg2.mono (fun _ _ h => h.elim)))
  clear HH1 HB1 hg2
  generalize hx : radd f y = x at *
  obtain ⟨r, w3, hr, hr1, hr2, hr3⟩ := add_run 32 f y w2
  rw [hx] at hr2
  have HX : Hid (x < 18446744073709551616) := by rw [← hx]; exact radd_lt f y
  have HR := Hid.mk' hr
  have hg3 : Grow w2 w3 := by
    rcases hr3 with rfl | rfl
    · exact But.refl _ _
    · exact (But.refl _ w2).drew
  have HRI := Hid.mk' (rright_any r w3 hr1)
  rw [hr2] at HRI
  have HH3 := Hid.mk' (HH2.out.grow hg3)
  have HB3 := Hid.mk' (HB2.out.trans (hg3.mono (fun _ _ h => h.elim)))
  clear hr hr1 hr2 hr3 hx hg3 HH2 HB2
  go_wp2_with (first
    | (refine wpList_runH rfl (exec_add rfl rfl rfl HR.out) ?_)
    | fail)
  refine Calls.mono HRI.out ?_
  rintro e w4 ⟨rfl, hw⟩
  have h2 := hw.symm
  subst h2
  clear hw HRI HR
  go_wp2_with fail
  refine Calls.mono (rdrop_any HH3.out K) ?_
  rintro e w4 ⟨rfl, hto⟩
  obtain ⟨⟨v4, h4, h4n⟩, h4b⟩ := hto
  have HH4 := Hid.mk' h4
  have HV4 : Hid (∀ k, v4.ownBlock = some k → w.heap.size ≤ k) := fun k hk => Nat.le_trans HB3.out.size (h4n k hk)
  have HB4 := Hid.mk' (HB3.out.trans h4b)
  clear h4 h4n h4b HH3 HB3
  obtain ⟨F, hF⟩ : ∃ F, F = L.filter (fun e => !(e.1 == K)) := ⟨_, rfl⟩
  rw [← hF] at HH4 HTC
  clear hF
  obtain ⟨ao, cap, rfl⟩ := HH4.out.len
  obtain ⟨m, hm⟩ : ∃ m, m = F.length := ⟨_, rfl⟩
  have HBK := Hid.mk' HH4.out.blk
  have HRO := Hid.mk' HH4.out.row.own
  have HMB : Hid (m + 1 ≤ n1) := by
    show _ ≤ _
    have h5 := HTL.out
    rw [HTC.out, List.length_append, List.length_singleton] at h5
    omega
  rw [← hm] at HBK HRO HV4
  have HVE : Hid (¬ (.slice ao m cap : Value).ownBlock = some gx) := fun e => HH4.out.row.inF gx (by rw [← hm]; exact e) rfl
  have HM := Hid.mk' hm
  have HOK : Hid (∀ e ∈ TC, i64 e.1 ∧ e.2.1 < 18446744073709551616 ∧ e.2.2 ≤ n1) := fun e he => by
    rw [HTC.out] at he
    rcases List.mem_append.1 he with he | he
    · exact HH4.out.ok e he
    · rw [show e = (K, x, n1) by simpa using he]
      exact ⟨HKK.out, HX.out, Nat.le_refl _⟩
  have H1 := Hid.mk' HH4.out.h1
  have H2 := Hid.mk' HH4.out.h2
  clear hm HH4
  go_upto_region 3 with fail
  refine region_chain [([0, 1, 2, 3, 4, 5, 6, 7, 8, 9, 10, 11], 12), ([], 13), ([14, 15], 16)] [] (But (fun k => (.slice ao m cap : Value).ownBlock = some k) w4) (Grow w4) (by kernel_rfl) (by kernel_rfl) (fun _ _ h k => h.trans k) (fun _ h => h.mono (fun _ _ h => h.elim)) ((But.refl _ w4).drew) ?_
  intro ι hne X hX
  have d1 : ∀ x, (X x).cell? ⟨gx, 1, none⟩ = some (.int .i64 (n1 : Int)) := fun x => (HBK.out.but (hX x) HVE.out).cell 1
  have d2 : ∀ x, (X x).cell? ⟨gx, 2, none⟩ = some (.slice ao m cap) := fun x => (HBK.out.but (hX x) HVE.out).cell 2
  iterate 11 (refine still_step rfl (fun K hK => ?_); go_simp; refine hK _ ?_; clear hK K)
  refine still_val rfl (.agg #[.int .i64 K, .float .f64 x, .int .i64 (n1 : Int)]) rfl (fun z => exec_build _ [_, _, _] rfl [(0, .int .i64 K), (1, .float .f64 x), (2, .int .i64 (n1 : Int))] rfl _ (built_sp K x n1 _)) ?_
  intro K hK; go_simp; refine hK _ ?_; clear hK K
  refine still_nil ?_
  clear hX hne d1 d2 X ι
  refine turn_run rfl rfl (fun u w' => Grow w4 w' ∧ ∃ g, u = .slice (some ⟨g, 0, none⟩) 1 1 ∧ Blk w' g 56 (spc (K, x, n1))) (fun _ => But (fun k => (.slice ao m cap : Value).ownBlock = some k) w4) ?_ (fun _ _ h => h.1.mono (fun _ _ h => h.elim)) ?_ ?_ ?_
  · rintro u w5 w6 ⟨h1, g, h3, h4⟩ k
    exact ⟨h1.trans k, g, h3, h4.but k (fun h => h)⟩
  · exact .inr (fun _ _ h => h)
  · rintro w5 h4
    refine turn_row1 (v := .agg #[.int .i64 K, .float .f64 x, .int .i64 (n1 : Int)]) Try.underlying29 infSp (by decide) (by decide) rfl rfl rfl ⟨h4.trans ((But.refl _ w5).alloc _), _, rfl, ?_⟩
    exact Blk.new (L := spc (K, x, n1)) rfl
  rintro u ⟨wq, -, gn, rfl, -⟩ Y hY
  clear wq
  go_simp
  refine hY _ ?_
  clear hY Y
  intro ι hne X hX
  refine still_nil ?_
  clear hX hne X ι
  refine turn_run rfl rfl (fun u w' => But (fun k => (.slice ao m cap : Value).ownBlock = some k) w4 w' ∧ w'.ownsRow 0 56 3 u (m + 1) (F.flatMap spc ++ spc (K, x, n1)) ∧ (∀ k, u.ownBlock = some k → w.heap.size ≤ k)) (fun _ => But (fun k => (.slice ao m cap : Value).ownBlock = some k) w4) ?_ (fun _ _ h => h.1) (.inr (fun _ _ h => h)) ?_ ?_
  · rintro u w5 w6 ⟨h1, h2, h3⟩ k
    exact ⟨h1.trans (k.mono (fun _ _ h => h.elim)), ownsRow_grow h2 k, h3⟩
  · rintro w5 ⟨h1, g', e9, h3⟩
    cases e9
    refine turn_append (v := .slice ao m cap) (n := m) (xs := F.flatMap spc) (news := spc (K, x, n1)) Try.underlying29 infSp rfl (by decide) rfl rfl (ownsRow_grow HRO.out h1) rfl rfl (fun j u hj => h3.cells0 j u hj) (spc_one _) (by have := HMB.out; have := HNB.out; omega) (by decide) ?_
    intro v' w6 hap
    refine ⟨(h1.mono (fun _ _ h => h.elim)).trans hap.but, hap.own, fun j hj => ?_⟩
    rcases hap.at' with e | e
    · exact HV4.out j (by rw [← e]; exact hj)
    · rw [e] at hj
      cases hj
      exact Nat.le_trans HB4.out.size h1.size
  rintro v2 ⟨wq, -, hov, -⟩ Y hY
  have HV2 : Hid (v2.oneCell' = true) := ownsRow_one hov
  clear hov wq
  go_simp
  refine hY _ ?_
  clear hY Y
  intro ι hne X hX
  iterate 2 (refine still_step rfl (fun K hK => ?_); go_simp; refine hK _ ?_; clear hK K)
  refine still_nil ?_
  clear hX hne X ι
  refine turn_run rfl rfl (fun _ w' => RhTo w gx half n1 TC w') (fun _ _ => True) (fun _ _ _ h k => h.grow k) (fun _ _ _ => trivial) (.inl (by kernel_rfl)) ?_ ?_
  · rintro w5 ⟨h1, h2, h3⟩
    have hbk := HBK.out.but h1 HVE.out
    have hne2 : ∀ k, v2.ownBlock = some k → k ≠ gx := fun k e e3 => by
      have := h3 k e
      have := HGX.out
      omega
    refine turn_store (by kernel_rfl) rfl rfl rfl HV2.out hbk (by simp) ?_
    refine ⟨⟨v2, ⟨hbk.set 2 v2, ⟨?_, hne2⟩, H1.out, H2.out, HNB.out, HTL.out, HOK.out⟩, h3⟩, ?_⟩
    · rw [HTC.out, List.length_append, List.length_singleton, List.flatMap_append, show ([(K, x, n1)] : List Sp).flatMap spc = spc (K, x, n1) by simp, ← HM.out]
      exact ownsRow_but h2 (But.set1 _ _ _ _) (fun j hj => hne2 j hj)
    · exact (HB4.out.then h1 (fun i hi e => by have := HV4.out i e; omega)).trans (But.set1 _ _ _ _)
  rintro v5 - Y hY
  go_simp
  refine hY _ ?_
  clear hY Y
  intro ι hne X hX
  refine still_nil ?_
  clear hX hne
  intro w6 hw6
  have HW6 := Hid.mk' hw6
  clear hw6
  go_wp2
  go_end0
  exact ⟨rfl, HW6.out⟩
end
end Go.Proofs.Ytmepjgdopfgdhaa
