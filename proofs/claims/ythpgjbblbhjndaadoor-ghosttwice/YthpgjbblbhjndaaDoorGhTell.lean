/- ghost: New, Count, Clash. -/
import Derived.Test.YthpgjbblbhjndaaDoorGhLeaf
namespace Go.Proofs.YthpgjbblbhjndaaDoor
open Go.RowKit

theorem BRow.len {w : World} {Fr G : Nat → Prop} {v : Value} {L : List BE} (h : BRow w Fr G v L) : ∃ ao cap, v = .slice ao L.length cap := by
  obtain ⟨ao, cap, e, _⟩ := h.row.shape
  exact ⟨ao, cap, e⟩
theorem TRow.len {w : World} {Fr G : Nat → Prop} {v : Value} {L : List TE} (h : TRow w Fr G v L) : ∃ ao cap, v = .slice ao L.length cap := by
  obtain ⟨ao, cap, e, _⟩ := h.row.shape
  exact ⟨ao, cap, e⟩
set_option maxRecDepth 100000 in
set_option maxHeartbeats 4000000 in
theorem count_any {w : World} {own : Owner} {gl : Nat} {P : List Pr} {S O : List Tup} (h : Lg w own gl P S O) :
    Calls Tryd.prog 20 #[.pointer (some ⟨gl, 0, none⟩)] w fun e w' => e = .returned (.tuple #[.int .i64 (P.length : Int), .int .i64 (S.length : Int), .int .i64 (O.length : Int)]) ∧ Grow w w' := by
  obtain ⟨vi, vc, vm, vt, vb, vs, h⟩ := h
  obtain ⟨L, hL, hLS⟩ := h.blo.ex
  obtain ⟨ao, cap, rfl⟩ := hL.len
  have hl : L.length = S.length := by have := congrArg List.length hLS; simpa using this
  rw [hl] at h
  have HB := Hid.mk' h.blk
  clear h hL hLS hl L
  generalize P.length = np at *
  generalize S.length = ns at *
  generalize O.length = no at *
  go_enter Tryd.func20, Tryd.ntmps20
  go_upto_region 3 with fail
  refine region_chain [] [0, 1, 2, 3, 4, 5, 6, 7, 8, 9, 10, 11, 12, 13, 14, 15] (Grow w) (Grow w) (by kernel_rfl) (by kernel_rfl) (fun _ _ h k => h.trans k) (fun _ h => h) ((But.refl _ w).drew) ?_
  intro ι hne W hW
  have c0 : ∀ x, (W x).cell? ⟨gl, 0, none⟩ = some (.int .i64 (np : Int)) := fun x => (HB.out.but (hW x) (fun h => h)).cell 0
  have c5 : ∀ x, (W x).cell? ⟨gl, 5, none⟩ = some (.slice ao ns cap) := fun x => (HB.out.but (hW x) (fun h => h)).cell 5
  have c6 : ∀ x, (W x).cell? ⟨gl, 6, none⟩ = some (.int .i64 (no : Int)) := fun x => (HB.out.but (hW x) (fun h => h)).cell 6
  iterate 16 (refine still_step rfl (fun K hK => ?_); go_simp; refine hK _ ?_; clear hK K)
  refine still_nil ?_
  intro w' hw'
  go_wp2
  exact bodyPost_ret (results_tmp3 rfl _ _ _) rfl ⟨rfl, hw'⟩

theorem count_nil (w : World) : Calls Tryd.prog 20 #[.pointer none] w fun e w' => e = .returned (.tuple #[.int .i64 0, .int .i64 0, .int .i64 0]) ∧ Grow w w' := by
  go_enter Tryd.func20, Tryd.ntmps20
  go_wp2
  exact bodyPost_ret (results_tmp3 rfl _ _ _) rfl ⟨rfl, But.refl _ _⟩
def noClash : Value := .tuple #[.slice none 0 0, .slice none 0 0, .bool false]
theorem clash_nil (w : World) : Calls Tryd.prog 13 #[.pointer none] w fun e w' => e = .returned noClash ∧ Grow w w' := by
  go_enter Tryd.func13, Tryd.ntmps13
  go_wp2
  exact bodyPost_ret (results_tmp3 rfl _ _ _) rfl ⟨rfl, But.refl _ _⟩
theorem two_of {α β : Type} {f : α → β} {L : List α} {x y : β} (h : L.map f = [x, y]) : ∃ a b, L = [a, b] ∧ f a = x ∧ f b = y := by
  match L, h with
  | [a, b], h =>
    simp only [List.map_cons, List.map_nil, List.cons.injEq, and_true] at h
    exact ⟨a, b, rfl, h.1, h.2⟩
set_option maxRecDepth 100000 in
set_option maxHeartbeats 4000000 in
theorem clash_any {w : World} {own : Owner} {gl : Nat} {P : List Pr} {S O : List Tup} (h : Lg w own gl P S O) (hb : ∀ p ∈ P, p.1.length ≤ 140737488355328) :
    Calls Tryd.prog 13 #[.pointer (some ⟨gl, 0, none⟩)] w fun e w' => Grow w w' ∧ ((e = .returned noClash ∧ Fst2 (ck P) P.length none) ∨
      ∃ i j va vb, e = .returned (.tuple #[va, vb, .bool true]) ∧ Fst2 (ck P) P.length (some (i, j)) ∧ Ow w' w.heap.size va (P.getD i p0).1 ∧ Ow w' w.heap.size vb (P.getD j p0).1) := by
  obtain ⟨vi, vc, vm, vt, vb, vs, h⟩ := h
  obtain ⟨L, hL, hcl⟩ := h.cla.ex
  have HB := Hid.mk' h.blk
  rcases hcl with ⟨rfl, hF⟩ | ⟨i, j, hF, hLM⟩
  · obtain ⟨ao, cap, rfl⟩ := hL.len
    have c2 : w.cell? ⟨gl, 2, none⟩ = some (.slice ao 0 cap) := h.blk.cell 2
    have HF := Hid.mk' hF
    clear h hL hF HB
    go_enter Tryd.func13, Tryd.ntmps13
    go_wp2
    exact bodyPost_ret (results_tmp3 rfl _ _ _) rfl ⟨But.refl _ _, .inl ⟨rfl, HF.out⟩⟩
  · obtain ⟨⟨ua, xa⟩, ⟨ub, xb⟩, rfl, rfl, rfl⟩ := two_of hLM
    obtain ⟨ao, cap, rfl, hrow⟩ := hL.row.shape
    obtain ⟨g, rfl, hfg, hgl, hcell⟩ := hrow (by simp)
    have hgb : ∀ w', Grow w w' → w'.cell? ⟨g, 0, none⟩ = some ua ∧ w'.cell? ⟨g, 1, none⟩ = some ub := fun w' hw => by
      have e := hw.block g hgl (fun h => h)
      exact ⟨(World.cell?_of_block e).trans (hcell 0 ua rfl), (World.cell?_of_block e).trans (hcell 1 ub rfl)⟩
    have hij := hF
    have hpa : (P.getD i p0) ∈ P := by simp [List.getD, show i < P.length by have := hij.1; have := hij.2.1; omega]
    have hpb : (P.getD j p0) ∈ P := by simp [List.getD, show j < P.length from hij.2.1]
    obtain ⟨xs, hxs⟩ : ∃ xs, xs = (P.getD i p0).1 := ⟨_, rfl⟩
    obtain ⟨ys, hys⟩ : ∃ ys, ys = (P.getD j p0).1 := ⟨_, rfl⟩
    have HCA : Hid (∀ w', Grow w w' → Calls Tryd.prog 31 #[ua] w' fun e w'' => ∃ v', e = .returned v' ∧ Ow w'' w'.heap.size v' xs ∧ Below w'.heap.size w' w'') := fun w' hw => by
      rw [hxs]; exact clone_any ((hL.el _ List.mem_cons_self).1.but hw (fun _ _ _ h => h)) (hb _ hpa)
    have HCB : Hid (∀ w', Grow w w' → Calls Tryd.prog 31 #[ub] w' fun e w'' => ∃ v', e = .returned v' ∧ Ow w'' w'.heap.size v' ys ∧ Below w'.heap.size w' w'') := fun w' hw => by
      rw [hys]; exact clone_any ((hL.el _ (List.mem_cons_of_mem _ List.mem_cons_self)).1.but hw (fun _ _ _ h => h)) (hb _ hpb)
    have HGB := Hid.mk' hgb
    have HF := Hid.mk' hF
    have HXS := Hid.mk' hxs
    have HYS := Hid.mk' hys
    have c2 : w.cell? ⟨gl, 2, none⟩ = some (.slice (some ⟨g, 0, none⟩) 2 cap) := h.blk.cell 2
    clear h hL hF hb hgb hrow hcell hpa hpb hij hLM hxs hys hfg hgl
    go_enter Tryd.func13, Tryd.ntmps13
    go_upto_region 3 with fail
    refine region_chain [([0, 1, 2, 3, 4, 5, 7, 8, 9, 10, 11, 12], 6), ([], 13)] [14, 15, 16] (Grow w) (Grow w) (by kernel_rfl) (by kernel_rfl) (fun _ _ h k => h.trans k) (fun _ h => h) ((But.refl _ w).drew) ?_
    intro ι hne W hW
    have c2 : ∀ x, (W x).cell? ⟨gl, 2, none⟩ = some (.slice (some ⟨g, 0, none⟩) 2 cap) := fun x => (HB.out.but (hW x) (fun h => h)).cell 2
    have d0 : ∀ x, (W x).cell? ⟨g, 0, none⟩ = some ua := fun x => (HGB.out _ (hW x)).1
    have d1 : ∀ x, (W x).cell? ⟨g, 1, none⟩ = some ub := fun x => (HGB.out _ (hW x)).2
    iterate 12 (refine still_step rfl (fun K hK => ?_); go_simp; refine hK _ ?_; clear hK K)
    refine still_nil ?_
    clear c2 d0 d1 hW hne
    refine turn_call rfl rfl (fun v w' => Grow w w' ∧ Ow w' w.heap.size v xs) (fun _ => Grow w) (fun v w1 w2 h k => ⟨h.1.trans k, h.2.but k (fun _ _ _ h => h)⟩) (fun v w1 h => h.1) (.inr (fun _ _ h => h)) 31 #[ua] (fun _ => by kernel_rfl) ?_ ?_
    · intro w1 hw1
      refine Calls.mono (HCA.out w1 hw1) ?_
      rintro e w2 ⟨v', rfl, ho, hbl⟩
      exact ⟨v', rfl, hw1.trans (But.of hbl), ho.mono hw1.size⟩
    · intro va hex X hX
      go_simp
      refine hX _ ?_
      clear hX X
      intro ι hne W hW
      refine still_nil ?_
      clear hW hne
      refine turn_call rfl rfl (fun v w' => Grow w w' ∧ Ow w' w.heap.size va xs ∧ Ow w' w.heap.size v ys) (fun _ => Grow w) (fun v w1 w2 h k => ⟨h.1.trans k, h.2.1.but k (fun _ _ _ h => h), h.2.2.but k (fun _ _ _ h => h)⟩) (fun v w1 h => h.1) (.inr (fun _ _ h => h)) 31 #[ub] (fun _ => by kernel_rfl) ?_ ?_
      · intro w1 hw1
        refine Calls.mono (HCB.out w1 hw1.1) ?_
        rintro e w2 ⟨v', rfl, ho, hbl⟩
        exact ⟨v', rfl, hw1.1.trans (But.of hbl), hw1.2.but (But.of (R := fun _ => False) hbl) (fun _ _ _ h => h), ho.mono hw1.1.size⟩
      · intro vb' hex X hX
        go_simp
        refine hX _ ?_
        clear hX X
        intro ι hne W hW
        iterate 3 (refine still_step rfl (fun K hK => ?_); go_simp; refine hK _ ?_; clear hK K)
        refine still_nil ?_
        intro w' hw'
        go_wp2
        refine bodyPost_ret (results_tmp3 rfl _ _ _) rfl ⟨hw'.1, .inr ⟨i, j, va, vb', rfl, HF.out, ?_, ?_⟩⟩
        · rw [← HXS.out]; exact hw'.2.1
        · rw [← HYS.out]; exact hw'.2.2
end Go.Proofs.YthpgjbblbhjndaaDoor
