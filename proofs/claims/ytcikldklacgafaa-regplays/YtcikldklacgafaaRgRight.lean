/- Which state may be: the program's Right, within, sinks, layoutOf, and the reference's Right. -/
import Derived.Test.YtcikldklacgafaaRgState
namespace Go.Proofs.Ytcikldklacgafaa
open Go.RowKit

theorem right_iff {S : Stt} : S.right = true ↔ (1 ≤ S.pages ∧ S.pages ≤ 4096) ∧ (1 ≤ S.budget ∧ S.budget ≤ 256) ∧ (0 ≤ S.cursor ∧ S.cursor ≤ S.pages) ∧ 0 < S.epoch := by
  unfold Stt.right
  simp only [Bool.and_eq_true, decide_eq_true_eq]
theorem right_no {S : Stt} (h : ¬ ((1 ≤ S.pages ∧ S.pages ≤ 4096) ∧ (1 ≤ S.budget ∧ S.budget ≤ 256) ∧ (0 ≤ S.cursor ∧ S.cursor ≤ S.pages) ∧ 0 < S.epoch)) : S.right = false := by
  cases hr : S.right
  · rfl
  · exact absurd (right_iff.1 hr) h
/-- A state in a box. -/
structure Box (w : World) (S : Stt) (wb : World) (gp : Nat) : Prop where
  ew : wb = w.alloc (.cells (scells S).toArray 26)
  eg : gp = w.heap.size
  grow : Grow w wb
  blk : Blk wb gp 26 (scells S)
theorem box_st (w : World) (S : Stt) : ∃ wb gp, Box w S wb gp :=
  ⟨_, _, rfl, rfl, (But.refl _ w).alloc _, Blk.new rfl⟩
theorem within_any (n l m : Int) (w : World) : Calls Try.prog 23 #[.int .i64 n, .int .i64 l, .int .i64 m] w fun e w' => e = .returned (.bool (decide (l ≤ n ∧ n ≤ m))) ∧ w' = w := by
  by_cases h1 : l ≤ n
  · by_cases h2 : n ≤ m
    · rw [decide_eq_true ⟨h1, h2⟩]
      go_enter Try.func23, Try.ntmps23
      go_wp2
      go_ret
      exact ⟨rfl, rfl⟩
    · rw [decide_eq_false (fun h => h2 h.2)]
      go_enter Try.func23, Try.ntmps23
      go_wp2
      go_ret
      exact ⟨rfl, rfl⟩
  · rw [decide_eq_false (fun h => h1 h.1)]
    go_enter Try.func23, Try.ntmps23
    go_wp2
    go_ret
    exact ⟨rfl, rfl⟩
section
variable {S A B : Stt}
set_option maxRecDepth 100000 in
theorem right_any (w : World) : Calls Try.prog 8 #[.agg (scells S).toArray] w fun e w' => e = .returned (.bool S.right) ∧ Grow w w' := by
  obtain ⟨wb, gp, hbx⟩ := box_st w S
  have HW := Hid.mk' hbx.ew
  have HGP := Hid.mk' hbx.eg
  have HG := Hid.mk' hbx.grow
  have c0 : wb.cell? ⟨gp, 0, none⟩ = some (.int .i64 S.pages) := hbx.blk.cell 0
  have c1 : wb.cell? ⟨gp, 1, none⟩ = some (.int .i64 S.budget) := hbx.blk.cell 1
  have c5 : wb.cell? ⟨gp, 5, none⟩ = some (.int .u32 S.epoch) := hbx.blk.cell 5
  have c6 : wb.cell? ⟨gp, 6, none⟩ = some (.int .i64 S.cursor) := hbx.blk.cell 6
  have HW1 := Hid.mk' (within_any S.pages 1 4096 wb)
  have HW2 := Hid.mk' (within_any S.budget 1 256 wb)
  have HW3 := Hid.mk' (within_any S.cursor 0 S.pages wb)
  have HR : Hid (S.right = (decide (1 ≤ S.pages ∧ S.pages ≤ 4096) && (decide (1 ≤ S.budget ∧ S.budget ≤ 256) && (decide (0 ≤ S.cursor ∧ S.cursor ≤ S.pages) && decide (0 < S.epoch))))) := rfl
  generalize decide (1 ≤ S.pages ∧ S.pages ≤ 4096) = b1 at HW1 HR
  generalize decide (1 ≤ S.budget ∧ S.budget ≤ 256) = b2 at HW2 HR
  generalize decide (0 ≤ S.cursor ∧ S.cursor ≤ S.pages) = b3 at HW3 HR
  obtain ⟨N, hN⟩ : ∃ N, N = (scells S).toArray := ⟨_, rfl⟩
  rw [← hN] at HW ⊢
  clear hbx hN
  go_enter Try.func8, Try.ntmps8
  go_upto_region 1 with fail
  rw [← HW.out, ← HGP.out]
  clear HW HGP
  go_wp2_with fail
  refine Calls.mono HW1.out ?_
  rintro e w1 ⟨rfl, hw1⟩
  have h2 := hw1.symm
  subst h2
  clear hw1 HW1
  cases b1
  · go_wp2
    go_ret
    exact ⟨by rw [HR.out]; rfl, HG.out⟩
  go_wp2_with fail
  refine Calls.mono HW2.out ?_
  rintro e w1 ⟨rfl, hw1⟩
  have h2 := hw1.symm
  subst h2
  clear hw1 HW2
  cases b2
  · go_wp2
    go_ret
    exact ⟨by rw [HR.out]; rfl, HG.out⟩
  go_wp2_with fail
  refine Calls.mono HW3.out ?_
  rintro e w1 ⟨rfl, hw1⟩
  have h2 := hw1.symm
  subst h2
  clear hw1 HW3
  cases b3
  · go_wp2
    go_ret
    exact ⟨by rw [HR.out]; rfl, HG.out⟩
  go_wp2
  go_ret
  exact ⟨by rw [HR.out]; rfl, HG.out⟩
set_option maxRecDepth 100000 in
theorem rright_any (hS : S.ok) (w : World) : Calls Try.prog 9 #[.agg (scells S).toArray] w fun e w' => e = .returned (.bool S.right) ∧ Grow w w' := by
  obtain ⟨wb, gp, hbx⟩ := box_st w S
  have HW := Hid.mk' hbx.ew
  have HGP := Hid.mk' hbx.eg
  have HG := Hid.mk' hbx.grow
  have HEP := Hid.mk' hS.epoch
  have c0 : wb.cell? ⟨gp, 0, none⟩ = some (.int .i64 S.pages) := hbx.blk.cell 0
  have c1 : wb.cell? ⟨gp, 1, none⟩ = some (.int .i64 S.budget) := hbx.blk.cell 1
  have c5 : wb.cell? ⟨gp, 5, none⟩ = some (.int .u32 S.epoch) := hbx.blk.cell 5
  have c6 : wb.cell? ⟨gp, 6, none⟩ = some (.int .i64 S.cursor) := hbx.blk.cell 6
  obtain ⟨N, hN⟩ : ∃ N, N = (scells S).toArray := ⟨_, rfl⟩
  rw [← hN] at HW ⊢
  have HNO := Hid.mk' (right_no (S := S))
  have HYES := Hid.mk' (right_iff (S := S)).2
  obtain ⟨p, hp⟩ : ∃ p, p = S.pages := ⟨_, rfl⟩
  obtain ⟨q, hq⟩ : ∃ q, q = S.budget := ⟨_, rfl⟩
  obtain ⟨c, hc⟩ : ∃ c, c = S.cursor := ⟨_, rfl⟩
  obtain ⟨t, ht⟩ : ∃ t, t = S.epoch := ⟨_, rfl⟩
  rw [← hp] at c0
  rw [← hq] at c1
  rw [← hc] at c6
  rw [← ht] at c5 HEP
  rw [← hp, ← hq, ← hc, ← ht] at HNO HYES
  clear hbx hN hS hp hq hc ht
  by_cases h1 : p < 1
  · have HF := Hid.mk' (HNO.out (by omega))
    go_enter Try.func9, Try.ntmps9
    go_upto_region 1 with fail
    rw [← HW.out, ← HGP.out]
    go_wp2
    go_ret
    exact ⟨by rw [HF.out]; rfl, HG.out⟩
  by_cases h2 : 4096 < p
  · have HF := Hid.mk' (HNO.out (by omega))
    go_enter Try.func9, Try.ntmps9
    go_upto_region 1 with fail
    rw [← HW.out, ← HGP.out]
    go_wp2
    go_ret
    exact ⟨by rw [HF.out]; rfl, HG.out⟩
  by_cases h3 : q < 1
  · have HF := Hid.mk' (HNO.out (by omega))
    go_enter Try.func9, Try.ntmps9
    go_upto_region 1 with fail
    rw [← HW.out, ← HGP.out]
    go_wp2
    go_ret
    exact ⟨by rw [HF.out]; rfl, HG.out⟩
  by_cases h4 : 256 < q
  · have HF := Hid.mk' (HNO.out (by omega))
    go_enter Try.func9, Try.ntmps9
    go_upto_region 1 with fail
    rw [← HW.out, ← HGP.out]
    go_wp2
    go_ret
    exact ⟨by rw [HF.out]; rfl, HG.out⟩
  by_cases h5 : 0 ≤ c
  · by_cases h6 : c ≤ p
    · by_cases h7 : t = 0
      · have HF := Hid.mk' (HNO.out (by omega))
        subst h7
        go_enter Try.func9, Try.ntmps9
        go_upto_region 1 with fail
        rw [← HW.out, ← HGP.out]
        go_wp2
        go_ret
        exact ⟨by rw [HF.out]; rfl, HG.out⟩
      · have HF := Hid.mk' (HYES.out (by have := HEP.out; omega))
        have h7' : (t != 0) = true := by simpa using h7
        go_enter Try.func9, Try.ntmps9
        go_upto_region 1 with fail
        rw [← HW.out, ← HGP.out]
        go_wp2
        go_ret
        exact ⟨by rw [HF.out]; rfl, HG.out⟩
    · have HF := Hid.mk' (HNO.out (by omega))
      go_enter Try.func9, Try.ntmps9
      go_upto_region 1 with fail
      rw [← HW.out, ← HGP.out]
      go_wp2
      go_ret
      exact ⟨by rw [HF.out]; rfl, HG.out⟩
  · have HF := Hid.mk' (HNO.out (by omega))
    go_enter Try.func9, Try.ntmps9
    go_upto_region 1 with fail
    rw [← HW.out, ← HGP.out]
    go_wp2
    go_ret
    exact ⟨by rw [HF.out]; rfl, HG.out⟩
end
end Go.Proofs.Ytcikldklacgafaa
