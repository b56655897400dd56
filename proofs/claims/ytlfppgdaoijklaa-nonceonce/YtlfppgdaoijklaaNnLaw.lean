/- A law's own source; the reference's Left; the document's example. -/
import Derived.Test.YtlfppgdaoijklaaNnNext
namespace Go.Proofs.Ytlfppgdaoijklaa
open Go.RowKit

set_option maxRecDepth 100000 in
theorem rleft_any (w : World) (F T : Nat) (hF : F < 18446744073709551616) (hT : T < 100000) : Calls Try.prog 8 #[.int .u64 (F : Int), .int .u64 (T : Int)] w fun e w' => e = .returned (.int .u64 (lef (F + T) : Int)) ∧ w' = w := by
  obtain ⟨L, hL⟩ : ∃ L : Int, L = (lef (F + T) : Int) := ⟨_, rfl⟩
  have HL : Hid (L = (lef (F + T) : Int)) := hL
  obtain ⟨M, hM⟩ : ∃ M : Int, M = (F : Int) := ⟨_, rfl⟩
  obtain ⟨N, hN⟩ : ∃ N : Int, N = (T : Int) := ⟨_, rfl⟩
  rw [← hL, ← hM, ← hN]
  unfold lef at hL
  have m1 : 0 ≤ M := by omega
  have m2 : M < 18446744073709551616 := by omega
  have n1 : 0 ≤ N := by omega
  have n2 : N < 100000 := by omega
  by_cases hf : F = 0
  · by_cases ht : T = 0
    · rw [if_pos (by omega)] at hL
      have e1 : M = 0 := by omega
      have e2 : N = 0 := by omega
      rw [hL, e1, e2]
      clear hL HL hM hN m1 m2 n1 n2 hf ht hF hT e1 e2
      go_enter Try.func8, Try.ntmps8
      go_wp2
      go_ret
      exact ⟨rfl, rfl⟩
    · rw [if_neg (by omega)] at hL
      have e1 : M = 0 := by omega
      have t2 : (N == 0) = false := by simp; omega
      have n3 : 0 < N := by omega
      have e3 : L = (18446744073709551615 : Int) - N + 1 := by omega
      rw [e1, e3]
      clear hL HL hM hN m1 m2 hf ht hF hT e1 e3
      go_enter Try.func8, Try.ntmps8
      go_wp2
      go_ret
      exact ⟨rfl, rfl⟩
  · rw [if_neg (by omega)] at hL
    have t1 : (M == 0) = false := by simp; omega
    have m3 : 0 < M := by omega
    by_cases hg : (18446744073709551615 : Int) - M + 1 < N
    · have e3 : L = 0 := by omega
      rw [e3]
      clear hL HL hM hN hf hF hT e3
      go_enter Try.func8, Try.ntmps8
      go_wp2
      go_ret
      exact ⟨rfl, rfl⟩
    · have e3 : L = (18446744073709551615 : Int) - M + 1 - N := by omega
      rw [e3]
      clear hL HL hM hN hf hF hT e3
      go_enter Try.func8, Try.ntmps8
      go_wp2
      go_ret
      exact ⟨rfl, rfl⟩
/-- The source is new since w0. -/
structure Sr (w0 w : World) (g B p : Nat) : Prop where
  src : Src w g B p
  grow : Grow w0 w
  new : w0.heap.size ≤ g
section
variable {w0 w w' : World} {g B p : Nat}
theorem Sr.then (h : Sr w0 w g B p) (k : Grow w w') : Sr w0 w' g B p := ⟨h.src.grow k, h.grow.trans k, h.new⟩
theorem Sr.but {R : Nat → Prop} (h : Sr w0 w g B p) (k : But R w w') (h1 : ¬ R g) (h2 : ∀ b, R b → w0.heap.size ≤ b) : Sr w0 w' g B p := ⟨h.src.but k h1, h.grow.then k (fun b hb e => by have := h2 b e; omega), h.new⟩
theorem Sr.to (h : Sr w0 w g B p) (k : NxTo w g B p w') : Sr w0 w' g B (p + 1) := ⟨k.src, h.grow.then k.but (fun i hi e => by have := h.new; omega), h.new⟩
theorem Sr.lt (h : Sr w0 w g B p) : g < w.heap.size := h.src.blk.lt
theorem sr_new (w : World) (B p : Nat) (hB : B < 4294967296) (hp : p < 18446744073709551616) : Calls Try.prog 7 #[.int .u32 (B : Int), .int .u64 (p : Int)] w fun e w' => ∃ g, e = .returned (ptr g) ∧ Sr w w' g B p := by
  refine (nnew_any w B p hB hp).mono ?_
  rintro e w' ⟨rfl, h1, h2⟩
  exact ⟨_, rfl, h1, h2, Nat.le_refl _⟩
theorem sr_next (h : Sr w0 w g B p) (E : Nat) : Calls Try.prog 10 #[ptr g, .int .u32 (E : Int)] w fun e w' => e = .returned (.tuple #[evalE (tldE E B p), .int .i64 (codE p)]) ∧ Sr w0 w' g B (p + 1) ∧ But (· = g) w w' := (nnext_any h.src E).mono (fun _ _ k => ⟨k.1, h.to k.2, k.2.but⟩)
/-- What Next tells, laid into a new variable. -/
theorem sr_var (h : Sr w0 w g B p) (x : En) : ∃ w2, (storeVar 30 ⟨w.heap.size, 0, none⟩ (evalE x)).run Try.prog (w.alloc (.cells #[.int .u32 0, .int .u32 0, .int .u64 0] 30)) = .ok () w2 ∧ Blk w2 w.heap.size 30 (ecells x) ∧ Sr w0 w2 g B p ∧ Grow w w2 := by
  obtain ⟨w2, q1, q2, q3⟩ := newEn w x
  exact ⟨w2, q1, q2, h.then q3, q3⟩
end
set_option maxRecDepth 100000 in
set_option maxHeartbeats 1000000 in
theorem nnawake_any (w : World) : Calls Try.prog 11 #[] w fun e w' => e = .returned (.bool true) ∧ Grow w w' := by
  have HN : Hid (Calls Try.prog 7 #[.int .u32 3, .int .u64 18446744073709551614] w fun e w' => ∃ g, e = .returned (ptr g) ∧ Sr w w' g 3 18446744073709551614) := sr_new w 3 18446744073709551614 (by decide) (by decide)
  go_enter Try.func11, Try.ntmps11
  go_wp2_with fail
  refine Calls.mono HN.out ?_
  rintro e w1 ⟨g, rfl, h1⟩
  have H2 : Hid (Calls Try.prog 10 #[ptr g, .int .u32 1] w1 fun e w' => e = .returned (.tuple #[evalE ⟨1, 3, 18446744073709551614⟩, .int .i64 0]) ∧ Sr w w' g 3 18446744073709551615 ∧ But (· = g) w1 w') := sr_next h1 1
  clear h1 HN
  go_wp2_with fail
  refine Calls.mono H2.out ?_
  rintro e w2 ⟨rfl, h2, -⟩
  obtain ⟨w3, hs3, hb3, h3, -⟩ := sr_var h2 ⟨1, 3, 18446744073709551614⟩
  have HS3 := Hid.mk' hs3
  have HB3 := Hid.mk' hb3
  have HH3 := Hid.mk' h3
  obtain ⟨g2, hg2⟩ : ∃ g2, g2 = w2.heap.size := ⟨_, rfl⟩
  rw [← hg2] at HB3
  have HG2 := Hid.mk' hg2
  have H3 : Hid (Calls Try.prog 10 #[ptr g, .int .u32 2] w3 fun e w' => e = .returned (.tuple #[evalE ⟨2, 3, 18446744073709551615⟩, .int .i64 0]) ∧ Sr w w' g 3 18446744073709551616 ∧ But (· = g) w3 w') := sr_next h3 2
  have HL2 : Hid (¬ (g2 = g)) := by have := h2.lt; show ¬ _; omega
  clear h2 hs3 hb3 h3 hg2 H2
  go_upto_region 3 with (first
    | (refine wpList_runH rfl (exec_allocF rfl (zeroE _)) ?_)
    | (refine wpList_skipH rfl (exec_stF (v := evalE ⟨1, 3, 18446744073709551614⟩) rfl rfl rfl HS3.out) ?_)
    | fail)
  rw [← HG2.out]
  go_wp2_with fail
  refine Calls.mono H3.out ?_
  rintro e w4 ⟨rfl, h4, k4⟩
  have HB4 := Hid.mk' (HB3.out.but k4 HL2.out)
  obtain ⟨w5, hs5, hb5, h5, k5⟩ := sr_var h4 ⟨2, 3, 18446744073709551615⟩
  have HS5 := Hid.mk' hs5
  have HB5 := Hid.mk' hb5
  have HB25 := Hid.mk' (HB4.out.but k5 (fun h => h))
  obtain ⟨g4, hg4⟩ : ∃ g4, g4 = w4.heap.size := ⟨_, rfl⟩
  rw [← hg4] at HB5
  have HG4 := Hid.mk' hg4
  have H5 : Hid (Calls Try.prog 10 #[ptr g, .int .u32 2] w5 fun e w' => e = .returned (.tuple #[evalE ⟨0, 0, 0⟩, .int .i64 13]) ∧ Sr w w' g 3 18446744073709551617 ∧ But (· = g) w5 w') := sr_next h5 2
  have HL4 : Hid (¬ (g4 = g)) := by have := h4.lt; show ¬ _; omega
  clear h4 k4 hs5 hb5 h5 k5 hg4 HB4 HB3 HS3 HH3 H3
  go_upto_region 4 with (first
    | (refine wpList_runH rfl (exec_allocF rfl (zeroE _)) ?_)
    | (refine wpList_skipH rfl (exec_stF (v := evalE ⟨2, 3, 18446744073709551615⟩) rfl rfl rfl HS5.out) ?_)
    | fail)
  rw [← HG4.out]
  go_wp2_with fail
  refine Calls.mono H5.out ?_
  rintro e w6 ⟨rfl, h6, k6⟩
  obtain ⟨w7, hs7, -, h7, k7⟩ := sr_var h6 ⟨0, 0, 0⟩
  have HS7 := Hid.mk' hs7
  have HB27 := Hid.mk' ((HB25.out.but k6 HL2.out).but k7 (fun h => h))
  have hb47 := (HB5.out.but k6 HL4.out).but k7 (fun h => h)
  have d2 : w7.cell? ⟨g4, 2, none⟩ = some (.int .u64 18446744073709551615) := hb47.cell 2
  have HG7 := Hid.mk' h7.grow
  clear h6 k6 hs7 h7 k7 hb47 HB5 HB25 H5 HS5
  go_wp2_with (first
    | (refine wpList_runH rfl (exec_allocF rfl (zeroE _)) ?_)
    | (refine wpList_skipH rfl (exec_stF (v := evalE ⟨0, 0, 0⟩) rfl rfl rfl HS7.out) ?_)
    | (refine wpList_want_runN rfl (exec_ldE (cs := ⟨1, 3, 18446744073709551614⟩) HB27.out.cells0 rfl rfl) ?_)
    | (refine wpList_want_runN rfl (exec_eqE (b := true) rfl rfl rfl gE (equalEn ⟨1, 3, 18446744073709551614⟩ _)) ?_)
    | fail)
  go_ret
  exact ⟨rfl, HG7.out⟩
end Go.Proofs.Ytlfppgdaoijklaa
