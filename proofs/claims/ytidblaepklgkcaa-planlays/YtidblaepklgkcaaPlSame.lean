/- The reference's Same, of two plans that are alike. -/
import Derived.Test.YtidblaepklgkcaaPlAwake
namespace Go.Proofs.Ytidblaepklgkcaa
open Go.RowKit

set_option maxRecDepth 100000 in
set_option maxHeartbeats 4000000 in
theorem rsame_any (w : World) (p : Pn) (v u : Value) (hv : Nums w v p.levels) (hu : Nums w u p.levels) : Calls Try.prog 19 #[pval p v, pval p u] w fun e w' => e = .returned (.bool true) ∧ Grow w w' := by
  obtain ⟨W0, g0, hb0⟩ := box_pl w p v
  obtain ⟨W, g1, hb1⟩ := box_pl W0 p u
  have HW0 := Hid.mk' hb0.ew
  have HW1 := Hid.mk' hb1.ew
  have HG0 := Hid.mk' hb0.eg
  have HG1 : Hid (g1 = w.heap.size + 1) := Hid.mk' (by rw [hb1.eg, hb0.ew]; simp)
  have HGW := Hid.mk' (hb0.grow.trans hb1.grow)
  have hx := hb0.blk.but hb1.grow (fun h => h)
  have hy := hb1.blk
  have HX : Hid (∀ wz, Grow W wz → Blk wz g0 42 (pcells p v)) := fun wz k => hx.but k (fun h => h)
  have HY : Hid (∀ wz, Grow W wz → Blk wz g1 42 (pcells p u)) := fun wz k => hy.but k (fun h => h)
  have c3 : W.cell? ⟨g0, 3, none⟩ = some v := hx.cell 3
  have d3 : W.cell? ⟨g1, 3, none⟩ = some u := hy.cell 3
  obtain ⟨a1, k1, e1⟩ := hv.len
  obtain ⟨a2, k2, e2⟩ := hu.len
  obtain ⟨n, hn⟩ : ∃ n, n = p.levels.length := ⟨_, rfl⟩
  rw [← hn] at e1 e2
  have hnb : (n : Int) ≤ 140737488355328 := by have := hv.2.1; omega
  have HN := Hid.mk' hn
  have HV := Hid.mk' (hv.grow HGW.out)
  have HU := Hid.mk' (hu.grow HGW.out)
  unfold pval
  obtain ⟨N, hN⟩ : ∃ N, N = (pcells p v).toArray := ⟨_, rfl⟩
  obtain ⟨M, hM⟩ : ∃ M, M = (pcells p u).toArray := ⟨_, rfl⟩
  rw [← hN] at HW0 ⊢
  rw [← hM] at HW1 ⊢
  obtain ⟨q0, r0⟩ : ∃ q, q = p.pages := ⟨_, rfl⟩
  obtain ⟨q1, r1⟩ : ∃ q, q = p.budget := ⟨_, rfl⟩
  obtain ⟨q2, r2⟩ : ∃ q, q = p.counters := ⟨_, rfl⟩
  obtain ⟨q4, r4⟩ : ∃ q, q = p.nodes := ⟨_, rfl⟩
  obtain ⟨q5, r5⟩ : ∃ q, q = p.head := ⟨_, rfl⟩
  obtain ⟨q6, r6⟩ : ∃ q, q = p.heads := ⟨_, rfl⟩
  obtain ⟨q7, r7⟩ : ∃ q, q = p.journal := ⟨_, rfl⟩
  obtain ⟨q8, r8⟩ : ∃ q, q = p.spill := ⟨_, rfl⟩
  obtain ⟨q9, r9⟩ : ∃ q, q = p.total := ⟨_, rfl⟩
  have HQ := Hid.mk' (And.intro r0 (And.intro r1 (And.intro r2 (And.intro r4 (And.intro r5 (And.intro r6 (And.intro r7 (And.intro r8 r9))))))))
  clear hb0 hb1 hx hy hv hu hn hN hM r0 r1 r2 r4 r5 r6 r7 r8 r9
  subst e1 e2
  go_enter Try.func19, Try.ntmps19
  go_upto_region 1 with fail
  rw [← HW0.out, ← HW1.out, ← HG1.out, ← HG0.out]
  clear HW0 HW1 HG0 HG1
  go_wp2
  go_loopw [5] (fun iv wr => ∃ i : Nat, i ≤ n ∧ iv = .int .i64 i ∧ Grow W wr) (fun iv _ => n - (intOf iv).toNat)
  case atStart => exact ⟨0, Nat.zero_le _, rfl, But.refl _ _⟩
  case round =>
    clear c3 d3
    obtain ⟨i, hin, rfl, hg⟩ := hrel
    have HG := Hid.mk' hg
    have c3 : wr.cell? ⟨g0, 3, none⟩ = some (.slice a1 n k1) := (HX.out wr hg).cell 3
    have d3 : wr.cell? ⟨g1, 3, none⟩ = some (.slice a2 n k2) := (HY.out wr hg).cell 3
    clear hg
    by_cases hlt : i < n
    · have hlti : (i : Int) < (n : Int) := by omega
      obtain ⟨b1, o1, k1, e1, -, -, hc1⟩ := HV.out.at (by have := HN.out; omega)
      obtain ⟨b2, o2, k2, e2, -, -, hc2⟩ := HU.out.at (by have := HN.out; omega)
      simp only [Value.slice.injEq] at e1 e2
      obtain ⟨rfl, -, rfl⟩ := e1
      obtain ⟨rfl, -, rfl⟩ := e2
      have HC1 := Hid.mk' (grow_cell HG.out (hc1 i (by have := HN.out; omega)))
      have HC2 := Hid.mk' (grow_cell HG.out (hc2 i (by have := HN.out; omega)))
      generalize p.levels.getD i 0 = x at HC1 HC2
      clear hc1 hc2
      have hxx : (x != x) = false := by simp
      have HLT := Hid.mk' hlt
      clear hin hlt
      go_upto_region 6 with fail
      have HC3 := Hid.mk' c3
      have HD3 := Hid.mk' d3
      clear c3 d3
      refine region_chain [] [0, 1, 2, 3, 4, 5, 6, 7, 8, 9, 10] (Grow wr) (Grow wr) (by kernel_rfl) (by kernel_rfl) (fun _ _ h k => h.trans k) (fun _ h => h) ((But.refl _ wr).drew) ?_
      intro ι hne X hX
      have x0 : ∀ z, (X z).cell? ⟨g0, 3, none⟩ = some (.slice (some ⟨b1, o1, none⟩) n k1) := fun z => grow_cell (hX z) HC3.out
      have x1 : ∀ z, (X z).cell? ⟨g1, 3, none⟩ = some (.slice (some ⟨b2, o2, none⟩) n k2) := fun z => grow_cell (hX z) HD3.out
      have x2 : ∀ z, (X z).cell? ⟨b1, o1 + i, none⟩ = some (.int .i64 x) := fun z => grow_cell (hX z) HC1.out
      have x3 : ∀ z, (X z).cell? ⟨b2, o2 + i, none⟩ = some (.int .i64 x) := fun z => grow_cell (hX z) HC2.out
      iterate 11 (refine still_step rfl (fun K hK => ?_); go_simp; refine hK _ ?_; clear hK K)
      refine still_nil ?_
      clear hX hne x0 x1 x2 x3 HC1 HC2 HC3 HD3
      intro w2 hw2
      have HG2 := Hid.mk' (HG.out.trans hw2)
      clear hw2
      go_wp2
      exact ⟨⟨i + 1, by have := HLT.out; omega, by go_num, HG2.out⟩, by simp [intOf]; have := HLT.out; omega⟩
    · have hlti : ¬ (i : Int) < (n : Int) := by omega
      have HF : Hid (Grow w wr) := HGW.out.trans HG.out
      have hX := HX.out wr HG.out
      have hY := HY.out wr HG.out
      obtain ⟨r0, r1, r2, r4, r5, r6, r7, r8, r9⟩ := HQ.out
      have x0 : wr.cell? ⟨g0, 0, none⟩ = some (.int .i64 q0) := by rw [r0]; exact hX.cell 0
      have x1 : wr.cell? ⟨g0, 1, none⟩ = some (.int .i64 q1) := by rw [r1]; exact hX.cell 1
      have x2 : wr.cell? ⟨g0, 2, none⟩ = some (.int .i64 q2) := by rw [r2]; exact hX.cell 2
      have x4 : wr.cell? ⟨g0, 4, none⟩ = some (.int .i64 q4) := by rw [r4]; exact hX.cell 4
      have x5 : wr.cell? ⟨g0, 5, none⟩ = some (.int .i64 q5) := by rw [r5]; exact hX.cell 5
      have x6 : wr.cell? ⟨g0, 6, none⟩ = some (.int .i64 q6) := by rw [r6]; exact hX.cell 6
      have x7 : wr.cell? ⟨g0, 7, none⟩ = some (.int .i64 q7) := by rw [r7]; exact hX.cell 7
      have x8 : wr.cell? ⟨g0, 8, none⟩ = some (.int .i64 q8) := by rw [r8]; exact hX.cell 8
      have x9 : wr.cell? ⟨g0, 9, none⟩ = some (.int .i64 q9) := by rw [r9]; exact hX.cell 9
      have y0 : wr.cell? ⟨g1, 0, none⟩ = some (.int .i64 q0) := by rw [r0]; exact hY.cell 0
      have y1 : wr.cell? ⟨g1, 1, none⟩ = some (.int .i64 q1) := by rw [r1]; exact hY.cell 1
      have y2 : wr.cell? ⟨g1, 2, none⟩ = some (.int .i64 q2) := by rw [r2]; exact hY.cell 2
      have y4 : wr.cell? ⟨g1, 4, none⟩ = some (.int .i64 q4) := by rw [r4]; exact hY.cell 4
      have y5 : wr.cell? ⟨g1, 5, none⟩ = some (.int .i64 q5) := by rw [r5]; exact hY.cell 5
      have y6 : wr.cell? ⟨g1, 6, none⟩ = some (.int .i64 q6) := by rw [r6]; exact hY.cell 6
      have y7 : wr.cell? ⟨g1, 7, none⟩ = some (.int .i64 q7) := by rw [r7]; exact hY.cell 7
      have y8 : wr.cell? ⟨g1, 8, none⟩ = some (.int .i64 q8) := by rw [r8]; exact hY.cell 8
      have y9 : wr.cell? ⟨g1, 9, none⟩ = some (.int .i64 q9) := by rw [r9]; exact hY.cell 9
      clear hX hY r0 r1 r2 r4 r5 r6 r7 r8 r9 HQ hin hlt
      go_wp2
      go_ret
      exact ⟨rfl, HF.out⟩
end Go.Proofs.Ytidblaepklgkcaa
