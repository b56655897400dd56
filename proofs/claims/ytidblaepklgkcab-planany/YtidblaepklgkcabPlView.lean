/- A plan that came in. -/
import Derived.Test.YtidblaepklgkcabPlAwake
import Derived.ProofKit
import Derived.OpenShut
import Derived.ChangeOld
import Derived.Below
namespace Go.Proofs.Ytidblaepklgkcab
open Go.ChangeShapes Go.WideShapes Go.ChangeAt Go.RowKit Go.Deep

section
variable {H : Type} {enc : TypeId × Value → H} {P : Program} {w : World} {base : Nat} {spare : Nat → Bool} {held : Bool}
theorem nview_inner {t e : TypeId} {v : Value} {d : DataW H} {ps : List MemPlace} {fuel : Nat}
    (hu : P.underlying t = some (.slice e)) (hf : P.underlying e = some (.int .i64)) (hc : P.cellsOf e = 1) (hb : P.bytesOf e = 8)
    (h : DataW.trod enc P w base spare held fuel t [v] = some (d, ps)) (hlt : ∀ x ∈ ps, x.block < w.heap.size) (hsz : ∀ n ∈ d.weights P t, n ≤ reachBytes) : ∃ fs, Nums w v fs := by
  rcases open_slice1 hu hc h with ⟨hcs, _⟩ | ⟨a, len, cap, m, n, V, D, Pl, hcs, _, hl, hm, hmm, hx, hcell⟩
  · simp only [List.cons.injEq, and_true] at hcs
    subst hcs
    exact ⟨[], nofun, by simp, .inl ⟨rfl, .inl rfl⟩⟩
  · simp only [List.cons.injEq, and_true] at hcs
    subst hcs
    simp only [Prod.mk.injEq] at hx
    obtain ⟨rfl, rfl⟩ := hx
    have hlm : len ≤ m := by rw [hmm]; split <;> omega
    have hreach : len * 8 ≤ 140737488351232 := by
      have := hsz ((len + (m - len)) * 8) (by simp [DataW.weights, hu, hb])
      simp only [reachBytes] at this
      omega
    have hfl : ∀ i, i < len → ∃ b : Int, V i = .int .i64 b ∧ -9223372036854775808 ≤ b ∧ b ≤ 9223372036854775807 := by
      intro i hi
      obtain ⟨b, hb1, _, hw0⟩ := DataW.trod_int hf (hcell i (by omega)).2
      have h8 : IntKind.i64.min ≤ b ∧ b ≤ IntKind.i64.max := by simpa [Lit.wf, go_sem] using hw0
      have e1 : IntKind.i64.min = -9223372036854775808 := rfl
      have e2 : IntKind.i64.max = 9223372036854775807 := rfl
      simp only [List.cons.injEq, and_true] at hb1
      exact ⟨b, hb1, by omega, by omega⟩
    obtain ⟨B, hB⟩ := choose_lt (α := Int) (p := fun i b => V i = .int .i64 b ∧ -9223372036854775808 ≤ b ∧ b ≤ 9223372036854775807) hfl
    refine ⟨(List.range len).map B, ?_, by simp; omega, ?_⟩
    · intro z hz
      obtain ⟨i, hi, rfl⟩ := List.mem_map.1 hz
      exact (hB i (by simpa using hi)).2
    · by_cases h0 : len = 0
      · subst h0; exact .inl ⟨by simp, .inr ⟨_, _, rfl⟩⟩
      · right
        obtain ⟨b, off, spot⟩ := a
        have hspot : spot = none := by simpa [Addr.add] using World.cell?_spot (hcell 0 (by omega)).1
        subst hspot
        refine ⟨by simp; omega, b, off, cap, by simp, by simpa using hl, hlt (.cell b off) (List.mem_append_left _ (MemPlace.mem_row.2 ⟨0, by omega, by simp⟩)), ?_⟩
        intro i hi
        have hi' : i < len := by simpa using hi
        rw [← add_plain, (hcell i (by omega)).1, (hB i hi').1]
        simp [hi']
end
section
variable {H : Type} {enc : TypeId × Value → H} {w : World} {base : Nat} {spare : Nat → Bool} {held : Bool}
theorem Pst : Try.prog.underlying 24 = some (.struct #[⟨ "Pages", 3, 0, false, "", "", 0⟩, ⟨ "Budget", 3, 1, false, "", "", 8⟩, ⟨ "Counters", 3, 2, false, "", "", 16⟩, ⟨ "Levels", 22, 3, false, "", "", 24⟩, ⟨ "Nodes", 3, 4, false, "", "", 48⟩, ⟨ "Head", 3, 5, false, "", "", 56⟩, ⟨ "Heads", 3, 6, false, "", "", 64⟩, ⟨ "Journal", 3, 7, false, "", "", 72⟩, ⟨ "Spill", 3, 8, false, "", "", 80⟩, ⟨ "Total", 3, 9, false, "", "", 88⟩]) := by kernel_rfl
set_option maxRecDepth 100000 in
theorem trod_plan {m : Nat} {cs : List Value} {d : DataW H} {ps : List MemPlace} (h : DataW.trod enc Try.prog w base spare held m 24 cs = some (d, ps)) (hlt : ∀ x ∈ ps, x.block < w.heap.size) (hsz : ∀ k ∈ d.weights Try.prog 24, k ≤ reachBytes) (hl : cs.length = 10) :
    ∃ p v, cs = pcells p v ∧ Nums w v p.levels := by
  obtain ⟨xs, nn, _, hx, _, hxl, hf⟩ := DataW.trod_struct Pst h
  simp only [Prod.mk.injEq] at hx
  obtain ⟨hD, hP⟩ := hx
  match xs, hxl with
  | [x0, x1, x2, x3, x4, x5, x6, x7, x8, x9], _ =>
    have c1 : Try.prog.cellsOf 3 = 1 := by kernel_rfl
    have cs1 : Try.prog.cellsOf 22 = 1 := by kernel_rfl
    have g0 : DataW.trod enc Try.prog w base spare held nn 3 ((cs.drop 0).take (Try.prog.cellsOf 3)) = some x0 := hf 0 _ rfl
    have g1 : DataW.trod enc Try.prog w base spare held nn 3 ((cs.drop 1).take (Try.prog.cellsOf 3)) = some x1 := hf 1 _ rfl
    have g2 : DataW.trod enc Try.prog w base spare held nn 3 ((cs.drop 2).take (Try.prog.cellsOf 3)) = some x2 := hf 2 _ rfl
    have g3 : DataW.trod enc Try.prog w base spare held nn 22 ((cs.drop 3).take (Try.prog.cellsOf 22)) = some x3 := hf 3 _ rfl
    have g4 : DataW.trod enc Try.prog w base spare held nn 3 ((cs.drop 4).take (Try.prog.cellsOf 3)) = some x4 := hf 4 _ rfl
    have g5 : DataW.trod enc Try.prog w base spare held nn 3 ((cs.drop 5).take (Try.prog.cellsOf 3)) = some x5 := hf 5 _ rfl
    have g6 : DataW.trod enc Try.prog w base spare held nn 3 ((cs.drop 6).take (Try.prog.cellsOf 3)) = some x6 := hf 6 _ rfl
    have g7 : DataW.trod enc Try.prog w base spare held nn 3 ((cs.drop 7).take (Try.prog.cellsOf 3)) = some x7 := hf 7 _ rfl
    have g8 : DataW.trod enc Try.prog w base spare held nn 3 ((cs.drop 8).take (Try.prog.cellsOf 3)) = some x8 := hf 8 _ rfl
    have g9 : DataW.trod enc Try.prog w base spare held nn 3 ((cs.drop 9).take (Try.prog.cellsOf 3)) = some x9 := hf 9 _ rfl
    rw [c1] at g0 g1 g2 g4 g5 g6 g7 g8 g9
    rw [cs1] at g3
    match cs, hl with
    | [a0, a1, a2, a3, a4, a5, a6, a7, a8, a9], _ =>
      have one : ∀ (a : Value) (x : DataW H × List MemPlace), DataW.trod enc Try.prog w base spare held nn 3 [a] = some x → ∃ z : Int, a = .int .i64 z := fun a x g => by
        obtain ⟨z, hz1, _, _⟩ := DataW.trod_int Try.underlying3 g
        simp only [List.cons.injEq, and_true] at hz1
        exact ⟨z, hz1⟩
      obtain ⟨z0, rfl⟩ := one a0 x0 g0
      obtain ⟨z1, rfl⟩ := one a1 x1 g1
      obtain ⟨z2, rfl⟩ := one a2 x2 g2
      obtain ⟨z4, rfl⟩ := one a4 x4 g4
      obtain ⟨z5, rfl⟩ := one a5 x5 g5
      obtain ⟨z6, rfl⟩ := one a6 x6 g6
      obtain ⟨z7, rfl⟩ := one a7 x7 g7
      obtain ⟨z8, rfl⟩ := one a8 x8 g8
      obtain ⟨z9, rfl⟩ := one a9 x9 g9
      have g3' : DataW.trod enc Try.prog w base spare held nn 22 [a3] = some (x3.1, x3.2) := g3
      have hin : ∀ k ∈ x3.1.weights Try.prog 22, k ≤ reachBytes := fun k hk => by
        refine hsz k ?_
        rw [hD]
        simp only [DataW.weights, Pst]
        exact DataW.weights_mem_each (j := 3) rfl rfl k hk
      obtain ⟨fs, hn⟩ := nview_inner Try.underlying22 Try.underlying3 (by kernel_rfl) (by kernel_rfl) g3' (fun x hx => hlt x (by rw [hP]; simp [hx])) hin
      exact ⟨⟨z0, z1, z2, fs, z4, z5, z6, z7, z8, z9⟩, a3, rfl, hn⟩
theorem view_plan {v : Value} {d : DataW H} {ps : List MemPlace} {r : Reach} {b0 : Nat} {ts : List TypeId} {ds : List (DataW H)} {j : Nat}
    (hval : Value.okWide Try.prog w r b0 24 v) (h : DataW.Trod enc Try.prog w base spare held 24 v d ps) (hlt : ∀ x ∈ ps, x.block < w.heap.size)
    (hsz : (DataW.weightsEach Try.prog ts ds).all (· ≤ reachBytes) = true) (ht : ts[j]? = some 24) (hd : ds[j]? = some d) : ∃ p u, v = pval p u ∧ Nums w u p.levels := by
  obtain ⟨cs, rfl, hs⟩ := okWide_struct Pst hval
  obtain ⟨fuel, hf1⟩ := h
  have c10 : Try.prog.cellsOf 24 = 10 := by kernel_rfl
  rw [c10] at hs
  obtain ⟨p, u, e, h1⟩ := trod_plan hf1 hlt (fun k hk => by
    have := List.all_eq_true.1 hsz _ (DataW.weights_mem_each ht hd k hk)
    simpa using this) (by simpa [Value.cells] using hs)
  refine ⟨p, u, ?_, h1⟩
  have e' : cs.toList = pcells p u := e
  show _ = Value.agg (pcells p u).toArray
  rw [← e']
end
end Go.Proofs.Ytidblaepklgkcab
