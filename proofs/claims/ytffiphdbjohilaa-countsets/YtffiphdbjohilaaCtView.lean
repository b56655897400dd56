/- An entry that came in, and a slice of entries that came in. -/
import Derived.Test.YtffiphdbjohilaaCtRAt
import Derived.ProofKit
import Derived.OpenShut
import Derived.ChangeOld
import Derived.Below
namespace Go.Proofs.Ytffiphdbjohilaa
open Go.ChangeShapes Go.WideShapes Go.ChangeAt Go.RowKit Go.Deep

section
variable {H : Type} {enc : TypeId × Value → H} {w : World} {base : Nat} {spare : Nat → Bool} {held : Bool}
theorem Est : Try.prog.underlying 39 = some (.struct #[⟨ "Epoch", 36, 0, false, "", "", 0⟩, ⟨ "Boot", 36, 1, false, "", "", 4⟩, ⟨ "Seq", 37, 2, false, "", "", 8⟩]) := by kernel_rfl
theorem wf_u32 {b : Int} (h : (Lit.int .u32 b).wf = true) : ∃ n : Nat, b = (n : Int) ∧ n < 4294967296 := by
  have h8 : IntKind.u32.min ≤ b ∧ b ≤ IntKind.u32.max := by simpa [Lit.wf, go_sem] using h
  have e1 : IntKind.u32.min = 0 := rfl
  have e2 : IntKind.u32.max = 4294967295 := rfl
  exact ⟨b.toNat, by omega, by omega⟩
theorem wf_u64 {b : Int} (h : (Lit.int .u64 b).wf = true) : ∃ n : Nat, b = (n : Int) ∧ n < 18446744073709551616 := by
  have h8 : IntKind.u64.min ≤ b ∧ b ≤ IntKind.u64.max := by simpa [Lit.wf, go_sem] using h
  have e1 : IntKind.u64.min = 0 := rfl
  have e2 : IntKind.u64.max = 18446744073709551615 := rfl
  exact ⟨b.toNat, by omega, by omega⟩
set_option maxRecDepth 100000 in
theorem trod_en {m : Nat} {cs : List Value} {x : DataW H × List MemPlace} (h : DataW.trod enc Try.prog w base spare held m 39 cs = some x) (hl : cs.length = 3) : ∃ F : En, cs = ecells F ∧ F.ok := by
  obtain ⟨xs, nn, _, -, _, hxl, hf⟩ := DataW.trod_struct Est h
  match xs, hxl with
  | [x0, x1, x2], _ =>
    have c3 : Try.prog.cellsOf 36 = 1 := by kernel_rfl
    have c4 : Try.prog.cellsOf 37 = 1 := by kernel_rfl
    have g0 : DataW.trod enc Try.prog w base spare held nn 36 ((cs.drop 0).take (Try.prog.cellsOf 36)) = some x0 := hf 0 _ rfl
    have g1 : DataW.trod enc Try.prog w base spare held nn 36 ((cs.drop 1).take (Try.prog.cellsOf 36)) = some x1 := hf 1 _ rfl
    have g2 : DataW.trod enc Try.prog w base spare held nn 37 ((cs.drop 2).take (Try.prog.cellsOf 37)) = some x2 := hf 2 _ rfl
    rw [c3] at g0 g1
    rw [c4] at g2
    match cs, hl with
    | [a0, a1, a2], _ =>
      have k0 : DataW.trod enc Try.prog w base spare held nn 36 [a0] = some x0 := g0
      have k1 : DataW.trod enc Try.prog w base spare held nn 36 [a1] = some x1 := g1
      have k2 : DataW.trod enc Try.prog w base spare held nn 37 [a2] = some x2 := g2
      obtain ⟨z0, e0, _, w0⟩ := DataW.trod_int Try.underlying36 k0
      obtain ⟨z1, e1, _, w1⟩ := DataW.trod_int Try.underlying36 k1
      obtain ⟨z2, e2, _, w2⟩ := DataW.trod_int Try.underlying37 k2
      simp only [List.cons.injEq, and_true] at e0 e1 e2
      obtain ⟨n0, rfl, h0⟩ := wf_u32 w0
      obtain ⟨n1, rfl, h1⟩ := wf_u32 w1
      obtain ⟨n2, rfl, h2⟩ := wf_u64 w2
      refine ⟨⟨n0, n1, n2⟩, ?_, h0, h1, h2⟩
      rw [e0, e1, e2]
      rfl
theorem view_entry {v : Value} {d : DataW H} {ps : List MemPlace} {r : Reach} {b0 : Nat} {ts : List TypeId} {ds : List (DataW H)} {j : Nat}
    (hval : Value.okWide Try.prog w r b0 39 v) (h : DataW.Trod enc Try.prog w base spare held 39 v d ps) (_ : ∀ x ∈ ps, x.block < w.heap.size)
    (_ : (DataW.weightsEach Try.prog ts ds).all (· ≤ reachBytes) = true) (_ : ts[j]? = some 39) (_ : ds[j]? = some d) : ∃ x : En, v = evalE x ∧ x.ok := by
  obtain ⟨cs, rfl, hs⟩ := okWide_struct Est hval
  obtain ⟨fuel, hf1⟩ := h
  have c3 : Try.prog.cellsOf 39 = 3 := by kernel_rfl
  rw [c3] at hs
  obtain ⟨S, e, h1⟩ := trod_en hf1 (by simpa [Value.cells] using hs)
  refine ⟨S, ?_, h1⟩
  have e' : cs.toList = ecells S := e
  show _ = Value.agg (ecells S).toArray
  rw [← e']
set_option maxRecDepth 100000 in
theorem view_entries {v : Value} {d : DataW H} {ps : List MemPlace} {r : Reach} {b0 : Nat} {ts : List TypeId} {ds : List (DataW H)} {j : Nat}
    (hval : Value.okWide Try.prog w r b0 22 v) (h : DataW.Trod enc Try.prog w base spare held 22 v d ps) (hlt : ∀ x ∈ ps, x.block < w.heap.size)
    (hsz : (DataW.weightsEach Try.prog ts ds).all (· ≤ reachBytes) = true) (ht : ts[j]? = some 22) (hd : ds[j]? = some d) : ∃ n A, Ens w v n A :=
  view_rows (⟨0, 0, 0⟩ : En) Try.underlying22 (by kernel_rfl) (by decide) (of_decide_eq_true (by kernel_rfl)) (fun a h => by cases h) (fun m cs x h1 h2 => trod_en h1 h2) hval h hlt hsz ht hd
end
end Go.Proofs.Ytffiphdbjohilaa
