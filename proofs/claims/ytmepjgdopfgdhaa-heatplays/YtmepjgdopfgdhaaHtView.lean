/- What a walk is told of touches that came in. -/
import Derived.Test.YtmepjgdopfgdhaaHtAwake
import Derived.Test.YtmepjgdopfgdhaaRws
import Derived.Test.YtmepjgdopfgdhaaFloatView
namespace Go.Proofs.Ytmepjgdopfgdhaa
open Go.ChangeShapes Go.WideShapes Go.ChangeAt Go.RowKit Go.Deep

structure HA where
  kind : Int
  key : Int
  y : Nat
def hac (a : HA) : List Value := [.int .i64 a.kind, .int .i64 a.key, .float .f64 a.y]
def HA.ok (a : HA) : Prop := i64 a.kind ∧ i64 a.key ∧ a.y < 18446744073709551616
abbrev HActs (w : World) (v : Value) (n : Nat) (A : Nat → HA) : Prop := Rws 3 hac HA.ok w v n A
section
variable {H : Type} {enc : TypeId × Value → H} {w : World} {base : Nat} {spare : Nat → Bool} {held : Bool}
theorem wfI {z : Int} (h : (Lit.int .i64 z).wf = true) : i64 z := by
  have h1 : IntKind.i64.min ≤ z ∧ z ≤ IntKind.i64.max := by simpa [Lit.wf, go_sem] using h
  exact h1
theorem HAst : Try.prog.underlying 34 = some (.struct #[⟨ "Kind", 3, 0, false, "", "", 0⟩, ⟨ "Key", 3, 1, false, "", "", 8⟩, ⟨ "By", 32, 2, false, "", "", 16⟩]) := by kernel_rfl
theorem trod_ha {m : Nat} {cs : List Value} {x : DataW H × List MemPlace} (h : DataW.trod enc Try.prog w base spare held m 34 cs = some x) (hl : cs.length = 3) : ∃ F : HA, cs = hac F ∧ F.ok := by
  obtain ⟨xs, nn, _, -, _, hxl, hf⟩ := DataW.trod_struct HAst h
  match xs, hxl with
  | [x0, x1, x2], _ =>
    have c3 : Try.prog.cellsOf 3 = 1 := by kernel_rfl
    have c32 : Try.prog.cellsOf 32 = 1 := by kernel_rfl
    have g0 : DataW.trod enc Try.prog w base spare held nn 3 ((cs.drop 0).take (Try.prog.cellsOf 3)) = some x0 := hf 0 _ rfl
    have g1 : DataW.trod enc Try.prog w base spare held nn 3 ((cs.drop 1).take (Try.prog.cellsOf 3)) = some x1 := hf 1 _ rfl
    have g2 : DataW.trod enc Try.prog w base spare held nn 32 ((cs.drop 2).take (Try.prog.cellsOf 32)) = some x2 := hf 2 _ rfl
    rw [c3] at g0 g1
    rw [c32] at g2
    match cs, hl with
    | [a0, a1, a2], _ =>
      have k0 : DataW.trod enc Try.prog w base spare held nn 3 [a0] = some x0 := g0
      have k1 : DataW.trod enc Try.prog w base spare held nn 3 [a1] = some x1 := g1
      have k2 : DataW.trod enc Try.prog w base spare held nn 32 [a2] = some x2 := g2
      obtain ⟨z0, e0, _, w0⟩ := DataW.trod_int Try.underlying3 k0
      obtain ⟨z1, e1, _, w1⟩ := DataW.trod_int Try.underlying3 k1
      obtain ⟨z2, e2, _, w2⟩ := trod_float Try.underlying32 k2
      simp only [List.cons.injEq, and_true] at e0 e1 e2
      refine ⟨⟨z0, z1, z2⟩, ?_, wfI w0, wfI w1, by simpa [Lit.wf] using w2⟩
      rw [e0, e1, e2]
      rfl
theorem view_hacts {v : Value} {d : DataW H} {ps : List MemPlace} {r : Reach} {b0 : Nat} {ts : List TypeId} {ds : List (DataW H)} {j : Nat}
    (hval : Value.okWide Try.prog w r b0 22 v) (h : DataW.Trod enc Try.prog w base spare held 22 v d ps) (hlt : ∀ x ∈ ps, x.block < w.heap.size)
    (hsz : (DataW.weightsEach Try.prog ts ds).all (· ≤ reachBytes) = true) (ht : ts[j]? = some 22) (hd : ds[j]? = some d) : ∃ n A, HActs w v n A :=
  view_rows (⟨0, 0, 0⟩ : HA) Try.underlying22 (by kernel_rfl) (by decide) (of_decide_eq_true (by kernel_rfl)) (fun a h => by cases h) (fun m cs x h1 h2 => trod_ha h1 h2) hval h hlt hsz ht hd
end
end Go.Proofs.Ytmepjgdopfgdhaa
