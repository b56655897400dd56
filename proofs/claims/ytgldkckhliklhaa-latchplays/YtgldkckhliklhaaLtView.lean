/- What a walk is told of acts on latches that came in. -/
import Derived.Test.YtgldkckhliklhaaLtAwake
import Derived.Test.YtgldkckhliklhaaRws
import Derived.Test.YtgldkckhliklhaaPickAny
namespace Go.Proofs.Ytgldkckhliklhaa
open Go.ChangeShapes Go.WideShapes Go.ChangeAt Go.RowKit Go.Deep

structure LA where
  kind : Int
  task : Int
  key : Int
  alone : Bool
def lac (a : LA) : List Value := [.int .i64 a.kind, .int .i64 a.task, .int .i64 a.key, .bool a.alone]
def LA.ok (a : LA) : Prop := i64 a.kind ∧ i64 a.task ∧ i64 a.key
abbrev LActs (w : World) (v : Value) (n : Nat) (A : Nat → LA) : Prop := Rws 4 lac LA.ok w v n A
theorem iLa : (Try.prog.info? 30).map (·.size) = some 4 := by kernel_rfl
theorem lac_one (a : LA) : ∀ u ∈ lac a, u.oneCell' = true := by
  intro u hu
  unfold lac at hu
  simp only [List.mem_cons, List.not_mem_nil, or_false] at hu
  rcases hu with rfl | rfl | rfl | rfl <;> rfl
theorem wf_i64 {z : Int} (h : (Lit.int .i64 z).wf = true) : i64 z := by
  have h1 : IntKind.i64.min ≤ z ∧ z ≤ IntKind.i64.max := by simpa [Lit.wf, go_sem] using h
  exact h1
theorem wf_u8 {z : Int} (h : (Lit.int .u8 z).wf = true) : 0 ≤ z ∧ z ≤ 255 := by
  have h1 : IntKind.u8.min ≤ z ∧ z ≤ IntKind.u8.max := by simpa [Lit.wf, go_sem] using h
  have e1 : IntKind.u8.min = 0 := rfl
  have e2 : IntKind.u8.max = 255 := rfl
  omega
section
variable {H : Type} {enc : TypeId × Value → H} {w : World} {base : Nat} {spare : Nat → Bool} {held : Bool}
theorem LAst : Try.prog.underlying 30 = some (.struct #[⟨ "Kind", 3, 0, false, "", "", 0⟩, ⟨ "Task", 3, 1, false, "", "", 8⟩, ⟨ "Key", 3, 2, false, "", "", 16⟩, ⟨ "Alone", 4, 3, false, "", "", 24⟩]) := by kernel_rfl
theorem trod_la {m : Nat} {cs : List Value} {x : DataW H × List MemPlace} (h : DataW.trod enc Try.prog w base spare held m 30 cs = some x) (hl : cs.length = 4) : ∃ F : LA, cs = lac F ∧ F.ok := by
  obtain ⟨xs, nn, _, -, _, hxl, hf⟩ := DataW.trod_struct LAst h
  match xs, hxl with
  | [x0, x1, x2, x3], _ =>
    have c3 : Try.prog.cellsOf 3 = 1 := by kernel_rfl
    have c4 : Try.prog.cellsOf 4 = 1 := by kernel_rfl
    have g0 : DataW.trod enc Try.prog w base spare held nn 3 ((cs.drop 0).take (Try.prog.cellsOf 3)) = some x0 := hf 0 _ rfl
    have g1 : DataW.trod enc Try.prog w base spare held nn 3 ((cs.drop 1).take (Try.prog.cellsOf 3)) = some x1 := hf 1 _ rfl
    have g2 : DataW.trod enc Try.prog w base spare held nn 3 ((cs.drop 2).take (Try.prog.cellsOf 3)) = some x2 := hf 2 _ rfl
    have g3 : DataW.trod enc Try.prog w base spare held nn 4 ((cs.drop 3).take (Try.prog.cellsOf 4)) = some x3 := hf 3 _ rfl
    rw [c3] at g0 g1 g2
    rw [c4] at g3
    match cs, hl with
    | [a0, a1, a2, a3], _ =>
      have k0 : DataW.trod enc Try.prog w base spare held nn 3 [a0] = some x0 := g0
      have k1 : DataW.trod enc Try.prog w base spare held nn 3 [a1] = some x1 := g1
      have k2 : DataW.trod enc Try.prog w base spare held nn 3 [a2] = some x2 := g2
      have k3 : DataW.trod enc Try.prog w base spare held nn 4 [a3] = some x3 := g3
      obtain ⟨z0, e0, _, w0⟩ := DataW.trod_int Try.underlying3 k0
      obtain ⟨z1, e1, _, w1⟩ := DataW.trod_int Try.underlying3 k1
      obtain ⟨z2, e2, _, w2⟩ := DataW.trod_int Try.underlying3 k2
      obtain ⟨z3, e3, _⟩ := DataW.trod_bool Try.underlying4 k3
      simp only [List.cons.injEq, and_true] at e0 e1 e2 e3
      refine ⟨⟨z0, z1, z2, z3⟩, ?_, wf_i64 w0, wf_i64 w1, wf_i64 w2⟩
      rw [e0, e1, e2, e3]
      rfl
theorem view_lacts {v : Value} {d : DataW H} {ps : List MemPlace} {r : Reach} {b0 : Nat} {ts : List TypeId} {ds : List (DataW H)} {j : Nat}
    (hval : Value.okWide Try.prog w r b0 22 v) (h : DataW.Trod enc Try.prog w base spare held 22 v d ps) (hlt : ∀ x ∈ ps, x.block < w.heap.size)
    (hsz : (DataW.weightsEach Try.prog ts ds).all (· ≤ reachBytes) = true) (ht : ts[j]? = some 22) (hd : ds[j]? = some d) : ∃ n A, LActs w v n A :=
  view_rows (⟨0, 0, 0, false⟩ : LA) Try.underlying22 (by kernel_rfl) (by decide) (of_decide_eq_true (by kernel_rfl)) (fun a h => by cases h) (fun m cs x h1 h2 => trod_la h1 h2) hval h hlt hsz ht hd
abbrev Bools (w : World) (v : Value) (n : Nat) (A : Nat → Bool) : Prop := Rws 1 (fun b : Bool => [Value.bool b]) (fun _ => True) w v n A
theorem view_bools {v : Value} {d : DataW H} {ps : List MemPlace} {r : Reach} {b0 : Nat} {ts : List TypeId} {ds : List (DataW H)} {j : Nat}
    (hval : Value.okWide Try.prog w r b0 44 v) (h : DataW.Trod enc Try.prog w base spare held 44 v d ps) (hlt : ∀ x ∈ ps, x.block < w.heap.size)
    (hsz : (DataW.weightsEach Try.prog ts ds).all (· ≤ reachBytes) = true) (ht : ts[j]? = some 44) (hd : ds[j]? = some d) : ∃ n A, Bools w v n A :=
  view_rows false Try.underlying44 (by kernel_rfl) (by decide) (of_decide_eq_true (by kernel_rfl)) (fun a h => by cases h) (fun m cs x h1 h2 => by
    obtain ⟨z, e, _⟩ := DataW.trod_bool Try.underlying4 h1
    exact ⟨z, e, trivial⟩) hval h hlt hsz ht hd
end
end Go.Proofs.Ytgldkckhliklhaa
