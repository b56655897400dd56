/- What a walk is told of acts on slots that came in. -/
import Derived.Test.YtehajgfjdmhdpaaSpLaw
import Derived.Test.YtehajgfjdmhdpaaPickAny
namespace Go.Proofs.Ytehajgfjdmhdpaa
open Go.ChangeShapes Go.WideShapes Go.ChangeAt Go.RowKit Go.Deep

structure SA where
  kind : Int
  page : Int
  x : En
def sac (a : SA) : List Value := .int .i64 a.kind :: .int .i64 a.page :: ecells a.x
def SA.ok (a : SA) : Prop := i64 a.kind ∧ i64 a.page
abbrev SActs (w : World) (v : Value) (n : Nat) (A : Nat → SA) : Prop := Rws 5 sac SA.ok w v n A
theorem iSa : (Try.prog.info? 35).map (·.size) = some 5 := by kernel_rfl
theorem sac_one (a : SA) : ∀ u ∈ sac a, u.oneCell' = true := by
  intro u hu
  unfold sac at hu
  rcases List.mem_cons.1 hu with rfl | hu
  · rfl
  rcases List.mem_cons.1 hu with rfl | hu
  · rfl
  exact ecells_one _ u hu
theorem wf_i64 {z : Int} (h : (Lit.int .i64 z).wf = true) : i64 z := by
  have h1 : IntKind.i64.min ≤ z ∧ z ≤ IntKind.i64.max := by simpa [Lit.wf, go_sem] using h
  exact h1
section
variable {H : Type} {enc : TypeId × Value → H} {w : World} {base : Nat} {spare : Nat → Bool} {held : Bool}
theorem SAst : Try.prog.underlying 35 = some (.struct #[⟨ "Kind", 3, 0, false, "", "", 0⟩, ⟨ "Page", 3, 1, false, "", "", 8⟩, ⟨ "X", 33, 2, false, "", "", 16⟩]) := by kernel_rfl
set_option maxRecDepth 100000 in
theorem trod_sa {m : Nat} {cs : List Value} {x : DataW H × List MemPlace} (h : DataW.trod enc Try.prog w base spare held m 35 cs = some x) (hl : cs.length = 5) : ∃ F : SA, cs = sac F ∧ F.ok := by
  obtain ⟨xs, nn, _, -, _, hxl, hf⟩ := DataW.trod_struct SAst h
  match xs, hxl with
  | [x0, x1, x2], _ =>
    have c3 : Try.prog.cellsOf 3 = 1 := by kernel_rfl
    have c4 : Try.prog.cellsOf 33 = 3 := by kernel_rfl
    have g0 : DataW.trod enc Try.prog w base spare held nn 3 ((cs.drop 0).take (Try.prog.cellsOf 3)) = some x0 := hf 0 _ rfl
    have g1 : DataW.trod enc Try.prog w base spare held nn 3 ((cs.drop 1).take (Try.prog.cellsOf 3)) = some x1 := hf 1 _ rfl
    have g2 : DataW.trod enc Try.prog w base spare held nn 33 ((cs.drop 2).take (Try.prog.cellsOf 33)) = some x2 := hf 2 _ rfl
    rw [c3] at g0 g1
    rw [c4] at g2
    match cs, hl with
    | [a0, a1, a2, a3, a4], _ =>
      have k0 : DataW.trod enc Try.prog w base spare held nn 3 [a0] = some x0 := g0
      have k1 : DataW.trod enc Try.prog w base spare held nn 3 [a1] = some x1 := g1
      have k2 : DataW.trod enc Try.prog w base spare held nn 33 [a2, a3, a4] = some x2 := g2
      obtain ⟨z0, e0, _, w0⟩ := DataW.trod_int Try.underlying3 k0
      obtain ⟨z1, e1, _, w1⟩ := DataW.trod_int Try.underlying3 k1
      obtain ⟨X, e2, -⟩ := trod_en k2 rfl
      simp only [List.cons.injEq, and_true] at e0 e1
      refine ⟨⟨z0, z1, X⟩, ?_, wf_i64 w0, wf_i64 w1⟩
      rw [e0, e1, e2]
      rfl
theorem view_sacts {v : Value} {d : DataW H} {ps : List MemPlace} {r : Reach} {b0 : Nat} {ts : List TypeId} {ds : List (DataW H)} {j : Nat}
    (hval : Value.okWide Try.prog w r b0 22 v) (h : DataW.Trod enc Try.prog w base spare held 22 v d ps) (hlt : ∀ x ∈ ps, x.block < w.heap.size)
    (hsz : (DataW.weightsEach Try.prog ts ds).all (· ≤ reachBytes) = true) (ht : ts[j]? = some 22) (hd : ds[j]? = some d) : ∃ n A, SActs w v n A :=
  view_rows (⟨0, 0, ⟨0, 0, 0⟩⟩ : SA) Try.underlying22 (by kernel_rfl) (by decide) (of_decide_eq_true (by kernel_rfl)) (fun a h => by cases h) (fun m cs x h1 h2 => trod_sa h1 h2) hval h hlt hsz ht hd
end
theorem zSa (w : World) : (zeroValue 35).run Try.prog w = .ok (.agg #[.int .i64 0, .int .i64 0, .int .u32 0, .int .u32 0, .int .u64 0]) w := by kernel_rfl
/-- An act is laid into a new variable. -/
theorem newSa (w : World) (a : SA) : ∃ w2, (storeVar 35 ⟨w.heap.size, 0, none⟩ (.agg (sac a).toArray)).run Try.prog (w.alloc (.cells #[.int .i64 0, .int .i64 0, .int .u32 0, .int .u32 0, .int .u64 0] 35)) = .ok () w2 ∧ Blk w2 w.heap.size 35 (sac a) ∧ Grow w w2 := by
  have hb : Blk (w.alloc (.cells #[.int .i64 0, .int .i64 0, .int .u32 0, .int .u32 0, .int .u64 0] 35)) w.heap.size 35 [.int .i64 0, .int .i64 0, .int .u32 0, .int .u32 0, .int .u64 0] := Blk.new (L := [.int .i64 0, .int .i64 0, .int .u32 0, .int .u32 0, .int .u64 0]) rfl
  obtain ⟨w2, h1, h2, h3⟩ := run_storeVar_at _ w.heap.size 0 35 35 [] [.int .i64 0, .int .i64 0, .int .u32 0, .int .u32 0, .int .u64 0] [] (sac a) (by simpa using hb) rfl rfl (by rw [iSa]; rfl) (sac_one a)
  exact ⟨w2, h1, by simpa using h2, ((But.refl (fun _ => False) w).alloc _).then h3 (fun b hb e => by omega)⟩
end Go.Proofs.Ytehajgfjdmhdpaa
