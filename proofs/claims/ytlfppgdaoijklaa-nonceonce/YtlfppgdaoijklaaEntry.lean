/- An entry (epoch, boot, seq) in memory; one that came in; two held against each other. -/
import Derived.Test.YtlfppgdaoijklaaRws
import Derived.Test.YtlfppgdaoijklaaEqItems
import Derived.Laws.StructEq
import Derived.ProofKit
import Derived.OpenShut
import Derived.ChangeOld
import Derived.Below
namespace Go.Proofs.Ytlfppgdaoijklaa
open Go.ChangeShapes Go.WideShapes Go.ChangeAt Go.RowKit Go.Deep

/-- An entry: epoch, boot, seq. -/
structure En where
  e : Nat
  b : Nat
  s : Nat
def En.ok (x : En) : Prop := x.e < 4294967296 ∧ x.b < 4294967296 ∧ x.s < 18446744073709551616
def ecells (x : En) : List Value := [.int .u32 (x.e : Int), .int .u32 (x.b : Int), .int .u64 (x.s : Int)]
def evalE (x : En) : Value := .agg (ecells x).toArray
theorem ecells_one (x : En) : ∀ v ∈ ecells x, v.oneCell' = true := by
  intro v hv
  simp [ecells] at hv
  rcases hv with rfl | rfl | rfl <;> rfl
theorem zeroE (w : World) : (zeroValue 30).run Try.prog w = .ok (.agg #[.int .u32 0, .int .u32 0, .int .u64 0]) w := by kernel_rfl
theorem iEn : (Try.prog.info? 30).map (·.size) = some 3 := by kernel_rfl
section
variable {H : Type} {enc : TypeId × Value → H} {w : World} {base : Nat} {spare : Nat → Bool} {held : Bool}
theorem Est : Try.prog.underlying 30 = some (.struct #[⟨ "Epoch", 22, 0, false, "", "", 0⟩, ⟨ "Boot", 22, 1, false, "", "", 4⟩, ⟨ "Seq", 23, 2, false, "", "", 8⟩]) := by kernel_rfl
theorem wf_u32 {b : Int} (h : (Lit.int .u32 b).wf = true) : ∃ n : Nat, b = (n : Int) ∧ n < 4294967296 := by
  have h8 : IntKind.u32.min ≤ b ∧ b ≤ IntKind.u32.max := by simpa [Lit.wf, go_sem] using h
  have e1 : IntKind.u32.min = 0 := rfl
  have e2 : IntKind.u32.max = 4294967295 := rfl
  exact ⟨b.toNat, by omega, by omega⟩
theorem wf_u64 {b : Int} (h : (Lit.int .u64 b).wf = true) : ∃ n : Nat, b = (n : Int) ∧ n < 18446744073709551616 := by
  have h8 : IntKind.u64.min ≤ b ∧ b ≤ IntKind.u64.max := by simpa [Lit.wf, go_sem] using h
  have e1 : IntKind.u64.min = 0 := rfl
  have e2 : IntKind.u64.max = 18446744073709551615 := rfl
  exact ⟨b.toNat, by omega, by omega⟩
set_option maxRecDepth 100000 in
theorem trod_en {m : Nat} {cs : List Value} {x : DataW H × List MemPlace} (h : DataW.trod enc Try.prog w base spare held m 30 cs = some x) (hl : cs.length = 3) : ∃ F : En, cs = ecells F ∧ F.ok := by
  obtain ⟨xs, nn, _, -, _, hxl, hf⟩ := DataW.trod_struct Est h
  match xs, hxl with
  | [x0, x1, x2], _ =>
    have c3 : Try.prog.cellsOf 22 = 1 := by kernel_rfl
    have c4 : Try.prog.cellsOf 23 = 1 := by kernel_rfl
    have g0 : DataW.trod enc Try.prog w base spare held nn 22 ((cs.drop 0).take (Try.prog.cellsOf 22)) = some x0 := hf 0 _ rfl
    have g1 : DataW.trod enc Try.prog w base spare held nn 22 ((cs.drop 1).take (Try.prog.cellsOf 22)) = some x1 := hf 1 _ rfl
    have g2 : DataW.trod enc Try.prog w base spare held nn 23 ((cs.drop 2).take (Try.prog.cellsOf 23)) = some x2 := hf 2 _ rfl
    rw [c3] at g0 g1
    rw [c4] at g2
    match cs, hl with
    | [a0, a1, a2], _ =>
      have k0 : DataW.trod enc Try.prog w base spare held nn 22 [a0] = some x0 := g0
      have k1 : DataW.trod enc Try.prog w base spare held nn 22 [a1] = some x1 := g1
      have k2 : DataW.trod enc Try.prog w base spare held nn 23 [a2] = some x2 := g2
      obtain ⟨z0, e0, _, w0⟩ := DataW.trod_int Try.underlying22 k0
      obtain ⟨z1, e1, _, w1⟩ := DataW.trod_int Try.underlying22 k1
      obtain ⟨z2, e2, _, w2⟩ := DataW.trod_int Try.underlying23 k2
      simp only [List.cons.injEq, and_true] at e0 e1 e2
      obtain ⟨n0, rfl, h0⟩ := wf_u32 w0
      obtain ⟨n1, rfl, h1⟩ := wf_u32 w1
      obtain ⟨n2, rfl, h2⟩ := wf_u64 w2
      refine ⟨⟨n0, n1, n2⟩, ?_, h0, h1, h2⟩
      rw [e0, e1, e2]
      rfl
set_option maxRecDepth 100000 in
theorem view_entry {v : Value} {d : DataW H} {ps : List MemPlace} {r : Reach} {b0 : Nat} {ts : List TypeId} {ds : List (DataW H)} {j : Nat}
    (hval : Value.okWide Try.prog w r b0 30 v) (h : DataW.Trod enc Try.prog w base spare held 30 v d ps) (_ : ∀ x ∈ ps, x.block < w.heap.size)
    (_ : (DataW.weightsEach Try.prog ts ds).all (· ≤ reachBytes) = true) (_ : ts[j]? = some 30) (_ : ds[j]? = some d) : ∃ x : En, v = evalE x ∧ x.ok := by
  obtain ⟨cs, rfl, hs⟩ := okWide_struct Est hval
  obtain ⟨fuel, hf1⟩ := h
  have c3 : Try.prog.cellsOf 30 = 3 := by kernel_rfl
  rw [c3] at hs
  obtain ⟨S, e, h1⟩ := trod_en hf1 (by simpa [Value.cells] using hs)
  refine ⟨S, ?_, h1⟩
  have e' : cs.toList = ecells S := e
  show _ = Value.agg (ecells S).toArray
  rw [← e']
end
theorem eqf_consE {d : Nat} {xs ys : Array Value} {f : Field} {fs : List Field} {u v : Value} {b r : Bool} {w : World} (hn : f.name ≠ "_") (hx : (part f.type xs f.offset).run Try.prog w = .ok u w) (hy : (part f.type ys f.offset).run Try.prog w = .ok v w)
    (he : (Op.equalIn d f.type u v).run Try.prog w = .ok b w) (hr : (Op.eqFields d xs ys fs).run Try.prog w = .ok r w) : (Op.eqFields d xs ys (f :: fs)).run Try.prog w = .ok (b && r) w := by
  unfold Op.eqFields
  rw [if_pos hn]
  simp only [Sem.run_bind, hx, hy, he, Result.andThen_ok, Sem.run_ite, Sem.run_pure]
  cases b
  · rfl
  · simpa using hr
theorem part_oneE {t : TypeId} {cs : Array Value} {o : Nat} {v : Value} {w : World} (h : (isAgg t).run Try.prog w = .ok false w) (hc : cs[o]? = some v) : (part t cs o).run Try.prog w = .ok v w := by
  unfold part
  rw [Sem.run_bind, h, Result.andThen_ok, hc]
  rfl
theorem exec_binE {w : World} {o : Oper} {ρ : Operand → Value} {op : BinOp} {t t' : TypeId} {x y : Operand} {u v r : Value} (ho : o.op = .binOp op t x y t') (hx : ρ x = u) (hy : ρ y = v) (hg : (eqGuard op t x y u v).run Try.prog w = .ok () w) (hr : (binOp op t u v).run Try.prog w = .ok r w) : (execOp ρ o).run Try.prog w = .ok (.value r) w := by
  unfold execOp
  simp only [ho, hx, hy, Sem.run_bind, hg, hr, Result.andThen_ok, Sem.run_pure]
theorem exec_neE {w : World} {o : Oper} {ρ : Operand → Value} {t t' : TypeId} {x y : Operand} {N M : Array Value} {b : Bool} (ho : o.op = .binOp .neq t x y t') (hx : ρ x = .agg N) (hy : ρ y = .agg M) (hT : Try.prog.eqGuardType Try.prog.depth t = false) (h : (Op.equalIn 10000 t (.agg N) (.agg M)).run Try.prog w = .ok b w) : (execOp ρ o).run Try.prog w = .ok (.value (.bool (!b))) w :=
  exec_binE ho hx hy (run_eqGuard_agg (P := Try.prog) (w := w) .neq t x y N M hT) (by rw [run_neq_struct, h]; rfl)
theorem exec_eqE {w : World} {o : Oper} {ρ : Operand → Value} {t t' : TypeId} {x y : Operand} {N M : Array Value} {b : Bool} (ho : o.op = .binOp .eql t x y t') (hx : ρ x = .agg N) (hy : ρ y = .agg M) (hT : Try.prog.eqGuardType Try.prog.depth t = false) (h : (Op.equalIn 10000 t (.agg N) (.agg M)).run Try.prog w = .ok b w) : (execOp ρ o).run Try.prog w = .ok (.value (.bool b)) w :=
  exec_binE ho hx hy (run_eqGuard_agg (P := Try.prog) (w := w) .eql t x y N M hT) (by rw [run_eql_struct, h]; rfl)
theorem equalEn (x : En) (w : World) : (Op.equalIn 10000 30 (evalE x) (evalE x)).run Try.prog w = .ok true w := by
  unfold evalE
  rw [run_equalIn_struct w 9999 30 _ _ (by kernel_rfl) (by kernel_rfl)]
  have i3 : (isAgg 22).run Try.prog w = .ok false w := by kernel_rfl
  have i6 : (isAgg 23).run Try.prog w = .ok false w := by kernel_rfl
  have hf : (Try.prog.fieldsOf 30).toList = [⟨ "Epoch", 22, 0, false, "", "", 0⟩, ⟨ "Boot", 22, 1, false, "", "", 4⟩, ⟨ "Seq", 23, 2, false, "", "", 8⟩] := by kernel_rfl
  rw [hf]
  have hi : ∀ x : Int, (Op.equalIn 9999 22 (.int .u32 x) (.int .u32 x)).run Try.prog w = .ok true w := fun x => by
    unfold Op.equalIn
    simp
  have hj : ∀ x : Int, (Op.equalIn 9999 23 (.int .u64 x) (.int .u64 x)).run Try.prog w = .ok true w := fun x => by
    unfold Op.equalIn
    simp
  exact eqf_consE (b := true) (r := true) (by decide) (part_oneE i3 rfl) (part_oneE i3 rfl) (hi x.e) (eqf_consE (b := true) (r := true) (by decide) (part_oneE i3 rfl) (part_oneE i3 rfl) (hi x.b) (eqf_consE (b := true) (r := true) (by decide) (part_oneE i6 rfl) (part_oneE i6 rfl) (hj x.s) rfl))
theorem exec_ldE {w : World} {o : Oper} {ρ : Operand → Value} {cs : En} {x : Operand} {ad : Addr} (hc : ∀ j u, (ecells cs)[j]? = some u → w.cell? (ad.add j) = some u)
    (ho : o.op = .load 30 x) (hx : ρ x = .pointer (some ad)) : (execOp ρ o).run Try.prog w = .ok (.value (evalE cs)) w := by
  have h := run_loadVar_cells w ad 30 (ecells cs) _ hc Try.underlying30 rfl (by rw [iEn]; rfl)
  unfold execOp
  simp only [ho, hx, Instr.loadAt, Instr.sureAddr, Sem.run_bind, Sem.run_pure, Result.andThen_ok, h]
  rfl
theorem gE : Try.prog.eqGuardType Try.prog.depth 30 = false := by kernel_rfl
end Go.Proofs.Ytlfppgdaoijklaa
