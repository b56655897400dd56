/- Memory: cells of a row read and laid in its middle; bytes copied into it. -/
import Derived.Test.YtmilmaljahjgeaaDoorShaGrow
import Derived.Laws.CopyRow
namespace Go.Proofs.YtmilmaljahjgeaaDoor
open Go.RowKit

theorem run_loadVar_cells (w : World) (ad : Addr) (ty : TypeId) (cs : List Value) (d : TypeDesc) (hc : ∀ j v, cs[j]? = some v → w.cell? (ad.add j) = some v)
    (hu : Tryd.prog.underlying ty = some d) (hd : (match d with | .struct _ | .array _ _ => true | _ => false) = true) (hi : (Tryd.prog.info? ty).map (·.size) = some cs.length) :
    (loadVar ty ad).run Tryd.prog w = .ok (.agg cs.toArray) w := by
  have hl : (loadCells ad cs.length).run Tryd.prog w = .ok cs.toArray w := run_loadCells_list (P := Tryd.prog) w ad cs hc
  cases hq : Tryd.prog.info? ty with
  | none => simp [hq] at hi
  | some i =>
    have hs : i.size = cs.length := by simpa [hq] using hi
    have hagg : (isAgg ty).run Tryd.prog w = .ok true w := by
      unfold isAgg
      rw [Sem.run_bind, run_underlying hu w]
      cases d <;> simp_all
    simp [loadVar, Sem.run_bind, hagg, sizeOf, typeInfo, hq, hs, hl]
theorem wpList_load_cells {ops : Array Oper} {rest : List Oper} {o : Oper} {a : Act} {w : World} {Q : Exit → Act → World → Prop} (hgd : o.guard = none) (ty : TypeId) (x : Operand) (ho : o.op = .load ty x)
    (ad : Addr) (hx : a.eval x = .pointer (some ad)) (cs : List Value) (d : TypeDesc) (hc : ∀ j v, cs[j]? = some v → w.cell? (ad.add j) = some v)
    (hu : Tryd.prog.underlying ty = some d) (hd : (match d with | .struct _ | .array _ _ => true | _ => false) = true) (hi : (Tryd.prog.info? ty).map (·.size) = some cs.length)
    (h : wpList Tryd.prog ops Q rest (a.put o.dst (.agg cs.toArray)) w) : wpList Tryd.prog ops Q (o :: rest) a w :=
  wpList_plain hgd fun _ hK => by
    unfold Oper.wp execOp
    simp only [ho, hx, Instr.loadAt, Instr.sureAddr, Sem.run_bind, Sem.run_pure, Result.andThen_ok, run_loadVar_cells w ad ty cs d hc hu hd hi]
    exact hK _ _ h
theorem run_storeVar_at (w : World) (g off : Nat) (t ty : TypeId) (A old B vs : List Value) (hb : Blk w g t (A ++ old ++ B)) (hA : A.length = off) (ho : old.length = vs.length) (hi : (Tryd.prog.info? ty).map (·.size) = some vs.length)
    (h1 : ∀ v ∈ vs, v.oneCell' = true) : ∃ w', (storeVar ty ⟨g, off, none⟩ (.agg vs.toArray)).run Tryd.prog w = .ok () w' ∧ Blk w' g t (A ++ vs ++ B) ∧ But (· = g) w w' := by
  have hst := run_storeCells_at (P := Tryd.prog) g off t vs 0 _ w hb (by simp; omega) h1
  refine ⟨_, ?_, setRow_heap w g _ _ t _ hb, ⟨rfl, rfl, rfl, by simp, fun k _ hk => setRow_other w g k _ (fun e => hk (by rw [e]))⟩⟩
  have e : (A ++ old ++ B).toArray.toList.take (off + 0) ++ vs ++ (A ++ old ++ B).toArray.toList.drop (off + 0 + vs.length) = A ++ vs ++ B := by
    subst hA
    rw [← ho]
    simp [List.drop_append]
  rw [e] at hst
  cases hq : Tryd.prog.info? ty with
  | none => simp [hq] at hi
  | some i =>
    have hs : vs.length = i.size := by simp [hq] at hi; omega
    simp [storeVar, sizeOf, typeInfo, hq, Value.cells, hs, hst]
theorem wpList_store_at {w : World} {ops : Array Oper} {rest : List Oper} {o : Oper} {a : Act} {Q : Exit → Act → World → Prop} (hgd : o.guard = none) (ty : TypeId) (x y : Operand) (ho : o.op = .store ty x y)
    (g off : Nat) (vs : List Value) (hx : a.eval x = .pointer (some ⟨g, off, none⟩)) (hy : a.eval y = .agg vs.toArray)
    (t : TypeId) (A old B : List Value) (hb : Blk w g t (A ++ old ++ B)) (hA : A.length = off) (hold : old.length = vs.length) (hi : (Tryd.prog.info? ty).map (·.size) = some vs.length)
    (h1 : ∀ v ∈ vs, v.oneCell' = true) (h : ∀ w', Blk w' g t (A ++ vs ++ B) → But (· = g) w w' → wpList Tryd.prog ops Q rest (a.put o.dst undef) w') : wpList Tryd.prog ops Q (o :: rest) a w :=
  wpList_plain hgd fun _ hK => by
    obtain ⟨w', hr, hbl, hbt⟩ := run_storeVar_at w g off t ty A old B vs hb hA hold hi h1
    unfold Oper.wp execOp
    simp only [ho, hx, hy, Instr.storeAt, Instr.sureAddr, Sem.run_bind, Sem.run_pure, Result.andThen_ok, hr]
    exact hK _ _ (h w' hbl hbt)
theorem u32s_mem_one (l : List (BitVec 32)) : ∀ v ∈ u32s l, v.oneCell' = true := by
  intro u hu
  simp only [u32s, List.mem_map] at hu
  obtain ⟨x, _, rfl⟩ := hu
  rfl
/-- Bytes copied into a row. -/
theorem run_copy_blk {w : World} {g off dLen dCap sCap b so n : Nat} {t : TypeId} {A old B : List Value} {ys : List Nat} (ty : TypeId) (hb : Blk w g t (A ++ old ++ B)) (hA : A.length = off) (hold : old.length = n)
    (hn : n = Nat.min ys.length dLen) (hc : ∀ i, i < ys.length → w.cell? ⟨b, so + i, none⟩ = some (.int .u8 (ys.getD i 0 : Nat))) :
    (Builtin.copy_ #[22, 22] ty #[.slice (some ⟨g, off, none⟩) dLen dCap, .slice (some ⟨b, so, none⟩) ys.length sCap]).run Tryd.prog w = .ok (.int .i64 (n : Int)) (w.setRow g (A ++ u8s (ys.take n) ++ B).toArray) := by
  have hle : n ≤ ys.length := by rw [hn]; exact Nat.min_le_left _ _
  have hlen : (u8s (ys.take n)).length = n := by simp [u8s]; omega
  have hsz : (Tryd.prog.info? 5).map (·.size) = some 1 := by kernel_rfl
  have hr := run_copy_row (P := Tryd.prog) w 22 22 ty 5 g off dLen dCap ⟨b, so, none⟩ ys.length sCap _ t (u8s (ys.take n)) Tryd.underlying22 hsz hb (by rw [hlen]; exact hn)
    (by
      intro j v hv
      have hj : j < n := by have := (List.getElem?_eq_some_iff.1 hv).1; omega
      have e : (⟨b, so, none⟩ : Addr).add j = ⟨b, so + j, none⟩ := by simp [Addr.add]
      rw [e, hc j (by omega), ← hv, u8s_get _ j (by simp; omega)]
      simp [List.getD, hj]) (by rw [hlen]; simp; omega) (u8s_one _)
  have e : (A ++ old ++ B).toArray.toList.take off ++ u8s (ys.take n) ++ (A ++ old ++ B).toArray.toList.drop (off + (u8s (ys.take n)).length) = A ++ u8s (ys.take n) ++ B := by
    subst hA
    rw [hlen, ← hold]
    simp [List.drop_append]
  rw [e, hlen] at hr
  exact hr
theorem Blk.row {w : World} {g : Nat} {t : TypeId} {L : List Value} (h : Blk w g t L) (M : List Value) : Blk (w.setRow g M.toArray) g t M := setRow_heap w g _ _ t _ h
theorem But.setRow {R : Nat → Prop} {a w : World} (h : But R a w) {g : Nat} (hg : g < a.heap.size → R g) (c : Array Value) : But R a (w.setRow g c) :=
  ⟨h.os, h.tape, h.output, by simp; exact h.size, fun k hk hr => (setRow_other w g k _ (fun e => hr (by rw [e]; exact hg (by rw [← e]; exact hk)))).trans (h.block k hk hr)⟩
end Go.Proofs.YtmilmaljahjgeaaDoor
