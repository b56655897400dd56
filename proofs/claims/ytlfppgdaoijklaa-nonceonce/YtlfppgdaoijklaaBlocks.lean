/- Blocks of cells (as ShaPut, ShaMem, ShaSum and MacBlock have them; for cuts without these). -/
import Derived.Test.YtlfppgdaoijklaaBytes
import Derived.Laws.BitsAllLaws
import Derived.Laws.CopyOwn
namespace Go.Proofs.Ytlfppgdaoijklaa
open Go.RowKit

theorem Hid.mk' {p : Prop} (h : p) : Hid p := h
/-- A block of these cells. -/
def Blk (w : World) (g : Nat) (T : TypeId) (L : List Value) : Prop := w.heap[g]? = some (.cells L.toArray T (0, 0))
theorem Blk.set {w : World} {g : Nat} {T : TypeId} {L : List Value} (h : Blk w g T L) (i : Nat) (v : Value) : Blk (w.setCell ⟨g, i, none⟩ v) g T (L.set i v) := by
  unfold Blk at h ⊢
  rw [heap_setCell_same w g i _ _ _ h]
  simp
theorem Blk.cell {w : World} {g : Nat} {T : TypeId} {L : List Value} (h : Blk w g T L) (i : Nat) : w.cell? ⟨g, i, none⟩ = L[i]? := by
  rw [cell_of_row w g i _ _ _ h]; simp
theorem Blk.free {w : World} {g : Nat} {T : TypeId} {L : List Value} (h : Blk w g T L) (i : Nat) : w.frozen? ⟨g, i, none⟩ = false := frozen_of_row w g i _ _ h
theorem Blk.but {R : Nat → Prop} {w w' : World} {g : Nat} {T : TypeId} {L : List Value} (h : Blk w g T L) (k : But R w w') (hr : ¬ R g) : Blk w' g T L := (k.block g (lt_of_block h) hr).trans h
theorem Blk.lt {w : World} {g : Nat} {T : TypeId} {L : List Value} (h : Blk w g T L) : g < w.heap.size := lt_of_block h

theorem Blk.new {w : World} {g : Nat} {T : TypeId} {L : List Value} (h : w.heap.size = g) : Blk (w.alloc (.cells L.toArray T)) g T L := by
  subst h; exact heap_alloc_new _ _
theorem run_storeVar_at (w : World) (g off : Nat) (t ty : TypeId) (A old B vs : List Value) (hb : Blk w g t (A ++ old ++ B)) (hA : A.length = off) (ho : old.length = vs.length) (hi : (Try.prog.info? ty).map (·.size) = some vs.length)
    (h1 : ∀ v ∈ vs, v.oneCell' = true) : ∃ w', (storeVar ty ⟨g, off, none⟩ (.agg vs.toArray)).run Try.prog w = .ok () w' ∧ Blk w' g t (A ++ vs ++ B) ∧ But (· = g) w w' := by
  have hst := run_storeCells_at (P := Try.prog) g off t vs 0 _ w hb (by simp; omega) h1
  refine ⟨_, ?_, setRow_heap w g _ _ t _ hb, ⟨rfl, rfl, rfl, by simp, fun k _ hk => setRow_other w g k _ (fun e => hk (by rw [e]))⟩⟩
  have e : (A ++ old ++ B).toArray.toList.take (off + 0) ++ vs ++ (A ++ old ++ B).toArray.toList.drop (off + 0 + vs.length) = A ++ vs ++ B := by
    subst hA
    rw [← ho]
    simp [List.drop_append]
  rw [e] at hst
  cases hq : Try.prog.info? ty with
  | none => simp [hq] at hi
  | some i =>
    have hs : vs.length = i.size := by simp [hq] at hi; omega
    simp [storeVar, sizeOf, typeInfo, hq, Value.cells, hs, hst]
theorem wpList_store_at {w : World} {ops : Array Oper} {rest : List Oper} {o : Oper} {a : Act} {Q : Exit → Act → World → Prop} (hgd : o.guard = none) (ty : TypeId) (x y : Operand) (ho : o.op = .store ty x y)
    (g off : Nat) (vs : List Value) (hx : a.eval x = .pointer (some ⟨g, off, none⟩)) (hy : a.eval y = .agg vs.toArray)
    (t : TypeId) (A old B : List Value) (hb : Blk w g t (A ++ old ++ B)) (hA : A.length = off) (hold : old.length = vs.length) (hi : (Try.prog.info? ty).map (·.size) = some vs.length)
    (h1 : ∀ v ∈ vs, v.oneCell' = true) (h : ∀ w', Blk w' g t (A ++ vs ++ B) → But (· = g) w w' → wpList Try.prog ops Q rest (a.put o.dst undef) w') : wpList Try.prog ops Q (o :: rest) a w :=
  wpList_plain hgd fun _ hK => by
    obtain ⟨w', hr, hbl, hbt⟩ := run_storeVar_at w g off t ty A old B vs hb hA hold hi h1
    unfold Oper.wp execOp
    simp only [ho, hx, hy, Instr.storeAt, Instr.sureAddr, Sem.run_bind, Sem.run_pure, Result.andThen_ok, hr]
    exact hK _ _ (h w' hbl hbt)
theorem Blk.row {w : World} {g : Nat} {t : TypeId} {L : List Value} (h : Blk w g t L) (M : List Value) : Blk (w.setRow g M.toArray) g t M := setRow_heap w g _ _ t _ h
theorem But.setRow {R : Nat → Prop} {a w : World} (h : But R a w) {g : Nat} (hg : g < a.heap.size → R g) (c : Array Value) : But R a (w.setRow g c) :=
  ⟨h.os, h.tape, h.output, by simp; exact h.size, fun k hk hr => (setRow_other w g k _ (fun e => hr (by rw [e]; exact hg (by rw [← e]; exact hk)))).trans (h.block k hk hr)⟩
/-- A whole array of bytes into a variable that is made for it. -/
theorem wpList_store_u8s {T : TypeId} {n : Nat} (hi : (Try.prog.info? T).map (·.size) = some n) {w : World} {ops : Array Oper} {rest : List Oper} {o : Oper} {a : Act} {Q : Exit → Act → World → Prop} (hgd : o.guard = none) (x y : Operand) (ho : o.op = .store T x y)
    (g : Nat) (D : List Nat) (hD : D.length = n) (hx : a.eval x = .pointer (some ⟨g, 0, none⟩)) (hy : a.eval y = .agg (u8s D).toArray) (L : List Value) (hL : L.length = n) (hb : Blk w g T L)
    (h : ∀ w', Blk w' g T (u8s D) → But (· = g) w w' → wpList Try.prog ops Q rest (a.put o.dst undef) w') : wpList Try.prog ops Q (o :: rest) a w := by
  refine wpList_store_at hgd T x y ho g 0 (u8s D) hx hy T [] L [] (by simpa using hb) rfl (by simp [u8s, hD, hL]) (by rw [hi]; simp [u8s, hD]) (u8s_one _) ?_
  intro w' hb' hb2
  exact h w' (by simpa using hb') hb2
/-- A whole array of bytes out of a variable. -/
theorem wpList_load_u8s {T : TypeId} {n : Nat} {l : Nat} {e : TypeId} (hu : Try.prog.underlying T = some (.array l e)) (hi : (Try.prog.info? T).map (·.size) = some n)
    {w : World} {ops : Array Oper} {rest : List Oper} {o : Oper} {a : Act} {Q : Exit → Act → World → Prop} (hgd : o.guard = none) (x : Operand) (ho : o.op = .load T x)
    (g : Nat) (D : List Nat) (hD : D.length = n) (hx : a.eval x = .pointer (some ⟨g, 0, none⟩)) (hb : Blk w g T (u8s D))
    (h : wpList Try.prog ops Q rest (a.put o.dst (.agg (u8s D).toArray)) w) : wpList Try.prog ops Q (o :: rest) a w :=
  wpList_load_row hgd T x ho g hx T _ (0, 0) _ hb hu rfl (by rw [hi]; simp [u8s, hD]) h
theorem u8s_set (L : List Nat) (k x : Nat) : (u8s L).set k (.int .u8 (x : Int)) = u8s (L.set k x) := by simp [u8s, List.map_set]
theorem But.drewN {R : Nat → Prop} {a w : World} (h : But R a w) {n : Nat} : But R a (w.drewN n) := ⟨h.os, h.tape, h.output, h.size, h.block⟩
/-- A whole array of bytes into a variable, as one operation. -/
theorem op_store_u8s {T : TypeId} {n : Nat} (hi : (Try.prog.info? T).map (·.size) = some n) {w : World} {o : Oper} {a : Act} {K : Act → World → Prop} {Q : Exit → Act → World → Prop} (x y : Operand) (ho : o.op = .store T x y)
    (g : Nat) (D : List Nat) (hD : D.length = n) (hx : a.eval x = .pointer (some ⟨g, 0, none⟩)) (hy : a.eval y = .agg (u8s D).toArray) (L : List Value) (hL : L.length = n) (hb : Blk w g T L)
    (h : ∀ w', Blk w' g T (u8s D) → But (· = g) w w' → K (a.put o.dst undef) w') : o.wp Try.prog a w K Q := by
  obtain ⟨w', hr, hbl, hbt⟩ := run_storeVar_at w g 0 T T [] L [] (u8s D) (by simpa using hb) rfl (by simp [u8s, hD, hL]) (by rw [hi]; simp [u8s, hD]) (u8s_one _)
  unfold Oper.wp execOp
  simp only [ho, hx, hy, Instr.storeAt, Instr.sureAddr, Sem.run_bind, Sem.run_pure, Result.andThen_ok, hr]
  exact h w' (by simpa using hbl) hbt
/-- A whole array of bytes out of a variable, as one operation. -/
theorem op_load_u8s {T : TypeId} {n l : Nat} {e : TypeId} (hu : Try.prog.underlying T = some (.array l e)) (hi : (Try.prog.info? T).map (·.size) = some n)
    {w : World} {o : Oper} {a : Act} {K : Act → World → Prop} {Q : Exit → Act → World → Prop} (x : Operand) (ho : o.op = .load T x)
    (g : Nat) (D : List Nat) (hD : D.length = n) (hx : a.eval x = .pointer (some ⟨g, 0, none⟩)) (hb : Blk w g T (u8s D))
    (h : K (a.put o.dst (.agg (u8s D).toArray)) w) : o.wp Try.prog a w K Q :=
  wp_load_row T x ho g hx T _ (0, 0) _ hb hu rfl (by rw [hi]; simp [u8s, hD]) h
theorem run_loadVar_cells (w : World) (ad : Addr) (ty : TypeId) (cs : List Value) (d : TypeDesc) (hc : ∀ j v, cs[j]? = some v → w.cell? (ad.add j) = some v)
    (hu : Try.prog.underlying ty = some d) (hd : (match d with | .struct _ | .array _ _ => true | _ => false) = true) (hi : (Try.prog.info? ty).map (·.size) = some cs.length) :
    (loadVar ty ad).run Try.prog w = .ok (.agg cs.toArray) w := by
  have hl : (loadCells ad cs.length).run Try.prog w = .ok cs.toArray w := run_loadCells_list (P := Try.prog) w ad cs hc
  cases hq : Try.prog.info? ty with
  | none => simp [hq] at hi
  | some i =>
    have hs : i.size = cs.length := by simpa [hq] using hi
    have hagg : (isAgg ty).run Try.prog w = .ok true w := by
      unfold isAgg
      rw [Sem.run_bind, run_underlying hu w]
      cases d <;> simp_all
    simp [loadVar, Sem.run_bind, hagg, sizeOf, typeInfo, hq, hs, hl]
theorem wpList_load_cells {ops : Array Oper} {rest : List Oper} {o : Oper} {a : Act} {w : World} {Q : Exit → Act → World → Prop} (hgd : o.guard = none) (ty : TypeId) (x : Operand) (ho : o.op = .load ty x)
    (ad : Addr) (hx : a.eval x = .pointer (some ad)) (cs : List Value) (d : TypeDesc) (hc : ∀ j v, cs[j]? = some v → w.cell? (ad.add j) = some v)
    (hu : Try.prog.underlying ty = some d) (hd : (match d with | .struct _ | .array _ _ => true | _ => false) = true) (hi : (Try.prog.info? ty).map (·.size) = some cs.length)
    (h : wpList Try.prog ops Q rest (a.put o.dst (.agg cs.toArray)) w) : wpList Try.prog ops Q (o :: rest) a w :=
  wpList_plain hgd fun _ hK => by
    unfold Oper.wp execOp
    simp only [ho, hx, Instr.loadAt, Instr.sureAddr, Sem.run_bind, Sem.run_pure, Result.andThen_ok, run_loadVar_cells w ad ty cs d hc hu hd hi]
    exact hK _ _ h
end Go.Proofs.Ytlfppgdaoijklaa
