/- Single operations, by what they run to: look-ups, updates, appends, rows, stores. -/
import Derived.Test.YthpgjbblbhjndaaDoorGhTell
namespace Go.Proofs.YthpgjbblbhjndaaDoor
open Go.RowKit

section
variable {P : Program} {w w' : World} {o : Oper} {ρ : Operand → Value}
theorem run_load_arr {T : TypeId} {n l : Nat} {e : TypeId} (hu : Tryd.prog.underlying T = some (.array l e)) (hi : (Tryd.prog.info? T).map (·.size) = some n) {x : Operand} {ad : Addr} {D : List Nat} (hc : ∀ j u, (u8s D)[j]? = some u → w.cell? (ad.add j) = some u) (hD : D.length = n)
    (ho : o.op = .load T x) (hx : ρ x = .pointer (some ad)) : (execOp ρ o).run Tryd.prog w = .ok (.value (.agg (u8s D).toArray)) w := by
  have h := run_loadVar_cells w ad T (u8s D) _ hc hu rfl (by rw [hi]; simp [u8s, hD])
  unfold execOp
  simp only [ho, hx, Instr.loadAt, Instr.sureAddr, Sem.run_bind, Sem.run_pure, Result.andThen_ok, h]
theorem run_load_tup {x : Operand} {ad : Addr} {cs : List Value} (hc : ∀ j u, cs[j]? = some u → w.cell? (ad.add j) = some u) (hl : cs.length = 15)
    (ho : o.op = .load 46 x) (hx : ρ x = .pointer (some ad)) : (execOp ρ o).run Tryd.prog w = .ok (.value (.agg cs.toArray)) w := by
  have h := run_loadVar_cells w ad 46 cs _ hc Tryd.underlying46 rfl (by rw [iT, hl])
  unfold execOp
  simp only [ho, hx, Instr.loadAt, Instr.sureAddr, Sem.run_bind, Sem.run_pure, Result.andThen_ok, h]
theorem run_index15 {x y : Operand} {g n c k : Nat} (ho : o.op = .indexAddr 39 x y) (hx : ρ x = .slice (some ⟨g, 0, none⟩) n c) (hy : ρ y = .int .i64 (k : Int)) (hk : k < n) :
    (execOp ρ o).run Tryd.prog w = .ok (.value (.pointer (some ⟨g, k * 15, none⟩))) w := by
  have hk' : (k : Int) < (n : Int) := by omega
  unfold execOp
  simp only [ho, hx, hy]
  go_simp
theorem run_index0 {x y : Operand} {g n c : Nat} (ho : o.op = .indexAddr 39 x y) (hx : ρ x = .slice (some ⟨g, 0, none⟩) n c) (hy : ρ y = .int .i64 0) (hk : 0 < n) :
    (execOp ρ o).run Tryd.prog w = .ok (.value (.pointer (some ⟨g, 0, none⟩))) w := by
  have := run_index15 (w := w) (k := 0) ho hx hy hk
  rwa [Nat.zero_mul] at this
theorem exec_lookup {t : TypeId} {m x : Operand} {c : Bool} {vm key r : Value} (ho : o.op = .lookup t m x c) (hm : ρ m = vm) (hx : ρ x = key) (h : (Instr.lookup t vm key c).run P w = .ok r w) : (execOp ρ o).run P w = .ok (.value r) w := by
  simp [execOp, ho, hm, hx, h, Result.andThen]
theorem exec_mapUpdate {t : TypeId} {m x y : Operand} {vm key v : Value} (ho : o.op = .mapUpdate t m x y) (hm : ρ m = vm) (hx : ρ x = key) (hy : ρ y = v) (h : (Instr.mapUpdate t vm key v).run P w = .ok () w') : (execOp ρ o).run P w = .ok .skip w' := by
  simp [execOp, ho, hm, hx, hy, h, Result.andThen]
end
/-- What lies in an own row is appended to. -/
structure Appd (w w' : World) (e s : Nat) (v v' : Value) (n : Nat) (xs : List Value) : Prop where
  own : w'.ownsRow 0 e s v' n xs
  but : But (fun b => v.ownBlock = some b) w w'
  at' : v'.ownBlock = v.ownBlock ∨ v'.ownBlock = some w.heap.size
  lt : ∀ k, v'.ownBlock = some k → k < w'.heap.size
theorem exec_append {w : World} {o : Oper} {ρ : Operand → Value} {t e : TypeId} {s bytes : Nat} {z : Value} (ht : Tryd.prog.underlying t = some (.slice e)) (hinf : (Tryd.prog.info? e).map (fun i => (i.zero, i.size, i.bytes)) = some (some z, s, bytes)) (hzs : z.cells.size = s) (hs0 : 0 < s)
    {x y : Operand} (ho : o.op = .call { callee := .builtin .append, args := #[x, y], argTypes := #[t, t] }) {v : Value} {n : Nat} {xs : List Value} (hx : ρ x = v) (hv : w.ownsRow 0 e s v n xs)
    {ad : Addr} {m c : Nat} {news : List Value} (hy : ρ y = .slice (some ad) m c) (hl : news.length = m * s) (hc : ∀ j u, news[j]? = some u → w.cell? (ad.add j) = some u) (h1 : ∀ u ∈ news, u.oneCell' = true) (hn : n + m ≤ 1000000) (hb : bytes ≤ 1000) :
    ∃ v' w', (execOp ρ o).run Tryd.prog w = .ok (.value v') w' ∧ Appd w w' e s v v' (n + m) (xs ++ news) := by
  obtain ⟨i0, hi, hz0, hz1, hz2⟩ := info_parts hinf
  have hmul : (n + m) * bytes ≤ 1000000 * 1000 := Nat.mul_le_mul hn hb
  obtain ⟨v', w', hr, h2, h3, _, h5⟩ := run_append_own_at (P := Tryd.prog) w 0 t o.type e i0 z s bytes ht hi hz0 hz1 hz2 hzs hs0 v n xs hv ad m c news hl hc h1 (by unfold maxLen; omega) (by omega) (Nat.zero_le _)
  refine ⟨v', w', ?_, h2, ⟨h3.os, h3.tape, h3.output, h3.size, fun k hk hne => h3.block k hk (fun e => hne e.symm)⟩, h5, fun k hk => (h2.lt k hk).2⟩
  unfold execOp
  simp only [ho, resolve, invoke, builtin, Sem.run_bind, Sem.run_pure, Result.andThen_ok, List.map_toArray, List.map_cons, List.map_nil, hx, hy, hr]
theorem infT : (Tryd.prog.info? 46).map (fun i => (i.zero, i.size, i.bytes)) = some (some (.agg zeroT.toArray), 15, 64) := by kernel_rfl
theorem infS : (Tryd.prog.info? 31).map (fun i => (i.zero, i.size, i.bytes)) = some (some (.slice none 0 0), 1, 24) := by kernel_rfl
def zeroP : List Value := .slice none 0 0 :: List.replicate 32 (.int .u8 0)
theorem infP : (Tryd.prog.info? 37).map (fun i => (i.zero, i.size, i.bytes)) = some (some (.agg zeroP.toArray), 33, 56) := by kernel_rfl
/-- A row of one, or of two, is made. -/
theorem exec_row1 {w : World} {o : Oper} {ρ : Operand → Value} {t e : TypeId} {s bytes : Nat} {z : Value} (ht : Tryd.prog.underlying t = some (.slice e)) (hinf : (Tryd.prog.info? e).map (fun i => (i.zero, i.size, i.bytes)) = some (some z, s, bytes)) (hs0 : 0 < s) (hs1 : s ≤ 1000)
    {x : Operand} (ho : o.op = .buildSlice t 1 #[(0, x)]) {v : Value} (hx : ρ x = v) (hv : v.cells.size = s) : (execOp ρ o).run Tryd.prog w = .ok (.value (.slice (some ⟨w.heap.size, 0, none⟩) 1 1)) (w.alloc (.cells v.cells e)) := by
  obtain ⟨i0, hi, hz0, hz1, _⟩ := info_parts hinf
  have h := run_rowlit w ht hi hz0 hz1 hs0 [v] (by simpa using hv) (by simp) (by simp; omega) #[(0, v)] rfl
  unfold execOp
  simp only [ho, List.map_toArray, List.map_cons, List.map_nil, hx]
  simp at h
  simp [h, Result.andThen]
theorem exec_row2 {w : World} {o : Oper} {ρ : Operand → Value} {t e : TypeId} {s bytes : Nat} {z : Value} (ht : Tryd.prog.underlying t = some (.slice e)) (hinf : (Tryd.prog.info? e).map (fun i => (i.zero, i.size, i.bytes)) = some (some z, s, bytes)) (hs0 : 0 < s) (hs1 : s ≤ 1000)
    {x y : Operand} (ho : o.op = .buildSlice t 2 #[(0, x), (1, y)]) {v u : Value} (hx : ρ x = v) (hy : ρ y = u) (hv : v.cells.size = s) (hu : u.cells.size = s) : (execOp ρ o).run Tryd.prog w = .ok (.value (.slice (some ⟨w.heap.size, 0, none⟩) 2 2)) (w.alloc (.cells (v.cells.toList ++ u.cells.toList).toArray e)) := by
  obtain ⟨i0, hi, hz0, hz1, _⟩ := info_parts hinf
  have hvu : ∀ x ∈ [v, u], x.cells.size = s := by
    intro x hx
    rcases List.mem_cons.1 hx with h | h
    · rw [h]; exact hv
    · rw [show x = u by simpa using h]; exact hu
  have h := run_rowlit w ht hi hz0 hz1 hs0 [v, u] hvu (by simp) (by simp; omega) #[(0, v), (1, u)] rfl
  have hfl : ([v, u].flatMap fun v => v.cells.toList) = v.cells.toList ++ u.cells.toList := by simp
  rw [hfl] at h
  unfold execOp
  simp only [ho, List.map_toArray, List.map_cons, List.map_nil, hx, hy]
  have h' : (Instr.buildSlice t 2 #[(0, v), (1, u)]).run Tryd.prog w = .ok (.slice (some ⟨w.heap.size, 0, none⟩) 2 2) (w.alloc (.cells (v.cells.toList ++ u.cells.toList).toArray e)) := h
  simp only [Sem.run_bind, h', Result.andThen_ok, Sem.run_pure]
/-- A cell of a block is stored into. -/
theorem exec_store {w : World} {o : Oper} {ρ : Operand → Value} {t T : TypeId} (hsz : (Tryd.prog.info? t).map (·.size) = some 1) {x y : Operand} (ho : o.op = .store t x y) {g i : Nat} {v : Value} {L : List Value} (hx : ρ x = .pointer (some ⟨g, i, none⟩)) (hy : ρ y = v) (hv : v.oneCell' = true) (hb : Blk w g T L) (hi : i < L.length) :
    (execOp ρ o).run Tryd.prog w = .ok .skip (w.setCell ⟨g, i, none⟩ v) := by
  have hc : w.cell? ⟨g, i, none⟩ = some L[i] := by rw [hb.cell, List.getElem?_eq_getElem hi]
  have hf := hb.free i
  have hcs : v.cells = #[v] := by cases v <;> first | rfl | cases hv
  have ea : (⟨g, i, none⟩ : Addr).add 0 = ⟨g, i, none⟩ := by simp [Addr.add]
  have hst : (store ⟨g, i, none⟩ v).run Tryd.prog w = .ok () (w.setCell ⟨g, i, none⟩ v) := by
    rw [run_store Tryd.prog w _ v _ hv, hc, hf]
    simp
  cases hq : Tryd.prog.info? t with
  | none => simp [hq] at hsz
  | some ti =>
    have hs : ti.size = 1 := by simpa [hq] using hsz
    unfold execOp
    simp [ho, hx, hy, Instr.storeAt, Instr.sureAddr, storeVar, sizeOf, typeInfo, hq, hs, hcs, storeCells, ea, hst, Result.andThen]
/-- A row that was made of literals. -/
theorem RowOf.lit {w : World} {Fr : Nat → Prop} {e s n g : Nat} {L : List Value} (hb : Blk w g e L) (hl : L.length = n * s) (hn : n ≤ 1000) (hF : Fr g) : RowOf w Fr e s (.slice (some ⟨g, 0, none⟩) n n) n L :=
  ⟨⟨hl, .inr ⟨g, n, L.toArray, rfl, Nat.zero_le _, hb, Nat.le_refl _, by unfold maxLen; omega, by simpa using hl, by simp [← hl]⟩⟩, fun k hk => by cases hk; exact hF⟩
section
variable {w : World} {o : Oper} {ρ : Operand → Value} {K' : Value → World → Prop}
/-- The like as turns of a chain. -/
theorem turn_append {t e : TypeId} {s bytes : Nat} {z : Value} (ht : Tryd.prog.underlying t = some (.slice e)) (hinf : (Tryd.prog.info? e).map (fun i => (i.zero, i.size, i.bytes)) = some (some z, s, bytes)) (hzs : z.cells.size = s) (hs0 : 0 < s)
    {x y : Operand} (ho : o.op = .call { callee := .builtin .append, args := #[x, y], argTypes := #[t, t] }) {v : Value} {n : Nat} {xs : List Value} (hx : ρ x = v) (hv : w.ownsRow 0 e s v n xs)
    {ad : Addr} {m c : Nat} {news : List Value} (hy : ρ y = .slice (some ad) m c) (hl : news.length = m * s) (hc : ∀ j u, news[j]? = some u → w.cell? (ad.add j) = some u) (h1 : ∀ u ∈ news, u.oneCell' = true) (hn : n + m ≤ 1000000) (hb : bytes ≤ 1000)
    (hk : ∀ v' w', Appd w w' e s v v' (n + m) (xs ++ news) → K' v' w') : ∃ v' w', ((execOp ρ o).run Tryd.prog w = .ok (.value v') w' ∨ ((execOp ρ o).run Tryd.prog w = .ok .skip w' ∧ v' = undef)) ∧ K' v' w' := by
  obtain ⟨v', w', hr, ha⟩ := exec_append ht hinf hzs hs0 ho hx hv hy hl hc h1 hn hb
  exact ⟨v', w', .inl hr, hk v' w' ha⟩
theorem turn_row1 {t e : TypeId} {s bytes : Nat} {z : Value} (ht : Tryd.prog.underlying t = some (.slice e)) (hinf : (Tryd.prog.info? e).map (fun i => (i.zero, i.size, i.bytes)) = some (some z, s, bytes)) (hs0 : 0 < s) (hs1 : s ≤ 1000)
    {x : Operand} (ho : o.op = .buildSlice t 1 #[(0, x)]) {v : Value} (hx : ρ x = v) (hv : v.cells.size = s) (hk : K' (.slice (some ⟨w.heap.size, 0, none⟩) 1 1) (w.alloc (.cells v.cells e))) :
    ∃ v' w', ((execOp ρ o).run Tryd.prog w = .ok (.value v') w' ∨ ((execOp ρ o).run Tryd.prog w = .ok .skip w' ∧ v' = undef)) ∧ K' v' w' :=
  ⟨_, _, .inl (exec_row1 ht hinf hs0 hs1 ho hx hv), hk⟩
theorem turn_row2 {t e : TypeId} {s bytes : Nat} {z : Value} (ht : Tryd.prog.underlying t = some (.slice e)) (hinf : (Tryd.prog.info? e).map (fun i => (i.zero, i.size, i.bytes)) = some (some z, s, bytes)) (hs0 : 0 < s) (hs1 : s ≤ 1000)
    {x y : Operand} (ho : o.op = .buildSlice t 2 #[(0, x), (1, y)]) {v u : Value} (hx : ρ x = v) (hy : ρ y = u) (hv : v.cells.size = s) (hu : u.cells.size = s) (hk : K' (.slice (some ⟨w.heap.size, 0, none⟩) 2 2) (w.alloc (.cells (v.cells.toList ++ u.cells.toList).toArray e))) :
    ∃ v' w', ((execOp ρ o).run Tryd.prog w = .ok (.value v') w' ∨ ((execOp ρ o).run Tryd.prog w = .ok .skip w' ∧ v' = undef)) ∧ K' v' w' :=
  ⟨_, _, .inl (exec_row2 ht hinf hs0 hs1 ho hx hy hv hu), hk⟩
theorem turn_store {t T : TypeId} (hsz : (Tryd.prog.info? t).map (·.size) = some 1) {x y : Operand} (ho : o.op = .store t x y) {g i : Nat} {v : Value} {L : List Value} (hx : ρ x = .pointer (some ⟨g, i, none⟩)) (hy : ρ y = v) (hv : v.oneCell' = true) (hb : Blk w g T L) (hi : i < L.length) (hk : K' undef (w.setCell ⟨g, i, none⟩ v)) :
    ∃ v' w', ((execOp ρ o).run Tryd.prog w = .ok (.value v') w' ∨ ((execOp ρ o).run Tryd.prog w = .ok .skip w' ∧ v' = undef)) ∧ K' v' w' :=
  ⟨undef, _, .inr ⟨exec_store hsz ho hx hy hv hb hi, rfl⟩, hk⟩
theorem turn_put {t : TypeId} {m x y : Operand} {vm key v : Value} {w' : World} (ho : o.op = .mapUpdate t m x y) (hm : ρ m = vm) (hx : ρ x = key) (hy : ρ y = v) (h : (Instr.mapUpdate t vm key v).run Tryd.prog w = .ok () w') (hk : K' undef w') :
    ∃ v' w', ((execOp ρ o).run Tryd.prog w = .ok (.value v') w' ∨ ((execOp ρ o).run Tryd.prog w = .ok .skip w' ∧ v' = undef)) ∧ K' v' w' :=
  ⟨undef, _, .inr ⟨exec_mapUpdate ho hm hx hy h, rfl⟩, hk⟩
end
theorem ownsRow_one {w : World} {base e s n : Nat} {v : Value} {xs : List Value} (h : w.ownsRow base e s v n xs) : v.oneCell' = true := by
  obtain ⟨_, ⟨rfl, _⟩ | ⟨g, cap, cur, rfl, _⟩⟩ := h <;> rfl
theorem Bs.cs {w : World} {v : Value} {xs : List Nat} (h : Bs w v xs) : v.cells = #[v] := by
  obtain ⟨ao, cap, rfl, _⟩ := h.gen
  rfl
theorem ownsRow_grow {w w' : World} {base e s n : Nat} {v : Value} {xs : List Value} (h : w.ownsRow base e s v n xs) (k : Grow w w') : w'.ownsRow base e s v n xs := ownsRow_but h k (fun _ _ h => h)
/-- Is a map none? -/
theorem map_eql {t k e : TypeId} (ht : Tryd.prog.underlying t = some (.map k e)) (m : Option Nat) (w : World) : (binOp .eql t (.map m) (.map none)).run Tryd.prog w = .ok (.bool m.isNone) w := by
  have h : (Op.equal t (.map m) (.map none)).run Tryd.prog w = .ok m.isNone w := by
    unfold Op.equal Op.maxDepth Op.equalIn
    cases m with
    | none => simp [run_underlying ht]
    | some b => simp [run_underlying ht]
  simp [binOp, h]
end Go.Proofs.YthpgjbblbhjndaaDoor
