/- General: own rows, tags of blocks, single operations. -/
import Derived.Test.YtlfppgdaoijklaaMapMem
import Derived.Test.YtlfppgdaoijklaaChain
import Derived.Test.YtlfppgdaoijklaaCuts
import Derived.Maps.AppendAt
import Derived.Test.YtlfppgdaoijklaaBytesLeaf
namespace Go.Proofs.Ytlfppgdaoijklaa
open Go.RowKit

theorem ownsRow_but {R : Nat → Prop} {w w' : World} {base e s n : Nat} {v : Value} {xs : List Value} (h : w.ownsRow base e s v n xs) (k : But R w w') (hr : ∀ j, v.ownBlock = some j → ¬ R j) : w'.ownsRow base e s v n xs := by
  obtain ⟨h1, h2 | ⟨g, cap, cur, rfl, hg, hh, r⟩⟩ := h
  · exact ⟨h1, .inl h2⟩
  · exact ⟨h1, .inr ⟨g, cap, cur, rfl, hg, (k.block g (lt_of_block hh) (hr g rfl)).trans hh, r⟩⟩
/-- An own row whose block lies in Fr. -/
structure RowOf (w : World) (Fr : Nat → Prop) (e s : Nat) (v : Value) (n : Nat) (xs : List Value) : Prop where
  own : w.ownsRow 0 e s v n xs
  inF : ∀ k, v.ownBlock = some k → Fr k
theorem RowOf.but {R Fr Fr' : Nat → Prop} {w w' : World} {e s n : Nat} {v : Value} {xs : List Value} (h : RowOf w Fr e s v n xs) (k : But R w w') (hr : ∀ j, Fr j → ¬ R j) (hf : ∀ j, Fr j → Fr' j) : RowOf w' Fr' e s v n xs :=
  ⟨ownsRow_but h.own k (fun j hj => hr j (h.inF j hj)), fun j hj => hf j (h.inF j hj)⟩
theorem RowOf.nil (w : World) (Fr : Nat → Prop) (e s : Nat) : RowOf w Fr e s (.slice none 0 0) 0 [] := ⟨World.ownsRow_nil _ _ _ _, fun k hk => by cases hk⟩
theorem RowOf.shape {w : World} {Fr : Nat → Prop} {e s n : Nat} {v : Value} {xs : List Value} (h : RowOf w Fr e s v n xs) : ∃ ao cap, v = .slice ao n cap ∧ (0 < n → ∃ g, ao = some ⟨g, 0, none⟩ ∧ Fr g ∧ g < w.heap.size ∧ ∀ j u, xs[j]? = some u → w.cell? ⟨g, j, none⟩ = some u) := by
  have hc := h.own
  obtain ⟨⟨h1, ⟨rfl, rfl⟩ | ⟨g, cap, cur, rfl, hg, hh, r⟩⟩, hF⟩ := h
  · exact ⟨none, 0, rfl, fun h => absurd h (by omega)⟩
  · refine ⟨_, cap, rfl, fun _ => ⟨g, rfl, hF g rfl, lt_of_block hh, fun j u hj => ?_⟩⟩
    have := hc.cells (g := g) rfl j u hj
    have e : (⟨g, 0, none⟩ : Addr).add j = ⟨g, j, none⟩ := by simp [Addr.add]; exact fun h => h.symm
    rwa [e] at this

theorem flat_at {α : Type} {f : α → List Value} {s : Nat} : ∀ (L : List α), (∀ e ∈ L, (f e).length = s) → ∀ i e c u, L[i]? = some e → (f e)[c]? = some u → (L.flatMap f)[i * s + c]? = some u
  | [], _, i, e, c, u, h, _ => by simp at h
  | x :: L, hl, i, e, c, u, h, hu => by
    rw [List.flatMap_cons]
    cases i with
    | zero =>
      obtain rfl : x = e := by simpa using h
      rw [Nat.zero_mul, Nat.zero_add, List.getElem?_append_left (List.getElem?_eq_some_iff.1 hu).1]
      exact hu
    | succ i =>
      have hx := hl x List.mem_cons_self
      rw [List.getElem?_append_right (by rw [hx, Nat.succ_mul]; omega), hx]
      have e2 : (i + 1) * s + c - s = i * s + c := by rw [Nat.succ_mul]; omega
      rw [e2]
      exact flat_at L (fun e he => hl e (List.mem_cons_of_mem _ he)) i e c u (by simpa using h) hu
theorem flat_len {α : Type} {f : α → List Value} {s : Nat} : ∀ (L : List α), (∀ e ∈ L, (f e).length = s) → (L.flatMap f).length = L.length * s
  | [], _ => by simp
  | x :: L, hl => by
    rw [List.flatMap_cons, List.length_append, hl x List.mem_cons_self, flat_len L (fun e he => hl e (List.mem_cons_of_mem _ he)), List.length_cons, Nat.succ_mul]; omega

/-- Whose a block is. -/
inductive Tag where
  | none | dev | sto | wri | map | imr | pic | log | inm | byt | cla | sem | twi | blo | str
  | row (b : Nat)
  | use (e : Nat) (n : List Nat)
  deriving DecidableEq
abbrev Owner := Nat → Tag
def Is (own : Owner) (t : Tag) : Nat → Prop := fun b => own b = t
def tagAt (own : Owner) (g : Nat) (t : Tag) : Owner := fun b => if b = g then t else own b
def Ext (own own' : Owner) : Prop := ∀ b, own b ≠ .none → own' b = own b
theorem Ext.refl (own : Owner) : Ext own own := fun _ _ => rfl
theorem Ext.trans {a b c : Owner} (h : Ext a b) (k : Ext b c) : Ext a c := fun i hi => (k i (by rw [h i hi]; exact hi)).trans (h i hi)
theorem Ext.is {own own' : Owner} (h : Ext own own') {t : Tag} (ht : t ≠ .none) : ∀ b, Is own t b → Is own' t b := fun b hb => (h b (by rw [hb]; exact ht)).trans hb
theorem Ext.tagAt {own : Owner} {g : Nat} {t : Tag} (h : own g = .none ∨ own g = t) : Ext own (tagAt own g t) := fun b hb => by
  unfold Go.Proofs.Ytlfppgdaoijklaa.tagAt
  split
  · rename_i e
    subst e
    rcases h with h | h
    · exact absurd h hb
    · exact h.symm
  · rfl
def tagV (own : Owner) (v : Value) (t : Tag) : Owner := match v.ownBlock with | some k => tagAt own k t | none => own
theorem Ext.tagV {own : Owner} {v : Value} {t : Tag} (h : ∀ k, v.ownBlock = some k → own k = .none ∨ own k = t) : Ext own (tagV own v t) := by
  unfold Go.Proofs.Ytlfppgdaoijklaa.tagV
  cases hv : v.ownBlock with
  | none => exact Ext.refl _
  | some k => exact Ext.tagAt (h k hv)
theorem tagV_own {own : Owner} {v : Value} {t : Tag} {k : Nat} (h : v.ownBlock = some k) : tagV own v t k = t := by
  unfold tagV; rw [h]; simp [tagAt]
theorem tagAt_own {own : Owner} {g : Nat} {t : Tag} : tagAt own g t g = t := by simp [tagAt]
/-- Only what is new has a new tag. -/
def Fresh (w : World) (own own' : Owner) : Prop := ∀ b, own' b ≠ own b → w.heap.size ≤ b
theorem Fresh.refl (w : World) (own : Owner) : Fresh w own own := fun _ h => absurd rfl h
theorem Fresh.tagAt {w : World} {own own' : Owner} {g : Nat} {t : Tag} (h : Fresh w own own') (hg : w.heap.size ≤ g ∨ own g = t) : Fresh w own (tagAt own' g t) := fun b hb => by
  unfold Go.Proofs.Ytlfppgdaoijklaa.tagAt at hb
  split at hb
  · rename_i e
    subst e
    rcases hg with hg | hg
    · exact hg
    · exact absurd hg.symm hb
  · exact h b hb
theorem Fresh.tagV {w : World} {own own' : Owner} {v : Value} {t : Tag} (h : Fresh w own own') (hg : ∀ k, v.ownBlock = some k → w.heap.size ≤ k ∨ own k = t) : Fresh w own (tagV own' v t) := by
  unfold Go.Proofs.Ytlfppgdaoijklaa.tagV
  cases hv : v.ownBlock with
  | none => exact h
  | some k => exact h.tagAt (hg k hv)
def Top (w : World) (own : Owner) : Prop := ∀ b, w.heap.size ≤ b → own b = .none
theorem Top.grow {w w' : World} {own : Owner} (h : Top w own) (hs : w.heap.size ≤ w'.heap.size) : Top w' own := fun b hb => h b (Nat.le_trans hs hb)
theorem Top.lt {w : World} {own : Owner} (h : Top w own) {b : Nat} (hb : own b ≠ .none) : b < w.heap.size := by
  by_cases hl : b < w.heap.size
  · exact hl
  · exact absurd (h b (by omega)) hb
theorem Top.tagAt {w : World} {own : Owner} {g : Nat} {t : Tag} (h : Top w own) (hg : g < w.heap.size) : Top w (tagAt own g t) := fun b hb => by
  unfold Go.Proofs.Ytlfppgdaoijklaa.tagAt
  rw [if_neg (by omega)]
  exact h b hb
theorem Top.tagV {w : World} {own : Owner} {v : Value} {t : Tag} (h : Top w own) (hg : ∀ k, v.ownBlock = some k → k < w.heap.size) : Top w (tagV own v t) := by
  unfold Go.Proofs.Ytlfppgdaoijklaa.tagV
  cases hv : v.ownBlock with
  | none => exact h
  | some k => exact h.tagAt (hg k hv)

/-- Bytes whose memory lies in F. -/
def Bf (w : World) (F : Nat → Prop) (v : Value) (xs : List Nat) : Prop := Bs w v xs ∧ (0 < xs.length → ∀ j, v.ownBlock = some j → F j)
theorem Bf.but {F R : Nat → Prop} {w w' : World} {v : Value} {xs : List Nat} (h : Bf w F v xs) (k : But R w w') (hr : ∀ j, F j → ¬ R j) : Bf w' F v xs := by
  refine ⟨?_, h.2⟩
  by_cases h0 : 0 < xs.length
  · exact h.1.but k (fun j hj _ => hr j (h.2 h0 j hj))
  · obtain ⟨⟨h1, h2, h3 | h3⟩, _⟩ := h
    · exact ⟨h1, h2, .inl h3⟩
    · exact absurd h3.1 h0
theorem But.set1 (w : World) (g i : Nat) (u : Value) : But (· = g) w (w.setCell ⟨g, i, none⟩ u) :=
  But.setCell (R := (· = g)) (p := ⟨g, i, none⟩) (But.refl _ w) (fun _ => rfl) u
section
variable {P : Program} {w w' : World} {o : Oper} {ρ : Operand → Value}
theorem run_load_arr {T : TypeId} {n l : Nat} {e : TypeId} (hu : Try.prog.underlying T = some (.array l e)) (hi : (Try.prog.info? T).map (·.size) = some n) {x : Operand} {ad : Addr} {D : List Nat} (hc : ∀ j u, (u8s D)[j]? = some u → w.cell? (ad.add j) = some u) (hD : D.length = n)
    (ho : o.op = .load T x) (hx : ρ x = .pointer (some ad)) : (execOp ρ o).run Try.prog w = .ok (.value (.agg (u8s D).toArray)) w := by
  have h := run_loadVar_cells w ad T (u8s D) _ hc hu rfl (by rw [hi]; simp [u8s, hD])
  unfold execOp
  simp only [ho, hx, Instr.loadAt, Instr.sureAddr, Sem.run_bind, Sem.run_pure, Result.andThen_ok, h]
theorem exec_lookup {t : TypeId} {m x : Operand} {c : Bool} {vm key r : Value} (ho : o.op = .lookup t m x c) (hm : ρ m = vm) (hx : ρ x = key) (h : (Instr.lookup t vm key c).run P w = .ok r w) : (execOp ρ o).run P w = .ok (.value r) w := by
  simp [execOp, ho, hm, hx, h, Result.andThen]
theorem exec_mapUpdate {t : TypeId} {m x y : Operand} {vm key v : Value} (ho : o.op = .mapUpdate t m x y) (hm : ρ m = vm) (hx : ρ x = key) (hy : ρ y = v) (h : (Instr.mapUpdate t vm key v).run P w = .ok () w') : (execOp ρ o).run P w = .ok .skip w' := by
  simp [execOp, ho, hm, hx, hy, h, Result.andThen]
end
/-- What lies in an own row is appended to. -/
structure Appd (w w' : World) (e s : Nat) (v v' : Value) (n : Nat) (xs : List Value) : Prop where
  own : w'.ownsRow 0 e s v' n xs
  but : But (fun b => v.ownBlock = some b) w w'
  at' : v'.ownBlock = v.ownBlock ∨ v'.ownBlock = some w.heap.size
  lt : ∀ k, v'.ownBlock = some k → k < w'.heap.size
theorem exec_append {w : World} {o : Oper} {ρ : Operand → Value} {t e : TypeId} {s bytes : Nat} {z : Value} (ht : Try.prog.underlying t = some (.slice e)) (hinf : (Try.prog.info? e).map (fun i => (i.zero, i.size, i.bytes)) = some (some z, s, bytes)) (hzs : z.cells.size = s) (hs0 : 0 < s)
    {x y : Operand} (ho : o.op = .call { callee := .builtin .append, args := #[x, y], argTypes := #[t, t] }) {v : Value} {n : Nat} {xs : List Value} (hx : ρ x = v) (hv : w.ownsRow 0 e s v n xs)
    {ad : Addr} {m c : Nat} {news : List Value} (hy : ρ y = .slice (some ad) m c) (hl : news.length = m * s) (hc : ∀ j u, news[j]? = some u → w.cell? (ad.add j) = some u) (h1 : ∀ u ∈ news, u.oneCell' = true) (hn : n + m ≤ 1000000) (hb : bytes ≤ 1000) :
    ∃ v' w', (execOp ρ o).run Try.prog w = .ok (.value v') w' ∧ Appd w w' e s v v' (n + m) (xs ++ news) := by
  obtain ⟨i0, hi, hz0, hz1, hz2⟩ := info_parts hinf
  have hmul : (n + m) * bytes ≤ 1000000 * 1000 := Nat.mul_le_mul hn hb
  obtain ⟨v', w', hr, h2, h3, _, h5⟩ := run_append_own_at (P := Try.prog) w 0 t o.type e i0 z s bytes ht hi hz0 hz1 hz2 hzs hs0 v n xs hv ad m c news hl hc h1 (by unfold maxLen; omega) (by omega) (Nat.zero_le _)
  refine ⟨v', w', ?_, h2, ⟨h3.os, h3.tape, h3.output, h3.size, fun k hk hne => h3.block k hk (fun e => hne e.symm)⟩, h5, fun k hk => (h2.lt k hk).2⟩
  unfold execOp
  simp only [ho, resolve, invoke, builtin, Sem.run_bind, Sem.run_pure, Result.andThen_ok, List.map_toArray, List.map_cons, List.map_nil, hx, hy, hr]
theorem infS : (Try.prog.info? 44).map (fun i => (i.zero, i.size, i.bytes)) = some (some (.slice none 0 0), 1, 24) := by kernel_rfl
/-- A row of one, or of two, is made. -/
theorem exec_row1 {w : World} {o : Oper} {ρ : Operand → Value} {t e : TypeId} {s bytes : Nat} {z : Value} (ht : Try.prog.underlying t = some (.slice e)) (hinf : (Try.prog.info? e).map (fun i => (i.zero, i.size, i.bytes)) = some (some z, s, bytes)) (hs0 : 0 < s) (hs1 : s ≤ 1000)
    {x : Operand} (ho : o.op = .buildSlice t 1 #[(0, x)]) {v : Value} (hx : ρ x = v) (hv : v.cells.size = s) : (execOp ρ o).run Try.prog w = .ok (.value (.slice (some ⟨w.heap.size, 0, none⟩) 1 1)) (w.alloc (.cells v.cells e)) := by
  obtain ⟨i0, hi, hz0, hz1, _⟩ := info_parts hinf
  have h := run_rowlit w ht hi hz0 hz1 hs0 [v] (by simpa using hv) (by simp) (by simp; omega) #[(0, v)] rfl
  unfold execOp
  simp only [ho, List.map_toArray, List.map_cons, List.map_nil, hx]
  simp at h
  simp [h, Result.andThen]
theorem exec_row2 {w : World} {o : Oper} {ρ : Operand → Value} {t e : TypeId} {s bytes : Nat} {z : Value} (ht : Try.prog.underlying t = some (.slice e)) (hinf : (Try.prog.info? e).map (fun i => (i.zero, i.size, i.bytes)) = some (some z, s, bytes)) (hs0 : 0 < s) (hs1 : s ≤ 1000)
    {x y : Operand} (ho : o.op = .buildSlice t 2 #[(0, x), (1, y)]) {v u : Value} (hx : ρ x = v) (hy : ρ y = u) (hv : v.cells.size = s) (hu : u.cells.size = s) : (execOp ρ o).run Try.prog w = .ok (.value (.slice (some ⟨w.heap.size, 0, none⟩) 2 2)) (w.alloc (.cells (v.cells.toList ++ u.cells.toList).toArray e)) := by
  obtain ⟨i0, hi, hz0, hz1, _⟩ := info_parts hinf
  have hvu : ∀ x ∈ [v, u], x.cells.size = s := by
    intro x hx
    rcases List.mem_cons.1 hx with h | h
    · rw [h]; exact hv
    · rw [show x = u by simpa using h]; exact hu
  have h := run_rowlit w ht hi hz0 hz1 hs0 [v, u] hvu (by simp) (by simp; omega) #[(0, v), (1, u)] rfl
  have hfl : ([v, u].flatMap fun v => v.cells.toList) = v.cells.toList ++ u.cells.toList := by simp
  rw [hfl] at h
  unfold execOp
  simp only [ho, List.map_toArray, List.map_cons, List.map_nil, hx, hy]
  have h' : (Instr.buildSlice t 2 #[(0, v), (1, u)]).run Try.prog w = .ok (.slice (some ⟨w.heap.size, 0, none⟩) 2 2) (w.alloc (.cells (v.cells.toList ++ u.cells.toList).toArray e)) := h
  simp only [Sem.run_bind, h', Result.andThen_ok, Sem.run_pure]
/-- A cell of a block is stored into. -/
theorem exec_store {w : World} {o : Oper} {ρ : Operand → Value} {t T : TypeId} (hsz : (Try.prog.info? t).map (·.size) = some 1) {x y : Operand} (ho : o.op = .store t x y) {g i : Nat} {v : Value} {L : List Value} (hx : ρ x = .pointer (some ⟨g, i, none⟩)) (hy : ρ y = v) (hv : v.oneCell' = true) (hb : Blk w g T L) (hi : i < L.length) :
    (execOp ρ o).run Try.prog w = .ok .skip (w.setCell ⟨g, i, none⟩ v) := by
  have hc : w.cell? ⟨g, i, none⟩ = some L[i] := by rw [hb.cell, List.getElem?_eq_getElem hi]
  have hf := hb.free i
  have hcs : v.cells = #[v] := by cases v <;> first | rfl | cases hv
  have ea : (⟨g, i, none⟩ : Addr).add 0 = ⟨g, i, none⟩ := by simp [Addr.add]
  have hst : (store ⟨g, i, none⟩ v).run Try.prog w = .ok () (w.setCell ⟨g, i, none⟩ v) := by
    rw [run_store Try.prog w _ v _ hv, hc, hf]
    simp
  cases hq : Try.prog.info? t with
  | none => simp [hq] at hsz
  | some ti =>
    have hs : ti.size = 1 := by simpa [hq] using hsz
    unfold execOp
    simp [ho, hx, hy, Instr.storeAt, Instr.sureAddr, storeVar, sizeOf, typeInfo, hq, hs, hcs, storeCells, ea, hst, Result.andThen]
/-- A row that was made of literals. -/
theorem RowOf.lit {w : World} {Fr : Nat → Prop} {e s n g : Nat} {L : List Value} (hb : Blk w g e L) (hl : L.length = n * s) (hn : n ≤ 1000) (hF : Fr g) : RowOf w Fr e s (.slice (some ⟨g, 0, none⟩) n n) n L :=
  ⟨⟨hl, .inr ⟨g, n, L.toArray, rfl, Nat.zero_le _, hb, Nat.le_refl _, by unfold maxLen; omega, by simpa using hl, by simp [← hl]⟩⟩, fun k hk => by cases hk; exact hF⟩
section
variable {w : World} {o : Oper} {ρ : Operand → Value} {K' : Value → World → Prop}
/-- The like as turns of a chain. -/
theorem turn_append {t e : TypeId} {s bytes : Nat} {z : Value} (ht : Try.prog.underlying t = some (.slice e)) (hinf : (Try.prog.info? e).map (fun i => (i.zero, i.size, i.bytes)) = some (some z, s, bytes)) (hzs : z.cells.size = s) (hs0 : 0 < s)
    {x y : Operand} (ho : o.op = .call { callee := .builtin .append, args := #[x, y], argTypes := #[t, t] }) {v : Value} {n : Nat} {xs : List Value} (hx : ρ x = v) (hv : w.ownsRow 0 e s v n xs)
    {ad : Addr} {m c : Nat} {news : List Value} (hy : ρ y = .slice (some ad) m c) (hl : news.length = m * s) (hc : ∀ j u, news[j]? = some u → w.cell? (ad.add j) = some u) (h1 : ∀ u ∈ news, u.oneCell' = true) (hn : n + m ≤ 1000000) (hb : bytes ≤ 1000)
    (hk : ∀ v' w', Appd w w' e s v v' (n + m) (xs ++ news) → K' v' w') : ∃ v' w', ((execOp ρ o).run Try.prog w = .ok (.value v') w' ∨ ((execOp ρ o).run Try.prog w = .ok .skip w' ∧ v' = undef)) ∧ K' v' w' := by
  obtain ⟨v', w', hr, ha⟩ := exec_append ht hinf hzs hs0 ho hx hv hy hl hc h1 hn hb
  exact ⟨v', w', .inl hr, hk v' w' ha⟩
theorem turn_row1 {t e : TypeId} {s bytes : Nat} {z : Value} (ht : Try.prog.underlying t = some (.slice e)) (hinf : (Try.prog.info? e).map (fun i => (i.zero, i.size, i.bytes)) = some (some z, s, bytes)) (hs0 : 0 < s) (hs1 : s ≤ 1000)
    {x : Operand} (ho : o.op = .buildSlice t 1 #[(0, x)]) {v : Value} (hx : ρ x = v) (hv : v.cells.size = s) (hk : K' (.slice (some ⟨w.heap.size, 0, none⟩) 1 1) (w.alloc (.cells v.cells e))) :
    ∃ v' w', ((execOp ρ o).run Try.prog w = .ok (.value v') w' ∨ ((execOp ρ o).run Try.prog w = .ok .skip w' ∧ v' = undef)) ∧ K' v' w' :=
  ⟨_, _, .inl (exec_row1 ht hinf hs0 hs1 ho hx hv), hk⟩
theorem turn_row2 {t e : TypeId} {s bytes : Nat} {z : Value} (ht : Try.prog.underlying t = some (.slice e)) (hinf : (Try.prog.info? e).map (fun i => (i.zero, i.size, i.bytes)) = some (some z, s, bytes)) (hs0 : 0 < s) (hs1 : s ≤ 1000)
    {x y : Operand} (ho : o.op = .buildSlice t 2 #[(0, x), (1, y)]) {v u : Value} (hx : ρ x = v) (hy : ρ y = u) (hv : v.cells.size = s) (hu : u.cells.size = s) (hk : K' (.slice (some ⟨w.heap.size, 0, none⟩) 2 2) (w.alloc (.cells (v.cells.toList ++ u.cells.toList).toArray e))) :
    ∃ v' w', ((execOp ρ o).run Try.prog w = .ok (.value v') w' ∨ ((execOp ρ o).run Try.prog w = .ok .skip w' ∧ v' = undef)) ∧ K' v' w' :=
  ⟨_, _, .inl (exec_row2 ht hinf hs0 hs1 ho hx hy hv hu), hk⟩
theorem turn_store {t T : TypeId} (hsz : (Try.prog.info? t).map (·.size) = some 1) {x y : Operand} (ho : o.op = .store t x y) {g i : Nat} {v : Value} {L : List Value} (hx : ρ x = .pointer (some ⟨g, i, none⟩)) (hy : ρ y = v) (hv : v.oneCell' = true) (hb : Blk w g T L) (hi : i < L.length) (hk : K' undef (w.setCell ⟨g, i, none⟩ v)) :
    ∃ v' w', ((execOp ρ o).run Try.prog w = .ok (.value v') w' ∨ ((execOp ρ o).run Try.prog w = .ok .skip w' ∧ v' = undef)) ∧ K' v' w' :=
  ⟨undef, _, .inr ⟨exec_store hsz ho hx hy hv hb hi, rfl⟩, hk⟩
theorem turn_put {t : TypeId} {m x y : Operand} {vm key v : Value} {w' : World} (ho : o.op = .mapUpdate t m x y) (hm : ρ m = vm) (hx : ρ x = key) (hy : ρ y = v) (h : (Instr.mapUpdate t vm key v).run Try.prog w = .ok () w') (hk : K' undef w') :
    ∃ v' w', ((execOp ρ o).run Try.prog w = .ok (.value v') w' ∨ ((execOp ρ o).run Try.prog w = .ok .skip w' ∧ v' = undef)) ∧ K' v' w' :=
  ⟨undef, _, .inr ⟨exec_mapUpdate ho hm hx hy h, rfl⟩, hk⟩
end
theorem ownsRow_one {w : World} {base e s n : Nat} {v : Value} {xs : List Value} (h : w.ownsRow base e s v n xs) : v.oneCell' = true := by
  obtain ⟨_, ⟨rfl, _⟩ | ⟨g, cap, cur, rfl, _⟩⟩ := h <;> rfl
theorem Bs.cs {w : World} {v : Value} {xs : List Nat} (h : Bs w v xs) : v.cells = #[v] := by
  obtain ⟨ao, cap, rfl, _⟩ := h.gen
  rfl
theorem ownsRow_grow {w w' : World} {base e s n : Nat} {v : Value} {xs : List Value} (h : w.ownsRow base e s v n xs) (k : Grow w w') : w'.ownsRow base e s v n xs := ownsRow_but h k (fun _ _ h => h)
/-- A build, by what it runs to. -/
theorem wpList_build_run {ops : Array Oper} {rest : List Oper} {o : Oper} {a : Act} {w : World} {Q : Exit → Act → World → Prop} (hgd : o.guard = none) (t : TypeId) (parts : List (Nat × Operand)) (ho : o.op = .build t parts.toArray) (ps : List (Nat × Value)) (hp : (parts.map fun x => (x.1, a.eval x.2)) = ps) (v : Value) (hr : (Instr.build t ps.toArray).run Try.prog w = .ok v w)
    (h : wpList Try.prog ops Q rest (a.put o.dst v) w) : wpList Try.prog ops Q (o :: rest) a w :=
  wpList_plain hgd fun _ hK => by
    unfold Oper.wp execOp
    simp only [ho, List.map_toArray]
    rw [hp]
    simp only [Sem.run_bind, hr, Result.andThen_ok, Sem.run_pure]
    exact hK _ _ h
theorem exec_build {w : World} {o : Oper} {ρ : Operand → Value} (t : TypeId) (parts : List (Nat × Operand)) (ho : o.op = .build t parts.toArray) (ps : List (Nat × Value)) (hp : (parts.map fun x => (x.1, ρ x.2)) = ps) (v : Value) (hr : (Instr.build t ps.toArray).run Try.prog w = .ok v w) : (execOp ρ o).run Try.prog w = .ok (.value v) w := by
  unfold execOp
  simp only [ho, List.map_toArray]
  rw [hp]
  simp only [Sem.run_bind, hr, Result.andThen_ok, Sem.run_pure]
theorem Bs.one {w : World} {v : Value} {xs : List Nat} (h : Bs w v xs) : v.oneCell' = true := by
  obtain ⟨ao, cap, rfl, _⟩ := h.gen
  rfl
theorem Bs.sl {w : World} {v : Value} {xs : List Nat} (h : Bs w v xs) : ∃ ao n cap, v = .slice ao n cap := by
  obtain ⟨ao, cap, rfl, _⟩ := h.gen
  exact ⟨_, _, _, rfl⟩
/-- An own row laid open, and shut. -/
theorem Ow.opn {w : World} {base : Nat} {v : Value} {zs : List Nat} (h : Ow w base v zs) (h0 : 0 < zs.length) :
    ∃ g cap R, v = .slice (some ⟨g, 0, none⟩) zs.length cap ∧ base ≤ g ∧ Blk w g 5 (u8s zs ++ R) ∧ R.length = cap - zs.length ∧ zs.length ≤ cap ∧ cap ≤ maxLen := by
  obtain ⟨hl, ⟨_, h1⟩ | ⟨g, cap, cur, rfl, hge, hb, h1, h2, h3, h4⟩⟩ := h.own
  · omega
  · refine ⟨g, cap, cur.toList.drop zs.length, rfl, hge, ?_, by rw [List.length_drop, Array.length_toList, h3, Nat.mul_one], h1, h2⟩
    rw [Nat.mul_one] at h4
    have e : u8s zs ++ cur.toList.drop zs.length = cur.toList := by rw [← h4, List.take_append_drop]
    show w.heap[g]? = some (.cells (u8s zs ++ cur.toList.drop zs.length).toArray _ _)
    rw [e, hb]
theorem Ow.shu {w : World} {base g cap : Nat} {zs : List Nat} {R : List Value} (hb : Blk w g 5 (u8s zs ++ R)) (hg : base ≤ g) (hz : ∀ z ∈ zs, z < 256) (hl : zs.length ≤ 281474976710656) (hR : R.length = cap - zs.length) (hc : zs.length ≤ cap) (hm : cap ≤ maxLen) :
    Ow w base (.slice (some ⟨g, 0, none⟩) zs.length cap) zs := by
  refine ⟨hz, hl, by simp [u8s], .inr ⟨g, cap, (u8s zs ++ R).toArray, rfl, hg, hb, hc, hm, ?_, ?_⟩⟩
  · rw [List.size_toArray, List.length_append, hR]; unfold u8s; rw [List.length_map]; omega
  · rw [Nat.mul_one]
    show (u8s zs ++ R).take zs.length = u8s zs
    have hs : (u8s zs).length = zs.length := by simp [u8s]
    rw [← hs, List.take_append_of_le_length (Nat.le_refl _), List.take_of_length_le (Nat.le_refl _)]
/-- A byte of an own row turned. -/
theorem Ow.setA {w : World} {base g n cap i y : Nat} {zs : List Nat} (h : Ow w base (.slice (some ⟨g, 0, none⟩) n cap) zs) (hn : zs.length = n) (hi : i < zs.length) (hy : y < 256) : Ow (w.setCell ⟨g, i, none⟩ (.int .u8 (y : Int))) base (.slice (some ⟨g, 0, none⟩) n cap) (zs.set i y) := by
  obtain ⟨g', cap', R, e, hge, hb, hR, hc, hm⟩ := h.opn (by omega)
  simp only [Value.slice.injEq, Option.some.injEq, Addr.mk.injEq, and_true] at e
  obtain ⟨rfl, e2, rfl⟩ := e
  have h2 := hb.set i (.int .u8 (y : Int))
  rw [List.set_append_left _ _ (by simp [u8s]; exact hi), u8s_set] at h2
  have h3 := Ow.shu (base := base) (cap := cap) h2 hge (by
    intro z hz
    rcases List.mem_or_eq_of_mem_set hz with h4 | h4
    · exact h.lt z h4
    · rw [h4]; exact hy) (by rw [List.length_set]; exact h.len) (by rw [List.length_set]; exact hR) (by rw [List.length_set]; exact hc) hm
  rw [List.length_set, hn] at h3
  exact h3
theorem u8_next : ∀ z : Nat, z < 256 → IntKind.u8.wrap ((z : Int) + 1) = (((z + 1) % 256 : Nat) : Int) := by decide +kernel
theorem exec_slc {w : World} {o : Oper} {ρ : Operand → Value} {T : TypeId} {x : Operand} {lo hi : Option Operand} (ho : o.op = .slice T x lo hi none) {v r : Value} {l h : Option Value} (hx : ρ x = v) (hl : lo.map ρ = l) (hh : hi.map ρ = h) (hr : (Instr.sliceAt T v l h none).run Try.prog w = .ok r w) : (execOp ρ o).run Try.prog w = .ok (.value r) w := by
  unfold execOp
  simp only [ho, Option.map_none, hx, hl, hh]
  simp only [Sem.run_bind, hr, Result.andThen_ok, Sem.run_pure]
theorem addr_add (b o c : Nat) : (⟨b, o, none⟩ : Addr).add c = ⟨b, o + c, none⟩ := by
  by_cases hz : c = 0
  · subst hz; simp [Addr.add]
  · simp [Addr.add]; exact fun h => absurd h hz
theorem Bs.own {w : World} {v : Value} {xs : List Nat} (h : Bs w v xs) (h0 : 0 < xs.length) {g : Nat} (hg : w.heap.size ≤ g) : v.ownBlock ≠ some g := by
  obtain ⟨_, _, ⟨rfl, _⟩ | ⟨_, b, off, cap, rfl, _, hb, _⟩⟩ := h
  · simp at h0
  · intro e
    have e' : some b = some g := e
    have := Option.some.inj e'
    omega
theorem Bs.bf {w : World} {v : Value} {xs : List Nat} (h : Bs w v xs) : Bf w (· < w.heap.size) v xs := ⟨h, fun h0 j hj => by
  rcases Nat.lt_or_ge j w.heap.size with e | e
  · exact e
  · exact absurd hj (h.own h0 e)⟩
theorem grow_cell {w w' : World} (h : Grow w w') {b i : Nat} {u : Value} (hc : w.cell? ⟨b, i, none⟩ = some u) : w'.cell? ⟨b, i, none⟩ = some u := by
  rcases Nat.lt_or_ge b w.heap.size with hb | hb
  · exact (World.cell?_of_block (h.block b hb (fun h => h))).trans hc
  · exfalso
    have h1 : w.heap[b]? = none := by simpa using hb
    simp [World.cell?, h1] at hc
theorem Blk.cells0 {w : World} {g : Nat} {T : TypeId} {L : List Value} (h : Blk w g T L) : ∀ j v, L[j]? = some v → w.cell? ((⟨g, 0, none⟩ : Addr).add j) = some v := by
  intro j v hv
  have e : (⟨g, 0, none⟩ : Addr).add j = ⟨g, j, none⟩ := by simp [Addr.add]; exact fun h => h.symm
  rw [e, h.cell]; exact hv
end Go.Proofs.Ytlfppgdaoijklaa
