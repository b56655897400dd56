/- OwnOps, Ranges, IntKit, Ints, OwnRow, CutFrom, NumsMore, MapOf, PlMath, JnMath, PlLeaf, PlOf, PlParent, PlClimb, PlPath, PlNeed, PickAny, Classes, Guards, PlAwake, PsRow, JoinRow, NbRow, JnHeads, JnCut, JnHead, GhJoin, JnRead, SameGrow, SameAll, JnEq, JnOpen, AppBs. -/
import Derived.Test.YtmlladpmecclbaaAllA
import Derived.Maps.AppendAt
import Derived.ProofKit
import Derived.OpenShut
import Derived.ChangeOld
import Derived.Below
import Derived.Deep.Cut
import Derived.Laws.MakeOwn
import Derived.Shelf.Bytes.SlJoin
/- General: own rows, tags of blocks, single operations. -/
namespace Go.Proofs.Ytmlladpmecclbaa
open Go.RowKit

theorem ownsRow_but {R : Nat → Prop} {w w' : World} {base e s n : Nat} {v : Value} {xs : List Value} (h : w.ownsRow base e s v n xs) (k : But R w w') (hr : ∀ j, v.ownBlock = some j → ¬ R j) : w'.ownsRow base e s v n xs := by
  obtain ⟨h1, h2 | ⟨g, cap, cur, rfl, hg, hh, r⟩⟩ := h
  · exact ⟨h1, .inl h2⟩
  · exact ⟨h1, .inr ⟨g, cap, cur, rfl, hg, (k.block g (lt_of_block hh) (hr g rfl)).trans hh, r⟩⟩
/-- An own row whose block lies in Fr. -/
structure RowOf (w : World) (Fr : Nat → Prop) (e s : Nat) (v : Value) (n : Nat) (xs : List Value) : Prop where
  own : w.ownsRow 0 e s v n xs
  inF : ∀ k, v.ownBlock = some k → Fr k
theorem RowOf.but {R Fr Fr' : Nat → Prop} {w w' : World} {e s n : Nat} {v : Value} {xs : List Value} (h : RowOf w Fr e s v n xs) (k : But R w w') (hr : ∀ j, Fr j → ¬ R j) (hf : ∀ j, Fr j → Fr' j) : RowOf w' Fr' e s v n xs :=
  ⟨ownsRow_but h.own k (fun j hj => hr j (h.inF j hj)), fun j hj => hf j (h.inF j hj)⟩
theorem RowOf.nil (w : World) (Fr : Nat → Prop) (e s : Nat) : RowOf w Fr e s (.slice none 0 0) 0 [] := ⟨World.ownsRow_nil _ _ _ _, fun k hk => by cases hk⟩
theorem RowOf.shape {w : World} {Fr : Nat → Prop} {e s n : Nat} {v : Value} {xs : List Value} (h : RowOf w Fr e s v n xs) : ∃ ao cap, v = .slice ao n cap ∧ (0 < n → ∃ g, ao = some ⟨g, 0, none⟩ ∧ Fr g ∧ g < w.heap.size ∧ ∀ j u, xs[j]? = some u → w.cell? ⟨g, j, none⟩ = some u) := by
  have hc := h.own
  obtain ⟨⟨h1, ⟨rfl, rfl⟩ | ⟨g, cap, cur, rfl, hg, hh, r⟩⟩, hF⟩ := h
  · exact ⟨none, 0, rfl, fun h => absurd h (by omega)⟩
  · refine ⟨_, cap, rfl, fun _ => ⟨g, rfl, hF g rfl, lt_of_block hh, fun j u hj => ?_⟩⟩
    have := hc.cells (g := g) rfl j u hj
    have e : (⟨g, 0, none⟩ : Addr).add j = ⟨g, j, none⟩ := by simp [Addr.add]; exact fun h => h.symm
    rwa [e] at this

theorem flat_at {α : Type} {f : α → List Value} {s : Nat} : ∀ (L : List α), (∀ e ∈ L, (f e).length = s) → ∀ i e c u, L[i]? = some e → (f e)[c]? = some u → (L.flatMap f)[i * s + c]? = some u
  | [], _, i, e, c, u, h, _ => by simp at h
  | x :: L, hl, i, e, c, u, h, hu => by
    rw [List.flatMap_cons]
    cases i with
    | zero =>
      obtain rfl : x = e := by simpa using h
      rw [Nat.zero_mul, Nat.zero_add, List.getElem?_append_left (List.getElem?_eq_some_iff.1 hu).1]
      exact hu
    | succ i =>
      have hx := hl x List.mem_cons_self
      rw [List.getElem?_append_right (by rw [hx, Nat.succ_mul]; omega), hx]
      have e2 : (i + 1) * s + c - s = i * s + c := by rw [Nat.succ_mul]; omega
      rw [e2]
      exact flat_at L (fun e he => hl e (List.mem_cons_of_mem _ he)) i e c u (by simpa using h) hu
theorem flat_len {α : Type} {f : α → List Value} {s : Nat} : ∀ (L : List α), (∀ e ∈ L, (f e).length = s) → (L.flatMap f).length = L.length * s
  | [], _ => by simp
  | x :: L, hl => by
    rw [List.flatMap_cons, List.length_append, hl x List.mem_cons_self, flat_len L (fun e he => hl e (List.mem_cons_of_mem _ he)), List.length_cons, Nat.succ_mul]; omega

/-- Whose a block is. -/
inductive Tag where
  | none | dev | sto | wri | map | imr | pic | log | inm | byt | cla | sem | twi | blo | str
  | row (b : Nat)
  | use (e : Nat) (n : List Nat)
  deriving DecidableEq
abbrev Owner := Nat → Tag
def Is (own : Owner) (t : Tag) : Nat → Prop := fun b => own b = t
def tagAt (own : Owner) (g : Nat) (t : Tag) : Owner := fun b => if b = g then t else own b
def Ext (own own' : Owner) : Prop := ∀ b, own b ≠ .none → own' b = own b
theorem Ext.refl (own : Owner) : Ext own own := fun _ _ => rfl
theorem Ext.trans {a b c : Owner} (h : Ext a b) (k : Ext b c) : Ext a c := fun i hi => (k i (by rw [h i hi]; exact hi)).trans (h i hi)
theorem Ext.is {own own' : Owner} (h : Ext own own') {t : Tag} (ht : t ≠ .none) : ∀ b, Is own t b → Is own' t b := fun b hb => (h b (by rw [hb]; exact ht)).trans hb
theorem Ext.tagAt {own : Owner} {g : Nat} {t : Tag} (h : own g = .none ∨ own g = t) : Ext own (tagAt own g t) := fun b hb => by
  unfold Go.Proofs.Ytmlladpmecclbaa.tagAt
  split
  · rename_i e
    subst e
    rcases h with h | h
    · exact absurd h hb
    · exact h.symm
  · rfl
def tagV (own : Owner) (v : Value) (t : Tag) : Owner := match v.ownBlock with | some k => tagAt own k t | none => own
theorem Ext.tagV {own : Owner} {v : Value} {t : Tag} (h : ∀ k, v.ownBlock = some k → own k = .none ∨ own k = t) : Ext own (tagV own v t) := by
  unfold Go.Proofs.Ytmlladpmecclbaa.tagV
  cases hv : v.ownBlock with
  | none => exact Ext.refl _
  | some k => exact Ext.tagAt (h k hv)
theorem tagV_own {own : Owner} {v : Value} {t : Tag} {k : Nat} (h : v.ownBlock = some k) : tagV own v t k = t := by
  unfold tagV; rw [h]; simp [tagAt]
theorem tagAt_own {own : Owner} {g : Nat} {t : Tag} : tagAt own g t g = t := by simp [tagAt]
/-- Only what is new has a new tag. -/
def Fresh (w : World) (own own' : Owner) : Prop := ∀ b, own' b ≠ own b → w.heap.size ≤ b
theorem Fresh.refl (w : World) (own : Owner) : Fresh w own own := fun _ h => absurd rfl h
theorem Fresh.tagAt {w : World} {own own' : Owner} {g : Nat} {t : Tag} (h : Fresh w own own') (hg : w.heap.size ≤ g ∨ own g = t) : Fresh w own (tagAt own' g t) := fun b hb => by
  unfold Go.Proofs.Ytmlladpmecclbaa.tagAt at hb
  split at hb
  · rename_i e
    subst e
    rcases hg with hg | hg
    · exact hg
    · exact absurd hg.symm hb
  · exact h b hb
theorem Fresh.tagV {w : World} {own own' : Owner} {v : Value} {t : Tag} (h : Fresh w own own') (hg : ∀ k, v.ownBlock = some k → w.heap.size ≤ k ∨ own k = t) : Fresh w own (tagV own' v t) := by
  unfold Go.Proofs.Ytmlladpmecclbaa.tagV
  cases hv : v.ownBlock with
  | none => exact h
  | some k => exact h.tagAt (hg k hv)
def Top (w : World) (own : Owner) : Prop := ∀ b, w.heap.size ≤ b → own b = .none
theorem Top.grow {w w' : World} {own : Owner} (h : Top w own) (hs : w.heap.size ≤ w'.heap.size) : Top w' own := fun b hb => h b (Nat.le_trans hs hb)
theorem Top.lt {w : World} {own : Owner} (h : Top w own) {b : Nat} (hb : own b ≠ .none) : b < w.heap.size := by
  by_cases hl : b < w.heap.size
  · exact hl
  · exact absurd (h b (by omega)) hb
theorem Top.tagAt {w : World} {own : Owner} {g : Nat} {t : Tag} (h : Top w own) (hg : g < w.heap.size) : Top w (tagAt own g t) := fun b hb => by
  unfold Go.Proofs.Ytmlladpmecclbaa.tagAt
  rw [if_neg (by omega)]
  exact h b hb
theorem Top.tagV {w : World} {own : Owner} {v : Value} {t : Tag} (h : Top w own) (hg : ∀ k, v.ownBlock = some k → k < w.heap.size) : Top w (tagV own v t) := by
  unfold Go.Proofs.Ytmlladpmecclbaa.tagV
  cases hv : v.ownBlock with
  | none => exact h
  | some k => exact h.tagAt (hg k hv)

/-- Bytes whose memory lies in F. -/
def Bf (w : World) (F : Nat → Prop) (v : Value) (xs : List Nat) : Prop := Bs w v xs ∧ (0 < xs.length → ∀ j, v.ownBlock = some j → F j)
theorem Bf.but {F R : Nat → Prop} {w w' : World} {v : Value} {xs : List Nat} (h : Bf w F v xs) (k : But R w w') (hr : ∀ j, F j → ¬ R j) : Bf w' F v xs := by
  refine ⟨?_, h.2⟩
  by_cases h0 : 0 < xs.length
  · exact h.1.but k (fun j hj _ => hr j (h.2 h0 j hj))
  · obtain ⟨⟨h1, h2, h3 | h3⟩, _⟩ := h
    · exact ⟨h1, h2, .inl h3⟩
    · exact absurd h3.1 h0
theorem But.set1 (w : World) (g i : Nat) (u : Value) : But (· = g) w (w.setCell ⟨g, i, none⟩ u) :=
  But.setCell (R := (· = g)) (p := ⟨g, i, none⟩) (But.refl _ w) (fun _ => rfl) u
section
variable {P : Program} {w w' : World} {o : Oper} {ρ : Operand → Value}
theorem run_load_arr {T : TypeId} {n l : Nat} {e : TypeId} (hu : Try.prog.underlying T = some (.array l e)) (hi : (Try.prog.info? T).map (·.size) = some n) {x : Operand} {ad : Addr} {D : List Nat} (hc : ∀ j u, (u8s D)[j]? = some u → w.cell? (ad.add j) = some u) (hD : D.length = n)
    (ho : o.op = .load T x) (hx : ρ x = .pointer (some ad)) : (execOp ρ o).run Try.prog w = .ok (.value (.agg (u8s D).toArray)) w := by
  have h := run_loadVar_cells w ad T (u8s D) _ hc hu rfl (by rw [hi]; simp [u8s, hD])
  unfold execOp
  simp only [ho, hx, Instr.loadAt, Instr.sureAddr, Sem.run_bind, Sem.run_pure, Result.andThen_ok, h]
theorem exec_lookup {t : TypeId} {m x : Operand} {c : Bool} {vm key r : Value} (ho : o.op = .lookup t m x c) (hm : ρ m = vm) (hx : ρ x = key) (h : (Instr.lookup t vm key c).run P w = .ok r w) : (execOp ρ o).run P w = .ok (.value r) w := by
  simp [execOp, ho, hm, hx, h, Result.andThen]
theorem exec_mapUpdate {t : TypeId} {m x y : Operand} {vm key v : Value} (ho : o.op = .mapUpdate t m x y) (hm : ρ m = vm) (hx : ρ x = key) (hy : ρ y = v) (h : (Instr.mapUpdate t vm key v).run P w = .ok () w') : (execOp ρ o).run P w = .ok .skip w' := by
  simp [execOp, ho, hm, hx, hy, h, Result.andThen]
end
/-- What lies in an own row is appended to. -/
structure Appd (w w' : World) (e s : Nat) (v v' : Value) (n : Nat) (xs : List Value) : Prop where
  own : w'.ownsRow 0 e s v' n xs
  but : But (fun b => v.ownBlock = some b) w w'
  at' : v'.ownBlock = v.ownBlock ∨ v'.ownBlock = some w.heap.size
  lt : ∀ k, v'.ownBlock = some k → k < w'.heap.size
theorem exec_append {w : World} {o : Oper} {ρ : Operand → Value} {t e : TypeId} {s bytes : Nat} {z : Value} (ht : Try.prog.underlying t = some (.slice e)) (hinf : (Try.prog.info? e).map (fun i => (i.zero, i.size, i.bytes)) = some (some z, s, bytes)) (hzs : z.cells.size = s) (hs0 : 0 < s)
    {x y : Operand} (ho : o.op = .call { callee := .builtin .append, args := #[x, y], argTypes := #[t, t] }) {v : Value} {n : Nat} {xs : List Value} (hx : ρ x = v) (hv : w.ownsRow 0 e s v n xs)
    {ad : Addr} {m c : Nat} {news : List Value} (hy : ρ y = .slice (some ad) m c) (hl : news.length = m * s) (hc : ∀ j u, news[j]? = some u → w.cell? (ad.add j) = some u) (h1 : ∀ u ∈ news, u.oneCell' = true) (hn : n + m ≤ 1000000) (hb : bytes ≤ 1000) :
    ∃ v' w', (execOp ρ o).run Try.prog w = .ok (.value v') w' ∧ Appd w w' e s v v' (n + m) (xs ++ news) := by
  obtain ⟨i0, hi, hz0, hz1, hz2⟩ := info_parts hinf
  have hmul : (n + m) * bytes ≤ 1000000 * 1000 := Nat.mul_le_mul hn hb
  obtain ⟨v', w', hr, h2, h3, _, h5⟩ := run_append_own_at (P := Try.prog) w 0 t o.type e i0 z s bytes ht hi hz0 hz1 hz2 hzs hs0 v n xs hv ad m c news hl hc h1 (by unfold maxLen; omega) (by omega) (Nat.zero_le _)
  refine ⟨v', w', ?_, h2, ⟨h3.os, h3.tape, h3.output, h3.size, fun k hk hne => h3.block k hk (fun e => hne e.symm)⟩, h5, fun k hk => (h2.lt k hk).2⟩
  unfold execOp
  simp only [ho, resolve, invoke, builtin, Sem.run_bind, Sem.run_pure, Result.andThen_ok, List.map_toArray, List.map_cons, List.map_nil, hx, hy, hr]
theorem infS : (Try.prog.info? 37).map (fun i => (i.zero, i.size, i.bytes)) = some (some (.slice none 0 0), 1, 24) := by kernel_rfl
/-- A row of one, or of two, is made. -/
theorem exec_row1 {w : World} {o : Oper} {ρ : Operand → Value} {t e : TypeId} {s bytes : Nat} {z : Value} (ht : Try.prog.underlying t = some (.slice e)) (hinf : (Try.prog.info? e).map (fun i => (i.zero, i.size, i.bytes)) = some (some z, s, bytes)) (hs0 : 0 < s) (hs1 : s ≤ 1000)
    {x : Operand} (ho : o.op = .buildSlice t 1 #[(0, x)]) {v : Value} (hx : ρ x = v) (hv : v.cells.size = s) : (execOp ρ o).run Try.prog w = .ok (.value (.slice (some ⟨w.heap.size, 0, none⟩) 1 1)) (w.alloc (.cells v.cells e)) := by
  obtain ⟨i0, hi, hz0, hz1, _⟩ := info_parts hinf
  have h := run_rowlit w ht hi hz0 hz1 hs0 [v] (by simpa using hv) (by simp) (by simp; omega) #[(0, v)] rfl
  unfold execOp
  simp only [ho, List.map_toArray, List.map_cons, List.map_nil, hx]
  simp at h
  simp [h, Result.andThen]
theorem exec_row2 {w : World} {o : Oper} {ρ : Operand → Value} {t e : TypeId} {s bytes : Nat} {z : Value} (ht : Try.prog.underlying t = some (.slice e)) (hinf : (Try.prog.info? e).map (fun i => (i.zero, i.size, i.bytes)) = some (some z, s, bytes)) (hs0 : 0 < s) (hs1 : s ≤ 1000)
    {x y : Operand} (ho : o.op = .buildSlice t 2 #[(0, x), (1, y)]) {v u : Value} (hx : ρ x = v) (hy : ρ y = u) (hv : v.cells.size = s) (hu : u.cells.size = s) : (execOp ρ o).run Try.prog w = .ok (.value (.slice (some ⟨w.heap.size, 0, none⟩) 2 2)) (w.alloc (.cells (v.cells.toList ++ u.cells.toList).toArray e)) := by
  obtain ⟨i0, hi, hz0, hz1, _⟩ := info_parts hinf
  have hvu : ∀ x ∈ [v, u], x.cells.size = s := by
    intro x hx
    rcases List.mem_cons.1 hx with h | h
    · rw [h]; exact hv
    · rw [show x = u by simpa using h]; exact hu
  have h := run_rowlit w ht hi hz0 hz1 hs0 [v, u] hvu (by simp) (by simp; omega) #[(0, v), (1, u)] rfl
  have hfl : ([v, u].flatMap fun v => v.cells.toList) = v.cells.toList ++ u.cells.toList := by simp
  rw [hfl] at h
  unfold execOp
  simp only [ho, List.map_toArray, List.map_cons, List.map_nil, hx, hy]
  have h' : (Instr.buildSlice t 2 #[(0, v), (1, u)]).run Try.prog w = .ok (.slice (some ⟨w.heap.size, 0, none⟩) 2 2) (w.alloc (.cells (v.cells.toList ++ u.cells.toList).toArray e)) := h
  simp only [Sem.run_bind, h', Result.andThen_ok, Sem.run_pure]
/-- A cell of a block is stored into. -/
theorem exec_store {w : World} {o : Oper} {ρ : Operand → Value} {t T : TypeId} (hsz : (Try.prog.info? t).map (·.size) = some 1) {x y : Operand} (ho : o.op = .store t x y) {g i : Nat} {v : Value} {L : List Value} (hx : ρ x = .pointer (some ⟨g, i, none⟩)) (hy : ρ y = v) (hv : v.oneCell' = true) (hb : Blk w g T L) (hi : i < L.length) :
    (execOp ρ o).run Try.prog w = .ok .skip (w.setCell ⟨g, i, none⟩ v) := by
  have hc : w.cell? ⟨g, i, none⟩ = some L[i] := by rw [hb.cell, List.getElem?_eq_getElem hi]
  have hf := hb.free i
  have hcs : v.cells = #[v] := by cases v <;> first | rfl | cases hv
  have ea : (⟨g, i, none⟩ : Addr).add 0 = ⟨g, i, none⟩ := by simp [Addr.add]
  have hst : (store ⟨g, i, none⟩ v).run Try.prog w = .ok () (w.setCell ⟨g, i, none⟩ v) := by
    rw [run_store Try.prog w _ v _ hv, hc, hf]
    simp
  cases hq : Try.prog.info? t with
  | none => simp [hq] at hsz
  | some ti =>
    have hs : ti.size = 1 := by simpa [hq] using hsz
    unfold execOp
    simp [ho, hx, hy, Instr.storeAt, Instr.sureAddr, storeVar, sizeOf, typeInfo, hq, hs, hcs, storeCells, ea, hst, Result.andThen]
/-- A row that was made of literals. -/
theorem RowOf.lit {w : World} {Fr : Nat → Prop} {e s n g : Nat} {L : List Value} (hb : Blk w g e L) (hl : L.length = n * s) (hn : n ≤ 1000) (hF : Fr g) : RowOf w Fr e s (.slice (some ⟨g, 0, none⟩) n n) n L :=
  ⟨⟨hl, .inr ⟨g, n, L.toArray, rfl, Nat.zero_le _, hb, Nat.le_refl _, by unfold maxLen; omega, by simpa using hl, by simp [← hl]⟩⟩, fun k hk => by cases hk; exact hF⟩
section
variable {w : World} {o : Oper} {ρ : Operand → Value} {K' : Value → World → Prop}
/-- The like as turns of a chain. -/
theorem turn_append {t e : TypeId} {s bytes : Nat} {z : Value} (ht : Try.prog.underlying t = some (.slice e)) (hinf : (Try.prog.info? e).map (fun i => (i.zero, i.size, i.bytes)) = some (some z, s, bytes)) (hzs : z.cells.size = s) (hs0 : 0 < s)
    {x y : Operand} (ho : o.op = .call { callee := .builtin .append, args := #[x, y], argTypes := #[t, t] }) {v : Value} {n : Nat} {xs : List Value} (hx : ρ x = v) (hv : w.ownsRow 0 e s v n xs)
    {ad : Addr} {m c : Nat} {news : List Value} (hy : ρ y = .slice (some ad) m c) (hl : news.length = m * s) (hc : ∀ j u, news[j]? = some u → w.cell? (ad.add j) = some u) (h1 : ∀ u ∈ news, u.oneCell' = true) (hn : n + m ≤ 1000000) (hb : bytes ≤ 1000)
    (hk : ∀ v' w', Appd w w' e s v v' (n + m) (xs ++ news) → K' v' w') : ∃ v' w', ((execOp ρ o).run Try.prog w = .ok (.value v') w' ∨ ((execOp ρ o).run Try.prog w = .ok .skip w' ∧ v' = undef)) ∧ K' v' w' := by
  obtain ⟨v', w', hr, ha⟩ := exec_append ht hinf hzs hs0 ho hx hv hy hl hc h1 hn hb
  exact ⟨v', w', .inl hr, hk v' w' ha⟩
theorem turn_row1 {t e : TypeId} {s bytes : Nat} {z : Value} (ht : Try.prog.underlying t = some (.slice e)) (hinf : (Try.prog.info? e).map (fun i => (i.zero, i.size, i.bytes)) = some (some z, s, bytes)) (hs0 : 0 < s) (hs1 : s ≤ 1000)
    {x : Operand} (ho : o.op = .buildSlice t 1 #[(0, x)]) {v : Value} (hx : ρ x = v) (hv : v.cells.size = s) (hk : K' (.slice (some ⟨w.heap.size, 0, none⟩) 1 1) (w.alloc (.cells v.cells e))) :
    ∃ v' w', ((execOp ρ o).run Try.prog w = .ok (.value v') w' ∨ ((execOp ρ o).run Try.prog w = .ok .skip w' ∧ v' = undef)) ∧ K' v' w' :=
  ⟨_, _, .inl (exec_row1 ht hinf hs0 hs1 ho hx hv), hk⟩
theorem turn_row2 {t e : TypeId} {s bytes : Nat} {z : Value} (ht : Try.prog.underlying t = some (.slice e)) (hinf : (Try.prog.info? e).map (fun i => (i.zero, i.size, i.bytes)) = some (some z, s, bytes)) (hs0 : 0 < s) (hs1 : s ≤ 1000)
    {x y : Operand} (ho : o.op = .buildSlice t 2 #[(0, x), (1, y)]) {v u : Value} (hx : ρ x = v) (hy : ρ y = u) (hv : v.cells.size = s) (hu : u.cells.size = s) (hk : K' (.slice (some ⟨w.heap.size, 0, none⟩) 2 2) (w.alloc (.cells (v.cells.toList ++ u.cells.toList).toArray e))) :
    ∃ v' w', ((execOp ρ o).run Try.prog w = .ok (.value v') w' ∨ ((execOp ρ o).run Try.prog w = .ok .skip w' ∧ v' = undef)) ∧ K' v' w' :=
  ⟨_, _, .inl (exec_row2 ht hinf hs0 hs1 ho hx hy hv hu), hk⟩
theorem turn_store {t T : TypeId} (hsz : (Try.prog.info? t).map (·.size) = some 1) {x y : Operand} (ho : o.op = .store t x y) {g i : Nat} {v : Value} {L : List Value} (hx : ρ x = .pointer (some ⟨g, i, none⟩)) (hy : ρ y = v) (hv : v.oneCell' = true) (hb : Blk w g T L) (hi : i < L.length) (hk : K' undef (w.setCell ⟨g, i, none⟩ v)) :
    ∃ v' w', ((execOp ρ o).run Try.prog w = .ok (.value v') w' ∨ ((execOp ρ o).run Try.prog w = .ok .skip w' ∧ v' = undef)) ∧ K' v' w' :=
  ⟨undef, _, .inr ⟨exec_store hsz ho hx hy hv hb hi, rfl⟩, hk⟩
theorem turn_put {t : TypeId} {m x y : Operand} {vm key v : Value} {w' : World} (ho : o.op = .mapUpdate t m x y) (hm : ρ m = vm) (hx : ρ x = key) (hy : ρ y = v) (h : (Instr.mapUpdate t vm key v).run Try.prog w = .ok () w') (hk : K' undef w') :
    ∃ v' w', ((execOp ρ o).run Try.prog w = .ok (.value v') w' ∨ ((execOp ρ o).run Try.prog w = .ok .skip w' ∧ v' = undef)) ∧ K' v' w' :=
  ⟨undef, _, .inr ⟨exec_mapUpdate ho hm hx hy h, rfl⟩, hk⟩
end
theorem ownsRow_one {w : World} {base e s n : Nat} {v : Value} {xs : List Value} (h : w.ownsRow base e s v n xs) : v.oneCell' = true := by
  obtain ⟨_, ⟨rfl, _⟩ | ⟨g, cap, cur, rfl, _⟩⟩ := h <;> rfl
theorem Bs.cs {w : World} {v : Value} {xs : List Nat} (h : Bs w v xs) : v.cells = #[v] := by
  obtain ⟨ao, cap, rfl, _⟩ := h.gen
  rfl
theorem ownsRow_grow {w w' : World} {base e s n : Nat} {v : Value} {xs : List Value} (h : w.ownsRow base e s v n xs) (k : Grow w w') : w'.ownsRow base e s v n xs := ownsRow_but h k (fun _ _ h => h)
/-- A build, by what it runs to. -/
theorem wpList_build_run {ops : Array Oper} {rest : List Oper} {o : Oper} {a : Act} {w : World} {Q : Exit → Act → World → Prop} (hgd : o.guard = none) (t : TypeId) (parts : List (Nat × Operand)) (ho : o.op = .build t parts.toArray) (ps : List (Nat × Value)) (hp : (parts.map fun x => (x.1, a.eval x.2)) = ps) (v : Value) (hr : (Instr.build t ps.toArray).run Try.prog w = .ok v w)
    (h : wpList Try.prog ops Q rest (a.put o.dst v) w) : wpList Try.prog ops Q (o :: rest) a w :=
  wpList_plain hgd fun _ hK => by
    unfold Oper.wp execOp
    simp only [ho, List.map_toArray]
    rw [hp]
    simp only [Sem.run_bind, hr, Result.andThen_ok, Sem.run_pure]
    exact hK _ _ h
theorem exec_build {w : World} {o : Oper} {ρ : Operand → Value} (t : TypeId) (parts : List (Nat × Operand)) (ho : o.op = .build t parts.toArray) (ps : List (Nat × Value)) (hp : (parts.map fun x => (x.1, ρ x.2)) = ps) (v : Value) (hr : (Instr.build t ps.toArray).run Try.prog w = .ok v w) : (execOp ρ o).run Try.prog w = .ok (.value v) w := by
  unfold execOp
  simp only [ho, List.map_toArray]
  rw [hp]
  simp only [Sem.run_bind, hr, Result.andThen_ok, Sem.run_pure]
theorem Bs.one {w : World} {v : Value} {xs : List Nat} (h : Bs w v xs) : v.oneCell' = true := by
  obtain ⟨ao, cap, rfl, _⟩ := h.gen
  rfl
theorem Bs.sl {w : World} {v : Value} {xs : List Nat} (h : Bs w v xs) : ∃ ao n cap, v = .slice ao n cap := by
  obtain ⟨ao, cap, rfl, _⟩ := h.gen
  exact ⟨_, _, _, rfl⟩
/-- An own row laid open, and shut. -/
theorem Ow.opn {w : World} {base : Nat} {v : Value} {zs : List Nat} (h : Ow w base v zs) (h0 : 0 < zs.length) :
    ∃ g cap R, v = .slice (some ⟨g, 0, none⟩) zs.length cap ∧ base ≤ g ∧ Blk w g 5 (u8s zs ++ R) ∧ R.length = cap - zs.length ∧ zs.length ≤ cap ∧ cap ≤ maxLen := by
  obtain ⟨hl, ⟨_, h1⟩ | ⟨g, cap, cur, rfl, hge, hb, h1, h2, h3, h4⟩⟩ := h.own
  · omega
  · refine ⟨g, cap, cur.toList.drop zs.length, rfl, hge, ?_, by rw [List.length_drop, Array.length_toList, h3, Nat.mul_one], h1, h2⟩
    rw [Nat.mul_one] at h4
    have e : u8s zs ++ cur.toList.drop zs.length = cur.toList := by rw [← h4, List.take_append_drop]
    show w.heap[g]? = some (.cells (u8s zs ++ cur.toList.drop zs.length).toArray _ _)
    rw [e, hb]
theorem Ow.shu {w : World} {base g cap : Nat} {zs : List Nat} {R : List Value} (hb : Blk w g 5 (u8s zs ++ R)) (hg : base ≤ g) (hz : ∀ z ∈ zs, z < 256) (hl : zs.length ≤ 281474976710656) (hR : R.length = cap - zs.length) (hc : zs.length ≤ cap) (hm : cap ≤ maxLen) :
    Ow w base (.slice (some ⟨g, 0, none⟩) zs.length cap) zs := by
  refine ⟨hz, hl, by simp [u8s], .inr ⟨g, cap, (u8s zs ++ R).toArray, rfl, hg, hb, hc, hm, ?_, ?_⟩⟩
  · rw [List.size_toArray, List.length_append, hR]; unfold u8s; rw [List.length_map]; omega
  · rw [Nat.mul_one]
    show (u8s zs ++ R).take zs.length = u8s zs
    have hs : (u8s zs).length = zs.length := by simp [u8s]
    rw [← hs, List.take_append_of_le_length (Nat.le_refl _), List.take_of_length_le (Nat.le_refl _)]
/-- A byte of an own row turned. -/
theorem Ow.setA {w : World} {base g n cap i y : Nat} {zs : List Nat} (h : Ow w base (.slice (some ⟨g, 0, none⟩) n cap) zs) (hn : zs.length = n) (hi : i < zs.length) (hy : y < 256) : Ow (w.setCell ⟨g, i, none⟩ (.int .u8 (y : Int))) base (.slice (some ⟨g, 0, none⟩) n cap) (zs.set i y) := by
  obtain ⟨g', cap', R, e, hge, hb, hR, hc, hm⟩ := h.opn (by omega)
  simp only [Value.slice.injEq, Option.some.injEq, Addr.mk.injEq, and_true] at e
  obtain ⟨rfl, e2, rfl⟩ := e
  have h2 := hb.set i (.int .u8 (y : Int))
  rw [List.set_append_left _ _ (by simp [u8s]; exact hi), u8s_set] at h2
  have h3 := Ow.shu (base := base) (cap := cap) h2 hge (by
    intro z hz
    rcases List.mem_or_eq_of_mem_set hz with h4 | h4
    · exact h.lt z h4
    · rw [h4]; exact hy) (by rw [List.length_set]; exact h.len) (by rw [List.length_set]; exact hR) (by rw [List.length_set]; exact hc) hm
  rw [List.length_set, hn] at h3
  exact h3
theorem u8_next : ∀ z : Nat, z < 256 → IntKind.u8.wrap ((z : Int) + 1) = (((z + 1) % 256 : Nat) : Int) := by decide +kernel
theorem exec_slc {w : World} {o : Oper} {ρ : Operand → Value} {T : TypeId} {x : Operand} {lo hi : Option Operand} (ho : o.op = .slice T x lo hi none) {v r : Value} {l h : Option Value} (hx : ρ x = v) (hl : lo.map ρ = l) (hh : hi.map ρ = h) (hr : (Instr.sliceAt T v l h none).run Try.prog w = .ok r w) : (execOp ρ o).run Try.prog w = .ok (.value r) w := by
  unfold execOp
  simp only [ho, Option.map_none, hx, hl, hh]
  simp only [Sem.run_bind, hr, Result.andThen_ok, Sem.run_pure]
theorem addr_add (b o c : Nat) : (⟨b, o, none⟩ : Addr).add c = ⟨b, o + c, none⟩ := by
  by_cases hz : c = 0
  · subst hz; simp [Addr.add]
  · simp [Addr.add]; exact fun h => absurd h hz
theorem Bs.own {w : World} {v : Value} {xs : List Nat} (h : Bs w v xs) (h0 : 0 < xs.length) {g : Nat} (hg : w.heap.size ≤ g) : v.ownBlock ≠ some g := by
  obtain ⟨_, _, ⟨rfl, _⟩ | ⟨_, b, off, cap, rfl, _, hb, _⟩⟩ := h
  · simp at h0
  · intro e
    have e' : some b = some g := e
    have := Option.some.inj e'
    omega
theorem Bs.bf {w : World} {v : Value} {xs : List Nat} (h : Bs w v xs) : Bf w (· < w.heap.size) v xs := ⟨h, fun h0 j hj => by
  rcases Nat.lt_or_ge j w.heap.size with e | e
  · exact e
  · exact absurd hj (h.own h0 e)⟩
theorem grow_cell {w w' : World} (h : Grow w w') {b i : Nat} {u : Value} (hc : w.cell? ⟨b, i, none⟩ = some u) : w'.cell? ⟨b, i, none⟩ = some u := by
  rcases Nat.lt_or_ge b w.heap.size with hb | hb
  · exact (World.cell?_of_block (h.block b hb (fun h => h))).trans hc
  · exfalso
    have h1 : w.heap[b]? = none := by simpa using hb
    simp [World.cell?, h1] at hc
theorem Blk.cells0 {w : World} {g : Nat} {T : TypeId} {L : List Value} (h : Blk w g T L) : ∀ j v, L[j]? = some v → w.cell? ((⟨g, 0, none⟩ : Addr).add j) = some v := by
  intro j v hv
  have e : (⟨g, 0, none⟩ : Addr).add j = ⟨g, j, none⟩ := by simp [Addr.add]; exact fun h => h.symm
  rw [e, h.cell]; exact hv
end Go.Proofs.Ytmlladpmecclbaa
/- Operations on maps, one by one; a key is taken out while the map is ranged over. -/
namespace Go.Proofs.Ytmlladpmecclbaa
open Go.RowKit Go.ChangeMaps Go.WideMaps Go.MapKept Go.Maps

section
variable {w w' : World} {o : Oper} {ρ : Operand → Value}
theorem exec_range {t : TypeId} {x : Operand} {u r : Value} (ho : o.op = .range t x) (hx : ρ x = u) (h : (Instr.range t u).run Try.prog w = .ok r w') : (execOp ρ o).run Try.prog w = .ok (.value r) w' := by
  unfold execOp
  simp only [ho, hx, Sem.run_bind, h, Result.andThen_ok, Sem.run_pure]
theorem exec_next {x : Operand} {u r : Value} {ty : TypeId} (ho : o.op = .next x false) (hx : ρ x = u) (hty : o.type = ty) (h : (Instr.next u false ty).run Try.prog w = .ok r w') : (execOp ρ o).run Try.prog w = .ok (.value r) w' := by
  unfold execOp
  simp only [ho, hx, hty, Sem.run_bind, h, Result.andThen_ok, Sem.run_pure]
theorem exec_entry {x : Operand} {u r : Value} (ho : o.op = .entry x) (hx : ρ x = u) (h : (Instr.entry u).run Try.prog w = .ok r w') : (execOp ρ o).run Try.prog w = .ok (.value r) w' := by
  unfold execOp
  simp only [ho, hx, Sem.run_bind, h, Result.andThen_ok, Sem.run_pure]
theorem exec_clear {t : TypeId} {x : Operand} {u r : Value} (ho : o.op = .call { callee := .builtin .clear, args := #[x], argTypes := #[t] }) (hx : ρ x = u) (h : (Builtin.clear_ #[t] o.type #[u]).run Try.prog w = .ok r w') : (execOp ρ o).run Try.prog w = .ok (.value r) w' := by
  unfold execOp
  simp only [ho, resolve, invoke, builtin, Sem.run_bind, Sem.run_pure, Result.andThen_ok, List.map_toArray, List.map_cons, List.map_nil, hx, h]
theorem exec_delete {t k : TypeId} {x y : Operand} {u v r : Value} (ho : o.op = .call { callee := .builtin .delete, args := #[x, y], argTypes := #[t, k] }) (hx : ρ x = u) (hy : ρ y = v) (h : (Builtin.delete_ #[t, k] o.type #[u, v]).run Try.prog w = .ok r w') : (execOp ρ o).run Try.prog w = .ok (.value r) w' := by
  unfold execOp
  simp only [ho, resolve, invoke, builtin, Sem.run_bind, Sem.run_pure, Result.andThen_ok, List.map_toArray, List.map_cons, List.map_nil, hx, hy, h]
end
/-- The act of a goal brought down. -/
theorem act_down {P : Program} {c : Code} {Q : Exit → Act → World → Prop} {a : Act} {w : World} (h : ∀ K : Act → Prop, (∀ a, Code.wp P c Q a w → K a) → K a) : Code.wp P c Q a w := h _ (fun _ h => h)
/-- How many an iterator has left. -/
def leftN (w : World) (r b : Nat) : Nat := match w.heap[r]?, w.heap[b]? with
  | some (.mapIter _ _ seen _), some (.map es _) => (leftOf es seen).size
  | _, _ => 0
theorem Rg.left {w : World} {r b : Nat} {M L : List (Value × Value)} (h : Rg w r b M L) : leftN w r b = L.length := by
  obtain ⟨es, clock, seen, c0, h1, -, h2, -, -, -, rfl⟩ := h.ex
  unfold leftN
  rw [h1, h2]
  simp
section
variable {P : Program} {w w' : World} {b r : Nat} {M L : List (Value × Value)} {t kt et : TypeId}
theorem Mq.len (ht : P.underlying t = some (.map kt et)) (h : Mq P kt w b M) (ty : TypeId) : (Builtin.len_ #[t] ty #[.map (some b)]).run P w = .ok (.int .i64 (M.length : Int)) w := by
  obtain ⟨⟨es, clock, hb, rfl, -⟩, -⟩ := h
  simp [Builtin.len_, run_underlying ht, MapKept.run_getObj_map hb, goInt, Result.andThen]
theorem exec_lenM {o : Oper} {ρ : Operand → Value} {x : Operand} {u r : Value} (ho : o.op = .call { callee := .builtin .len, args := #[x], argTypes := #[t] }) (hx : ρ x = u) (h : (Builtin.len_ #[t] o.type #[u]).run P w = .ok r w) : (execOp ρ o).run P w = .ok (.value r) w := by
  unfold execOp
  simp only [ho, resolve, invoke, builtin, Sem.run_bind, Sem.run_pure, Result.andThen_ok, List.map_toArray, List.map_cons, List.map_nil, hx, h]
/-- An entry that was handed out is taken out: what is left stays. -/
theorem Rg.del (K : Keyed P kt) (ht : P.underlying t = some (.map kt et)) (h : Mq P kt w b M) (hr : Rg w r b M L) {key v : Value} {l : Lit} (hkey : keyOf P kt key = some l) (hin : (key, v) ∈ M) (hout : ∀ u, (key, u) ∉ L) (ty : TypeId) :
    ∃ w' M', (Builtin.delete_ #[t, kt] ty #[.map (some b), key]).run P w = .ok (.tuple #[]) w' ∧ Mq P kt w' b M' ∧ Rg w' r b M' L ∧ But (· = b) w w' ∧ w'.heap.size = w.heap.size ∧ ∀ k u, (k, u) ∈ M' ↔ (k, u) ∈ M ∧ k ≠ key := by
  obtain ⟨w', M', hrun, hM, hbut, hsz, hmem⟩ := h.del (t := t) (et := et) K ht hkey ty
  refine ⟨w', M', hrun, hM, ?_, hbut, hsz, hmem⟩
  have hne := hr.ne
  have hlt := hr.lt
  obtain ⟨es, clock, seen, c0, h1, h2, h3, hMe, h4, h5, h6⟩ := hr.ex
  have hk := h.key
  have hks : ∀ e ∈ es.toList, ∃ l, keyOf P kt e.key = some l := fun e he => hk (e.key, e.val) (by rw [← hMe]; exact List.mem_map.2 ⟨e, he, rfl⟩)
  rcases K.find w hkey es.toList hks with ⟨g1, g2⟩ | ⟨j, e0, g1, g2, g3⟩
  · rw [← hMe] at hin
    obtain ⟨e, he, e2⟩ := List.mem_map.1 hin
    exact absurd (Prod.mk.inj e2).1 (g2 e he)
  have hjs : j < es.size := by
    have := (List.getElem?_eq_some_iff.1 g2).1
    simpa using this
  have hsub : (es.eraseIdxIfInBounds j).toList = es.toList.eraseIdx j := by
    unfold Array.eraseIdxIfInBounds
    rw [dif_pos hjs]
    simp
  have hrun2 : (Builtin.delete_ #[t, kt] ty #[.map (some b), key]).run P w = .ok (.tuple #[]) (setBlock w b (.map (es.eraseIdxIfInBounds j) clock)) := by
    simp [Builtin.delete_, run_underlying ht, MapKept.run_getObj_map h3, K.check w _ hkey, g1, MapKept.run_setObj_map _ h3, Result.andThen, setBlock]
  rw [hrun] at hrun2
  have hw' : w' = setBlock w b (.map (es.eraseIdxIfInBounds j) clock) := by
    simp only [Result.ok.injEq, true_and] at hrun2
    exact hrun2
  have hb' : w'.heap[b]? = some (.map (es.eraseIdxIfInBounds j) clock) := by rw [hw']; exact (setB h3 _ _).1
  have hr' : w'.heap[r]? = some (.mapIter (some b) clock seen c0) := (hbut.block r hlt.1 hne).trans h1
  obtain ⟨es2, clock2, hb2, hM2, -⟩ := hM.blk
  rw [hb'] at hb2
  simp only [Option.some.injEq, Obj.map.injEq] at hb2
  obtain ⟨rfl, -⟩ := hb2
  have hsl : (es.toList.eraseIdx j).Sublist es.toList := List.eraseIdx_sublist _ _
  refine ⟨_, clock, seen, c0, hr', h2, hb', hM2, fun x hx => ?_, ?_, ?_⟩
  · rw [hsub] at hx; exact h4 x (hsl.subset hx)
  · rw [hsub]; exact h5.sublist (hsl.map _)
  · rw [← h6]
    congr 1
    unfold leftOf
    rw [Array.toList_filter, Array.toList_filter, hsub]
    have hseen : seen.contains e0.born = true := by
      cases hc : seen.contains e0.born with
      | true => rfl
      | false =>
        refine absurd ?_ (hout e0.val)
        rw [← h6]
        refine List.mem_map.2 ⟨e0, ?_, by rw [g3]⟩
        unfold leftOf
        rw [Array.toList_filter]
        exact List.mem_filter.2 ⟨List.mem_of_getElem? g2, by rw [hc]; rfl⟩
    obtain ⟨hj2, hj3⟩ := List.getElem?_eq_some_iff.1 g2
    have e1 : es.toList = es.toList.take j ++ e0 :: es.toList.drop (j + 1) := by
      rw [← hj3, List.getElem_cons_drop, List.take_append_drop]
    rw [List.eraseIdx_eq_take_drop_succ]
    conv => rhs; rw [e1]
    rw [List.filter_append, List.filter_append, List.filter_cons, if_neg (by rw [hseen]; simp)]
end
end Go.Proofs.Ytmlladpmecclbaa
/- General: numbers as keys, single operations. -/
namespace Go.Proofs.Ytmlladpmecclbaa
open Go.RowKit

def i64 (K : Int) : Prop := -9223372036854775808 ≤ K ∧ K ≤ 9223372036854775807
theorem keyIa : Go.Maps.Keyed Try.prog 3 := Go.Maps.int_keyed Try.underlying3
theorem keyOfIa (K : Int) (h : i64 K) : keyOf Try.prog 3 (.int .i64 K) = some (.int .i64 K) := by
  refine Go.Maps.keyOf_int_mk Try.underlying3 ?_
  have e1 : IntKind.i64.min = -9223372036854775808 := rfl
  have e2 : IntKind.i64.max = 9223372036854775807 := rfl
  simp only [Lit.wf, e1, e2, Bool.and_eq_true, decide_eq_true_eq]
  exact h
theorem wpList_runH {ops : Array Oper} {rest : List Oper} {o : Oper} {a : Act} {w w' : World} {Q : Exit → Act → World → Prop} {v : Value} (hgd : o.guard = none) (hr : (execOp a.eval o).run Try.prog w = .ok (.value v) w') (h : wpList Try.prog ops Q rest (a.put o.dst v) w') : wpList Try.prog ops Q (o :: rest) a w :=
  wpList_plain hgd fun _ hK => by
    unfold Oper.wp
    rw [hr]
    exact hK _ _ h
theorem wrapN (n : Nat) (h : n ≤ 1000000000) : IntKind.i64.wrap (n : Int) = (n : Int) := by
  simp [IntKind.wrap, IntKind.bits, IntKind.signed]; omega
theorem wpList_someH {ops : Array Oper} {rest : List Oper} {o : Oper} {a : Act} {w : World} {Q : Exit → Act → World → Prop} {Φ : Value → World → Prop} (hgd : o.guard = none) (hr : ∃ v w', (execOp a.eval o).run Try.prog w = .ok (.value v) w' ∧ Φ v w') (h : ∀ v w', Φ v w' → wpList Try.prog ops Q rest (a.put o.dst v) w') : wpList Try.prog ops Q (o :: rest) a w := by
  obtain ⟨v, w', h1, h2⟩ := hr
  exact wpList_runH hgd h1 (h v w' h2)
section
variable {w w' : World} {o : Oper} {ρ : Operand → Value}
theorem exec_mkMap {t : TypeId} {r : Value} (ho : o.op = .makeMap t none) (h : (Instr.makeMap t none).run Try.prog w = .ok r w') : (execOp ρ o).run Try.prog w = .ok (.value r) w' := by
  unfold execOp
  simp only [ho, Option.map_none, Sem.run_bind, h, Result.andThen_ok, Sem.run_pure]
end
def kn (k : Int) : Nat := match k with
  | .ofNat n => 2 * n + 1
  | .negSucc n => 2 * n + 2
theorem kn_inj {a b : Int} (h : kn a = kn b) : a = b := by
  unfold kn at h
  cases a with
  | ofNat a =>
    cases b with
    | ofNat b => simp only at h; rw [show a = b by omega]
    | negSucc b => simp only at h; omega
  | negSucc a =>
    cases b with
    | ofNat b => simp only at h; omega
    | negSucc b => simp only at h; rw [show a = b by omega]
theorem kn_pos (a : Int) : kn a ≠ 0 := by unfold kn; cases a <;> simp
abbrev iv (k : Int) : Value := .int .i64 k
abbrev ptr (g : Nat) : Value := .pointer (some ⟨g, 0, none⟩)
theorem iv_inj {a b : Int} (h : iv a = iv b) : a = b := by simpa using h
theorem zInt (w : World) : (zeroValue 3).run Try.prog w = .ok (.int .i64 0) w := by kernel_rfl
theorem mkM (w : World) (t : TypeId) : (Instr.makeMap t none).run Try.prog w = .ok (.map (some w.heap.size)) (w.alloc (.map #[] 0)) := by
  simp [Instr.makeMap]
theorem wpList_skipH {ops : Array Oper} {rest : List Oper} {o : Oper} {a : Act} {w w' : World} {Q : Exit → Act → World → Prop} (hgd : o.guard = none) (hr : (execOp a.eval o).run Try.prog w = .ok .skip w') (h : wpList Try.prog ops Q rest (a.put o.dst undef) w') : wpList Try.prog ops Q (o :: rest) a w :=
  wpList_plain hgd fun _ hK => by
    unfold Oper.wp
    rw [hr]
    exact hK _ _ h
theorem wrapI {x : Int} (h : -9223372036854775808 ≤ x) (h2 : x ≤ 9223372036854775807) : IntKind.i64.wrap x = x := by
  simp [IntKind.wrap, IntKind.bits, IntKind.signed]; omega
theorem exec_ldF {w : World} {o : Oper} {ρ : Operand → Value} {T : TypeId} {d : TypeDesc} (hu : Try.prog.underlying T = some d) (hd : (match d with | .struct _ | .array _ _ => true | _ => false) = true) {cs : List Value} (hi : (Try.prog.info? T).map (·.size) = some cs.length) {x : Operand} {ad : Addr} (hc : ∀ j u, cs[j]? = some u → w.cell? (ad.add j) = some u)
    (ho : o.op = .load T x) (hx : ρ x = .pointer (some ad)) : (execOp ρ o).run Try.prog w = .ok (.value (.agg cs.toArray)) w := by
  have h := run_loadVar_cells w ad T cs _ hc hu hd hi
  unfold execOp
  simp only [ho, hx, Instr.loadAt, Instr.sureAddr, Sem.run_bind, Sem.run_pure, Result.andThen_ok, h]
theorem exec_allocF {w : World} {o : Oper} {ρ : Operand → Value} {T : TypeId} {Z : Array Value} (ho : o.op = .alloc T) (hz : (zeroValue T).run Try.prog w = .ok (.agg Z) w) : (execOp ρ o).run Try.prog w = .ok (.value (.pointer (some ⟨w.heap.size, 0, none⟩))) (w.alloc (.cells Z T)) := by
  simp [execOp, ho, go_sem, hz]
end Go.Proofs.Ytmlladpmecclbaa
/- Slices of numbers; an argument that is one. -/
namespace Go.Proofs.Ytmlladpmecclbaa
open Go.ChangeShapes Go.WideShapes Go.ChangeAt Go.RowKit Go.Deep

/-- The slice v holds these numbers. -/
def Nums (w : World) (v : Value) (fs : List Int) : Prop := (∀ x ∈ fs, -9223372036854775808 ≤ x ∧ x ≤ 9223372036854775807) ∧ fs.length ≤ 140737488355328 ∧ ((fs = [] ∧ (v = .slice none 0 0 ∨ ∃ a cap, v = .slice (some a) 0 cap)) ∨ (0 < fs.length ∧ ∃ b off cap, v = .slice (some ⟨b, off, none⟩) fs.length cap ∧ fs.length ≤ cap ∧ b < w.heap.size ∧ ∀ i, i < fs.length → w.cell? ⟨b, off + i, none⟩ = some (.int .i64 (fs.getD i 0))))
theorem Nums.but {R : Nat → Prop} {w w' : World} {v : Value} {fs : List Int} (h : Nums w v fs) (k : But R w w') (hr : ∀ j, v.ownBlock = some j → j < w.heap.size → ¬ R j) : Nums w' v fs := by
  obtain ⟨h1, h2, h3 | ⟨h0, b, off, cap, rfl, hcap, hb, hc⟩⟩ := h
  · exact ⟨h1, h2, .inl h3⟩
  · exact ⟨h1, h2, .inr ⟨h0, b, off, cap, rfl, hcap, Nat.lt_of_lt_of_le hb k.size, fun i hi => (World.cell?_of_block (k.block b hb (hr b rfl hb))).trans (hc i hi)⟩⟩
theorem Nums.grow {w w' : World} {v : Value} {fs : List Int} (h : Nums w v fs) (k : Grow w w') : Nums w' v fs := h.but k (fun _ _ _ h => h)
theorem Nums.len {w : World} {v : Value} {fs : List Int} (h : Nums w v fs) : ∃ ao cap, v = .slice ao fs.length cap := by
  obtain ⟨h1, h2, ⟨rfl, rfl | ⟨a, cap, rfl⟩⟩ | ⟨h0, b, off, cap, rfl, hb, hc⟩⟩ := h
  · exact ⟨none, 0, rfl⟩
  · exact ⟨some a, cap, rfl⟩
  · exact ⟨_, cap, rfl⟩
theorem Nums.at {w : World} {v : Value} {fs : List Int} (h : Nums w v fs) (h0 : 0 < fs.length) : ∃ b off cap, v = .slice (some ⟨b, off, none⟩) fs.length cap ∧ fs.length ≤ cap ∧ b < w.heap.size ∧ ∀ i, i < fs.length → w.cell? ⟨b, off + i, none⟩ = some (.int .i64 (fs.getD i 0)) := by
  obtain ⟨h1, h2, ⟨rfl, -⟩ | ⟨h0, h3⟩⟩ := h
  · simp at h0
  · exact h3
abbrev numv (ks : List Int) : List Value := ks.map fun k => Value.int .i64 k
theorem infNum : (Try.prog.info? 3).map (fun i => (i.zero, i.size, i.bytes)) = some (some (.int .i64 0), 1, 8) := by kernel_rfl
/-- An own row of numbers. -/
theorem Nums.ofRow {w : World} {base : Nat} {v : Value} {ks : List Int} (h : w.ownsRow base 3 1 v ks.length (numv ks)) (hk : ∀ x ∈ ks, -9223372036854775808 ≤ x ∧ x ≤ 9223372036854775807) (hl : ks.length ≤ 140737488355328) : Nums w v ks := by
  have hc := h
  obtain ⟨h1, ⟨e, h0⟩ | ⟨g, cap, cur, rfl, hg, hh, hcap, r⟩⟩ := h
  · have := List.eq_nil_of_length_eq_zero h0
    exact ⟨hk, hl, .inl ⟨this, .inl e⟩⟩
  · by_cases h0 : ks.length = 0
    · refine ⟨hk, hl, .inl ⟨List.eq_nil_of_length_eq_zero h0, .inr ⟨_, cap, by rw [h0]⟩⟩⟩
    · refine ⟨hk, hl, .inr ⟨by omega, g, 0, cap, rfl, hcap, lt_of_block hh, fun i hi => ?_⟩⟩
      have h2 := hc.cells (g := g) rfl i (.int .i64 (ks.getD i 0)) (by simp [numv, hi])
      have e : (⟨g, 0, none⟩ : Addr).add i = ⟨g, 0 + i, none⟩ := addr_add g 0 i
      rw [e] at h2
      exact h2
/-- Numbers are put behind none. -/
theorem exec_clone {w : World} {o : Oper} {ρ : Operand → Value} {g : Nat} {u : Value} {ks : List Int} {x y : Operand} (ho : o.op = .call { callee := .builtin .append, args := #[x, y], argTypes := #[26, 26] }) (hx : ρ x = .slice (some ⟨g, 0, none⟩) 0 0) (hg : Blk w g 3 []) (hy : ρ y = u) (hu : Nums w u ks) (hl : ks.length ≤ 100000) :
    ∃ v' w', (execOp ρ o).run Try.prog w = .ok (.value v') w' ∧ Nums w' v' ks ∧ (∀ k, v'.ownBlock = some k → k = g ∨ k = w.heap.size) ∧ But (· = g) w w' := by
  have hrow : w.ownsRow 0 3 1 (.slice (some ⟨g, 0, none⟩) 0 0) 0 [] := ⟨rfl, .inr ⟨g, 0, #[], rfl, Nat.zero_le _, hg, Nat.le_refl _, Nat.zero_le _, rfl, rfl⟩⟩
  have key : ∀ (ad : Addr) (c : Nat), u = .slice (some ad) ks.length c → (∀ j z, (numv ks)[j]? = some z → w.cell? (ad.add j) = some z) → ∃ v' w', (execOp ρ o).run Try.prog w = .ok (.value v') w' ∧ Nums w' v' ks ∧ (∀ k, v'.ownBlock = some k → k = g ∨ k = w.heap.size) ∧ But (· = g) w w' := fun ad c e hc => by
    obtain ⟨v', w', hr, ha⟩ := exec_append (news := numv ks) Try.underlying26 infNum rfl (by decide) ho hx hrow (hy.trans e) (by simp [numv]) hc (fun z hz => by obtain ⟨k, -, rfl⟩ := List.mem_map.1 hz; rfl) (by omega) (by decide)
    refine ⟨v', w', hr, Nums.ofRow (base := 0) (by have := ha.own; rw [List.nil_append, Nat.zero_add] at this; exact this) hu.1 hu.2.1, fun k hk => ?_, ha.but.mono (fun b _ e => by
      have e' : some g = some b := e
      exact (Option.some.inj e').symm)⟩
    rcases ha.at' with e2 | e2
    · rw [e2] at hk
      have hk' : some g = some k := hk
      exact .inl (Option.some.inj hk').symm
    · rw [e2] at hk
      exact .inr (Option.some.inj hk).symm
  obtain ⟨h1, h2, ⟨rfl, e | ⟨a, cap, e⟩⟩ | ⟨h0, b, off, cap, e, hcap, hb, hc⟩⟩ := hu
  · obtain ⟨i0, hi, hz0, hz1, hz2⟩ := info_parts infNum
    have hrun := run_append_owned_none (P := Try.prog) w 0 26 o.type 3 i0 1 Try.underlying26 hi _ 0 [] hrow
    refine ⟨.slice (some ⟨g, 0, none⟩) 0 0, w, ?_, ⟨h1, h2, .inl ⟨rfl, .inr ⟨⟨g, 0, none⟩, 0, rfl⟩⟩⟩, fun k hk => ?_, But.refl _ _⟩
    · unfold execOp
      simp only [ho, resolve, invoke, builtin, Sem.run_bind, Sem.run_pure, Result.andThen_ok, List.map_toArray, List.map_cons, List.map_nil, hx, hy, e, hrun]
    · have hk' : some g = some k := hk
      exact .inl (Option.some.inj hk').symm
  · exact key a cap e (fun j z hz => by simp [numv] at hz)
  · refine key ⟨b, off, none⟩ cap e (fun j z hz => ?_)
    have hj : j < ks.length := by
      rcases Nat.lt_or_ge j ks.length with h | h
      · exact h
      · rw [List.getElem?_eq_none (by simpa [numv] using h)] at hz; cases hz
    rw [addr_add, hc j hj, ← hz]
    simp [numv, hj]
theorem i64slice : Try.prog.underlying 26 = some (.slice (Try.prog.elem 26)) := by kernel_rfl
/-- A slice from its second number on. -/
theorem cut_one {b off n cap : Nat} (hc : n + 1 ≤ cap) : ∃ A c, (∀ w0 : World, (Instr.sliceAt 26 (.slice (some ⟨b, off, none⟩) (n + 1) cap) (some (.int .i64 1)) none none).run Try.prog w0 = .ok (.slice (some A) n c) w0) ∧ (0 < n → A = ⟨b, off + 1, none⟩) := by
  have he : Try.prog.elem 26 = 3 := by kernel_rfl
  have hs : ∀ w0 : World, (sizeOf 3).run Try.prog w0 = .ok 1 w0 := fun w0 => by kernel_rfl
  refine ⟨if cap = 1 then ⟨b, off, none⟩ else ⟨b, off + 1, none⟩, cap - 1, fun w0 => ?_, fun h => by rw [if_neg (by omega)]⟩
  rw [run_sliceAt_slice _ _ _ _ _ _ i64slice, run_slice_l w0 _ _ _ _ i64slice .i64 1 (by omega) (by omega), he, hs]
  by_cases hcn : cap = 1 <;> simp [Result.andThen, sliced, hcn, Addr.add]
section
variable {H : Type} {enc : TypeId × Value → H} {P : Program} {w : World} {base : Nat} {spare : Nat → Bool} {held : Bool}
theorem view_nums {t e : TypeId} {v : Value} {d : DataW H} {ps : List MemPlace} {r : Reach} {b0 : Nat} {ts : List TypeId} {ds : List (DataW H)} {j : Nat}
    (hu : P.underlying t = some (.slice e)) (hf : P.underlying e = some (.int .i64)) (hc : P.cellsOf e = 1) (hb : P.bytesOf e = 8)
    (hval : Value.okWide P w r b0 t v) (h : DataW.Trod enc P w base spare held t v d ps) (hlt : ∀ x ∈ ps, x.block < w.heap.size)
    (hsz : (DataW.weightsEach P ts ds).all (· ≤ reachBytes) = true) (ht : ts[j]? = some t) (hd : ds[j]? = some d) : ∃ fs, Nums w v fs := by
  obtain ⟨a0, len, cap, rfl⟩ := okWide_slice hu hval
  obtain ⟨fuel, hf1⟩ := h
  rcases open_slice1 hu hc hf1 with ⟨hcs, _⟩ | ⟨a, len', cap', m, n, V, D, Pl, hcs, _, hl, hm, hmm, hx, hcell⟩
  · simp [Value.cells] at hcs
    obtain ⟨rfl, rfl, rfl⟩ := hcs
    exact ⟨[], nofun, by simp, .inl ⟨rfl, .inl rfl⟩⟩
  · simp [Value.cells] at hcs
    obtain ⟨rfl, rfl, rfl⟩ := hcs
    simp only [Prod.mk.injEq] at hx
    obtain ⟨rfl, rfl⟩ := hx
    have hlm : len ≤ m := by rw [hmm]; split <;> omega
    have hreach : len * 8 ≤ 140737488351232 := by
      have := sized_slice hsz ht hd hu
      rw [hb] at this
      simp only [List.length_map, List.length_range, reachBytes] at this
      omega
    have hfl : ∀ i, i < len → ∃ b : Int, V i = .int .i64 b ∧ -9223372036854775808 ≤ b ∧ b ≤ 9223372036854775807 := by
      intro i hi
      obtain ⟨b, hb1, _, hw0⟩ := DataW.trod_int hf (hcell i (by omega)).2
      have h8 : IntKind.i64.min ≤ b ∧ b ≤ IntKind.i64.max := by simpa [Lit.wf, go_sem] using hw0
      have e1 : IntKind.i64.min = -9223372036854775808 := rfl
      have e2 : IntKind.i64.max = 9223372036854775807 := rfl
      simp only [List.cons.injEq, and_true] at hb1
      exact ⟨b, hb1, by omega, by omega⟩
    obtain ⟨B, hB⟩ := choose_lt (α := Int) (p := fun i b => V i = .int .i64 b ∧ -9223372036854775808 ≤ b ∧ b ≤ 9223372036854775807) hfl
    refine ⟨(List.range len).map B, ?_, by simp; omega, ?_⟩
    · intro z hz
      obtain ⟨i, hi, rfl⟩ := List.mem_map.1 hz
      exact (hB i (by simpa using hi)).2
    · by_cases h0 : len = 0
      · subst h0; exact .inl ⟨by simp, .inr ⟨_, _, rfl⟩⟩
      · right
        obtain ⟨b, off, spot⟩ := a
        have hspot : spot = none := by simpa [Addr.add] using World.cell?_spot (hcell 0 (by omega)).1
        subst hspot
        refine ⟨by simp; omega, b, off, cap, by simp, by simpa using hl, hlt (.cell b off) (List.mem_append_left _ (MemPlace.mem_row.2 ⟨0, by omega, by simp⟩)), ?_⟩
        intro i hi
        have hi' : i < len := by simpa using hi
        rw [← add_plain, (hcell i (by omega)).1, (hB i hi').1]
        simp [hi']
end
end Go.Proofs.Ytmlladpmecclbaa
/- General: own rows that are stored into, or cut short. -/
namespace Go.Proofs.Ytmlladpmecclbaa
open Go.RowKit

section
variable {w : World} {g : Nat}
theorem RowOf.blk {Fr : Nat → Prop} {e s n cap : Nat} {L : List Value} (h : RowOf w Fr e s (.slice (some ⟨g, 0, none⟩) n cap) n L) : ∃ M, Blk w g e M ∧ L.length ≤ M.length := by
  obtain ⟨hl, ⟨h1, _⟩ | ⟨g', cap', cur, e, hge, hb, h1, h2, h3, h4⟩⟩ := h.own
  · rcases h1 with h1 | h1 <;> simp at h1
  · simp only [Value.slice.injEq, Option.some.injEq, Addr.mk.injEq, and_true] at e
    obtain ⟨rfl, -, rfl⟩ := e
    refine ⟨cur.toList, hb, ?_⟩
    rw [hl, Array.length_toList, h3]
    exact Nat.mul_le_mul_right _ h1
theorem RowOf.set {Fr : Nat → Prop} {e s n cap : Nat} {L : List Value} (h : RowOf w Fr e s (.slice (some ⟨g, 0, none⟩) n cap) n L) (i : Nat) (u : Value) : RowOf (w.setCell ⟨g, i, none⟩ u) Fr e s (.slice (some ⟨g, 0, none⟩) n cap) n (L.set i u) := by
  obtain ⟨hl, ⟨h1, _⟩ | ⟨g', cap', cur, e, hge, hb, h1, h2, h3, h4⟩⟩ := h.own
  · rcases h1 with h1 | h1 <;> simp at h1
  · simp only [Value.slice.injEq, Option.some.injEq, Addr.mk.injEq, and_true] at e
    obtain ⟨rfl, -, rfl⟩ := e
    have hb' : Blk w g e cur.toList := hb
    have h5 := hb'.set i u
    refine ⟨⟨by rw [List.length_set]; exact hl, .inr ⟨g, cap, (cur.toList.set i u).toArray, rfl, hge, h5, h1, h2, by simpa using h3, ?_⟩⟩, h.inF⟩
    show (cur.toList.set i u).take _ = _
    rw [List.take_set, h4]
/-- Cut short. -/
theorem RowOf.take {Fr : Nat → Prop} {e s n cap m : Nat} {L : List Value} (h : RowOf w Fr e s (.slice (some ⟨g, 0, none⟩) n cap) n L) (hm : m ≤ n) : RowOf w Fr e s (.slice (some ⟨g, 0, none⟩) m cap) m (L.take (m * s)) := by
  obtain ⟨hl, ⟨h1, _⟩ | ⟨g', cap', cur, e, hge, hb, h1, h2, h3, h4⟩⟩ := h.own
  · rcases h1 with h1 | h1 <;> simp at h1
  · simp only [Value.slice.injEq, Option.some.injEq, Addr.mk.injEq, and_true] at e
    obtain ⟨rfl, -, rfl⟩ := e
    have hms : m * s ≤ n * s := Nat.mul_le_mul_right _ hm
    refine ⟨⟨by rw [List.length_take, hl]; omega, .inr ⟨g, cap, cur, rfl, hge, hb, by omega, h2, h3, ?_⟩⟩, h.inF⟩
    rw [← h4, List.take_take, Nat.min_eq_left hms]
theorem RowOf.cap {Fr : Nat → Prop} {e s n cap : Nat} {L : List Value} (h : RowOf w Fr e s (.slice (some ⟨g, 0, none⟩) n cap) n L) : n ≤ cap ∧ cap ≤ maxLen := by
  obtain ⟨hl, ⟨h1, _⟩ | ⟨g', cap', cur, e, hge, hb, h1, h2, h3, h4⟩⟩ := h.own
  · rcases h1 with h1 | h1 <;> simp at h1
  · simp only [Value.slice.injEq, Option.some.injEq, Addr.mk.injEq, and_true] at e
    obtain ⟨rfl, -, rfl⟩ := e
    exact ⟨h1, h2⟩
end
/-- A cell of a row's element. -/
theorem RowOf.cellAt {α : Type} {f : α → List Value} {L : List α} {w : World} {Fr : Nat → Prop} {e s : Nat} {v : Value} (h : RowOf w Fr e s v L.length (L.flatMap f)) (hs : ∀ x ∈ L, (f x).length = s) {i : Nat} {x : α} (hi : L[i]? = some x) :
    ∃ g cap, v = .slice (some ⟨g, 0, none⟩) L.length cap ∧ Fr g ∧ ∀ c u, (f x)[c]? = some u → w.cell? ⟨g, i * s + c, none⟩ = some u := by
  obtain ⟨ao, cap, e1, h2⟩ := h.shape
  have hl : i < L.length := (List.getElem?_eq_some_iff.1 hi).1
  obtain ⟨g, rfl, h3, -, h5⟩ := h2 (by omega)
  exact ⟨g, cap, e1, h3, fun c u hu => h5 _ _ (flat_at L hs i x c u hi hu)⟩
theorem flat_len' {α : Type} {f : α → List Value} {s : Nat} : ∀ (L : List α), (∀ x ∈ L, (f x).length = s) → (L.flatMap f).length = L.length * s
  | [], _ => by simp
  | x :: L, h => by
    rw [List.flatMap_cons, List.length_append, h x List.mem_cons_self, flat_len' L (fun y hy => h y (List.mem_cons_of_mem _ hy)), List.length_cons, Nat.add_mul]; omega
theorem flat_setc {α : Type} {f : α → List Value} {s : Nat} {u : Value} {y : α} : ∀ (L : List α) (i c : Nat) (x : α), (∀ x ∈ L, (f x).length = s) → L[i]? = some x → c < s → f y = (f x).set c u → (L.flatMap f).set (i * s + c) u = (L.set i y).flatMap f
  | [], i, c, x, _, h, _, _ => by simp at h
  | z :: L, i, c, x, hl, h, hc, hy => by
    have hz := hl z List.mem_cons_self
    cases i with
    | zero =>
      obtain rfl : z = x := by simpa using h
      rw [List.flatMap_cons, List.set_cons_zero, List.flatMap_cons, Nat.zero_mul, Nat.zero_add, List.set_append_left _ _ (by omega), hy]
    | succ i =>
      have h' : L[i]? = some x := by simpa using h
      rw [List.flatMap_cons, List.set_cons_succ, List.flatMap_cons, List.set_append_right _ _ (by rw [hz, Nat.add_mul]; omega), hz, show (i + 1) * s + c - s = i * s + c by rw [Nat.add_mul]; omega,
        flat_setc L i c x (fun w hw => hl w (List.mem_cons_of_mem _ hw)) h' hc hy]
/-- A cell of a row's element is stored into. -/
theorem RowOf.setAt {α : Type} {f : α → List Value} {L : List α} {w : World} {Fr : Nat → Prop} {e s g cap i c : Nat} {u : Value} {x y : α} (h : RowOf w Fr e s (.slice (some ⟨g, 0, none⟩) L.length cap) L.length (L.flatMap f)) (hs : ∀ x ∈ L, (f x).length = s) (hi : L[i]? = some x) (hc : c < s) (hy : f y = (f x).set c u) :
    RowOf (w.setCell ⟨g, i * s + c, none⟩ u) Fr e s (.slice (some ⟨g, 0, none⟩) (L.set i y).length cap) (L.set i y).length ((L.set i y).flatMap f) := by
  have h1 := h.set (i * s + c) u
  rw [flat_setc L i c x hs hi hc hy] at h1
  rw [List.length_set]
  exact h1
/-- Where a row's element can be stored into. -/
theorem RowOf.spot {α : Type} {f : α → List Value} {L : List α} {w : World} {Fr : Nat → Prop} {e s g cap i c : Nat} {x : α} (h : RowOf w Fr e s (.slice (some ⟨g, 0, none⟩) L.length cap) L.length (L.flatMap f)) (hs : ∀ x ∈ L, (f x).length = s) (hi : L[i]? = some x) (hc : c < s) :
    (∃ u, w.cell? ⟨g, i * s + c, none⟩ = some u) ∧ w.frozen? ⟨g, i * s + c, none⟩ = false := by
  obtain ⟨M, hM, hl⟩ := h.blk
  have hil : i < L.length := (List.getElem?_eq_some_iff.1 hi).1
  rw [flat_len' L hs] at hl
  have h1 : i * s + c < M.length := by
    have : (i + 1) * s ≤ L.length * s := Nat.mul_le_mul_right _ (by omega)
    rw [Nat.add_mul] at this
    omega
  exact ⟨⟨_, by rw [hM.cell]; exact List.getElem?_eq_getElem h1⟩, hM.free _⟩
theorem own_sl {w : World} {base e s n : Nat} {v : Value} {xs : List Value} (h : w.ownsRow base e s v n xs) : ∃ a c, v = .slice a n c := by
  obtain ⟨-, ⟨rfl, rfl⟩ | ⟨g', c', cu, rfl, -⟩⟩ := h
  · exact ⟨none, 0, rfl⟩
  · exact ⟨_, _, rfl⟩
/-- The last one is put at a place, and the row cut short. -/
def rem {α : Type} (Z : List α) (a : Nat) (x : α) : List α := (Z.set a x).take (Z.length - 1)
theorem rem_perm {α : Type} {Z : List α} {a : Nat} {y x : α} (ha : Z[a]? = some y) (hx : Z[Z.length - 1]? = some x) : Z.Perm (y :: rem Z a x) := by
  have hl : a < Z.length := (List.getElem?_eq_some_iff.1 ha).1
  have h0 : Z ≠ [] := fun e => by rw [e] at hl; simp at hl
  obtain ⟨Y, z, rfl⟩ : ∃ Y z, Z = Y ++ [z] := ⟨Z.dropLast, Z.getLast h0, (List.dropLast_concat_getLast h0).symm⟩
  rw [List.length_append, List.length_singleton] at hx hl
  rw [show Y.length + 1 - 1 = Y.length by omega, List.getElem?_append_right (Nat.le_refl _), Nat.sub_self] at hx
  obtain rfl : z = x := by simpa using hx
  unfold rem
  rw [List.length_append, List.length_singleton, show Y.length + 1 - 1 = Y.length by omega]
  by_cases h1 : a < Y.length
  · rw [List.set_append_left _ _ h1, List.take_left' (by rw [List.length_set])]
    rw [List.getElem?_append_left h1] at ha
    have e1 : Y = Y.take a ++ y :: Y.drop (a + 1) := by
      have h3 := List.getElem?_eq_some_iff.1 ha
      rw [← h3.2, List.getElem_cons_drop, List.take_append_drop]
    have e2 : Y.set a z = Y.take a ++ z :: Y.drop (a + 1) := by rw [List.set_eq_take_append_cons_drop, if_pos h1]
    rw [e2]
    conv => lhs; rw [e1]
    refine (List.perm_append_comm (l₁ := Y.take a ++ y :: Y.drop (a + 1)) (l₂ := [z])).trans ?_
    refine (List.Perm.cons z List.perm_middle).trans ?_
    exact (List.Perm.swap y z _).trans (List.Perm.cons y List.perm_middle.symm)
  · have h2 : a = Y.length := by omega
    subst h2
    rw [List.getElem?_append_right (Nat.le_refl _), Nat.sub_self] at ha
    obtain rfl : z = y := by simpa using ha
    rw [List.set_append_right _ _ (Nat.le_refl _), Nat.sub_self, List.take_left' rfl]
    exact List.perm_append_comm
theorem rem_len {α : Type} {Z : List α} {a : Nat} {x : α} : (rem Z a x).length = Z.length - 1 := by unfold rem; rw [List.length_take, List.length_set]; omega
theorem rem_map {α β : Type} (f : α → β) (Z : List α) (a : Nat) (x : α) : (rem Z a x).map f = rem (Z.map f) a (f x) := by unfold rem; rw [List.map_take, List.map_set, List.length_map]
theorem rem_mem {α : Type} {Z : List α} {a : Nat} {x z : α} (hx : x ∈ Z) (h : z ∈ rem Z a x) : z ∈ Z := by
  unfold rem at h
  rcases List.mem_or_eq_of_mem_set (List.mem_of_mem_take h) with h | h
  · exact h
  · rw [h]; exact hx
end Go.Proofs.Ytmlladpmecclbaa
/- General: a slice from a place on. -/
namespace Go.Proofs.Ytmlladpmecclbaa
open Go.RowKit

theorem cut_from {T e : TypeId} {sz : Nat} (hu : Try.prog.underlying T = some (.slice (Try.prog.elem T))) (he : Try.prog.elem T = e) (hs : ∀ w0 : World, (sizeOf e).run Try.prog w0 = .ok sz w0) {b n cap k : Nat} (hk : k ≤ n) (hc : n ≤ cap) :
    ∃ A c, (∀ w0 : World, (Instr.sliceAt T (.slice (some ⟨b, 0, none⟩) n cap) (some (.int .i64 (k : Int))) none none).run Try.prog w0 = .ok (.slice (some A) (n - k) c) w0) ∧ (k < n → A = ⟨b, k * sz, none⟩) ∧ c = cap - k := by
  refine ⟨if cap = k then ⟨b, 0, none⟩ else ⟨b, k * sz, none⟩, cap - k, fun w0 => ?_, fun h => by rw [if_neg (by omega)], rfl⟩
  rw [run_sliceAt_slice _ _ _ _ _ _ hu, run_slice_l w0 _ _ _ _ hu .i64 (k : Int) (by omega) (by omega), he, hs]
  by_cases hcn : cap = k
  · simp [Result.andThen, sliced, hcn]
  · by_cases h0 : k * sz = 0
    · simp [Result.andThen, sliced, hcn, Addr.add, h0]
    · simp [Result.andThen, sliced, hcn, Addr.add, h0]
end Go.Proofs.Ytmlladpmecclbaa
/- General: numbers behind others, numbers cut; the reference's SameInts. -/
namespace Go.Proofs.Ytmlladpmecclbaa
open Go.RowKit

/-- Numbers are put behind an own row of some. -/
theorem exec_appendN {w : World} {o : Oper} {ρ : Operand → Value} {v u : Value} {n : Nat} {xs : List Value} {ks : List Int} {x y : Operand} (ho : o.op = .call { callee := .builtin .append, args := #[x, y], argTypes := #[26, 26] }) (hx : ρ x = v) (hv : w.ownsRow 0 3 1 v n xs) (hy : ρ y = u) (hu : Nums w u ks) (hn : n + ks.length ≤ 1000000) :
    ∃ v' w', (execOp ρ o).run Try.prog w = .ok (.value v') w' ∧ Appd w w' 3 1 v v' (n + ks.length) (xs ++ numv ks) := by
  have key : ∀ (ad : Addr) (c : Nat), u = .slice (some ad) ks.length c → (∀ j z, (numv ks)[j]? = some z → w.cell? (ad.add j) = some z) → ∃ v' w', (execOp ρ o).run Try.prog w = .ok (.value v') w' ∧ Appd w w' 3 1 v v' (n + ks.length) (xs ++ numv ks) := fun ad c e hc =>
    exec_append (news := numv ks) Try.underlying26 infNum rfl (by decide) ho hx hv (hy.trans e) (by simp [numv]) hc (fun z hz => by obtain ⟨k, -, rfl⟩ := List.mem_map.1 hz; rfl) hn (by decide)
  obtain ⟨h1, h2, ⟨rfl, e | ⟨a, cap, e⟩⟩ | ⟨h0, b, off, cap, e, hcap, hb, hc⟩⟩ := hu
  · obtain ⟨i0, hi, hz0, hz1, hz2⟩ := info_parts infNum
    have hrun := run_append_owned_none (P := Try.prog) w 0 26 o.type 3 i0 1 Try.underlying26 hi v n xs hv
    refine ⟨v, w, ?_, ⟨by simpa [numv] using hv, But.refl _ _, .inl rfl, fun k hk => ?_⟩⟩
    · unfold execOp
      simp only [ho, resolve, invoke, builtin, Sem.run_bind, Sem.run_pure, Result.andThen_ok, List.map_toArray, List.map_cons, List.map_nil, hx, hy, e, hrun]
    · obtain ⟨-, ⟨rfl, -⟩ | ⟨g, c, cu, rfl, -, hb, -⟩⟩ := hv
      · cases hk
      · cases hk; exact lt_of_block hb
  · exact key a cap e (fun j z hz => by simp [numv] at hz)
  · refine key ⟨b, off, none⟩ cap e (fun j z hz => ?_)
    have hj : j < ks.length := by
      rcases Nat.lt_or_ge j ks.length with h | h
      · exact h
      · rw [List.getElem?_eq_none (by simpa [numv] using h)] at hz; cases hz
    rw [addr_add, hc j hj, ← hz]
    simp [numv, hj]
/-- An own row of numbers, cut in two. -/
theorem nums_cut {w : World} {v : Value} {ks : List Int} (h : w.ownsRow 0 3 1 v ks.length (numv ks)) (hi : ∀ x ∈ ks, -9223372036854775808 ≤ x ∧ x ≤ 9223372036854775807) (hl : ks.length ≤ 1000000) {a : Nat} (ha : a ≤ ks.length) :
    ∃ lo hi', (∀ w0 : World, (Instr.sliceAt 26 v none (some (.int .i64 (a : Int))) none).run Try.prog w0 = .ok lo w0) ∧ (∀ w0 : World, (Instr.sliceAt 26 v (some (.int .i64 (a : Int))) none none).run Try.prog w0 = .ok hi' w0) ∧ Nums w lo (ks.take a) ∧ Nums w hi' (ks.drop a) := by
  have hcells := h
  obtain ⟨h1, ⟨rfl, h0⟩ | ⟨g, cap, cur, rfl, hg, hh, hcap, hm, r⟩⟩ := h
  · have hk : ks = [] := List.eq_nil_of_length_eq_zero h0
    subst hk
    obtain rfl : a = 0 := by simpa using ha
    refine ⟨.slice none 0 0, .slice none 0 0, fun w0 => by kernel_rfl, fun w0 => by kernel_rfl, ⟨(fun x hx => by simp at hx), by simp, .inl ⟨rfl, .inl rfl⟩⟩, ⟨(fun x hx => by simp at hx), by simp, .inl ⟨rfl, .inl rfl⟩⟩⟩
  · obtain ⟨A, c, hcut, hA, hcc⟩ := cut_from (T := 26) (e := 3) (sz := 1) i64slice (by kernel_rfl) (fun w0 => by kernel_rfl) (b := g) (n := ks.length) (cap := cap) (k := a) ha hcap
    have hcell : ∀ i, i < ks.length → w.cell? ⟨g, i, none⟩ = some (.int .i64 (ks.getD i 0)) := fun i hi => by
      have h2 := hcells.cells (g := g) rfl i (.int .i64 (ks.getD i 0)) (by simp [numv, hi])
      have e : (⟨g, 0, none⟩ : Addr).add i = ⟨g, 0 + i, none⟩ := addr_add g 0 i
      rw [e, Nat.zero_add] at h2
      exact h2
    refine ⟨.slice (some ⟨g, 0, none⟩) a cap, _, fun w0 => ?_, hcut, ⟨fun x hx => hi x (List.mem_of_mem_take hx), by rw [List.length_take]; omega, ?_⟩, ⟨fun x hx => hi x (List.mem_of_mem_drop hx), by rw [List.length_drop]; omega, ?_⟩⟩
    · rw [run_sliceAt_slice _ _ _ _ _ _ i64slice, run_slice_h w0 _ _ _ _ i64slice .i64 (a : Int) (by omega) (by omega), show Try.prog.elem 26 = 3 by kernel_rfl, show (sizeOf 3).run Try.prog w0 = .ok 1 w0 by kernel_rfl]
      simp [sliced, Result.andThen, Addr.add]
    · by_cases h0 : a = 0
      · subst h0
        exact .inl ⟨by simp, .inr ⟨_, _, rfl⟩⟩
      · refine .inr ⟨by rw [List.length_take]; omega, g, 0, cap, by rw [List.length_take, Nat.min_eq_left ha], by rw [List.length_take]; omega, lt_of_block hh, fun i hi => ?_⟩
        rw [List.length_take] at hi
        rw [Nat.zero_add, hcell i (by omega), List.getD_eq_getElem?_getD, List.getD_eq_getElem?_getD, List.getElem?_take, if_pos (by omega)]
    · by_cases h0 : a < ks.length
      · rw [hA h0]
        refine .inr ⟨by rw [List.length_drop]; omega, g, a * 1, c, by rw [List.length_drop], ?_, lt_of_block hh, fun i hi => ?_⟩
        · rw [List.length_drop]; omega
        · rw [List.length_drop] at hi
          rw [Nat.mul_one, hcell (a + i) (by omega), List.getD_eq_getElem?_getD, List.getD_eq_getElem?_getD, List.getElem?_drop]
      · rw [show ks.length - a = 0 by omega]
        exact .inl ⟨by rw [List.drop_eq_nil_iff]; omega, .inr ⟨_, _, rfl⟩⟩
set_option maxRecDepth 100000 in
set_option maxHeartbeats 1000000 in
theorem sameints_any {w : World} {v u : Value} {xs ys : List Int} (hv : Nums w v xs) (hu : Nums w u ys) : Calls Try.prog 9 #[v, u] w fun e w' => e = .returned (.bool (decide (xs = ys))) ∧ Grow w w' := by
  obtain ⟨a1, c1, rfl⟩ := hv.len
  obtain ⟨a2, c2, rfl⟩ := hu.len
  have HV := Hid.mk' hv
  have HU := Hid.mk' hu
  obtain ⟨n, hn⟩ : ∃ n, n = xs.length := ⟨_, rfl⟩
  obtain ⟨m, hm⟩ : ∃ m, m = ys.length := ⟨_, rfl⟩
  have hnb : (n : Int) ≤ 140737488355328 := by have := hv.2.1; omega
  rw [← hn] at HV ⊢
  rw [← hm] at HU ⊢
  have HN := Hid.mk' hn
  have HM := Hid.mk' hm
  obtain ⟨eb, heb⟩ : ∃ eb, eb = decide (xs = ys) := ⟨_, rfl⟩
  rw [← heb]
  have HEB := Hid.mk' heb
  clear hv hu hn hm heb
  by_cases hnm : n = m
  · subst hnm
    go_enter Try.func9, Try.ntmps9
    go_wp2
    go_loopw [5] (fun iv wr => ∃ i : Nat, i ≤ n ∧ iv = .int .i64 i ∧ (∀ j, j < i → xs.getD j 0 = ys.getD j 0) ∧ Grow w wr) (fun iv _ => n - (intOf iv).toNat)
    case atStart => exact ⟨0, Nat.zero_le _, rfl, fun j hj => absurd hj (by omega), But.refl _ _⟩
    case round =>
      obtain ⟨i, hin, rfl, hne, hg⟩ := hrel
      have HNE := Hid.mk' hne
      have HG := Hid.mk' hg
      clear hne hg
      by_cases hlt : i < n
      · have hlti : (i : Int) < (n : Int) := by omega
        obtain ⟨b1, o1, k1, e1, -, -, hc1⟩ := HV.out.at (by have := HN.out; omega)
        obtain ⟨b2, o2, k2, e2, -, -, hc2⟩ := HU.out.at (by have := HM.out; omega)
        simp only [Value.slice.injEq] at e1 e2
        obtain ⟨rfl, -, rfl⟩ := e1
        obtain ⟨rfl, -, rfl⟩ := e2
        have HC1 := Hid.mk' (hc1 i (by have := HN.out; omega))
        have HC2 := Hid.mk' (hc2 i (by have := HM.out; omega))
        obtain ⟨x, hx⟩ : ∃ x, x = xs.getD i 0 := ⟨_, rfl⟩
        obtain ⟨y, hy⟩ : ∃ y, y = ys.getD i 0 := ⟨_, rfl⟩
        rw [← hx] at HC1
        rw [← hy] at HC2
        have HX := Hid.mk' hx
        have HY := Hid.mk' hy
        clear hc1 hc2 hx hy
        go_upto_region 6 with fail
        refine region_chain [] [0, 1, 2, 3, 4, 5, 6, 7, 8] (Grow w) (Grow w) (by kernel_rfl) (by kernel_rfl) (fun _ _ h k => h.trans k) (fun _ h => h) (HG.out.drew) ?_
        intro ι hne X hX
        have d0 : ∀ z, (X z).cell? ⟨b1, o1 + i, none⟩ = some (.int .i64 x) := fun z => grow_cell (hX z) HC1.out
        have d1 : ∀ z, (X z).cell? ⟨b2, o2 + i, none⟩ = some (.int .i64 y) := fun z => grow_cell (hX z) HC2.out
        iterate 9 (refine still_step rfl (fun K hK => ?_); go_simp; refine hK _ ?_; clear hK K)
        refine still_nil ?_
        clear hX hne d0 d1
        intro w2 hw2
        have HW2 := Hid.mk' hw2
        clear hw2 HC1 HC2
        by_cases hxy : x = y
        · have hxb : (x != y) = false := by simpa using hxy
          have HST : Hid (∀ j, j < i + 1 → xs.getD j 0 = ys.getD j 0) := fun j hj => by
            by_cases e : j = i
            · rw [e, ← HX.out, ← HY.out, hxy]
            · exact HNE.out j (by omega)
          clear hxy
          go_wp2
          exact ⟨⟨i + 1, by omega, by go_num, HST.out, HW2.out⟩, by simp [intOf]; omega⟩
        · have hxb : (x != y) = true := by simpa using hxy
          have HF : Hid (eb = false) := by
            show _ = _
            rw [HEB.out]
            refine decide_eq_false (fun e => hxy ?_)
            rw [HX.out, HY.out, e]
          clear hxy
          go_wp2
          go_ret
          exact ⟨congrArg (fun b => Ending.returned (.bool b)) HF.out.symm, HW2.out⟩
      · have hlti : ¬ ((i : Int) < (n : Int)) := by omega
        have HT : Hid (eb = true) := by
          show _ = _
          rw [HEB.out]
          refine decide_eq_true (List.ext_getElem? (fun j => ?_))
          have hlx := HN.out
          have hly := HM.out
          by_cases hj : j < n
          · have := HNE.out j (by omega)
            rw [List.getD_eq_getElem?_getD, List.getD_eq_getElem?_getD, List.getElem?_eq_getElem (by omega), List.getElem?_eq_getElem (by omega)] at this
            rw [List.getElem?_eq_getElem (by omega), List.getElem?_eq_getElem (by omega)]
            simpa using this
          · rw [List.getElem?_eq_none (by omega), List.getElem?_eq_none (by omega)]
        go_wp2
        go_ret
        exact ⟨congrArg (fun b => Ending.returned (.bool b)) HT.out.symm, HG.out⟩
  · have hnb : ((n : Int) != (m : Int)) = true := by
      have : (n : Int) ≠ (m : Int) := by omega
      simpa using this
    have HF : Hid (eb = false) := by
      show _ = _
      rw [HEB.out]
      refine decide_eq_false (fun e => hnm ?_)
      rw [HN.out, HM.out, e]
    clear hnm
    go_enter Try.func9, Try.ntmps9
    go_wp2
    go_ret
    exact ⟨congrArg (fun b => Ending.returned (.bool b)) HF.out.symm, But.refl _ _⟩
end Go.Proofs.Ytmlladpmecclbaa
/- A map in memory that holds what is on a list: look-ups, updates, deletes, ranges. -/
namespace Go.Proofs.Ytmlladpmecclbaa
open Go.RowKit Go.Maps

/-- The map in block b has, for each x of the list, the key kv x with the element vv x; nothing else. -/
def MapOf {α : Type} (kt : TypeId) (w : World) (b : Nat) (kv vv : α → Value) (l : List α) : Prop :=
  ∃ M, Mq Try.prog kt w b M ∧ (∀ p ∈ M, ∃ x ∈ l, p = (kv x, vv x)) ∧ ∀ x ∈ l, (kv x, vv x) ∈ M
section
variable {α : Type} {kt et t : TypeId} {w w' : World} {b : Nat} {kv vv vv' : α → Value} {l l' : List α} {R : Nat → Prop}
theorem MapOf.lt (h : MapOf kt w b kv vv l) : b < w.heap.size := by obtain ⟨M, h1, -⟩ := h; exact h1.lt
theorem MapOf.but (h : MapOf kt w b kv vv l) (k : But R w w') (hr : ¬ R b) : MapOf kt w' b kv vv l := by
  obtain ⟨M, h1, h2, h3⟩ := h
  exact ⟨M, h1.but k hr, h2, h3⟩
theorem MapOf.grow (h : MapOf kt w b kv vv l) (k : Grow w w') : MapOf kt w' b kv vv l := h.but k (fun h => h)
theorem MapOf.mem (h : MapOf kt w b kv vv l) (hm : ∀ x, x ∈ l ↔ x ∈ l') : MapOf kt w b kv vv l' := by
  obtain ⟨M, h1, h2, h3⟩ := h
  refine ⟨M, h1, fun p hp => ?_, fun x hx => h3 x ((hm x).2 hx)⟩
  obtain ⟨x, hx, e⟩ := h2 p hp
  exact ⟨x, (hm x).1 hx, e⟩
theorem MapOf.congr (h : MapOf kt w b kv vv l) (hv : ∀ x ∈ l, vv x = vv' x) : MapOf kt w b kv vv' l := by
  obtain ⟨M, h1, h2, h3⟩ := h
  refine ⟨M, h1, fun p hp => ?_, fun x hx => ?_⟩
  · obtain ⟨x, hx, e⟩ := h2 p hp
    exact ⟨x, hx, by rw [← hv x hx]; exact e⟩
  · rw [← hv x hx]; exact h3 x hx
theorem MapOf.new (g : Nat) (h : w.heap.size = g) (kv vv : α → Value) : MapOf kt (w.alloc (.map #[] 0)) g kv vv [] :=
  ⟨[], Mq.new g h, fun _ hp => absurd hp List.not_mem_nil, fun _ hx => absurd hx List.not_mem_nil⟩
theorem MapOf.look (K : Keyed Try.prog kt) (ht : Try.prog.underlying t = some (.map kt et)) {z : Value} (hz : ∀ w, (zeroValue et).run Try.prog w = .ok z w) (h : MapOf kt w b kv vv l) {key : Value} {lt : Lit} (hkey : keyOf Try.prog kt key = some lt) (c : Bool) :
    (∀ x ∈ l, kv x = key → (Instr.lookup t (.map (some b)) key c).run Try.prog w = .ok (if c then .tuple #[vv x, .bool true] else vv x) w) ∧ ((∀ x ∈ l, kv x ≠ key) → (Instr.lookup t (.map (some b)) key c).run Try.prog w = .ok (if c then .tuple #[z, .bool false] else z) w) := by
  obtain ⟨M, h1, h2, h3⟩ := h
  have hl := h1.look (t := t) (et := et) K ht (hz w) hkey c
  refine ⟨fun x hx e => ?_, fun hn => hl.2 (fun p hp e => ?_)⟩
  · refine hl.1 _ ?_
    rw [← e]; exact h3 x hx
  · obtain ⟨x, hx, e2⟩ := h2 p hp
    exact hn x hx (by rw [← e, e2])
theorem MapOf.put (K : Keyed Try.prog kt) (ht : Try.prog.underlying t = some (.map kt et)) (h : MapOf kt w b kv vv l) (x : α) {lt : Lit} (hkey : keyOf Try.prog kt (kv x) = some lt) (hx : ∀ y ∈ l, kv y ≠ kv x) :
    ∃ w', (Instr.mapUpdate t (.map (some b)) (kv x) (vv x)).run Try.prog w = .ok () w' ∧ MapOf kt w' b kv vv (l ++ [x]) ∧ But (· = b) w w' ∧ w'.heap.size = w.heap.size := by
  obtain ⟨M, h1, h2, h3⟩ := h
  obtain ⟨w', M', hr, hM, hb, hs, hin, hot⟩ := h1.put (t := t) (et := et) (v := vv x) K ht hkey
  refine ⟨w', hr, ⟨M', hM, fun p hp => ?_, fun y hy => ?_⟩, hb, hs⟩
  · by_cases hk : p.1 = kv x
    · have hpv : p.2 = vv x := hM.uniq (k := kv x) (by rw [← hk]; exact hp) hin
      exact ⟨x, List.mem_append_right _ List.mem_cons_self, by rw [← hk, ← hpv]⟩
    · obtain ⟨y, hy, e⟩ := h2 p ((hot p.1 p.2 hk).1 hp)
      exact ⟨y, List.mem_append_left _ hy, e⟩
  · rcases List.mem_append.1 hy with hy | hy
    · exact (hot _ _ (hx y hy)).2 (h3 y hy)
    · rw [show y = x by simpa using hy]; exact hin
theorem MapOf.del (K : Keyed Try.prog kt) (ht : Try.prog.underlying t = some (.map kt et)) (h : MapOf kt w b kv vv l) {key : Value} {lt : Lit} (hkey : keyOf Try.prog kt key = some lt) (hl : ∀ x, x ∈ l' ↔ x ∈ l ∧ kv x ≠ key) (ty : TypeId) :
    ∃ w', (Builtin.delete_ #[t, kt] ty #[.map (some b), key]).run Try.prog w = .ok (.tuple #[]) w' ∧ MapOf kt w' b kv vv l' ∧ But (· = b) w w' ∧ w'.heap.size = w.heap.size := by
  obtain ⟨M, h1, h2, h3⟩ := h
  obtain ⟨w', M', hr, hM, hb, hs, hot⟩ := h1.del (t := t) (et := et) K ht hkey ty
  refine ⟨w', hr, ⟨M', hM, fun p hp => ?_, fun y hy => ?_⟩, hb, hs⟩
  · obtain ⟨h6, h7⟩ := (hot p.1 p.2).1 hp
    obtain ⟨x, hx, e⟩ := h2 p h6
    exact ⟨x, (hl x).2 ⟨hx, fun e2 => h7 (by rw [e]; exact e2)⟩, e⟩
  · obtain ⟨h6, h7⟩ := (hl y).1 hy
    exact (hot _ _).2 ⟨h3 y h6, h7⟩
theorem nodup_len {β : Type} : ∀ {l m : List β}, l.Nodup → (∀ x ∈ l, x ∈ m) → l.length ≤ m.length := by
  intro l
  induction l with
  | nil => intro m _ _; exact Nat.zero_le _
  | cons x l ih =>
    intro m hn hm
    rw [List.nodup_cons] at hn
    have hx := hm x List.mem_cons_self
    obtain ⟨m1, m2, rfl⟩ := List.append_of_mem hx
    have := ih (m := m1 ++ m2) hn.2 (fun y hy => by
      have h1 := hm y (List.mem_cons_of_mem _ hy)
      rcases List.mem_append.1 h1 with h2 | h2
      · exact List.mem_append_left _ h2
      · rcases List.mem_cons.1 h2 with h3 | h3
        · exact absurd (by rw [← h3]; exact hy) hn.1
        · exact List.mem_append_right _ h3)
    rw [List.length_append] at this ⊢
    rw [List.length_cons, List.length_cons]
    omega
theorem MapOf.keys {M : List (Value × Value)} (h1 : Mq Try.prog kt w b M) : (M.map (·.1)).Nodup := List.pairwise_map.2 h1.apart
theorem MapOf.size {M : List (Value × Value)} (h1 : Mq Try.prog kt w b M) (h2 : ∀ p ∈ M, ∃ x ∈ l, p = (kv x, vv x)) (h3 : ∀ x ∈ l, (kv x, vv x) ∈ M) (hn : (l.map kv).Nodup) : M.length = l.length := by
  have a1 := nodup_len (m := l.map kv) (MapOf.keys h1) (fun x hx => by
    obtain ⟨p, hp, rfl⟩ := List.mem_map.1 hx
    obtain ⟨y, hy, e⟩ := h2 p hp
    exact List.mem_map.2 ⟨y, hy, by rw [e]⟩)
  have a2 := nodup_len (m := M.map (·.1)) hn (fun x hx => by
    obtain ⟨y, hy, rfl⟩ := List.mem_map.1 hx
    exact List.mem_map.2 ⟨_, h3 y hy, rfl⟩)
  rw [List.length_map, List.length_map] at a1 a2
  omega
theorem MapOf.len (ht : Try.prog.underlying t = some (.map kt et)) (h : MapOf kt w b kv vv l) (hn : (l.map kv).Nodup) (ty : TypeId) : (Builtin.len_ #[t] ty #[.map (some b)]).run Try.prog w = .ok (.int .i64 (l.length : Int)) w := by
  obtain ⟨M, h1, h2, h3⟩ := h
  rw [← MapOf.size h1 h2 h3 hn]
  exact h1.len ht ty
theorem nodup_map {β : Type} {f : α → β} {l : List α} (hf : ∀ x ∈ l, ∀ y ∈ l, f x = f y → x = y) (h : l.Nodup) : (l.map f).Nodup :=
  List.pairwise_map.2 (h.imp_of_mem (fun hx hy hne e => hne (hf _ hx _ hy e)))
/-- A map that is ranged over: these of the list are still to come. -/
structure Ranged {α : Type} (kt : TypeId) (w : World) (r b : Nat) (kv vv : α → Value) (l lf : List α) : Prop where
  ex : ∃ M L, Mq Try.prog kt w b M ∧ Rg w r b M L ∧ (∀ p ∈ M, ∃ x ∈ l, p = (kv x, vv x)) ∧ (∀ x ∈ l, (kv x, vv x) ∈ M) ∧ L.Perm (lf.map (fun x => (kv x, vv x)))
  sub : ∀ x ∈ lf, x ∈ l
theorem Ranged.map {r : Nat} {lf : List α} (h : Ranged kt w r b kv vv l lf) : MapOf kt w b kv vv l := by
  obtain ⟨M, L, h1, -, h2, h3, -⟩ := h.ex
  exact ⟨M, h1, h2, h3⟩
theorem Ranged.lt {r : Nat} {lf : List α} (h : Ranged kt w r b kv vv l lf) : r < w.heap.size ∧ b < w.heap.size ∧ r ≠ b := by
  obtain ⟨M, L, -, h1, -⟩ := h.ex
  exact ⟨h1.lt.1, h1.lt.2, h1.ne⟩
theorem Ranged.but {r : Nat} {lf : List α} (h : Ranged kt w r b kv vv l lf) (k : But R w w') (h1 : ¬ R r) (h2 : ¬ R b) : Ranged kt w' r b kv vv l lf := by
  obtain ⟨M, L, g1, g2, g3⟩ := h.ex
  exact ⟨⟨M, L, g1.but k h2, g2.but k h1 h2, g3⟩, h.sub⟩
theorem Ranged.grow {r : Nat} {lf : List α} (h : Ranged kt w r b kv vv l lf) (k : Grow w w') : Ranged kt w' r b kv vv l lf := h.but k (fun h => h) (fun h => h)
theorem Ranged.left {r : Nat} {lf : List α} (h : Ranged kt w r b kv vv l lf) : leftN w r b = lf.length := by
  obtain ⟨M, L, -, h1, -, -, h2⟩ := h.ex
  rw [h1.left, h2.length_eq, List.length_map]
theorem MapOf.range (ht : Try.prog.underlying t = some (.map kt et)) (h : MapOf kt w b kv vv l) (hn : (l.map kv).Nodup) : ∃ w', (Instr.range t (.map (some b))).run Try.prog w = .ok (.pointer (some ⟨w.heap.size, 0, none⟩)) w' ∧ Grow w w' ∧ w'.heap.size = w.heap.size + 1 ∧ Ranged kt w' w.heap.size b kv vv l l := by
  obtain ⟨M, h1, h2, h3⟩ := h
  obtain ⟨w', hr, hb, hs, hg⟩ := h1.range (t := t) (et := et) ht
  refine ⟨w', hr, hb, hs, ⟨M, M, h1.but hb (fun h => h), hg, h2, h3, ?_⟩, fun x hx => hx⟩
  refine (List.perm_ext_iff_of_nodup ?_ ?_).2 (fun p => ⟨fun hp => ?_, fun hp => ?_⟩)
  · exact h1.apart.imp (fun h e => h (by rw [e]))
  · have : ((l.map fun x => (kv x, vv x)).map (·.1)).Nodup := by rw [List.map_map]; exact hn
    exact (List.pairwise_map.1 this).imp (fun h e => h (by rw [e]))
  · obtain ⟨x, hx, e⟩ := h2 p hp
    exact List.mem_map.2 ⟨x, hx, e.symm⟩
  · obtain ⟨x, hx, rfl⟩ := List.mem_map.1 hp
    exact h3 x hx
/-- The next one, whichever it is. -/
theorem Ranged.next {r : Nat} {lf : List α} (h : Ranged kt w r b kv vv l lf) (ty : TypeId) :
    (lf = [] ∧ (Instr.next (.pointer (some ⟨r, 0, none⟩)) false ty).run Try.prog w = .ok (.tuple #[.bool false]) w) ∨
    ∃ x lf' w', x ∈ l ∧ lf.Perm (x :: lf') ∧ (Instr.next (.pointer (some ⟨r, 0, none⟩)) false ty).run Try.prog w = .ok (.tuple #[.bool true, kv x, vv x]) w' ∧ But (· = r) w w' ∧ w'.heap.size = w.heap.size ∧ Ranged kt w' r b kv vv l lf' ∧ (Instr.entry (.pointer (some ⟨r, 0, none⟩))).run Try.prog w' = .ok (.tuple #[kv x, vv x]) w' := by
  obtain ⟨M, L, h1, h2, h3, h4, h5⟩ := h.ex
  have hne := h2.ne
  rcases h2.next (P := Try.prog) ty with ⟨rfl, hr⟩ | ⟨p, L', w', hp, hperm, hr, hb, hs, hg, hen⟩
  · left
    have := h5.length_eq
    rw [List.length_map] at this
    exact ⟨List.eq_nil_of_length_eq_zero (by simpa using this.symm), hr⟩
  · right
    have hpl : p ∈ lf.map (fun x => (kv x, vv x)) := h5.mem_iff.1 (hperm.mem_iff.2 List.mem_cons_self)
    obtain ⟨x, hx, rfl⟩ := List.mem_map.1 hpl
    have hxl := h.sub x hx
    have hsub := h.sub
    obtain ⟨l1, l2, rfl⟩ := List.append_of_mem hx
    have hpm : (l1 ++ x :: l2).Perm (x :: (l1 ++ l2)) := List.perm_middle
    have h6 : L'.Perm ((l1 ++ l2).map (fun x => (kv x, vv x))) := ((hperm.symm.trans h5).trans (hpm.map _)).cons_inv
    exact ⟨x, l1 ++ l2, w', hxl, hpm, hr, hb, hs, ⟨⟨M, L', h1.but hb (fun e => hne e.symm), hg, h3, h4, h6⟩, fun y hy => hsub y (hpm.mem_iff.2 (List.mem_cons_of_mem _ hy))⟩, hen⟩
/-- One that was handed out is taken out. -/
theorem Ranged.del {r : Nat} {lf : List α} (K : Keyed Try.prog kt) (ht : Try.prog.underlying t = some (.map kt et)) (h : Ranged kt w r b kv vv l lf) {x : α} (hx : x ∈ l) {lt : Lit} (hkey : keyOf Try.prog kt (kv x) = some lt) (hout : ∀ y ∈ lf, kv y ≠ kv x) (hl : ∀ y, y ∈ l' ↔ y ∈ l ∧ kv y ≠ kv x) (ty : TypeId) :
    ∃ w', (Builtin.delete_ #[t, kt] ty #[.map (some b), kv x]).run Try.prog w = .ok (.tuple #[]) w' ∧ Ranged kt w' r b kv vv l' lf ∧ But (· = b) w w' ∧ w'.heap.size = w.heap.size := by
  obtain ⟨M, L, h1, h2, h3, h4, h5⟩ := h.ex
  obtain ⟨w', M', hr, hM, hg, hb, hs, hot⟩ := Rg.del (t := t) (et := et) K ht h1 h2 hkey (h4 x hx) (fun u hu => by
    obtain ⟨y, hy, e⟩ := List.mem_map.1 (h5.mem_iff.1 hu)
    exact hout y hy (Prod.mk.inj e).1) ty
  refine ⟨w', hr, ⟨⟨M', L, hM, hg, fun p hp => ?_, fun y hy => ?_, h5⟩, fun y hy => (hl y).2 ⟨h.sub y hy, hout y hy⟩⟩, hb, hs⟩
  · obtain ⟨h6, h7⟩ := (hot p.1 p.2).1 hp
    obtain ⟨y, hy, e⟩ := h3 p h6
    exact ⟨y, (hl y).2 ⟨hy, fun e2 => h7 (by rw [e]; exact e2)⟩, e⟩
  · obtain ⟨h6, h7⟩ := (hl y).1 hy
    exact (hot _ _).2 ⟨h4 y h6, h7⟩
end
end Go.Proofs.Ytmlladpmecclbaa
/- plan: levels, paths, what a Commit writes, as numbers and lists; no code in it. -/
namespace Go.Proofs.Ytmlladpmecclbaa
open Go.RowKit

structure Pn where
  pages : Int
  budget : Int
  counters : Int
  levels : List Int
  nodes : Int
  head : Int
  heads : Int
  journal : Int
  spill : Int
  total : Int
def pcells (p : Pn) (v : Value) : List Value := [.int .i64 p.pages, .int .i64 p.budget, .int .i64 p.counters, v, .int .i64 p.nodes, .int .i64 p.head, .int .i64 p.heads, .int .i64 p.journal, .int .i64 p.spill, .int .i64 p.total]
abbrev pval (p : Pn) (v : Value) : Value := .agg (pcells p v).toArray
/-- How many parts of a size things begin. -/
def bg (n s : Nat) : Nat := (n + s - 1) / s
def lvN : Nat → Nat → List Nat
  | 0, m => [m]
  | k + 1, m => if m ≤ 1 then [m] else m :: lvN k (bg m 8)
def lvs (c : Nat) : List Nat := lvN 3 (bg c 8)
def toI (l : List Nat) : List Int := l.map (fun j => ((j : Nat) : Int))
theorem toI_len (l : List Nat) : (toI l).length = l.length := List.length_map ..
theorem lvN_one {k m : Nat} (h : m ≤ 1) : lvN k m = [m] := by
  cases k with
  | zero => rfl
  | succ k => unfold lvN; rw [if_pos h]
theorem lvN_more {k m : Nat} (h : ¬ m ≤ 1) : lvN (k + 1) m = m :: lvN k (bg m 8) := by
  rw [lvN, if_neg h]
theorem bg8 {m k : Nat} (h : m ≤ 8 ^ (k + 1)) : bg m 8 ≤ 8 ^ k := by
  unfold bg
  have : 8 ^ (k + 1) = 8 * 8 ^ k := by rw [Nat.pow_succ, Nat.mul_comm]
  omega
theorem bg_pos {m : Nat} (h : 1 ≤ m) : 1 ≤ bg m 8 := by unfold bg; omega
/-- The plan of so many pages and a budget. -/
def plan (n b : Nat) : Pn :=
  let c := bg n 16
  let nd := (lvs c).sum
  let hd := n + c + nd
  let hs := bg (12 + 4 * b) 256
  ⟨n, b, c, toI (lvs c), nd, hd, hs, (hd + hs : Nat), (hd + hs + b : Nat), (hd + hs + b + b : Nat)⟩
/-- Levels are of one of three shapes. -/
theorem lvs_shape {c : Nat} (h1 : 1 ≤ c) (h2 : c ≤ 256) : (c ≤ 8 ∧ lvs c = [1]) ∨ (8 < c ∧ c ≤ 64 ∧ lvs c = [bg c 8, 1]) ∨ (64 < c ∧ lvs c = [bg c 8, bg (bg c 8) 8, 1]) := by
  unfold lvs
  by_cases a : bg c 8 ≤ 1
  · left
    refine ⟨by unfold bg at a; omega, ?_⟩
    rw [lvN_one a, show bg c 8 = 1 by have := bg_pos h1; omega]
  · right
    rw [lvN_more a]
    by_cases b : bg (bg c 8) 8 ≤ 1
    · left
      refine ⟨by unfold bg at a; omega, by unfold bg at b; omega, ?_⟩
      rw [lvN_one b, show bg (bg c 8) 8 = 1 by have := bg_pos (bg_pos h1); omega]
    · right
      rw [lvN_more b]
      have d : bg (bg (bg c 8) 8) 8 = 1 := by unfold bg; omega
      refine ⟨by unfold bg at b; omega, ?_⟩
      rw [lvN_one (by omega), d]
end Go.Proofs.Ytmlladpmecclbaa
/- journal: heads as rows of bytes, made and read; no code in it. -/
namespace Go.Proofs.Ytmlladpmecclbaa
open Go.RowKit

/-- What a head says, as bytes. -/
def hdB (V : Nat) (l : List Nat) : List Nat := be V 8 ++ be l.length 4 ++ l.flatMap fun x => be x 4
theorem flat4_len : ∀ l : List Nat, (l.flatMap fun x => be x 4).length = 4 * l.length
  | [] => rfl
  | x :: l => by rw [List.flatMap_cons, List.length_append, be_len, flat4_len l, List.length_cons]; omega
theorem hdB_len (V : Nat) (l : List Nat) : (hdB V l).length = 12 + 4 * l.length := by
  unfold hdB
  rw [List.length_append, List.length_append, be_len, be_len, flat4_len]
theorem flat4_lt {l : List Nat} : ∀ z ∈ l.flatMap (fun x => be x 4), z < 256 := fun z hz => by
  obtain ⟨x, -, hx⟩ := List.mem_flatMap.1 hz
  exact be_lt _ _ z hx
theorem hdB_lt (V : Nat) (l : List Nat) : ∀ z ∈ hdB V l, z < 256 := fun z hz => by
  unfold hdB at hz
  rcases List.mem_append.1 hz with hz | hz
  · rcases List.mem_append.1 hz with hz | hz
    · exact be_lt _ _ z hz
    · exact be_lt _ _ z hz
  · exact flat4_lt z hz
/-- Block i of bytes, with bytes 00 behind them. -/
def cutB (b : List Nat) (i : Nat) : List Nat := (b.drop (256 * i)).take 256 ++ List.replicate (256 - ((b.drop (256 * i)).take 256).length) 0
def cutN (b : List Nat) (m : Nat) : List (List Nat) := (List.range m).map (cutB b)
def padB (b : List Nat) (m : Nat) : List Nat := b ++ List.replicate (256 * m - b.length) 0
theorem cutB_len (b : List Nat) (i : Nat) : (cutB b i).length = 256 := by
  unfold cutB
  rw [List.length_append, List.length_replicate]
  have : ((b.drop (256 * i)).take 256).length ≤ 256 := by rw [List.length_take]; omega
  omega
theorem cutB_lt {b : List Nat} (h : ∀ z ∈ b, z < 256) (i : Nat) : ∀ z ∈ cutB b i, z < 256 := fun z hz => by
  unfold cutB at hz
  rcases List.mem_append.1 hz with hz | hz
  · exact h z (List.mem_of_mem_drop (List.mem_of_mem_take hz))
  · rw [(List.mem_replicate.1 hz).2]; decide
theorem cutN_len (b : List Nat) (m : Nat) : (cutN b m).length = m := by simp [cutN]
theorem cutN_mem {b : List Nat} {m : Nat} : ∀ x ∈ cutN b m, x.length = 256 := fun x hx => by
  obtain ⟨i, -, rfl⟩ := List.mem_map.1 hx
  exact cutB_len b i
theorem cutN_get {b : List Nat} {m i : Nat} (h : i < m) : (cutN b m).getD i [] = cutB b i := by
  simp [cutN, List.getD, h]
theorem padB_len {b : List Nat} {m : Nat} (h : b.length ≤ 256 * m) : (padB b m).length = 256 * m := by
  unfold padB
  rw [List.length_append, List.length_replicate]; omega
theorem padB_cut {b : List Nat} {m i : Nat} (h : b.length ≤ 256 * m) (hi : i < m) : ((padB b m).drop (256 * i)).take 256 = cutB b i := by
  unfold padB cutB
  rw [List.drop_append, List.take_append, List.length_drop, List.drop_replicate, List.take_replicate]
  congr 2
  rw [List.length_take, List.length_drop]
  omega
theorem flat_cut : ∀ (m : Nat) (P : List Nat), 256 * m ≤ P.length → ((List.range m).map fun i => (P.drop (256 * i)).take 256).flatten = P.take (256 * m)
  | 0, P, _ => by simp
  | m + 1, P, h => by
    rw [List.range_succ, List.map_append, List.flatten_append, flat_cut m P (by omega), show 256 * (m + 1) = 256 * m + 256 by omega, List.take_add]
    simp
theorem cutN_flat {b : List Nat} {m : Nat} (h : b.length ≤ 256 * m) : (cutN b m).flatten = padB b m := by
  have e : cutN b m = (List.range m).map fun i => ((padB b m).drop (256 * i)).take 256 := by
    unfold cutN
    refine List.map_congr_left (fun i hi => (padB_cut h (List.mem_range.1 hi)).symm)
  rw [e, flat_cut m _ (by rw [padB_len h]; omega), List.take_of_length_le (by rw [padB_len h]; omega)]
theorem flat_len256 : ∀ (hs : List (List Nat)), (∀ x ∈ hs, x.length = 256) → hs.flatten.length = 256 * hs.length
  | [], _ => rfl
  | x :: hs, h => by
    rw [List.flatten_cons, List.length_append, h x List.mem_cons_self, flat_len256 hs (fun y hy => h y (List.mem_cons_of_mem _ hy)), List.length_cons]
    omega
/-- Numbers read out of bytes. -/
def jval (zs : List Nat) : Nat := zs.foldl (fun a z => 256 * a + z) 0
theorem jval_from (a : Nat) (zs : List Nat) : zs.foldl (fun a z => 256 * a + z) a = a * 256 ^ zs.length + jval zs := by
  unfold jval
  induction zs generalizing a with
  | nil => simp
  | cons z r ih =>
    simp only [List.foldl_cons, List.length_cons]
    rw [ih (256 * a + z), ih (256 * 0 + z), Nat.pow_succ]
    have e1 : (256 * a + z) * 256 ^ r.length = 256 * a * 256 ^ r.length + z * 256 ^ r.length := Nat.add_mul _ _ _
    have e2 : a * (256 ^ r.length * 256) = 256 * a * 256 ^ r.length := by rw [Nat.mul_comm (256 ^ r.length) 256, ← Nat.mul_assoc, Nat.mul_comm a 256]
    have e3 : (256 * 0 + z) * 256 ^ r.length = z * 256 ^ r.length := by rw [Nat.mul_zero, Nat.zero_add]
    omega
theorem jval_be (N k : Nat) : jval (be N k) = N % 256 ^ k := by
  induction k with
  | zero => simp [be, jval, Nat.mod_one]
  | succ k ih =>
    have e : jval (be N (k + 1)) = (N / 256 ^ k % 256) * 256 ^ k + N % 256 ^ k := by
      show (be N k).foldl (fun a z => 256 * a + z) (256 * 0 + N / 256 ^ k % 256) = _
      rw [jval_from, be_len, ih, Nat.mul_zero, Nat.zero_add]
    rw [e, Nat.pow_succ, Nat.mod_mul, Nat.mul_comm]
    omega
def jver (F : List Nat) : Nat := jval (F.take 8)
def jcnt (F : List Nat) : Nat := jval ((F.drop 8).take 4)
def jnum (F : List Nat) (i : Nat) : Nat := jval ((F.drop (12 + 4 * i)).take 4)
def jbls (F : List Nat) (n : Nat) : List Nat := (List.range n).map (jnum F)
theorem flat4_get : ∀ (l : List Nat) (R : List Nat) (i : Nat), i < l.length → (((l.flatMap fun x => be x 4) ++ R).drop (4 * i)).take 4 = be (l.getD i 0) 4
  | [], _, i, h => absurd h (by simp)
  | x :: l, R, 0, _ => by
    rw [Nat.mul_zero, List.drop_zero, List.flatMap_cons, List.append_assoc]
    exact List.take_left' (be_len _ _)
  | x :: l, R, i + 1, h => by
    rw [List.flatMap_cons, List.append_assoc, show 4 * (i + 1) = 4 + 4 * i by omega, ← List.drop_drop, List.drop_left' (be_len _ _)]
    exact flat4_get l R i (by simpa using h)
theorem hdB_read {V : Nat} {l R : List Nat} (hV : V < 18446744073709551616) (hl : l.length ≤ 65536) (hx : ∀ x ∈ l, x ≤ 65535) :
    jver (hdB V l ++ R) = V ∧ jcnt (hdB V l ++ R) = l.length ∧ jbls (hdB V l ++ R) l.length = l := by
  have e : hdB V l ++ R = be V 8 ++ (be l.length 4 ++ ((l.flatMap fun x => be x 4) ++ R)) := by unfold hdB; simp only [List.append_assoc]
  refine ⟨?_, ?_, ?_⟩
  · unfold jver
    rw [e, List.take_left' (be_len _ _), jval_be]
    exact Nat.mod_eq_of_lt (by simpa using hV)
  · unfold jcnt
    rw [e, List.drop_left' (be_len _ _), List.take_left' (be_len _ _), jval_be]
    exact Nat.mod_eq_of_lt (by omega)
  · unfold jbls
    apply List.ext_getElem (by simp)
    intro i h1 h2
    rw [List.getElem_map, List.getElem_range]
    unfold jnum
    rw [e, show 12 + 4 * i = 8 + (4 + 4 * i) by omega, ← List.drop_drop, List.drop_left' (be_len _ _), ← List.drop_drop, List.drop_left' (be_len _ _), flat4_get l R i h2, jval_be]
    have hm := hx l[i] (List.getElem_mem h2)
    rw [show l.getD i 0 = l[i] by simp [List.getD, h2]]
    exact Nat.mod_eq_of_lt (by omega)
/-- What Head makes is read so. -/
theorem head_read {V m b : Nat} {l : List Nat} {hs : List (List Nat)} (hV : V < 18446744073709551616) (hl : l.length ≤ b) (hb : b ≤ 256) (hm : 12 + 4 * b ≤ 256 * m) (hx : ∀ x ∈ l, x ≤ 65535) (h : cutN (hdB V l) m = hs) :
    jver hs.flatten = V ∧ jcnt hs.flatten = l.length ∧ jbls hs.flatten (min (jcnt hs.flatten) b) = l := by
  rw [← h, cutN_flat (by rw [hdB_len]; omega)]
  unfold padB
  obtain ⟨h1, h2, h3⟩ := hdB_read (R := List.replicate (256 * m - (hdB V l).length) 0) hV (by omega) hx
  refine ⟨h1, h2, ?_⟩
  rw [h2, Nat.min_eq_left hl]
  exact h3
/-- What Open answers, the budget being one: of what Head makes this head; or that there is none. -/
def OpIs (b m : Nat) (hs : List (List Nat)) (v : Nat) (l : List Nat) (e : Int) : Prop :=
  (e = 0 ∧ v < 18446744073709551616 ∧ l.length ≤ b ∧ (∀ x ∈ l, x ≤ 65535) ∧ cutN (hdB v l) m = hs) ∨
  (e = 3 ∧ v = 0 ∧ l = [] ∧ ∀ V L, V < 18446744073709551616 → L.length ≤ b → (∀ x ∈ L, x ≤ 65535) → cutN (hdB V L) m ≠ hs)
theorem OpIs.uniq {b m : Nat} {hs : List (List Nat)} {v v' : Nat} {l l' : List Nat} {e e' : Int} (hb : b ≤ 256) (hm : 12 + 4 * b ≤ 256 * m) (h : OpIs b m hs v l e) (k : OpIs b m hs v' l' e') : v = v' ∧ l = l' ∧ e = e' := by
  rcases h with ⟨a1, a2, a3, a4, a5⟩ | ⟨a1, a2, a3, a4⟩ <;> rcases k with ⟨b1, b2, b3, b4, b5⟩ | ⟨b1, b2, b3, b4⟩
  · obtain ⟨p1, -, p3⟩ := head_read a2 a3 hb hm a4 a5
    obtain ⟨q1, -, q3⟩ := head_read b2 b3 hb hm b4 b5
    exact ⟨p1.symm.trans q1, p3.symm.trans q3, a1.trans b1.symm⟩
  · exact absurd a5 (b4 v l a2 a3 a4)
  · exact absurd b5 (a4 v' l' b2 b3 b4)
  · exact ⟨a2.trans b2.symm, a3.trans b3.symm, a1.trans b1.symm⟩
theorem OpIs.form {b m : Nat} {hs : List (List Nat)} (h : hs.length ≠ m ∨ ∃ x ∈ hs, x.length ≠ 256) : OpIs b m hs 0 [] 3 := by
  refine .inr ⟨rfl, rfl, rfl, fun V L _ _ _ e => ?_⟩
  rcases h with h | ⟨x, hx, hn⟩
  · exact h (by rw [← e, cutN_len])
  · rw [← e] at hx
    exact hn (cutN_mem x hx)
/-- By the numbers that are read: OK just if they make it again. -/
theorem OpIs.read {b m : Nat} {hs : List (List Nat)} (hb : b ≤ 256) (hm : 12 + 4 * b ≤ 256 * m) (hv : jver hs.flatten < 18446744073709551616) :
    ((∀ x ∈ jbls hs.flatten (min (jcnt hs.flatten) b), x ≤ 65535) ∧ cutN (hdB (jver hs.flatten) (jbls hs.flatten (min (jcnt hs.flatten) b))) m = hs → OpIs b m hs (jver hs.flatten) (jbls hs.flatten (min (jcnt hs.flatten) b)) 0) ∧
    (¬ ((∀ x ∈ jbls hs.flatten (min (jcnt hs.flatten) b), x ≤ 65535) ∧ cutN (hdB (jver hs.flatten) (jbls hs.flatten (min (jcnt hs.flatten) b))) m = hs) → OpIs b m hs 0 [] 3) ∧
    (b < jcnt hs.flatten → OpIs b m hs 0 [] 3) := by
  refine ⟨fun ⟨h1, h2⟩ => .inl ⟨rfl, hv, by simp [jbls]; omega, h1, h2⟩, fun h => .inr ⟨rfl, rfl, rfl, fun V L q1 q2 q3 e => ?_⟩, fun h => .inr ⟨rfl, rfl, rfl, fun V L q1 q2 q3 e => ?_⟩⟩
  · obtain ⟨p1, -, p3⟩ := head_read q1 q2 hb hm q3 e
    refine h ⟨by rw [p3]; exact q3, ?_⟩
    rw [p1, p3]; exact e
  · obtain ⟨-, p2, -⟩ := head_read q1 q2 hb hm q3 e
    omega
/-- How many blocks a head has. -/
def hds (b : Nat) : Nat := bg (12 + 4 * b) 256
theorem hds_room (b : Nat) : 12 + 4 * b ≤ 256 * hds b := by unfold hds bg; omega
theorem hds_le {b : Nat} (h : b ≤ 256) : 1 ≤ hds b ∧ hds b ≤ 5 := by unfold hds bg; omega
end Go.Proofs.Ytmlladpmecclbaa
/- plan: begun, levels, Top, there. -/
namespace Go.Proofs.Ytmlladpmecclbaa
open Go.RowKit

theorem tdiv_nat (a b : Nat) : Int.tdiv (a : Int) (b : Int) = ((a / b : Nat) : Int) := (Int.ofNat_tdiv a b).symm
set_option maxRecDepth 100000 in
theorem begun_any (w : World) (n s : Nat) (h1 : n ≤ 100000) (h0 : 1 ≤ s) (h2 : s ≤ 100000) : Calls Try.prog 38 #[.int .i64 (n : Int), .int .i64 (s : Int)] w fun e w' => e = .returned (.int .i64 (bg n s : Int)) ∧ w' = w := by
  obtain ⟨N, hN⟩ : ∃ N : Int, N = (n : Int) := ⟨_, rfl⟩
  obtain ⟨S, hS⟩ : ∃ S : Int, S = (s : Int) := ⟨_, rfl⟩
  have hq : Int.tdiv (N + S - 1) S = (bg n s : Int) := by
    rw [hN, hS, show (n : Int) + (s : Int) - 1 = ((n + s - 1 : Nat) : Int) by omega, tdiv_nat]; rfl
  rw [← hN, ← hS]
  have hN0 : 0 ≤ N := by omega
  have hN1 : N ≤ 100000 := by omega
  have hS0 : 1 ≤ S := by omega
  have hS1 : S ≤ 100000 := by omega
  have hSn : ¬ S = 0 := by omega
  have hBb : (bg n s : Int) ≤ 200000 := by
    have : bg n s ≤ n + s - 1 := Nat.div_le_self _ _
    omega
  have hB0 : (0 : Int) ≤ (bg n s : Int) := by omega
  generalize (bg n s : Int) = B at hq hBb hB0
  clear hN hS
  go_enter Try.func38, Try.ntmps38
  go_wp2
  go_ret
  exact ⟨rfl, rfl⟩
/-- A plan in a box. -/
structure PBox (w : World) (p : Pn) (v : Value) (wb : World) (gp : Nat) : Prop where
  ew : wb = w.alloc (.cells (pcells p v).toArray 48)
  eg : gp = w.heap.size
  grow : Grow w wb
  blk : Blk wb gp 48 (pcells p v)
theorem box_pl (w : World) (p : Pn) (v : Value) : ∃ wb gp, PBox w p v wb gp :=
  ⟨_, _, rfl, rfl, (But.refl _ w).alloc _, Blk.new rfl⟩
theorem iPl : (Try.prog.info? 48).map (·.size) = some 10 := by kernel_rfl
/-- A sum, a difference, as the machine makes them. -/
def ad (a b : Int) : Int := IntKind.i64.wrap (a + b)
def sb (a b : Int) : Int := IntKind.i64.wrap (a - b)
theorem ad_ok {a b : Int} (h1 : -9223372036854775808 ≤ a + b) (h2 : a + b ≤ 9223372036854775807) : ad a b = a + b := wrapI h1 h2
theorem sb_ok {a b : Int} (h1 : -9223372036854775808 ≤ a - b) (h2 : a - b ≤ 9223372036854775807) : sb a b = a - b := wrapI h1 h2
def Pn.top (p : Pn) : Int := sb (ad (ad p.pages p.counters) p.nodes) 1
def Pn.has (p : Pn) (x : Int) : Bool := decide (0 ≤ x ∧ x < p.pages)
/-- A row of numbers, new since w. -/
structure Own (w w' : World) (v : Value) (ks : List Int) : Prop where
  row : w'.ownsRow 0 3 1 v ks.length (numv ks)
  new : ∀ k, v.ownBlock = some k → w.heap.size ≤ k
theorem Own.grow {w w' w2 : World} {v : Value} {ks : List Int} (h : Own w w' v ks) (k : Grow w' w2) : Own w w2 v ks := ⟨ownsRow_grow h.row k, h.new⟩
/-- A number put behind an own row. -/
theorem Own.more {w w3 w4 : World} {v v4 : Value} {F : List Int} {x : Int} (h : Own w w3 v F) (hap : Appd w3 w4 3 1 v v4 (F.length + 1) (numv F ++ numv [x])) (hg : Grow w w3) : Own w w4 v4 (F ++ [x]) ∧ Grow w w4 := by
  refine ⟨⟨?_, fun k hk => ?_⟩, hg.then hap.but (fun b hb e => by have := h.new b e; omega)⟩
  · rw [List.length_append, List.length_singleton, show numv (F ++ [x]) = numv F ++ numv [x] by simp [numv]]
    exact hap.own
  · rcases hap.at' with e | e
    · exact h.new k (by rw [← e]; exact hk)
    · rw [e] at hk
      have := Option.some.inj hk
      have := hg.size
      omega
set_option maxRecDepth 100000 in
theorem levels_any (w : World) (c : Nat) (h1 : 1 ≤ c) (h2 : c ≤ 256) : Calls Try.prog 39 #[.int .i64 (c : Int)] w fun e w' => ∃ v, e = .returned v ∧ Own w w' v (toI (lvs c)) ∧ Grow w w' := by
  have HB := Hid.mk' (begun_any w c 8 (by omega) (by decide) (by decide))
  obtain ⟨m0, hm⟩ : ∃ m0, m0 = bg c 8 := ⟨_, rfl⟩
  have hL : lvs c = lvN 3 m0 := by rw [hm]; rfl
  have hm1 : 1 ≤ m0 := by rw [hm]; exact bg_pos h1
  have hm2 : m0 ≤ 8 ^ 3 := by rw [hm]; exact bg8 (k := 3) (by omega)
  rw [← hm] at HB
  have HL := Hid.mk' hL
  have HM := Hid.mk' (And.intro hm1 hm2)
  obtain ⟨w1, hw1⟩ : ∃ w1, w1 = w.alloc (.cells #[.int .i64 (m0 : Int)] 3) := ⟨_, rfl⟩
  have HO1 : Hid (Own w w1 (.slice (some ⟨w.heap.size, 0, none⟩) 1 1) (toI [m0])) := by
    rw [hw1]
    exact ⟨(RowOf.lit (Fr := fun _ => True) (n := 1) (Blk.new (L := numv [(m0 : Int)]) rfl) rfl (by decide) trivial).own, fun k hk => by have h9 : some w.heap.size = some k := hk; have := Option.some.inj h9; omega⟩
  have HG1 : Hid (Grow w w1) := by rw [hw1]; exact (But.refl _ w).alloc _
  have HW1 := Hid.mk' hw1
  clear hm hL hm1 hm2 hw1
  go_enter Try.func39, Try.ntmps39
  go_wp2_with fail
  refine Calls.mono HB.out ?_
  rintro e w' ⟨rfl, hw⟩
  have h3 := hw.symm
  subst h3
  clear hw HB
  go_wp2_with (first
    | (refine wpList_runH rfl (exec_row1 (v := .int .i64 (m0 : Int)) Try.underlying26 infNum (by decide) (by decide) rfl rfl rfl) ?_)
    | fail)
  rw [← HW1.out]
  clear HW1
  go_loopw [3, 4] (fun mv rv wr => ∃ (m k : Nat) (A : List Nat) (r : Value), mv = .int .i64 (m : Int) ∧ r = rv ∧ k ≤ 3 ∧ 1 ≤ m ∧ m ≤ 8 ^ k ∧ A.length ≤ 3 - k ∧ lvs c = A ++ lvN k m ∧ Own w wr r (toI (A ++ [m])) ∧ Grow w wr) (fun mv _ _ => (intOf mv).toNat)
  case atStart => exact ⟨m0, 3, [], _, rfl, rfl, by decide, HM.out.1, HM.out.2, by decide, HL.out, HO1.out, HG1.out⟩
  case round =>
    clear HM HL HO1 HG1
    rename_i rv
    obtain ⟨m, k, A, r, rfl, rfl, hk, hm1, hm8, hA, hL, hO, hG⟩ := hrel
    have HO := Hid.mk' hO
    have HG := Hid.mk' hG
    have HL := Hid.mk' hL
    have HM := Hid.mk' (And.intro hm1 hm8)
    have HK := Hid.mk' hk
    have HA := Hid.mk' hA
    have hmu : m ≤ 512 := Nat.le_trans hm8 (show 8 ^ k ≤ 8 ^ 3 from Nat.pow_le_pow_right (by decide) hk)
    have hmi : (m : Int) ≤ 512 := by omega
    clear hO hG hL hm8 hk hA
    by_cases hgt : 1 < m
    · have hgti : (1 : Int) < (m : Int) := by omega
      obtain ⟨k, rfl⟩ : ∃ j, k = j + 1 := by
        cases k with
        | zero => have := HM.out.2; simp at this; omega
        | succ j => exact ⟨j, rfl⟩
      have HB := Hid.mk' (begun_any wr m 8 (by omega) (by decide) (by decide))
      obtain ⟨m2, hm2⟩ : ∃ m2, m2 = bg m 8 := ⟨_, rfl⟩
      rw [← hm2] at HB
      have HM2 : Hid (1 ≤ m2 ∧ m2 ≤ 8 ^ k ∧ m2 < m) := Hid.mk' (by rw [hm2]; exact ⟨bg_pos hm1, bg8 HM.out.2, by unfold bg; omega⟩)
      have HL2 : Hid (lvs c = (A ++ [m]) ++ lvN k m2) := Hid.mk' (by rw [HL.out, lvN_more (by omega), List.append_assoc, hm2]; rfl)
      obtain ⟨F, hF⟩ : ∃ F, F = toI (A ++ [m]) := ⟨_, rfl⟩
      rw [← hF] at HO
      have HFE := Hid.mk' hF
      have HFL : Hid (F.length ≤ 8) := Hid.mk' (by rw [hF, toI_len, List.length_append, List.length_singleton]; have := HA.out; omega)
      have HAL : Hid (Grow wr (wr.alloc (.cells #[.int .i64 (m2 : Int)] 3))) := (But.refl _ wr).alloc _
      have HBL : Hid (Blk (wr.alloc (.cells #[.int .i64 (m2 : Int)] 3)) wr.heap.size 3 (numv [(m2 : Int)])) := Blk.new (L := numv [(m2 : Int)]) rfl
      clear hF hm2 hm1 hmu HM HL
      go_wp2_with fail
      refine Calls.mono HB.out ?_
      rintro e w' ⟨rfl, hw⟩
      have h3 := hw.symm
      subst h3
      clear hw HB
      go_wp2_with (first
        | (refine wpList_runH rfl (exec_row1 (v := .int .i64 (m2 : Int)) Try.underlying26 infNum (by decide) (by decide) rfl rfl rfl) ?_)
        | (refine wpList_someH rfl (exec_append (v := r) (n := F.length) (xs := numv F) (news := numv [(m2 : Int)]) Try.underlying26 infNum rfl (by decide) rfl rfl (ownsRow_grow HO.out.row HAL.out) rfl rfl (fun j u hj => HBL.out.cells0 j u hj) (fun u hu => by rw [show u = .int .i64 (m2 : Int) by simpa [numv] using hu]; rfl) (by have := HFL.out; omega) (by decide)) ?_; intro v4 w4 hap)
        | fail)
      obtain ⟨h5, h6⟩ := (HO.out.grow HAL.out).more hap (HG.out.trans HAL.out)
      refine ⟨⟨m2, k, A ++ [m], v4, rfl, rfl, by have := HK.out; omega, HM2.out.1, HM2.out.2.1, by rw [List.length_append, List.length_singleton]; have := HA.out; have := HK.out; omega, HL2.out, ?_, h6⟩, by simp [intOf]; have := HM2.out.2.2; omega⟩
      rw [show toI ((A ++ [m]) ++ [m2]) = F ++ [(m2 : Int)] by rw [HFE.out]; unfold toI; rw [List.map_append]; rfl]
      exact h5
    · have hgti : ¬ (1 : Int) < (m : Int) := by omega
      have HE : Hid (lvs c = A ++ [m]) := Hid.mk' (by rw [HL.out, lvN_one (by omega)])
      go_wp2
      go_ret
      exact ⟨_, rfl, by rw [HE.out]; exact HO.out, HG.out⟩
end Go.Proofs.Ytmlladpmecclbaa
/- plan: Of. -/
namespace Go.Proofs.Ytmlladpmecclbaa
open Go.RowKit

theorem wpList_store1 {w : World} {ops : Array Oper} {rest : List Oper} {o : Oper} {a : Act} {Q : Exit → Act → World → Prop} (hgd : o.guard = none) {t T : TypeId} (hsz : (Try.prog.info? t).map (·.size) = some 1) {x y : Operand} (ho : o.op = .store t x y)
    {g i : Nat} {v : Value} {L : List Value} (hx : a.eval x = .pointer (some ⟨g, i, none⟩)) (hy : a.eval y = v) (hv : v.oneCell' = true) (hb : Blk w g T L) (hi : i < L.length)
    (h : ∀ w', Blk w' g T (L.set i v) → But (· = g) w w' → wpList Try.prog ops Q rest (a.put o.dst undef) w') : wpList Try.prog ops Q (o :: rest) a w :=
  wpList_skipH hgd (exec_store hsz ho hx hy hv hb hi) (h _ (hb.set i v) (But.set1 w g i v))
theorem results_plan_tmp {P : Program} {fn : Func} {p u : Tmp} {ty : TypeId} (h : fn.results = #[.cell p ty, .tmp u]) (tmps : Array Value) (w : World) (g : Nat) (t : TypeId) (cs : Array Value) (d : TypeDesc) (v : Value)
    (hp : tmps.getD p undef = .pointer (some ⟨g, 0, none⟩)) (hg : w.heap[g]? = some (.cells cs t (0, 0))) (hu : P.underlying ty = some d) (hd : (match d with | .struct _ | .array _ _ => true | _ => false) = true) (hi : (P.info? ty).map (·.size) = some cs.size) (hv : tmps.getD u undef = v) :
    (results fn tmps).run P w = .ok (.tuple #[.agg cs, v]) w := by
  have hp' : tmps[p]?.getD undef = .pointer (some ⟨g, 0, none⟩) := by simpa using hp
  have hv' : tmps[u]?.getD undef = v := by simpa using hv
  simp [results, h, hp', hv', asAddr, run_loadVar_row w g t ty cs (0, 0) d hg hu hd hi]
theorem iIn : (Try.prog.info? 3).map (·.size) = some 1 := by kernel_rfl
theorem iSl : (Try.prog.info? 26).map (·.size) = some 1 := by kernel_rfl
def Pn.zero : Pn := ⟨0, 0, 0, [], 0, 0, 0, 0, 0, 0⟩
abbrev noS : Value := .slice none 0 0
theorem zPl (w : World) : (zeroValue 48).run Try.prog w = .ok (.agg (pcells Pn.zero noS).toArray) w := by kernel_rfl
theorem bldPl (a b : Int) (w : World) : (Instr.build 48 #[(0, .int .i64 a), (1, .int .i64 b)]).run Try.prog w = .ok (.agg (pcells ⟨a, b, 0, [], 0, 0, 0, 0, 0, 0⟩ noS).toArray) w := by kernel_rfl
theorem pcells_one (p : Pn) {v : Value} (hv : v.oneCell' = true) : ∀ u ∈ pcells p v, u.oneCell' = true := by
  intro u hu
  unfold pcells at hu
  simp only [List.mem_cons, List.not_mem_nil, or_false] at hu
  rcases hu with rfl | rfl | rfl | rfl | rfl | rfl | rfl | rfl | rfl | rfl <;> first | rfl | exact hv
def OfTo (w : World) (n b : Nat) (e : Ending) (w' : World) : Prop := ∃ v, e = .returned (.tuple #[pval (plan n b) v, .int .i64 0]) ∧ Own w w' v (plan n b).levels ∧ Grow w w'
set_option maxRecDepth 100000 in
theorem planof_not (w : World) (x y : Int) (h : ¬ (1 ≤ x ∧ x ≤ 4096 ∧ 1 ≤ y ∧ y ≤ 256)) : Calls Try.prog 27 #[.int .i64 x, .int .i64 y] w fun e w' => e = .returned (.tuple #[pval Pn.zero noS, .int .i64 1]) ∧ Grow w w' := by
  obtain ⟨g0, hg0⟩ : ∃ g, g = w.heap.size := ⟨_, rfl⟩
  obtain ⟨W0, hW0⟩ : ∃ W0, W0 = w.alloc (.cells (pcells Pn.zero noS).toArray 48) := ⟨_, rfl⟩
  have hT0 : Grow w W0 := by rw [hW0]; exact (But.refl _ w).alloc _
  have hB0 : Blk W0 g0 48 (pcells Pn.zero noS) := by rw [hW0]; exact Blk.new hg0.symm
  have HT0 := Hid.mk' hT0
  have HB0 := Hid.mk' hB0
  have HG := Hid.mk' hg0
  have HGE : Hid (w.heap.size ≤ g0) := Hid.mk' (by omega)
  have HW := Hid.mk' hW0
  clear hg0 hW0 hT0 hB0
  rcases (by omega : x < 1 ∨ (¬ x < 1 ∧ 4096 < x) ∨ (¬ x < 1 ∧ ¬ 4096 < x ∧ y < 1) ∨ (¬ x < 1 ∧ ¬ 4096 < x ∧ ¬ y < 1 ∧ 256 < y)) with h1 | ⟨h1, h2⟩ | ⟨h1, h2, h3⟩ | ⟨h1, h2, h3, h4⟩
  all_goals
    clear h
    go_enter Try.func27, Try.ntmps27
    go_upto_region 1 with (first
      | (refine wpList_runH rfl (exec_allocF rfl (zPl _)) ?_)
      | fail)
    rw [← HW.out, ← HG.out]
    clear HW HG
    go_upto_region 2 with fail
    go_wp2_with (first
      | (refine wpList_store_at rfl _ _ _ rfl g0 0 (pcells Pn.zero noS) rfl rfl 48 [] (pcells Pn.zero noS) [] (by simpa using HB0.out) rfl rfl iPl (pcells_one _ rfl) ?_; intro w3 hb3 hbut3; rw [List.nil_append, List.append_nil] at hb3)
      | fail)
    refine bodyPost_ret (results_plan_tmp rfl _ _ g0 _ _ _ _ rfl hb3 Try.underlying48 rfl iPl rfl) rfl ⟨rfl, ?_⟩
    exact HT0.out.then hbut3 (fun b hb e => by have := HGE.out; omega)
theorem Own.sl {w w' : World} {v : Value} {ks : List Int} (h : Own w w' v ks) : ∃ a c, v = .slice a ks.length c := own_sl h.row
theorem Own.nums {w w' : World} {v : Value} {ks : List Int} (h : Own w w' v ks) (hk : ∀ x ∈ ks, -9223372036854775808 ≤ x ∧ x ≤ 9223372036854775807) (hl : ks.length ≤ 140737488355328) : Nums w' v ks := Nums.ofRow h.row hk hl
theorem Own.but {R : Nat → Prop} {w w' w2 : World} {v : Value} {ks : List Int} (h : Own w w' v ks) (k : But R w' w2) (hr : ∀ j, v.ownBlock = some j → ¬ R j) : Own w w2 v ks := ⟨ownsRow_but h.row k hr, h.new⟩
theorem row_cellP {w : World} {e : TypeId} {v : Value} {L : List Value} (h : w.ownsRow 0 e 1 v L.length L) (h0 : 0 < L.length) : ∃ b cap, v = .slice (some ⟨b, 0, none⟩) L.length cap ∧ ∀ i u, L[i]? = some u → w.cell? ⟨b, i, none⟩ = some u := by
  have hr : RowOf w (fun _ => True) e 1 v L.length L := ⟨h, fun _ _ => trivial⟩
  obtain ⟨ao, cap, e1, h1⟩ := hr.shape
  obtain ⟨b, e2, -, -, hc⟩ := h1 (by omega)
  exact ⟨b, cap, by rw [e1, e2], hc⟩
theorem lvs_le {c : Nat} (h1 : 1 ≤ c) (h2 : c ≤ 256) : (lvs c).length ≤ 3 ∧ 1 ≤ (lvs c).length ∧ (lvs c).sum ≤ 37 ∧ ∀ x ∈ lvs c, 1 ≤ x ∧ x ≤ 32 := by
  rcases lvs_shape h1 h2 with ⟨a, e⟩ | ⟨a, b, e⟩ | ⟨a, e⟩
  · rw [e]; simp
  · rw [e]
    refine ⟨by simp, by simp, ?_, fun x hx => ?_⟩
    · simp; unfold bg; omega
    · simp at hx; rcases hx with rfl | rfl
      · unfold bg; omega
      · omega
  · rw [e]
    refine ⟨by simp, by simp, ?_, fun x hx => ?_⟩
    · simp; unfold bg; omega
    · simp at hx; rcases hx with rfl | rfl | rfl
      · unfold bg; omega
      · unfold bg; omega
      · omega
theorem toI_i64 {l : List Nat} (h : ∀ x ∈ l, x ≤ 1000000) : ∀ x ∈ toI l, -9223372036854775808 ≤ x ∧ x ≤ 9223372036854775807 := fun x hx => by
  unfold toI at hx
  obtain ⟨y, hy, rfl⟩ := List.mem_map.1 hx
  have := h y hy
  omega
/-- What memory is amid Of. -/
structure OfM (w wr : World) (g0 g1 : Nat) (v : Value) (L : List Nat) (p : Pn) : Prop where
  one : Blk wr g1 48 (pcells p v)
  zero : Blk wr g0 48 (pcells Pn.zero noS)
  own : Own w wr v (toI L)
  grow : Grow w wr
  ne : g0 ≠ g1 ∧ w.heap.size ≤ g0 ∧ w.heap.size ≤ g1
  nv : ∀ k, v.ownBlock = some k → k ≠ g0 ∧ k ≠ g1
theorem OfM.put {w wr w' : World} {g0 g1 : Nat} {v : Value} {L : List Nat} {p p' : Pn} (h : OfM w wr g0 g1 v L p) (hb : Blk w' g1 48 (pcells p' v)) (k : But (· = g1) wr w') : OfM w w' g0 g1 v L p' :=
  ⟨hb, h.zero.but k h.ne.1, h.own.but k (fun j hj e => (h.nv j hj).2 e), h.grow.then k (fun j hj e => by have := h.ne.2.2; omega), h.ne, h.nv⟩
theorem OfM.last {w wr w' : World} {g0 g1 : Nat} {v : Value} {L : List Nat} {p : Pn} (h : OfM w wr g0 g1 v L p) (k : But (· = g0) wr w') : Own w w' v (toI L) ∧ Grow w w' :=
  ⟨h.own.but k (fun j hj e => (h.nv j hj).1 e), h.grow.then k (fun j hj e => by have := h.ne.2.1; omega)⟩
set_option maxRecDepth 100000 in
set_option maxHeartbeats 4000000 in
theorem planof_any (w : World) (n b : Nat) (h1 : 1 ≤ n) (h2 : n ≤ 4096) (h3 : 1 ≤ b) (h4 : b ≤ 256) : Calls Try.prog 27 #[.int .i64 (n : Int), .int .i64 (b : Int)] w (OfTo w n b) := by
  obtain ⟨g0, hg0⟩ : ∃ g, g = w.heap.size := ⟨_, rfl⟩
  obtain ⟨W0, hW0⟩ : ∃ W0, W0 = w.alloc (.cells (pcells Pn.zero noS).toArray 48) := ⟨_, rfl⟩
  have hT0 : Grow w W0 := by rw [hW0]; exact (But.refl _ w).alloc _
  have hB0 : Blk W0 g0 48 (pcells Pn.zero noS) := by rw [hW0]; exact Blk.new hg0.symm
  obtain ⟨g1, hg1⟩ : ∃ g, g = W0.heap.size := ⟨_, rfl⟩
  obtain ⟨W1, hW1⟩ : ∃ W1, W1 = W0.alloc (.cells (pcells Pn.zero noS).toArray 48) := ⟨_, rfl⟩
  have hT1 : Grow w W1 := by rw [hW1]; exact hT0.alloc _
  have hB1 : Blk W1 g1 48 (pcells Pn.zero noS) := by rw [hW1]; exact Blk.new hg1.symm
  have hB01 : Blk W1 g0 48 (pcells Pn.zero noS) := by rw [hW1]; exact hB0.but ((But.refl (fun _ => False) W0).alloc _) (fun h => h)
  have HNE : Hid (g0 ≠ g1 ∧ w.heap.size ≤ g0 ∧ w.heap.size ≤ g1) := by
    have := hB0.lt
    have := hT0.size
    exact ⟨by omega, by omega, by omega⟩
  have HT1 := Hid.mk' hT1
  have HB1 := Hid.mk' hB1
  have HB01 := Hid.mk' hB01
  have HG0 := Hid.mk' hg0
  have HG1 := Hid.mk' hg1
  have HW0 := Hid.mk' hW0
  have HW1 := Hid.mk' hW1
  obtain ⟨c, hc⟩ : ∃ c, c = bg n 16 := ⟨_, rfl⟩
  have hc1 : 1 ≤ c := by rw [hc]; unfold bg; omega
  have hc2 : c ≤ 256 := by rw [hc]; unfold bg; omega
  obtain ⟨L, hL⟩ : ∃ L, L = lvs c := ⟨_, rfl⟩
  have hLL := lvs_le hc1 hc2
  rw [← hL] at hLL
  obtain ⟨nd, hnd⟩ : ∃ nd, nd = L.sum := ⟨_, rfl⟩
  obtain ⟨q, hq⟩ : ∃ q : Nat, q = 12 + 4 * b := ⟨_, rfl⟩
  obtain ⟨hs, hhs⟩ : ∃ hs, hs = bg q 256 := ⟨_, rfl⟩
  have hsb : hs ≤ 5 := by rw [hhs]; unfold bg; omega
  obtain ⟨hd, hhd⟩ : ∃ hd, hd = n + c + nd := ⟨_, rfl⟩
  have HPL : Hid (plan n b = ⟨n, b, c, toI L, nd, hd, hs, (hd + hs : Nat), (hd + hs + b : Nat), (hd + hs + b + b : Nat)⟩) := by
    subst hhd hhs hq hnd hL hc
    rfl
  have HBG1 := Hid.mk' (fun w => begun_any w n 16 (by omega) (by decide) (by decide))
  have HBG2 := Hid.mk' (fun w => begun_any w q 256 (by omega) (by decide) (by decide))
  have HLV := Hid.mk' (fun w => levels_any w c hc1 hc2)
  rw [← hc] at HBG1
  rw [← hhs] at HBG2
  rw [← hL] at HLV
  have HLL := Hid.mk' hLL
  have HND := Hid.mk' hnd
  have en : (n : Int) ≤ 4096 := by omega
  have en1 : (1 : Int) ≤ (n : Int) := by omega
  have eb : (b : Int) ≤ 256 := by omega
  have eb1 : (1 : Int) ≤ (b : Int) := by omega
  have n1 : ¬ (n : Int) < 1 := by omega
  have n2 : ¬ (4096 : Int) < (n : Int) := by omega
  have b1 : ¬ (b : Int) < 1 := by omega
  have b2 : ¬ (256 : Int) < (b : Int) := by omega
  have ec : (c : Int) ≤ 256 := by omega
  have hds : hd ≤ 4389 := by have := hLL.2.2.1; omega
  have HQ : Hid ((12 : Int) + 4 * (b : Int) = (q : Int)) := Hid.mk' (by omega)
  have HSM : Hid ((n : Int) + (c : Int) + (nd : Int) = (hd : Int) ∧ (hd : Int) + (hs : Int) = ((hd + hs : Nat) : Int) ∧ ((hd + hs : Nat) : Int) + (b : Int) = ((hd + hs + b : Nat) : Int) ∧ ((hd + hs + b : Nat) : Int) + (b : Int) = ((hd + hs + b + b : Nat) : Int)) := ⟨by omega, by omega, by omega, by omega⟩
  have HBD : Hid ((nd : Int) ≤ 37 ∧ (hd : Int) ≤ 4389 ∧ (hs : Int) ≤ 5) := ⟨by have := hLL.2.2.1; omega, by omega, by omega⟩
  clear h1 h2 h3 h4 hg0 hg1 hW0 hW1 hT0 hT1 hB0 hB1 hB01 hc hc1 hc2 hL hLL hnd hq hhs hsb hhd hds
  go_enter Try.func27, Try.ntmps27
  go_upto_region 1 with (first
    | (refine wpList_runH rfl (exec_allocF rfl (zPl _)) ?_)
    | fail)
  rw [← HW0.out, ← HG0.out]
  clear HW0 HG0
  go_upto_region 4 with (first
    | (refine wpList_runH rfl (exec_allocF rfl (zPl _)) ?_; rw [← HW1.out, ← HG1.out])
    | (refine wpList_build_run rfl _ [_, _] rfl [(0, .int .i64 (n : Int)), (1, .int .i64 (b : Int))] rfl _ (bldPl _ _ _) ?_)
    | (refine wpList_store_at rfl _ _ _ rfl g1 0 (pcells ⟨n, b, 0, [], 0, 0, 0, 0, 0, 0⟩ noS) rfl rfl 48 [] (pcells Pn.zero noS) [] (by simpa using HB1.out) rfl rfl iPl (pcells_one _ rfl) ?_; intro w2 hb2 hbut2; rw [List.nil_append, List.append_nil] at hb2)
    | fail)
  have HB2 := Hid.mk' hb2
  have HZ2 := Hid.mk' (HB01.out.but hbut2 HNE.out.1)
  have HT2 : Hid (Grow w w2) := HT1.out.then hbut2 (fun j hj e => by have := HNE.out.2.2; omega)
  clear hb2 hbut2 HW1 HG1 HB1 HB01 HT1
  go_wp2_with fail
  refine Calls.mono (HBG1.out _) ?_
  rintro e w' ⟨rfl, hw⟩
  have h3 := hw.symm
  subst h3
  clear hw HBG1
  go_upto_region 5 with (first
    | (refine wpList_store1 (g := g1) (i := 2) (v := .int .i64 (c : Int)) rfl iIn rfl rfl rfl rfl HB2.out (show 2 < 10 by decide) ?_; intro w3 hb3 hbut3)
    | fail)
  have hb3' : Blk w3 g1 48 (pcells ⟨n, b, c, [], 0, 0, 0, 0, 0, 0⟩ noS) := hb3
  have c2 : w3.cell? ⟨g1, 2, none⟩ = some (.int .i64 (c : Int)) := hb3'.cell 2
  have HB3 := Hid.mk' hb3'
  have HZ3 := Hid.mk' (HZ2.out.but hbut3 HNE.out.1)
  have HT3 : Hid (Grow w w3) := HT2.out.then hbut3 (fun j hj e => by have := HNE.out.2.2; omega)
  clear hb3 hb3' hbut3 HB2 HZ2 HT2
  go_wp2_with fail
  refine Calls.mono (HLV.out _) ?_
  rintro e w4 ⟨v4, rfl, ho4, hg4⟩
  obtain ⟨la, lc, e4⟩ := ho4.sl
  rw [toI_len] at e4
  obtain ⟨ln, hln⟩ : ∃ ln, ln = L.length := ⟨_, rfl⟩
  rw [← hln] at e4
  have HLN := Hid.mk' hln
  subst e4
  have HO4 := Hid.mk' (show Own w w4 _ _ from ⟨ho4.row, fun k hk => Nat.le_trans HT3.out.size (ho4.new k hk)⟩)
  have HN4 : Hid (∀ k, (Value.slice la ln lc).ownBlock = some k → k ≠ g0 ∧ k ≠ g1) := fun k hk => by
    have := ho4.new k hk
    have := HB3.out.lt
    have := HZ3.out.lt
    exact ⟨by omega, by omega⟩
  have HB4 := Hid.mk' (HB3.out.but hg4 (fun h => h))
  have HZ4 := Hid.mk' (HZ3.out.but hg4 (fun h => h))
  have HT4 := Hid.mk' (HT3.out.trans hg4)
  clear ho4 hln hg4 c2 HB3 HZ3 HT3 HLV
  go_upto_region 6 with (first
    | (refine wpList_store1 (g := g1) (i := 3) (v := .slice la ln lc) rfl iSl rfl rfl rfl rfl HB4.out (show 3 < 10 by decide) ?_; intro w5 hb5 hbut5)
    | fail)
  have HI0 : Hid (OfM w w5 g0 g1 (.slice la ln lc) L ⟨n, b, c, [], 0, 0, 0, 0, 0, 0⟩) :=
    ⟨hb5, HZ4.out.but hbut5 HNE.out.1, HO4.out.but hbut5 (fun j hj e => (HN4.out j hj).2 e), HT4.out.then hbut5 (fun j hj e => by have := HNE.out.2.2; omega), HNE.out, HN4.out⟩
  have c3 : w5.cell? ⟨g1, 3, none⟩ = some (.slice la ln lc) := HI0.out.one.cell 3
  clear hb5 hbut5 HB4 HZ4 HT4 HO4
  go_wp2
  have hlni : (ln : Int) ≤ 3 := by have := HLL.out.1; have := HLN.out; omega
  go_loopw [37] (fun iv wr => ∃ i : Nat, i ≤ ln ∧ iv = .int .i64 i ∧ OfM w wr g0 g1 (.slice la ln lc) L ⟨n, b, c, [], ((L.take i).sum : Nat), 0, 0, 0, 0, 0⟩) (fun iv _ => ln - (intOf iv).toNat)
  case atStart => exact ⟨0, Nat.zero_le _, rfl, HI0.out⟩
  case round =>
    clear HI0 c3
    obtain ⟨i, hil, rfl, hI⟩ := hrel
    by_cases hlt : i < ln
    · have hlti : (i : Int) < (ln : Int) := by omega
      obtain ⟨u, hu⟩ : ∃ u, L[i]? = some u := ⟨_, List.getElem?_eq_getElem (by have := HLN.out; omega)⟩
      obtain ⟨b4, c4, e4, hcell⟩ := row_cellP (e := 3) (L := numv (toI L)) (by rw [show (numv (toI L)).length = (toI L).length from List.length_map ..]; exact hI.own.row) (by rw [show (numv (toI L)).length = (toI L).length from List.length_map .., toI_len]; have := HLN.out; omega)
      simp only [Value.slice.injEq] at e4
      obtain ⟨rfl, -, rfl⟩ := e4
      have cu := hcell i (.int .i64 (u : Int)) (by unfold numv toI; rw [List.getElem?_map, List.getElem?_map, hu]; rfl)
      obtain ⟨sm, hsm⟩ : ∃ sm, sm = (L.take i).sum := ⟨_, rfl⟩
      have hsu : (L.take (i + 1)).sum = sm + u := by
        have h3 := List.getElem?_eq_some_iff.1 hu
        rw [List.take_succ_eq_append_getElem h3.1, List.sum_append, h3.2, hsm]; simp
      have hs37 : sm + u ≤ 37 := by
        rw [← hsu]
        refine Nat.le_trans ?_ HLL.out.2.2.1
        have := congrArg List.sum (List.take_append_drop (i + 1) L)
        rw [List.sum_append] at this
        omega
      have esm : (sm : Int) + (u : Int) = ((sm + u : Nat) : Int) := by omega
      have hsu1 : ((sm + u : Nat) : Int) ≤ 37 := by omega
      rw [← hsm] at hI
      have HI := Hid.mk' hI
      have HSU := Hid.mk' hsu
      have c4 : wr.cell? ⟨g1, 4, none⟩ = some (.int .i64 (sm : Int)) := hI.one.cell 4
      obtain ⟨su, hsu2⟩ : ∃ su : Int, su = ((sm + u : Nat) : Int) := ⟨_, rfl⟩
      rw [← hsu2] at esm hsu1
      have HSS : Hid (((sm + u : Nat) : Int) = su) := hsu2.symm
      clear hI hu hcell hsm hsu hs37 hil hsu2
      go_wp2_with (first
        | (refine wpList_store1 (g := g1) (i := 4) (v := .int .i64 su) rfl iIn rfl rfl rfl rfl HI.out.one (show 4 < 10 by decide) ?_; intro w6 hb6 hbut6)
        | fail)
      exact ⟨⟨i + 1, by omega, by go_num, by rw [HSU.out, HSS.out]; exact HI.out.put hb6 hbut6⟩, by simp [intOf]; omega⟩
    · have hie : i = ln := by omega
      have hlti : ¬ (i : Int) < (ln : Int) := by omega
      rw [hie, HLN.out, List.take_of_length_le (Nat.le_refl _), ← HND.out] at hI
      rw [← HLN.out] at hI
      have HI := Hid.mk' hI
      have d0 : wr.cell? ⟨g1, 0, none⟩ = some (.int .i64 (n : Int)) := hI.one.cell 0
      have d2 : wr.cell? ⟨g1, 2, none⟩ = some (.int .i64 (c : Int)) := hI.one.cell 2
      have d4 : wr.cell? ⟨g1, 4, none⟩ = some (.int .i64 (nd : Int)) := hI.one.cell 4
      obtain ⟨q1, q2, q3, q4⟩ := HSM.out
      obtain ⟨q5, q6, q7⟩ := HBD.out
      obtain ⟨s7, hs7⟩ : ∃ s : Int, s = ((hd + hs : Nat) : Int) := ⟨_, rfl⟩
      obtain ⟨s8, hs8⟩ : ∃ s : Int, s = ((hd + hs + b : Nat) : Int) := ⟨_, rfl⟩
      obtain ⟨s9, hs9⟩ : ∃ s : Int, s = ((hd + hs + b + b : Nat) : Int) := ⟨_, rfl⟩
      rw [← hs7] at q2 q3
      rw [← hs8] at q3 q4
      rw [← hs9] at q4
      have HPE : Hid (plan n b = ⟨n, b, c, toI L, nd, hd, hs, s7, s8, s9⟩) := by rw [hs7, hs8, hs9]; exact HPL.out
      have hQ := HQ.out
      have q8 : s7 ≤ 5000 := by omega
      have q9 : s8 ≤ 5500 := by omega
      clear hI hie hil hs7 hs8 hs9 HSM HBD HPL HQ hlt
      go_upto_region 12 with (first
        | (refine wpList_store1 (g := g1) (i := 5) (v := .int .i64 (hd : Int)) rfl iIn rfl rfl rfl rfl HI.out.one (show 5 < 10 by decide) ?_; intro w6 hb6 hbut6)
        | fail)
      have H6 := Hid.mk' (HI.out.put (p' := ⟨n, b, c, [], nd, hd, 0, 0, 0, 0⟩) hb6 hbut6)
      clear hb6 hbut6 d0 d2 d4 HI
      go_wp2_with fail
      refine Calls.mono (HBG2.out _) ?_
      rintro e w' ⟨rfl, hw⟩
      have h3 := hw.symm
      subst h3
      clear hw HBG2
      go_upto_region 13 with (first
        | (refine wpList_store1 (g := g1) (i := 6) (v := .int .i64 (hs : Int)) rfl iIn rfl rfl rfl rfl H6.out.one (show 6 < 10 by decide) ?_; intro w7 hb7 hbut7)
        | fail)
      have H7 := Hid.mk' (H6.out.put (p' := ⟨n, b, c, [], nd, hd, hs, 0, 0, 0⟩) hb7 hbut7)
      have d5 : w7.cell? ⟨g1, 5, none⟩ = some (.int .i64 (hd : Int)) := H7.out.one.cell 5
      have d6 : w7.cell? ⟨g1, 6, none⟩ = some (.int .i64 (hs : Int)) := H7.out.one.cell 6
      clear hb7 hbut7 H6
      go_upto_region 14 with (first
        | (refine wpList_store1 (g := g1) (i := 7) (v := .int .i64 s7) rfl iIn rfl rfl rfl rfl H7.out.one (show 7 < 10 by decide) ?_; intro w8 hb8 hbut8)
        | fail)
      have H8 := Hid.mk' (H7.out.put (p' := ⟨n, b, c, [], nd, hd, hs, s7, 0, 0⟩) hb8 hbut8)
      have d7 : w8.cell? ⟨g1, 7, none⟩ = some (.int .i64 s7) := H8.out.one.cell 7
      clear hb8 hbut8 H7 d5 d6
      go_upto_region 15 with (first
        | (refine wpList_store1 (g := g1) (i := 8) (v := .int .i64 s8) rfl iIn rfl rfl rfl rfl H8.out.one (show 8 < 10 by decide) ?_; intro w9 hb9 hbut9)
        | fail)
      have H9 := Hid.mk' (H8.out.put (p' := ⟨n, b, c, [], nd, hd, hs, s7, s8, 0⟩) hb9 hbut9)
      have d8 : w9.cell? ⟨g1, 8, none⟩ = some (.int .i64 s8) := H9.out.one.cell 8
      clear hb9 hbut9 H8 d7
      go_upto_region 16 with (first
        | (refine wpList_store1 (g := g1) (i := 9) (v := .int .i64 s9) rfl iIn rfl rfl rfl rfl H9.out.one (show 9 < 10 by decide) ?_; intro w10 hb10 hbut10)
        | fail)
      have H10 := Hid.mk' (H9.out.put (p' := ⟨n, b, c, [], nd, hd, hs, s7, s8, s9⟩) hb10 hbut10)
      have HCW : Hid (∀ j u, (pcells ⟨n, b, c, [], nd, hd, hs, s7, s8, s9⟩ (.slice la ln lc))[j]? = some u → w10.cell? ((⟨g1, 0, none⟩ : Addr).add j) = some u) := fun j u hj => by
        rw [addr_add, Nat.zero_add, H10.out.one.cell j]; exact hj
      clear hb10 hbut10 H9 d8
      go_wp2_with (first
        | (refine wpList_load_cells rfl _ _ rfl ⟨g1, 0, none⟩ rfl (pcells ⟨n, b, c, [], nd, hd, hs, s7, s8, s9⟩ (.slice la ln lc)) _ HCW.out Try.underlying48 rfl iPl ?_)
        | (refine wpList_store_at rfl _ _ _ rfl g0 0 (pcells ⟨n, b, c, [], nd, hd, hs, s7, s8, s9⟩ (.slice la ln lc)) rfl rfl 48 [] (pcells Pn.zero noS) [] (by simpa using H10.out.zero) rfl rfl iPl (pcells_one _ rfl) ?_; intro w11 hb11 hbut11; rw [List.nil_append, List.append_nil] at hb11)
        | fail)
      obtain ⟨ho, hg⟩ := H10.out.last hbut11
      refine bodyPost_ret (results_plan_tmp rfl _ _ g0 _ _ _ _ rfl hb11 Try.underlying48 rfl iPl rfl) rfl ⟨.slice la ln lc, ?_, ?_, hg⟩
      · rw [HPE.out]; rfl
      · rw [HPE.out]; exact ho
end Go.Proofs.Ytmlladpmecclbaa
/- plan: Parent. -/
namespace Go.Proofs.Ytmlladpmecclbaa
open Go.RowKit

def dv (a b : Int) : Int := IntKind.i64.wrap (Int.tdiv a b)
abbrev plc (a b : Int) : List Value := [.int .i64 a, .int .i64 b]
structure Pc where
  block : Int
  at' : Int
  e : Int
def Pc.ret (x : Pc) : Value := .tuple #[.agg (plc x.block x.at').toArray, .int .i64 x.e]
def parGo (b t : Int) : Int → Int → List Int → Pc
  | _, _, [] => if b = t then ⟨0, 0, 5⟩ else ⟨0, 0, 1⟩
  | first, many, a :: ls => if sb b first < many then ⟨ad (ad first many) (dv (sb b first) 8), Int.tmod (sb b first) 8, 0⟩ else parGo b t (ad first many) a ls
theorem parGo_nil (b t f m : Int) : parGo b t f m [] = if b = t then ⟨0, 0, 5⟩ else ⟨0, 0, 1⟩ := rfl
theorem parGo_cons (b t f m a : Int) (ls : List Int) : parGo b t f m (a :: ls) = if sb b f < m then ⟨ad (ad f m) (dv (sb b f) 8), Int.tmod (sb b f) 8, 0⟩ else parGo b t (ad f m) a ls := rfl
def Pn.par (p : Pn) (b : Int) : Pc := if b < 0 then ⟨0, 0, 1⟩ else if b < p.pages then ⟨ad p.pages (dv b 16), b % 16, 0⟩ else parGo b p.top p.pages p.counters p.levels
theorem plc_one (a b : Int) : ∀ u ∈ plc a b, u.oneCell' = true := by
  intro u hu
  simp only [List.mem_cons, List.not_mem_nil, or_false] at hu
  rcases hu with rfl | rfl <;> rfl
end Go.Proofs.Ytmlladpmecclbaa
/- plan: climb, whatever visit is. -/
namespace Go.Proofs.Ytmlladpmecclbaa
open Go.RowKit

theorem wrap_in (x : Int) : i64 (IntKind.i64.wrap x) := by
  unfold i64
  simp [IntKind.wrap, IntKind.bits, IntKind.signed]
  omega
theorem Nums.keep {R : Nat → Prop} {w w' : World} {v : Value} {fs : List Int} (h : Nums w v fs) (k : But R w w') (hr : 0 < fs.length → ∀ j, v.ownBlock = some j → ¬ R j) : Nums w' v fs := by
  rcases Nat.eq_zero_or_pos fs.length with h0 | h0
  · obtain ⟨h1, h2, h3 | ⟨h4, -⟩⟩ := h
    · exact ⟨h1, h2, .inl h3⟩
    · omega
  · exact h.but k (fun j hj _ => hr h0 j hj)
theorem Nums.low {w : World} {v : Value} {fs : List Int} (h : Nums w v fs) (h0 : 0 < fs.length) : ∀ j, v.ownBlock = some j → j < w.heap.size := by
  obtain ⟨b, off, cap, rfl, -, hb, -⟩ := h.at h0
  intro j hj
  have h9 : some b = some j := hj
  have := Option.some.inj h9
  omega
def climbL : Int → Int → Int → List Int → List Int
  | a, f, _, [] => [ad f a]
  | a, f, m, b :: ls => ad f a :: climbL (dv a 8) (ad f m) b ls
def climbT : Int → Int → Int → List Int → List Int
  | _, _, _, [] => []
  | a, f, m, b :: ls => climbL (dv a 8) (ad f m) b ls
theorem climb_eq (a f m : Int) (ls : List Int) : climbL a f m ls = ad f a :: climbT a f m ls := by cases ls <;> rfl
theorem climbT_cons (a f m b : Int) (ls : List Int) : climbT a f m (b :: ls) = climbL (dv a 8) (ad f m) b ls := rfl
def Pn.path (p : Pn) (x : Int) : List Int := climbL (dv x 16) p.pages p.counters p.levels
def runB (B : List Int → Int → Bool) : List Int → List Int → List Int
  | ds, [] => ds
  | ds, x :: t => if B ds x then runB B (ds ++ [x]) t else ds ++ [x]
theorem runB_cons (B : List Int → Int → Bool) (ds : List Int) (x : Int) (t : List Int) : runB B ds (x :: t) = if B ds x then runB B (ds ++ [x]) t else ds ++ [x] := rfl
/-- New blocks are kept. -/
def FF (F : Nat → Prop) (w w' : World) : Nat → Prop := fun b => F b ∨ (w.heap.size ≤ b ∧ b < w'.heap.size)
def ClTo (I : (Nat → Prop) → World → List Int → Prop) (F : Nat → Prop) (w : World) (R : List Int) (e : Ending) (w' : World) : Prop := e = .returned (.tuple #[]) ∧ (∃ F', (∀ b, F b → F' b) ∧ I F' w' R) ∧ But (fun b => ¬ F b) w w'
end Go.Proofs.Ytmlladpmecclbaa
/- plan: Path. -/
namespace Go.Proofs.Ytmlladpmecclbaa
open Go.RowKit

/-- What memory is amid Path: the row so far is in the variable g. -/
structure PathI (g : Nat) (F : Nat → Prop) (w : World) (ds : List Int) : Prop where
  ex : ∃ r, Blk w g 26 [r] ∧ w.ownsRow 0 3 1 r ds.length (numv ds) ∧ ∀ k, r.ownBlock = some k → ¬ F k ∧ k ≠ g
  nf : ¬ F g
  lt : ∀ b, F b → b < w.heap.size
theorem PathI.same {g : Nat} {F : Nat → Prop} {w w' : World} {ds : List Int} (h : PathI g F w ds) (k : Grow w w') : PathI g F w' ds := by
  obtain ⟨r, h1, h2, h3⟩ := h.ex
  exact ⟨⟨r, h1.but k (fun h => h), ownsRow_grow h2 k, h3⟩, h.nf, fun b hb => Nat.lt_of_lt_of_le (h.lt b hb) k.size⟩
theorem PathI.new {g : Nat} {F : Nat → Prop} {w w' : World} {ds : List Int} (h : PathI g F w ds) (k : Grow w w') : PathI g (FF F w w') w' ds := by
  obtain ⟨r, h1, h2, h3⟩ := h.ex
  refine ⟨⟨r, h1.but k (fun h => h), ownsRow_grow h2 k, fun j hj => ⟨fun hf => ?_, (h3 j hj).2⟩⟩, fun hf => ?_, fun b hb => ?_⟩
  · rcases hf with hf | hf
    · exact (h3 j hj).1 hf
    · have := (World.ownsRow.lt h2 j hj).2
      omega
  · rcases hf with hf | hf
    · exact h.nf hf
    · have := h1.lt
      omega
  · rcases hb with hb | hb
    · exact Nat.lt_of_lt_of_le (h.lt b hb) k.size
    · exact hb.2
theorem run_true : ∀ (l ds : List Int), runB (fun _ _ => true) ds l = ds ++ l
  | [], ds => (List.append_nil ds).symm
  | x :: t, ds => by rw [runB_cons, if_pos rfl, run_true t (ds ++ [x]), List.append_assoc]; rfl
def PathTo (w : World) (l : List Int) (e : Ending) (w' : World) : Prop := ∃ v, e = .returned (.tuple #[v, .int .i64 0]) ∧ Own w w' v l ∧ Grow w w'
theorem zSl (w : World) : (zeroValue 26).run Try.prog w = .ok (.slice none 0 0) w := by kernel_rfl
end Go.Proofs.Ytmlladpmecclbaa
/- plan: Need. -/
namespace Go.Proofs.Ytmlladpmecclbaa
open Go.RowKit Go.Maps

def ins (S : List Int) (x : Int) : List Int := if x ∈ S then S else S ++ [x]
def adds (S ds : List Int) : List Int := ds.foldl ins S
theorem adds_more (S ds : List Int) (x : Int) : adds S (ds ++ [x]) = ins (adds S ds) x := by unfold adds; rw [List.foldl_append]; rfl
theorem mem_ins {S : List Int} {x y : Int} : y ∈ ins S x ↔ y ∈ S ∨ y = x := by
  unfold ins
  split
  · rename_i h
    exact ⟨.inl, fun h2 => h2.elim id (fun e => by rw [e]; exact h)⟩
  · simp
theorem ins_nodup {S : List Int} (h : S.Nodup) (x : Int) : (ins S x).Nodup := by
  unfold ins
  split
  · exact h
  · rename_i hx
    rw [List.nodup_append]
    refine ⟨h, by simp, fun a ha b hb e => ?_⟩
    simp at hb
    subst hb
    exact hx (by rw [← e]; exact ha)
abbrev unit0 : Int → Value := fun _ => .agg #[]
/-- Whether a path goes on. -/
def more (S ds : List Int) (y : Int) : Bool := !decide (y ∈ adds S ds)
def addP (p : Pn) (S : List Int) (x : Int) : List Int := if p.has x then adds (ins S x) (runB (more (ins S x)) [] (p.path x)) else S
theorem fold_take {α β : Type} (f : α → β → α) (a : α) (l : List β) (i : Nat) (x : β) (h : l[i]? = some x) : (l.take (i + 1)).foldl f a = f ((l.take i).foldl f a) x := by
  have h3 := List.getElem?_eq_some_iff.1 h
  rw [List.take_succ_eq_append_getElem h3.1, List.foldl_append, h3.2]; rfl
end Go.Proofs.Ytmlladpmecclbaa
/- The reference's Pick: what is left of a number, for any divisor. -/
namespace Go.Proofs.Ytmlladpmecclbaa
open Go.RowKit

theorem pick_any (x n : Int) (w : World) (h0 : 0 < n) (h1 : n ≤ 1000000000) :
    Calls Try.prog 11 #[.int .i64 x, .int .i64 n] w fun e w' => e = .returned (.int .i64 (x % n)) ∧ w' = w := by
  have ht1 : x.tmod n < n := Int.tmod_lt_of_pos x h0
  have ht2 : -n < x.tmod n := by
    have := Int.lt_tmod_of_pos x h0
    omega
  obtain ⟨m, hm⟩ : ∃ m, x.tmod n = m := ⟨_, rfl⟩
  have hem : x % n = if m < 0 then m + n else m := by
    rw [← hm, Int.tmod_eq_emod]
    have h5 := Int.emod_nonneg x (b := n) (by omega)
    have h6 := Int.emod_lt_of_pos x h0
    split
    · rw [if_neg (by omega)]; omega
    · split <;> omega
  rw [hm] at ht1 ht2
  have HEM := Hid.mk' hem
  have hn0 : ¬ n = 0 := by omega
  clear hem
  have hw : IntKind.i64.wrap m = m := by simp [IntKind.wrap, IntKind.bits, IntKind.signed]; omega
  by_cases hneg : m < 0
  · go_enter Try.func11, Try.ntmps11
    go_wp2
    go_ret
    refine ⟨?_, rfl⟩
    rw [HEM.out, if_pos hneg]; rfl
  · go_enter Try.func11, Try.ntmps11
    go_wp2
    go_ret
    refine ⟨?_, rfl⟩
    rw [HEM.out, if_neg (by omega)]; rfl
end Go.Proofs.Ytmlladpmecclbaa
/- A region that draws its order, all of whose operations but the last one yield the same values in every world of a class (they read, or call what only makes new memory), the last one waiting for all others. -/
namespace Go.Proofs.Ytmlladpmecclbaa
open Go.RowKit
variable {P : Program} {l : List Oper} {o : Oper} {Q : Exit → Act → World → Prop}
theorem region_class {id : Nat} {a : Act} {w : World} (C : World → Prop) (hm : P.follows .mixedOrders = true) (hB : Region.lexB .any l.toArray = true) (hg : l.all (fun x => x.guard.isNone) = true) (hgo : o.guard = none) (ha : ahead (l ++ [o]).toArray = true) (hf : lastFull l o = true)
    (h0 : C w.drew) (h : wpQuiet P l.toArray C (fun a' => ∀ w', C w' → wpList P (l ++ [o]).toArray Q [o] a' w') l a) : (Code.region id (l ++ [o]).toArray true).wp P Q a w := by
  simp only [Region.lexB, Bool.and_eq_true] at hB
  refine wp_region_any hm ?_
  have hq := wpAnyQ_lex (C := C) (md := .any) hB.1 l 0 (Array.replicate l.length false) a (by simp) (by simpa using hB.2) h
  have e : Array.replicate (l ++ [o]).toArray.size false = (List.replicate l.length false ++ [false]).toArray := by
    rw [← List.replicate_succ']; simp
  rw [e]
  have e2 : (l ++ [o]).toArray.size = l.length + 1 := by simp
  rw [e2]
  refine last_inv (C := C) (Qq := fun a' => ∀ w', C w' → wpList P (l ++ [o]).toArray Q [o] a' w') hg hgo ha hf (fun a w hC h => h w hC) l.length (List.replicate l.length false) a _ (by simp) (by simp) ?_ h0 (by simpa using hq)
  intro i x _ h1
  simp only [List.getD, List.getElem?_replicate] at h1
  split at h1 <;> cases h1
variable {ops : Array Oper} {C : World → Prop} {rest : List Oper} {a : Act} {Qa : Act → Prop}
/-- An operation that yields v in every world of the class. -/
theorem class_val (v : Value) (hg : o.guard = none) (h : ∀ w, C w → (execOp a.eval o).run P w = .ok (.value v) w) (h2 : ∀ K : Act → Prop, (∀ a, wpQuiet P ops C Qa rest a → K a) → K (a.put o.dst v)) : wpQuiet P ops C Qa (o :: rest) a := by
  unfold wpQuiet
  have e : Region.wanted o (yielded ops a.tmps) = true := by unfold Region.wanted; rw [hg]
  rw [if_pos e]
  refine ⟨v, fun w hw => ?_, h2 _ (fun _ h => h)⟩
  unfold Oper.quietAt
  rw [h w hw]
  exact ⟨rfl, rfl⟩
/-- A call that yields v in every world of the class, and leaves one. -/
theorem class_call (v : Value) (f : FuncId) (args : Array Value) (hg : o.guard = none) (h : ∀ w, C w → (execOp a.eval o).run P w = .ok (.enter f args) w) (hc : ∀ w, C w → Calls P f args w fun e w' => e = .returned v ∧ C w') (h2 : ∀ K : Act → Prop, (∀ a, wpQuiet P ops C Qa rest a → K a) → K (a.put o.dst v)) : wpQuiet P ops C Qa (o :: rest) a := by
  unfold wpQuiet
  have e : Region.wanted o (yielded ops a.tmps) = true := by unfold Region.wanted; rw [hg]
  rw [if_pos e]
  refine ⟨v, fun w hw => ?_, h2 _ (fun _ h => h)⟩
  unfold Oper.quietAt
  rw [h w hw]
  exact ⟨rfl, hc w hw⟩
end Go.Proofs.Ytmlladpmecclbaa
/- Operations behind a guard that holds; regions that draw, all of whose operations yield the same values in every world of a class. -/
namespace Go.Proofs.Ytmlladpmecclbaa
open Go.RowKit
theorem wpList_want {P : Program} {ops : Array Oper} {Q : Exit → Act → World → Prop} {a : Act} {w : World} {rest : List Oper} {o : Oper} (hw : Region.wanted o (yielded ops a.tmps) = true)
    (h : ∀ K : Act → World → Prop, (∀ a w, wpList P ops Q rest a w → K a w) → o.wp P a w K Q) : wpList P ops Q (o :: rest) a w :=
  wpList_step fun K hK => by simp only [hw, if_true]; exact h K hK
/-- A whole array of bytes out of a variable, behind a guard. -/
theorem wpList_load_u8s_g {T : TypeId} {n : Nat} {l : Nat} {e : TypeId} (hu : Try.prog.underlying T = some (.array l e)) (hi : (Try.prog.info? T).map (·.size) = some n)
    {w : World} {ops : Array Oper} {rest : List Oper} {o : Oper} {a : Act} {Q : Exit → Act → World → Prop} (hw : Region.wanted o (yielded ops a.tmps) = true) (x : Operand) (ho : o.op = .load T x)
    (g : Nat) (D : List Nat) (hD : D.length = n) (hx : a.eval x = .pointer (some ⟨g, 0, none⟩)) (hb : Blk w g T (u8s D))
    (h : wpList Try.prog ops Q rest (a.put o.dst (.agg (u8s D).toArray)) w) : wpList Try.prog ops Q (o :: rest) a w :=
  wpList_want hw fun _ hK => op_load_u8s hu hi x ho g D hD hx hb (hK _ _ h)
section
variable {P : Program} {l : List Oper} {o : Oper} {Q : Exit → Act → World → Prop}
theorem region_same {id : Nat} {a : Act} {w : World} (C : World → Prop) (hm : P.follows .mixedOrders = true) (hB : Region.lexB .any l.toArray = true)
    (h0 : C w.drew) (h : wpQuiet P l.toArray C (fun a' => ∀ w', C w' → Q .normal a' w') l a) : (Code.region id l.toArray true).wp P Q a w :=
  wp_region_quiet (C := C) hm hB h0 (by simpa using h)
variable {ops : Array Oper} {C : World → Prop} {rest : List Oper} {a : Act} {Qa : Act → Prop}
theorem guard_val (v : Value) (hw : Region.wanted o (yielded ops a.tmps) = true) (h : ∀ w, C w → (execOp a.eval o).run P w = .ok (.value v) w) (h2 : ∀ K : Act → Prop, (∀ a, wpQuiet P ops C Qa rest a → K a) → K (a.put o.dst v)) : wpQuiet P ops C Qa (o :: rest) a := by
  unfold wpQuiet
  rw [if_pos hw]
  refine ⟨v, fun w hw => ?_, h2 _ (fun _ h => h)⟩
  unfold Oper.quietAt
  rw [h w hw]
  exact ⟨rfl, rfl⟩
theorem guard_call (v : Value) (f : FuncId) (args : Array Value) (hw : Region.wanted o (yielded ops a.tmps) = true) (h : ∀ w, C w → (execOp a.eval o).run P w = .ok (.enter f args) w) (hc : ∀ w, C w → Calls P f args w fun e w' => e = .returned v ∧ C w') (h2 : ∀ K : Act → Prop, (∀ a, wpQuiet P ops C Qa rest a → K a) → K (a.put o.dst v)) : wpQuiet P ops C Qa (o :: rest) a := by
  unfold wpQuiet
  rw [if_pos hw]
  refine ⟨v, fun w hw => ?_, h2 _ (fun _ h => h)⟩
  unfold Oper.quietAt
  rw [h w hw]
  exact ⟨rfl, hc w hw⟩
/-- An operation behind a guard that does not hold. -/
theorem guard_skip (hw : Region.wanted o (yielded ops a.tmps) = false) (h2 : ∀ K : Act → Prop, (∀ a, wpQuiet P ops C Qa rest a → K a) → K (a.put o.dst undef)) : wpQuiet P ops C Qa (o :: rest) a := by
  unfold wpQuiet
  rw [if_neg (by rw [hw]; decide)]
  exact h2 _ (fun _ h => h)
end
/-- A whole array of bytes, as what an operation runs to. -/
theorem run_load_u8s {T : TypeId} {n l : Nat} {e : TypeId} (hu : Try.prog.underlying T = some (.array l e)) (hi : (Try.prog.info? T).map (·.size) = some n) {w : World} {o : Oper} {a : Act} {x : Operand} {g : Nat} {D : List Nat} (hb : Blk w g T (u8s D)) (hD : D.length = n)
    (ho : o.op = .load T x) (hx : a.eval x = .pointer (some ⟨g, 0, none⟩)) : (execOp a.eval o).run Try.prog w = .ok (.value (.agg (u8s D).toArray)) w := by
  have h := run_loadVar_cells w ⟨g, 0, none⟩ T (u8s D) _ (by
    intro j v hv
    have e : (⟨g, 0, none⟩ : Addr).add j = ⟨g, j, none⟩ := by simp [Addr.add]; exact fun h => h.symm
    rw [e, hb.cell]; exact hv) hu rfl (by rw [hi]; simp [u8s, hD])
  unfold execOp
  simp only [ho, hx, Instr.loadAt, Instr.sureAddr, Sem.run_bind, Sem.run_pure, Result.andThen_ok, h]
end Go.Proofs.Ytmlladpmecclbaa
/- The document's example for plan; a plan of numbers brought right. -/
namespace Go.Proofs.Ytmlladpmecclbaa
open Go.RowKit

theorem ex_levels : (plan 20 4).levels = [1] := by decide +kernel
theorem ex_plan : plan 20 4 = ⟨20, 4, 2, [1], 1, 23, 1, 24, 28, 32⟩ := by
  have e2 : bg 20 16 = 2 := by decide +kernel
  have e3 : bg (12 + 4 * 4) 256 = 1 := by decide +kernel
  unfold plan
  simp only [e2, e3]
  rfl
theorem ex_path : (plan 20 4).path 17 = [21, 22] := by rw [ex_plan]; decide +kernel
theorem ex_need : ([0, 1, 17].foldl (addP (plan 20 4)) []).length = 6 := by rw [ex_plan]; decide +kernel
theorem ex_has : (plan 20 4).has 17 = true := by rw [ex_plan]; decide +kernel
theorem Own.blk {w w' : World} {v : Value} {ks : List Int} (h : Own w w' v ks) : ∀ b, v.ownBlock = some b → b < w'.heap.size := fun b hb => (World.ownsRow.lt h.row b hb).2
/-- A plan of the program's in memory: its levels are there. -/
structure Pm (w : World) (n b : Nat) (v : Value) : Prop where
  nums : Nums w v (plan n b).levels
  len : (plan n b).levels.length ≤ 3
theorem plan_lv {n b : Nat} (h1 : 1 ≤ n) (h2 : n ≤ 4096) : (plan n b).levels.length ≤ 3 ∧ ∀ x ∈ (plan n b).levels, -9223372036854775808 ≤ x ∧ x ≤ 9223372036854775807 := by
  have h := lvs_le (c := bg n 16) (by unfold bg; omega) (by unfold bg; omega)
  show (toI (lvs (bg n 16))).length ≤ 3 ∧ ∀ x ∈ toI (lvs (bg n 16)), _
  exact ⟨by rw [toI_len]; exact h.1, toI_i64 (fun x hx => by have := (h.2.2.2 x hx).2; omega)⟩
theorem Pm.of {w w' : World} {n b : Nat} {v : Value} (h1 : 1 ≤ n) (h2 : n ≤ 4096) (h : Own w w' v (plan n b).levels) : Pm w' n b v := by
  have hl := plan_lv (b := b) h1 h2
  exact ⟨h.nums hl.2 (by have := hl.1; omega), hl.1⟩
theorem Pm.grow {w w' : World} {n b : Nat} {v : Value} (h : Pm w n b v) (k : Grow w w') : Pm w' n b v := ⟨h.nums.grow k, h.len⟩
theorem wpList_runG {ops : Array Oper} {rest : List Oper} {o : Oper} {a : Act} {w w' : World} {Q : Exit → Act → World → Prop} {v : Value} (hw : Region.wanted o (yielded ops a.tmps) = true) (hr : (execOp a.eval o).run Try.prog w = .ok (.value v) w') (h : wpList Try.prog ops Q rest (a.put o.dst v) w') : wpList Try.prog ops Q (o :: rest) a w :=
  wpList_want hw fun _ hK => by
    unfold Oper.wp
    rw [hr]
    exact hK _ _ h
/-- A variable for a plan is made. -/
theorem var_new (w : World) : Blk (w.alloc (.cells (pcells Pn.zero noS).toArray 48)) w.heap.size 48 ([] ++ pcells Pn.zero noS ++ []) := by
  rw [List.nil_append, List.append_nil]; exact Blk.new rfl
theorem var_grow {w w2 : World} (k : But (· = w.heap.size) (w.alloc (.cells (pcells Pn.zero noS).toArray 48)) w2) : Grow w w2 :=
  ((But.refl (fun _ => False) w).alloc _).then k (fun j hj e => by omega)
theorem Blk.pl {w : World} {g : Nat} {T : TypeId} {L : List Value} (h : Blk w g T L) : ∀ j u, L[j]? = some u → w.cell? ((⟨g, 0, none⟩ : Addr).add j) = some u := fun j u hj => by
  rw [addr_add, Nat.zero_add, h.cell j]; exact hj
/-- Some numbers in a row that the text lays. -/
theorem nums_lit {w : World} {g : Nat} {ks : List Int} (h : Blk w g 3 (numv ks)) (hk : ∀ x ∈ ks, -9223372036854775808 ≤ x ∧ x ≤ 9223372036854775807) (h0 : 0 < ks.length) (hl : ks.length ≤ 1000) : Nums w (.slice (some ⟨g, 0, none⟩) ks.length ks.length) ks :=
  ⟨hk, by omega, .inr ⟨h0, g, 0, ks.length, rfl, Nat.le_refl _, h.lt, fun i hi => by rw [Nat.zero_add, h.cell i]; simp [numv, hi]⟩⟩
/-- What made tells: a plan of numbers that are brought right. -/
def MadeTo (w : World) (x y : Int) (e : Ending) (w' : World) : Prop := ∃ (n b : Nat) (v : Value), (n : Int) = 1 + x % 4096 ∧ (b : Int) = 1 + y % 256 ∧ e = .returned (.tuple #[pval (plan n b) v, .bool true]) ∧ Own w w' v (plan n b).levels ∧ Grow w w'
end Go.Proofs.Ytmlladpmecclbaa
/- Slices of slices of bytes. -/
namespace Go.Proofs.Ytmlladpmecclbaa
open Go.RowKit

/-- The slice v holds slices that hold these bytes. -/
def Ps (w : World) (v : Value) (xss : List (List Nat)) : Prop :=
  (xss = [] ∧ (v = .slice none 0 0 ∨ ∃ a cap, v = .slice (some a) 0 cap)) ∨
  (0 < xss.length ∧ ∃ b off cap, v = .slice (some ⟨b, off, none⟩) xss.length cap ∧ b < w.heap.size ∧
    ∀ i, i < xss.length → ∃ u, w.cell? ⟨b, off + i, none⟩ = some u ∧ Bs w u (xss.getD i []))
theorem Ps.below {w w' : World} {v : Value} {xss : List (List Nat)} (h : Ps w v xss) (k : But (fun _ => False) w w') : Ps w' v xss := by
  rcases h with h | ⟨h0, b, off, cap, e, hb, hc⟩
  · exact .inl h
  · refine .inr ⟨h0, b, off, cap, e, Nat.lt_of_lt_of_le hb k.size, fun i hi => ?_⟩
    obtain ⟨u, h1, h2⟩ := hc i hi
    exact ⟨u, (World.cell?_of_block (k.block b hb (fun h => h))).trans h1, h2.but k (fun _ _ _ h => h)⟩

theorem Ps.gen {w : World} {v : Value} {xss : List (List Nat)} (h : Ps w v xss) : ∃ ao cap, v = .slice ao xss.length cap ∧ (0 < xss.length → ∃ b off, ao = some ⟨b, off, none⟩ ∧ b < w.heap.size ∧
    ∀ i, i < xss.length → ∃ u, w.cell? ⟨b, off + i, none⟩ = some u ∧ Bs w u (xss.getD i [])) := by
  rcases h with ⟨rfl, rfl | ⟨a, cap, rfl⟩⟩ | ⟨h0, b, off, cap, rfl, hb, hc⟩
  · exact ⟨none, 0, rfl, fun h => absurd h (Nat.lt_irrefl _)⟩
  · exact ⟨some a, cap, rfl, fun h => absurd h (Nat.lt_irrefl _)⟩
  · exact ⟨_, cap, rfl, fun _ => ⟨b, off, rfl, hb, hc⟩⟩
theorem flat_next (xss : List (List Nat)) (k : Nat) (h : k < xss.length) : (xss.take (k + 1)).flatten = (xss.take k).flatten ++ xss.getD k [] := by
  have e : xss.take (k + 1) = xss.take k ++ [xss.getD k []] := by
    rw [List.take_add_one, List.getElem?_eq_getElem h]
    simp [List.getD, h]
  rw [e, List.flatten_append]; simp
theorem flat_le (xss : List (List Nat)) (k : Nat) : (xss.take k).flatten.length ≤ xss.flatten.length := by
  conv => rhs; rw [← List.take_append_drop k xss, List.flatten_append, List.length_append]
  omega
end Go.Proofs.Ytmlladpmecclbaa
/- Rows of slices of bytes put behind a row of one's own: append of a [][]byte, whatever it holds. -/
namespace Go.Proofs.Ytmlladpmecclbaa
open Go.RowKit

theorem infRS : (Try.prog.info? 37).map (fun i => (i.zero, i.size, i.bytes)) = some (some (.slice none 0 0), 1, 24) := by kernel_rfl
theorem exec_row0 {w : World} {o : Oper} {ρ : Operand → Value} (ho : o.op = .buildSlice 22 0 #[]) : (execOp ρ o).run Try.prog w = .ok (.value (.slice (some ⟨w.heap.size, 0, none⟩) 0 0)) (w.alloc (.cells #[] 37)) := by
  have h : (Instr.buildSlice 22 0 #[]).run Try.prog w = .ok (.slice (some ⟨w.heap.size, 0, none⟩) 0 0) (w.alloc (.cells #[] 37)) := by
    obtain ⟨i, hi, hz, hs, hby⟩ := info_parts infRS
    simp [Instr.buildSlice, run_underlying Try.underlying22, sizeOf, typeInfo, hi, newRow, Instr.fill]
    rw [show Array.range 0 = (#[] : Array Nat) from rfl]
    simp
  unfold execOp
  simp only [ho, List.map_toArray, List.map_nil, Sem.run_bind, h, Result.andThen_ok, Sem.run_pure]
theorem row0_own (w : World) (g : Nat) (hg : g = w.heap.size) : (w.alloc (.cells #[] 37)).ownsRow 0 37 1 (.slice (some ⟨g, 0, none⟩) 0 0) 0 [] := by
  have hb : Blk (w.alloc (.cells #[] 37)) g 37 [] := Blk.new hg.symm
  exact ⟨rfl, .inr ⟨g, 0, #[], rfl, Nat.zero_le _, hb, Nat.le_refl _, Nat.zero_le _, rfl, rfl⟩⟩
theorem cell_ltA {w : World} {a : Addr} {u : Value} (h : w.cell? a = some u) : a.block < w.heap.size := by
  rcases Nat.lt_or_ge a.block w.heap.size with hb | hb
  · exact hb
  · unfold World.cell? at h
    rw [Array.getElem?_eq_none hb] at h
    cases h
/-- The values of a row that holds bytes. -/
theorem Ps.vals {w : World} {u : Value} {xss : List (List Nat)} (h : Ps w u xss) : ∃ (L : List (Value × List Nat)) (ao : Option Addr) (cap : Nat), L.map (·.2) = xss ∧ (∀ e ∈ L, Bs w e.1 e.2) ∧ u = .slice ao xss.length cap ∧ (xss.length = 0 ∨ ∃ ad, ao = some ad ∧ ∀ j z, (L.map (·.1))[j]? = some z → w.cell? (ad.add j) = some z) := by
  obtain ⟨ao, cap, rfl, hg⟩ := h.gen
  by_cases h0 : 0 < xss.length
  · obtain ⟨b, off, rfl, hb, hc⟩ := hg h0
    have hc' : ∀ i, ∃ u, i < xss.length → w.cell? ⟨b, off + i, none⟩ = some u ∧ Bs w u (xss.getD i []) := fun i => by
      by_cases hi : i < xss.length
      · obtain ⟨u, hu⟩ := hc i hi
        exact ⟨u, fun _ => hu⟩
      · exact ⟨undef, fun h => absurd h hi⟩
    obtain ⟨V, hV⟩ : ∃ V : Nat → Value, ∀ i, i < xss.length → w.cell? ⟨b, off + i, none⟩ = some (V i) ∧ Bs w (V i) (xss.getD i []) := ⟨fun i => (hc' i).choose, fun i => (hc' i).choose_spec⟩
    refine ⟨(List.range xss.length).map (fun i => (V i, xss.getD i [])), _, cap, ?_, fun e he => ?_, rfl, .inr ⟨_, rfl, fun j z hj => ?_⟩⟩
    · rw [List.map_map]
      apply List.ext_getElem (by simp)
      intro i h1 h2
      simp [List.getD, h2]
    · obtain ⟨i, hi, rfl⟩ := List.mem_map.1 he
      exact (hV i (List.mem_range.1 hi)).2
    · rw [List.map_map] at hj
      have hjl : j < xss.length := by
        have := (List.getElem?_eq_some_iff.1 hj).1
        simpa using this
      have : (some (V j) : Option Value) = some z := by rw [← hj]; simp [hjl]
      rw [addr_add, (hV j hjl).1, this]
  · have hx : xss = [] := List.eq_nil_of_length_eq_zero (by omega)
    subst hx
    exact ⟨[], ao, cap, rfl, fun e he => absurd he List.not_mem_nil, rfl, .inl rfl⟩
theorem exec_appendP {w0 w : World} {o : Oper} {ρ : Operand → Value} {v u : Value} {n : Nat} {xs : List Value} {xss : List (List Nat)} {x y : Operand} (ho : o.op = .call { callee := .builtin .append, args := #[x, y], argTypes := #[22, 22] }) (hx : ρ x = v) (hv : w.ownsRow 0 37 1 v n xs) (hy : ρ y = u) (hg : Grow w0 w) (hu : Ps w0 u xss) (hn : n + xss.length ≤ 1000000) :
    ∃ v' w', (execOp ρ o).run Try.prog w = .ok (.value v') w' ∧ ∃ L : List (Value × List Nat), L.map (·.2) = xss ∧ (∀ e ∈ L, Bs w0 e.1 e.2) ∧ Appd w w' 37 1 v v' (n + xss.length) (xs ++ L.map (·.1)) := by
  have hnil := hu
  obtain ⟨L, ao, cap, h1, h2, rfl, h3⟩ := hu.vals
  have hl : L.length = xss.length := by rw [← h1, List.length_map]
  have key : ∀ (ad : Addr), (Value.slice ao xss.length cap) = .slice (some ad) xss.length cap → (∀ j z, (L.map (·.1))[j]? = some z → w.cell? (ad.add j) = some z) → ∃ v' w', (execOp ρ o).run Try.prog w = .ok (.value v') w' ∧ ∃ L : List (Value × List Nat), L.map (·.2) = xss ∧ (∀ e ∈ L, Bs w0 e.1 e.2) ∧ Appd w w' 37 1 v v' (n + xss.length) (xs ++ L.map (·.1)) := fun ad e hc => by
    obtain ⟨v', w', hr, ha⟩ := exec_append (news := L.map (·.1)) Try.underlying22 infRS rfl (by decide) ho hx hv (hy.trans e) (by rw [List.length_map, hl, Nat.mul_one]) hc (fun z hz => by obtain ⟨q, hq, rfl⟩ := List.mem_map.1 hz; exact (h2 q hq).one) hn (by decide)
    exact ⟨v', w', hr, L, h1, h2, ha⟩
  rcases h3 with h0 | ⟨ad, rfl, hc⟩
  · have hx0 : xss = [] := List.eq_nil_of_length_eq_zero h0
    subst hx0
    have hL0 : L = [] := List.eq_nil_of_length_eq_zero hl
    subst hL0
    rcases hnil with ⟨-, e | ⟨a, cap', e⟩⟩ | ⟨hlt, -⟩
    · obtain ⟨i0, hi, hz0, hz1, hz2⟩ := info_parts infRS
      have hrun := run_append_owned_none (P := Try.prog) w 0 22 o.type 37 i0 1 Try.underlying22 hi v n xs hv
      refine ⟨v, w, ?_, [], rfl, fun e he => absurd he List.not_mem_nil, ⟨by simpa using hv, But.refl _ _, .inl rfl, fun k hk => ?_⟩⟩
      · unfold execOp
        simp only [ho, resolve, invoke, builtin, Sem.run_bind, Sem.run_pure, Result.andThen_ok, List.map_toArray, List.map_cons, List.map_nil, hx, hy, e, hrun]
      · obtain ⟨-, ⟨rfl, -⟩ | ⟨g, c, cu, rfl, -, hb, -⟩⟩ := hv
        · cases hk
        · cases hk; exact lt_of_block hb
    · simp only [Value.slice.injEq] at e
      obtain ⟨rfl, -, rfl⟩ := e
      exact key a rfl (fun j z hz => by simp at hz)
    · exact absurd hlt (by simp)
  · exact key ad rfl (fun j z hj => (World.cell?_of_block (hg.block _ (cell_ltA (hc j z hj)) (fun h => h))).trans (hc j z hj))
/-- An own row of slices that hold bytes. -/
theorem ps_row {w : World} {v : Value} {L : List (Value × List Nat)} (h : w.ownsRow 0 37 1 v L.length (L.map (·.1))) (he : ∀ e ∈ L, Bs w e.1 e.2) : Ps w v (L.map (·.2)) := by
  have hr : RowOf w (fun _ => True) 37 1 v L.length (L.map (·.1)) := ⟨h, fun _ _ => trivial⟩
  obtain ⟨ao, cap, rfl, hrow⟩ := hr.shape
  by_cases h0 : 0 < L.length
  · obtain ⟨g, rfl, _, hg, hc⟩ := hrow h0
    refine .inr ⟨by simpa using h0, g, 0, cap, by rw [List.length_map], hg, fun i hi => ?_⟩
    rw [List.length_map] at hi
    refine ⟨(L[i]).1, ?_, ?_⟩
    · rw [Nat.zero_add]
      exact hc i _ (by simp [hi])
    · have := he (L[i]) (List.getElem_mem hi)
      simpa [List.getD, hi] using this
  · have : L = [] := List.eq_nil_of_length_eq_zero (by omega)
    subst this
    cases ao with
    | none =>
      obtain ⟨h1, ⟨e, _⟩ | ⟨g, c, cur, e, _⟩⟩ := h
      · exact .inl ⟨rfl, .inl e⟩
      · cases e
    | some a => exact .inl ⟨rfl, .inr ⟨a, cap, rfl⟩⟩
/-- A row put behind a row of one's own whose blocks are new. -/
theorem ps_app {w0 w w' : World} {v v' : Value} {L : List (Value × List Nat)} {n : Nat} {xss : List (List Nat)} (hn : n = L.length) (hg : Grow w0 w) (hL : ∀ e ∈ L, Bs w0 e.1 e.2) (hb : ∀ k, v.ownBlock = some k → w0.heap.size ≤ k)
    (h : ∃ M : List (Value × List Nat), M.map (·.2) = xss ∧ (∀ e ∈ M, Bs w0 e.1 e.2) ∧ Appd w w' 37 1 v v' (n + xss.length) (L.map (·.1) ++ M.map (·.1))) :
    ∃ N : List (Value × List Nat), N.map (·.2) = L.map (·.2) ++ xss ∧ (∀ e ∈ N, Bs w0 e.1 e.2) ∧ w'.ownsRow 0 37 1 v' N.length (N.map (·.1)) ∧ Grow w0 w' ∧ ∀ k, v'.ownBlock = some k → w0.heap.size ≤ k := by
  obtain ⟨M, h1, h2, ha⟩ := h
  have hl : M.length = xss.length := by rw [← h1, List.length_map]
  refine ⟨L ++ M, by rw [List.map_append, h1], fun e he => ?_, ?_, hg.then ha.but (fun i hi e => by have := hb i e; omega), fun k hk => ?_⟩
  · rcases List.mem_append.1 he with he | he
    · exact hL e he
    · exact h2 e he
  · rw [List.map_append, List.length_append, hl, ← hn]; exact ha.own
  · rcases ha.at' with e | e
    · exact hb k (by rw [← e]; exact hk)
    · rw [e] at hk
      have := Option.some.inj hk
      have := hg.size
      omega
end Go.Proofs.Ytmlladpmecclbaa
/- Rows of blocks of 256 bytes that are written into. -/
namespace Go.Proofs.Ytmlladpmecclbaa
open Go.RowKit

/-- A block of 256 bytes at g, maybe with room behind it. -/
def El (w : World) (u : Value) (g : Nat) (zs : List Nat) : Prop :=
  ∃ cap R, u = .slice (some ⟨g, 0, none⟩) 256 cap ∧ 256 ≤ cap ∧ zs.length = 256 ∧ (∀ z ∈ zs, z < 256) ∧ Blk w g 5 (u8s zs ++ R)
theorem El.but {R : Nat → Prop} {w w' : World} {u : Value} {g : Nat} {zs : List Nat} (h : El w u g zs) (k : But R w w') (hr : ¬ R g) : El w' u g zs := by
  obtain ⟨cap, S, h1, h2, h3, h4, h5⟩ := h
  exact ⟨cap, S, h1, h2, h3, h4, h5.but k hr⟩
theorem El.lt {w : World} {u : Value} {g : Nat} {zs : List Nat} (h : El w u g zs) : g < w.heap.size := by
  obtain ⟨_, _, _, _, _, _, h5⟩ := h
  exact h5.lt
theorem El.bs {w : World} {u : Value} {g : Nat} {zs : List Nat} (h : El w u g zs) : Bs w u zs := by
  obtain ⟨cap, S, rfl, h2, h3, h4, h5⟩ := h
  refine ⟨h4, by omega, .inr ⟨by omega, g, 0, cap, by rw [h3], by omega, h5.lt, fun i hi => ?_⟩⟩
  rw [Nat.zero_add, h5.cell, List.getElem?_append_left (by simpa [u8s] using hi), u8s_get _ _ hi]
theorem El.own {w : World} {u : Value} {g : Nat} {zs : List Nat} (h : El w u g zs) : u.ownBlock = some g := by
  obtain ⟨cap, S, rfl, _⟩ := h
  rfl
theorem El.one {w : World} {u : Value} {g : Nat} {zs : List Nat} (h : El w u g zs) : u.oneCell' = true := by
  obtain ⟨cap, S, rfl, _⟩ := h
  rfl
/-- A row of such blocks, no two of them one. -/
structure Nb (base : Nat) (w : World) (v : Value) (n : Nat) (G : Nat → Nat) (T : Nat → List Nat) : Prop where
  ex : ∃ V : Nat → Value, w.ownsRow 0 37 1 v n ((List.range n).map V) ∧ ∀ i, i < n → El w (V i) (G i) (T i)
  rnew : ∀ k, v.ownBlock = some k → base ≤ k ∧ ∀ i, i < n → G i ≠ k
  gnew : ∀ i, i < n → base ≤ G i
  inj : ∀ i j, i < n → j < n → G i = G j → i = j
theorem Nb.nil (base : Nat) (w : World) (G : Nat → Nat) (T : Nat → List Nat) : Nb base w (.slice none 0 0) 0 G T :=
  ⟨⟨fun _ => undef, World.ownsRow_nil _ _ _ _, fun i hi => absurd hi (Nat.not_lt_zero _)⟩, fun k hk => (by cases hk), fun i hi => absurd hi (Nat.not_lt_zero _), fun i j hi => absurd hi (Nat.not_lt_zero _)⟩
theorem Nb.but {R : Nat → Prop} {base : Nat} {w w' : World} {v : Value} {n : Nat} {G : Nat → Nat} {T : Nat → List Nat} (h : Nb base w v n G T) (k : But R w w') (hr : ∀ j, base ≤ j → j < w.heap.size → ¬ R j) : Nb base w' v n G T := by
  obtain ⟨⟨V, h1, h2⟩, h3, h4, h5⟩ := h
  exact ⟨⟨V, ownsRow_but h1 k (fun j hj => hr j (h3 j hj).1 (h1.lt j hj).2), fun i hi => (h2 i hi).but k (hr _ (h4 i hi) (h2 i hi).lt)⟩, h3, h4, h5⟩
theorem Nb.grow {base : Nat} {w w' : World} {v : Value} {n : Nat} {G : Nat → Nat} {T : Nat → List Nat} (h : Nb base w v n G T) (k : Grow w w') : Nb base w' v n G T := h.but k (fun _ _ _ h => h)
theorem Nb.same {base : Nat} {w : World} {v : Value} {n : Nat} {G : Nat → Nat} {T T' : Nat → List Nat} (h : Nb base w v n G T) (e : ∀ i, i < n → T i = T' i) : Nb base w v n G T' := by
  obtain ⟨⟨V, h1, h2⟩, h3, h4, h5⟩ := h
  exact ⟨⟨V, h1, fun i hi => by rw [← e i hi]; exact h2 i hi⟩, h3, h4, h5⟩
theorem Nb.len {base : Nat} {w : World} {v : Value} {n : Nat} {G : Nat → Nat} {T : Nat → List Nat} (h : Nb base w v n G T) : ∃ a c, v = .slice a n c := by
  obtain ⟨⟨V, h1, _⟩, _⟩ := h
  exact own_sl h1
theorem range_get {α : Type} (f : Nat → α) {n i : Nat} (hi : i < n) : ((List.range n).map f)[i]? = some (f i) := by simp [hi]
/-- One block of it: it may be written into. -/
theorem Nb.opn {base : Nat} {w : World} {v : Value} {n : Nat} {G : Nat → Nat} {T : Nat → List Nat} (h : Nb base w v n G T) {i : Nat} (hi : i < n) :
    ∃ b rc cap R, v = .slice (some ⟨b, 0, none⟩) n rc ∧ w.cell? ⟨b, i, none⟩ = some (.slice (some ⟨G i, 0, none⟩) 256 cap) ∧ 256 ≤ cap ∧ Blk w (G i) 5 (u8s (T i) ++ R) ∧ (T i).length = 256 ∧ (∀ z ∈ T i, z < 256) ∧ b ≠ G i ∧ base ≤ G i ∧
      ∀ w' zs, zs.length = 256 → (∀ z ∈ zs, z < 256) → Blk w' (G i) 5 (u8s zs ++ R) → But (· = G i) w w' → Nb base w' v n G (upd T i zs) := by
  obtain ⟨⟨V, h1, h2⟩, h3, h4, h5⟩ := h
  have hn : ((List.range n).map V).length = n := by simp
  obtain ⟨b, rc, hv, hc⟩ := row_cellP (e := 37) (v := v) (L := (List.range n).map V) (by rw [hn]; exact h1) (by rw [hn]; omega)
  rw [hn] at hv
  obtain ⟨cap, R, e1, e2, e3, e4, e5⟩ := h2 i hi
  have hbo : v.ownBlock = some b := by rw [hv]; rfl
  refine ⟨b, rc, cap, R, hv, by rw [← e1]; exact hc i _ (range_get V hi), e2, e5, e3, e4, fun e => (h3 b hbo).2 i hi e.symm, h4 i hi, fun w' zs hl hz hb' k => ?_⟩
  refine ⟨⟨V, ownsRow_but h1 k (fun j hj e => (h3 j hj).2 i hi e.symm), fun j hj => ?_⟩, h3, h4, h5⟩
  by_cases hji : j = i
  · subst hji
    rw [upd_same]
    exact ⟨cap, R, e1, e2, hl, hz, hb'⟩
  · rw [upd_other _ _ hji]
    exact (h2 j hj).but k (fun e => hji (h5 j i hj hi e))
/-- One more block behind them. -/
theorem Nb.push {base : Nat} {w w' : World} {v v' u : Value} {n g : Nat} {G : Nat → Nat} {T : Nat → List Nat} {zs : List Nat} (h : Nb base w v n G T) (hu : El w u g zs) (hg : base ≤ g) (hb : base ≤ w.heap.size) (hne : ∀ i, i < n → G i ≠ g) (hr : v.ownBlock ≠ some g)
    (hap : Appd w w' 37 1 v v' (n + 1) ((List.range n).map (h.ex.choose) ++ [u])) : Nb base w' v' (n + 1) (upd G n g) (upd T n zs) := by
  have hV := h.ex.choose_spec
  generalize h.ex.choose = V at *
  obtain ⟨h1, h2⟩ := hV
  obtain ⟨_, h3, h4, h5⟩ := h
  have hold : ∀ i, i < n → ¬ (v.ownBlock = some (G i)) := fun i hi e => (h3 _ e).2 i hi rfl
  refine ⟨⟨upd V n u, ?_, fun i hi => ?_⟩, fun k hk => ?_, fun i hi => ?_, fun i j hi hj e => ?_⟩
  · have e : (List.range (n + 1)).map (upd V n u) = (List.range n).map V ++ [u] := by
      rw [List.range_succ, List.map_append, List.map_singleton, upd_same]
      congr 1
      refine List.map_congr_left (fun i hi => upd_other _ _ ?_)
      have := List.mem_range.1 hi
      omega
    rw [e]
    exact hap.own
  · by_cases hin : i = n
    · subst hin
      rw [upd_same, upd_same, upd_same]
      exact hu.but hap.but (fun e => hr e)
    · rw [upd_other _ _ hin, upd_other _ _ hin, upd_other _ _ hin]
      exact (h2 i (by omega)).but hap.but (fun e => hold i (by omega) e)
  · rcases hap.at' with e | e
    · rw [e] at hk
      refine ⟨(h3 k hk).1, fun i hi => ?_⟩
      by_cases hin : i = n
      · rw [hin, upd_same]; exact fun e => hr (by rw [e]; exact hk)
      · rw [upd_other _ _ hin]; exact (h3 k hk).2 i (by omega)
    · rw [e] at hk
      cases hk
      refine ⟨hb, fun i hi => ?_⟩
      by_cases hin : i = n
      · rw [hin, upd_same]; have := hu.lt; omega
      · rw [upd_other _ _ hin]; have := (h2 i (by omega)).lt; omega
  · by_cases hin : i = n
    · rw [hin, upd_same]; exact hg
    · rw [upd_other _ _ hin]; exact h4 i (by omega)
  · by_cases hin : i = n
    · by_cases hjn : j = n
      · omega
      · rw [hin, upd_same, upd_other _ _ hjn] at e
        exact absurd e.symm (hne j (by omega))
    · by_cases hjn : j = n
      · rw [hjn, upd_same, upd_other _ _ hin] at e
        exact absurd e (hne i (by omega))
      · rw [upd_other _ _ hin, upd_other _ _ hjn] at e
        exact h5 i j (by omega) (by omega) e
theorem Nb.row {base : Nat} {w : World} {v : Value} {n : Nat} {G : Nat → Nat} {T : Nat → List Nat} (h : Nb base w v n G T) : w.ownsRow 0 37 1 v n ((List.range n).map h.ex.choose) := h.ex.choose_spec.1
theorem Nb.ps {base : Nat} {w : World} {v : Value} {n : Nat} {G : Nat → Nat} {T : Nat → List Nat} (h : Nb base w v n G T) : Ps w v ((List.range n).map T) := by
  obtain ⟨⟨V, h1, h2⟩, -, -, -⟩ := h
  have := ps_row (w := w) (v := v) (L := (List.range n).map fun i => (V i, T i)) (by rw [List.length_map, List.length_range, List.map_map]; exact h1) (fun e he => by
    obtain ⟨i, hi, rfl⟩ := List.mem_map.1 he
    exact (h2 i (List.mem_range.1 hi)).bs)
  rw [List.map_map] at this
  exact this
theorem Nb.cap {base : Nat} {w : World} {v : Value} {n : Nat} {G : Nat → Nat} {T : Nat → List Nat} (h : Nb base w v n G T) (h0 : 0 < n) : ∃ b c, v = .slice (some ⟨b, 0, none⟩) n c ∧ n ≤ c := by
  obtain ⟨V, hb, -⟩ := h.ex
  have hr : RowOf w (fun _ => True) 37 1 v n ((List.range n).map V) := ⟨hb, fun _ _ => trivial⟩
  obtain ⟨ao, c4, rfl, h2⟩ := hr.shape
  obtain ⟨g, rfl, _⟩ := h2 h0
  exact ⟨g, c4, rfl, hr.cap.1⟩
/-- As Nb.but, with what it says of its own blocks alone. -/
theorem Nb.but2 {R : Nat → Prop} {base : Nat} {w w' : World} {v : Value} {n : Nat} {G : Nat → Nat} {T : Nat → List Nat} (h : Nb base w v n G T) (k : But R w w') (h1 : ∀ i, i < n → ¬ R (G i)) (h2 : ∀ j, v.ownBlock = some j → ¬ R j) : Nb base w' v n G T := by
  obtain ⟨⟨V, q1, q2⟩, q3, q4, q5⟩ := h
  exact ⟨⟨V, ownsRow_but q1 k h2, fun i hi => (q2 i hi).but k (h1 i hi)⟩, q3, q4, q5⟩
theorem Nb.mono {base base' : Nat} {w : World} {v : Value} {n : Nat} {G : Nat → Nat} {T : Nat → List Nat} (h : Nb base w v n G T) (hb : base' ≤ base) : Nb base' w v n G T :=
  ⟨h.ex, fun k hk => ⟨Nat.le_trans hb (h.rnew k hk).1, (h.rnew k hk).2⟩, fun i hi => Nat.le_trans hb (h.gnew i hi), h.inj⟩
end Go.Proofs.Ytmlladpmecclbaa
/- journal: how many blocks a head has; which numbers are no blocks, which bytes no block. -/
namespace Go.Proofs.Ytmlladpmecclbaa
open Go.RowKit

set_option maxRecDepth 100000 in
set_option maxHeartbeats 4000000 in
theorem jheads_any (w : World) (b : Nat) (h1 : 1 ≤ b) (h2 : b ≤ 256) : Calls Try.prog 12 #[.int .i64 (b : Int)] w fun e w' => e = .returned (.tuple #[.int .i64 (hds b : Nat), .int .i64 0]) ∧ Grow w w' := by
  have hof := planof_any w 1 b (by decide) (by decide) h1 h2
  unfold OfTo at hof
  rw [show ((1 : Nat) : Int) = 1 from rfl] at hof
  obtain ⟨P, hP⟩ : ∃ P, P = plan 1 b := ⟨_, rfl⟩
  have hh : P.heads = (hds b : Nat) := by rw [hP]; rfl
  rw [← hP] at hof
  have HOF := Hid.mk' hof
  have HH := Hid.mk' hh
  obtain ⟨m, hm⟩ : ∃ m, m = hds b := ⟨_, rfl⟩
  rw [← hm] at HH ⊢
  clear hof hP hh hm
  go_enter Try.func12, Try.ntmps12
  go_wp2_with fail
  refine Calls.mono HOF.out ?_
  rintro e w1 ⟨v, rfl, ho, hg⟩
  obtain ⟨va, vc, hve⟩ := ho.sl
  generalize P.levels.length = ln at hve
  subst hve
  have HG := Hid.mk' hg
  clear hg ho HOF
  go_upto_region 2 with (first
    | (refine wpList_runH rfl (exec_allocF rfl (zPl _)) ?_)
    | (refine wpList_store_at rfl _ _ _ rfl w1.heap.size 0 (pcells P (.slice va ln vc)) rfl (by exact rfl) 48 [] (pcells Pn.zero noS) [] (var_new w1) rfl rfl iPl (pcells_one _ rfl) ?_; intro w2 hb2 hbut2; rw [List.nil_append, List.append_nil] at hb2)
    | fail)
  obtain ⟨g, hgg⟩ : ∃ g, g = w1.heap.size := ⟨_, rfl⟩
  have hg2 := var_grow hbut2
  rw [← hgg] at hb2 ⊢
  have HG2 := Hid.mk' (HG.out.trans hg2)
  have c6 : w2.cell? ⟨g, 6, none⟩ = some (.int .i64 (m : Nat)) := by rw [← HH.out]; exact hb2.cell 6
  clear hgg hb2 hbut2 hg2
  go_wp2
  exact bodyPost_ret (results_tmp2 rfl _ _ _) rfl ⟨rfl, HG2.out⟩
set_option maxRecDepth 100000 in
set_option maxHeartbeats 4000000 in
theorem jheads_no (w : World) (y : Int) (h : ¬ (1 ≤ y ∧ y ≤ 256)) : Calls Try.prog 12 #[.int .i64 y] w fun e w' => e = .returned (.tuple #[.int .i64 0, .int .i64 1]) ∧ Grow w w' := by
  have HOF := Hid.mk' (planof_not w 1 y (fun q => h q.2.2))
  clear h
  go_enter Try.func12, Try.ntmps12
  go_wp2_with fail
  refine Calls.mono HOF.out ?_
  rintro e w1 ⟨rfl, hg⟩
  have HG := Hid.mk' hg
  clear hg HOF
  go_upto_region 2 with (first
    | (refine wpList_runH rfl (exec_allocF rfl (zPl _)) ?_)
    | (refine wpList_store_at rfl _ _ _ rfl w1.heap.size 0 (pcells Pn.zero noS) rfl (by exact rfl) 48 [] (pcells Pn.zero noS) [] (var_new w1) rfl rfl iPl (pcells_one _ rfl) ?_; intro w2 hb2 hbut2; rw [List.nil_append, List.append_nil] at hb2)
    | fail)
  obtain ⟨g, hgg⟩ : ∃ g, g = w1.heap.size := ⟨_, rfl⟩
  have hg2 := var_grow hbut2
  rw [← hgg] at hb2 ⊢
  have HG2 := Hid.mk' (HG.out.trans hg2)
  have c6 : w2.cell? ⟨g, 6, none⟩ = some (.int .i64 0) := hb2.cell 6
  clear hgg hb2 hbut2 hg2
  go_wp2
  exact bodyPost_ret (results_tmp2 rfl _ _ _) rfl ⟨rfl, HG2.out⟩
/-- No device has this block. -/
def bey (x : Int) : Bool := decide (x < 0 ∨ 65535 < x)
set_option maxRecDepth 100000 in
theorem beyond_any (x : Int) (w : World) : Calls Try.prog 24 #[.int .i64 x] w fun e w' => e = .returned (.bool (bey x)) ∧ w' = w := by
  unfold bey
  rcases (by omega : x < 0 ∨ (¬ x < 0 ∧ 65536 ≤ x) ∨ (¬ x < 0 ∧ ¬ 65536 ≤ x)) with h | ⟨h, h'⟩ | ⟨h, h'⟩
  · rw [decide_eq_true (.inl h)]
    go_enter Try.func24, Try.ntmps24
    go_wp2
    go_ret
    exact ⟨rfl, rfl⟩
  · rw [decide_eq_true (.inr (by omega))]
    go_enter Try.func24, Try.ntmps24
    go_wp2
    go_ret
    exact ⟨rfl, rfl⟩
  · rw [decide_eq_false (by omega)]
    go_enter Try.func24, Try.ntmps24
    go_wp2
    go_ret
    exact ⟨rfl, rfl⟩
set_option maxRecDepth 100000 in
set_option maxHeartbeats 4000000 in
theorem index_ints {v : Value} {xs : List Int} {w : World} (hv : Nums w v xs) (hl : xs.length ≤ 1000000) :
    Calls Try.prog 36 #[v, .func (.func 24) #[] #[]] w fun e w' => ∃ r : Int, e = .returned (.int .i64 r) ∧ decide (0 ≤ r) = xs.any bey ∧ w' = w := by
  obtain ⟨ao, cap, rfl⟩ := hv.len
  obtain ⟨n, hn⟩ : ∃ n, n = xs.length := ⟨_, rfl⟩
  rw [← hn] at hl ⊢
  have HN := Hid.mk' hn
  have HV := Hid.mk' hv
  rw [← hn] at HV
  clear hv hn
  go_enter Try.func36, Try.ntmps36
  go_wp2
  go_loopw [8] (fun iv wr => ∃ k : Nat, k ≤ n ∧ iv = .int .i64 k ∧ (∀ i, i < k → bey (xs.getD i 0) = false) ∧ wr = w) (fun iv _ => n - (intOf iv).toNat)
  case atStart => exact ⟨0, Nat.zero_le _, rfl, fun i hi => absurd hi (Nat.not_lt_zero _), rfl⟩
  case round =>
    obtain ⟨k, hk, rfl, hall, rfl⟩ := hrel
    have HA := Hid.mk' hall
    clear hall
    by_cases hlt : k < n
    · obtain ⟨b, off, c, hve, -, -, hc⟩ := HV.out.at (by rw [← HN.out]; omega)
      simp only [Value.slice.injEq] at hve
      obtain ⟨rfl, -, rfl⟩ := hve
      obtain ⟨x, hx⟩ : ∃ x, x = xs.getD k 0 := ⟨_, rfl⟩
      have hcc := hc k (by rw [← HN.out]; exact hlt)
      rw [← hx] at hcc
      have HX := Hid.mk' hx
      have HB := Hid.mk' (beyond_any x wr)
      have hlti : (k : Int) < (n : Int) := by omega
      clear hc hx
      go_wp2_with fail
      refine Calls.mono HB.out ?_
      rintro e w1 ⟨rfl, hw1⟩
      subst w1
      cases hq : bey x with
      | true =>
        have hr : xs.any bey = true := by
          rw [List.any_eq_true]
          exact ⟨x, by rw [HX.out]; simp [List.getD, show k < xs.length by rw [← HN.out]; exact hlt], hq⟩
        go_wp2
        go_ret
        exact ⟨(k : Int), rfl, by rw [hr]; exact decide_eq_true (by omega), rfl⟩
      | false =>
        have HQ := Hid.mk' hq
        clear hq
        go_wp2
        refine ⟨⟨k + 1, by omega, by go_num, fun i hi => ?_, trivial⟩, by simp [intOf]; omega⟩
        by_cases hik : i = k
        · rw [hik, ← HX.out]; exact HQ.out
        · exact HA.out i (by omega)
    · have hkn : k = n := by omega
      subst hkn
      have hr : xs.any bey = false := by
        rw [List.any_eq_false]
        intro x hx
        obtain ⟨i, hi, rfl⟩ := List.mem_iff_getElem.1 hx
        have := HA.out i (by rw [HN.out]; exact hi)
        simpa [List.getD, hi] using this
      go_wp2
      go_ret
      exact ⟨-1, rfl, by rw [hr]; rfl, rfl⟩
set_option maxRecDepth 100000 in
theorem has_ints {v : Value} {xs : List Int} {w : World} (hv : Nums w v xs) (hl : xs.length ≤ 1000000) :
    Calls Try.prog 23 #[v, .func (.func 24) #[] #[]] w fun e w' => e = .returned (.bool (xs.any bey)) ∧ w' = w := by
  have HI := Hid.mk' (index_ints hv hl)
  obtain ⟨ao, cap, rfl⟩ := hv.len
  generalize xs.length = n at HI ⊢
  generalize xs.any bey = q at HI ⊢
  clear hv hl
  go_enter Try.func23, Try.ntmps23
  go_wp2_with fail
  refine Calls.mono HI.out ?_
  rintro e w1 ⟨r, rfl, hr, hw⟩
  subst w1
  clear HI
  by_cases h : 0 ≤ r
  · obtain rfl : q = true := by rw [← hr]; exact decide_eq_true h
    clear hr
    go_wp2
    go_ret
    exact ⟨rfl, rfl⟩
  · obtain rfl : q = false := by rw [← hr]; exact decide_eq_false h
    clear hr
    go_wp2
    go_ret
    refine ⟨?_, rfl⟩
    show Ending.returned (Value.bool (decide (0 ≤ r))) = _
    rw [decide_eq_false (by omega : ¬ 0 ≤ r)]
/-- No block is this. -/
def mis (x : List Nat) : Bool := x.length != 256
set_option maxRecDepth 100000 in
theorem misshapen_any {v : Value} {x : List Nat} {w : World} (h : Bs w v x) (hl : x.length ≤ 281474976710656) : Calls Try.prog 14 #[v] w fun e w' => e = .returned (.bool (mis x)) ∧ w' = w := by
  obtain ⟨ao, cap, rfl, -⟩ := h.gen
  unfold mis
  generalize x.length = n at *
  by_cases hn : n = 256
  · subst hn
    go_enter Try.func14, Try.ntmps14
    go_wp2
    go_ret
    exact ⟨rfl, rfl⟩
  · have e1 : (n != 256) = true := by simpa using hn
    have e2 : ((n : Int) != 256) = true := by
      have : (n : Int) ≠ 256 := by omega
      simpa using this
    rw [e1]
    go_enter Try.func14, Try.ntmps14
    go_wp2
    go_ret
    exact ⟨rfl, rfl⟩
set_option maxRecDepth 100000 in
set_option maxHeartbeats 4000000 in
theorem index_blks {v : Value} {xss : List (List Nat)} {w : World} (hv : Ps w v xss) (hl : xss.length ≤ 1000000) :
    Calls Try.prog 28 #[v, .func (.func 14) #[] #[]] w fun e w' => ∃ r : Int, e = .returned (.int .i64 r) ∧ decide (0 ≤ r) = xss.any mis ∧ w' = w := by
  obtain ⟨ao, cap, rfl, hg⟩ := hv.gen
  obtain ⟨n, hn⟩ : ∃ n, n = xss.length := ⟨_, rfl⟩
  rw [← hn] at hl hg ⊢
  have HN := Hid.mk' hn
  have HV := Hid.mk' hg
  clear hv hn hg
  go_enter Try.func28, Try.ntmps28
  go_wp2
  go_loopw [8] (fun iv wr => ∃ k : Nat, k ≤ n ∧ iv = .int .i64 k ∧ (∀ i, i < k → mis (xss.getD i []) = false) ∧ wr = w) (fun iv _ => n - (intOf iv).toNat)
  case atStart => exact ⟨0, Nat.zero_le _, rfl, fun i hi => absurd hi (Nat.not_lt_zero _), rfl⟩
  case round =>
    obtain ⟨k, hk, rfl, hall, rfl⟩ := hrel
    have HA := Hid.mk' hall
    clear hall
    by_cases hlt : k < n
    · obtain ⟨b, off, rfl, -, hc⟩ := HV.out (by omega)
      obtain ⟨u, hcc, hbs⟩ := hc k hlt
      obtain ⟨x, hx⟩ : ∃ x, x = xss.getD k [] := ⟨_, rfl⟩
      rw [← hx] at hbs
      have HX := Hid.mk' hx
      have HB := Hid.mk' (misshapen_any hbs (by
        obtain ⟨-, h2, -⟩ := hbs
        exact h2))
      have hlti : (k : Int) < (n : Int) := by omega
      obtain ⟨ua, un, uc, rfl⟩ := hbs.sl
      clear hc hx hbs
      go_wp2_with fail
      refine Calls.mono HB.out ?_
      rintro e w1 ⟨rfl, hw1⟩
      subst w1
      cases hq : mis x with
      | true =>
        have hr : xss.any mis = true := by
          rw [List.any_eq_true]
          exact ⟨x, by rw [HX.out]; simp [List.getD, show k < xss.length by rw [← HN.out]; exact hlt], hq⟩
        go_wp2
        go_ret
        exact ⟨(k : Int), rfl, by rw [hr]; exact decide_eq_true (by omega), rfl⟩
      | false =>
        have HQ := Hid.mk' hq
        clear hq
        go_wp2
        refine ⟨⟨k + 1, by omega, by go_num, fun i hi => ?_, trivial⟩, by simp [intOf]; omega⟩
        by_cases hik : i = k
        · rw [hik, ← HX.out]; exact HQ.out
        · exact HA.out i (by omega)
    · have hkn : k = n := by omega
      subst hkn
      have hr : xss.any mis = false := by
        rw [List.any_eq_false]
        intro x hx
        obtain ⟨i, hi, rfl⟩ := List.mem_iff_getElem.1 hx
        have := HA.out i (by rw [HN.out]; exact hi)
        simpa [List.getD, hi] using this
      go_wp2
      go_ret
      exact ⟨-1, rfl, by rw [hr]; rfl, rfl⟩
set_option maxRecDepth 100000 in
theorem has_blks {v : Value} {xss : List (List Nat)} {w : World} (hv : Ps w v xss) (hl : xss.length ≤ 1000000) :
    Calls Try.prog 13 #[v, .func (.func 14) #[] #[]] w fun e w' => e = .returned (.bool (xss.any mis)) ∧ w' = w := by
  have HI := Hid.mk' (index_blks hv hl)
  obtain ⟨ao, cap, rfl, -⟩ := hv.gen
  generalize xss.length = n at HI ⊢
  generalize xss.any mis = q at HI ⊢
  clear hv hl
  go_enter Try.func13, Try.ntmps13
  go_wp2_with fail
  refine Calls.mono HI.out ?_
  rintro e w1 ⟨r, rfl, hr, hw⟩
  subst w1
  clear HI
  by_cases h : 0 ≤ r
  · obtain rfl : q = true := by rw [← hr]; exact decide_eq_true h
    clear hr
    go_wp2
    go_ret
    exact ⟨rfl, rfl⟩
  · obtain rfl : q = false := by rw [← hr]; exact decide_eq_false h
    clear hr
    go_wp2
    go_ret
    refine ⟨?_, rfl⟩
    show Ending.returned (Value.bool (decide (0 ≤ r))) = _
    rw [decide_eq_false (by omega : ¬ 0 ≤ r)]
end Go.Proofs.Ytmlladpmecclbaa
/- journal: cut: bytes laid into blocks. -/
namespace Go.Proofs.Ytmlladpmecclbaa
open Go.RowKit

theorem made_rowJ {z : Value} (hz : z.cells = #[z]) (n : Nat) : madeCells z.cells n = (List.replicate n z).toArray := by
  rw [hz]
  apply Array.ext
  · simp [madeCells]
  · intro i h1 h2
    simp [madeCells, Nat.mod_one]
/-- A row of nil slices is made. -/
theorem make_nils (w : World) (n : Nat) (h : n ≤ 100000) : (Instr.makeSlice 22 (.int .i64 (n : Int)) (.int .i64 (n : Int))).run Try.prog w = .ok (.slice (some ⟨w.heap.size, 0, none⟩) n n) (w.alloc (.cells (List.replicate n (Value.slice none 0 0)).toArray 37)) := by
  obtain ⟨i, hi, hz0, hs, hby⟩ := info_parts infRS
  have hnb : 24 * n ≤ 24 * 100000 := Nat.mul_le_mul (Nat.le_refl _) h
  have h1 := run_makeSlice (P := Try.prog) (w := w) 22 37 i (.slice none 0 0) Try.underlying22 hi hz0 .i64 .i64 (n : Int) (n : Int) (by omega) (Int.le_refl _) (by rw [hs]; omega) (by rw [hby]; omega) (by omega)
  have e1 : (n : Int).toNat * i.size = n := by rw [hs]; omega
  rw [e1, made_rowJ rfl] at h1
  exact h1
theorem exec_mkJ {w w' : World} {o : Oper} {ρ : Operand → Value} {t : TypeId} {x y : Operand} {u v r : Value} (ho : o.op = .makeSlice t x y) (hx : ρ x = u) (hy : ρ y = v) (h : (Instr.makeSlice t u v).run Try.prog w = .ok r w') : (execOp ρ o).run Try.prog w = .ok (.value r) w' := by
  unfold execOp
  simp only [ho, hx, hy, Sem.run_bind, h, Result.andThen_ok, Sem.run_pure]
theorem take_min (src : List Nat) : src.take (min src.length 256) = src.take 256 := by
  by_cases h : src.length ≤ 256
  · rw [Nat.min_eq_left h, List.take_of_length_le (Nat.le_refl _), List.take_of_length_le h]
  · rw [Nat.min_eq_right (by omega)]
/-- Bytes are copied into a block, as many as there are, or as it has room for. -/
theorem exec_copyJ {w : World} {o : Oper} {ρ : Operand → Value} {d s : Operand} (ho : o.op = .call { callee := .builtin .copy, args := #[d, s], argTypes := #[37, 37] }) {g dCap b so ln cap : Nat} {src ys : List Nat}
    (hd : ρ d = .slice (some ⟨g, 0, none⟩) 256 dCap) (hs : ρ s = .slice (some ⟨b, so, none⟩) ln cap) (hl : ln = src.length) (hc : ∀ i, i < src.length → w.cell? ⟨b, so + i, none⟩ = some (.int .u8 (src.getD i 0 : Nat))) (hg : Blk w g 5 (u8s ys)) (hy : ys.length = 256) :
    ∃ w', (execOp ρ o).run Try.prog w = .ok (.value (.int .i64 ((min ln 256 : Nat) : Int))) w' ∧ Blk w' g 5 (u8s (src.take 256 ++ ys.drop (min ln 256))) ∧ But (· = g) w w' := by
  subst hl
  obtain ⟨n, hn⟩ : ∃ n, n = min src.length 256 := ⟨_, rfl⟩
  have h256 : n ≤ 256 := by omega
  have hsp : Blk w g 5 ([] ++ u8s (ys.take n) ++ u8s (ys.drop n)) := by
    rw [List.nil_append, ← u8s_append, List.take_append_drop]; exact hg
  have hr := run_copy_blk (off := 0) (dLen := 256) (dCap := dCap) (sCap := cap) (b := b) (so := so) (n := n) (A := []) o.type hsp rfl (by simp [u8s]; omega) hn hc
  have e : ([] ++ u8s (src.take n) ++ u8s (ys.drop n)) = u8s (src.take 256 ++ ys.drop n) := by
    rw [List.nil_append, ← u8s_append, hn, take_min]
  rw [e] at hr
  rw [← hn]
  refine ⟨w.setRow g (u8s (src.take 256 ++ ys.drop n)).toArray, ?_, setRow_at w g _ _ _ _ hsp, (But.refl (· = g) w).setRow (g := g) (fun _ => rfl) _⟩
  unfold execOp
  simp only [ho, resolve, invoke, builtin, Sem.run_bind, Sem.run_pure, Result.andThen_ok, List.map_toArray, List.map_cons, List.map_nil, hd, hs, hr]
theorem wpList_copyJ {w : World} {ops : Array Oper} {rest : List Oper} {o : Oper} {a : Act} {Q : Exit → Act → World → Prop} (hgd : o.guard = none) {d s : Operand} (ho : o.op = .call { callee := .builtin .copy, args := #[d, s], argTypes := #[37, 37] }) {g dCap b so ln cap : Nat} {src ys : List Nat}
    (hd : a.eval d = .slice (some ⟨g, 0, none⟩) 256 dCap) (hs : a.eval s = .slice (some ⟨b, so, none⟩) ln cap) (hl : ln = src.length) (hc : ∀ i, i < src.length → w.cell? ⟨b, so + i, none⟩ = some (.int .u8 (src.getD i 0 : Nat))) (hg : Blk w g 5 (u8s ys)) (hy : ys.length = 256) {n : Nat} (hn : n = min ln 256)
    (h : ∀ w', Blk w' g 5 (u8s (src.take 256 ++ ys.drop n)) → But (· = g) w w' → wpList Try.prog ops Q rest (a.put o.dst (.int .i64 (n : Int))) w') : wpList Try.prog ops Q (o :: rest) a w := by
  subst hn
  obtain ⟨w', h1, h2, h3⟩ := exec_copyJ ho hd hs hl hc hg hy
  exact wpList_runH hgd h1 (h w' h2 h3)
/-- Bytes from the n-th on. -/
theorem slice_fromJ {b so m cap n : Nat} (hn : n ≤ m) (hc : m ≤ cap) :
    ∃ so', (∀ w0 : World, (Instr.sliceAt 37 (.slice (some ⟨b, so, none⟩) m cap) (some (.int .i64 (n : Int))) none none).run Try.prog w0 = .ok (.slice (some ⟨b, so', none⟩) (m - n) (cap - n)) w0) ∧ (n < m → so' = so + n) := by
  have hu : Try.prog.underlying 37 = some (.slice (Try.prog.elem 37)) := by kernel_rfl
  have he : Try.prog.elem 37 = 5 := by kernel_rfl
  have hs : ∀ w0 : World, (sizeOf 5).run Try.prog w0 = .ok 1 w0 := fun w0 => by kernel_rfl
  refine ⟨if cap = n then so else so + n, fun w0 => ?_, fun h => if_neg (by omega)⟩
  rw [run_sliceAt_slice _ _ _ _ _ _ hu, run_slice_l w0 _ _ _ _ hu .i64 (n : Int) (by omega) (by omega), he, hs]
  by_cases hcn : cap = n <;> simp [Result.andThen, sliced, hcn, Addr.add]
/-- A row whose first k blocks are there. -/
def rowJ (G : Nat → Nat) (m k : Nat) : List Value := (List.range m).map fun i => if i < k then .slice (some ⟨G i, 0, none⟩) 256 256 else .slice none 0 0
theorem rowJ_len (G : Nat → Nat) (m k : Nat) : (rowJ G m k).length = m := by simp [rowJ]
theorem rowJ_zero (G : Nat → Nat) (m : Nat) : rowJ G m 0 = List.replicate m (.slice none 0 0) := by
  apply List.ext_getElem (by simp [rowJ])
  intro i h1 h2
  simp [rowJ]
theorem rowJ_get {G : Nat → Nat} {m k i : Nat} (h : i < m) : (rowJ G m k)[i]? = some (if i < k then .slice (some ⟨G i, 0, none⟩) 256 256 else .slice none 0 0) := by
  simp [rowJ, h]
theorem rowJ_next {G : Nat → Nat} {m k g : Nat} : (rowJ G m k).set k (.slice (some ⟨g, 0, none⟩) 256 256) = rowJ (upd G k g) m (k + 1) := by
  apply List.ext_getElem?
  intro i
  rw [List.getElem?_set, rowJ_len]
  by_cases hi : i < m
  · rw [rowJ_get hi, rowJ_get hi]
    by_cases hik : k = i
    · subst hik
      simp [hi, upd_same]
    · rw [if_neg hik, upd_other _ _ (fun e => hik e.symm)]
      by_cases h : i < k
      · rw [if_pos h, if_pos (by omega)]
      · rw [if_neg h, if_neg (by omega)]
  · rw [List.getElem?_eq_none (l := rowJ G m k) (by rw [rowJ_len]; omega), List.getElem?_eq_none (l := rowJ (upd G k g) m (k + 1)) (by rw [rowJ_len]; omega)]
    by_cases hik : k = i
    · rw [if_pos hik, if_neg (by omega)]
    · rw [if_neg hik]
/-- What cut's loop keeps. -/
structure CutI (w wr : World) (gh m : Nat) (b : List Nat) (k : Nat) (G : Nat → Nat) (bb so cap : Nat) : Prop where
  row : Blk wr gh 37 (rowJ G m k)
  el : ∀ i, i < k → Blk wr (G i) 5 (u8s (cutB b i)) ∧ w.heap.size ≤ G i ∧ G i ≠ gh
  inj : ∀ i j, i < k → j < k → G i = G j → i = j
  src : b.length - 256 * k ≤ cap ∧ ∀ i, i < b.length - 256 * k → w.cell? ⟨bb, so + i, none⟩ = some (.int .u8 (b.getD (256 * k + i) 0 : Nat))
  grow : Grow w wr
  lo : w.heap.size ≤ gh
theorem CutI.nb {w wr : World} {gh m : Nat} {b : List Nat} {G : Nat → Nat} {bb so cap : Nat} (h : CutI w wr gh m b m G bb so cap) (hb : ∀ z ∈ b, z < 256) (hm : m ≤ 100000) : Nb w.heap.size wr (.slice (some ⟨gh, 0, none⟩) m m) m G (cutB b) := by
  have e : rowJ G m m = (List.range m).map fun i => .slice (some ⟨G i, 0, none⟩) 256 256 := by
    unfold rowJ
    exact List.map_congr_left (fun i hi => if_pos (List.mem_range.1 hi))
  have hr := h.row
  rw [e] at hr
  refine ⟨⟨fun i => .slice (some ⟨G i, 0, none⟩) 256 256, ⟨by simp, .inr ⟨gh, m, _, rfl, Nat.zero_le _, hr, Nat.le_refl _, by unfold maxLen; omega, by simp, by rw [Nat.mul_one]; exact List.take_of_length_le (by simp)⟩⟩, fun i hi => ?_⟩, fun k hk => ?_, fun i hi => (h.el i hi).2.1, h.inj⟩
  · obtain ⟨q1, -, -⟩ := h.el i hi
    exact ⟨256, [], rfl, Nat.le_refl _, cutB_len _ _, cutB_lt hb _, by rw [List.append_nil]; exact q1⟩
  · have hk' : some gh = some k := hk
    obtain rfl := Option.some.inj hk'
    exact ⟨h.lo, fun i hi => (h.el i hi).2.2⟩
set_option maxRecDepth 100000 in
set_option maxHeartbeats 8000000 in
theorem jcut_any {w : World} {v : Value} {b : List Nat} {m : Nat} (hv : Bs w v b) (h0 : 0 < b.length) (hl : b.length ≤ 100000) (hm : m ≤ 1000) :
    Calls Try.prog 26 #[v, .int .i64 (m : Int)] w fun e w' => ∃ v' G, e = .returned v' ∧ Nb w.heap.size w' v' m G (cutB b) ∧ Grow w w' := by
  obtain ⟨hlt, -, ⟨rfl, -⟩ | ⟨-, bb, so, cap, rfl, hcap, hbl, hcell⟩⟩ := hv
  · exact absurd h0 (by simp)
  obtain ⟨i0, hi, hz0, hz1, hz2⟩ := info_parts u8info
  have HLT := Hid.mk' hlt
  obtain ⟨gh, hgh⟩ : ∃ g, g = w.heap.size := ⟨_, rfl⟩
  obtain ⟨W, hW⟩ : ∃ W, W = w.alloc (.cells (List.replicate m (Value.slice none 0 0)).toArray 37) := ⟨_, rfl⟩
  have hmk := make_nils w m (by omega)
  rw [← hgh, ← hW] at hmk
  have H0 : Hid (CutI w W gh m b 0 (fun _ => 0) bb so cap) := by
    refine ⟨?_, fun i hi => absurd hi (Nat.not_lt_zero _), fun i j hi => absurd hi (Nat.not_lt_zero _), ⟨by omega, fun i hi => ?_⟩, by rw [hW]; exact (But.refl _ w).alloc _, by omega⟩
    · rw [rowJ_zero, hW]; exact Blk.new hgh.symm
    · rw [show 256 * 0 + i = i by omega]; exact hcell i (by omega)
  have HMK := Hid.mk' hmk
  obtain ⟨l0, hl0⟩ : ∃ l, l = b.length := ⟨_, rfl⟩
  rw [← hl0] at hl ⊢
  have HL0 := Hid.mk' hl0
  clear hlt hcap hbl hcell hmk hgh hW h0 hl0
  go_enter Try.func26, Try.ntmps26
  go_upto_region 2 with (first
    | (refine wpList_runH rfl (exec_mkJ rfl rfl rfl HMK.out) ?_)
    | fail)
  go_upto_region 3 with fail
  go_loopw [0, 12] (fun bv iv wr => ∃ (k so' cap' : Nat) (G : Nat → Nat), k ≤ m ∧ bv = .slice (some ⟨bb, so', none⟩) (l0 - 256 * k) cap' ∧ iv = .int .i64 k ∧ CutI w wr gh m b k G bb so' cap') (fun _ iv _ => m - (intOf iv).toNat)
  case atStart => exact ⟨0, so, cap, _, Nat.zero_le _, rfl, rfl, H0.out⟩
  case round =>
    obtain ⟨k, so', cap', G, hk, rfl, rfl, hci⟩ := hrel
    have HCI := Hid.mk' hci
    clear H0
    by_cases hlt : k < m
    · obtain ⟨ln, hln⟩ : ∃ ln, ln = l0 - 256 * k := ⟨_, rfl⟩
      rw [← hln]
      have HLN := Hid.mk' hln
      obtain ⟨src, hsrc⟩ : ∃ src, src = b.drop (256 * k) := ⟨_, rfl⟩
      have hsl : ln = src.length := by rw [hsrc, List.length_drop, ← HL0.out]; exact hln
      have hcp : ln ≤ cap' := by have := hci.src.1; rw [← HL0.out] at this; omega
      have hcs : ∀ i, i < src.length → w.cell? ⟨bb, so' + i, none⟩ = some (.int .u8 (src.getD i 0 : Nat)) := fun i hi => by
        rw [hci.src.2 i (by rw [← HL0.out]; omega), hsrc]
        simp [List.getD]
      have HCS := Hid.mk' hcs
      have HSL := Hid.mk' hsl
      have HSRC := Hid.mk' hsrc
      obtain ⟨nn, hnn⟩ : ∃ nn, nn = min ln 256 := ⟨_, rfl⟩
      obtain ⟨so2, hsc, hso2⟩ := slice_fromJ (b := bb) (so := so') (m := ln) (cap := cap') (n := nn) (by omega) hcp
      have HSC := Hid.mk' hsc
      have HSO := Hid.mk' hso2
      have HNN := Hid.mk' hnn
      have hki : (k : Int) < (m : Int) := by omega
      have HROW := Hid.mk' hci.row
      clear hci hcs hsl hsrc hnn hsc hso2 hln
      go_upto_region 6 with (first
        | (at_make; refine wpList_make_full _ rfl _ _ 37 rfl wr.heap.size 5 i0 (.int .u8 0) 1 Try.underlying37 hi hz0 hz1 .i64 .i64 _ _ 256 rfl rfl (by go_num) (by go_num) (by rw [hz2]; omega) (by unfold maxLen; omega) (Nat.le_refl _) ?_; intro w3 hown hgrow; have HT3 : Hid (Grow wr w3) := (But.refl _ _).grown hgrow (by simp); have HO3 := Hid.mk' (own_block hown); have HR3 := Hid.mk' (HROW.out.but HT3.out (fun h => h)))
        | (refine wpList_store1 (g := gh) (i := k) (v := .slice (some ⟨wr.heap.size, 0, none⟩) 256 256) rfl (by kernel_rfl) rfl rfl rfl rfl HR3.out (by rw [rowJ_len]; exact hlt) ?_; intro w4 hb4 hbut4)
        | fail)
      obtain ⟨gb, hgb⟩ : ∃ gb, gb = wr.heap.size := ⟨_, rfl⟩
      rw [← hgb] at hb4
      rw [rowJ_next] at hb4
      rw [← hgb]
      have hhb : gh < gb := by rw [hgb]; exact HROW.out.lt
      have hz3 : Blk w3 gb 5 (u8s (List.replicate 256 0)) := by
        have := HO3.out
        rw [made_zero, ← hgb] at this
        exact this
      have hz4 := hz3.but hbut4 (fun e => by omega)
      have c4 : w4.cell? ⟨gh, k, none⟩ = some (.slice (some ⟨gb, 0, none⟩) 256 256) := by
        rw [hb4.cell, rowJ_get hlt, if_pos (Nat.lt_succ_self k), upd_same]
      have hg4 : Grow w w4 := (HCI.out.grow.trans HT3.out).then hbut4 (fun i hi e => by have := HCI.out.lo; omega)
      have HCS4 : Hid (∀ i, i < src.length → w4.cell? ⟨bb, so' + i, none⟩ = some (.int .u8 (src.getD i 0 : Nat))) := fun i hi => grow_cell hg4 (HCS.out i hi)
      have HB4 := Hid.mk' hb4
      have HZ4 := Hid.mk' hz4
      have HG4 := Hid.mk' hg4
      have HU4 := Hid.mk' hbut4
      have HGB := Hid.mk' hgb
      clear hb4 hz3 hz4 hg4 hbut4 hgb HO3 HR3 HROW
      go_upto_region 7 with (first
        | (refine wpList_copyJ (g := gb) (dCap := 256) (b := bb) (so := so') (ln := ln) (cap := cap') (src := src) (ys := List.replicate 256 0) rfl rfl rfl rfl HSL.out HCS4.out HZ4.out List.length_replicate HNN.out ?_; intro w5 hb5 hbut5)
        | fail)
      clear c4
      go_wp2_with (first
        | (refine wpList_runH rfl (exec_slc rfl rfl rfl rfl (HSC.out w5)) ?_)
        | fail)
      have hcb : src.take 256 ++ (List.replicate 256 0).drop nn = cutB b k := by
        unfold cutB
        rw [← HSRC.out, List.drop_replicate]
        congr 2
        rw [List.length_take, HNN.out, HSL.out]
        omega
      rw [hcb] at hb5
      have hhb2 : ¬ gh = gb := by omega
      refine ⟨⟨k + 1, so2, cap' - nn, upd G k gb, by omega, ?_, by go_num, ?_⟩, by simp [intOf]; omega⟩
      · rw [show l0 - 256 * (k + 1) = ln - nn by have := HLN.out; have := HNN.out; omega]
      · refine ⟨HB4.out.but hbut5 hhb2, fun i hi => ?_, fun i j hi hj e => ?_, ⟨?_, fun i hi => ?_⟩, ?_, HCI.out.lo⟩
        · by_cases hik : i = k
          · subst hik
            rw [upd_same]
            exact ⟨hb5, by have := HCI.out.lo; omega, fun e => hhb2 e.symm⟩
          · rw [upd_other _ _ hik]
            obtain ⟨q1, q2, q3⟩ := HCI.out.el i (by omega)
            have hne : ¬ G i = gb := fun e => by have := q1.lt; have := HGB.out; omega
            exact ⟨((q1.but HT3.out (fun h => h)).but HU4.out q3).but hbut5 hne, q2, q3⟩
        · have hlow : ∀ i, i < k → G i ≠ gb := fun i hi e => by
            have := (HCI.out.el i hi).1.lt
            have := HGB.out
            omega
          by_cases hik : i = k
          · by_cases hjk : j = k
            · omega
            · rw [hik, upd_same, upd_other _ _ hjk] at e
              exact absurd e.symm (hlow j (by omega))
          · by_cases hjk : j = k
            · rw [hjk, upd_same, upd_other _ _ hik] at e
              exact absurd e (hlow i (by omega))
            · rw [upd_other _ _ hik, upd_other _ _ hjk] at e
              exact HCI.out.inj i j (by omega) (by omega) e
        · rw [← HL0.out]; have := HLN.out; have := HNN.out; omega
        · rw [← HL0.out] at hi
          have h1 := HLN.out
          have h2 := HNN.out
          have h3 : nn = 256 := by omega
          have h4 := HSO.out (by omega)
          have := HCI.out.src.2 (256 + i) (by rw [← HL0.out]; omega)
          rw [h4, h3, show so' + 256 + i = so' + (256 + i) by omega, this, show 256 * k + (256 + i) = 256 * (k + 1) + i by omega]
        · exact HG4.out.then hbut5 (fun i hi e => by have := HCI.out.grow.size; have := HGB.out; omega)
    · have hkm : k = m := by omega
      subst hkm
      clear hci
      go_wp2
      go_ret
      exact ⟨_, G, rfl, HCI.out.nb HLT.out (by omega), HCI.out.grow⟩
end Go.Proofs.Ytmlladpmecclbaa
/- journal: Head. -/
namespace Go.Proofs.Ytmlladpmecclbaa
open Go.RowKit

/-- What is put so far. -/
def hdP (V : Nat) (l : List Nat) (k : Nat) : List Nat := be V 8 ++ be l.length 4 ++ (l.take k).flatMap fun x => be x 4
theorem hdP_zero (V : Nat) (l : List Nat) : hdP V l 0 = be V 8 ++ be l.length 4 := by simp [hdP]
theorem hdP_full (V : Nat) (l : List Nat) : hdP V l l.length = hdB V l := by simp [hdP, hdB]
theorem hdP_next {V : Nat} {l : List Nat} {k : Nat} (h : k < l.length) : hdP V l (k + 1) = hdP V l k ++ be (l.getD k 0) 4 := by
  unfold hdP
  rw [List.take_add_one, List.getElem?_eq_getElem h, List.flatMap_append]
  simp [List.getD, h]
theorem hdP_len {V : Nat} {l : List Nat} {k : Nat} (h : k ≤ l.length) : (hdP V l k).length = 12 + 4 * k := by
  unfold hdP
  rw [List.length_append, List.length_append, be_len, be_len, flat4_len, List.length_take]
  omega
theorem toI_bey {l : List Nat} (h : ∀ x ∈ l, x ≤ 65535) : (toI l).any bey = false := by
  rw [List.any_eq_false]
  intro x hx
  obtain ⟨n, hn, rfl⟩ := List.mem_map.1 hx
  have := h n hn
  unfold bey
  simp
  omega
theorem wrapU (n : Nat) (h : n < 18446744073709551616) : IntKind.u64.wrap (n : Int) = (n : Int) := by show (n : Int) % 18446744073709551616 = _; omega
set_option maxRecDepth 100000 in
set_option maxHeartbeats 8000000 in
theorem jhead_no {w : World} {V : Int} {bv : Value} {xs : List Int} {y : Int} (hv : Nums w bv xs) (hl : xs.length ≤ 1000000) (h : ¬ ((1 ≤ y ∧ y ≤ 256) ∧ (xs.length : Int) ≤ y ∧ xs.any bey = false)) :
    Calls Try.prog 10 #[.int .u64 V, bv, .int .i64 y] w fun e w' => e = .returned (.tuple #[.slice none 0 0, .int .i64 1]) ∧ Grow w w' := by
  have HV := Hid.mk' hv
  obtain ⟨ao, cap, rfl⟩ := hv.len
  obtain ⟨n, hn⟩ : ∃ n, n = xs.length := ⟨_, rfl⟩
  rw [← hn] at hl h ⊢
  rw [← hn] at HV
  have HN := Hid.mk' hn
  by_cases hy : 1 ≤ y ∧ y ≤ 256
  · obtain ⟨b, rfl⟩ : ∃ b : Nat, y = (b : Int) := ⟨y.toNat, by omega⟩
    have HH := Hid.mk' (jheads_any w b (by omega) (by omega))
    generalize hds b = m at HH
    by_cases hnb : (n : Int) ≤ (b : Int)
    · have ha : xs.any bey = true := by
        cases e : xs.any bey with
        | true => rfl
        | false => exact absurd ⟨hy, hnb, e⟩ h
      have HC : Hid (∀ w', Grow w w' → Calls Try.prog 23 #[.slice ao n cap, .func (.func 24) #[] #[]] w' fun e w'' => e = .returned (.bool true) ∧ w'' = w') := fun w' k => by
        have := has_ints (HV.out.grow k) (by rw [← HN.out]; omega)
        rw [ha] at this
        exact this
      clear hv hn h ha hy
      go_enter Try.func10, Try.ntmps10
      go_wp2_with fail
      refine Calls.mono HH.out ?_
      rintro e w1 ⟨rfl, hg⟩
      have HG := Hid.mk' hg
      clear hg
      go_wp2_with fail
      refine Calls.mono (HC.out w1 HG.out) ?_
      rintro e w2 ⟨rfl, hw⟩
      subst w2
      go_wp2
      exact bodyPost_ret (results_tmp2 rfl _ _ _) rfl ⟨rfl, HG.out⟩
    · have hgt : (b : Int) < (n : Int) := by omega
      clear hv hn h hnb hy
      go_enter Try.func10, Try.ntmps10
      go_wp2_with fail
      refine Calls.mono HH.out ?_
      rintro e w1 ⟨rfl, hg⟩
      have HG := Hid.mk' hg
      clear hg
      go_wp2
      exact bodyPost_ret (results_tmp2 rfl _ _ _) rfl ⟨rfl, HG.out⟩
  · have HH := Hid.mk' (jheads_no w y hy)
    clear hv hn h hy
    go_enter Try.func10, Try.ntmps10
    go_wp2_with fail
    refine Calls.mono HH.out ?_
    rintro e w1 ⟨rfl, hg⟩
    have HG := Hid.mk' hg
    clear hg
    go_wp2
    exact bodyPost_ret (results_tmp2 rfl _ _ _) rfl ⟨rfl, HG.out⟩
set_option maxRecDepth 100000 in
set_option maxHeartbeats 8000000 in
theorem jhead_any {w : World} {V b : Nat} {bv : Value} {l : List Nat} (hV : V < 18446744073709551616) (hv : Nums w bv (toI l)) (h1 : 1 ≤ b) (h2 : b ≤ 256) (hl : l.length ≤ b) (hx : ∀ x ∈ l, x ≤ 65535) :
    Calls Try.prog 10 #[.int .u64 (V : Int), bv, .int .i64 (b : Int)] w fun e w' => ∃ v' G, e = .returned (.tuple #[v', .int .i64 0]) ∧ Nb w.heap.size w' v' (hds b) G (cutB (hdB V l)) ∧ Grow w w' := by
  have HV := Hid.mk' hv
  obtain ⟨ao, cap, rfl⟩ := hv.len
  rw [toI_len]
  rw [toI_len] at HV
  obtain ⟨n, hn⟩ : ∃ n, n = l.length := ⟨_, rfl⟩
  rw [← hn] at hl ⊢
  rw [← hn] at HV
  have HN := Hid.mk' hn
  have HH := Hid.mk' (jheads_any w b h1 h2)
  have hm5 := (hds_le h2).2
  obtain ⟨m, hm⟩ : ∃ m, m = hds b := ⟨_, rfl⟩
  rw [← hm] at HH hm5 ⊢
  have HC : Hid (∀ w', Grow w w' → Calls Try.prog 23 #[.slice ao n cap, .func (.func 24) #[] #[]] w' fun e w'' => e = .returned (.bool false) ∧ w'' = w') := fun w' k => by
    have := has_ints (HV.out.grow k) (by rw [toI_len, ← HN.out]; omega)
    rw [toI_bey hx] at this
    exact this
  have HP0 : Hid (∀ w', Calls Try.prog 25 #[.slice none 0 0, .int .u64 (V : Int), .int .i64 8] w' fun e w'' => ∃ v', e = .returned (.tuple #[v', .int .i64 0]) ∧ Bs w'' v' (be V 8) ∧ Grow w' w'') := fun w' => by
    refine (put_ok (Bs.nil w') (by simp) V 8 (by decide) (by decide) (Nat.div_eq_of_lt (by simpa using hV))).mono ?_
    rintro e w'' ⟨v', rfl, ho, hb⟩
    exact ⟨v', rfl, by have := ho.bs; simpa using this, But.of hb⟩
  have HP4 : Hid (∀ w' v zs (N : Nat), Bs w' v zs → zs.length ≤ 100000 → N ≤ 65535 → Calls Try.prog 25 #[v, .int .u64 (N : Int), .int .i64 4] w' fun e w'' => ∃ v', e = .returned (.tuple #[v', .int .i64 0]) ∧ Bs w'' v' (zs ++ be N 4) ∧ Grow w' w'') := fun w' v zs N hb hz hN => by
    refine (put_ok hb (by omega) N 4 (by decide) (by decide) (Nat.div_eq_of_lt (by show N < 256 ^ 4; omega))).mono ?_
    rintro e w'' ⟨v', rfl, ho, hb⟩
    exact ⟨v', rfl, ho.bs, But.of hb⟩
  have HX : Hid (∀ i, i < n → l.getD i 0 ≤ 65535) := fun i hi => hx _ (by simp [List.getD, show i < l.length by omega])
  have hnb : (n : Int) ≤ (b : Int) := by omega
  have hwn : IntKind.u64.wrap (n : Int) = (n : Int) := wrapU n (by omega)
  clear hv hn hm hx hV
  go_enter Try.func10, Try.ntmps10
  go_wp2_with fail
  refine Calls.mono HH.out ?_
  rintro e w1 ⟨rfl, hg⟩
  have HG := Hid.mk' hg
  clear hg
  go_wp2_with fail
  refine Calls.mono (HC.out w1 HG.out) ?_
  rintro e w2 ⟨rfl, hw⟩
  subst w2
  go_wp2_with fail
  refine Calls.mono (HP0.out w1) ?_
  rintro e w2 ⟨v2, rfl, hb2, hg2⟩
  have HG2 := Hid.mk' (HG.out.trans hg2)
  have HB2 := Hid.mk' hb2
  obtain ⟨a2, n2, c2, rfl⟩ := hb2.sl
  clear hb2 hg2
  go_wp2_with fail
  refine Calls.mono (HP4.out w2 _ _ n HB2.out (by rw [be_len]; decide) (by omega)) ?_
  rintro e w3 ⟨v3, rfl, hb3, hg3⟩
  have HG3 := Hid.mk' (HG2.out.trans hg3)
  have HB3 : Hid (Bs w3 v3 (hdP V l 0)) := by
    show Bs _ _ _
    rw [hdP_zero, ← HN.out]; exact hb3
  obtain ⟨a3, n3, c3, rfl⟩ := hb3.sl
  clear hb3 hg3 HB2 HG2 HC HP0
  go_upto_region 9 with fail
  go_loopw [10, 45] (fun xv iv wr => ∃ (k : Nat) (v : Value), v = xv ∧ k ≤ n ∧ iv = .int .i64 k ∧ Bs wr v (hdP V l k) ∧ Grow w wr) (fun _ iv _ => n - (intOf iv).toNat)
  case atStart => exact ⟨0, _, rfl, Nat.zero_le _, rfl, HB3.out, HG3.out⟩
  case round =>
    obtain ⟨k, v, hvv, hk, rfl, hb, hgr⟩ := hrel
    subst hvv
    have HGR := Hid.mk' hgr
    have HB := Hid.mk' hb
    obtain ⟨a4, n4, c4, rfl⟩ := hb.sl
    clear HB3
    by_cases hlt : k < n
    · obtain ⟨bb, off, c, hve, -, -, hc⟩ := (HV.out.grow hgr).at (by rw [toI_len, ← HN.out]; omega)
      simp only [Value.slice.injEq] at hve
      obtain ⟨rfl, -, rfl⟩ := hve
      obtain ⟨x, hx⟩ : ∃ x, x = l.getD k 0 := ⟨_, rfl⟩
      have hcc := hc k (by rw [toI_len, ← HN.out]; exact hlt)
      have hxi : (toI l).getD k 0 = (x : Int) := by
        rw [hx]
        simp [toI, List.getD, show k < l.length by rw [← HN.out]; exact hlt]
      rw [hxi] at hcc
      have hcc2 : wr.cell? ((⟨bb, off, none⟩ : Addr).add k) = some (.int .i64 (x : Int)) := by rw [addr_add]; exact hcc
      have hx2 : x ≤ 65535 := by rw [hx]; exact HX.out k hlt
      have hwx : IntKind.u64.wrap (x : Int) = (x : Int) := wrapU x (by omega)
      have HXX := Hid.mk' hx
      have hki : (k : Int) < (n : Int) := by omega
      have HPK := Hid.mk' (HP4.out wr _ _ x HB.out (by rw [hdP_len (by rw [← HN.out]; omega)]; omega) hx2)
      clear hc hx hxi hb hgr
      go_wp2_with fail
      refine Calls.mono HPK.out ?_
      rintro e w5 ⟨v5, rfl, hb5, hg5⟩
      obtain ⟨a5, n5, c5, rfl⟩ := hb5.sl
      go_wp2
      refine ⟨⟨k + 1, _, rfl, by omega, by go_num, ?_, HGR.out.trans hg5⟩, by simp [intOf]; omega⟩
      rw [hdP_next (by rw [← HN.out]; exact hlt), ← HXX.out]
      exact hb5
    · have hkn : k = n := by omega
      subst hkn
      have hfull : hdP V l k = hdB V l := by rw [HN.out]; exact hdP_full V l
      rw [hfull] at HB
      have HCT := Hid.mk' (jcut_any (m := m) HB.out (by rw [hdB_len]; omega) (by rw [hdB_len, ← HN.out]; omega) (by omega))
      clear hb hgr
      go_wp2_with fail
      refine Calls.mono HCT.out ?_
      rintro e w6 ⟨v6, G, rfl, hnb6, hg6⟩
      obtain ⟨a6, c6, hve⟩ := hnb6.len
      subst hve
      have HNB := Hid.mk' (hnb6.mono HGR.out.size)
      have HG6 := Hid.mk' (HGR.out.trans hg6)
      clear hnb6 hg6
      go_wp2
      exact bodyPost_ret (results_tmp2 rfl _ _ _) rfl ⟨_, G, rfl, HNB.out, HG6.out⟩
end Go.Proofs.Ytmlladpmecclbaa
/- bytes.Join, off the library's shelf. -/
namespace Go.Proofs.Ytmlladpmecclbaa
open Go.RowKit

def renJ : Shelf.Ren := ⟨fun x => if x = 14 then 30 else if x = 15 then 41 else x, fun x => if x = 22 then 37 else if x = 26 then 22 else if x = 0 then 0 else if x = 3 then 3 else if x = 4 then 4 else if x = 9 then 9 else if x = 20 then 20 else if x = 5 then 5 else x, fun x => x⟩
theorem laysJ : SlLaysJ.n14 Try.prog renJ where
  mixed := by kernel_rfl
  f14 := by kernel_rfl
  f15 := by kernel_rfl
  t0 := by kernel_rfl
  a0 := fun _ => by kernel_rfl
  z0 := fun _ => by kernel_rfl
  v0 := fun _ => by kernel_rfl
  t3 := by kernel_rfl
  a3 := fun _ => by kernel_rfl
  z3 := fun _ => by kernel_rfl
  v3 := fun _ => by kernel_rfl
  t4 := by kernel_rfl
  a4 := fun _ => by kernel_rfl
  z4 := fun _ => by kernel_rfl
  v4 := fun _ => by kernel_rfl
  t9 := by kernel_rfl
  a9 := fun _ => by kernel_rfl
  z9 := fun _ => by kernel_rfl
  v9 := fun _ => by kernel_rfl
  t20 := by kernel_rfl
  a20 := fun _ => by kernel_rfl
  z20 := fun _ => by kernel_rfl
  v20 := fun _ => by kernel_rfl
  t22 := by kernel_rfl
  a22 := fun _ => by kernel_rfl
  z22 := fun _ => by kernel_rfl
  v22 := fun _ => by kernel_rfl
  t26 := by kernel_rfl
  a26 := fun _ => by kernel_rfl
  z26 := fun _ => by kernel_rfl
  v26 := fun _ => by kernel_rfl
  t5 := by kernel_rfl
  z5 := fun _ => by kernel_rfl
  i5 := by kernel_rfl
abbrev b8s (xs : List Nat) : List UInt8 := xs.map UInt8.ofNat
theorem b8s_nat {xs : List Nat} (h : ∀ z ∈ xs, z < 256) : (b8s xs).map UInt8.toNat = xs := by
  induction xs with
  | nil => rfl
  | cons a l ih =>
    simp only [b8s, List.map_cons] at ih ⊢
    rw [ih (fun z hz => h z (List.mem_cons_of_mem _ hz))]
    congr 1
    have := h a List.mem_cons_self
    simp; omega
theorem Bs.holds {w : World} {v : Value} {xs : List Nat} (h : Bs w v xs) : Lib.HoldsBytes w v (b8s xs) := by
  have hlt := h.1
  obtain ⟨ao, cap, rfl, hn, hc⟩ := h.gen
  refine ⟨ao, cap, by simp [b8s], fun e => by rw [List.eq_nil_of_length_eq_zero (hn e).1]; rfl, fun a ha i x hx => ?_⟩
  have hi : i < xs.length := by have := (List.getElem?_eq_some_iff.1 hx).1; simpa [b8s] using this
  rw [hc a ha i _ (u8s_get xs i hi)]
  have hg := getD_mem xs i hi
  have h2 := hlt _ hg
  have : x = UInt8.ofNat (xs.getD i 0) := by
    simp [b8s, hi] at hx
    rw [← hx]; simp [List.getD, hi]
  rw [this]
  generalize xs.getD i 0 = q at *
  simp
  omega
theorem fresh_bs {B : Nat} {w : World} {v : Value} {xs : List Nat} (hx : ∀ z ∈ xs, z < 256) (h : Lib.FreshBytes B w v (b8s xs)) (hl : xs.length ≤ 281474976710656) : Bs w v xs ∧ ∀ k, v.ownBlock = some k → B ≤ k := by
  obtain ⟨g, cap, zs, rfl, hg, h1, h2, h3, h4, h5, h6, _⟩ := h
  have hlen : (b8s xs).length = xs.length := by simp [b8s]
  rw [hlen] at h1 h5 ⊢
  refine ⟨⟨hx, hl, ?_⟩, fun k hk => by cases hk; exact hg⟩
  by_cases h0 : xs = []
  · subst h0; exact .inl ⟨rfl, .inr ⟨_, _, rfl⟩⟩
  · have hpos : 0 < xs.length := List.length_pos_iff.2 h0
    have hc0 := h6 0 (by omega)
    refine .inr ⟨hpos, g, 0, cap, rfl, h1, World.block_lt_of_cell? _ _ hc0, fun i hi => ?_⟩
    rw [Nat.zero_add, h6 i (by omega)]
    have hz := h4 (zs.getD i 0) (by simp [List.getD, show i < zs.length by omega])
    have hiz : i < zs.length := by omega
    have e3 : zs.getD i 0 = zs[i] := by simp [List.getD, hiz]
    have e4 : xs.getD i 0 = xs[i] := by simp [List.getD, hi]
    have hxi := hx _ (getD_mem xs i hi)
    rw [e3] at hz ⊢
    rw [e4] at hxi ⊢
    have e := congrArg (fun l : List UInt8 => l[i]?) h5
    simp [Lib.bytesOf, b8s, hi, hiz] at e
    have e5 := congrArg UInt8.toNat e
    simp at e5
    congr 2
    omega
theorem join_flat : ∀ (xss : List (List UInt8)), Lib.join xss [] = xss.flatten
  | [] => rfl
  | [x] => by simp [Lib.join_one]
  | x :: y :: l => by
    have := join_flat (y :: l)
    simp only [Lib.join, List.intercalate, List.intersperse, List.flatten_cons, List.nil_append] at this ⊢
    rw [this]
theorem b8s_flat (xss : List (List Nat)) : (xss.map b8s).flatten = b8s xss.flatten := by
  simp [b8s, List.map_flatten]
/-- The parts, one behind the other, in memory that is new. -/
theorem join_any {w : World} {v : Value} {xss : List (List Nat)} (hv : Ps w v xss) (h1 : 1 ≤ xss.length) (h2 : xss.length ≤ 1000) (hlen : xss.flatten.length ≤ 1000000) (hcap : ∀ ao n c, v = .slice ao n c → n ≤ c) :
    Calls Try.prog 30 #[v, .slice none 0 0] w fun e w' => ∃ v', e = .returned v' ∧ Bs w' v' xss.flatten ∧ (0 < xss.flatten.length → ∀ k, v'.ownBlock = some k → w.heap.size ≤ k) ∧ Grow w w' := by
  obtain ⟨ao, cap, rfl, hg⟩ := hv.gen
  obtain ⟨b, off, rfl, hb, hc⟩ := hg (by omega)
  have hlt : ∀ z ∈ xss.flatten, z < 256 := fun z hz => by
    obtain ⟨l, hl, hz2⟩ := List.mem_flatten.1 hz
    obtain ⟨i, hi⟩ := List.mem_iff_getElem?.1 hl
    have hi2 := (List.getElem?_eq_some_iff.1 hi).1
    obtain ⟨u, _, hu⟩ := hc i hi2
    have : xss.getD i [] = l := by simp [List.getD, hi]
    rw [this] at hu
    exact hu.1 z hz2
  have hadd : ∀ i, (⟨b, off, none⟩ : Addr).add i = ⟨b, off + i, none⟩ := fun i => by simp [Addr.add]
  by_cases hone : xss.length = 1
  · obtain ⟨xs, rfl⟩ : ∃ xs, xss = [xs] := by
      match xss, hone with
      | [xs], _ => exact ⟨xs, rfl⟩
    obtain ⟨u, hcu, hbu⟩ := hc 0 (by simp)
    have hbu' : Bs w u xs := hbu
    have hfl : ([xs] : List (List Nat)).flatten = xs := by simp
    rw [hfl] at hlen hlt ⊢
    have hh := hbu'.holds
    obtain ⟨p0, c0, rfl, hp0, hcell⟩ := hh
    rw [Nat.add_zero] at hcu
    by_cases h0 : xs = []
    · subst h0
      refine (Any.bytes_Join_one_empty laysJ b off cap p0 c0 (.slice none 0 0) w hcu).mono ?_
      rintro e w' ⟨rfl, rfl⟩
      exact ⟨_, rfl, Bs.nil _, fun h => absurd h (by simp), But.refl _ _⟩
    · have hpos : 0 < xs.length := List.length_pos_iff.2 h0
      have hpos2 : 0 < (b8s xs).length := by simpa [b8s] using hpos
      cases p0 with
      | none => have := hp0 rfl; rw [this] at hpos2; simp at hpos2
      | some ad =>
        refine (Any.bytes_Join_one laysJ b off cap ad c0 (b8s xs) (.slice none 0 0) w hcu (hcell ad rfl) hpos2 (by simp [b8s]; omega)).mono ?_
        rintro e w' ⟨v', rfl, hf, hbl⟩
        obtain ⟨q1, q2⟩ := fresh_bs hlt hf (by omega)
        exact ⟨v', rfl, q1, fun _ => q2, But.of hbl⟩
  · have hex : ∀ i, i < xss.length → ∃ u, w.cell? ⟨b, off + i, none⟩ = some u ∧ Bs w u (xss.getD i []) := hc
    obtain ⟨V, hV⟩ := Deep.choose_lt (α := Value) (p := fun i u => w.cell? ⟨b, off + i, none⟩ = some u ∧ Bs w u (xss.getD i [])) hex
    refine (Any.bytes_Join_many laysJ b off xss.length cap ((List.range xss.length).map V) (xss.map b8s) (.slice none 0 0) [] w (by simp) (by omega) ⟨by simp, fun i u hu => ?_, fun i u l hu hl => ?_⟩ ?_ ⟨none, 0, rfl, fun _ => rfl, fun a ha => by cases ha⟩ (by omega) ?_).mono ?_
    · have hi : i < xss.length := by have := (List.getElem?_eq_some_iff.1 hu).1; simpa using this
      simp [hi] at hu
      rw [hadd, ← hu]
      exact (hV i hi).1
    · have hi : i < xss.length := by have := (List.getElem?_eq_some_iff.1 hu).1; simpa using this
      simp [hi] at hu hl
      rw [← hu, ← hl]
      have := (hV i hi).2.holds
      have e : xss.getD i [] = xss[i] := by simp [List.getD, hi]
      rw [e] at this
      exact this
    · exact hcap _ _ _ rfl
    · have : Lib.lens (xss.map b8s) = xss.flatten.length := by
        rw [List.length_flatten]
        simp [Lib.lens, b8s, List.map_map, Function.comp_def]
      rw [this]
      simp only [List.length_nil, Nat.zero_mul, Nat.add_zero]
      omega
    · rintro e w' ⟨v', rfl, hf, hbl⟩
      rw [join_flat, b8s_flat] at hf
      obtain ⟨q1, q2⟩ := fresh_bs hlt hf (by omega)
      exact ⟨v', rfl, q1, fun _ => q2, But.of hbl⟩
end Go.Proofs.Ytmlladpmecclbaa
/- journal: read: what a head says. -/
namespace Go.Proofs.Ytmlladpmecclbaa
open Go.RowKit

theorem jbls_len (F : List Nat) (n : Nat) : (jbls F n).length = n := by simp [jbls]
theorem jbls_next (F : List Nat) (k : Nat) : jbls F (k + 1) = jbls F k ++ [jnum F k] := by unfold jbls; rw [List.range_succ, List.map_append]; rfl
theorem jnum_lt {F : List Nat} (h : ∀ z ∈ F, z < 256) {i : Nat} (hi : 16 + 4 * i ≤ F.length) : jnum F i < 4294967296 := by
  have := val_lt (F.drop (12 + 4 * i)) (fun z hz => h z (List.mem_of_mem_drop hz)) 4 (by rw [List.length_drop]; omega)
  exact this
theorem jver_lt {F : List Nat} (h : ∀ z ∈ F, z < 256) (hl : 8 ≤ F.length) : jver F < 18446744073709551616 := val_lt F h 8 hl
theorem jcnt_lt {F : List Nat} (h : ∀ z ∈ F, z < 256) (hl : 12 ≤ F.length) : jcnt F < 4294967296 :=
  val_lt (F.drop 8) (fun z hz => h z (List.mem_of_mem_drop hz)) 4 (by rw [List.length_drop]; omega)
set_option maxRecDepth 100000 in
set_option maxHeartbeats 8000000 in
theorem jread_any {w : World} {v : Value} {hs : List (List Nat)} {b : Nat} (hv : Ps w v hs) (hcap : ∀ ao n c, v = .slice ao n c → n ≤ c) (h1 : 1 ≤ hs.length) (h2 : hs.length ≤ 1000) (hb : b ≤ 256) (hlen : 12 + 4 * b ≤ hs.flatten.length) (hl2 : hs.flatten.length ≤ 1000000) (hlt : ∀ z ∈ hs.flatten, z < 256) :
    Calls Try.prog 15 #[v, .int .i64 (b : Int)] w fun e w' => ∃ bv, e = .returned (.tuple #[.int .u64 (jver hs.flatten : Nat), bv]) ∧ Nums w' bv (toI (jbls hs.flatten (min (jcnt hs.flatten) b))) ∧ Grow w w' ∧ ∀ k, bv.ownBlock = some k → w.heap.size ≤ k := by
  have HJ := Hid.mk' (join_any hv h1 h2 hl2 hcap)
  obtain ⟨F, hF⟩ : ∃ F, F = hs.flatten := ⟨_, rfl⟩
  rw [← hF] at HJ hlen hl2 hlt ⊢
  obtain ⟨ao, cap, rfl, -⟩ := hv.gen
  generalize hs.length = hn at HJ ⊢
  have HLT := Hid.mk' hlt
  have HLEN : Hid (12 + 4 * b ≤ F.length ∧ F.length ≤ 1000000) := ⟨hlen, hl2⟩
  obtain ⟨V, hV⟩ : ∃ V, V = jver F := ⟨_, rfl⟩
  obtain ⟨n, hn'⟩ : ∃ n, n = jcnt F := ⟨_, rfl⟩
  rw [← hV, ← hn']
  have HV : Hid (val (F.take 8) = V) := hV.symm
  have HN : Hid (val ((F.drop 8).take 4) = n) := hn'.symm
  obtain ⟨m, hm⟩ : ∃ m, m = min n b := ⟨_, rfl⟩
  rw [← hm]
  have hmb : m ≤ b := by omega
  have hmin : min (n : Int) (b : Int) = (m : Int) := by omega
  have hwb : IntKind.u64.wrap (b : Int) = (b : Int) := wrapU b (by omega)
  clear hv hcap h1 h2 hF hlen hl2 hlt hV hn' hm
  go_enter Try.func15, Try.ntmps15
  go_wp2_with fail
  refine Calls.mono HJ.out ?_
  rintro e w1 ⟨v1, rfl, hb1, -, hg1⟩
  have HRN := Hid.mk' (reader_any hb1 (by have := HLEN.out; omega))
  have HG1 := Hid.mk' hg1
  obtain ⟨a1, n1, c1, rfl⟩ := hb1.sl
  clear hb1 hg1 HJ
  go_wp2_with fail
  refine Calls.mono HRN.out ?_
  rintro e w2 ⟨r, og, rfl, hr, hog, hrd, hbl2⟩
  have HG2 := Hid.mk' (HG1.out.trans (But.of hbl2))
  have HR : Hid (w1.heap.size ≤ r ∧ ∀ g, og = some g → w1.heap.size ≤ g) := ⟨hr, hog⟩
  have HS12 : Hid (w.heap.size ≤ w1.heap.size) := HG1.out.size
  have HN8 := Hid.mk' (num_ok hrd 8 (by decide) (by decide) (by have := HLEN.out; omega))
  rw [HV.out] at HN8
  clear hr hog hrd hbl2 HRN
  go_wp2_with fail
  refine Calls.mono HN8.out ?_
  rintro e w3 ⟨rfl, hrd3, hb3⟩
  have HG3 := Hid.mk' (HG2.out.then hb3 (fun i hi e => by have := HR.out.1; have := HS12.out; omega))
  have HN4 := Hid.mk' (num_ok hrd3 4 (by decide) (by decide) (by rw [List.length_drop]; have := HLEN.out; omega))
  rw [HN.out] at HN4
  clear hrd3 hb3 HN8
  go_wp2_with fail
  refine Calls.mono HN4.out ?_
  rintro e w4 ⟨rfl, hrd4, hb4⟩
  have HG4 := Hid.mk' (HG3.out.then hb4 (fun i hi e => by have := HR.out.1; have := HS12.out; omega))
  rw [List.drop_drop] at hrd4
  have HRD4 := Hid.mk' hrd4
  clear hrd4 hb4 HN4
  have HRL : Hid (r < w4.heap.size) := HRD4.out.lt
  have HOG : Hid (∀ g, og = some g → g < w4.heap.size) := fun g hg => (HRD4.out.og g hg).2
  have H0 : Hid (Own w4 w4 (.slice none 0 0) (toI (jbls F 0))) := ⟨World.ownsRow_nil _ _ _ _, fun k hk => by cases hk⟩
  go_upto_region 5 with fail
  go_loopw [5, 19] (fun xv iv wr => ∃ (k : Nat) (v : Value), v = xv ∧ k ≤ m ∧ iv = .int .u64 k ∧ Own w4 wr v (toI (jbls F k)) ∧ Rd wr r og (F.drop (12 + 4 * k)) 0 ∧ Grow w wr ∧ w4.heap.size ≤ wr.heap.size) (fun _ iv _ => m - (intOf iv).toNat)
  case atStart => exact ⟨0, _, rfl, Nat.zero_le _, rfl, H0.out, HRD4.out, HG4.out, Nat.le_refl _⟩
  case round =>
    obtain ⟨k, v, hvv, hk, rfl, hown, hrd, hgr, hsz⟩ := hrel
    subst hvv
    clear H0 HRD4
    have HOWN := Hid.mk' hown
    have HGR := Hid.mk' hgr
    have HSZ := Hid.mk' hsz
    obtain ⟨va, vc, hve⟩ := hown.sl
    rw [toI_len, jbls_len] at hve
    subst hve
    by_cases hlt : k < m
    · have hki : (k : Int) < (m : Int) := by omega
      have hx4 := jnum_lt (i := k) HLT.out (by have := HLEN.out; omega)
      obtain ⟨x, hx⟩ : ∃ x, x = jnum F k := ⟨_, rfl⟩
      have HNK := Hid.mk' (num_ok hrd 4 (by decide) (by decide) (by rw [List.length_drop]; have := HLEN.out; omega))
      rw [show val ((F.drop (12 + 4 * k)).take 4) = x from hx.symm] at HNK
      rw [← hx] at hx4
      have HX := Hid.mk' hx
      have hwx : IntKind.i64.wrap (x : Int) = (x : Int) := wrapI (by omega) (by omega)
      have hwk : IntKind.u64.wrap ((k : Int) + 1) = ((k + 1 : Nat) : Int) := wrapU (k + 1) (by omega)
      clear hx hown hrd hgr hsz
      go_wp2_with fail
      refine Calls.mono HNK.out ?_
      rintro e w5 ⟨rfl, hrd5, hb5⟩
      rw [List.drop_drop, show 12 + 4 * k + 4 = 12 + 4 * (k + 1) by omega] at hrd5
      have hown5 := HOWN.out.but hb5 (fun j hj e => by have := HOWN.out.new j hj; have := HRL.out; omega)
      have HG5 := Hid.mk' (HGR.out.then hb5 (fun i hi e => by have := HR.out.1; have := HS12.out; omega))
      have HRW : Hid (w5.ownsRow 0 3 1 (.slice va k vc) k (numv (toI (jbls F k)))) := by
        have := hown5.row
        rw [toI_len, jbls_len] at this
        exact this
      have HAL : Hid (Grow w5 (w5.alloc (.cells #[.int .i64 (x : Int)] 3))) := (But.refl _ w5).alloc _
      have HBL : Hid (Blk (w5.alloc (.cells #[.int .i64 (x : Int)] 3)) w5.heap.size 3 (numv [(x : Int)])) := Blk.new (L := numv [(x : Int)]) rfl
      have HRD5 := Hid.mk' hrd5
      have HOW5 := Hid.mk' hown5
      have HS5 : Hid (wr.heap.size ≤ w5.heap.size) := hb5.size
      clear hrd5 hb5 hown5 HNK
      go_wp2_with (first
        | (refine wpList_runH rfl (exec_row1 (v := .int .i64 (x : Int)) Try.underlying26 infNum (by decide) (by decide) rfl rfl rfl) ?_)
        | (refine wpList_someH rfl (exec_append (v := .slice va k vc) (n := k) (xs := numv (toI (jbls F k))) (news := numv [(x : Int)]) Try.underlying26 infNum rfl (by decide) rfl rfl (ownsRow_grow HRW.out HAL.out) rfl rfl (fun j u hj => HBL.out.cells0 j u hj) (fun u hu => by rw [show u = .int .i64 (x : Int) by simpa [numv] using hu]; rfl) (by omega) (by decide)) ?_; intro v6 w6 hap)
        | fail)
      have hal6 := HAL.out.size
      have hnew : ∀ j, (Value.slice va k vc).ownBlock = some j → w4.heap.size ≤ j := fun j hj => HOWN.out.new j hj
      refine ⟨⟨k + 1, _, rfl, by omega, by first | rfl | go_num, ?_, ?_, ?_, ?_⟩, by simp [intOf]; omega⟩
      · rw [jbls_next, ← HX.out]
        have e : toI (jbls F k ++ [x]) = toI (jbls F k) ++ [(x : Int)] := by simp [toI]
        rw [e]
        refine ⟨?_, fun j hj => ?_⟩
        · have := hap.own
          rw [List.length_append, toI_len, jbls_len, show numv (toI (jbls F k) ++ [(x : Int)]) = numv (toI (jbls F k)) ++ numv [(x : Int)] by simp [numv]]
          exact this
        · rcases hap.at' with e | e
          · rw [e] at hj; exact hnew j hj
          · rw [e] at hj
            have := Option.some.inj hj
            have := HSZ.out
            have := HS5.out
            omega
      · refine (HRD5.out.but HAL.out (fun h => h) (fun _ _ h => h)).but hap.but (fun e => ?_) (fun g hg e => ?_)
        · have := hnew r e
          have := HRL.out
          omega
        · have h1 := hnew g e
          have h2 := (HOWN.out.new g e)
          have h3 := HOG.out g hg
          omega
      · exact (HG5.out.trans HAL.out).then hap.but (fun i hi e => by have := hnew i e; have := HG4.out.size; omega)
      · have := hap.but.size
        have := HSZ.out
        have := HS5.out
        omega
    · have hkm : k = m := by omega
      subst hkm
      clear hown hrd hgr hsz
      have hnm : Nums wr (.slice va k vc) (toI (jbls F k)) := by
        refine Nums.ofRow (base := 0) HOWN.out.row (fun y hy => ?_) (by rw [toI_len, jbls_len]; omega)
        obtain ⟨z, hz, rfl⟩ := List.mem_map.1 hy
        obtain ⟨i, hi, rfl⟩ := List.mem_map.1 hz
        have := jnum_lt (i := i) HLT.out (by have := HLEN.out; have := List.mem_range.1 hi; omega)
        omega
      have HNM := Hid.mk' hnm
      clear hnm
      go_wp2
      exact bodyPost_ret (results_tmp2 rfl _ _ _) rfl ⟨_, rfl, HNM.out, HGR.out, fun j hj => Nat.le_trans HG4.out.size (HOWN.out.new j hj)⟩
end Go.Proofs.Ytmlladpmecclbaa
/- The reference's Same, over memory that only grows. -/
namespace Go.Proofs.Ytmlladpmecclbaa
open Go.RowKit

theorem same_grow {v u : Value} {xs ys : List Nat} {w : World} (hv : Bs w v xs) (hu : Bs w u ys) : Calls Try.prog 35 #[v, u] w fun e w' => e = .returned (.bool (decide (xs = ys))) ∧ Grow w w' := by
  refine (same_any hv hu).mono ?_
  rintro e w' ⟨rfl, d, rfl⟩
  exact ⟨rfl, (But.refl _ w).drewN⟩
end Go.Proofs.Ytmlladpmecclbaa
/- The reference's SameAll: two rows of slices of bytes. -/
namespace Go.Proofs.Ytmlladpmecclbaa
open Go.RowKit

theorem Ps.elems {w : World} {v : Value} {xss : List (List Nat)} (h : Ps w v xss) : ∀ x ∈ xss, ∀ z ∈ x, z < 256 := fun x hx => by
  obtain ⟨i, hi, rfl⟩ := List.mem_iff_getElem.1 hx
  obtain ⟨ao, cap, -, hh⟩ := h.gen
  obtain ⟨b, off, -, -, hc⟩ := hh (by omega)
  obtain ⟨u, -, hb⟩ := hc i hi
  have e : xss.getD i [] = xss[i] := by simp [List.getD, hi]
  rw [e] at hb
  exact hb.1
theorem eq_of_getD2 {xss yss : List (List Nat)} (hl : xss.length = yss.length) (h : ∀ i, i < xss.length → xss.getD i [] = yss.getD i []) : xss = yss := by
  apply List.ext_getElem hl
  intro i h1 h2
  have := h i h1
  simpa [List.getD, h1, h2] using this
set_option maxRecDepth 100000 in
set_option maxHeartbeats 4000000 in
theorem sameall_any {w : World} {v u : Value} {xss yss : List (List Nat)} (hv : Ps w v xss) (hu : Ps w u yss) (hl : xss.length ≤ 1000000) (hl2 : yss.length ≤ 1000000) :
    Calls Try.prog 22 #[v, u] w fun e w' => e = .returned (.bool (decide (xss = yss))) ∧ Grow w w' := by
  obtain ⟨va, vc, rfl, hvc⟩ := hv.gen
  obtain ⟨ua, uc, rfl, huc⟩ := hu.gen
  obtain ⟨r, hr⟩ : ∃ r, r = decide (xss = yss) := ⟨_, rfl⟩
  have HR := Hid.mk' hr
  rw [← hr]
  obtain ⟨n, hn⟩ : ∃ n, n = xss.length := ⟨_, rfl⟩
  obtain ⟨m, hm⟩ : ∃ m, m = yss.length := ⟨_, rfl⟩
  rw [← hn] at hvc hl ⊢
  rw [← hm] at huc hl2 ⊢
  have HN := Hid.mk' hn
  have HM := Hid.mk' hm
  have HV := Hid.mk' hvc
  have HU := Hid.mk' huc
  clear hv hu hvc huc hr hn hm
  by_cases hnm : n = m
  · subst hnm
    have hne : ((n : Int) != (n : Int)) = false := by simp
    go_enter Try.func22, Try.ntmps22
    go_upto_region 4 with fail
    go_loopw [5] (fun iv wr => ∃ k : Nat, k ≤ n ∧ iv = .int .i64 k ∧ Grow w wr ∧ ∀ i, i < k → xss.getD i [] = yss.getD i []) (fun iv _ => n - (intOf iv).toNat)
    case atStart => exact ⟨0, Nat.zero_le _, rfl, But.refl _ _, fun i hi => absurd hi (Nat.not_lt_zero _)⟩
    case round =>
      obtain ⟨k, hk, rfl, hgr, hall⟩ := hrel
      have HGR := Hid.mk' hgr
      have HA := Hid.mk' hall
      by_cases hlt : k < n
      · obtain ⟨vb, vo, rfl, hvb, hvcc⟩ := HV.out (by omega)
        obtain ⟨ub, uo, rfl, hub, hucc⟩ := HU.out (by omega)
        obtain ⟨x, hx, hbx⟩ := hvcc k hlt
        obtain ⟨y, hy, hby⟩ := hucc k hlt
        have HCX : Hid (∀ w', Grow wr w' → w'.cell? ⟨vb, vo + k, none⟩ = some x) := fun w' kk => grow_cell kk (grow_cell hgr hx)
        have HCY : Hid (∀ w', Grow wr w' → w'.cell? ⟨ub, uo + k, none⟩ = some y) := fun w' kk => grow_cell kk (grow_cell hgr hy)
        obtain ⟨q, hq⟩ : ∃ q, q = decide (xss.getD k [] = yss.getD k []) := ⟨_, rfl⟩
        have HS : Hid (∀ w', Grow wr w' → Calls Try.prog 35 #[x, y] w' fun e w'' => e = .returned (.bool q) ∧ Grow w' w'') := fun w' kk => by
          rw [hq]; exact same_grow (hbx.but (hgr.trans kk) (fun _ _ _ h => h)) (hby.but (hgr.trans kk) (fun _ _ _ h => h))
        have HQ := Hid.mk' hq
        obtain ⟨xa, xn, xc, rfl⟩ := hbx.sl
        obtain ⟨ya, yn, yc, rfl⟩ := hby.sl
        clear hvcc hucc hx hy hbx hby hq hall hgr
        go_upto_region 6 with fail
        refine region_chain [] [0, 1, 2, 3, 4, 5, 6, 7, 8, 9] (Grow wr) (Grow wr) (by kernel_rfl) (by kernel_rfl) (fun _ _ h k => h.trans k) (fun _ h => h) ((But.refl _ wr).drew) ?_
        intro ι hne X hX
        have c1 : ∀ z, (X z).cell? ⟨vb, vo + k, none⟩ = some (.slice xa xn xc) := fun z => HCX.out (X z) (hX z)
        have c2 : ∀ z, (X z).cell? ⟨ub, uo + k, none⟩ = some (.slice ya yn yc) := fun z => HCY.out (X z) (hX z)
        iterate 8 (refine still_step rfl (fun K hK => ?_); go_simp; refine hK _ ?_; clear hK K)
        refine still_call rfl (.bool q) 35 #[.slice xa xn xc, .slice ya yn yc] rfl (fun _ => by kernel_rfl) (fun z => HS.out (X z) (hX z)) ?_
        intro K hK; go_simp; refine hK _ ?_; clear hK K
        refine still_step rfl (fun K hK => ?_); go_simp; refine hK _ ?_; clear hK K
        refine still_nil ?_
        clear hX hne c1 c2
        intro w8 hw8
        have HG8 := Hid.mk' (HGR.out.trans hw8)
        clear hw8
        cases hq9 : q with
        | true =>
          have HE : Hid (xss.getD k [] = yss.getD k []) := by
            have := HQ.out
            rw [hq9] at this
            show _ = _
            exact of_decide_eq_true this.symm
          clear HQ HS hq9
          go_wp2
          refine ⟨⟨k + 1, by omega, by go_num, HG8.out, fun i hi => ?_⟩, by simp [intOf]; omega⟩
          by_cases hik : i = k
          · rw [hik]; exact HE.out
          · exact HA.out i (by omega)
        | false =>
          have hrf : r = false := by
            rw [HR.out]
            refine decide_eq_false (fun e => ?_)
            have := HQ.out
            rw [hq9] at this
            exact of_decide_eq_false this.symm (by rw [e])
          subst hrf
          clear HQ HS hq9
          go_wp2
          go_ret
          exact ⟨rfl, HG8.out⟩
      · have hkn : k = n := by omega
        subst hkn
        have hrt : r = true := by
          rw [HR.out]
          exact decide_eq_true (eq_of_getD2 (by rw [← HN.out, ← HM.out]) (fun i hi => hall i (by rw [HN.out]; exact hi)))
        subst hrt
        clear hall
        go_wp2
        go_ret
        exact ⟨rfl, hgr⟩
  · have hne : ((n : Int) != (m : Int)) = true := by
      have : (n : Int) ≠ (m : Int) := by omega
      simpa using this
    have hrf : r = false := by
      rw [HR.out]
      exact decide_eq_false (fun e => hnm (by rw [HN.out, HM.out, e]))
    subst hrf
    go_enter Try.func22, Try.ntmps22
    go_wp2
    go_ret
    exact ⟨rfl, But.refl _ _⟩
end Go.Proofs.Ytmlladpmecclbaa
/- journal: two rows of blocks held against each other. -/
namespace Go.Proofs.Ytmlladpmecclbaa
open Go.RowKit

set_option maxRecDepth 100000 in
set_option maxHeartbeats 8000000 in
theorem jequal_any {w : World} {v u : Value} {xss yss : List (List Nat)} (hv : Ps w v xss) (hu : Ps w u yss) (hl : xss.length ≤ 1000000) (hl2 : yss.length ≤ 1000000) :
    Calls Try.prog 16 #[v, u, .func (.func 17) #[] #[]] w fun e w' => e = .returned (.bool (decide (xss = yss))) ∧ Grow w w' := by
  obtain ⟨va, vc, rfl, hvc⟩ := hv.gen
  obtain ⟨ua, uc, rfl, huc⟩ := hu.gen
  obtain ⟨r, hr⟩ : ∃ r, r = decide (xss = yss) := ⟨_, rfl⟩
  have HR := Hid.mk' hr
  rw [← hr]
  obtain ⟨n, hn⟩ : ∃ n, n = xss.length := ⟨_, rfl⟩
  obtain ⟨m, hm⟩ : ∃ m, m = yss.length := ⟨_, rfl⟩
  rw [← hn] at hvc hl ⊢
  rw [← hm] at huc hl2 ⊢
  have HN := Hid.mk' hn
  have HM := Hid.mk' hm
  have HV := Hid.mk' hvc
  have HU := Hid.mk' huc
  clear hv hu hvc huc hr hn hm
  by_cases hnm : n = m
  · subst hnm
    have hne : ((n : Int) != (n : Int)) = false := by simp
    go_enter Try.func16, Try.ntmps16
    go_upto_region 4 with fail
    go_loopw [17] (fun iv wr => ∃ k : Nat, k ≤ n ∧ iv = .int .i64 k ∧ Grow w wr ∧ ∀ i, i < k → xss.getD i [] = yss.getD i []) (fun iv _ => n - (intOf iv).toNat)
    case atStart => exact ⟨0, Nat.zero_le _, rfl, But.refl _ _, fun i hi => absurd hi (Nat.not_lt_zero _)⟩
    case round =>
      obtain ⟨k, hk, rfl, hgr, hall⟩ := hrel
      have HGR := Hid.mk' hgr
      have HA := Hid.mk' hall
      by_cases hlt : k < n
      · obtain ⟨vb, vo, rfl, hvb, hvcc⟩ := HV.out (by omega)
        obtain ⟨ub, uo, rfl, hub, hucc⟩ := HU.out (by omega)
        obtain ⟨x, hx, hbx⟩ := hvcc k hlt
        obtain ⟨y, hy, hby⟩ := hucc k hlt
        have c1 : wr.cell? ⟨vb, vo + k, none⟩ = some x := grow_cell hgr hx
        have c1' : wr.cell? ((⟨vb, vo, none⟩ : Addr).add k) = some x := by rw [addr_add]; exact c1
        have c2 : wr.cell? ⟨ub, uo + k, none⟩ = some y := grow_cell hgr hy
        obtain ⟨q, hq⟩ : ∃ q, q = decide (xss.getD k [] = yss.getD k []) := ⟨_, rfl⟩
        have HS := Hid.mk' (equal_any (hbx.but hgr (fun _ _ _ h => h)) (hby.but hgr (fun _ _ _ h => h)))
        rw [← hq] at HS
        have HQ := Hid.mk' hq
        have hki : (k : Int) < (n : Int) := by omega
        obtain ⟨xa, xn, xc, rfl⟩ := hbx.sl
        obtain ⟨ya, yn, yc, rfl⟩ := hby.sl
        clear hvcc hucc hx hy hbx hby hq hall hgr
        go_wp2_with fail
        refine Calls.mono HS.out ?_
        rintro e w5 ⟨rfl, hw5⟩
        subst w5
        have HG5 := HGR
        clear HS
        cases hq9 : q with
        | true =>
          have HE : Hid (xss.getD k [] = yss.getD k []) := by
            have := HQ.out
            rw [hq9] at this
            show _ = _
            exact of_decide_eq_true this.symm
          clear HQ hq9
          go_wp2
          refine ⟨⟨k + 1, by omega, by go_num, HG5.out, fun i hi => ?_⟩, by simp [intOf]; omega⟩
          by_cases hik : i = k
          · rw [hik]; exact HE.out
          · exact HA.out i (by omega)
        | false =>
          have hrf : r = false := by
            rw [HR.out]
            refine decide_eq_false (fun e => ?_)
            have := HQ.out
            rw [hq9] at this
            exact of_decide_eq_false this.symm (by rw [e])
          subst hrf
          clear HQ hq9
          go_wp2
          go_ret
          exact ⟨rfl, HG5.out⟩
      · have hkn : k = n := by omega
        subst hkn
        have hrt : r = true := by
          rw [HR.out]
          exact decide_eq_true (eq_of_getD2 (by rw [← HN.out, ← HM.out]) (fun i hi => hall i (by rw [HN.out]; exact hi)))
        subst hrt
        clear hall
        go_wp2
        go_ret
        exact ⟨rfl, hgr⟩
  · have hne : ((n : Int) != (m : Int)) = true := by
      have : (n : Int) ≠ (m : Int) := by omega
      simpa using this
    have hrf : r = false := by
      rw [HR.out]
      exact decide_eq_false (fun e => hnm (by rw [HN.out, HM.out, e]))
    subst hrf
    go_enter Try.func16, Try.ntmps16
    go_wp2
    go_ret
    exact ⟨rfl, But.refl _ _⟩
end Go.Proofs.Ytmlladpmecclbaa
/- journal: Open. -/
namespace Go.Proofs.Ytmlladpmecclbaa
open Go.RowKit

set_option maxRecDepth 100000 in
set_option maxHeartbeats 4000000 in
theorem jopen_no {w : World} {v : Value} {y : Int} (h : ¬ (1 ≤ y ∧ y ≤ 256)) : Calls Try.prog 7 #[v, .int .i64 y] w fun e w' => e = .returned (.tuple #[.int .u64 0, .slice none 0 0, .int .i64 1]) ∧ Grow w w' := by
  have HH := Hid.mk' (jheads_no w y h)
  clear h
  go_enter Try.func7, Try.ntmps7
  go_wp2_with fail
  refine Calls.mono HH.out ?_
  rintro e w1 ⟨rfl, hg⟩
  have HG := Hid.mk' hg
  clear hg
  go_wp2
  exact bodyPost_ret (results_tmp3 rfl _ _ _) rfl ⟨rfl, HG.out⟩
set_option maxRecDepth 100000 in
set_option maxHeartbeats 8000000 in
theorem jopen_any {w : World} {v : Value} {hs : List (List Nat)} {b : Nat} (hv : Ps w v hs) (hcap : ∀ ao n c, v = .slice ao n c → n ≤ c) (hl : hs.length ≤ 1000000) (h1 : 1 ≤ b) (h2 : b ≤ 256) :
    Calls Try.prog 7 #[v, .int .i64 (b : Int)] w fun e w' => ∃ V l f bv, e = .returned (.tuple #[.int .u64 (V : Nat), bv, .int .i64 f]) ∧ OpIs b (hds b) hs V l f ∧ Nums w' bv (toI l) ∧ Grow w w' ∧ ∀ k, bv.ownBlock = some k → w.heap.size ≤ k := by
  have HH := Hid.mk' (jheads_any w b h1 h2)
  have hm5 := hds_le h2
  have hroom := hds_room b
  obtain ⟨m, hm⟩ : ∃ m, m = hds b := ⟨_, rfl⟩
  rw [← hm] at HH hm5 hroom ⊢
  have HV := Hid.mk' hv
  have HCAP := Hid.mk' hcap
  have helems := hv.elems
  obtain ⟨ao, cap, rfl, -⟩ := hv.gen
  obtain ⟨n, hn⟩ : ∃ n, n = hs.length := ⟨_, rfl⟩
  rw [← hn] at hl ⊢
  rw [← hn] at HV HCAP
  have HN := Hid.mk' hn
  have hnil : ∀ w', Nums w' (.slice none 0 0) (toI []) := fun w' => ⟨nofun, by simp [toI], .inl ⟨rfl, .inl rfl⟩⟩
  have HNIL := Hid.mk' hnil
  by_cases hnm : n = m
  · have HC : Hid (∀ w', Grow w w' → Calls Try.prog 13 #[.slice ao n cap, .func (.func 14) #[] #[]] w' fun e w'' => e = .returned (.bool (hs.any mis)) ∧ w'' = w') := fun w' k => has_blks (HV.out.below k) (by rw [← HN.out]; exact hl)
    have hne : ((n : Int) != (m : Int)) = false := by rw [hnm]; simp
    by_cases ha : hs.any mis = true
    · rw [ha] at HC
      have hf : OpIs b m hs 0 [] 3 := OpIs.form (.inr (by
        obtain ⟨x, hx, hq⟩ := List.any_eq_true.1 ha
        exact ⟨x, hx, by unfold mis at hq; simpa using hq⟩))
      have HF := Hid.mk' hf
      clear hv hcap helems hn hnil ha hf hm hnm hroom
      go_enter Try.func7, Try.ntmps7
      go_wp2_with fail
      refine Calls.mono HH.out ?_
      rintro e w1 ⟨rfl, hg⟩
      have HG := Hid.mk' hg
      clear hg
      go_wp2_with fail
      refine Calls.mono (HC.out w1 HG.out) ?_
      rintro e w2 ⟨rfl, hw⟩
      subst w2
      go_wp2
      exact bodyPost_ret (results_tmp3 rfl _ _ _) rfl ⟨0, [], 3, _, rfl, HF.out, HNIL.out _, HG.out, nofun⟩
    · have hall : ∀ x ∈ hs, x.length = 256 := fun x hx => by
        by_cases hx2 : x.length = 256
        · exact hx2
        · exact absurd (List.any_eq_true.2 ⟨x, hx, by unfold mis; simpa using hx2⟩) ha
      have hflen := flat_len256 hs hall
      have hflt : ∀ z ∈ hs.flatten, z < 256 := fun z hz => by
        obtain ⟨x, hx, hz2⟩ := List.mem_flatten.1 hz
        exact helems x hx z hz2
      have ha' : hs.any mis = false := by simpa using ha
      rw [ha'] at HC
      have hver := jver_lt hflt (by rw [hflen, ← hn]; omega)
      have hread := OpIs.read (b := b) (m := m) (hs := hs) h2 (by omega) hver
      have HRD : Hid (∀ w', Grow w w' → Calls Try.prog 15 #[.slice ao n cap, .int .i64 (b : Int)] w' fun e w'' => ∃ bv, e = .returned (.tuple #[.int .u64 (jver hs.flatten : Nat), bv]) ∧ Nums w'' bv (toI (jbls hs.flatten (min (jcnt hs.flatten) b))) ∧ Grow w' w'' ∧ ∀ k, bv.ownBlock = some k → w'.heap.size ≤ k) := fun w' k =>
        jread_any (HV.out.below k) HCAP.out (by omega) (by omega) h2 (by rw [hflen, ← hn]; omega) (by rw [hflen, ← hn]; omega) hflt
      obtain ⟨V, hV⟩ : ∃ V, V = jver hs.flatten := ⟨_, rfl⟩
      obtain ⟨l, hll⟩ : ∃ l, l = jbls hs.flatten (min (jcnt hs.flatten) b) := ⟨_, rfl⟩
      have hlb : l.length ≤ b := by rw [hll, jbls_len]; omega
      rw [← hV, ← hll] at hread
      rw [← hV] at hver
      rw [← hV, ← hll] at HRD
      have HREAD := Hid.mk' hread
      have HVER := Hid.mk' hver
      have HLB := Hid.mk' hlb
      have HM := Hid.mk' hm
      clear hv hcap helems hn hnil ha ha' hall hflen hflt hver hread hV hll hlb hroom hm hnm
      go_enter Try.func7, Try.ntmps7
      go_wp2_with fail
      refine Calls.mono HH.out ?_
      rintro e w1 ⟨rfl, hg⟩
      have HG := Hid.mk' hg
      clear hg
      go_wp2_with fail
      refine Calls.mono (HC.out w1 HG.out) ?_
      rintro e w2 ⟨rfl, hw⟩
      subst w2
      go_wp2_with fail
      refine Calls.mono (HRD.out w1 HG.out) ?_
      rintro e w2 ⟨bv, rfl, hnm, hg2, hnw⟩
      have HNEW : Hid (∀ k, bv.ownBlock = some k → w.heap.size ≤ k) := fun k hk => Nat.le_trans HG.out.size (hnw k hk)
      clear hnw
      have HNM := Hid.mk' hnm
      have HG2 := Hid.mk' (HG.out.trans hg2)
      obtain ⟨ba, bc, hbe⟩ := hnm.len
      generalize (toI l).length = ln at hbe
      subst hbe
      clear hnm hg2 HC HRD
      by_cases hx : ∀ x ∈ l, x ≤ 65535
      · have hhd := jhead_any HVER.out HNM.out h1 h2 HLB.out hx
        rw [← HM.out] at hhd
        have HHD := Hid.mk' hhd
        have HX := Hid.mk' hx
        clear hhd hx
        go_wp2_with fail
        refine Calls.mono HHD.out ?_
        rintro e w3 ⟨v3, G3, rfl, hnb3, hg3⟩
        have hps3 := hnb3.ps
        rw [show (List.range m).map (cutB (hdB V l)) = cutN (hdB V l) m from rfl] at hps3
        have HG3 := Hid.mk' (HG2.out.trans hg3)
        have HNM3 := Hid.mk' (HNM.out.grow hg3)
        have HEQ := Hid.mk' (jequal_any hps3 (HV.out.below HG3.out) (by rw [cutN_len]; omega) (by rw [← HN.out]; exact hl))
        obtain ⟨a3, c3, hve⟩ := hnb3.len
        subst hve
        clear hnb3 hps3 hg3 HHD
        by_cases hq : cutN (hdB V l) m = hs
        · rw [decide_eq_true hq] at HEQ
          have HO := Hid.mk' (HREAD.out.1 ⟨HX.out, hq⟩)
          clear hq
          go_wp2_with fail
          refine Calls.mono HEQ.out ?_
          rintro e w4 ⟨rfl, hg4⟩
          have HG4 := Hid.mk' (HG3.out.trans hg4)
          have HNM4 := Hid.mk' (HNM3.out.grow hg4)
          clear hg4
          go_wp2
          exact bodyPost_ret (results_tmp3 rfl _ _ _) rfl ⟨V, l, 0, _, rfl, HO.out, HNM4.out, HG4.out, HNEW.out⟩
        · rw [decide_eq_false hq] at HEQ
          have HO := Hid.mk' (HREAD.out.2.1 (fun h => hq h.2))
          clear hq
          go_wp2_with fail
          refine Calls.mono HEQ.out ?_
          rintro e w4 ⟨rfl, hg4⟩
          have HG4 := Hid.mk' (HG3.out.trans hg4)
          clear hg4
          go_wp2
          exact bodyPost_ret (results_tmp3 rfl _ _ _) rfl ⟨0, [], 3, _, rfl, HO.out, HNIL.out _, HG4.out, nofun⟩
      · have HO := Hid.mk' (HREAD.out.2.1 (fun h => hx h.1))
        have hbey : (toI l).any bey = true := by
          obtain ⟨x, hx⟩ := Classical.not_forall.1 hx
          obtain ⟨hxl, hxb⟩ := Classical.not_imp.1 hx
          refine List.any_eq_true.2 ⟨(x : Int), List.mem_map.2 ⟨x, hxl, rfl⟩, ?_⟩
          unfold bey
          exact decide_eq_true (.inr (by omega))
        have HHD := Hid.mk' (jhead_no (V := (V : Int)) (y := (b : Int)) HNM.out (by rw [toI_len]; have := HLB.out; omega) (fun h => by rw [hbey] at h; exact absurd h.2.2 (by decide)))
        clear hx hbey
        go_wp2_with fail
        refine Calls.mono HHD.out ?_
        rintro e w3 ⟨rfl, hg3⟩
        have HG3 := Hid.mk' (HG2.out.trans hg3)
        clear hg3
        go_wp2
        exact bodyPost_ret (results_tmp3 rfl _ _ _) rfl ⟨0, [], 3, _, rfl, HO.out, HNIL.out _, HG3.out, nofun⟩
  · have hne : ((n : Int) != (m : Int)) = true := by
      have : (n : Int) ≠ (m : Int) := by omega
      simpa using this
    have hf : OpIs b m hs 0 [] 3 := OpIs.form (.inl (by rw [← hn]; exact hnm))
    have HF := Hid.mk' hf
    clear hv hcap helems hn hnil hf hm hnm hroom
    go_enter Try.func7, Try.ntmps7
    go_wp2_with fail
    refine Calls.mono HH.out ?_
    rintro e w1 ⟨rfl, hg⟩
    have HG := Hid.mk' hg
    clear hg
    go_wp2
    exact bodyPost_ret (results_tmp3 rfl _ _ _) rfl ⟨0, [], 3, _, rfl, HF.out, HNIL.out _, HG.out, nofun⟩
end Go.Proofs.Ytmlladpmecclbaa
/- Bytes put behind an own row; l[i:j]. -/
namespace Go.Proofs.Ytmlladpmecclbaa
open Go.RowKit

theorem wpList_append_bsC {w : World} {ops : Array Oper} {rest : List Oper} {o : Oper} {a : Act} {Q : Exit → Act → World → Prop} (hgd : o.guard = none) (s x : Operand)
    (ho : o.op = .call { callee := .builtin .append, args := #[s, x], argTypes := #[37, 37] }) (base : Nat) (v u : Value) (zs ys : List Nat)
    (hs : a.eval s = v) (hown : Ow w base v zs) (hx : a.eval x = u) (hu : Bs w u ys) (hl : zs.length + ys.length ≤ 140737488355328) (hbase : base ≤ w.heap.size)
    (h : ∀ ao m c w', Ow w' base (.slice ao m c) (zs ++ ys) → m = zs.length + ys.length → w.grownBy w' v.ownBlock → wpList Try.prog ops Q rest (a.put o.dst (.slice ao m c)) w') : wpList Try.prog ops Q (o :: rest) a w := by
  obtain ⟨i0, hi, hz0, hz1, hz2⟩ := info_parts u8info
  obtain ⟨ao, cap, rfl, hnone, hc⟩ := hu.gen
  cases ao with
  | none =>
    obtain ⟨h0, rfl⟩ := hnone rfl
    have := List.eq_nil_of_length_eq_zero h0
    subst this
    refine wpList_plain hgd fun K hK' => ?_
    have hrun := run_append_owned_none (P := Try.prog) w base 37 o.type 5 i0 1 Try.underlying37 hi v zs.length (u8s zs) hown.own
    obtain ⟨ao', m', c', rfl⟩ := hown.slice
    have hm : m' = zs.length := by
      obtain ⟨_, _, e, _⟩ := hown.bs.gen
      simp only [Value.slice.injEq] at e
      exact e.2.1
    unfold Oper.wp
    simp only [List.length_nil] at hx
    simp [execOp, ho, resolve, invoke, builtin, hs, hx, hrun, Result.andThen]
    exact hK' _ _ (h ao' m' c' w (by rw [List.append_nil]; exact hown) (by simpa using hm) (World.grownBy.refl _ _))
  | some ad =>
    refine wpList_append_own w hgd s x 37 ho base 5 i0 (.int .u8 0) 1 1 Try.underlying37 hi hz0 hz1 hz2 rfl (by decide) v zs.length (u8s zs) hs hown.own ad ys.length cap (u8s ys) hx (by simp [u8s]) (hc ad rfl) (u8s_one ys) (by unfold maxLen; omega) (by omega) hbase ?_
    intro v' w' h1 h2 _
    have ho' : Ow w' base v' (zs ++ ys) := by
      refine ⟨?_, by rw [List.length_append]; omega, ?_⟩
      · intro z hz
        rcases List.mem_append.1 hz with hz | hz
        · exact hown.lt z hz
        · exact hu.1 z hz
      · rw [List.length_append, u8s_append]; exact h1
    obtain ⟨ao', m', c', rfl⟩ := ho'.slice
    refine h ao' m' c' w' ho' ?_ h2
    obtain ⟨_, _, e, _⟩ := ho'.bs.gen
    simp only [Value.slice.injEq] at e
    rw [e.2.1, List.length_append]
theorem slice_mid {b so m cap n e : Nat} (hn : n ≤ e) (he : e ≤ cap) (hc : n < cap) (w0 : World) :
    (Instr.sliceAt 37 (.slice (some ⟨b, so, none⟩) m cap) (some (.int .i64 (n : Int))) (some (.int .i64 (e : Int))) none).run Try.prog w0 = .ok (.slice (some ⟨b, so + n, none⟩) (e - n) (cap - n)) w0 := by
  have h1 : (n : Int) ≤ (e : Int) := by omega
  have h2 : (e : Int) ≤ (cap : Int) := by omega
  have h3 : ¬ cap = n := by omega
  go_simp
theorem Bs.mid {w : World} {b so m cap n e : Nat} {zs : List Nat} (h : Bs w (.slice (some ⟨b, so, none⟩) m cap) zs) (hn : n < e) (he : e ≤ zs.length) : Bs w (.slice (some ⟨b, so + n, none⟩) (e - n) (cap - n)) ((zs.drop n).take (e - n)) := by
  obtain ⟨h1, h2, ⟨rfl, _⟩ | ⟨h3, b', so1, cap', ev, hcap, hb, hcell⟩⟩ := h
  · simp at he; omega
  simp only [Value.slice.injEq, Option.some.injEq, Addr.mk.injEq, and_true] at ev
  obtain ⟨⟨rfl, rfl⟩, _, rfl⟩ := ev
  have hlen : ((zs.drop n).take (e - n)).length = e - n := by simp; omega
  refine ⟨fun z hz => h1 z (List.mem_of_mem_drop (List.mem_of_mem_take hz)), by rw [hlen]; omega, .inr ⟨by rw [hlen]; omega, b, so + n, cap - n, by rw [hlen], by rw [hlen]; omega, hb, fun i hi => ?_⟩⟩
  rw [hlen] at hi
  rw [Nat.add_assoc, hcell (n + i) (by omega)]
  simp [List.getD, hi]
end Go.Proofs.Ytmlladpmecclbaa
