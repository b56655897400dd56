/- How a block reads. -/
import Derived.Test.YtcikldklacgafaaDvLeaf
import Derived.Deep.Cut
namespace Go.Proofs.Ytcikldklacgafaa
open Go.RowKit

theorem wpList_run {ops : Array Oper} {rest : List Oper} {o : Oper} {a : Act} {w w' : World} {Q : Exit → Act → World → Prop} {v : Value} (hgd : o.guard = none) (hr : (execOp a.eval o).run Try.prog w = .ok (.value v) w') (h : wpList Try.prog ops Q rest (a.put o.dst v) w') : wpList Try.prog ops Q (o :: rest) a w :=
  wpList_plain hgd fun _ hK => by
    unfold Oper.wp
    rw [hr]
    exact hK _ _ h
/-- Cells are stored into a block, as the turn of a chain. -/
theorem turn_cells {w : World} {o : Oper} {ρ : Operand → Value} {K' : Value → World → Prop} {ty t : TypeId} {x y : Operand} (ho : o.op = .store ty x y) {g off : Nat} {A old B cs : List Value} (hx : ρ x = .pointer (some ⟨g, off, none⟩)) (hy : ρ y = .agg cs.toArray) (hi : (Try.prog.info? ty).map (·.size) = some cs.length) (h1 : ∀ v ∈ cs, v.oneCell' = true) (hb : Blk w g t (A ++ old ++ B)) (hA : A.length = off) (hold : old.length = cs.length)
    (hk : ∀ w', Blk w' g t (A ++ cs ++ B) → But (· = g) w w' → K' undef w') : ∃ v' w', ((execOp ρ o).run Try.prog w = .ok (.value v') w' ∨ ((execOp ρ o).run Try.prog w = .ok .skip w' ∧ v' = undef)) ∧ K' v' w' := by
  obtain ⟨w', hr, hb2, hb3⟩ := run_storeVar_at w g off t ty A old B cs hb hA hold hi h1
  refine ⟨undef, w', .inr ⟨?_, rfl⟩, hk w' hb2 hb3⟩
  unfold execOp
  simp only [ho, hx, hy, Instr.storeAt, Instr.sureAddr, Sem.run_bind, Sem.run_pure, Result.andThen_ok, hr]
theorem RowOf.le {w : World} {Fr : Nat → Prop} {e s n : Nat} {v : Value} {xs : List Value} (h : RowOf w Fr e s v n xs) : n ≤ maxLen := by
  obtain ⟨-, ⟨-, rfl⟩ | ⟨g, cap, cur, -, -, -, h1, h2, -⟩⟩ := h.own
  · exact Nat.zero_le _
  · exact Nat.le_trans h1 h2
theorem i256 : (Try.prog.info? 62).map (·.size) = some 256 := by kernel_rfl
def z256 : List Nat := List.replicate 256 0
theorem z256v (w : World) : (zeroValue 62).run Try.prog w = .ok (.agg (u8s z256).toArray) w := by kernel_rfl
theorem zints (w : World) : (zeroValue 58).run Try.prog w = .ok (.slice none 0 0) w := by kernel_rfl
theorem keyI : Go.Maps.Keyed Try.prog 3 := Go.Maps.int_keyed Try.underlying3
theorem keyOfI (b : Nat) (h : b < 65536) : keyOf Try.prog 3 (.int .i64 (b : Int)) = some (.int .i64 (b : Int)) := by
  refine Go.Maps.keyOf_int_mk Try.underlying3 ?_
  have e1 : IntKind.i64.min = -9223372036854775808 := rfl
  have e2 : IntKind.i64.max = 9223372036854775807 := rfl
  simp only [Lit.wf, e1, e2, Bool.and_eq_true, decide_eq_true_eq]
  omega
/-- What the map tells of a block. -/
theorem WtM.look {w : World} {own : Owner} {bm : Nat} {wr : List WrE} {wt : List Nat} (h : WtM w own bm wr wt) {b : Nat} (hb : b < 65536) : ∃ v, (∀ (R : Nat → Prop) (w' : World), But R w w' → ¬ R bm → (Instr.lookup 51 (.map (some bm)) (.int .i64 (b : Int)) false).run Try.prog w' = .ok v w') ∧ RowOf w (Is own (.row b)) 3 1 v (wb wr wt b).length (ints (wb wr wt b)) := by
  obtain ⟨M, h1, h2, h3⟩ := h.ex
  have hl := fun (R : Nat → Prop) w' (k : But R w w') hr => (h1.but k hr).look (t := 51) (et := 58) keyI Try.underlying51 (zints w') (keyOfI b hb) false
  by_cases he : wb wr wt b = []
  · refine ⟨.slice none 0 0, fun R w' k hr => (hl R w' k hr).2 (fun p hp => ?_), by rw [he]; exact RowOf.nil _ _ _ _⟩
    obtain ⟨b', e1, e2, e3, e4⟩ := h2 p hp
    rw [e1]
    intro e
    simp only [Value.int.injEq, true_and] at e
    have : b' = b := by omega
    exact e3 (by rw [this]; exact he)
  · obtain ⟨v, hv⟩ := h3 b he
    refine ⟨v, fun R w' k hr => (hl R w' k hr).1 v hv, ?_⟩
    obtain ⟨b', e1, e2, e3, e4⟩ := h2 _ hv
    simp only [Value.int.injEq, true_and] at e1
    have : b' = b := by omega
    rw [this] at e4
    exact e4
/-- A stored block, among the others. -/
theorem flat_cut {st : List (List Nat)} {b : Nat} (hb : b < st.length) : st.flatMap u8s = (st.take b).flatMap u8s ++ u8s (st.getD b []) ++ (st.drop (b + 1)).flatMap u8s := by
  have e : st = st.take b ++ (st.getD b [] :: st.drop (b + 1)) := by
    rw [List.getD_eq_getElem?_getD, List.getElem?_eq_getElem hb]
    simp
  conv => lhs; rw [e]
  rw [List.flatMap_append, List.flatMap_cons, List.append_assoc]
theorem flat_pre {st : List (List Nat)} (h : ∀ c ∈ st, wf256 c) {b : Nat} (hb : b ≤ st.length) : ((st.take b).flatMap u8s).length = b * 256 := by
  rw [flat_len (s := 256) _ (fun c hc => by rw [u8s_len]; exact (h c (List.mem_of_mem_take hc)).1), List.length_take, Nat.min_eq_left hb]
theorem flat_set {st : List (List Nat)} {b : Nat} (hb : b < st.length) (c : List Nat) : (st.set b c).flatMap u8s = (st.take b).flatMap u8s ++ u8s c ++ (st.drop (b + 1)).flatMap u8s := by
  rw [flat_cut (st := st.set b c) (by rw [List.length_set]; exact hb), List.take_set_of_le (Nat.le_refl _), List.drop_set_of_lt (by omega)]
  congr 2
  simp [List.getD, hb]
theorem DvM.cells {w : World} {own : Owner} {gd gs bm : Nat} {s : Dev} {vw vi : Value} (h : DvM w own gd s gs vw bm vi) {b : Nat} (hb : b < s.st.length) : ∀ c u, (u8s (s.st.getD b []))[c]? = some u → w.cell? ((⟨gs, b * 256, none⟩ : Addr).add c) = some u := fun c u hc => by
  rw [addr_add, h.sto.cell, flat_cut hb, List.append_assoc, List.getElem?_append_right (by rw [flat_pre h.ok.st (Nat.le_of_lt hb)]; omega), flat_pre h.ok.st (Nat.le_of_lt hb), show b * 256 + c - b * 256 = c by omega, List.getElem?_append_left (by
    rcases Nat.lt_or_ge c (u8s (s.st.getD b [])).length with h1 | h1
    · exact h1
    · rw [List.getElem?_eq_none h1] at hc; cases hc)]
  exact hc
/-- A write, in the row of all writes. -/
theorem DvM.wrote {w : World} {own : Owner} {gd gs bm : Nat} {s : Dev} {vw vi : Value} (h : DvM w own gd s gs vw bm vi) {i : Nat} (hi : i < s.wr.length) : ∃ g cap, vw = .slice (some ⟨g, 0, none⟩) s.wr.length cap ∧ own g = .wri ∧ ∀ c u, (wcell (s.wr.getD i d0))[c]? = some u → w.cell? ⟨g, i * 257 + c, none⟩ = some u := by
  obtain ⟨ao, cap, e, h2⟩ := h.wri.shape
  obtain ⟨g, rfl, h3, -, h5⟩ := h2 (by omega)
  refine ⟨g, cap, e, h3, fun c u hu => h5 _ _ (flat_at s.wr (fun e he => wcell_len (h.ok.wr e he).2) i _ c u (by rw [List.getD_eq_getElem?_getD, List.getElem?_eq_getElem hi]; rfl) hu)⟩
end Go.Proofs.Ytcikldklacgafaa
