/- General: a slice of numbers of one's own that is cut ahead, put behind, and taken from amid: slices.Index, slices.Delete. -/
import Derived.Test.YtgldkckhliklhaaInts
import Derived.Test.YtgldkckhliklhaaOwnRow
import Derived.ArgAppend
import Derived.Deep.Cut
namespace Go.Proofs.Ytgldkckhliklhaa
open Go.RowKit

/-- Cells laid over a list. -/
def layL : List Value → Nat → List Value → List Value
  | L, _, [] => L
  | L, o, v :: r => layL (L.set o v) (o + 1) r
theorem layL_len : ∀ (vs : List Value) (L : List Value) (o : Nat), (layL L o vs).length = L.length
  | [], _, _ => rfl
  | v :: r, L, o => by rw [layL, layL_len r, List.length_set]
theorem layL_at : ∀ (vs : List Value) (L : List Value) (o j : Nat), (layL L o vs)[j]? = if o ≤ j ∧ j < o + vs.length ∧ j < L.length then vs[j - o]? else L[j]?
  | [], L, o, j => by rw [layL, if_neg (by simp; omega)]
  | v :: r, L, o, j => by
    rw [layL, layL_at r, List.length_set, List.length_cons]
    by_cases h1 : o + 1 ≤ j ∧ j < o + 1 + r.length ∧ j < L.length
    · rw [if_pos h1, if_pos (by omega), show j - o = (j - (o + 1)) + 1 by omega, List.getElem?_cons_succ]
    · rw [if_neg h1, List.getElem?_set]
      by_cases h2 : o = j
      · subst h2
        rw [if_pos rfl]
        by_cases h3 : o < L.length
        · rw [if_pos h3, if_pos (by omega), Nat.sub_self]; rfl
        · rw [if_neg h3, if_neg (by omega), List.getElem?_eq_none (by omega)]
      · rw [if_neg h2, if_neg (by omega)]
theorem Blk.lay {T : TypeId} {g : Nat} : ∀ (vs : List Value) {w : World} {L : List Value} (o : Nat), Blk w g T L → Blk (w.setCells g o vs) g T (layL L o vs)
  | [], _, _, _, h => h
  | v :: r, _, _, o, h => Blk.lay r (o + 1) (h.set o v)
theorem But.setCells {g : Nat} : ∀ (vs : List Value) (w : World) (o : Nat), But (· = g) w (w.setCells g o vs)
  | [], w, _ => But.refl _ w
  | v :: r, w, o => (But.set1 w g o v).trans (But.setCells r _ (o + 1))
/-- A queue: the slice v holds these numbers, in a block of Fr. -/
structure Qu (w : World) (Fr : Nat → Prop) (v : Value) (ts : List Int) : Prop where
  ex : (v = .slice none 0 0 ∧ ts = []) ∨ ∃ g off cap L, v = .slice (some ⟨g, off, none⟩) ts.length cap ∧ Fr g ∧ Blk w g 3 L ∧ ts.length ≤ cap ∧ cap ≤ maxLen ∧ off + cap ≤ L.length ∧ ∀ i t, ts[i]? = some t → L[off + i]? = some (.int .i64 t)
section
variable {w w' : World} {Fr Fr' R : Nat → Prop} {v : Value} {ts : List Int}
theorem Qu.nil (w : World) (Fr : Nat → Prop) : Qu w Fr (.slice none 0 0) [] := ⟨.inl ⟨rfl, rfl⟩⟩
theorem Qu.but (h : Qu w Fr v ts) (k : But R w w') (hr : ∀ j, Fr j → ¬ R j) (hf : ∀ j, Fr j → Fr' j) : Qu w' Fr' v ts := by
  obtain ⟨h1 | ⟨g, off, cap, L, e, hg, hb, r⟩⟩ := h
  · exact ⟨.inl h1⟩
  · exact ⟨.inr ⟨g, off, cap, L, e, hf g hg, hb.but k (hr g hg), r⟩⟩
theorem Qu.grow (h : Qu w Fr v ts) (k : Grow w w') : Qu w' Fr v ts := h.but k (fun _ _ h => h) (fun _ h => h)
theorem Qu.len (h : Qu w Fr v ts) : ∃ ao cap, v = .slice ao ts.length cap := by
  obtain ⟨⟨rfl, rfl⟩ | ⟨g, off, cap, L, e, -⟩⟩ := h
  · exact ⟨none, 0, rfl⟩
  · exact ⟨_, _, e⟩
theorem Qu.le (h : Qu w Fr v ts) : ts.length ≤ maxLen := by
  obtain ⟨⟨-, rfl⟩ | ⟨g, off, cap, L, e, hg, hb, h1, h2, -⟩⟩ := h
  · exact Nat.zero_le _
  · omega
/-- The first one, and the others. -/
theorem Qu.head {t : Int} {r : List Int} (h : Qu w Fr v (t :: r)) : ∃ g off cap v', v = .slice (some ⟨g, off, none⟩) (r.length + 1) cap ∧ w.cell? ⟨g, off, none⟩ = some (.int .i64 t) ∧ (∀ w0 : World, (Instr.sliceAt 33 v (some (.int .i64 1)) none none).run Try.prog w0 = .ok v' w0) ∧ Qu w Fr v' r ∧ (∃ a c, v' = .slice a r.length c) := by
  obtain ⟨⟨-, h1⟩ | ⟨g, off, cap, L, rfl, hg, hb, h1, h2, h3, h4⟩⟩ := h
  · cases h1
  · rw [List.length_cons] at h1
    have he : Try.prog.elem 33 = 3 := by kernel_rfl
    have hs : ∀ w0 : World, (sizeOf 3).run Try.prog w0 = .ok 1 w0 := fun w0 => by kernel_rfl
    refine ⟨g, off, cap, .slice (some (if cap = 1 then ⟨g, off, none⟩ else ⟨g, off + 1, none⟩)) r.length (cap - 1), rfl, by rw [hb.cell]; exact h4 0 t rfl, fun w0 => ?_, ⟨.inr ?_⟩, _, _, rfl⟩
    · rw [List.length_cons, run_sliceAt_slice _ _ _ _ _ _ i64slice, run_slice_l w0 _ _ _ _ i64slice .i64 1 (by omega) (by omega), he, hs]
      by_cases hcn : cap = 1 <;> simp [Result.andThen, sliced, hcn, Addr.add]
    · by_cases hcn : cap = 1
      · rw [if_pos hcn]
        exact ⟨g, off, cap - 1, L, rfl, hg, hb, by omega, by omega, by omega, fun i t' hi => by
          have := (List.getElem?_eq_some_iff.1 hi).1
          omega⟩
      · rw [if_neg hcn]
        exact ⟨g, off + 1, cap - 1, L, rfl, hg, hb, by omega, by omega, by omega, fun i t' hi => by
          rw [show off + 1 + i = off + (i + 1) by omega]
          exact h4 (i + 1) t' (by simpa using hi)⟩
/-- One more behind. -/
theorem Qu.push {o : Oper} {ρ : Operand → Value} {x y : Operand} {t : Int} {gn : Nat} (ho : o.op = .call { callee := .builtin .append, args := #[x, y], argTypes := #[33, 33] }) (hx : ρ x = v) (h : Qu w Fr v ts) (hy : ρ y = .slice (some ⟨gn, 0, none⟩) 1 1) (hb : Blk w gn 3 [.int .i64 t]) (hl : ts.length ≤ 1000000) :
    ∃ v' w', (execOp ρ o).run Try.prog w = .ok (.value v') w' ∧ Qu w' (fun b => Fr b ∨ (w.heap.size ≤ b ∧ b < w'.heap.size)) v' (ts ++ [t]) ∧ But Fr w w' ∧ (∃ a c, v' = .slice a (ts.length + 1) c) := by
  obtain ⟨i0, hi, hz0, hz1, hz2⟩ := info_parts infNum
  have hnews : ∀ j u, ([.int .i64 t] : List Value)[j]? = some u → w.cell? ((⟨gn, 0, none⟩ : Addr).add j) = some u := hb.cells0
  have h1 : ∀ u ∈ ([.int .i64 t] : List Value), u.oneCell' = true := fun u hu => by rw [show u = .int .i64 t by simpa using hu]; rfl
  have fin : ∀ {v' w' : _}, (Builtin.append_ #[33, 33] o.type #[v, .slice (some ⟨gn, 0, none⟩) 1 1]).run Try.prog w = .ok v' w' → (execOp ρ o).run Try.prog w = .ok (.value v') w' := fun {v' w'} hr => by
    unfold execOp
    simp only [ho, resolve, invoke, builtin, Sem.run_bind, Sem.run_pure, Result.andThen_ok, List.map_toArray, List.map_cons, List.map_nil, hx, hy, hr]
  have row : ∀ {v' w' : _} {n : Nat} {base : Nat}, w.heap.size ≤ base → w'.ownsRow base 3 1 v' n (numv (ts ++ [t])) → n = ts.length + 1 → Qu w' (fun b => Fr b ∨ (w.heap.size ≤ b ∧ b < w'.heap.size)) v' (ts ++ [t]) ∧ (∃ a c, v' = .slice a (ts.length + 1) c) := fun {v' w' n base} hbase hr hn => by
    have hc := hr
    obtain ⟨h5, ⟨-, h6⟩ | ⟨g, cap, cur, rfl, hge, hbk, h6, h7, h8, h9⟩⟩ := hr
    · omega
    · have hbk' : Blk w' g 3 cur.toList := hbk
      refine ⟨⟨.inr ⟨g, 0, cap, cur.toList, by rw [hn]; simp, .inr ⟨by omega, hbk'.lt⟩, hbk', by simp; omega, h7, by rw [Nat.zero_add, Array.length_toList, h8, Nat.mul_one]; exact Nat.le_refl _, fun i t' hi => ?_⟩⟩, _, _, by rw [hn]⟩
      have h10 := hc.cells (g := g) rfl i (.int .i64 t') (by unfold numv; rw [List.getElem?_map, hi]; rfl)
      rw [addr_add, hbk'.cell, Nat.zero_add] at h10
      rw [Nat.zero_add]
      exact h10
  obtain ⟨⟨rfl, rfl⟩ | ⟨g, off, cap, L, rfl, hg, hbk, h2, h3, h4, h5⟩⟩ := h
  · have hr := run_append_nil (P := Try.prog) w 33 o.type 3 i0 _ Try.underlying33 hi hz0 ⟨gn, 0, none⟩ 1 1 [.int .i64 t] (by rw [hz1]; rfl) hnews (by omega) (by omega) (by rw [hz2]; decide)
    obtain ⟨v', w', hrun, h6, h7, _, h9⟩ := run_append_own_at (P := Try.prog) w w.heap.size 33 o.type 3 i0 (.int .i64 0) 1 8 Try.underlying33 hi hz0 hz1 hz2 rfl (by decide) (.slice none 0 0) 0 [] (World.ownsRow_nil _ _ _ _) ⟨gn, 0, none⟩ 1 1 [.int .i64 t] rfl hnews h1 (by unfold maxLen; omega) (by decide) (Nat.le_refl _)
    obtain ⟨q1, q2⟩ := row (Nat.le_refl _) (by simpa [numv] using h6) rfl
    exact ⟨v', w', fin hrun, q1, ⟨h7.os, h7.tape, h7.output, h7.size, fun k hk _ => h7.block k hk (fun e => by cases e)⟩, q2⟩
  · by_cases hroom : ts.length + 1 ≤ cap
    · have hlen : off + ts.length < L.length := by omega
      have hr := run_append_room_cells (P := Try.prog) w 33 o.type 3 i0 Try.underlying33 hi g off ts.length cap ⟨gn, 0, none⟩ 1 1 [.int .i64 t] (by rw [hz1]; rfl) hnews h1 hroom (fun j hj => by
        obtain rfl : j = 0 := by simpa using hj
        rw [hbk.cell, hz1, Nat.mul_one, Nat.add_zero, List.getElem?_eq_getElem hlen]
        rfl) (fun j _ => hbk.free _)
      rw [hz1, Nat.mul_one] at hr
      have hbk2 := hbk.lay [.int .i64 t] (off + ts.length)
      refine ⟨_, _, fin hr, ⟨.inr ⟨g, off, cap, _, by simp, .inl hg, hbk2, by simpa using hroom, h3, by rw [layL_len]; exact h4, fun i t' hi => ?_⟩⟩, (But.setCells _ _ _).mono (fun b _ e => by rw [e]; exact hg), _, _, rfl⟩
      rw [layL_at]
      by_cases hi2 : i = ts.length
      · subst hi2
        rw [if_pos ⟨Nat.le_refl _, by simp, hlen⟩, Nat.sub_self]
        rw [List.getElem?_append_right (Nat.le_refl _), Nat.sub_self] at hi
        have : t = t' := by simpa using hi
        rw [this]; rfl
      · have hil : i < ts.length := by
          have := (List.getElem?_eq_some_iff.1 hi).1
          rw [List.length_append, List.length_singleton] at this
          omega
        rw [if_neg (by omega)]
        rw [List.getElem?_append_left hil] at hi
        exact h5 i t' hi
    · obtain ⟨v', w', hrun, h6, h7⟩ := run_append_arg_grows (P := Try.prog) w 33 o.type 3 i0 (.int .i64 0) 1 8 Try.underlying33 hi hz0 hz1 hz2 rfl (by decide) ⟨g, off, none⟩ ts.length cap (numv ts) (by simp [numv]) (fun j u hj => by
        rw [addr_add, hbk.cell]
        unfold numv at hj
        rw [List.getElem?_map] at hj
        cases ht : ts[j]? with
        | none => rw [ht] at hj; cases hj
        | some t' =>
          rw [ht] at hj
          rw [h5 j t' ht]
          exact hj) ⟨gn, 0, none⟩ 1 1 [.int .i64 t] rfl hnews (by omega) (by unfold maxLen; omega) (by omega)
      obtain ⟨q1, q2⟩ := row (Nat.le_refl _) (by simpa [numv] using h6) rfl
      exact ⟨v', w', fin hrun, q1, ⟨h7.os, h7.tape, h7.output, h7.size, fun k hk _ => h7.block k hk (fun e => by cases e)⟩, q2⟩
end
end Go.Proofs.Ytgldkckhliklhaa
