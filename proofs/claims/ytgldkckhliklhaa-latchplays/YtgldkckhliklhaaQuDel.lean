/- General: slices.Index and slices.Delete on a queue. -/
import Derived.Test.YtgldkckhliklhaaQueues
import Derived.Test.YtgldkckhliklhaaRanges
import Derived.Test.YtgldkckhliklhaaMapOf
import Derived.Test.YtgldkckhliklhaaIntKit
namespace Go.Proofs.Ytgldkckhliklhaa
open Go.RowKit

theorem wpList_runQ {ops : Array Oper} {rest : List Oper} {o : Oper} {a : Act} {w w' : World} {r : Value} {Q : Exit → Act → World → Prop} (hgd : o.guard = none) (hr : (execOp a.eval o).run Try.prog w = .ok (.value r) w') (h : wpList Try.prog ops Q rest (a.put o.dst r) w') : wpList Try.prog ops Q (o :: rest) a w :=
  wpList_plain hgd fun _ hK => by
    unfold Oper.wp
    rw [hr]
    exact hK _ _ h
theorem exec_app {w w' : World} {o : Oper} {ρ : Operand → Value} {x y : Operand} {t : TypeId} {v u r : Value} (ho : o.op = .call { callee := .builtin .append, args := #[x, y], argTypes := #[t, t] }) (hx : ρ x = v) (hy : ρ y = u) (hr : (Builtin.append_ #[t, t] o.type #[v, u]).run Try.prog w = .ok r w') : (execOp ρ o).run Try.prog w = .ok (.value r) w' := by
  unfold execOp
  simp only [ho, resolve, invoke, builtin, Sem.run_bind, Sem.run_pure, Result.andThen_ok, List.map_toArray, List.map_cons, List.map_nil, hx, hy, hr]
theorem clear_one (g o c : Nat) (w : World) {L : List Value} (hb : Blk w g 3 L) (ho : o < L.length) (ty : TypeId) : (Builtin.clear_ #[33] ty #[.slice (some ⟨g, o, none⟩) 1 c]).run Try.prog w = .ok (.tuple #[]) (w.setCell ⟨g, o, none⟩ (.int .i64 0)) := by
  have hz : (zeroValue 3).run Try.prog w = .ok (.int .i64 0) w := by kernel_rfl
  have hst := run_storeCells_cells (P := Try.prog) g o [.int .i64 0] 0 w (fun j hj => by
    obtain rfl : j = 0 := by simpa using hj
    rw [Nat.add_zero, hb.cell, List.getElem?_eq_getElem ho]
    rfl) (fun j _ => hb.free _) (fun u hu => by rw [show u = .int .i64 0 by simpa using hu]; rfl)
  rw [Nat.add_zero] at hst
  have hc : (Value.int .i64 0).cells = #[.int .i64 0] := rfl
  have hzc : (Builtin.zeroCells #[.int .i64 0] 1).toList = [.int .i64 0] := by kernel_rfl
  simp [Builtin.clear_, run_underlying Try.underlying33, hz, hc, hzc, hst, World.setCells, Result.andThen]
theorem cut_off {b off n cap k : Nat} (hk : k ≤ n) (hc : n ≤ cap) :
    ∃ A, (∀ w0 : World, (Instr.sliceAt 33 (.slice (some ⟨b, off, none⟩) n cap) (some (.int .i64 (k : Int))) none none).run Try.prog w0 = .ok (.slice (some A) (n - k) (cap - k)) w0) ∧ (k < n → A = ⟨b, off + k, none⟩) := by
  have he : Try.prog.elem 33 = 3 := by kernel_rfl
  have hs : ∀ w0 : World, (sizeOf 3).run Try.prog w0 = .ok 1 w0 := fun w0 => by kernel_rfl
  refine ⟨if cap = k then ⟨b, off, none⟩ else ⟨b, off + k, none⟩, fun w0 => ?_, fun h => by rw [if_neg (by omega)]⟩
  rw [run_sliceAt_slice _ _ _ _ _ _ i64slice, run_slice_l w0 _ _ _ _ i64slice .i64 (k : Int) (by omega) (by omega), he, hs]
  by_cases hcn : cap = k
  · simp [Result.andThen, sliced, hcn]
  · by_cases h0 : k = 0
    · simp [Result.andThen, sliced, Addr.add, h0]
    · simp [Result.andThen, sliced, hcn, Addr.add, h0]
theorem cut_hi {b off n cap k : Nat} (hk : k ≤ cap) (w0 : World) : (Instr.sliceAt 33 (.slice (some ⟨b, off, none⟩) n cap) none (some (.int .i64 (k : Int))) none).run Try.prog w0 = .ok (.slice (some ⟨b, off, none⟩) k cap) w0 := by
  rw [run_sliceAt_slice _ _ _ _ _ _ i64slice, run_slice_h w0 _ _ _ _ i64slice .i64 (k : Int) (by omega) (by omega), show Try.prog.elem 33 = 3 by kernel_rfl, show (sizeOf 3).run Try.prog w0 = .ok 1 w0 by kernel_rfl]
  simp [sliced, Result.andThen, Addr.add]
theorem cut_last {b off n cap : Nat} (hk : n + 1 ≤ cap) (w0 : World) : (Instr.sliceAt 33 (.slice (some ⟨b, off, none⟩) n cap) (some (.int .i64 (n : Int))) (some (.int .i64 ((n : Int) + 1))) none).run Try.prog w0 = .ok (.slice (some ⟨b, off + n, none⟩) 1 (cap - n)) w0 := by
  rw [run_sliceAt_slice _ _ _ _ _ _ i64slice, run_slice_lh w0 _ _ _ _ i64slice .i64 .i64 (n : Int) ((n : Int) + 1) (by omega) (by omega) (by omega), show Try.prog.elem 33 = 3 by kernel_rfl, show (sizeOf 3).run Try.prog w0 = .ok 1 w0 by kernel_rfl]
  have h1 : ((n : Int) + 1).toNat = n + 1 := by omega
  by_cases h0 : n = 0
  · subst h0
    simp [sliced, Result.andThen, Addr.add]
  · simp [sliced, Result.andThen, Addr.add, h0, h1]
    omega
section
variable {w w' : World} {Fr Fr' R : Nat → Prop} {v : Value} {ts : List Int}
set_option maxRecDepth 100000 in
set_option maxHeartbeats 1000000 in
theorem index_any (h : Qu w Fr v ts) {t : Int} {p : Nat} (hp : ts[p]? = some t) (hno : ∀ j t', j < p → ts[j]? = some t' → t' ≠ t) : Calls Try.prog 28 #[v, .int .i64 t] w fun e w' => e = .returned (.int .i64 (p : Int)) ∧ w' = w := by
  have hpl := (List.getElem?_eq_some_iff.1 hp).1
  obtain ⟨⟨rfl, rfl⟩ | ⟨g, off, cap, L, rfl, hg, hb, h1, h2, h3, h4⟩⟩ := h
  · simp at hpl
  obtain ⟨n, hn⟩ : ∃ n, n = ts.length := ⟨_, rfl⟩
  have hnb : (n : Int) ≤ 9223372036854775807 := by unfold maxLen at h2; omega
  have HC : Hid (∀ j t', ts[j]? = some t' → w.cell? ⟨g, off + j, none⟩ = some (.int .i64 t')) := fun j t' hj => by rw [hb.cell]; exact h4 j t' hj
  have HP := Hid.mk' hp
  have HNO := Hid.mk' hno
  rw [← hn]
  have HN := Hid.mk' hn
  have HPL := Hid.mk' hpl
  clear hp hno hb h1 h2 h3 h4 hn hpl hg
  go_enter Try.func28, Try.ntmps28
  go_wp2
  go_loopw [5, 8] (fun _ iv wr => ∃ i : Nat, i ≤ p ∧ iv = .int .i64 i ∧ wr = w) (fun _ iv _ => n - (intOf iv).toNat)
  case atStart => exact ⟨0, Nat.zero_le _, rfl, rfl⟩
  case round =>
    obtain ⟨i, hip, rfl, rfl⟩ := hrel
    have hin : i < n := by have := HPL.out; have := HN.out; omega
    have hini : (i : Int) < (n : Int) := by omega
    by_cases hi : i = p
    · subst hi
      have c1 := HC.out i t HP.out
      go_wp2
      go_ret
      exact ⟨rfl, rfl⟩
    · obtain ⟨t', ht'⟩ : ∃ t', ts[i]? = some t' := ⟨_, List.getElem?_eq_getElem (by have := HN.out; omega)⟩
      have c1 := HC.out i t' ht'
      have hne : (t == t') = false := by
        have := HNO.out i t' (by omega) ht'
        simpa using fun e => this e.symm
      clear ht'
      go_wp2
      exact ⟨⟨i + 1, by omega, by go_num, (by first | rfl | trivial)⟩, by simp [intOf]; omega⟩
set_option maxRecDepth 100000 in
set_option maxHeartbeats 2000000 in
theorem delete_any (h : Qu w Fr v ts) {p : Nat} (hp : p < ts.length) : Calls Try.prog 29 #[v, .int .i64 (p : Int), .int .i64 ((p : Int) + 1)] w fun e w' => ∃ v', e = .returned v' ∧ Qu w' Fr v' (ts.eraseIdx p) ∧ But Fr w w' ∧ (∃ a c, v' = .slice a (ts.length - 1) c) := by
  obtain ⟨⟨rfl, rfl⟩ | ⟨g, off, cap, L, rfl, hg, hb, h1, h2, h3, h4⟩⟩ := h
  · simp at hp
  obtain ⟨n, hn⟩ : ∃ n, n = ts.length := ⟨_, rfl⟩
  have hnb : (n : Int) ≤ 9223372036854775807 := by unfold maxLen at h2; omega
  have hcb : (n : Int) ≤ (cap : Int) := by omega
  have hpi : (p : Int) < (n : Int) := by omega
  obtain ⟨m, hm⟩ : ∃ m, n = m + 1 := ⟨n - 1, by omega⟩
  obtain ⟨A, hcut, hA⟩ := cut_off (b := g) (off := off) (n := n) (cap := cap) (k := p + 1) (by omega) (by omega)
  rw [show ((p + 1 : Nat) : Int) = (p : Int) + 1 by push_cast; rfl] at hcut
  have HCUT := Hid.mk' hcut
  have HHI := Hid.mk' (fun w0 => cut_hi (b := g) (off := off) (n := n) (cap := cap) (k := p) (by omega) w0)
  have HLAST := Hid.mk' (fun w0 => cut_last (b := g) (off := off) (n := m) (cap := cap) (by omega) w0)
  obtain ⟨news, hnews⟩ : ∃ news, news = numv (ts.drop (p + 1)) := ⟨_, rfl⟩
  have hnl : news.length = n - (p + 1) := by rw [hnews]; simp [numv, hn]
  have HNC : Hid (∀ wz, Grow w wz → ∀ j u, news[j]? = some u → wz.cell? (A.add j) = some u) := fun wz k j u hj => by
    have hj2 := (List.getElem?_eq_some_iff.1 hj).1
    rw [hA (by omega), addr_add, (hb.but k (fun h => h)).cell]
    rw [hnews] at hj
    unfold numv at hj
    rw [List.getElem?_map, List.getElem?_drop] at hj
    cases ht : ts[p + 1 + j]? with
    | none => rw [ht] at hj; cases hj
    | some t' =>
      rw [ht] at hj
      rw [Nat.add_assoc, h4 _ t' ht]
      exact hj
  have HFIN : Hid (∀ wz, Grow w wz → Qu ((wz.setCells g (off + p) news).setCell ⟨g, off + m, none⟩ (.int .i64 0)) Fr (.slice (some ⟨g, off, none⟩) m cap) (ts.eraseIdx p) ∧ Blk (wz.setCells g (off + p) news) g 3 (layL L (off + p) news) ∧ But Fr w ((wz.setCells g (off + p) news).setCell ⟨g, off + m, none⟩ (.int .i64 0))) := fun wz k => by
    have hb2 := (hb.but k (fun h => h)).lay news (off + p)
    have hb3 := hb2.set (off + m) (.int .i64 0)
    refine ⟨⟨.inr ⟨g, off, cap, _, ?_, hg, hb3, ?_, h2, ?_, fun i t' hi => ?_⟩⟩, hb2, (k.mono (fun _ _ h => h.elim)).trans (((But.setCells news wz (off + p)).mono (fun b _ e => by rw [e]; exact hg)).trans ((But.set1 _ g (off + m) _).mono (fun b _ e => by rw [e]; exact hg)))⟩
    · rw [List.length_eraseIdx, if_pos hp, ← hn, hm]; rfl
    · rw [List.length_eraseIdx, if_pos hp]; omega
    · rw [List.length_set, layL_len]; exact h3
    · have hil := (List.getElem?_eq_some_iff.1 hi).1
      rw [List.length_eraseIdx, if_pos hp] at hil
      rw [List.getElem?_set, if_neg (by omega), layL_at]
      rw [List.getElem?_eraseIdx] at hi
      by_cases hip : i < p
      · rw [if_neg (by omega)]
        rw [if_pos hip] at hi
        exact h4 i t' hi
      · rw [if_pos (by omega)]
        rw [if_neg hip] at hi
        rw [hnews, show off + i - (off + p) = i - p by omega]
        unfold numv
        rw [List.getElem?_map, List.getElem?_drop, show p + 1 + (i - p) = i + 1 by omega, hi]
        rfl
  have HONE : Hid (∀ u ∈ news, u.oneCell' = true) := fun u hu => by
    rw [hnews] at hu
    obtain ⟨z, -, rfl⟩ := List.mem_map.1 hu
    rfl
  have HBK := Hid.mk' hb
  have HL : Hid (off + cap ≤ L.length ∧ n ≤ cap ∧ n = m + 1 ∧ p < n ∧ news.length = n - (p + 1) ∧ ts.length = n) := ⟨h3, by omega, hm, by omega, hnl, hn.symm⟩
  have hpn : ¬ ((p : Int) = (p : Int) + 1) := by omega
  have hpb : ((p : Int) == (p : Int) + 1) = false := by simpa using hpn
  have hmi : (p : Int) + ((n - (p + 1) : Nat) : Int) = (m : Int) := by omega
  have hmn : (m : Int) + 1 = (n : Int) := by omega
  rw [← hn]
  clear hb h1 h2 h3 h4 hn hg hcut hA hnews hnl hm hp hpn
  go_enter Try.func29, Try.ntmps29
  go_upto_region 5 with fail
  refine region_chain [([0, 1, 2, 3, 4, 5], 6)] [7] (Grow w) (Grow w) (by kernel_rfl) (by kernel_rfl) (fun _ _ h k => h.trans k) (fun _ h => h) ((But.refl _ w).drew) ?_
  intro ι hne X hX
  iterate 2 (refine still_step rfl (fun K hK => ?_); go_simp; refine hK _ ?_; clear hK K)
  refine still_val rfl (.slice (some ⟨g, off, none⟩) p cap) rfl (fun z => exec_slc rfl rfl rfl rfl (HHI.out _)) ?_
  intro K hK; go_simp; refine hK _ ?_; clear hK K
  iterate 2 (refine still_step rfl (fun K hK => ?_); go_simp; refine hK _ ?_; clear hK K)
  refine still_val rfl (.slice (some A) (n - (p + 1)) (cap - (p + 1))) rfl (fun z => exec_slc rfl rfl rfl rfl (HCUT.out _)) ?_
  intro K hK; go_simp; refine hK _ ?_; clear hK K
  refine still_nil ?_
  clear hX hne X ι
  refine turn_run rfl rfl (fun u w' => u = .slice (some ⟨g, off, none⟩) m cap ∧ ∃ wz, Grow w wz ∧ Grow (wz.setCells g (off + p) news) w') (fun _ _ => True) (fun _ _ _ h k => by
    obtain ⟨h1, wz, h2, h3⟩ := h
    exact ⟨h1, wz, h2, h3.trans k⟩) (fun _ _ _ => trivial) (.inl (by kernel_rfl)) ?_ ?_
  · intro w2 k2
    obtain ⟨i0, hi, hz0, hz1, hz2⟩ := info_parts infNum
    obtain ⟨l1, l2, l3, l4, l5, l6⟩ := HL.out
    have hbk := HBK.out.but k2 (fun h => h)
    have hr := run_append_room_cells (P := Try.prog) w2 33 33 3 i0 Try.underlying33 hi g off p cap A (n - (p + 1)) (cap - (p + 1)) news (by rw [hz1, l5, Nat.mul_one]) (HNC.out w2 k2) HONE.out (by omega) (fun j hj => by
      rw [hbk.cell, hz1, Nat.mul_one, List.getElem?_eq_getElem (by omega)]
      rfl) (fun j _ => hbk.free _)
    rw [hz1, Nat.mul_one, show p + (n - (p + 1)) = m by omega] at hr
    exact ⟨_, _, .inl (exec_app rfl rfl rfl hr), rfl, w2, k2, But.refl _ _⟩
  rintro u ⟨wq, rfl, -⟩ Y hY
  go_simp
  refine hY _ ?_
  clear hY Y
  intro ι hne X hX
  iterate 1 (refine still_step rfl (fun K hK => ?_); go_simp; refine hK _ ?_; clear hK K)
  refine still_nil ?_
  clear hX hne X ι
  rintro w3 ⟨-, wz, k1, k2⟩
  obtain ⟨q1, q2, q3⟩ := HFIN.out wz k1
  obtain ⟨l1, l2, l3, l4, l5, l6⟩ := HL.out
  have hb3 := q2.but k2 (fun h => h)
  have hcl := clear_one g (off + m) (cap - m) w3 hb3 (by rw [layL_len]; omega) 0
  have HCL := Hid.mk' hcl
  have hlast := HLAST.out w3
  rw [hmn] at hlast
  have HLS := Hid.mk' hlast
  have e1 : w3.heap[g]? = (wz.setCells g (off + p) news).heap[g]? := k2.block g q2.lt (fun h => h)
  have hb4 := hb3.set (off + m) (.int .i64 0)
  have HQ : Hid (Qu (w3.setCell ⟨g, off + m, none⟩ (.int .i64 0)) Fr (.slice (some ⟨g, off, none⟩) m cap) (ts.eraseIdx p) ∧ But Fr w (w3.setCell ⟨g, off + m, none⟩ (.int .i64 0))) := by
    obtain ⟨⟨h0, h9⟩ | ⟨g', off', cap', L', e, hg, hbk, r⟩⟩ := q1
    · cases h0
    · simp only [Value.slice.injEq, Option.some.injEq, Addr.mk.injEq, and_true] at e
      obtain ⟨⟨rfl, rfl⟩, e2, rfl⟩ := e
      have hbq := (q2.set (off + m) (.int .i64 0))
      have hL : L' = (layL L (off + p) news).set (off + m) (.int .i64 0) := by
        have h9 : (some (Obj.cells L'.toArray 3 (0, 0))) = some (Obj.cells ((layL L (off + p) news).set (off + m) (.int .i64 0)).toArray 3 (0, 0)) := hbk.symm.trans hbq
        simpa using h9
      refine ⟨⟨.inr ⟨g, off, cap, L', by rw [e2], hg, by rw [hL]; exact hb4, r⟩⟩, ?_⟩
      exact (k1.mono (fun _ _ h => h.elim)).trans (((But.setCells news wz (off + p)).mono (fun b _ e => by rw [e]; exact hg)).trans ((k2.mono (fun _ _ h => h.elim)).trans ((But.set1 w3 g (off + m) _).mono (fun b _ e => by rw [e]; exact hg))))
  have HM : Hid (n - 1 = m) := by show _ = _; omega
  clear q1 q2 q3 hb3 hcl hlast e1 hb4 k1 k2 l1 l2 l3 l4 l5 l6 HFIN HLAST HNC HONE HBK
  go_wp2_with (first
    | (refine wpList_runQ rfl (exec_slc rfl rfl rfl rfl HLS.out) ?_)
    | (refine wpList_runQ rfl (exec_clear rfl rfl HCL.out) ?_)
    | fail)
  go_ret
  exact ⟨.slice (some ⟨g, off, none⟩) m cap, rfl, HQ.out.1, HQ.out.2, some ⟨g, off, none⟩, cap, congrArg (fun k => Value.slice (some ⟨g, off, none⟩) k cap) HM.out.symm⟩
end
end Go.Proofs.Ytgldkckhliklhaa
