/- How a block reads. -/
import Derived.Test.YtbdmlnmicijnjabDvLeaf
import Derived.Deep.Cut
namespace Go.Proofs.Ytbdmlnmicijnjab
open Go.RowKit

theorem wpList_run {ops : Array Oper} {rest : List Oper} {o : Oper} {a : Act} {w w' : World} {Q : Exit → Act → World → Prop} {v : Value} (hgd : o.guard = none) (hr : (execOp a.eval o).run Try.prog w = .ok (.value v) w') (h : wpList Try.prog ops Q rest (a.put o.dst v) w') : wpList Try.prog ops Q (o :: rest) a w :=
  wpList_plain hgd fun _ hK => by
    unfold Oper.wp
    rw [hr]
    exact hK _ _ h
/-- Cells are stored into a block, as the turn of a chain. -/
theorem turn_cells {w : World} {o : Oper} {ρ : Operand → Value} {K' : Value → World → Prop} {ty t : TypeId} {x y : Operand} (ho : o.op = .store ty x y) {g off : Nat} {A old B cs : List Value} (hx : ρ x = .pointer (some ⟨g, off, none⟩)) (hy : ρ y = .agg cs.toArray) (hi : (Try.prog.info? ty).map (·.size) = some cs.length) (h1 : ∀ v ∈ cs, v.oneCell' = true) (hb : Blk w g t (A ++ old ++ B)) (hA : A.length = off) (hold : old.length = cs.length)
    (hk : ∀ w', Blk w' g t (A ++ cs ++ B) → But (· = g) w w' → K' undef w') : ∃ v' w', ((execOp ρ o).run Try.prog w = .ok (.value v') w' ∨ ((execOp ρ o).run Try.prog w = .ok .skip w' ∧ v' = undef)) ∧ K' v' w' := by
  obtain ⟨w', hr, hb2, hb3⟩ := run_storeVar_at w g off t ty A old B cs hb hA hold hi h1
  refine ⟨undef, w', .inr ⟨?_, rfl⟩, hk w' hb2 hb3⟩
  unfold execOp
  simp only [ho, hx, hy, Instr.storeAt, Instr.sureAddr, Sem.run_bind, Sem.run_pure, Result.andThen_ok, hr]
theorem RowOf.le {w : World} {Fr : Nat → Prop} {e s n : Nat} {v : Value} {xs : List Value} (h : RowOf w Fr e s v n xs) : n ≤ maxLen := by
  obtain ⟨-, ⟨-, rfl⟩ | ⟨g, cap, cur, -, -, -, h1, h2, -⟩⟩ := h.own
  · exact Nat.zero_le _
  · exact Nat.le_trans h1 h2
theorem i256 : (Try.prog.info? 51).map (·.size) = some 256 := by kernel_rfl
def z256 : List Nat := List.replicate 256 0
theorem z256v (w : World) : (zeroValue 51).run Try.prog w = .ok (.agg (u8s z256).toArray) w := by kernel_rfl
theorem zints (w : World) : (zeroValue 54).run Try.prog w = .ok (.slice none 0 0) w := by kernel_rfl
theorem keyI : Go.Maps.Keyed Try.prog 3 := Go.Maps.int_keyed Try.underlying3
theorem keyOfI (b : Nat) (h : b < 65536) : keyOf Try.prog 3 (.int .i64 (b : Int)) = some (.int .i64 (b : Int)) := by
  refine Go.Maps.keyOf_int_mk Try.underlying3 ?_
  have e1 : IntKind.i64.min = -9223372036854775808 := rfl
  have e2 : IntKind.i64.max = 9223372036854775807 := rfl
  simp only [Lit.wf, e1, e2, Bool.and_eq_true, decide_eq_true_eq]
  omega
/-- What the map tells of a block. -/
theorem WtM.look {w : World} {own : Owner} {bm : Nat} {wr : List WrE} {wt : List Nat} (h : WtM w own bm wr wt) {b : Nat} (hb : b < 65536) : ∃ v, (∀ (R : Nat → Prop) (w' : World), But R w w' → ¬ R bm → (Instr.lookup 45 (.map (some bm)) (.int .i64 (b : Int)) false).run Try.prog w' = .ok v w') ∧ RowOf w (Is own (.row b)) 3 1 v (wb wr wt b).length (ints (wb wr wt b)) := by
  obtain ⟨M, h1, h2, h3⟩ := h.ex
  have hl := fun (R : Nat → Prop) w' (k : But R w w') hr => (h1.but k hr).look (t := 45) (et := 54) keyI Try.underlying45 (zints w') (keyOfI b hb) false
  by_cases he : wb wr wt b = []
  · refine ⟨.slice none 0 0, fun R w' k hr => (hl R w' k hr).2 (fun p hp => ?_), by rw [he]; exact RowOf.nil _ _ _ _⟩
    obtain ⟨b', e1, e2, e3, e4⟩ := h2 p hp
    rw [e1]
    intro e
    simp only [Value.int.injEq, true_and] at e
    have : b' = b := by omega
    exact e3 (by rw [this]; exact he)
  · obtain ⟨v, hv⟩ := h3 b he
    refine ⟨v, fun R w' k hr => (hl R w' k hr).1 v hv, ?_⟩
    obtain ⟨b', e1, e2, e3, e4⟩ := h2 _ hv
    simp only [Value.int.injEq, true_and] at e1
    have : b' = b := by omega
    rw [this] at e4
    exact e4
/-- A stored block, among the others. -/
theorem flat_cut {st : List (List Nat)} {b : Nat} (hb : b < st.length) : st.flatMap u8s = (st.take b).flatMap u8s ++ u8s (st.getD b []) ++ (st.drop (b + 1)).flatMap u8s := by
  have e : st = st.take b ++ (st.getD b [] :: st.drop (b + 1)) := by
    rw [List.getD_eq_getElem?_getD, List.getElem?_eq_getElem hb]
    simp
  conv => lhs; rw [e]
  rw [List.flatMap_append, List.flatMap_cons, List.append_assoc]
theorem flat_pre {st : List (List Nat)} (h : ∀ c ∈ st, wf256 c) {b : Nat} (hb : b ≤ st.length) : ((st.take b).flatMap u8s).length = b * 256 := by
  rw [flat_len (s := 256) _ (fun c hc => by rw [u8s_len]; exact (h c (List.mem_of_mem_take hc)).1), List.length_take, Nat.min_eq_left hb]
theorem flat_set {st : List (List Nat)} {b : Nat} (hb : b < st.length) (c : List Nat) : (st.set b c).flatMap u8s = (st.take b).flatMap u8s ++ u8s c ++ (st.drop (b + 1)).flatMap u8s := by
  rw [flat_cut (st := st.set b c) (by rw [List.length_set]; exact hb), List.take_set_of_le (Nat.le_refl _), List.drop_set_of_lt (by omega)]
  congr 2
  simp [List.getD, hb]
theorem DvM.cells {w : World} {own : Owner} {gd gs bm : Nat} {s : Dev} {vw vi : Value} (h : DvM w own gd s gs vw bm vi) {b : Nat} (hb : b < s.st.length) : ∀ c u, (u8s (s.st.getD b []))[c]? = some u → w.cell? ((⟨gs, b * 256, none⟩ : Addr).add c) = some u := fun c u hc => by
  rw [addr_add, h.sto.cell, flat_cut hb, List.append_assoc, List.getElem?_append_right (by rw [flat_pre h.ok.st (Nat.le_of_lt hb)]; omega), flat_pre h.ok.st (Nat.le_of_lt hb), show b * 256 + c - b * 256 = c by omega, List.getElem?_append_left (by
    rcases Nat.lt_or_ge c (u8s (s.st.getD b [])).length with h1 | h1
    · exact h1
    · rw [List.getElem?_eq_none h1] at hc; cases hc)]
  exact hc
/-- A write, in the row of all writes. -/
theorem DvM.wrote {w : World} {own : Owner} {gd gs bm : Nat} {s : Dev} {vw vi : Value} (h : DvM w own gd s gs vw bm vi) {i : Nat} (hi : i < s.wr.length) : ∃ g cap, vw = .slice (some ⟨g, 0, none⟩) s.wr.length cap ∧ own g = .wri ∧ ∀ c u, (wcell (s.wr.getD i d0))[c]? = some u → w.cell? ⟨g, i * 257 + c, none⟩ = some u := by
  obtain ⟨ao, cap, e, h2⟩ := h.wri.shape
  obtain ⟨g, rfl, h3, -, h5⟩ := h2 (by omega)
  refine ⟨g, cap, e, h3, fun c u hu => h5 _ _ (flat_at s.wr (fun e he => wcell_len (h.ok.wr e he).2) i _ c u (by rw [List.getD_eq_getElem?_getD, List.getElem?_eq_getElem hi]; rfl) hu)⟩
set_option maxRecDepth 100000 in
set_option maxHeartbeats 2000000 in
theorem reads_any {w : World} {own : Owner} {gd : Nat} {s : Dev} (h : Dv w own gd s) {b : Nat} (hb : b < s.st.length) :
    Calls Try.prog 24 #[.pointer (some ⟨gd, 0, none⟩), .int .i64 (b : Int)] w fun e w' => e = .returned (.agg (u8s (s.now b)).toArray) ∧ Grow w w' := by
  obtain ⟨gs, vw, bm, vi, h⟩ := h
  have hok := h.ok
  obtain ⟨Z, hZ⟩ : ∃ Z, Z = u8s z256 := ⟨_, rfl⟩
  have hz := z256v
  rw [← hZ] at hz
  have HZL : Hid (Z.length = 256) := by show _ = _; rw [hZ]; rfl
  obtain ⟨W0, hW0⟩ : ∃ W0, W0 = w.alloc (.cells Z.toArray 51) := ⟨_, rfl⟩
  have hG0 : Grow w W0 := by rw [hW0]; exact (But.refl _ w).alloc _
  obtain ⟨g0, hg0⟩ : ∃ g, g = w.heap.size := ⟨_, rfl⟩
  have HB0 : Hid (Blk W0 g0 51 Z) := by show Blk _ _ _ _; rw [hW0]; exact Blk.new hg0.symm
  have h0 := h.but hG0 (fun _ _ h => h)
  have HH := Hid.mk' h0
  obtain ⟨vr, hlk, hrow⟩ := h0.map.look (b := b) (by have := hok.nb; omega)
  have HLK := Hid.mk' (hlk (fun _ => False) W0 (But.refl _ _) (fun h => h))
  have HW0 := Hid.mk' hW0
  have HG0 := Hid.mk' hG0
  have HGE := Hid.mk' hg0
  have HOK := Hid.mk' hok
  have HBN := Hid.mk' hb
  have HWF := Hid.mk' (hok.now hb)
  have c2 : W0.cell? ⟨gd, 2, none⟩ = some (.map (some bm)) := h0.blk.cell 2
  have hbi : (b : Int) < (s.st.length : Int) := by omega
  by_cases he : wb s.wr s.wt b = []
  · have hnow : s.now b = s.st.getD b [] := by unfold Dev.now; rw [he]; rfl
    rw [he] at hrow
    obtain ⟨ao, cap, rfl, -⟩ := hrow.shape
    simp only [List.length_nil] at HLK
    obtain ⟨n, hn⟩ : ∃ n, n = s.st.length := ⟨_, rfl⟩
    have c0 : W0.cell? ⟨gd, 0, none⟩ = some (.slice (some ⟨gs, 0, none⟩) s.st.length s.st.length) := h0.blk.cell 0
    rw [← hn] at c0 hbi
    have HCE := Hid.mk' (h0.cells hb)
    rw [← hnow] at HCE
    obtain ⟨D, hD⟩ : ∃ D, D = s.now b := ⟨_, rfl⟩
    rw [← hD] at HCE HWF ⊢
    have HDL : Hid (D.length = 256) := HWF.out.1
    clear h h0 hok hlk hrow hnow he hb hW0 hg0 hG0 hZ hD hn
    go_enter Try.func24, Try.ntmps24
    go_upto_region 1 with fail
    rw [← HW0.out, ← HGE.out]
    go_upto_region 2 with (first
      | (refine wpList_run rfl (exec_lookup rfl rfl rfl HLK.out) ?_)
      | fail)
    go_wp2_with (first
      | (refine wpList_load_cells rfl _ _ rfl ⟨gs, b * 256, none⟩ rfl (u8s D) _ HCE.out Try.underlying51 rfl (by rw [i256, u8s_len, HDL.out]) ?_)
      | (refine wpList_store_u8s i256 rfl _ _ rfl g0 D HDL.out rfl rfl Z HZL.out HB0.out ?_; intro W9 hb9 hbut9)
      | fail)
    refine bodyPost_ret (results_cell_row rfl _ _ g0 _ _ _ _ rfl hb9 Try.underlying51 rfl (by rw [i256]; simp [HDL.out])) rfl ⟨rfl, ?_⟩
    exact HG0.out.then hbut9 (fun i hi e => by have := HGE.out; omega)
  · obtain ⟨l, i, hl⟩ : ∃ l i, wb s.wr s.wt b = l ++ [i] := ⟨_, _, (List.dropLast_concat_getLast he).symm⟩
    have hnow : s.now b = (s.wr.getD i d0).2 := by unfold Dev.now; rw [hl]; simp
    have hiw : i ∈ wb s.wr s.wt b := by rw [hl]; simp
    have hi : i < s.wr.length := hok.wl i (List.mem_filter.1 hiw).1
    rw [hl] at hrow
    obtain ⟨ao, cap, rfl, hsh⟩ := hrow.shape
    obtain ⟨gr, rfl, hgr, -, hcr⟩ := hsh (by simp)
    obtain ⟨gw, cw, rfl, hgw, hcw⟩ := h0.wrote hi
    obtain ⟨L, hL⟩ : ∃ L, L = l.length := ⟨_, rfl⟩
    have hlen : (l ++ [i]).length = L + 1 := by simp [hL]
    have HLI : Hid (W0.cell? ⟨gr, L, none⟩ = some (.int .i64 (i : Int))) := hcr L _ (by
      unfold ints
      rw [List.map_append, List.getElem?_append_right (by simp [hL])]
      simp [hL])
    rw [hlen] at HLK
    obtain ⟨m, hm⟩ : ∃ m, m = s.wr.length := ⟨_, rfl⟩
    have hiI : (i : Int) < (m : Int) := by omega
    have HCW : Hid (∀ c u, (u8s (s.now b))[c]? = some u → W0.cell? ((⟨gw, i * 257 + 1, none⟩ : Addr).add c) = some u) := fun c u hc => by
      rw [addr_add, show i * 257 + 1 + c = i * 257 + (c + 1) by omega]
      refine hcw (c + 1) u ?_
      rw [hnow] at hc
      unfold wcell
      rw [List.getElem?_cons_succ]; exact hc
    obtain ⟨D, hD⟩ : ∃ D, D = s.now b := ⟨_, rfl⟩
    rw [← hD] at HCW HWF ⊢
    have HDL : Hid (D.length = 256) := HWF.out.1
    have HC1 : Hid (W0.cell? ⟨gd, 1, none⟩ = some (.slice (some ⟨gw, 0, none⟩) m cw)) := by rw [hm]; exact h0.blk.cell 1
    have hL1 : IntKind.i64.wrap (((L + 1 : Nat) : Int) - 1) = (L : Int) := by
      rw [show (((L + 1 : Nat) : Int) - 1) = (L : Int) by omega]
      have h1 := hrow.le
      rw [hlen] at h1
      unfold maxLen at h1
      exact wrap64 _ (by omega) (by omega)
    have hL2 : (L : Int) < ((L + 1 : Nat) : Int) := by omega
    have hL3 : (0 : Int) < ((L + 1 : Nat) : Int) := by omega
    obtain ⟨L1, hL1e⟩ : ∃ L1, L1 = L + 1 := ⟨_, rfl⟩
    rw [← hL1e] at HLK hL1 hL2 hL3
    obtain ⟨N, hN⟩ : ∃ N, N = (u8s D).toArray := ⟨_, rfl⟩
    have HNE := Hid.mk' hN
    clear h h0 hok hlk hrow hnow he hb hW0 hg0 hG0 hZ hD hm hcw hcr hsh hgr hgw hi hiw hl hlen hL hL1e hN
    go_enter Try.func24, Try.ntmps24
    go_upto_region 1 with fail
    rw [← HW0.out, ← HGE.out]
    go_upto_region 2 with (first
      | (refine wpList_run rfl (exec_lookup rfl rfl rfl HLK.out) ?_)
      | fail)
    go_upto_region 3 with fail
    clear c2
    refine region_chain [([0, 1, 2, 3, 4, 5, 6, 7, 8, 9, 10, 11, 12], 13)] [] (Grow W0) (Grow W0) (by kernel_rfl) (by kernel_rfl) (fun _ _ h k => h.trans k) (fun _ h => h) ((But.refl _ W0).drew) ?_
    intro ι hne X hX
    have k1 : ∀ x, (X x).cell? ⟨gd, 1, none⟩ = some (.slice (some ⟨gw, 0, none⟩) m cw) := fun x => grow_cell (hX x) HC1.out
    have k2 : ∀ x, (X x).cell? ⟨gr, L, none⟩ = some (.int .i64 (i : Int)) := fun x => grow_cell (hX x) HLI.out
    iterate 12 (refine still_step rfl (fun K hK => ?_); go_simp; refine hK _ ?_; clear hK K)
    refine still_val rfl (.agg N) rfl (fun x => by rw [HNE.out]; exact run_load_arr Try.underlying51 i256 (fun c u hc => by have := HCW.out c u hc; rw [addr_add] at this ⊢; exact grow_cell (hX x) this) HDL.out rfl rfl) ?_
    intro K hK; go_simp; refine hK _ ?_; clear hK K
    refine still_nil ?_
    clear k1 k2 hX hne
    refine turn_run rfl rfl (fun _ w' => Grow w w' ∧ Blk w' g0 51 (u8s D)) (fun _ _ => True) (fun _ w1 w2 h k => ⟨h.1.trans k, h.2.but k (fun h => h)⟩) (fun _ _ _ => trivial) (.inl (by kernel_rfl)) ?_ ?_
    · intro w1 h1
      have hbz : Blk w1 g0 51 ([] ++ Z ++ []) := by simpa using HB0.out.but h1 (fun h => h)
      refine turn_cells (cs := u8s D) rfl rfl (by show Value.agg N = _; rw [HNE.out]) (by rw [i256, u8s_len, HDL.out]) (u8s_one _) hbz rfl (by rw [HZL.out, u8s_len, HDL.out]) ?_
      intro w2 hb2 hbut2
      refine ⟨(HG0.out.trans h1).then hbut2 (fun j hj e => by have := HGE.out; omega), by simpa using hb2⟩
    · rintro v5 - Y hY
      go_simp
      refine hY _ ?_
      clear hY Y
      intro ι hne X hX
      refine still_nil ?_
      clear hX hne
      rintro w5 ⟨h1, h2⟩
      go_wp2
      refine bodyPost_ret (results_cell_row rfl _ _ g0 _ _ _ _ rfl h2 Try.underlying51 rfl (by rw [i256]; simp [HDL.out])) rfl ⟨rfl, h1⟩
end Go.Proofs.Ytbdmlnmicijnjab
