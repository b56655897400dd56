/- General: numbers behind others, numbers cut; the reference's SameInts. -/
import Derived.Test.YtehajgfjdmhdpaaInts
import Derived.Test.YtehajgfjdmhdpaaCutFrom
import Derived.Deep.Cut
namespace Go.Proofs.Ytehajgfjdmhdpaa
open Go.RowKit

/-- Numbers are put behind an own row of some. -/
theorem exec_appendN {w : World} {o : Oper} {ρ : Operand → Value} {v u : Value} {n : Nat} {xs : List Value} {ks : List Int} {x y : Operand} (ho : o.op = .call { callee := .builtin .append, args := #[x, y], argTypes := #[47, 47] }) (hx : ρ x = v) (hv : w.ownsRow 0 3 1 v n xs) (hy : ρ y = u) (hu : Nums w u ks) (hn : n + ks.length ≤ 1000000) :
    ∃ v' w', (execOp ρ o).run Try.prog w = .ok (.value v') w' ∧ Appd w w' 3 1 v v' (n + ks.length) (xs ++ numv ks) := by
  have key : ∀ (ad : Addr) (c : Nat), u = .slice (some ad) ks.length c → (∀ j z, (numv ks)[j]? = some z → w.cell? (ad.add j) = some z) → ∃ v' w', (execOp ρ o).run Try.prog w = .ok (.value v') w' ∧ Appd w w' 3 1 v v' (n + ks.length) (xs ++ numv ks) := fun ad c e hc =>
    exec_append (news := numv ks) Try.underlying47 infNum rfl (by decide) ho hx hv (hy.trans e) (by simp [numv]) hc (fun z hz => by obtain ⟨k, -, rfl⟩ := List.mem_map.1 hz; rfl) hn (by decide)
  obtain ⟨h1, h2, ⟨rfl, e | ⟨a, cap, e⟩⟩ | ⟨h0, b, off, cap, e, hcap, hb, hc⟩⟩ := hu
  · obtain ⟨i0, hi, hz0, hz1, hz2⟩ := info_parts infNum
    have hrun := run_append_owned_none (P := Try.prog) w 0 47 o.type 3 i0 1 Try.underlying47 hi v n xs hv
    refine ⟨v, w, ?_, ⟨by simpa [numv] using hv, But.refl _ _, .inl rfl, fun k hk => ?_⟩⟩
    · unfold execOp
      simp only [ho, resolve, invoke, builtin, Sem.run_bind, Sem.run_pure, Result.andThen_ok, List.map_toArray, List.map_cons, List.map_nil, hx, hy, e, hrun]
    · obtain ⟨-, ⟨rfl, -⟩ | ⟨g, c, cu, rfl, -, hb, -⟩⟩ := hv
      · cases hk
      · cases hk; exact lt_of_block hb
  · exact key a cap e (fun j z hz => by simp [numv] at hz)
  · refine key ⟨b, off, none⟩ cap e (fun j z hz => ?_)
    have hj : j < ks.length := by
      rcases Nat.lt_or_ge j ks.length with h | h
      · exact h
      · rw [List.getElem?_eq_none (by simpa [numv] using h)] at hz; cases hz
    rw [addr_add, hc j hj, ← hz]
    simp [numv, hj]
/-- An own row of numbers, cut in two. -/
theorem nums_cut {w : World} {v : Value} {ks : List Int} (h : w.ownsRow 0 3 1 v ks.length (numv ks)) (hi : ∀ x ∈ ks, -9223372036854775808 ≤ x ∧ x ≤ 9223372036854775807) (hl : ks.length ≤ 1000000) {a : Nat} (ha : a ≤ ks.length) :
    ∃ lo hi', (∀ w0 : World, (Instr.sliceAt 47 v none (some (.int .i64 (a : Int))) none).run Try.prog w0 = .ok lo w0) ∧ (∀ w0 : World, (Instr.sliceAt 47 v (some (.int .i64 (a : Int))) none none).run Try.prog w0 = .ok hi' w0) ∧ Nums w lo (ks.take a) ∧ Nums w hi' (ks.drop a) := by
  have hcells := h
  obtain ⟨h1, ⟨rfl, h0⟩ | ⟨g, cap, cur, rfl, hg, hh, hcap, hm, r⟩⟩ := h
  · have hk : ks = [] := List.eq_nil_of_length_eq_zero h0
    subst hk
    obtain rfl : a = 0 := by simpa using ha
    refine ⟨.slice none 0 0, .slice none 0 0, fun w0 => by kernel_rfl, fun w0 => by kernel_rfl, ⟨(fun x hx => by simp at hx), by simp, .inl ⟨rfl, .inl rfl⟩⟩, ⟨(fun x hx => by simp at hx), by simp, .inl ⟨rfl, .inl rfl⟩⟩⟩
  · obtain ⟨A, c, hcut, hA, hcc⟩ := cut_from (T := 47) (e := 3) (sz := 1) i64slice (by kernel_rfl) (fun w0 => by kernel_rfl) (b := g) (n := ks.length) (cap := cap) (k := a) ha hcap
    have hcell : ∀ i, i < ks.length → w.cell? ⟨g, i, none⟩ = some (.int .i64 (ks.getD i 0)) := fun i hi => by
      have h2 := hcells.cells (g := g) rfl i (.int .i64 (ks.getD i 0)) (by simp [numv, hi])
      have e : (⟨g, 0, none⟩ : Addr).add i = ⟨g, 0 + i, none⟩ := addr_add g 0 i
      rw [e, Nat.zero_add] at h2
      exact h2
    refine ⟨.slice (some ⟨g, 0, none⟩) a cap, _, fun w0 => ?_, hcut, ⟨fun x hx => hi x (List.mem_of_mem_take hx), by rw [List.length_take]; omega, ?_⟩, ⟨fun x hx => hi x (List.mem_of_mem_drop hx), by rw [List.length_drop]; omega, ?_⟩⟩
    · rw [run_sliceAt_slice _ _ _ _ _ _ i64slice, run_slice_h w0 _ _ _ _ i64slice .i64 (a : Int) (by omega) (by omega), show Try.prog.elem 47 = 3 by kernel_rfl, show (sizeOf 3).run Try.prog w0 = .ok 1 w0 by kernel_rfl]
      simp [sliced, Result.andThen, Addr.add]
    · by_cases h0 : a = 0
      · subst h0
        exact .inl ⟨by simp, .inr ⟨_, _, rfl⟩⟩
      · refine .inr ⟨by rw [List.length_take]; omega, g, 0, cap, by rw [List.length_take, Nat.min_eq_left ha], by rw [List.length_take]; omega, lt_of_block hh, fun i hi => ?_⟩
        rw [List.length_take] at hi
        rw [Nat.zero_add, hcell i (by omega), List.getD_eq_getElem?_getD, List.getD_eq_getElem?_getD, List.getElem?_take, if_pos (by omega)]
    · by_cases h0 : a < ks.length
      · rw [hA h0]
        refine .inr ⟨by rw [List.length_drop]; omega, g, a * 1, c, by rw [List.length_drop], ?_, lt_of_block hh, fun i hi => ?_⟩
        · rw [List.length_drop]; omega
        · rw [List.length_drop] at hi
          rw [Nat.mul_one, hcell (a + i) (by omega), List.getD_eq_getElem?_getD, List.getD_eq_getElem?_getD, List.getElem?_drop]
      · rw [show ks.length - a = 0 by omega]
        exact .inl ⟨by rw [List.drop_eq_nil_iff]; omega, .inr ⟨_, _, rfl⟩⟩
set_option maxRecDepth 100000 in
set_option maxHeartbeats 1000000 in
theorem sameints_any {w : World} {v u : Value} {xs ys : List Int} (hv : Nums w v xs) (hu : Nums w u ys) : Calls Try.prog 18 #[v, u] w fun e w' => e = .returned (.bool (decide (xs = ys))) ∧ Grow w w' := by
  obtain ⟨a1, c1, rfl⟩ := hv.len
  obtain ⟨a2, c2, rfl⟩ := hu.len
  have HV := Hid.mk' hv
  have HU := Hid.mk' hu
  obtain ⟨n, hn⟩ : ∃ n, n = xs.length := ⟨_, rfl⟩
  obtain ⟨m, hm⟩ : ∃ m, m = ys.length := ⟨_, rfl⟩
  have hnb : (n : Int) ≤ 140737488355328 := by have := hv.2.1; omega
  rw [← hn] at HV ⊢
  rw [← hm] at HU ⊢
  have HN := Hid.mk' hn
  have HM := Hid.mk' hm
  obtain ⟨eb, heb⟩ : ∃ eb, eb = decide (xs = ys) := ⟨_, rfl⟩
  rw [← heb]
  have HEB := Hid.mk' heb
  clear hv hu hn hm heb
  by_cases hnm : n = m
  · subst hnm
    go_enter Try.func18, Try.ntmps18
    go_wp2
    go_loopw [5] (fun iv wr => ∃ i : Nat, i ≤ n ∧ iv = .int .i64 i ∧ (∀ j, j < i → xs.getD j 0 = ys.getD j 0) ∧ Grow w wr) (fun iv _ => n - (intOf iv).toNat)
    case atStart => exact ⟨0, Nat.zero_le _, rfl, fun j hj => absurd hj (by omega), But.refl _ _⟩
    case round =>
      obtain ⟨i, hin, rfl, hne, hg⟩ := hrel
      have HNE := Hid.mk' hne
      have HG := Hid.mk' hg
      clear hne hg
      by_cases hlt : i < n
      · have hlti : (i : Int) < (n : Int) := by omega
        obtain ⟨b1, o1, k1, e1, -, -, hc1⟩ := HV.out.at (by have := HN.out; omega)
        obtain ⟨b2, o2, k2, e2, -, -, hc2⟩ := HU.out.at (by have := HM.out; omega)
        simp only [Value.slice.injEq] at e1 e2
        obtain ⟨rfl, -, rfl⟩ := e1
        obtain ⟨rfl, -, rfl⟩ := e2
        have HC1 := Hid.mk' (hc1 i (by have := HN.out; omega))
        have HC2 := Hid.mk' (hc2 i (by have := HM.out; omega))
        obtain ⟨x, hx⟩ : ∃ x, x = xs.getD i 0 := ⟨_, rfl⟩
        obtain ⟨y, hy⟩ : ∃ y, y = ys.getD i 0 := ⟨_, rfl⟩
        rw [← hx] at HC1
        rw [← hy] at HC2
        have HX := Hid.mk' hx
        have HY := Hid.mk' hy
        clear hc1 hc2 hx hy
        go_upto_region 6 with fail
        refine region_chain [] [0, 1, 2, 3, 4, 5, 6, 7, 8] (Grow w) (Grow w) (by kernel_rfl) (by kernel_rfl) (fun _ _ h k => h.trans k) (fun _ h => h) (HG.out.drew) ?_
        intro ι hne X hX
        have d0 : ∀ z, (X z).cell? ⟨b1, o1 + i, none⟩ = some (.int .i64 x) := fun z => grow_cell (hX z) HC1.out
        have d1 : ∀ z, (X z).cell? ⟨b2, o2 + i, none⟩ = some (.int .i64 y) := fun z => grow_cell (hX z) HC2.out
        iterate 9 (refine still_step rfl (fun K hK => ?_); go_simp; refine hK _ ?_; clear hK K)
        refine still_nil ?_
        clear hX hne d0 d1
        intro w2 hw2
        have HW2 := Hid.mk' hw2
        clear hw2 HC1 HC2
        by_cases hxy : x = y
        · have hxb : (x != y) = false := by simpa using hxy
          have HST : Hid (∀ j, j < i + 1 → xs.getD j 0 = ys.getD j 0) := fun j hj => by
            by_cases e : j = i
            · rw [e, ← HX.out, ← HY.out, hxy]
            · exact HNE.out j (by omega)
          clear hxy
          go_wp2
          exact ⟨⟨i + 1, by omega, by go_num, HST.out, HW2.out⟩, by simp [intOf]; omega⟩
        · have hxb : (x != y) = true := by simpa using hxy
          have HF : Hid (eb = false) := by
            show _ = _
            rw [HEB.out]
            refine decide_eq_false (fun e => hxy ?_)
            rw [HX.out, HY.out, e]
          clear hxy
          go_wp2
          go_ret
          exact ⟨congrArg (fun b => Ending.returned (.bool b)) HF.out.symm, HW2.out⟩
      · have hlti : ¬ ((i : Int) < (n : Int)) := by omega
        have HT : Hid (eb = true) := by
          show _ = _
          rw [HEB.out]
          refine decide_eq_true (List.ext_getElem? (fun j => ?_))
          have hlx := HN.out
          have hly := HM.out
          by_cases hj : j < n
          · have := HNE.out j (by omega)
            rw [List.getD_eq_getElem?_getD, List.getD_eq_getElem?_getD, List.getElem?_eq_getElem (by omega), List.getElem?_eq_getElem (by omega)] at this
            rw [List.getElem?_eq_getElem (by omega), List.getElem?_eq_getElem (by omega)]
            simpa using this
          · rw [List.getElem?_eq_none (by omega), List.getElem?_eq_none (by omega)]
        go_wp2
        go_ret
        exact ⟨congrArg (fun b => Ending.returned (.bool b)) HT.out.symm, HG.out⟩
  · have hnb : ((n : Int) != (m : Int)) = true := by
      have : (n : Int) ≠ (m : Int) := by omega
      simpa using this
    have HF : Hid (eb = false) := by
      show _ = _
      rw [HEB.out]
      refine decide_eq_false (fun e => hnm ?_)
      rw [HN.out, HM.out, e]
    clear hnm
    go_enter Try.func18, Try.ntmps18
    go_wp2
    go_ret
    exact ⟨congrArg (fun b => Ending.returned (.bool b)) HF.out.symm, But.refl _ _⟩
end Go.Proofs.Ytehajgfjdmhdpaa
